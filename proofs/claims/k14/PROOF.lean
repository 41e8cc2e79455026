import PyProof.Rows.All
import Wide.All
import OpenK.AllK
import Wide.FinOn
import HandS.ForMost
import HandS.TupLe
import HandS.IsInst
import HandS.Wide
import HandS.Walk
import HandS.Gcd
import HandS.Codes
import HandS.Style
import KE.KMathG
import HandS.NoneIn
import HandS.CallLocal
import HandS.IterVal
import HandS.TupSets
import HandS.Iter
import PyProof.MinMaxWalk
import HandS.SetKeys
import PyProof.DictMoreH
import HandS.SortRule
import HandS.Comp
import PyProof.Rows.TupDisplay
import KE.KRevSl
import KE.DataMinMax
import KE.SortData
import HandS.Deep
import HandS.DictComp
import HandS.TupLen
import HandS.Records
import HandS.List
import HandS.OwnEq
import HandS.MakeKwOnly
import KE.GoesEnum
import KE.KNestM
import KE.KLam
import HandS.Small
import HandS.Conv
import HandS.Words
import KE.DataEq
import PySem.Challenge.RW_nearcells_k14_papers_for_edges
set_option Elab.async false
set_option linter.all false
set_option maxRecDepth 100000
set_option maxHeartbeats 4000000
/-! Own rules: min and max of two things that are compared by the heap (pairs); a call by keywords alone. -/
namespace Nc
open PySem PySem.Spec PyProof.Rows L2
section
variable {prog : Program} {w : World} {A : Around} {E : Value → Shared → Prop} {s : Shared} {va vb : Value} {k : Bool}
/-- all that stood before stands -/
abbrev KeepH (h h' : Heap) : Prop := ∀ c o, h.get? c = some o → h'.get? c = some o
end
/-! ### min(t, u), max(t, u) of two tuples of ints -/
/-- t < u by the model's own look from place to place -/
def lexP (lt : Int → Int → Bool) (e : Bool) (ns ms : List Int) : Bool := Ob.lexAt (fun j => decide (ns.getD j 0 = ms.getD j 0)) (fun j => lt (ns.getD j 0) (ms.getD j 0)) e 0 (min ns.length ms.length)
/-! ### f(k = v, ..), keywords alone -/
section
variable {X : Cx} {CX : CXT} {k : Nat} {f : Addr} {fd : FuncData} {ps ks : List Str} {sp : Sp} {x : Str} {p pos : Pos} {E : XK} {tk : TA} {kws : List Keyword} {g : List Value → List Value → List Value} {gV : List V → List V → List V}
theorem pe_callKw (F : FnOk X.prog X.w X.K X.mg X.base CX k f fd ps sp) (hr : Room k X.A) (hg : Gl X x) (hm : X.mg x = some (.ref f)) (hk : PySem.W.keepIn X.K (.ref f) = true) (hb : KBinds X.K fd ps ks g gV) (hx : Passes CX X E)
    (hkw : PK X kws tk) (hall : (backToKw pos (keywordEach kws X.env)).all (·.1.isSome) = true := by rfl) (hks : (backToKw pos (keywordEach kws X.env)).filterMap (·.1) = ks := by rfl)
    (hdb : (x == ("__debug__" : Str)) = false := by decide) (hpl : ((backTo pos (starEach [] X.env)).any (·.1) || (backToKw pos (keywordEach kws X.env)).any (·.1.isNone)) = false := by rfl) :
    PE X (.Call (.Name x p) [] kws pos) (fun σ H Q => tk σ H fun zs H2 => sp (gV [] zs) H2 Q E) := by
  refine ⟨fun pins s σ H Q I h => ?_⟩
  refine wpAny_Call_Name_kw (ld_glob I hg hm ?_ hdb)
  refine PySem.W.callWith_KW0 (h₀ := X.base) I.ok.mod.kin hk hall (thn (hkw.run pos pins s σ H _ I h) fun ws s2 ⟨zs, H2, I2, rz, q2⟩ => ⟨I2.kIn, ?_⟩) hpl
  rw [hks]
  exact run_fnk (us := []) (vs := []) F hr hb hx I2 .nil rz q2
end
/-! ### what a source is, and what a step leaves -/
/-- a source at s: three ints -/
def Src (H : Hp) (s : Addr) : Prop := ∃ a b c : Int, H s = some (.lst [.int a, .int b, .int c])
theorem Src.ne {H : Hp} {s p : Addr} {o : HO} (h : Src H s) (e : H p = some o) (d : ∀ a b c : Int, o ≠ .lst [.int a, .int b, .int c]) : p ≠ s := by
  obtain ⟨a, b, c, q⟩ := h
  exact ne_of e q (d a b c)
theorem Src.nen {H : Hp} {s p : Addr} (h : Src H s) (e : H p = none) : p ≠ s := by
  obtain ⟨a, b, c, q⟩ := h
  exact (ne_of_none q e).symm
/-- from H to H' all stands but the source at s, which is still one -/
structure Stp (s : Addr) (H H' : Hp) : Prop where
  keep : ∀ b o, b ≠ s → H b = some o → H' b = some o
  src : Src H' s
theorem Stp.refl {s : Addr} {H : Hp} (h : Src H s) : Stp s H H := ⟨fun _ _ _ e => e, h⟩
theorem Stp.trans {s : Addr} {H H1 H2 : Hp} (a : Stp s H H1) (b : Stp s H1 H2) : Stp s H H2 := ⟨fun c o n e => b.keep c o n (a.keep c o n e), b.src⟩
theorem Stp.new {s : Addr} {H H' : Hp} {p : Addr} {o : HO} (a : Stp s H H') (n : H' p = none) : Stp s H (upd H' p o) := by
  obtain ⟨x, y, z, e⟩ := a.src
  refine ⟨fun b u nb eb => ?_, x, y, z, ?_⟩
  · have q := a.keep b u nb eb
    rw [upd_ne (ne_of_none q n)]
    exact q
  · rw [upd_ne (ne_of_none e n)]
    exact e
theorem Stp.turn {s : Addr} {H H' : Hp} (a : Stp s H H') (x y z : Int) : Stp s H (upd H' s (.lst [.int x, .int y, .int z])) :=
  ⟨fun b u nb eb => by rw [upd_ne nb]; exact a.keep b u nb eb, x, y, z, upd_same⟩
theorem Stp.free {s p : Addr} {H H' : Hp} (a : Stp s H H') (n : H' p = none) : H p = none := by
  cases q : H p with
  | none => rfl
  | some o =>
    have np : p ≠ s := a.src.nen n
    rw [a.keep _ _ np q] at n
    cases n
theorem Stp.set {s : Addr} {H H' : Hp} {p : Addr} {o : HO} (a : Stp s H H') (n : H p = none) (np : p ≠ s) : Stp s H (upd H' p o) := by
  obtain ⟨x, y, z, e⟩ := a.src
  refine ⟨fun b u nb eb => ?_, x, y, z, ?_⟩
  · rw [upd_ne (ne_of_none eb n)]
    exact a.keep b u nb eb
  · rw [upd_ne np.symm]
    exact e
/-- a site at t -/
def Sit (H : Hp) (t : Addr) (x y : Int) : Prop := H t = some (.tup [.int x, .int y])
theorem Sit.ne {H : Hp} {s t : Addr} {x y : Int} (h : Sit H t x y) (q : Src H s) : t ≠ s := q.ne h fun _ _ _ z => by cases z
theorem Sit.stp {H H' : Hp} {s t : Addr} {x y : Int} (h : Sit H t x y) (q : Src H s) (a : Stp s H H') : Sit H' t x y := a.keep _ _ (h.ne q) h
theorem Sit.same {H H' : Hp} {t : Addr} {x y : Int} (h : Sit H t x y) (a : Same H H') : Sit H' t x y := a _ _ h
theorem b2i_small (b : Bool) : -(2 ^ 64) < (if b = true then (1 : Int) else 0) ∧ (if b = true then (1 : Int) else 0) < 2 ^ 64 := by cases b <;> decide
theorem sm {m : Int} (h : m.natAbs < 2 ^ 64) : m.natAbs < 2 ^ 8000 := Nat.lt_of_lt_of_le h (Nat.pow_le_pow_right (by decide) (by decide))
theorem Same.upd {H : Hp} {p : Addr} {o : HO} (h : H p = none) : Same H (upd H p o) := fun b x e => by
  rw [upd_ne (ne_of_none e h)]
  exact e
theorem Stp.same {s : Addr} {H H1 H2 : Hp} (a : Stp s H H1) (b : Same H1 H2) : Stp s H H2 := by
  obtain ⟨x, y, z, e⟩ := a.src
  exact ⟨fun c o n q => b _ _ (a.keep c o n q), x, y, z, b _ _ e⟩
/-! ### ** 2 and // of great numbers, of either sign -/
def CSq (i j : Int) : Prop := j = 2 ∧ i.natAbs < 2 ^ 1000
theorem op_sq {X : Cx} : OpR X (binaryOp .Pow) (rI CSq fun i _ => .int (i * i)) := opI fun i j _ _ _ _ _ hc q => by
  obtain ⟨rfl, hb⟩ := hc
  refine pow_int (by decide) ?_ (by rw [show i ^ (2 : Int).toNat = i * i from Int.pow_succ i 1 ▸ by rw [Int.pow_one]]; exact q)
  have b : Builtin.Int.intBits i ≤ i.natAbs.log2 + 1 := by
    unfold Builtin.Int.intBits
    split <;> omega
  have l := PySem.Flt.log2_lt_of (by decide : 0 < 1000) hb
  omega
def CDivE (_ j : Int) : Prop := j ≠ 0 ∧ j.natAbs < 2 ^ 8000
theorem op_fdivE {X : Cx} : OpR X (binaryOp .FloorDiv) (rI CDivE fun i j => .int (i.fdiv j)) := opI fun i j _ _ _ _ _ hc q =>
  floordiv_int hc.1 q (.inl (PyProof.noPylong_of_log2 (Nat.lt_of_lt_of_le (PySem.Flt.log2_lt_of (by decide) hc.2) (by decide))))
/-! ### readings made weaker -/
theorem peOf {X : Cx} {e : Expr} {t t' : TE} (h : PE X e t) (m : ∀ σ H Q, t' σ H Q → t σ H Q) : PE X e t' := ⟨fun pins s σ H Q I hw => h.run pins s σ H Q I (m σ H Q hw)⟩
theorem paOf {X : Cx} {es : List Expr} {t t' : TA} (h : PA X es t) (m : ∀ σ H Q, t' σ H Q → t σ H Q) : PA X es t' := ⟨fun pos pins s σ H Q I hw => h.run pos pins s σ H Q I (m σ H Q hw)⟩
/-- a written number with a minus -/
theorem pe_neg {X : Cx} {i : Int} {j : Nat} {p p2 : Pos} : PE X (.UnaryOp .USub (.Constant (.int i) j p) p2) (tC (.int (-i))) := peOf (pe_un un_neg pe_int) fun _ _ _ h => ⟨_, rfl, h⟩
/-! ### displays of sites -/
def Bd (b x y : Int) : Prop := -b ≤ x ∧ x ≤ b ∧ -b ≤ y ∧ y ≤ b
theorem Bd.mono {b c x y : Int} (h : Bd b x y) (l : b ≤ c) : Bd c x y := by
  obtain ⟨h1, h2, h3, h4⟩ := h
  exact ⟨by omega, by omega, by omega, by omega⟩
/-- every address of ps a site within b -/
def Sits (b : Int) (H : Hp) (ps : List Addr) : Prop := ∀ p ∈ ps, ∃ x y, Sit H p x y ∧ Bd b x y
theorem Sits.same {b : Int} {H H' : Hp} {ps : List Addr} (h : Sits b H ps) (a : Same H H') : Sits b H' ps := fun p m => by
  obtain ⟨x, y, e, d⟩ := h p m
  exact ⟨x, y, a _ _ e, d⟩
theorem Sits.stp {b : Int} {s : Addr} {H H' : Hp} {ps : List Addr} (h : Sits b H ps) (q : Src H s) (a : Stp s H H') : Sits b H' ps := fun p m => by
  obtain ⟨x, y, e, d⟩ := h p m
  exact ⟨x, y, e.stp q a, d⟩
theorem Sits.put {b : Int} {H : Hp} {ps : List Addr} {p : Addr} {o : HO} (h : Sits b H ps) (n : ∀ x y, H p ≠ some (.tup [.int x, .int y])) : Sits b (upd H p o) ps := fun r m => by
  obtain ⟨x, y, e, d⟩ := h r m
  refine ⟨x, y, ?_, d⟩
  show upd H p o r = _
  rw [upd_ne (fun z => n x y (by rw [← z]; exact e))]
  exact e
def tSit (b : Int) : TE := fun _ H Q => ∀ (p : Addr) H' (x y : Int), Same H H' → H p = none → Sit H' p x y → Bd b x y → Q (.ref p) H'
def tSits (b : Int) (n : Nat) : TA := fun _ H Q => ∀ (ps : List Addr) H', Same H H' → ps.length = n → Sits b H' ps → Q (ps.map V.ref) H'
theorem two_line : 2 ≤ sizeLine := by decide
theorem pe_sit {X : Cx} {e1 e2 : Expr} {k : Nat} {pos : Pos} {x y b : Int} (h : PA X [e1, e2] (tCons (tC (.int x)) (tCons (tC (.int y)) tNil))) (hb : Bd b x y) : PE X (.Tuple [e1, e2] k pos) (tSit b) :=
  peOf (pe_tup h) fun _ H Q q => ⟨two_line, fun p np => q p _ x y (Same.upd np) np upd_same hb⟩
theorem sits_nil {b : Int} : ∀ σ H Q, tSits b 0 σ H Q → tNil σ H Q := fun _ H Q q => q [] H (Same.refl _) rfl (fun _ m => nomatch m)
theorem sits_cons {b : Int} {n : Nat} : ∀ σ H Q, tSits b (n + 1) σ H Q → tCons (tSit b) (tSits b n) σ H Q := fun _ H Q q p H1 x y s1 _ e d ps H2 s2 l h => by
  refine q (p :: ps) H2 (s1.trans s2) (by rw [List.length_cons, l]) fun r m => ?_
  rcases List.mem_cons.mp m with rfl | m
  · exact ⟨x, y, s2 _ _ e, d⟩
  · exact h r m
theorem pa_sits0 {X : Cx} {b : Int} : PA X [] (tSits b 0) := paOf pa_nil sits_nil
theorem pa_sits {X : Cx} {e : Expr} {es : List Expr} {b : Int} {n : Nat} (h : PE X e (tSit b)) (hs : PA X es (tSits b n)) (st : starEach (e :: es) X.env = (false, eval e X.env) :: starEach es X.env := by rfl) : PA X (e :: es) (tSits b (n + 1)) := paOf (pa_cons h hs st) sits_cons
end Nc
/-! Own rules: math.gcd of three ints. -/
namespace Nc
open PySem PySem.Spec PyProof.Rows L2
end Nc
/-! Own rules: small steps that answer what a term asks: used by the local macros of walk.txt. -/
namespace Nc
open PySem PySem.Spec PyProof.Rows L2
section
variable {K : PySem.W.Frag} {H : Hp} {Q : VK} {p q : Addr} {xs ys : List V} {i j : Int} {v x y : V}
theorem w_itt {p A B : Prop} [Decidable p] (h : p) (a : A) : if decide p = true then A else B := by
  rw [decide_eq_true h, if_pos rfl]
  exact a
theorem w_itf {p A B : Prop} [Decidable p] (h : ¬ p) (b : B) : if decide p = true then A else B := by
  rw [decide_eq_false h, if_neg (by decide)]
  exact b
theorem w_ntt {p A B : Prop} [Decidable p] (h : p) (b : B) : if (!decide p) = true then A else B := by
  rw [decide_eq_true h, if_neg (by decide)]
  exact b
theorem w_ntf {p A B : Prop} [Decidable p] (h : ¬ p) (a : A) : if (!decide p) = true then A else B := by
  rw [decide_eq_false h, if_pos (by decide)]
  exact a
theorem w_ifd {p A B : Prop} [Decidable p] (h1 : p → A) (h2 : ¬ p → B) : if decide p = true then A else B := by
  by_cases h : p
  · exact w_itt h (h1 h)
  · exact w_itf h (h2 h)
end
/-! bits -/
theorem nbm {a b : Int} {k : Nat} (ha : a.natAbs < 2 ^ (k / 2)) (hb : b.natAbs < 2 ^ (k / 2)) : (a * b).natAbs < 2 ^ k := by
  have h : a.natAbs * b.natAbs < 2 ^ (k / 2) * 2 ^ (k / 2) := Nat.mul_lt_mul'' ha hb
  rw [Int.natAbs_mul]
  rw [← Nat.pow_add] at h
  exact Nat.lt_of_lt_of_le h (Nat.pow_le_pow_right (by decide) (by omega))
theorem nba {a b : Int} {k : Nat} (h : 0 < k) (ha : a.natAbs < 2 ^ (k - 1)) (hb : b.natAbs < 2 ^ (k - 1)) : (a + b).natAbs < 2 ^ k := by
  obtain ⟨m, rfl⟩ : ∃ m, k = m + 1 := ⟨k - 1, by omega⟩
  rw [Nat.add_sub_cancel] at ha hb
  rw [Nat.pow_succ]
  omega
theorem nbs {a b : Int} {k : Nat} (h : 0 < k) (ha : a.natAbs < 2 ^ (k - 1)) (hb : b.natAbs < 2 ^ (k - 1)) : (a - b).natAbs < 2 ^ k := by
  obtain ⟨m, rfl⟩ : ∃ m, k = m + 1 := ⟨k - 1, by omega⟩
  rw [Nat.add_sub_cancel] at ha hb
  rw [Nat.pow_succ]
  omega
theorem nbn {a : Int} {k : Nat} (ha : a.natAbs < 2 ^ k) : (-a).natAbs < 2 ^ k := by rwa [Int.natAbs_neg]
theorem nbu {a : Int} {j k : Nat} (ha : a.natAbs < 2 ^ j) (h : j ≤ k) : a.natAbs < 2 ^ k := Nat.lt_of_lt_of_le ha (Nat.pow_le_pow_right (by decide) h)
theorem nbd {a b : Int} {k : Nat} (ha : a.natAbs < 2 ^ k) : (a.fdiv b).natAbs < 2 ^ (k + 1) := by
  rw [Nat.pow_succ]
  have h := ha
  rcases Int.lt_trichotomy b 0 with hb | hb | hb
  · have e : a.fdiv b = (-a).fdiv (-b) := (Int.neg_fdiv_neg a b).symm
    rw [e, Int.fdiv_eq_ediv_of_nonneg _ (by omega)]
    have := Int.natAbs_ediv_le_natAbs (-a) (-b)
    omega
  · subst hb
    rw [Int.fdiv_zero]
    omega
  · rw [Int.fdiv_eq_ediv_of_nonneg _ (by omega)]
    have := Int.natAbs_ediv_le_natAbs a b
    omega
theorem cmw {a b : Int} (ha : a.natAbs < 2 ^ 8000) (hb : b.natAbs < 2 ^ 8000) : CMulW a b := wide_mul ha hb (by decide) (by decide) (by decide)
end Nc
/-! Own rules: a def of the text with all that a caller needs, in one. -/
namespace Nc
open PySem PySem.Spec PyProof.Rows L2
/-- the def x as it stands behind the top -/
structure Df (K : PySem.W.Frag) (mg : Str → Option Value) (x : Str) (st : Stmt) (ps : List Str) : Prop where
  ex : ∃ (f : Addr) (fd : FuncData), Fun K x x st f fd ∧ mg x = some (.ref f) ∧ PySem.W.keepIn K (.ref f) = true ∧ Binds K fd ps []
/-- the def x keeps its promise -/
structure Cl (P : Program) (w : World) (K : PySem.W.Frag) (mg : Str → Option Value) (base : Heap) (CX : CXT) (x : Str) (k : Nat) (ps : List Str) (sp : Sp) : Prop where
  ex : ∃ (f : Addr) (fd : FuncData), FnOk P w K mg base CX k f fd ps sp ∧ mg x = some (.ref f) ∧ PySem.W.keepIn K (.ref f) = true ∧ Binds K fd ps []
section
variable {P : Program} {w : World} {K : PySem.W.Frag} {mg : Str → Option Value} {base : Heap} {CX : CXT} {x : Str} {k : Nat} {ps : List Str} {sp : Sp} {st : Stmt}
theorem Df.mk' {f : Addr} {fd : FuncData} (F : Fun K x x st f fd) (g : mg x = some (.ref f)) (k : PySem.W.keepIn K (.ref f) = true) (b : Binds K fd ps []) : Df K mg x st ps := ⟨f, fd, F, g, k, b⟩
theorem Df.cl (D : Df K mg x st ps) (h : ∀ f fd, Fun K x x st f fd → FnOk P w K mg base CX k f fd ps sp) : Cl P w K mg base CX x k ps sp := by
  obtain ⟨f, fd, F, g, kk, b⟩ := D.ex
  exact ⟨f, fd, h f fd F, g, kk, b⟩
theorem Cl.imp {sp' : Sp} (C : Cl P w K mg base CX x k ps sp) (h : ∀ vs H Q E, sp' vs H Q E → sp vs H Q E) : Cl P w K mg base CX x k ps sp' := by
  obtain ⟨f, fd, F, g, kk, b⟩ := C.ex
  exact ⟨f, fd, F.imp h, g, kk, b⟩
theorem Cl.up {j : Nat} (C : Cl P w K mg base CX x j ps sp) (h : j ≤ k) : Cl P w K mg base CX x k ps sp := by
  obtain ⟨f, fd, F, g, kk, b⟩ := C.ex
  exact ⟨f, fd, F.mono h, g, kk, b⟩
end
section
variable {X : Cx} {CX : CXT} {k : Nat} {ps : List Str} {sp : Sp} {E : XK} {x : Str} {p pos : Pos} {e : Expr} {es : List Expr} {t : TA}
theorem pe_cl (C : Cl X.prog X.w X.K X.mg X.base CX x k ps sp) (hr : Room k X.A) (hg : Gl X x) (hx : Passes CX X E) (ha : PA X (e :: es) t) (hdb : (x == ("__debug__" : Str)) = false := by decide) (he : starEach (e :: es) X.env = (false, eval e X.env) :: starEach es X.env := by rfl) (hpl : (backTo pos (starEach es X.env)).any (·.1) = false := by rfl) :
    PE X (.Call (.Name x p) (e :: es) [] pos) (tCall sp [] E t) := by
  obtain ⟨f, fd, F, g, kk, b⟩ := C.ex
  exact pe_call F hr hg g kk b .nil hx ha hdb he hpl
end
/-! ### tuples of ints that are compared -/
section
theorem int_at {zs : List Int} {i : Nat} {x : V} (h : (zs.map V.int)[i]? = some x) : ∃ z, zs[i]? = some z ∧ x = .int z := by
  rw [List.getElem?_map] at h
  obtain ⟨z, e, e2⟩ := Option.map_eq_some_iff.mp h
  exact ⟨z, e, e2.symm⟩
end
end Nc
/-! Own rules: sets of tuples of ints: set(), t in s (not there), s.add(t), len(s). -/
namespace Nc
open PySem PySem.Spec PyProof.Rows L2
section
variable {P : Program} {w : World} {A : Around} {E : Value → Shared → Prop} {s : Shared} {a : Addr} {L : List (Addr × List Int)} {es : Array (Int × Value)} {ep : Nat} {t : SetTable}
/-- s.add(t) -/
theorem adds (R : SetTR P w s.heap a L es ep t) {x : Addr} {k : List Int} (hx : IsT P w s.heap k x) (room : A.units + 1 < cLine) (few : L.length + 1 < 64) {Q : Value → Shared → Prop}
    (q : ∀ h' L' es' ep' t' tk, Heap.SameBut a s.heap h' → SetTR P w h' a L' es' ep' t' → (k ∈ L.map (·.2) → L' = L) → (k ∉ L.map (·.2) → L'.Perm ((x, k) :: L)) → Q .none { s with heap := h', toks := tk }) :
    wpAny (model P w) A (call (.builtin "set.add") [.ref a, .ref x]) Q E s := by
  have ty : s.TypeIs (.ref a) "set" := let ⟨o, ho, hc, _⟩ := R.ob; ⟨o, ho, hc.1⟩
  refine wpAny_call_entry F.slot_set_add ty F.entry_set_add ?_ (F.args_set_add_2 _ _)
  unfold Builtin.«set.add» Builtin.Frozenset.oneOther; simp only [List.isEmpty_nil, bind_assoc]; unfold Builtin.Frozenset.addrOf setAdd
  refine wpAny_bind (wpAny_pure ?_); (try dsimp only); refine wpAny_bind (wpAny_pure ?_); (try dsimp only); refine wpAny_bind (wpAny_holding ?_)
  refine wpAny_bind (wpAny_pyHash_tuple (by exact room) hx ?_)
  refine add_at (s := { s with toks := s.toks + (k.length + 1) }) ⟨R.ob, R.rows, R.tab, R.nd, R.tup, R.plain, R.led, R.room, R.few⟩ hx (by exact room) few fun b h' L' es' ep' t' sb R' c1 c2 => ?_
  show wpAny _ _ (ret Value.none) _ _ _
  exact wpAny_pure ⟨_, rfl, q h' L' es' ep' t' _ sb R' c1 c2⟩
end
end Nc
/-! Own rules: min(d), d a dict with pairs of ints as keys; d.setdefault(t, x) of such. -/
namespace Nc
open PySem PySem.Spec PyProof.Rows L2
/-- t < u of two tracked tuples, in any state that keeps what stood -/
theorem tup_less {X : Cx} {s s2 : Shared} {pins : List (Addr × Obj)} {σ : L2.St} {H : Hp} {a b : Addr} {ns ms : List Int} (I : L2.Inv X pins σ H s) (ha : H a = some (.tup (ns.map V.int))) (hb : H b = some (.tup (ms.map V.int))) (hu : X.A.units + 1 < cLine) (kp : KeepH s.heap s2.heap) :
    Ob.RcOp .Lt X.A.in1 s2 (.ref a) (.ref b) (lexP (fun x y => decide (x < y)) (decide (ns.length < ms.length)) ns ms) := by
  obtain ⟨us, r1, ⟨o1, g1, c1, n1, d1⟩, _⟩ := I.tuple (SqT.of ha)
  obtain ⟨vs, r2, ⟨o2, g2, c2, n2, d2⟩, _⟩ := I.tuple (SqT.of hb)
  have i1 : IntsAre us ns := Vals.ints r1
  have i2 : IntsAre vs ms := Vals.ints r2
  have at1 : ∀ j (h1 : j < us.toArray.size), ∃ t, us.toArray[j] = .int (ns.getD j 0) t := fun j h1 => IntsAre.int_at i1 _ _ (by simp at h1; simp [h1])
  have at2 : ∀ j (h1 : j < vs.toArray.size), ∃ t, vs.toArray[j] = .int (ms.getD j 0) t := fun j h1 => IntsAre.int_at i2 _ _ (by simp at h1; simp [h1])
  have R := Ob.RcOp.tuples_lt (A := X.A.in1) (s := s2) (e := fun j => decide (ns.getD j 0 = ms.getD j 0)) (r := fun j => decide (ns.getD j 0 < ms.getD j 0)) ⟨o1, kp _ _ g1, c1, n1, d1⟩ ⟨o2, kp _ _ g2, c2, n2, d2⟩ hu (fun j h1 h2 => by
    obtain ⟨t, et⟩ := at1 j h1
    obtain ⟨u, eu⟩ := at2 j h2
    rw [et, eu, ← Bool.beq_eq_decide_eq]
    exact SeqAt.EqAt.int_int _ _ _ _) (fun j h1 h2 _ => by
    obtain ⟨t, et⟩ := at1 j h1
    obtain ⟨u, eu⟩ := at2 j h2
    rw [et, eu]
    exact Ob.RcOp.lt_int _ _ _ _)
  rw [List.size_toArray, List.size_toArray, i1.length, i2.length] at R
  exact R
/-! the order of pairs -/
def lexLe (p q : Int × Int) : Prop := p.1 < q.1 ∨ (p.1 = q.1 ∧ p.2 ≤ q.2)
instance (p q : Int × Int) : Decidable (lexLe p q) := by unfold lexLe; infer_instance
theorem lexLe.trans {p q r : Int × Int} (a : lexLe p q) (b : lexLe q r) : lexLe p r := by unfold lexLe at *; omega
theorem lexLe.refl (p : Int × Int) : lexLe p p := .inr ⟨rfl, Int.le_refl _⟩
theorem lexLe.total (p q : Int × Int) : lexLe p q ∨ lexLe q p := by unfold lexLe; omega
theorem lexLe.anti {p q : Int × Int} (a : lexLe p q) (b : lexLe q p) : p = q := by
  unfold lexLe at *
  exact Prod.ext (by omega) (by omega)
theorem lexP_pair (p q : Int × Int) : lexP (fun x y => decide (x < y)) (decide ((2 : Nat) < 2)) [p.1, p.2] [q.1, q.2] = decide (¬ lexLe q p) := by
  show (if decide (p.1 = q.1) = true then (if decide (p.2 = q.2) = true then decide ((2 : Nat) < 2) else decide (p.2 < q.2)) else decide (p.1 < q.1)) = _
  unfold lexLe
  by_cases a : p.1 = q.1
  · rw [if_pos (decide_eq_true a)]
    by_cases b : p.2 = q.2
    · rw [if_pos (decide_eq_true b), decide_eq_false (by omega), decide_eq_false (by omega)]
    · rw [if_neg (by simpa using b)]
      by_cases c : p.2 < q.2
      · rw [decide_eq_true c, decide_eq_true (by omega)]
      · rw [decide_eq_false c, decide_eq_false (by omega)]
  · rw [if_neg (by simpa using a)]
    by_cases c : p.1 < q.1
    · rw [decide_eq_true c, decide_eq_true (by omega)]
    · rw [decide_eq_false c, decide_eq_false (by omega)]
theorem argBest_le (f : Nat → Int × Int) : ∀ k, argBest (fun i j => decide (¬ lexLe (f j) (f i))) k ≤ k ∧ ∀ i, i ≤ k → lexLe (f (argBest (fun i j => decide (¬ lexLe (f j) (f i))) k)) (f i)
  | 0 => ⟨Nat.le_refl _, fun i h => by rw [Nat.le_zero.mp h]; exact lexLe.refl _⟩
  | k + 1 => by
    obtain ⟨h1, h2⟩ := argBest_le f k
    unfold argBest
    by_cases c : lexLe (f (argBest (fun i j => decide (¬ lexLe (f j) (f i))) k)) (f (k + 1))
    · rw [if_neg (by simpa using c)]
      refine ⟨by omega, fun i hi => ?_⟩
      by_cases e : i = k + 1
      · rw [e]; exact c
      · exact h2 i (by omega)
    · rw [if_pos (by simpa using c)]
      refine ⟨Nat.le_refl _, fun i hi => ?_⟩
      by_cases e : i = k + 1
      · rw [e]; exact lexLe.refl _
      · rcases lexLe.total (f (argBest (fun i j => decide (¬ lexLe (f j) (f i))) k)) (f (k + 1)) with z | z
        · exact absurd z c
        · exact z.trans (h2 i (by omega))
section
variable {X : Cx}
/-- a key of two ints -/
def k2 (p : Int × Int) : List L2.Key := [Sum.inl p.1, Sum.inl p.2]
end
end Nc
/-! Own rules: d.setdefault(t, x) of a dict with tuples as keys; len(s) of a set of tuples. -/
namespace Nc
open PySem PySem.Spec PyProof.Rows L2
/-- len(s), s a set of tuples -/
def rLenT2 (P : Program) (w : World) : List V → Hp → VK → Prop := fun vs H Q => ∃ (a : Addr) (L : List (Addr × List Int)), vs = [.ref a] ∧ H a = some (SetTO P w a L) ∧ Q (.int (L.length : Nat)) H
theorem call_len_setT {X : Cx} : CallR X (.builtin "len") (rLenT2 X.prog X.w) := by
  intro pins s σ H xs us Q I r h
  obtain ⟨a, L, rfl, ha, q⟩ := h
  rw [Vals.ref1 r]
  have R0 : SetT0 X.prog X.w s.heap a L := (I.hok a _ ha).1
  obtain ⟨es, ep, t, ⟨o, ho, hex, hd⟩, rows, tab, _, _, _, room, few⟩ := R0.ex
  have sz : es.size = L.length := by
    have h := congrArg List.length rows
    unfold rowsOf at h
    rw [Array.length_toList, List.length_map] at h
    exact h
  have fits : t.fits es.size = true := by
    have h1 := tab.sz
    rw [List.length_map] at h1
    unfold SetTable.fits SetTable.fill
    rw [tab.dm, Bool.and_eq_true, beq_iff_eq, decide_eq_true_eq]
    show t.place.size = es.size ∧ t.place.size + 0 ≤ t.mask
    omega
  refine call_len_set ho hex hd fits (by omega) ?_
  rw [sz]
  exact ⟨.int (L.length : Nat), H, I.tok _, ⟨_, rfl⟩, q⟩
end Nc
/-! Own rules: readings with heaps that are told by what is true of them alone; walks over enumerate; sorted sites. -/
namespace Nc
open PySem PySem.Spec PyProof.Rows L2
section
variable {X : Cx}
def tTupG (t : TA) : TE := fun σ H Q => t σ H fun vs H1 => vs.length ≤ sizeLine ∧ ∀ p H2, Same H1 H2 → H1 p = none → H2 p = some (.tup vs) → Q (.ref p) H2
def tLstG (t : TA) : TE := fun σ H Q => t σ H fun vs H1 => vs.length ≤ sizeLine ∧ ∀ p H2, Same H1 H2 → H1 p = none → H2 p = some (.lst vs) → Q (.ref p) H2
theorem pe_tupG {es : List Expr} {k : Nat} {pos : Pos} {t : TA} (h : PA X es t) : PE X (.Tuple es k pos) (tTupG t) := ⟨fun pins s σ H Q I w => by
  have step := h.run pos pins s σ H _ I w
  refine wpAny_Tuple_spliced (thn step fun us s1 got => ?_)
  rcases got with ⟨vs, H1, I1, rv, len, q⟩
  refine ⟨rv.length ▸ len, ?_⟩
  have free : H1 s1.heap.objs.size = none := I1.hok.fresh (Nat.le_refl _)
  have new : ObjOk X.prog X.w (upd H1 s1.heap.objs.size (.tup vs)) (s1.heap.push { cls := .type "tuple", data := .seq us.toArray }) s1.heap.objs.size (.tup vs) := ⟨len, us, rv, _, Heap.get?_push_size _ rfl, rfl, _, rfl⟩
  exact ⟨.ref _, _, I1.laid (t' := s1.toks) (fun _ _ e => Heap.get?_push_of_some _ e) (Nat.le_refl _) new, rfl, q _ _ (Same.upd free) free upd_same⟩⟩
theorem pe_lstG {es : List Expr} {pos : Pos} {t : TA} (h : PA X es t) : PE X (.List es pos) (tLstG t) := ⟨fun pins s σ H Q I w => by
  have step := h.run pos pins s σ H _ I w
  refine wpAny_List_spliced (thn step fun us s1 got => ?_)
  rcases got with ⟨vs, H1, I1, rv, len, q⟩
  refine ⟨rv.length ▸ len, ?_⟩
  have free : H1 s1.heap.objs.size = none := I1.hok.fresh (Nat.le_refl _)
  have new : ObjOk X.prog X.w (upd H1 s1.heap.objs.size (.lst vs)) (s1.heap.push { cls := .type "list", data := .seq us.toArray 0 }) s1.heap.objs.size (.lst vs) := ⟨len, us, 0, rv, Heap.get?_push_size _ rfl⟩
  exact ⟨.ref _, _, I1.laid (t' := s1.toks) (fun _ _ e => Heap.get?_push_of_some _ e) (Nat.le_refl _) new, rfl, q _ _ (Same.upd free) free upd_same⟩⟩
def rCatG : R2 := fun x y H Q => ∃ l b xs zs, x = .ref l ∧ y = .ref b ∧ H l = some (.lst xs) ∧ H b = some (.lst zs) ∧ xs.length + zs.length ≤ sizeLine ∧ ∀ p H2, Same H H2 → H p = none → H2 p = some (.lst (xs ++ zs)) → Q (.ref p) H2
theorem op_catG : OpR X (binaryOp .Add) rCatG := fun pins s σ H x y v u Q I rx ry w => by
  rcases w with ⟨l, b, xs, zs, e1, e2, h1, h2, z, q⟩
  exact op_cat pins s σ H x y v u Q I rx ry ⟨l, b, xs, zs, e1, e2, h1, h2, z, fun p np => q p _ (Same.upd np) np upd_same⟩
def unref : V → Addr
  | .ref t => t
  | _ => 0
theorem unref_map : ∀ {ys : List V}, (∀ y ∈ ys, ∃ t, y = V.ref t) → ys = (ys.map unref).map V.ref
  | [], _ => rfl
  | y :: ys, h => by
    obtain ⟨t, rfl⟩ := h y List.mem_cons_self
    rw [List.map_cons, List.map_cons, ← unref_map fun z m => h z (List.mem_cons_of_mem _ m)]
    rfl
/-- sorted(xs), xs a list of pairs of ints, f the ints at each address -/
def rSortS (K : PySem.W.Frag) : List V → Hp → VK → Prop := fun vs H Q => ∃ (a : Addr) (ts : List Addr) (f : Addr → Int × Int), vs = [V.ref a] ∧ SqL K H a (ts.map V.ref) ∧ (∀ t ∈ ts, H t = some (.tup [.int (f t).1, .int (f t).2])) ∧
  ∀ (us : List Addr) (p : Addr) (H2 : Hp), us.Perm ts → us.Pairwise (fun a b => lexLe (f a) (f b)) → Same H H2 → H p = none → H2 p = some (.lst (us.map V.ref)) → Q (.ref p) H2
theorem cr_sortS : CallR X (.builtin "sorted") (rSortS X.K) := by
  intro pins s σ H vs us Q I r h
  obtain ⟨a, ts, f, rfl, hl, hk, q⟩ := h
  refine cr_sortedPO pins s σ H _ us Q I r ⟨a, ts.map V.ref, fun v => f (unref v), rfl, hl, fun x m => ?_, fun ys p so st np => ?_⟩
  · obtain ⟨t, mt, rfl⟩ := List.mem_map.mp m
    exact ⟨t, rfl, hk t mt⟩
  · have pm := st.perm
    have er : ys = (ys.map unref).map V.ref := unref_map fun y m => by
      obtain ⟨t, _, e⟩ := List.mem_map.mp (pm.mem_iff.mp m)
      exact ⟨t, e.symm⟩
    refine q (ys.map unref) p _ ?_ ?_ (Same.upd np) np (by rw [← er]; exact upd_same)
    · have z := pm.map unref
      rw [List.map_map, show (unref ∘ V.ref) = id from funext fun _ => rfl, List.map_id] at z
      exact z
    · rw [List.pairwise_map]
      refine List.Pairwise.imp_of_mem (fun {x y} mx my h => ?_) so
      have w := SrtO.lexB_no.mp h
      unfold lexLe
      dsimp only at w
      omega
/-- xs[a:b], a new list -/
def rSlG (K : PySem.W.Frag) : V → Option Int → Option Int → Hp → VK → Prop := fun x lo hi H Q => ∃ a xs, x = .ref a ∧ SqL K H a xs ∧ ∀ p H2, Same H H2 → H p = none → H2 p = some (.lst (cutV xs lo hi)) → Q (.ref p) H2
theorem sl_listG : SlR X (rSlG X.K) := fun pins s σ H x v vl vu lo hi sl Q I rx hs pl pu h => by
  rcases h with ⟨a, xs, e1, e2, q⟩
  exact sl_list pins s σ H x v vl vu lo hi sl Q I rx hs pl pu ⟨a, xs, e1, e2, fun p np => q p _ (Same.upd np) np upd_same⟩
end
end Nc
/-! Own rules: the readings of comprehensions with two for. -/
namespace Nc
open PySem PySem.Spec PyProof.Rows L2
section
variable {J : It} {n : Nat} {G : Hp → Prop} {Y : Nat → Hp → V → Hp → Prop}
theorem lc2_out (w : Walk J n G Y) {g : TG} {tt : TT} {B : L2.St → Hp → (Hp → Prop) → Prop} {vs : List Nat} {σ : L2.St} {H1 : Hp} {D : Addr} {Qd : Hp → Prop} (Pv : Nat → Hp → Prop) (start : Pv 0 (upd H1 D (.lst []))) (held : ∀ i H, i ≤ n → Pv i H → G H)
    (turn : ∀ i x H H', i < n → Pv i H → Y i H x H' → g x (wipe σ vs) H' fun σ2 H2 => wipe σ2 vs = wipe σ vs ∧ tt σ2 H2 fun b H3 => if b = true then B σ2 H3 (Pv (i + 1)) else Pv (i + 1) H3) (done : ∀ H, Pv n H → Qd H) :
    ∃ W : Nat → Nat → Hp → Prop, (∃ m, W 0 m (upd H1 D (.lst []))) ∧ ∀ i m H, W i m H → (J.stop i H ∧ Qd H) ∨ (J.go i H ∧ ∃ N : Hp → Prop, (∀ H', N H' → ∃ m', m' < m ∧ W (i + 1) m' H') ∧ ∀ x H', J.yld i H x H' → g x (wipe σ vs) H' fun σ2 H2 => wipe σ2 vs = wipe σ vs ∧ tt σ2 H2 fun b H3 => if b = true then B σ2 H3 N else N H3) := by
  refine ⟨fun i m H => m + i = n ∧ Pv i H, ⟨n, rfl, start⟩, fun i m H w' => ?_⟩
  have le : i ≤ n := by omega
  have g0 := held i H le w'.2
  by_cases lt : i < n
  · exact .inr ⟨w.goes i H lt g0, Pv (i + 1), fun H' p => ⟨m - 1, by omega, by omega, p⟩, fun x H' y => turn i x H H' lt w'.2 (w.yields i H x H' lt g0 y)⟩
  · have e : i = n := by omega
    subst e
    exact .inl ⟨w.stops H g0, done H w'.2⟩
theorem lc2_in (w : Walk J n G Y) {g : TG} {tt : TT} {te : TE} {vs : List Nat} {σ2 : L2.St} {H4 : Hp} {D : Addr} {N : Hp → Prop} (Pw : Nat → Hp → Prop) (start : Pw 0 H4) (held : ∀ j H, j ≤ n → Pw j H → G H)
    (turn : ∀ j x H H', j < n → Pw j H → Y j H x H' → g x (wipe σ2 vs) H' fun σ3 H5 => wipe σ3 vs = wipe σ2 vs ∧ tt σ3 H5 fun b H6 => if b = true then te σ3 H6 fun y H7 => ∃ acc, H7 D = some (.lst acc) ∧ acc.length < sizeLine ∧ Pw (j + 1) (upd H7 D (.lst (acc ++ [y]))) else Pw (j + 1) H6) (done : ∀ H, Pw n H → N H) :
    ∃ W : Nat → Nat → Hp → Prop, (∃ m, W 0 m H4) ∧ ∀ j k H, W j k H → (J.stop j H ∧ N H) ∨ (J.go j H ∧ ∃ N1 : Hp → Prop, (∀ H', N1 H' → ∃ k', k' < k ∧ W (j + 1) k' H') ∧ ∀ x H', J.yld j H x H' → g x (wipe σ2 vs) H' fun σ3 H5 => wipe σ3 vs = wipe σ2 vs ∧ tt σ3 H5 fun b H6 =>
      if b = true then te σ3 H6 fun y H7 => ∃ acc, H7 D = some (.lst acc) ∧ acc.length < sizeLine ∧ N1 (upd H7 D (.lst (acc ++ [y]))) else N1 H6) := by
  refine ⟨fun j m H => m + j = n ∧ Pw j H, ⟨n, rfl, start⟩, fun j m H w' => ?_⟩
  have le : j ≤ n := by omega
  have g0 := held j H le w'.2
  by_cases lt : j < n
  · exact .inr ⟨w.goes j H lt g0, Pw (j + 1), fun H' p => ⟨m - 1, by omega, by omega, p⟩, fun x H' y => turn j x H H' lt w'.2 (w.yields j H x H' lt g0 y)⟩
  · have e : j = n := by omega
    subst e
    exact .inl ⟨w.stops H g0, done H w'.2⟩
end
end Nc
/-! Own rules: a written dict whose keys are tuples. -/
namespace Nc
open PySem PySem.Spec PyProof.Rows L2
end Nc
/-! Own rules: how many a set of tuples holds, no two alike. -/
namespace Nc
open PySem PySem.Spec PyProof.Rows L2
def rLenTN (P : Program) (w : World) : List V → Hp → VK → Prop := fun vs H Q => ∃ (a : Addr) (L : List (Addr × List Int)), vs = [.ref a] ∧ H a = some (SetTO P w a L) ∧ ((L.map (·.2)).Nodup → Q (.int (L.length : Nat)) H)
theorem call_len_setN {X : Cx} : CallR X (.builtin "len") (rLenTN X.prog X.w) := by
  intro pins s σ H xs us Q I r h
  obtain ⟨a, L, rfl, ha, q⟩ := h
  have R0 : SetT0 X.prog X.w s.heap a L := (I.hok a _ ha).1
  obtain ⟨es, ep, t, R⟩ := R0.ex
  exact call_len_setT pins s σ H _ us Q I r ⟨a, L, rfl, ha, q R.2.2.2.1⟩
/-- no two alike, all among others: no more than these -/
theorem len_le_of_sub {α : Type} [BEq α] [LawfulBEq α] : ∀ {l m : List α}, l.Nodup → (∀ x ∈ l, x ∈ m) → l.length ≤ m.length
  | [], _, _, _ => Nat.zero_le _
  | x :: l, m, n, h => by
    obtain ⟨n1, n2⟩ := List.nodup_cons.mp n
    have mx := h x List.mem_cons_self
    have := len_le_of_sub (l := l) (m := m.erase x) n2 fun y hy => (List.mem_erase_of_ne (fun e => n1 (by rw [← e]; exact hy))).mpr (h y (List.mem_cons_of_mem _ hy))
    rw [List.length_erase_of_mem mx] at this
    have pos : 0 < m.length := List.length_pos_of_mem mx
    rw [List.length_cons]
    omega
end Nc
/-! Own rules: slices with the step -1. -/
namespace Nc
open PySem PySem.Spec PyProof.Rows L2
end Nc
/-! Own rules: comprehensions whose items are told one by one. -/
namespace Nc
open PySem PySem.Spec PyProof.Rows L2
section
variable {J : It} {n : Nat} {G : Hp → Prop} {Y : Nat → Hp → V → Hp → Prop} {g : TG} {te : TE} {tt : TT} {vs : List Nat} {σ : L2.St} {H1 : Hp} {D : Addr} {Qd : Hp → Prop}
theorem same_upd_of {H H' : Hp} {D : Addr} {o : HO} (s : Same H H') (n : H D = none) : Same H (upd H' D o) := fun b x e => by
  rw [upd_ne (ne_of_none e n)]
  exact s b x e
/-- each item is told by Rel, of the heap where it was made; Rel speaks of what stood ahead and of what is not the new list -/
theorem lc_rel (w : Walk J n G Y) (nD : H1 D = none) (few : n ≤ 100000) (Gs : ∀ H, Same H1 H → G H) (Rel : Nat → V → Hp → Prop)
    (stay : ∀ i y H H', (∀ b o, b ≠ D → H b = some o → H' b = some o) → Rel i y H → Rel i y H')
    (hs : ∀ i x H H' (Kp : VK), i < n → Same H1 H → (∃ acc, H D = some (.lst acc)) → Y i H x H' → (∀ y H4, Same H H4 → Rel i y H4 → Kp y H4) → g x (wipe σ vs) H' fun σ2 H2 => wipe σ2 vs = wipe σ vs ∧ te σ2 H2 Kp)
    (hd : ∀ H' ys, Same H1 H' → H' D = some (.lst ys) → ys.length = n → (∀ i y, ys[i]? = some y → Rel i y H') → Qd H') :
    ∃ W : Nat → Nat → Hp → Prop, (∃ m, W 0 m (upd H1 D (.lst []))) ∧ ∀ i m H, W i m H →
      (J.stop i H ∧ Qd H) ∨ (J.go i H ∧ ∃ Nx : Hp → Prop, (∀ H', Nx H' → ∃ m', m' < m ∧ W (i + 1) m' H') ∧ ∀ x H', J.yld i H x H' → g x (wipe σ vs) H' fun σ2 H2 => wipe σ2 vs = wipe σ vs ∧ tYes σ2 H2 fun b H3 =>
        if b = true then te σ2 H3 fun y H4 => ∃ acc, H4 D = some (.lst acc) ∧ acc.length < sizeLine ∧ Nx (upd H4 D (.lst (acc ++ [y]))) else Nx H3) := by
  refine lc_it w (tt := tYes) (fun i H => Same H1 H ∧ ∃ ys, H D = some (.lst ys) ∧ ys.length = i ∧ ∀ j y, ys[j]? = some y → Rel j y H) ⟨same_upd_of (fun _ _ e => e) nD, [], upd_same, rfl, fun _ _ e => nomatch e⟩ (fun i H _ z => Gs H z.1) (fun i x H H' hi z y => ?_) fun H z => ?_
  · obtain ⟨s1, ys, eD, len, rel⟩ := z
    refine hs i x H H' _ hi s1 ⟨ys, eD⟩ y fun v H4 s4 r4 => ?_
    have e4 := s4 _ _ eD
    have s14 : Same H1 H4 := fun b o e => s4 _ _ (s1 _ _ e)
    have lift : ∀ b o, b ≠ D → H4 b = some o → (upd H4 D (.lst (ys ++ [v]))) b = some o := fun b o nb e => by rw [upd_ne nb]; exact e
    refine ⟨ys, e4, Nat.lt_of_lt_of_le (show ys.length < 100001 by omega) (by decide), same_upd_of s14 nD, ys ++ [v], upd_same, by rw [List.length_append, len]; rfl, fun j y' ey => ?_⟩
    by_cases c : j < ys.length
    · rw [List.getElem?_append_left c] at ey
      exact stay j y' H _ (fun b o nb e => lift b o nb (s4 _ _ e)) (rel j y' ey)
    · rw [List.getElem?_append_right (by omega)] at ey
      have hj : j = i := by
        have := (List.getElem?_eq_some_iff.mp ey).1
        simp at this
        omega
      subst hj
      have e0 : j - ys.length = 0 := by omega
      rw [e0] at ey
      cases Option.some.inj ey
      exact stay j v H4 _ lift r4
  · obtain ⟨s1, ys, eD, len, rel⟩ := z
    exact hd H ys s1 eD len rel
/-- .. each item is a value that is known -/
theorem lc_val (w : Walk J n G Y) (nD : H1 D = none) (few : n ≤ 100000) (Gs : ∀ H, Same H1 H → G H) (ys : List V) (ly : ys.length = n)
    (hs : ∀ i x y H H' (Kp : VK), ys[i]? = some y → Same H1 H → (∃ acc, H D = some (.lst acc)) → Y i H x H' → (∀ H4, Same H H4 → Kp y H4) → g x (wipe σ vs) H' fun σ2 H2 => wipe σ2 vs = wipe σ vs ∧ te σ2 H2 Kp)
    (hd : ∀ H', Same H1 H' → H' D = some (.lst ys) → Qd H') :
    ∃ W : Nat → Nat → Hp → Prop, (∃ m, W 0 m (upd H1 D (.lst []))) ∧ ∀ i m H, W i m H →
      (J.stop i H ∧ Qd H) ∨ (J.go i H ∧ ∃ Nx : Hp → Prop, (∀ H', Nx H' → ∃ m', m' < m ∧ W (i + 1) m' H') ∧ ∀ x H', J.yld i H x H' → g x (wipe σ vs) H' fun σ2 H2 => wipe σ2 vs = wipe σ vs ∧ tYes σ2 H2 fun b H3 =>
        if b = true then te σ2 H3 fun y H4 => ∃ acc, H4 D = some (.lst acc) ∧ acc.length < sizeLine ∧ Nx (upd H4 D (.lst (acc ++ [y]))) else Nx H3) := by
  refine lc_rel w nD few Gs (fun i y _ => ys[i]? = some y) (fun _ _ _ _ _ r => r) (fun i x H H' Kp hi s1 eD y fin => ?_) fun H' zs s eD len rel => ?_
  · have ey : ys[i]? = some ys[i] := List.getElem?_eq_getElem (by omega)
    exact hs i x _ H H' Kp ey s1 eD y fun H4 s4 => fin _ H4 s4 ey
  · have e : zs = ys := by
      apply List.ext_getElem? 
      intro i
      by_cases c : i < zs.length
      · have ez : zs[i]? = some zs[i] := List.getElem?_eq_getElem c
        rw [ez, rel i _ ez]
      · rw [List.getElem?_eq_none (by omega), List.getElem?_eq_none (by omega)]
    rw [e] at eD
    exact hd H' s eD
/-- .. with a test: the items of those that pass it -/
theorem lc_fil (w : Walk J n G Y) (nD : H1 D = none) (few : n ≤ 100000) (Gs : ∀ H, Same H1 H → G H) (b : Nat → Bool) (F : Nat → V)
    (hs : ∀ i x H H' (Kp : VK) (Kn : Hp → Prop), i < n → Same H1 H → (∃ acc, H D = some (.lst acc)) → Y i H x H' → (∀ H4, b i = true → Same H H4 → Kp (F i) H4) → (∀ H4, b i = false → Same H H4 → Kn H4) → g x (wipe σ vs) H' fun σ2 H2 => wipe σ2 vs = wipe σ vs ∧ tt σ2 H2 fun c H3 => if c = true then te σ2 H3 Kp else Kn H3)
    (hd : ∀ H', Same H1 H' → H' D = some (.lst (((List.range n).filter b).map F)) → Qd H') :
    ∃ W : Nat → Nat → Hp → Prop, (∃ m, W 0 m (upd H1 D (.lst []))) ∧ ∀ i m H, W i m H →
      (J.stop i H ∧ Qd H) ∨ (J.go i H ∧ ∃ Nx : Hp → Prop, (∀ H', Nx H' → ∃ m', m' < m ∧ W (i + 1) m' H') ∧ ∀ x H', J.yld i H x H' → g x (wipe σ vs) H' fun σ2 H2 => wipe σ2 vs = wipe σ vs ∧ tt σ2 H2 fun b H3 =>
        if b = true then te σ2 H3 fun y H4 => ∃ acc, H4 D = some (.lst acc) ∧ acc.length < sizeLine ∧ Nx (upd H4 D (.lst (acc ++ [y]))) else Nx H3) := by
  refine lc_it w (fun i H => Same H1 H ∧ H D = some (.lst (((List.range i).filter b).map F))) ⟨same_upd_of (fun _ _ e => e) nD, upd_same⟩ (fun i H _ z => Gs H z.1) (fun i x H H' hi z y => ?_) fun H z => hd H z.1 z.2
  obtain ⟨s1, eD⟩ := z
  refine hs i x H H' _ _ hi s1 ⟨_, eD⟩ y (fun H4 hb s4 => ?_) fun H4 hb s4 => ?_
  · have s14 : Same H1 H4 := fun b o e => s4 _ _ (s1 _ _ e)
    refine ⟨_, s4 _ _ eD, ?_, same_upd_of s14 nD, ?_⟩
    · rw [List.length_map]
      have := List.length_filter_le b (List.range i)
      rw [List.length_range] at this
      exact Nat.lt_of_lt_of_le (show _ < 100001 by omega) (by decide)
    · rw [upd_same, List.range_succ, List.filter_append, List.map_append, List.filter_cons_of_pos hb]
      rfl
  · have s14 : Same H1 H4 := fun b o e => s4 _ _ (s1 _ _ e)
    refine ⟨s14, ?_⟩
    rw [List.range_succ, List.filter_append, List.filter_cons_of_neg (by rw [hb]; decide), List.filter_nil, List.append_nil]
    exact s4 _ _ eD
end
end Nc
/-! Own rules: comprehensions that make a new thing for each item. -/
namespace Nc
open PySem PySem.Spec PyProof.Rows L2
section
variable {J : It} {n : Nat} {G : Hp → Prop} {Y : Nat → Hp → V → Hp → Prop} {g : TG} {te : TE} {tt : TT} {vs : List Nat} {σ : L2.St} {H1 : Hp} {D : Addr} {Qd : Hp → Prop}
/-- new things at ks, one for each of L -/
def News (H : Hp) (D : Addr) (ob : Nat → HO) (L : List Nat) (ks : List Addr) : Prop := ks.length = L.length ∧ ∀ (j i : Nat) (k : Addr), L[j]? = some i → ks[j]? = some k → k ≠ D ∧ H k = some (ob i)
theorem News.snoc {H H' : Hp} {D : Addr} {ob : Nat → HO} {L : List Nat} {ks : List Addr} {i : Nat} {k : Addr} (h : News H D ob L ks) (s : ∀ b o, b ≠ D → H b = some o → H' b = some o) (n : k ≠ D) (e : H' k = some (ob i)) : News H' D ob (L ++ [i]) (ks ++ [k]) := by
  refine ⟨by rw [List.length_append, List.length_append, h.1]; rfl, fun j a b ea eb => ?_⟩
  by_cases c : j < ks.length
  · rw [List.getElem?_append_left c] at eb
    rw [List.getElem?_append_left (by rw [← h.1]; exact c)] at ea
    have := h.2 j a b ea eb
    exact ⟨this.1, s _ _ this.1 this.2⟩
  · rw [List.getElem?_append_right (by omega)] at eb
    rw [List.getElem?_append_right (by rw [← h.1]; omega)] at ea
    have hj := (List.getElem?_eq_some_iff.mp eb).1
    simp at hj
    rw [hj] at eb
    rw [← h.1, hj] at ea
    cases Option.some.inj ea
    cases Option.some.inj eb
    exact ⟨n, e⟩
/-- the pair that stands at an address -/
def hv (H : Hp) (k : Addr) : Int × Int := match H k with
  | some (.tup [.int x, .int y]) => (x, y)
  | _ => (0, 0)
theorem hv_of {H : Hp} {k : Addr} {x y : Int} (h : H k = some (.tup [.int x, .int y])) : hv H k = (x, y) := by
  unfold hv
  rw [h]
theorem News.map {H : Hp} {D : Addr} {p : Nat → Int × Int} {L : List Nat} {ks : List Addr} (h : News H D (fun i => .tup [.int (p i).1, .int (p i).2]) L ks) : ks.map (hv H) = L.map p := by
  apply List.ext_getElem?
  intro j
  rw [List.getElem?_map, List.getElem?_map]
  by_cases c : j < ks.length
  · have c2 : j < L.length := by rw [← h.1]; exact c
    have e := (h.2 j L[j] ks[j] (by simp [c2]) (by simp [c])).2
    rw [List.getElem?_eq_getElem c, List.getElem?_eq_getElem c2, Option.map_some, Option.map_some, hv_of e]
  · rw [List.getElem?_eq_none (show ks.length ≤ j by omega), List.getElem?_eq_none (show L.length ≤ j by rw [← h.1]; omega)]
    rfl
theorem News.at_ {H : Hp} {D : Addr} {p : Nat → Int × Int} {L : List Nat} {ks : List Addr} (h : News H D (fun i => .tup [.int (p i).1, .int (p i).2]) L ks) : ∀ k ∈ ks, k ≠ D ∧ H k = some (.tup [.int (hv H k).1, .int (hv H k).2]) ∧ ∃ i ∈ L, hv H k = p i := by
  intro k m
  obtain ⟨j, hj, rfl⟩ := List.getElem_of_mem m
  have c2 : j < L.length := by rw [← h.1]; exact hj
  have e := h.2 j L[j] ks[j] (by simp [c2]) (by simp [hj])
  have v := hv_of e.2
  rw [v]
  exact ⟨e.1, e.2, L[j], List.getElem_mem c2, rfl⟩
end
end Nc
/-! Own rules: min, max of a list of pairs. -/
namespace Nc
open PySem PySem.Spec PyProof.Rows L2
section
theorem tup_more {X : Cx} {s s2 : Shared} {pins : List (Addr × Obj)} {σ : L2.St} {H : Hp} {a b : Addr} {ns ms : List Int} (I : L2.Inv X pins σ H s) (ha : H a = some (.tup (ns.map V.int))) (hb : H b = some (.tup (ms.map V.int))) (hu : X.A.units + 1 < cLine) (kp : KeepH s.heap s2.heap) :
    Ob.RcOp .Gt X.A.in1 s2 (.ref a) (.ref b) (lexP (fun x y => decide (y < x)) (decide (ms.length < ns.length)) ns ms) := by
  obtain ⟨us, r1, ⟨o1, g1, c1, n1, d1⟩, _⟩ := I.tuple (SqT.of ha)
  obtain ⟨vs, r2, ⟨o2, g2, c2, n2, d2⟩, _⟩ := I.tuple (SqT.of hb)
  have i1 : IntsAre us ns := Vals.ints r1
  have i2 : IntsAre vs ms := Vals.ints r2
  have at1 : ∀ j (h1 : j < us.toArray.size), ∃ t, us.toArray[j] = .int (ns.getD j 0) t := fun j h1 => IntsAre.int_at i1 _ _ (by simp at h1; simp [h1])
  have at2 : ∀ j (h1 : j < vs.toArray.size), ∃ t, vs.toArray[j] = .int (ms.getD j 0) t := fun j h1 => IntsAre.int_at i2 _ _ (by simp at h1; simp [h1])
  have R := Ob.RcOp.tuples_gt (A := X.A.in1) (s := s2) (e := fun j => decide (ns.getD j 0 = ms.getD j 0)) (r := fun j => decide (ms.getD j 0 < ns.getD j 0)) ⟨o1, kp _ _ g1, c1, n1, d1⟩ ⟨o2, kp _ _ g2, c2, n2, d2⟩ hu (fun j h1 h2 => by
    obtain ⟨t, et⟩ := at1 j h1
    obtain ⟨u, eu⟩ := at2 j h2
    rw [et, eu, ← Bool.beq_eq_decide_eq]
    exact SeqAt.EqAt.int_int _ _ _ _) (fun j h1 h2 _ => by
    obtain ⟨t, et⟩ := at1 j h1
    obtain ⟨u, eu⟩ := at2 j h2
    rw [et, eu]
    exact Ob.RcOp.gt_int _ _ _ _)
  rw [List.size_toArray, List.size_toArray, i1.length, i2.length] at R
  exact R
def ngP (p : Int × Int) : Int × Int := (-p.1, -p.2)
theorem lexLe_ng (p q : Int × Int) : lexLe (ngP p) (ngP q) ↔ lexLe q p := by
  unfold lexLe ngP
  omega
theorem lexP_pairG (p q : Int × Int) : lexP (fun x y => decide (y < x)) (decide ((2 : Nat) < 2)) [p.1, p.2] [q.1, q.2] = decide (¬ lexLe p q) := by
  show (if decide (p.1 = q.1) = true then (if decide (p.2 = q.2) = true then decide ((2 : Nat) < 2) else decide (q.2 < p.2)) else decide (q.1 < p.1)) = _
  unfold lexLe
  by_cases a : p.1 = q.1
  · rw [if_pos (decide_eq_true a)]
    by_cases b : p.2 = q.2
    · rw [if_pos (decide_eq_true b), decide_eq_false (by omega), decide_eq_false (by omega)]
    · rw [if_neg (by simpa using b)]
      by_cases c : q.2 < p.2
      · rw [decide_eq_true c, decide_eq_true (by omega)]
      · rw [decide_eq_false c, decide_eq_false (by omega)]
  · rw [if_neg (by simpa using a)]
    by_cases c : q.1 < p.1
    · rw [decide_eq_true c, decide_eq_true (by omega)]
    · rw [decide_eq_false c, decide_eq_false (by omega)]
variable {X : Cx}
end
end Nc
/-! Own rules: sorted of a list of tuples (n, (x, y)). -/
namespace Nc
open PySem PySem.Spec PyProof.Rows L2
/-- the order of (n, pair) -/
def le3 (n : Int) (p : Int × Int) (m : Int) (q : Int × Int) : Prop := n < m ∨ (n = m ∧ lexLe p q)
instance (n : Int) (p : Int × Int) (m : Int) (q : Int × Int) : Decidable (le3 n p m q) := by unfold le3; infer_instance
theorem le3.trans {n m k : Int} {p q r : Int × Int} (a : le3 n p m q) (b : le3 m q k r) : le3 n p k r := by
  unfold le3 at *
  rcases a with a | ⟨a, a2⟩ <;> rcases b with b | ⟨b, b2⟩
  · exact .inl (by omega)
  · exact .inl (by omega)
  · exact .inl (by omega)
  · exact .inr ⟨by omega, a2.trans b2⟩
end Nc
/-! Own rules: a def of one parameter, called by its keyword. -/
namespace Nc
open PySem PySem.Spec PyProof.Rows L2
def gRev {α : Type} (us ws : List α) : List α := match us with
  | [] => ws.reverse
  | _ :: _ => []
theorem Vals.rev : ∀ {xs : List V} {us : List Value}, Vals xs us → Vals xs.reverse us.reverse
  | _, _, .nil => .nil
  | _, _, .cons r t => by
    rw [List.reverse_cons, List.reverse_cons]
    exact Vals.append (Vals.rev t) (.cons r .nil)
theorem kb_rev {K : PySem.W.Frag} {x q : Str} {st : Stmt} {f : Addr} {fd : FuncData} {ps ks : List Str} (F : Fun K x q st f fd) (h0 : 0 < ps.length)
    (h : ∀ (kV doc pm : Value) (an : Option Addr) (cdv ct : Value) (ws : List Value), ws.length = ps.length → bindArgs (PySem.W.fnOf x q (defArgs st) (defBody st) (defScope st) .none kV doc pm an cdv ct) ⟨[], ks.zip ws⟩ = (pure (ps.zip ws.reverse) : Sem (List (Str × Value)))) :
    KBinds K fd ps ks gRev gRev := by
  obtain ⟨oc, od, kV, doc, pm, an, cdv, ct, osl, rfl, lk, hcd⟩ := F.ex
  refine ⟨fun s us ws _ hl => ?_, fun {vs us zs ws} r rz => ?_⟩
  · cases us with
    | nil =>
      have hl : ws.reverse.length = ps.length := hl
      rw [List.length_reverse] at hl
      exact .of_eq (h kV doc pm an cdv ct ws hl)
    | cons a r =>
      have hl : 0 = ps.length := hl
      omega
  · cases r with
    | nil => exact Vals.rev rz
    | cons _ _ => exact .nil
end Nc
/-! Own rules: a dict comprehension whose keys are tuples -/
namespace Nc
open PySem PySem.Spec PyProof.Rows L2
end Nc
/-! Own rules: del d[x], e[y]; d.pop(t, x) of a dict whose keys are tuples. -/
namespace Nc
open PySem PySem.Spec PyProof.Rows L2
/-- del d[x], e[y] -/
def sDel2 (td ty te tz : TE) : TS := fun D σ H => td σ H fun x H1 => ty σ H1 fun y H2 => ∃ a kvs k, x = .ref a ∧ H2 a = some (.dK kvs) ∧ y = kV k ∧ (valV kvs k).isSome = true ∧
  te σ (upd H2 a (.dK (dropK kvs k))) fun x H1 => tz σ H1 fun y H2 => ∃ a kvs k, x = .ref a ∧ H2 a = some (.dK kvs) ∧ y = kV k ∧ (valV kvs k).isSome = true ∧ D.nx σ (upd H2 a (.dK (dropK kvs k)))
section
variable {X : Cx} {o i o2 i2 : Expr} {pos tpos tpos2 : Pos} {td ty te tz : TE}
theorem ps_del2 (ho : PE X o td) (hi : PE X i ty) (h2 : PE X o2 te) (k2 : PE X i2 tz) : PS X (.Delete [.Subscript o i tpos, .Subscript o2 i2 tpos2] pos) (sDel2 td ty te tz) := by
  refine ⟨fun pins s σ H D I h => wpAny_Delete (wpAny_deleteEach_cons (wpAny_delete_Subscript (thn (ho.run pins s σ H _ I h) fun u s1 ⟨x, H1, I1, rx, q1⟩ => thn (hi.run pins s1 σ H1 _ I1 q1) fun iv s2 ⟨y, H2, I2, ry, a1, kvs, k, ex, e, ey, l, q2⟩ => ?_)))⟩
  subst ex ey
  obtain rfl : u = Value.ref a1 := rx
  refine d_delItem I2 e ry l fun s3 I3 => wpAny_deleteEach_cons (wpAny_delete_Subscript (thn (h2.run pins s3 σ _ _ I3 q2) fun u s4 ⟨x, H4, I4, rx, q4⟩ => thn (k2.run pins s4 σ H4 _ I4 q4) fun iv s5 ⟨y, H5, I5, ry5, a5, kvs5, k5, ex, e5, ey, l5, q5⟩ => ?_))
  subst ex ey
  obtain rfl : u = Value.ref a5 := rx
  exact d_delItem I5 e5 ry5 l5 fun s6 I6 => wpAny_deleteEach_nil ⟨σ, _, I6, q5⟩
end
theorem kt_drop {H : Hp} {kvs : List (List L2.Key × V)} {xs : List (List L2.Key × Addr × Value)} (r : KT H kvs xs) (k : List L2.Key) : KT H (dropK kvs k) (withoutH xs k) := by
  induction r with
  | nil => exact .nil
  | @cons p q ps qs h t ih =>
    unfold dropK withoutH at *
    rw [List.filter_cons, List.filter_cons, h.1]
    by_cases e : q.1 = k
    · rw [if_neg (by simp [e]), if_neg (by simp [e])]
      exact ih
    · rw [if_pos (by simp [e]), if_pos (by simp [e])]
      exact .cons h ih
section
variable {X : Cx} {pins : List (Addr × Obj)} {σ : L2.St} {H : Hp} {s : Shared} {A : Around} {E : Value → Shared → Prop} {D b : Addr} {kvs : List (List L2.Key × V)} {ks : List L2.Key} {r : Value} {Q : Value → Shared → Prop}
/-- d.pop(t, x), there and not -/
theorem d_popT {v : V} (hu : A.units + 1 < cLine) (I : L2.Inv X pins σ H s) (hD : H D = some (.dT kvs)) (hb : H b = some (.tup (ks.map kV))) (l : valV kvs ks = some v)
    (h : ∀ w' s', L2.Inv X pins σ (upd H D (.dT (dropK kvs ks))) s' → RelV v w' → Q w' s') : wpAny (model X.prog X.w) A (call (.builtin "dict.pop") [.ref D, .ref b, r]) Q E s := by
  obtain ⟨len, sys, xs, rel, dd⟩ := dt_of I.hok hD
  have lx : xs.length ≤ sizeLine := by rw [← Paired.length rel]; exact len
  obtain ⟨w', hw, rw'⟩ := RelO.some_of (v := v) (o := (atKey xs ks).map (·.2)) (by rw [← l]; exact rel.val ks)
  have ⟨p, hp, hp2⟩ := Option.map_eq_some_iff.mp hw
  refine call_pop_heap (knd := tupleKind (mixKind X.prog X.w)) (more := [r]) (hsz := lx) (.inr ⟨r, rfl⟩) (PySem.F.args_dict_pop_3 _ _ _) (tupleKind_room_in1 hu) (key_of I.hok hb) sys dd hp fun h' dd' hs => h _ _ ?_ (hp2 ▸ rw')
  obtain ⟨o, ds, ep, ho, c1, c2, c3, _, c4⟩ := dd'
  exact d_write I (by rw [hD]; exact True.intro) hs ⟨o, ho⟩ ⟨Nat.le_trans (List.length_filter_le _ _) len, sys, _, (kt_drop rel ks).keeps fun c ys ec => (by rw [upd_ne (ne_of ec hD (fun z => nomatch z))]; exact ec), o, ds, ep, ho, c1, c2, c3, c4⟩
theorem d_popTN (hu : A.units + 1 < cLine) (I : L2.Inv X pins σ H s) (hD : H D = some (.dT kvs)) (hb : H b = some (.tup (ks.map kV))) (l : valV kvs ks = none)
    (h : ∀ s', L2.Inv X pins σ H s' → Q r s') : wpAny (model X.prog X.w) A (call (.builtin "dict.pop") [.ref D, .ref b, r]) Q E s := by
  obtain ⟨len, sys, xs, rel, dd⟩ := dt_of I.hok hD
  have lx : xs.length ≤ sizeLine := by rw [← Paired.length rel]; exact len
  have hn : atKey xs ks = none := by
    have := rel.val ks
    rw [l] at this
    cases e : atKey xs ks with
    | none => rfl
    | some p =>
      rw [e] at this
      exact this.elim
  exact call_pop_default_heap (knd := tupleKind (mixKind X.prog X.w)) (hsz := lx) (tupleKind_room_in1 hu) (key_of I.hok hb) sys dd hn fun tk => h _ (I.tok _)
end
/-- d.pop(t, x), t a tuple -/
def tDPopT (td ty tx : TE) : TE := fun σ H Q => td σ H fun x H1 => ∃ a, x = .ref a ∧ IsD H1 a ∧ ty σ H1 fun y H2 => tx σ H2 fun z H3 => ∃ kvs ks b, H3 a = some (.dT kvs) ∧ y = .ref b ∧ H3 b = some (.tup (ks.map kV)) ∧
  (∀ v, valV kvs ks = some v → Q v (upd H3 a (.dT (dropK kvs ks)))) ∧ (valV kvs ks = none → Q z H3)
section
variable {X : Cx} {o e f : Expr} {cpos apos : Pos} {tx ty td : TE}
theorem pe_dpopT (hu : X.A.units + 1 < cLine) (ho : PE X o td) (he : PE X e ty) (hf : PE X f tx) (m : M2 X o "pop" apos e f cpos) : PE X (.Call (.Attribute o "pop" apos) [e, f] [] cpos) (tDPopT td ty tx) := by
  refine ⟨fun pins s σ H Q I h => wpAny_Call_method m.base m.few m.line PySem.F.plainAttrs_dict PySem.F.slot_dict_pop PySem.F.type_dict_pop (thn (ho.run pins s σ H _ I h) fun u s1 ⟨x, H1, I1, rx, a, ex, d, q1⟩ => ?_)⟩
  cases ex
  obtain rfl : u = .ref a := rx
  have at1 := isD_at I1 d
  refine ⟨at1.1, at1.2.1, ?_⟩
  rw [m.trees]
  refine Calls.callWith_builtin rfl (Calls.evalArgs_plain (Calls.spliced_cons (thn (he.run pins s1 σ H1 _ I1 q1) fun iv s2 ⟨y, H2, I2, ry, q2⟩ => Calls.spliced_cons (thn (hf.run pins s2 σ H2 _ I2 q2) fun fv s3 ⟨z, H3, I3, rz, kvs, ks, b, ea, ey, eb, q3, q4⟩ => Calls.spliced_nil ?_))))
  cases ey
  cases (show iv = Value.ref b from ry)
  cases l : valV kvs ks with
  | some v => exact d_popT hu I3 ea eb l fun w' s4 I4 rw' => ⟨v, _, I4, rw', q3 v l⟩
  | none => exact d_popTN hu I3 ea eb l fun s4 I4 => ⟨z, H3, I4, rz, q4 l⟩
end
end Nc
/-! Own rule: the truth of a dict whose keys are tuples. -/
namespace Nc
open PySem PySem.Spec PyProof.Rows L2
theorem truthy_dH {P : Program} {w : World} {K : Type} [DecidableEq K] {knd : HeapKind P w K} {A : Around} {E : Value → Shared → Prop} {s : Shared} {d : Addr} {xs : List (K × Addr × Value)} {Q : Bool → Shared → Prop} (hd : (d == sysModules) = false)
    (hm : s.heap.DictOfH knd d xs) (few : (xs.length : Int) < 2 ^ 63) (h : Q (!xs.isEmpty) { s with toks := s.toks + 1 + 1 }) : wpAny (model P w) A (truthy (.ref d)) Q E s := by
  have hne : ((xs.length : Int) != 0) = !xs.isEmpty := by
    cases xs with
    | nil => rfl
    | cons x xs =>
      simp
      omega
  have body : wpAny (model P w) A (runValue (.builtin "len" ⟨[.ref d], []⟩)) (fun r t => r = .int xs.length (s.toks + 1) ∧ Q (!xs.isEmpty) t) E s := by
    refine wpAny_runValue (codeAny_builtin PySem.entry_len ?_)
    have pl := PySem.plain_len
    rw [Around.under_plainId pl _]
    refine wpAny_mono (wpAny_len_body_dictH (Q := fun r t => r = .int xs.length (s.toks + 1) ∧ Q (!xs.isEmpty) t) hd hm few ⟨rfl, h⟩) ?_ (fun _ _ z => z)
    intro fin t z
    obtain ⟨r, rfl, q⟩ := z
    exact q
  have nb := PySem.noBool_dict
  have sl := PySem.F.slot_dict_len.lookup
  have fin (r : Value) (t : Shared) (z : r = .int xs.length (s.toks + 1) ∧ Q (!xs.isEmpty) t) : Q ((xs.length : Int) != 0) t := by
    rw [hne]
    exact z.2
  unfold truthy
  refine wpAny_bind (wpAny_callSpecial?_none (name := Str.ofString "__bool__") (by exact hm.typeIs) nb ?_)
  refine wpAny_bind (wpAny_specialOf (name := Str.ofString "__len__") (by exact hm.typeIs) sl ?_)
  refine wpAny_bind (wpAny_mono body (fun r t z => ?_) fun _ _ z => z)
  have q := fin r t z
  obtain ⟨e, _⟩ := z
  subst e
  exact wpAny_pure q
theorem tru_dT {X : Cx} : TruR X (fun x H Q => ∃ a kvs, x = .ref a ∧ H a = some (.dT kvs) ∧ Q (!kvs.isEmpty) H) := by
  intro pins s σ H x v Q I rx h
  obtain ⟨a, kvs, ex, e, q⟩ := h
  subst ex
  cases rx
  obtain ⟨len, sys, xs, rel, dd⟩ := dt_of I.hok e
  have lx : kvs.length = xs.length := Paired.length rel
  have em : kvs.isEmpty = xs.isEmpty := by
    cases kvs with
    | nil => cases xs with
      | nil => rfl
      | cons y ys => cases lx
    | cons x ks => cases xs with
      | nil => cases lx
      | cons y ys => rfl
  have hz := sizeLine_eq
  exact truthy_dH sys dd (by omega) ⟨H, I.tok _, em ▸ q⟩
end Nc
/-! Own rule: a comprehension that makes new things, no two at one place. -/
namespace Nc
open PySem PySem.Spec PyProof.Rows L2
section
variable {J : It} {n : Nat} {G : Hp → Prop} {Y : Nat → Hp → V → Hp → Prop} {g : TG} {te : TE} {tt : TT} {vs : List Nat} {σ : L2.St} {H1 : Hp} {D : Addr} {Qd : Hp → Prop}
theorem lc_newN (w : Walk J n G Y) (nD : H1 D = none) (few : n ≤ 100000) (Gs : ∀ H, Same H1 H → G H) (ob : Nat → HO)
    (turn : ∀ i x H H' (Kp : VK), i < n → Same H1 H → (∃ acc, H D = some (.lst acc)) → Y i H x H' → (∀ t H4, Same H H4 → H t = none → H4 t = some (ob i) → Kp (.ref t) H4) → g x (wipe σ vs) H' fun σ2 H2 => wipe σ2 vs = wipe σ vs ∧ te σ2 H2 Kp)
    (done : ∀ H' ks, Same H1 H' → H' D = some (.lst (ks.map V.ref)) → News H' D ob (List.range n) ks → ks.Nodup → (∀ k ∈ ks, H1 k = none) → Qd H') :
    ∃ W : Nat → Nat → Hp → Prop, (∃ m, W 0 m (upd H1 D (.lst []))) ∧ ∀ i m H, W i m H →
      (J.stop i H ∧ Qd H) ∨ (J.go i H ∧ ∃ Nx : Hp → Prop, (∀ H', Nx H' → ∃ m', m' < m ∧ W (i + 1) m' H') ∧ ∀ x H', J.yld i H x H' → g x (wipe σ vs) H' fun σ2 H2 => wipe σ2 vs = wipe σ vs ∧ tYes σ2 H2 fun b H3 =>
        if b = true then te σ2 H3 fun y H4 => ∃ acc, H4 D = some (.lst acc) ∧ acc.length < sizeLine ∧ Nx (upd H4 D (.lst (acc ++ [y]))) else Nx H3) := by
  refine lc_it w (tt := tYes) (fun i H => Same H1 H ∧ ∃ ks, H D = some (.lst (ks.map V.ref)) ∧ News H D ob (List.range i) ks ∧ ks.Nodup ∧ ∀ k ∈ ks, H1 k = none) ⟨same_upd_of (fun _ _ e => e) nD, [], upd_same, ⟨rfl, fun _ _ _ e => nomatch e⟩, List.nodup_nil, fun _ h => nomatch h⟩ (fun i H _ z => Gs H z.1) (fun i x H H' hi z y => ?_) fun H z => ?_
  · obtain ⟨s1, ks, eD, nw, nd, nn⟩ := z
    refine turn i x H H' _ hi s1 ⟨_, eD⟩ y (fun t H4 s4 nt et => ?_)
    have s14 : Same H1 H4 := fun b o e => s4 _ _ (s1 _ _ e)
    have tD : t ≠ D := Ne.symm (ne_of_none eD nt)
    have lift : ∀ a o, a ≠ D → H a = some o → (upd H4 D (.lst (ks.map V.ref ++ [.ref t]))) a = some o := fun a o na e => by rw [upd_ne na]; exact s4 _ _ e
    have tn : t ∉ ks := fun m => by
      obtain ⟨j, hj, e⟩ := List.getElem_of_mem m
      have c2 : j < (List.range i).length := by rw [← nw.1]; exact hj
      have := (nw.2 j (List.range i)[j] ks[j] (List.getElem?_eq_getElem c2) (List.getElem?_eq_getElem hj)).2
      rw [e, nt] at this
      cases this
    refine ⟨_, s4 _ _ eD, ?_, same_upd_of s14 nD, ks ++ [t], ?_, ?_, ?_, fun k m => ?_⟩
    · rw [List.length_map, nw.1, List.length_range]
      exact Nat.lt_of_lt_of_le (show _ < 100001 by omega) (by decide)
    · rw [upd_same, List.map_append]
      rfl
    · rw [List.range_succ]
      exact nw.snoc lift tD (by rw [upd_ne tD]; exact et)
    · exact List.nodup_append.mpr ⟨nd, by simp, fun a ha b hb e => tn (by
        rw [List.mem_singleton.mp hb] at e
        exact e ▸ ha)⟩
    · rcases List.mem_append.mp m with m | m
      · exact nn k m
      · rw [List.mem_singleton.mp m]
        exact s1.free nt
  · obtain ⟨s1, ks, eD, nw, nd, nn⟩ := z
    exact done H ks s1 eD nw nd nn
end
end Nc
/-! Own rule: t[::-1] of a tuple of two. -/
namespace Nc
open PySem PySem.Spec PyProof.Rows L2 HT
section
variable {prog : Program} {w : World} {A : Around} {E : Value → Shared → Prop} {s : Shared}
theorem sliceApplied_back {sl : Addr} {vs : Value} {Q : Int × Int × Nat → Shared → Prop} (hs : s.heap.IsSliceOf sl .none .none vs) (ps : IsPart vs (some (-1)))
    (h : Q (1, -1, 2) s) : wpAny (model prog w) A (Builtin.Slice.sliceApplied (.ref sl) (pure (2 : Int))) Q E s := by
  obtain ⟨os, hos, hcs, hds⟩ := id hs
  unfold Builtin.Slice.sliceApplied Builtin.Slice.sliceFields
  refine wpAny_bind (wpAny_bind (wpAny_field hos hds (x := .none) rfl (wpAny_bind (wpAny_field hos hds (x := .none) rfl (wpAny_bind (wpAny_field hos hds (x := vs) rfl (wpAny_pure ?_)))))))
  refine wpAny_bind (slicePart_ ps ?_)
  show wpAny _ _ (if ((-1 : Int) == 0) = true then _ else _) _ _ s
  rw [if_neg (by decide)]
  refine wpAny_bind (slicePart_none (wpAny_bind (slicePart_none (wpAny_bind (wpAny_pure ?_)))))
  exact wpAny_pure h
theorem getItem_tuple_back {t sl : Addr} {x y vs : Value} {Q : Value → Shared → Prop} (ht : IsTup s.heap t #[x, y]) (hs : s.heap.IsSliceOf sl .none .none vs) (ps : IsPart vs (some (-1)))
    (h : Q (.ref s.heap.objs.size) { s with heap := s.heap.push { cls := .type "tuple", data := .seq #[y, x] } }) : wpAny (model prog w) A (getItem (.ref t) (.ref sl)) Q E s := by
  obtain ⟨os, hos, hcs, hds⟩ := id hs
  have hTs : s.TypeIs (.ref sl) "slice" := ⟨os, hos, hcs⟩
  have htake : sizeOk (.seq #[y, x]) := by
    show 2 ≤ sizeLine
    decide
  unfold getItem
  try with_reducible refine wpAny_holding ?_
  first | refine wpAny_bind (wpAny_pure ?_) | skip
  refine wpAny_bind (wpAny_sequenceKey ht.typeIs (by decide) ?_)
  refine wpAny_bind (wpAny_callSpecial?_slot (name := Str.ofString "__getitem__") ht.typeIs PyProof.Rows.slot_tuple_getitem
    (wpAny_call_entry PyProof.Rows.slot_tuple_getitem ht.typeIs entry_tuple_getitem ?_ (args_tuple_getitem _ _)))
  show wpAny _ _ (Builtin.Tuple.tupleItemsOf (.ref t) >>= _) _ _ s
  refine wpAny_bind (tupleItemsOf_ ht ?_)
  refine wpAny_bind (wpAny_typeOf hTs ?_)
  rw [if_pos (by decide)]
  refine wpAny_bind (sliceApplied_back hs ps ?_)
  show wpAny _ _ (if ((1 : Int) == 0 && (-1 : Int) == 1 && (2 : Nat) == 2) = true then _ else _) _ _ s
  rw [if_neg (by decide)]
  first
    | exact wpAny_bind (m := Builtin.Tuple.tupleExact _) (wpAny_newObj_type (wpAny_pure ⟨_, rfl, wpAny_pure h⟩) htake)
    | exact wpAny_bind (m := Builtin.Tuple.tupleExact _) (wpAny_newObj_type (wpAny_bind (wpAny_pure (wpAny_pure ⟨_, rfl, wpAny_pure h⟩))) htake)
    | exact wpAny_bind (wpAny_bind (m := Builtin.Tuple.tupleExact _) (wpAny_newObj_type (wpAny_pure (wpAny_pure ⟨_, rfl, wpAny_pure h⟩)) htake))
    | exact wpAny_bind (wpAny_bind (m := Builtin.Tuple.tupleExact _) (wpAny_newObj_type (wpAny_pure ⟨_, rfl, wpAny_pure h⟩) htake))
end
def tRevT (K : PySem.W.Frag) (te : TE) : TE := fun σ H Q => te σ H fun x H1 => ∃ a u v, x = .ref a ∧ SqT K H1 a [u, v] ∧ ∀ p, H1 p = none → Q (.ref p) (upd H1 p (.tup [v, u]))
theorem pe_revT {X : Cx} {e : Expr} {te : TE} {k : Nat} {p1 p2 p3 pos : Pos} (he : PE X e te) : PE X (.Subscript e (.Slice none none (some (.UnaryOp .USub (.Constant (.int 1) k p1) p2)) p3) pos) (tRevT X.K te) := by
  refine ⟨fun pins s σ H Q I h => ?_⟩
  refine Subscript_ (thn (he.run pins s σ H _ I h) fun v s1 ⟨x, H1, I1, r1, q1⟩ => ?_)
  obtain ⟨a, u, v, ex, hx, q⟩ := q1
  subst ex
  cases r1
  have hst : PO X (some (.UnaryOp .USub (.Constant (.int 1) k p1) p2)) (tPart (tUn (rU fun i => .int (-i)) (tC (.int 1)))) := po_some (pe_un un_neg pe_int)
  refine wpAny_Slice (thn (po_none.run pins s1 σ H1 (fun o H2 => o = none ∧ H2 = H1) I1 ⟨rfl, rfl⟩) fun vl s2 ⟨l, H2, I2, pl, el, e2⟩ => ?_)
  subst el e2
  refine thn (po_none.run pins s2 σ H2 (fun o H3 => o = none ∧ H3 = H2) I2 ⟨rfl, rfl⟩) fun vu s3 ⟨u', H3, I3, pu, eu, e3⟩ => ?_
  subst eu e3
  refine thn (hst.run pins s3 σ H3 (fun o H4 => o = some (-1) ∧ H4 = H3) I3 ⟨1, rfl, -1, rfl, rfl, rfl⟩) fun vs s4 ⟨o, H4, I4, ps, eo, e4⟩ => ?_
  subst eo e4
  cases pl
  cases pu
  have I5 : Inv X pins σ H4 { s4 with heap := s4.heap.push { cls := .type "slice", data := .fields #[.none, .none, vs] } } := I4.kept (t' := s4.toks) fun b ob q => Heap.get?_push_of_some _ q
  obtain ⟨its, r, ht, hz⟩ := I5.tuple hx
  obtain ⟨u1, u2, rfl, ra, rb⟩ : ∃ u1 u2, its = [u1, u2] ∧ RelV u u1 ∧ RelV v u2 := by
    cases r with
    | cons p q =>
      cases q with
      | cons p' q' =>
        cases q'
        exact ⟨_, _, rfl, p, p'⟩
  have ht2 : IsTup _ a #[u1, u2] := ht
  show wpAny (model X.prog X.w) X.A (subscriptTail e (.Slice none none (some (.UnaryOp .USub (.Constant (.int 1) k p1) p2)) p3) (.ref a) (.ref s4.heap.objs.size)) (EP X pins σ Q) X.xe { s4 with heap := s4.heap.push { cls := .type "slice", data := .fields #[.none, .none, vs] } }
  refine tail_any (ops := [.ref a, .ref s4.heap.objs.size]) ht2.typeIs (PyProof.Rows.slot_tuple_getitem.lookup) ?_ (by with_unfolding_all rfl)
  refine getItem_tuple_back ht2 (Heap.IsSliceOf.new _ .none .none vs) ps ?_
  refine ⟨.ref _, _, I5.laid (t' := s4.toks) (o := .tup [v, u]) (fun b ob q => Heap.get?_push_of_some _ q) (Nat.le_refl _) ?_, rfl, q _ (I5.hok.fresh (Nat.le_refl _))⟩
  exact ⟨by show 2 ≤ sizeLine; decide, [u2, u1], .cons rb (.cons ra .nil), ⟨_, Heap.get?_push_size _ rfl, rfl, _, rfl⟩⟩
end Nc
/-! Own rule: the slice from the end down to the second item. -/
namespace Nc
open PySem PySem.Spec PyProof.Rows L2
end Nc
/-! Own rule: sorted of a list of things that are known as data, by their data. -/
namespace Nc
open PySem PySem.Spec PyProof.Rows L2
end Nc
/-! Own rules: min, max of two pairs. -/
namespace Nc
open PySem PySem.Spec PyProof.Rows L2
section
variable {X : Cx}
def rMin2 (le : Int × Int → Int × Int → Prop) : List V → Hp → VK → Prop := fun vs H Q => ∃ (t u : Addr) (f : Addr → Int × Int), vs = [V.ref t, V.ref u] ∧ H t = some (.tup [.int (f t).1, .int (f t).2]) ∧ H u = some (.tup [.int (f u).1, .int (f u).2]) ∧
  ∀ v, (v = t ∨ v = u) → le (f v) (f t) → le (f v) (f u) → Q (.ref v) H
theorem cr_min2 (hc : X.calm = true) (hu : X.A.units + 1 < cLine) : CallR X (.builtin "min") (rMin2 lexLe) := by
  intro pins s σ H vs us Q I r h
  obtain ⟨t, u, f, rfl, ht, hu2, q⟩ := h
  obtain ⟨v1, v2, rfl, rfl, rfl⟩ := vals2 r
  have hname : (toString "min" ++ toString ".loop" : String) = "min.loop" := by decide
  refine call_function_tree PySem.F.kind_min PySem.F.plain_min PySem.F.entry_min (PySem.F.args_min2 _ _) ?_
  show wpAny _ X.A.in1 (Builtin.Builtins.bindParams "min" ["key", "default"] 0 ⟨[], []⟩ >>= _) _ _ s
  refine wpAny_bind (wpAny_of_eq (show Builtin.Builtins.bindParams "min" ["key", "default"] 0 ⟨[], []⟩ = pure [none, none] from rfl) ?_)
  show wpAny _ X.A.in1 (newTuple [.ref t, .ref u] >>= _) _ _ s
  refine wpAny_bind (wpAny_newObj_type ?_)
  have kt : ∀ b o, s.heap.get? b = some o → (s.heap.push { cls := .type "tuple", data := .seq #[Value.ref t, Value.ref u] }).get? b = some o := fun b o z => Heap.get?_push_of_some _ z
  have hT : ({ s with heap := s.heap.push { cls := .type "tuple", data := .seq #[Value.ref t, Value.ref u] } } : Shared).heap.IsTuple s.heap.objs.size #[Value.ref t, Value.ref u] := ⟨_, Heap.get?_push_size _ rfl, rfl, 0, rfl⟩
  refine wpAny_bind (PySem.W.iter_tupleW (A := X.A.in1) (s := { s with heap := s.heap.push { cls := .type "tuple", data := .seq #[Value.ref t, Value.ref u] } }) (I.ok.hd hc) hT fun s₂ e W st hfp hw hk => ?_)
  have kp : ∀ b o, s.heap.get? b = some o → s₂.heap.get? b = some o := fun b o z => hk b o (kt b o z)
  have val : ∀ (i : Nat) v, (#[Value.ref t, Value.ref u] : Array Value)[i]? = some v → ∃ x, v = .ref x ∧ (x = t ∨ x = u) ∧ f ([t, u].getD i t) = f x ∧ H x = some (.tup [.int (f x).1, .int (f x).2]) := fun i v hv => by
    match i, hv with
    | 0, hv => exact ⟨t, (Option.some.inj hv).symm, .inl rfl, rfl, ht⟩
    | 1, hv => exact ⟨u, (Option.some.inj hv).symm, .inr rfl, rfl, hu2⟩
  refine wpAny_bind (wpAny_newObj_type ?_)
  have hSf := fun hm => Nat.lt_irrefl _ (hfp s₂.heap.objs.size hm)
  rw [hname]
  refine wpAny_pure ⟨plainId_quiet PySem.F.plain_min_loop _, codeAny_min_loop_firstH W _ hw (fun i j => decide (¬ lexLe (f ([t, u].getD j t)) (f ([t, u].getD i t)))) (fun i j vi vj s' Q' E' hk' hi hj hq => ?_) s₂.heap.objs.size hSf (fresh_in hk) _ (by simp) (fun b o z => Heap.get?_push_of_some _ (hk b o z)) (W.frame 0 s₂ _ s₂.toks st (Nat.le_refl _) fun b _ o z => Heap.get?_push_of_some _ z) (Heap.get?_push_size _ rfl) fun v s' hP hm => ?_⟩
  · obtain ⟨x, rfl, _, e1, hx⟩ := val i vi hi
    obtain ⟨y, rfl, _, e2, hy⟩ := val j vj hj
    have z := tup_less (s2 := s') (ns := [(f x).1, (f x).2]) (ms := [(f y).1, (f y).2]) I hx hy hu fun b o z => hk' b o (kt b o z)
    have e3 : lexP (fun x y => decide (x < y)) (decide ([(f x).1, (f x).2].length < [(f y).1, (f y).2].length)) [(f x).1, (f x).2] [(f y).1, (f y).2] = decide (¬ lexLe (f y) (f x)) := lexP_pair _ _
    rw [e3] at z
    have hq : Q' (.bool (decide (¬ lexLe (f ([t, u].getD j t)) (f ([t, u].getD i t))))) s' := hq
    rw [e1, e2] at hq
    exact z X.prog X.w _ _ hq
  · obtain ⟨h', tk, rfl, hk'⟩ := PySem.W.moved_old e rfl (PySem.Moved.drop_new (tk := s₂.toks) hm (Nat.le_refl _))
    obtain ⟨x, rfl, mx, e1, hx⟩ := val _ v hP
    obtain ⟨b1, b2⟩ := argBest_le (fun i => (f ([t, u].getD i t))) 1
    have c0 := b2 0 (by omega)
    have c1 := b2 1 (by omega)
    refine ⟨.ref x, H, I.kept (t' := tk) fun c o z => hk' c o (kt c o z), rfl, q x mx ?_ ?_⟩
    · rw [← e1]
      exact c0
    · rw [← e1]
      exact c1
theorem cr_max2 (hc : X.calm = true) (hu : X.A.units + 1 < cLine) : CallR X (.builtin "max") (rMin2 (fun p q => lexLe q p)) := by
  intro pins s σ H vs us Q I r h
  obtain ⟨t, u, f, rfl, ht, hu2, q⟩ := h
  obtain ⟨v1, v2, rfl, rfl, rfl⟩ := vals2 r
  have hname : (toString "max" ++ toString ".loop" : String) = "max.loop" := by decide
  refine call_function_tree PySem.F.kind_max PySem.F.plain_max PySem.F.entry_max (PySem.F.args_max2 _ _) ?_
  show wpAny _ X.A.in1 (Builtin.Builtins.bindParams "max" ["key", "default"] 0 ⟨[], []⟩ >>= _) _ _ s
  refine wpAny_bind (wpAny_of_eq (show Builtin.Builtins.bindParams "max" ["key", "default"] 0 ⟨[], []⟩ = pure [none, none] from rfl) ?_)
  show wpAny _ X.A.in1 (newTuple [.ref t, .ref u] >>= _) _ _ s
  refine wpAny_bind (wpAny_newObj_type ?_)
  have kt : ∀ b o, s.heap.get? b = some o → (s.heap.push { cls := .type "tuple", data := .seq #[Value.ref t, Value.ref u] }).get? b = some o := fun b o z => Heap.get?_push_of_some _ z
  have hT : ({ s with heap := s.heap.push { cls := .type "tuple", data := .seq #[Value.ref t, Value.ref u] } } : Shared).heap.IsTuple s.heap.objs.size #[Value.ref t, Value.ref u] := ⟨_, Heap.get?_push_size _ rfl, rfl, 0, rfl⟩
  refine wpAny_bind (PySem.W.iter_tupleW (A := X.A.in1) (s := { s with heap := s.heap.push { cls := .type "tuple", data := .seq #[Value.ref t, Value.ref u] } }) (I.ok.hd hc) hT fun s₂ e W st hfp hw hk => ?_)
  have kp : ∀ b o, s.heap.get? b = some o → s₂.heap.get? b = some o := fun b o z => hk b o (kt b o z)
  have val : ∀ (i : Nat) v, (#[Value.ref t, Value.ref u] : Array Value)[i]? = some v → ∃ x, v = .ref x ∧ (x = t ∨ x = u) ∧ f ([t, u].getD i t) = f x ∧ H x = some (.tup [.int (f x).1, .int (f x).2]) := fun i v hv => by
    match i, hv with
    | 0, hv => exact ⟨t, (Option.some.inj hv).symm, .inl rfl, rfl, ht⟩
    | 1, hv => exact ⟨u, (Option.some.inj hv).symm, .inr rfl, rfl, hu2⟩
  refine wpAny_bind (wpAny_newObj_type ?_)
  have hSf := fun hm => Nat.lt_irrefl _ (hfp s₂.heap.objs.size hm)
  rw [hname]
  refine wpAny_pure ⟨plainId_quiet PySem.F.plain_max_loop _, codeAny_max_loop_firstH W _ hw (fun i j => decide (¬ lexLe (ngP (f ([t, u].getD j t))) (ngP (f ([t, u].getD i t))))) (fun i j vi vj s' Q' E' hk' hi hj hq => ?_) s₂.heap.objs.size hSf (fresh_in hk) _ (by simp) (fun b o z => Heap.get?_push_of_some _ (hk b o z)) (W.frame 0 s₂ _ s₂.toks st (Nat.le_refl _) fun b _ o z => Heap.get?_push_of_some _ z) (Heap.get?_push_size _ rfl) fun v s' hP hm => ?_⟩
  · obtain ⟨x, rfl, _, e1, hx⟩ := val i vi hi
    obtain ⟨y, rfl, _, e2, hy⟩ := val j vj hj
    have z := tup_more (s2 := s') (ns := [(f x).1, (f x).2]) (ms := [(f y).1, (f y).2]) I hx hy hu fun b o z => hk' b o (kt b o z)
    have e3 : lexP (fun x y => decide (y < x)) (decide ([(f y).1, (f y).2].length < [(f x).1, (f x).2].length)) [(f x).1, (f x).2] [(f y).1, (f y).2] = decide (¬ lexLe (ngP (f y)) (ngP (f x))) := (lexP_pairG _ _).trans (by rw [decide_eq_decide, lexLe_ng])
    rw [e3] at z
    have hq : Q' (.bool (decide (¬ lexLe (ngP (f ([t, u].getD j t))) (ngP (f ([t, u].getD i t)))))) s' := hq
    rw [e1, e2] at hq
    exact z X.prog X.w _ _ hq
  · obtain ⟨h', tk, rfl, hk'⟩ := PySem.W.moved_old e rfl (PySem.Moved.drop_new (tk := s₂.toks) hm (Nat.le_refl _))
    obtain ⟨x, rfl, mx, e1, hx⟩ := val _ v hP
    obtain ⟨b1, b2⟩ := argBest_le (fun i => ngP (f ([t, u].getD i t))) 1
    have c0 := b2 0 (by omega)
    have c1 := b2 1 (by omega)
    refine ⟨.ref x, H, I.kept (t' := tk) fun c o z => hk' c o (kt c o z), rfl, q x mx ?_ ?_⟩
    · rw [← e1]
      exact (lexLe_ng _ _).mp c0
    · rw [← e1]
      exact (lexLe_ng _ _).mp c1
end
end Nc
/-! Own rules: C(k = v) of an own class with one parameter; == of two of one own class by its promise. -/
namespace Nc
open PySem PySem.Spec PyProof.Rows L2
/-- the class x is made by C(y = v), too -/
structure MakK (P : Program) (w : World) (K : PySem.W.Frag) (mg : Str → Option Value) (base : Heap) (k : Nat) (x : Str) (C : Addr) (y : Str) (sp : Sp) : Prop where
  ex : ∃ (f : Addr) (fd : FuncData) (ps : List Str), Mk K C f ∧ FnOk P w K mg base C8.CX0 k f fd ps sp ∧ mg x = some (.ref C) ∧ KBn K fd ps 1 [y] (fun us ws => us ++ ws) (fun vs zs => vs ++ zs)
/-- what binds self and one keyword -/
theorem kbn_one {K : PySem.W.Frag} {q y : Str} {st : Stmt} {f : Addr} {fd : FuncData} {ps : List Str} (F : Fun K "__init__" q st f fd)
    (h : ∀ (kV doc pm : Value) (an : Option Addr) (cdv ct : Value) (u v : Value), bindArgs (PySem.W.fnOf "__init__" q (defArgs st) (defBody st) (defScope st) .none kV doc pm an cdv ct) ⟨[u], [(y, v)]⟩ = (pure (ps.zip [u, v]) : Sem (List (Str × Value)))) :
    KBn K fd ps 1 [y] (fun us ws => us ++ ws) (fun vs zs => vs ++ zs) := by
  obtain ⟨oc, od, kV, doc, pm, an, cdv, ct, osl, rfl, lk, hcd⟩ := F.ex
  refine ⟨fun s us ws _ l1 l2 => ?_, fun r1 r2 => Vals.append r1 r2⟩
  match us, ws, l1, l2 with
  | [u], [v], _, _ => exact .of_eq (h kV doc pm an cdv ct u v)
end Nc
/-! Own rules: x in t, x not in t of a tuple of data of any depth. -/
namespace Nc
open PySem PySem.Spec PyProof.Rows L2
section
variable {X : Cx}
def rNotInTD (K : PySem.W.Frag) : R2 := fun x y H Q => ∃ d ds, Dp K H x d ∧ Dp K H y (.tuple ds) ∧ SeqAt.shaped d = true ∧ SeqAt.shaped (.tuple ds) = true ∧ Q (.bl (!ds.any fun z => PyData.eqv z d)) H
theorem op_notInTD (hu : X.A.units + 65 < cLine) : OpR X (compareOp .NotIn) (rNotInTD X.K) := by
  intro pins s σ H x y v u Q I rx ry ⟨d, ds, hd, he, sd, se, q⟩
  obtain ⟨_, r1⟩ := Dp.reads I d x v hd rx
  obtain ⟨_, r2⟩ := Dp.reads I (.tuple ds) y u he ry
  exact SeqAt.notIn_tuple_reads r2 r1 (SeqAt.canLay_of_shaped se) (SeqAt.canLay_of_shaped sd) (room_in_shaped sd hu) ⟨.bl _, H, I, rfl, q⟩
end
end Nc
/-! Own rules: for i, x in enumerate(t) of a tuple. -/
namespace Nc
open PySem PySem.Spec PyProof.Rows L2
/-- the new object of enumerate(v), v told by how ws iterator begins -/
abbrev enO (h : Heap) : Obj := { cls := .type "enumerate", data := .fields #[.none, .bool false, .ref h.objs.size, rawInt 0, .none, .none] }
set_option maxHeartbeats 1000000 in
theorem en_meets {v : Value} {o : Obj} {G : Heap → Prop} (B : Begins v o G) :
    Meets (Builtin.«enumerate.__new__» ⟨[.type "enumerate", v], []⟩) (fun _ R s => G s.heap ∧ R (.ok (.ret (.ref (s.heap.push o).objs.size))) { s with heap := (s.heap.push o).push (enO s.heap) }) := by
  refine .of_wp fun prog w A R s ⟨g1, h⟩ => ?_
  obtain ⟨h0, g0, d0, t0, o0⟩ := s
  have sub := sub_enumerate
  have go : ∀ {A' : Around} {E Q : Value → Shared → Prop}, Q (.ref h0.objs.size) ⟨h0.push o, g0, d0, t0, o0⟩ → wpAny (model prog w) A' (pyIter v) Q E ⟨h0, g0, d0, t0, o0⟩ := fun q => B.iter prog w _ _ ⟨h0, g0, d0, t0, o0⟩ _ g1 q
  wp_walk using go
  refine wpAny_stack_any fun _ => wpAny_pure ?_
  split
  · rename_i c _ _ _ _ _
    cases (c == Value.type "enumerate") <;> (wp_walk using go; exact ⟨_, rfl, h⟩)
  · wp_walk using go
    exact ⟨_, rfl, h⟩
section
variable {prog : Program} {w : World} {A : Around} {E Q : Value → Shared → Prop} {s : Shared}
theorem en_call {v : Value} {o : Obj} {G : Heap → Prop} (B : Begins v o G) (g1 : G s.heap)
    (h : ∀ h', IsEnum h' (s.heap.objs.size + 1) s.heap.objs.size 0 .none → h'.get? s.heap.objs.size = some o → (∀ b o, s.heap.get? b = some o → h'.get? b = some o) → Q (.ref (s.heap.objs.size + 1)) { s with heap := h' }) :
    wpAny (model prog w) A (call (.type "enumerate") [v]) Q E s := by
  refine callType_new F.called_enumerate (by decide) (F.typeCall_enumerate_1 _) (F.newCall_enumerate_1 _) (fun x => F.args_object_init_2 x _) F.entry_enumerate_new (en_meets B) ⟨g1, ?_⟩
  have z : (s.heap.push o).objs.size = s.heap.objs.size + 1 := Heap.size_push ..
  show _ ∧ _
  rw [z]
  have he : IsEnum ((s.heap.push o).push (enO s.heap)) (s.heap.objs.size + 1) s.heap.objs.size 0 .none := by
    have q := Heap.get?_push_size (s.heap.push o) (o := enO s.heap) rfl
    rwa [z] at q
  exact ⟨⟨_, he, rfl⟩, h _ he (Heap.get?_push_of_some _ (Heap.get?_push_size _ B.free)) fun b o x => Heap.get?_push_of_some _ (Heap.get?_push_of_some _ x)⟩
end
/-- the turns: a new pair (i, x) for each item of the tuple at a -/
def Itf (K : PySem.W.Frag) (a : Addr) (n : Nat) : It :=
  ⟨fun i H => i < n ∧ ∃ (xs : List V) (x : V), SqT K H a xs ∧ xs[i]? = some x,
   fun i H v H' => ∃ T x, v = .ref T ∧ H T = none ∧ H' = upd H T (.tup [.int (i : Nat), x]) ∧ ∀ ys, SqT K H a ys → ys[i]? = some x,
   fun i H => n ≤ i ∧ ∃ xs : List V, SqT K H a xs ∧ xs.length = n⟩
theorem turn_enT {P : Program} {w : World} {K : PySem.W.Frag} {es : List Expr} {m : Nat} {tp : Pos} (a e it : Addr) (n : Nat) :
    Turn P w K (.Tuple es m tp) (Itf K a n) [e, it] e (fun i h => (∃ x, IsEnum h e it ((i : Nat) : Int) x) ∧ h.IsTupleIter it a i ∧ e ≠ it ∧ e ≠ a ∧ a ≠ it ∧ i ≤ n) where
  mem := by simp
  obj := by
    rintro i h ⟨⟨x, he⟩, ⟨o, ho, hc, hd⟩, _⟩ b hb
    rcases (show b = e ∨ b = it by simpa using hb) with rfl | rfl
    · exact ⟨_, he, fun v q => nomatch q⟩
    · exact ⟨o, ho, fun v q => by rw [hd] at q; cases q⟩
  keep := by
    rintro i h h' ⟨⟨x, he⟩, hi, r⟩ k
    exact ⟨⟨x, k e (by simp) _ he⟩, hi.at fun o q => k it (by simp) o q, r⟩
  item := by
    intro X eP ew eK cm i pins s σ H E I hf st hg
    subst eP ew eK
    obtain ⟨⟨old, he⟩, hit, n1, n2, n3, n4⟩ := st
    obtain ⟨hin, xs, x, hq, hx⟩ := hg
    obtain ⟨ws, rl, p, hlen⟩ := I.tuple hq
    obtain ⟨u, hu, ru⟩ := rl.get hx
    have le : e < s.heap.objs.size := Heap.lt_size he
    have li : it < s.heap.objs.size := by
      obtain ⟨_, q, _⟩ := hit
      exact Heap.lt_size q
    have lt : i < ws.toArray.size := by
      have := (List.getElem?_eq_some_iff.mp hu).1
      simpa using this
    refine wpAny_pyNext_enum_itemD (Draws.tuple (prog := X.prog) (w := X.w) (A := X.A.in1) (show X.A.in1.handled = none from I.ok.hd cm) it a n3 ws.toArray) he ⟨hit, p⟩ lt n1 (by simp [n1, n2]) fun u' h' tk hx' ho st' hT hsz hk => ?_
    have eu : u' = u := by
      rw [List.getElem?_toArray, hu] at hx'
      exact (Option.some.inj hx').symm
    subst eu
    refine ⟨_, rfl, wpAny_letOwnedTupleGo_enum (s := { s with heap := h', toks := tk + 1 }) ho fun h'' he' sb => ?_⟩
    have hT2 := (sb.2 _ (Nat.ne_of_gt le)).trans hT
    have new : ObjOk X.prog X.w (upd H s.heap.objs.size (.tup [.int (i : Nat), x])) h'' s.heap.objs.size
        (.tup [.int (i : Nat), x]) :=
      ⟨by show 2 ≤ sizeLine; decide, [.int i tk, u'], .cons ⟨_, rfl⟩ (.cons ru .nil), ⟨_, hT2, rfl, _, rfl⟩⟩
    have I1 : Inv X pins σ (upd H s.heap.objs.size (.tup [.int (i : Nat), x])) { s with heap := h'', toks := tk + 1 } :=
      I.turnedNew (ch := [e, it]) (fun b ob hb q => by
        have hb : b ≠ e ∧ b ≠ it := by simpa using hb
        exact (sb.2 b hb.1).trans (hk b ob hb.1 hb.2 q)) hf (Nat.le_refl _) new
    refine ⟨.ref s.heap.objs.size, _, I1, rfl, ⟨_, x, rfl, I.hok.fresh (Nat.le_refl _), rfl, fun ys hy => by rw [I.tuple_inj hy hq]; exact hx⟩, ⟨⟨u', ?_⟩, st'.1.at fun o q => (sb.2 it (Ne.symm n1)).trans q, n1, n2, n3, hin⟩, fun b hb => ?_⟩
    · rw [show ((i + 1 : Nat) : Int) = (i : Int) + 1 by omega]
      exact he'
    · have lb : b < s.heap.objs.size := by
        rcases (show b = e ∨ b = it by simpa using hb) with rfl | rfl
        · exact le
        · exact li
      rw [upd_ne (Nat.ne_of_lt lb)]
      exact (hf b hb).1
  done := by
    intro X eP ew eK cm i pins s σ H E I hf st hg
    subst eP ew eK
    obtain ⟨⟨old, he⟩, hit, n1, n2, n3, n4⟩ := st
    obtain ⟨hin, xs, hq, hx⟩ := hg
    obtain ⟨ws, rl, p, hlen⟩ := I.tuple hq
    obtain ⟨f0, f1, f2, f3, f4, f5⟩ := hf it (by simp)
    have hl := rl.length
    have hi : i = ws.toArray.size := by
      rw [List.size_toArray]
      omega
    rw [hi] at hit
    exact wpAny_pyNext_enum_endD (Draws.tuple (prog := X.prog) (w := X.w) (A := X.A.in1) (show X.A.in1.handled = none from I.ok.hd cm) it a n3 ws.toArray) he ⟨hit, p⟩ fun h' eb => ⟨rfl, I.turned (t' := s.toks) (fun b o hb q => eb b o hb q) f0 f1 f3 f4 f5⟩
  self := fun A i s Q E st h => by
    obtain ⟨⟨_, he⟩, _⟩ := st
    exact wpAny_pyIter_enum he h
/-- enumerate(t) of a tuple of n items -/
def iEnT (K : PySem.W.Frag) (ta : TA) : TI := fun σ H R => ta σ H fun vs H1 => ∃ a xs, vs = [.ref a] ∧ SqT K H1 a xs ∧ R (Itf K a xs.length) H1
theorem pi_enT {X : Cx} {e : Expr} {ta : TA} {p pos tp : Pos} {es : List Expr} {m : Nat} (hg : Gl X "enumerate") (hm : X.mg "enumerate" = none) (ha : PA X [e] ta)
    (hs : starEach [e] X.env = [(false, eval e X.env)] := by rfl) : PI X (.Tuple es m tp) (.Call (.Name "enumerate" p) [e] [] pos) (iEnT X.K ta) := by
  refine ⟨fun pins s σ H R I h => Call_ (ld_blt I hg hm boot_enumerate (callWith_type1 (thn (ha.run pos pins s σ H _ I h) fun us s1 ⟨vs, H1, I1, r1, q1⟩ => ?_) hs rfl))⟩
  obtain ⟨a, xs, rfl, hq, q⟩ := q1
  cases r1 with
  | cons r rr =>
    cases rr
    cases r
    obtain ⟨ws, rl, p', hlen⟩ := I1.tuple hq
    have la : a < s1.heap.objs.size := by
      obtain ⟨_, w, _⟩ := p'
      exact Heap.lt_size w
    refine en_call (begins_tuple a ws.toArray) p' fun h' he hit hk => wpAny_pyIter_enum he ?_
    have I2 : Inv X pins σ H1 { s1 with heap := h' } := I1.kept (t' := s1.toks) hk
    refine ⟨s1.heap.objs.size + 1, [s1.heap.objs.size + 1, s1.heap.objs.size], _, _, H1, rfl, I2, turn_enT a (s1.heap.objs.size + 1) s1.heap.objs.size xs.length, ⟨⟨.none, he⟩, ⟨_, hit, rfl, rfl⟩, Nat.succ_ne_self _, Nat.ne_of_gt (Nat.lt_succ_of_lt la), Nat.ne_of_lt la, Nat.zero_le _⟩, fun b hb => ?_, q⟩
    have le : s1.heap.objs.size ≤ b := by
      rcases (show b = s1.heap.objs.size + 1 ∨ b = s1.heap.objs.size by simpa using hb) with rfl | rfl
      · exact Nat.le_add_right _ _
      · exact Nat.le_refl _
    exact I1.fpOk le (I1.hok.fresh le)
theorem walk_enT {K : PySem.W.Frag} {a : Addr} {xs : List V} : Walk (Itf K a xs.length) xs.length (fun H => SqT K H a xs) (YPair (fun i => some (.int (i : Nat))) (fun i => xs[i]?)) := by
  refine ⟨fun i _ hi q => ⟨hi, xs, xs[i], q, by simp [hi]⟩, fun _ q => ⟨Nat.le_refl _, xs, q, rfl⟩, fun i H v H' _ q y => ?_⟩
  obtain ⟨T, x, h1, h2, h3, h4⟩ := y
  exact ⟨T, .int (i : Nat), x, h1, h2, h3, rfl, h4 xs q⟩
end Nc
namespace NcK
open PySem PySem.Spec PyProof.Rows L2 Nc
def topS (i : Nat) : Stmt := PySem.Challenge.pw_nearcells_k14_papers_for_edges.main.body.getD i (.Pass ⟨0, 0, 0, 0⟩)
/-! words of this text: bits, what stands in the heap, one step of a reading -/
local macro_rules | `(tactic| array_mem_dec) => `(tactic| first
  | (refine nbu (by assumption) (by decide); done)
  | (refine nbu (j := 21) (by omega) (by decide); done)
  | (refine nbm ?_ ?_ <;> array_mem_dec)
  | (refine nba (by decide) ?_ ?_ <;> array_mem_dec)
  | (refine nbs (by decide) ?_ ?_ <;> array_mem_dec)
  | (refine nbn ?_; array_mem_dec)
  | (refine nbu (j := 64) (by decide) (by decide); done))
local macro_rules | `(tactic| sizeOf_list_dec) => `(tactic| first
  | assumption
  | exact upd_same
  | (refine (by assumption : Same _ _) _ _ ?_; sizeOf_list_dec))
local macro_rules | `(tactic| array_get_dec) => `(tactic| first
  | refine ⟨_, rfl, ?_⟩
  | refine ⟨_, _, rfl, rfl, ?_⟩
  | refine ⟨_, _, _, _, rfl, rfl, SqT.of (by sizeOf_list_dec), by rfl, ?_⟩
  | refine ⟨_, _, _, _, rfl, rfl, SqL.of (by sizeOf_list_dec), by rfl, ?_⟩
  | refine ⟨_, _, rfl, SqT.of (by sizeOf_list_dec), by rfl, ?_⟩
  | refine ⟨_, _, _, _, _, rfl, .ty _, .base (.int _), kit_ty (r := true) (by decide +kernel), ?_⟩
  | refine ⟨_, _, _, _, _, rfl, .ty _, .base (.tup (by sizeOf_list_dec)), kit_ty (r := true) (by decide +kernel), ?_⟩
  | refine ⟨_, _, _, _, _, rfl, .ty _, .base (.lst (by sizeOf_list_dec)), kit_ty (r := true) (by decide +kernel), ?_⟩
  | refine ⟨_, _, _, _, _, rfl, .ty _, .base (.int _), kit_ty (r := false) (by decide +kernel), ?_⟩
  | refine ⟨_, _, rfl, .inr (SqT.of (by sizeOf_list_dec)), ?_⟩
  | refine ⟨_, _, rfl, .inl (SqL.of (by sizeOf_list_dec)), ?_⟩
  | refine w_itf (by omega) ?_
  | refine w_itt (by omega) ?_
  | refine w_ntt (by omega) ?_
  | refine w_ntf (by omega) ?_
  | refine w_itt (congrArg V.int (by omega)) ?_
  | refine w_itf (fun e => absurd (V.int.inj e) (by omega)) ?_
  | refine w_ntt (congrArg V.int (by omega)) ?_
  | refine w_ntf (fun e => absurd (V.int.inj e) (by omega)) ?_
  | refine ⟨_, _, rfl, ?_⟩
  | refine ⟨(by refine cmw ?_ ?_ <;> array_mem_dec : CMulW _ _), ?_⟩
  | refine ⟨⟨by decide, by decide, by decide⟩, ?_⟩
  | refine ⟨Nat.le_trans (m := 64) (by simp) (by decide), ?_⟩
  | refine ⟨rfl, ?_⟩
  | refine ⟨_, _, _, rfl, ?_⟩
  | refine Or.inl ⟨_, rfl, ?_⟩
  | refine Or.inr ⟨_, rfl, ?_⟩)
/-! ### hulls: chains of sorted sites -/
abbrev Pt := Int × Int
def crs (u v : Pt) : Int := u.1 * v.2 - u.2 * v.1
def vec (a b : Pt) : Pt := (b.1 - a.1, b.2 - a.2)
/-- the double area, above 0 for a turn to the left -/
def tn (a b c : Pt) : Int := (b.1 - a.1) * (c.2 - a.2) - (b.2 - a.2) * (c.1 - a.1)
/-- to the right, or straight up -/
def fwd (u : Pt) : Prop := 0 < u.1 ∨ (u.1 = 0 ∧ 0 < u.2)
def lt2 (a b : Pt) : Prop := a.1 < b.1 ∨ (a.1 = b.1 ∧ a.2 < b.2)
theorem fwd_vec {a b : Pt} : fwd (vec a b) ↔ lt2 a b := by
  unfold fwd vec lt2
  simp only
  omega
theorem lt2_tr {a b c : Pt} (h : lt2 a b) (k : lt2 b c) : lt2 a c := by
  unfold lt2 at *
  omega
theorem lt2_irr {a : Pt} : ¬ lt2 a a := by
  unfold lt2
  omega
theorem lt2_tri {a b : Pt} (h : a ≠ b) : lt2 a b ∨ lt2 b a := by
  unfold lt2
  have : a.1 ≠ b.1 ∨ a.2 ≠ b.2 := by
    by_cases c : a.1 = b.1
    · exact .inr fun d => h (Prod.ext c d)
    · exact .inl c
  omega
theorem ltge (a b : Int) : a < b ∨ b ≤ a := by omega
theorem mul_nn {a b : Int} (h : 0 ≤ a) (k : 0 ≤ b) : 0 ≤ a * b := Int.mul_nonneg h k
theorem of_mul_nn {a b : Int} (h : 0 ≤ a * b) (k : 0 < b) : 0 ≤ a := by
  rcases ltge a 0 with z | z
  · have := Int.mul_neg_of_neg_of_pos z k
    omega
  · exact z
theorem of_mul_pos {a b : Int} (h : 0 < a * b) (k : 0 < b) : 0 < a := by
  rcases ltge 0 a with z | z
  · exact z
  · have := Int.mul_nonpos_of_nonpos_of_nonneg z (Int.le_of_lt k)
    omega
/-- what goes forward is ordered by its slope -/
theorem crs_tr {u v w : Pt} (fu : fwd u) (fv : fwd v) (fw : fwd w) (h : 0 ≤ crs u v) (k : 0 ≤ crs v w) : 0 ≤ crs u w := by
  obtain ⟨u1, u2⟩ := u
  obtain ⟨v1, v2⟩ := v
  obtain ⟨w1, w2⟩ := w
  unfold crs fwd at *
  simp only at *
  rcases fv with v0 | ⟨v0, v3⟩
  · have e : (u1 * w2 - u2 * w1) * v1 = (u1 * v2 - u2 * v1) * w1 + (v1 * w2 - v2 * w1) * u1 := by grind
    have p1 := mul_nn h (show 0 ≤ w1 by omega)
    have p2 := mul_nn k (show 0 ≤ u1 by omega)
    exact of_mul_nn (by omega) v0
  · subst v0
    have w0 : w1 = 0 := by
      have : 0 ≤ -(v2 * w1) := by omega
      rcases ltge 0 w1 with z | z
      · have := Int.mul_pos v3 z
        omega
      · omega
    subst w0
    have := mul_nn (show 0 ≤ u1 by omega) (show 0 ≤ w2 by omega)
    omega
theorem crs_tr_lt {u v w : Pt} (fu : fwd u) (fv : fwd v) (fw : fwd w) (h : 0 < crs u v) (k : 0 ≤ crs v w) : 0 < crs u w := by
  obtain ⟨u1, u2⟩ := u
  obtain ⟨v1, v2⟩ := v
  obtain ⟨w1, w2⟩ := w
  unfold crs fwd at *
  simp only at *
  have u0 : 0 < u1 := by
    rcases fu with z | ⟨z, y⟩
    · exact z
    · subst z
      have := mul_nn (show 0 ≤ u2 by omega) (show 0 ≤ v1 by omega)
      omega
  rcases fv with v0 | ⟨v0, v3⟩
  · have e : (u1 * w2 - u2 * w1) * v1 = (u1 * v2 - u2 * v1) * w1 + (v1 * w2 - v2 * w1) * u1 := by grind
    refine of_mul_pos (b := v1) ?_ v0
    rw [e]
    rcases fw with w0 | ⟨w0, w3⟩
    · have p1 := Int.mul_pos h w0
      have p2 := mul_nn k (Int.le_of_lt u0)
      omega
    · subst w0
      have p1 := Int.mul_pos (Int.mul_pos v0 w3) u0
      grind
  · subst v0
    have w0 : w1 = 0 := by
      rcases ltge 0 w1 with z | z
      · have := Int.mul_pos v3 z
        omega
      · omega
    subst w0
    have := Int.mul_pos u0 (show 0 < w2 by omega)
    omega
theorem crs_neg (u v : Pt) : crs u v = -crs v u := by
  unfold crs
  grind
theorem tn_crs (a b c : Pt) : tn a b c = crs (vec a b) (vec a c) ∧ tn a b c = crs (vec a b) (vec b c) ∧ tn a b c = crs (vec a c) (vec b c) := by
  unfold tn crs vec
  simp only
  grind
theorem tn_rot (a b c : Pt) : tn a b c = tn b c a := by
  unfold tn
  grind
theorem tn_swap (a b c : Pt) : tn b a c = -tn a b c := by
  unfold tn
  grind
theorem tn_end (a b : Pt) : tn a b a = 0 ∧ tn a b b = 0 := by
  unfold tn
  grind
/-- a further one behind an edge, over it -/
theorem over_next {a b c d : Pt} (ab : lt2 a b) (bc : lt2 b c) (cd : lt2 c d) (h : 0 ≤ tn a b c) (k : 0 ≤ tn b c d) : 0 ≤ tn a b d := by
  rw [(tn_crs a b c).2.1] at h
  rw [(tn_crs b c d).2.1] at k
  have fab := fwd_vec.mpr ab
  have fbc := fwd_vec.mpr bc
  have fcd := fwd_vec.mpr cd
  have t := crs_tr fab fbc fcd h k
  have e : tn a b d = crs (vec a b) (vec b c) + crs (vec a b) (vec c d) := by
    unfold tn crs vec
    grind
  omega
/-- behind a: what is over an edge a, b is over a, s, if s is not over a, b -/
theorem over_fore {a b s p : Pt} (ab : lt2 a b) (as : lt2 a s) (ap : lt2 a p) (h : tn a b s ≤ 0) (k : 0 ≤ tn a b p) : 0 ≤ tn a s p := by
  rw [(tn_crs a b s).1] at h
  rw [(tn_crs a b p).1] at k
  rw [(tn_crs a s p).1]
  exact crs_tr (fwd_vec.mpr as) (fwd_vec.mpr ab) (fwd_vec.mpr ap) (by rw [crs_neg]; omega) k
/-- before a: what is over the edge that ends there is over the next one, too -/
theorem over_back {c a s p : Pt} (ca : lt2 c a) (as : lt2 a s) (pa : lt2 p a) (h : 0 ≤ tn c a s) (k : 0 ≤ tn c a p) : 0 ≤ tn a s p := by
  rw [(tn_crs c a s).2.1] at h
  have k2 : 0 ≤ crs (vec p a) (vec c a) := by
    have : tn c a p = crs (vec p a) (vec c a) := by
      unfold tn crs vec
      grind
    omega
  have t := crs_tr (fwd_vec.mpr pa) (fwd_vec.mpr ca) (fwd_vec.mpr as) k2 h
  have : tn a s p = crs (vec p a) (vec a s) := by
    unfold tn crs vec
    grind
  omega
/-! the program's chain, the last one ahead -/
/-- the edges of a chain: the later one first -/
def Edg : List Pt → List (Pt × Pt)
  | b :: a :: r => (b, a) :: Edg (a :: r)
  | _ => []
theorem over_fore_lt {a b s p : Pt} (ab : lt2 a b) (as : lt2 a s) (ap : lt2 a p) (h : tn a b s < 0) (k : 0 ≤ tn a b p) : 0 < tn a s p := by
  rw [(tn_crs a b s).1] at h
  rw [(tn_crs a b p).1] at k
  rw [(tn_crs a s p).1]
  exact crs_tr_lt (fwd_vec.mpr as) (fwd_vec.mpr ab) (fwd_vec.mpr ap) (by rw [crs_neg]; omega) k
/-! turned about -/
def ng (p : Pt) : Pt := (-p.1, -p.2)
/-! ### the next one on a border -/
theorem crs_par {u v w : Pt} (fu : fwd u) (fv : fwd v) (h : crs u v = 0) (k : 0 < crs u w) : 0 < crs v w := by
  obtain ⟨u1, u2⟩ := u
  obtain ⟨v1, v2⟩ := v
  obtain ⟨w1, w2⟩ := w
  unfold crs fwd at *
  simp only at *
  rcases fv with v0 | ⟨v0, v3⟩
  · have u0 : 0 < u1 := by
      rcases fu with z | ⟨z, y⟩
      · exact z
      · subst z
        have := Int.mul_pos y v0
        omega
    have e : (v1 * w2 - v2 * w1) * u1 = (u1 * w2 - u2 * w1) * v1 - (u1 * v2 - u2 * v1) * w1 := by grind
    rw [h, Int.zero_mul, Int.sub_zero] at e
    have := Int.mul_pos k v0
    exact of_mul_pos (b := u1) (by omega) u0
  · subst v0
    have u0 : u1 = 0 := by
      rcases ltge 0 u1 with z | z
      · have := Int.mul_pos z v3
        omega
      · rcases fu with y | ⟨y, _⟩
        · omega
        · exact y
    subst u0
    have u3 : 0 < u2 := by omega
    have w0 : w1 < 0 := by
      rcases ltge w1 0 with z | z
      · exact z
      · have := mul_nn (Int.le_of_lt u3) z
        omega
    have := Int.mul_neg_of_pos_of_neg v3 w0
    omega
/-- p stands between a and b, in the order of the sites -/
def Btw (a p b : Pt) : Prop := (lt2 a p ∧ lt2 p b) ∨ (lt2 b p ∧ lt2 p a)
/-- no site on the right -/
def Sup (rows : List Pt) (a b : Pt) : Prop := a ∈ rows ∧ b ∈ rows ∧ a ≠ b ∧ ∀ p ∈ rows, 0 ≤ tn a b p
/-- and none on the way -/
def Nxt (rows : List Pt) (a b : Pt) : Prop := Sup rows a b ∧ ∀ p ∈ rows, tn a b p = 0 → ¬ Btw a p b
def NoRow (rows : List Pt) : Prop := ∀ a ∈ rows, ∀ b ∈ rows, a ≠ b → ∃ p ∈ rows, tn a b p ≠ 0
def dist2 (a b : Pt) : Int := (b.1 - a.1) ^ 2 + (b.2 - a.2) ^ 2
theorem sup_line {rows : List Pt} {a b c : Pt} (h : Sup rows a b) (k : Sup rows a c) : tn a b c = 0 := by
  have h1 := h.2.2.2 c k.2.1
  have h2 := k.2.2.2 b h.2.1
  have e : tn a c b = -tn a b c := by
    unfold tn
    grind
  omega
/-- on the same side of a -/
theorem sup_side {rows : List Pt} (nr : NoRow rows) {a b c : Pt} (h : Sup rows a b) (k : Sup rows a c) : ¬ Btw b a c := by
  intro z
  obtain ⟨p, hp, np⟩ := nr a h.1 b h.2.1 h.2.2.1
  have pos : 0 < tn a b p := by
    have := h.2.2.2 p hp
    omega
  have nn := k.2.2.2 p hp
  have l := sup_line h k
  rcases z with ⟨z1, z2⟩ | ⟨z1, z2⟩
  · -- b < a < c
    have e0 : crs (vec b a) (vec a c) = 0 := by
      have : crs (vec b a) (vec a c) = -tn a b c := by
        unfold crs vec tn
        grind
      omega
    have e1 : crs (vec a c) (vec a p) = tn a c p := ((tn_crs a c p).1).symm
    rcases Int.lt_or_eq_of_le nn with q | q
    · have e2 : crs (vec b a) (vec p a) = tn a b p := by
        unfold crs vec tn
        grind
      have := crs_par (w := vec p a) (fwd_vec.mpr z1) (fwd_vec.mpr z2) e0 (by omega)
      have e3 : crs (vec a c) (vec p a) = -tn a c p := by
        unfold crs vec tn
        grind
      omega
    · have e2 : crs (vec b a) (vec p a) = tn a b p := by
        unfold crs vec tn
        grind
      have := crs_par (w := vec p a) (fwd_vec.mpr z1) (fwd_vec.mpr z2) e0 (by omega)
      have e3 : crs (vec a c) (vec p a) = -tn a c p := by
        unfold crs vec tn
        grind
      omega
  · -- c < a < b
    have e0 : crs (vec a b) (vec c a) = 0 := by
      have : crs (vec a b) (vec c a) = -tn a b c := by
        unfold crs vec tn
        grind
      omega
    have e1 : crs (vec a b) (vec a p) = tn a b p := ((tn_crs a b p).1).symm
    have := crs_par (w := vec a p) (fwd_vec.mpr z2) (fwd_vec.mpr z1) e0 (by omega)
    have e3 : crs (vec c a) (vec a p) = -tn a c p := by
      unfold crs vec tn
      grind
    omega
theorem btw_cases {a b c : Pt} (ab : a ≠ b) (ac : a ≠ c) (bc : b ≠ c) : Btw b a c ∨ Btw a b c ∨ Btw a c b := by
  unfold Btw
  rcases lt2_tri ab with x | x <;> rcases lt2_tri ac with y | y <;> rcases lt2_tri bc with z | z <;> first
    | exact .inl (.inl ⟨x, y⟩)
    | exact .inl (.inr ⟨y, x⟩)
    | exact .inr (.inl (.inl ⟨x, z⟩))
    | exact .inr (.inl (.inr ⟨z, x⟩))
    | exact .inr (.inr (.inl ⟨y, z⟩))
    | exact .inr (.inr (.inr ⟨z, y⟩))
/-- on a line, what is between is nearer -/
theorem btw_near {a b c : Pt} (l : tn a b c = 0) (h : Btw a b c) : dist2 a b < dist2 a c := by
  obtain ⟨a1, a2⟩ := a
  obtain ⟨b1, b2⟩ := b
  obtain ⟨c1, c2⟩ := c
  unfold Btw lt2 tn dist2 at *
  simp only at *
  generalize hx : b1 - a1 = x at *
  generalize hy : b2 - a2 = y at *
  generalize hu : c1 - a1 = u at *
  generalize hv : c2 - a2 = v at *
  have l : x * v = y * u := by omega
  have sq : ∀ p q : Int, (0 ≤ p ∧ p ≤ q) ∨ (q ≤ p ∧ p ≤ 0) → p ^ 2 ≤ q ^ 2 := fun p q h => by
    have e : q ^ 2 - p ^ 2 = (q - p) * (q + p) := by grind
    have : 0 ≤ (q - p) * (q + p) := by
      rcases h with ⟨h1, h2⟩ | ⟨h1, h2⟩
      · exact mul_nn (by omega) (by omega)
      · have := mul_nn (show 0 ≤ p - q by omega) (show 0 ≤ -(q + p) by omega)
        grind
    omega
  have sq2 : ∀ p q : Int, (0 ≤ p ∧ p < q) ∨ (q < p ∧ p ≤ 0) → p ^ 2 < q ^ 2 := fun p q h => by
    have e : q ^ 2 - p ^ 2 = (q - p) * (q + p) := by grind
    have : 0 < (q - p) * (q + p) := by
      rcases h with ⟨h1, h2⟩ | ⟨h1, h2⟩
      · exact Int.mul_pos (by omega) (by omega)
      · have := Int.mul_pos (show 0 < p - q by omega) (show 0 < -(q + p) by omega)
        grind
    omega
  have h' : ((0 < x ∨ (x = 0 ∧ 0 < y)) ∧ (x < u ∨ (x = u ∧ y < v))) ∨ ((u < x ∨ (u = x ∧ v < y)) ∧ (x < 0 ∨ (x = 0 ∧ y < 0))) := by omega
  have l2 : (v - y) * x = y * (u - x) := by grind
  clear h
  rcases h' with ⟨h1, h2⟩ | ⟨h2, h1⟩
  · rcases h1 with h1 | ⟨h1, h3⟩
    · rcases h2 with h2 | ⟨h2, h4⟩
      · have q := sq2 x u (.inl ⟨by omega, h2⟩)
        have : y ^ 2 ≤ v ^ 2 := by
          rcases ltge y 0 with z | z
          · have := mul_nn (show 0 ≤ -y by omega) (show 0 ≤ u - x by omega)
            have := of_mul_nn (a := y - v) (b := x) (by grind) h1
            exact sq y v (.inr ⟨by omega, by omega⟩)
          · have := mul_nn z (show 0 ≤ u - x by omega)
            have := of_mul_nn (a := v - y) (b := x) (by omega) h1
            exact sq y v (.inl ⟨z, by omega⟩)
        omega
      · subst h2
        have := Int.mul_pos (show 0 < v - y by omega) h1
        rw [Int.sub_self, Int.mul_zero] at l2
        omega
    · subst h1
      have u0 : u = 0 := by
        rw [Int.mul_zero, Int.sub_zero] at l2
        rcases Int.mul_eq_zero.mp l2.symm with z | z
        · omega
        · exact z
      subst u0
      have := sq2 y v (.inl ⟨by omega, by omega⟩)
      omega
  · rcases h1 with h1 | ⟨h1, h3⟩
    · rcases h2 with h2 | ⟨h2, h4⟩
      · have q := sq2 x u (.inr ⟨h2, by omega⟩)
        have : y ^ 2 ≤ v ^ 2 := by
          rcases ltge y 0 with z | z
          · have := mul_nn (show 0 ≤ -y by omega) (show 0 ≤ x - u by omega)
            have := of_mul_nn (a := y - v) (b := -x) (by grind) (by omega)
            exact sq y v (.inr ⟨by omega, by omega⟩)
          · have := mul_nn z (show 0 ≤ x - u by omega)
            have := of_mul_nn (a := v - y) (b := -x) (by grind) (by omega)
            exact sq y v (.inl ⟨z, by omega⟩)
        omega
      · subst h2
        have := Int.mul_pos (show 0 < y - v by omega) (show 0 < -u by omega)
        rw [Int.sub_self, Int.mul_zero] at l2
        grind
    · subst h1
      have u0 : u = 0 := by
        rw [Int.mul_zero, Int.sub_zero] at l2
        rcases Int.mul_eq_zero.mp l2.symm with z | z
        · omega
        · exact z
      subst u0
      have := sq2 y v (.inr ⟨by omega, by omega⟩)
      omega
/-- the next one is the nearest of those with no site on the right -/
theorem nxt_near {rows : List Pt} (nr : NoRow rows) {a b c : Pt} (h : Nxt rows a b) (k : Sup rows a c) : c = b ∨ dist2 a b < dist2 a c := by
  by_cases e : c = b
  · exact .inl e
  · refine .inr (btw_near (sup_line h.1 k) ?_)
    rcases btw_cases h.1.2.2.1 k.2.2.1 (Ne.symm e) with z | z | z
    · exact absurd z (sup_side nr h.1 k)
    · exact z
    · exact absurd z (h.2 c k.2.1 (sup_line h.1 k))
/-! ### the ring -/
def Pr (R : Pt → Pt → Prop) : List Pt → Prop
  | a :: b :: r => R a b ∧ Pr R (b :: r)
  | _ => True
theorem pr_app {R : Pt → Pt → Prop} : ∀ {l : List Pt} {q : Pt} {u : List Pt}, Pr R (l ++ [q]) → Pr R (q :: u) → Pr R (l ++ q :: u)
  | [], _, _, _, k => k
  | [a], q, u, h, k => ⟨h.1, k⟩
  | a :: b :: l, q, u, h, k => ⟨h.1, pr_app (l := b :: l) h.2 k⟩
theorem edg_mem : ∀ (l : List Pt) (e : Pt × Pt), e ∈ Edg l → e.1 ∈ l ∧ e.2 ∈ l
  | [], _, h => nomatch h
  | [_], _, h => nomatch h
  | x :: y :: l, e, h => by
    rcases List.mem_cons.mp (show e ∈ (x, y) :: Edg (y :: l) from h) with rfl | h
    · exact ⟨List.mem_cons_self, List.mem_cons_of_mem _ List.mem_cons_self⟩
    · have := edg_mem (y :: l) e h
      exact ⟨List.mem_cons_of_mem _ this.1, List.mem_cons_of_mem _ this.2⟩
theorem edg_lt : ∀ (l : List Pt), l.Pairwise (fun x y => lt2 y x) → ∀ e ∈ Edg l, lt2 e.2 e.1
  | [], _, _, h => nomatch h
  | [_], _, _, h => nomatch h
  | x :: y :: l, so, e, h => by
    rcases List.mem_cons.mp (show e ∈ (x, y) :: Edg (y :: l) from h) with rfl | h
    · exact (List.pairwise_cons.mp so).1 y List.mem_cons_self
    · exact edg_lt (y :: l) (List.pairwise_cons.mp so).2 e h
/-! ### one ring alone -/
theorem nxt_uniq {rows : List Pt} (nr : NoRow rows) {a b c : Pt} (h : Nxt rows a b) (k : Nxt rows a c) : b = c := by
  rcases nxt_near nr h k.1 with e | z
  · exact e.symm
  · rcases nxt_near nr k h.1 with e | y
    · exact e
    · omega
theorem pr_tail {R : Pt → Pt → Prop} : ∀ (l : List Pt) {m : List Pt}, Pr R (l ++ m) → Pr R m
  | [], _, h => h
  | [a], m, h => by
    cases m with
    | nil => exact True.intro
    | cons b m => exact h.2
  | a :: b :: l, m, h => pr_tail (b :: l) h.2
theorem ring_det {R : Pt → Pt → Prop} (fn : ∀ a b c, R a b → R a c → b = c) {p : Pt} : ∀ (s1 s2 : List Pt) (x : Pt), Pr R (x :: (s1 ++ [p])) → Pr R (x :: (s2 ++ [p])) → p ∉ s1 → p ∉ s2 → s1 = s2
  | [], [], _, _, _, _, _ => rfl
  | [], z :: s2, x, h, k, _, n => by
    have : p = z := fn x p z h.1 k.1
    exact absurd (this ▸ List.mem_cons_self) n
  | y :: s1, [], x, h, k, n, _ => by
    have : y = p := fn x y p h.1 k.1
    exact absurd (this ▸ List.mem_cons_self) n
  | y :: s1, z :: s2, x, h, k, n1, n2 => by
    have e : y = z := fn x y z h.1 k.1
    subst e
    rw [ring_det fn s1 s2 y h.2 k.2 (fun m => n1 (List.mem_cons_of_mem _ m)) (fun m => n2 (List.mem_cons_of_mem _ m))]
theorem ring_nodup {R : Pt → Pt → Prop} (fn : ∀ a b c, R a b → R a c → b = c) {p : Pt} : ∀ (s : List Pt) (x : Pt), Pr R (x :: (s ++ [p])) → p ∉ s → (x :: s).Nodup
  | s, x, h, n => by
    refine List.nodup_cons.mpr ⟨fun m => ?_, ?_⟩
    · obtain ⟨B, D, rfl⟩ := List.append_of_mem m
      have k : Pr R (x :: (D ++ [p])) := by
        have e : x :: (B ++ x :: D ++ [p]) = (x :: B) ++ x :: (D ++ [p]) := by simp
        rw [e] at h
        exact pr_tail _ h
      have := congrArg List.length (ring_det fn _ D x h k n fun m => n (List.mem_append_right _ (List.mem_cons_of_mem _ m)))
      rw [List.length_append, List.length_cons] at this
      omega
    · cases s with
      | nil => exact List.nodup_nil
      | cons y s => exact ring_nodup fn s y h.2 fun m => n (List.mem_cons_of_mem _ m)
/-! ### corners -/
/-- the next corner: no site on the right, none beyond on the line -/
def NxC (rows : List Pt) (a b : Pt) : Prop := Sup rows a b ∧ ∀ p ∈ rows, tn a b p = 0 → p = a ∨ p = b ∨ Btw a p b
/-- strictly over -/
theorem over_next_lt {a b c p : Pt} (ab : lt2 a b) (bc : lt2 b c) (bp : lt2 b p) (h : 0 < tn a b c) (k : 0 ≤ tn b c p) : 0 < tn a b p := by
  rw [(tn_crs a b c).2.1] at h
  rw [(tn_crs b c p).1] at k
  rw [(tn_crs a b p).2.1]
  exact crs_tr_lt (fwd_vec.mpr ab) (fwd_vec.mpr bc) (fwd_vec.mpr bp) h k
theorem crs_tr_lt2 {u v w : Pt} (fu : fwd u) (fv : fwd v) (fw : fwd w) (h : 0 ≤ crs u v) (k : 0 < crs v w) : 0 < crs u w := by
  rcases Int.lt_or_eq_of_le h with q | q
  · exact crs_tr_lt fu fv fw q (Int.le_of_lt k)
  · have e : crs v u = 0 := by rw [crs_neg, ← q]; rfl
    exact crs_par fv fu e k
theorem over_prev_lt {z a b p : Pt} (za : lt2 z a) (ab : lt2 a b) (pa : lt2 p a) (h : 0 < tn z a b) (k : 0 ≤ tn z a p) : 0 < tn a b p := by
  rw [(tn_crs z a b).2.1] at h
  have k2 : 0 ≤ crs (vec p a) (vec z a) := by
    have : tn z a p = crs (vec p a) (vec z a) := by
      unfold tn crs vec
      grind
    omega
  have t := crs_tr_lt2 (fwd_vec.mpr pa) (fwd_vec.mpr za) (fwd_vec.mpr ab) k2 h
  have : tn a b p = crs (vec p a) (vec a b) := by
    unfold tn crs vec
    grind
  omega
/-! ### the corners of a ring -/
def dot (u v : Pt) : Int := u.1 * v.1 + u.2 * v.2
structure Dir (u v : Pt) : Prop where
  c : crs u v = 0
  d : 0 < dot u v
theorem dir_pos {u v : Pt} (h : Dir u v) : 0 < dot v v := by
  obtain ⟨u1, u2⟩ := u
  obtain ⟨v1, v2⟩ := v
  have h := h.d
  unfold dot at *
  simp only at *
  have a : 0 ≤ v1 * v1 := by rw [← Int.natAbs_mul_self]; exact Int.natCast_nonneg _
  have b : 0 ≤ v2 * v2 := by rw [← Int.natAbs_mul_self]; exact Int.natCast_nonneg _
  by_cases z : v1 = 0
  · by_cases y : v2 = 0
    · subst z y
      omega
    · have : v2 * v2 ≠ 0 := Int.mul_ne_zero y y
      omega
  · have : v1 * v1 ≠ 0 := Int.mul_ne_zero z z
    omega
theorem Dir.symm {u v : Pt} (h : Dir u v) : Dir v u := ⟨by rw [crs_neg, h.c]; rfl, by
  have := h.d
  unfold dot at *
  rw [Int.mul_comm v.1, Int.mul_comm v.2]
  exact this⟩
theorem Dir.trans {u v w : Pt} (h : Dir u v) (k : Dir v w) : Dir u w := by
  have pos := dir_pos h
  obtain ⟨h1, h2⟩ := h
  obtain ⟨k1, k2⟩ := k
  obtain ⟨u1, u2⟩ := u
  obtain ⟨v1, v2⟩ := v
  obtain ⟨w1, w2⟩ := w
  unfold crs dot at *
  simp only at *
  constructor
  · show u1 * w2 - u2 * w1 = 0
    have e : (u1 * w2 - u2 * w1) * (v1 * v1 + v2 * v2) = (v1 * w1 + v2 * w2) * (u1 * v2 - u2 * v1) + (v1 * w2 - v2 * w1) * (u1 * v1 + u2 * v2) := by grind
    rw [h1, k1, Int.mul_zero, Int.zero_mul, Int.add_zero] at e
    rcases Int.mul_eq_zero.mp e with z | z
    · exact z
    · omega
  · show 0 < u1 * w1 + u2 * w2
    have e : (u1 * w1 + u2 * w2) * (v1 * v1 + v2 * v2) = (u1 * v1 + u2 * v2) * (v1 * w1 + v2 * w2) - (u1 * v2 - u2 * v1) * (v1 * w2 - v2 * w1) := by grind
    rw [h1, Int.zero_mul, Int.sub_zero] at e
    have := Int.mul_pos h2 k2
    exact of_mul_pos (b := v1 * v1 + v2 * v2) (by omega) pos
/-- the sign of what is on a side hangs on the direction alone -/
theorem dir_crs {u v w : Pt} (h : Dir u v) : (0 < crs u w ↔ 0 < crs v w) ∧ (crs u w = 0 ↔ crs v w = 0) ∧ (0 ≤ crs u w ↔ 0 ≤ crs v w) := by
  have pos := dir_pos h.symm
  obtain ⟨h1, h2⟩ := h
  have e : crs v w * dot u u = dot u v * crs u w - crs u v * dot u w := by
    unfold crs dot
    grind
  rw [h1, Int.zero_mul, Int.sub_zero] at e
  generalize crs v w = b at *
  generalize crs u w = a at *
  generalize dot u u = p at *
  generalize dot u v = q at *
  have s1 : 0 < a → 0 < b := fun h => of_mul_pos (b := p) (by rw [e]; exact Int.mul_pos h2 h) pos
  have s2 : a < 0 → b < 0 := fun h => by
    have := Int.mul_neg_of_pos_of_neg h2 h
    rcases ltge b 0 with z | z
    · exact z
    · have := mul_nn z (Int.le_of_lt pos)
      omega
  have s3 : a = 0 → b = 0 := fun h => by
    rw [h, Int.mul_zero] at e
    rcases Int.mul_eq_zero.mp e with z | z
    · exact z
    · omega
  refine ⟨⟨s1, fun h => ?_⟩, ⟨s3, fun h => ?_⟩, ⟨fun h => ?_, fun h => ?_⟩⟩
  · rcases Int.lt_trichotomy a 0 with z | z | z
    · have := s2 z; omega
    · have := s3 z; omega
    · exact z
  · rcases Int.lt_trichotomy a 0 with z | z | z
    · have := s2 z; omega
    · exact z
    · have := s1 z; omega
  · rcases Int.lt_trichotomy a 0 with z | z | z
    · omega
    · have := s3 z; omega
    · have := s1 z; omega
  · rcases Int.lt_trichotomy a 0 with z | z | z
    · have := s2 z; omega
    · omega
    · omega
theorem dir_fwd {u v : Pt} (fu : fwd u) (fv : fwd v) (h : crs u v = 0) : Dir u v := by
  refine ⟨h, ?_⟩
  obtain ⟨u1, u2⟩ := u
  obtain ⟨v1, v2⟩ := v
  unfold crs fwd dot at *
  simp only at *
  rcases fu with u0 | ⟨u0, u3⟩
  · have v0 : 0 < v1 := by
      rcases fv with z | ⟨z, y⟩
      · exact z
      · subst z
        have := Int.mul_pos u0 y
        omega
    have e : (u1 * v1 + u2 * v2) * u1 = v1 * (u1 * u1) + v1 * (u2 * u2) := by grind
    have a : 0 ≤ u2 * u2 := by rw [← Int.natAbs_mul_self]; exact Int.natCast_nonneg _
    have b := Int.mul_pos u0 u0
    have := Int.mul_pos v0 b
    have := mul_nn (Int.le_of_lt v0) a
    exact of_mul_pos (b := u1) (by omega) u0
  · subst u0
    have v0 : v1 = 0 := by
      have : u2 * v1 = 0 := by omega
      rcases Int.mul_eq_zero.mp this with z | z
      · omega
      · exact z
    subst v0
    have := Int.mul_pos u3 (show 0 < v2 by omega)
    omega
theorem dir_neg {u v : Pt} (h : Dir (ng u) (ng v)) : Dir u v := by
  obtain ⟨h1, h2⟩ := h
  unfold crs dot ng at *
  simp only at *
  constructor
  · unfold crs; grind
  · unfold dot; grind
/-- b between a and c on a line: the same way on -/
theorem btw_dir {a b c : Pt} (l : tn a b c = 0) (h : Btw a b c) : Dir (vec a b) (vec b c) := by
  have l2 : crs (vec a b) (vec b c) = 0 := by rw [← (tn_crs a b c).2.1]; exact l
  rcases h with ⟨h1, h2⟩ | ⟨h1, h2⟩
  · exact dir_fwd (fwd_vec.mpr h1) (fwd_vec.mpr h2) l2
  · refine dir_neg ?_
    have e1 : ng (vec a b) = vec b a := by unfold ng vec; exact Prod.ext (by simp only; omega) (by simp only; omega)
    have e2 : ng (vec b c) = vec c b := by unfold ng vec; exact Prod.ext (by simp only; omega) (by simp only; omega)
    rw [e1, e2]
    refine dir_fwd (fwd_vec.mpr h2) (fwd_vec.mpr h1) ?_
    unfold crs vec at *
    simp only at *
    grind
theorem dir_add {u v : Pt} (h : Dir u v) : Dir (u.1 + v.1, u.2 + v.2) v := by
  have pos := dir_pos h
  obtain ⟨h1, h2⟩ := h
  unfold crs dot at *
  constructor
  · unfold crs
    simp only
    grind
  · unfold dot
    simp only
    grind
/-- the same way: both forward or both back -/
theorem dir_lt {a x y : Pt} (h : Dir (vec a x) (vec a y)) : (lt2 a x → lt2 a y) ∧ (lt2 x a → lt2 y a) := by
  obtain ⟨h1, h2⟩ := h
  obtain ⟨a1, a2⟩ := a
  obtain ⟨x1, x2⟩ := x
  obtain ⟨y1, y2⟩ := y
  unfold crs dot vec lt2 at *
  simp only at *
  generalize hu : x1 - a1 = u at *
  generalize hv : x2 - a2 = v at *
  generalize hw : y1 - a1 = w at *
  generalize hz : y2 - a2 = z at *
  have key1 : (0 < u ∨ (u = 0 ∧ 0 < v)) → (0 < w ∨ (w = 0 ∧ 0 < z)) := fun k => by
    rcases k with k | ⟨k, m⟩
    · have e : (u * w + v * z) * u = w * (u * u + v * v) := by grind
      have p1 := Int.mul_pos h2 k
      have p2 : 0 < u * u + v * v := by
        have := Int.mul_pos k k
        have : 0 ≤ v * v := by rw [← Int.natAbs_mul_self]; exact Int.natCast_nonneg _
        omega
      exact .inl (of_mul_pos (b := u * u + v * v) (by omega) p2)
    · subst k
      have w0 : w = 0 := by
        have : v * w = 0 := by omega
        rcases Int.mul_eq_zero.mp this with q | q
        · omega
        · exact q
      subst w0
      exact .inr ⟨rfl, of_mul_pos (a := z) (b := v) (by rw [Int.mul_comm]; omega) m⟩
  have key2 : (u < 0 ∨ (u = 0 ∧ v < 0)) → (w < 0 ∨ (w = 0 ∧ z < 0)) := fun k => by
    rcases k with k | ⟨k, m⟩
    · have e : (u * w + v * z) * -u = -w * (u * u + v * v) := by grind
      have p1 := Int.mul_pos h2 (show 0 < -u by omega)
      have p2 : 0 < u * u + v * v := by
        have := Int.mul_pos_of_neg_of_neg k k
        have : 0 ≤ v * v := by rw [← Int.natAbs_mul_self]; exact Int.natCast_nonneg _
        omega
      have := of_mul_pos (a := -w) (b := u * u + v * v) (by omega) p2
      omega
    · subst k
      have w0 : w = 0 := by
        have : v * w = 0 := by omega
        rcases Int.mul_eq_zero.mp this with q | q
        · omega
        · exact q
      subst w0
      have := of_mul_pos (a := -z) (b := -v) (by grind) (by omega)
      omega
  exact ⟨fun k => by have := key1 (by omega); omega, fun k => by have := key2 (by omega); omega⟩
/-- those of a way at which it turns -/
def flt : Pt → List Pt → List Pt
  | prev, x :: y :: r => if tn prev x y ≠ 0 then x :: flt x (y :: r) else flt x (y :: r)
  | _, _ => []
structure OnC (rows : List Pt) (a prev x : Pt) : Prop where
  n : Nxt rows prev x
  s : Sup rows a x
  d : Dir (vec a x) (vec prev x)
  b : ∀ p ∈ rows, tn a x p = 0 → ¬ Btw p a x
theorem dir_self {a b : Pt} (h : a ≠ b) : Dir (vec a b) (vec a b) := by
  rcases lt2_tri h with z | z
  · exact dir_fwd (fwd_vec.mpr z) (fwd_vec.mpr z) (by unfold crs; grind)
  · refine dir_neg ?_
    have e1 : ng (vec a b) = vec b a := by unfold ng vec; exact Prod.ext (by simp only; omega) (by simp only; omega)
    rw [e1]
    exact dir_fwd (fwd_vec.mpr z) (fwd_vec.mpr z) (by unfold crs; grind)
theorem nxt_back {rows : List Pt} (nr : NoRow rows) {a b : Pt} (h : Sup rows a b) (k : Sup rows b a) : False := by
  obtain ⟨p, hp, np⟩ := nr a h.1 b h.2.1 h.2.2.1
  have h1 := h.2.2.2 p hp
  have h2 := k.2.2.2 p hp
  rw [tn_swap] at h2
  omega
/-- x is a corner -/
theorem onc_turn {rows : List Pt} {a prev x y : Pt} (h : OnC rows a prev x) (k : Nxt rows x y) (t : tn prev x y ≠ 0) : NxC rows a x ∧ OnC rows x x y := by
  have pos : 0 < crs (vec prev x) (vec x y) := by
    rw [← (tn_crs prev x y).2.1]
    have := h.n.1.2.2.2 y k.1.2.1
    omega
  refine ⟨⟨h.s, fun p hp z => ?_⟩, k, k.1, dir_self k.1.2.2.1, fun p hp z q => ?_⟩
  · by_cases pa : p = a
    · exact .inl pa
    by_cases px : p = x
    · exact .inr (.inl px)
    refine .inr (.inr ?_)
    rcases btw_cases h.s.2.2.1 (Ne.symm pa) (Ne.symm px) with w | w | w
    · exact absurd (show Btw p a x from by
        rcases w with ⟨w1, w2⟩ | ⟨w1, w2⟩
        · exact .inr ⟨w1, w2⟩
        · exact .inl ⟨w1, w2⟩) (h.b p hp z)
    · exfalso
      have d1 := btw_dir z w
      have d2 : Dir (vec prev x) (vec x p) := h.d.symm.trans d1
      have c := (dir_crs (w := vec x y) d2).1.mp pos
      have e : crs (vec x p) (vec x y) = -tn x y p := by
        unfold crs vec tn
        grind
      have := k.1.2.2.2 p hp
      omega
    · exact w
  · have z2 : tn p x y = 0 := by rw [tn_rot]; exact z
    have d1 := btw_dir z2 q
    have c := (dir_crs (w := vec prev x) d1.symm).2.2
    have e1 : crs (vec x y) (vec prev x) = -crs (vec prev x) (vec x y) := crs_neg _ _
    have e2 : crs (vec p x) (vec prev x) = tn prev x p := by
      unfold crs vec tn
      grind
    have := h.n.1.2.2.2 p hp
    have := c.mpr (by omega)
    omega
/-- x is none -/
theorem onc_on {rows : List Pt} (nr : NoRow rows) {a prev x y : Pt} (h : OnC rows a prev x) (k : Nxt rows x y) (t : tn prev x y = 0) : OnC rows a x y := by
  have ny : prev ≠ y := fun z => nxt_back nr h.n.1 (z ▸ k.1)
  have bt : Btw prev x y := by
    rcases btw_cases h.n.1.2.2.1 ny k.1.2.2.1 with w | w | w
    · exfalso
      refine k.2 prev h.n.1.1 ?_ ?_
      · rw [← tn_rot]; exact t
      · exact w
    · exact w
    · exact absurd w (h.n.2 y k.1.2.1 t)
  have d1 := btw_dir t bt
  have d2 : Dir (vec a x) (vec x y) := h.d.trans d1
  have d3 : Dir (vec a y) (vec x y) := by
    have := dir_add d2
    have e : ((vec a x).1 + (vec x y).1, (vec a x).2 + (vec x y).2) = vec a y := by
      unfold vec
      exact Prod.ext (by simp only; omega) (by simp only; omega)
    rwa [e] at this
  have d4 : Dir (vec a x) (vec a y) := d2.trans d3.symm
  refine ⟨k, ⟨h.s.1, k.1.2.1, fun z => ?_, fun p hp => ?_⟩, d3, fun p hp z q => h.b p hp ?_ ?_⟩
  · have := d3.d
    rw [← z] at this
    unfold dot vec at this
    simp at this
  · rw [(tn_crs a y p).1]
    refine (dir_crs d4).2.2.mp ?_
    rw [← (tn_crs a x p).1]
    exact h.s.2.2.2 p hp
  · rw [(tn_crs a x p).1]
    refine (dir_crs d4).2.1.mpr ?_
    rw [← (tn_crs a y p).1]
    exact z
  · have f := dir_lt d4.symm
    rcases q with ⟨q1, q2⟩ | ⟨q1, q2⟩
    · exact .inl ⟨q1, f.1 q2⟩
    · exact .inr ⟨f.2 q1, q2⟩
/-- the end's own turn -/
theorem flt_last {e f : Pt} : ∀ (l : List Pt) (prev : Pt), (∀ last, (prev :: l).getLast? = some last → tn last e f ≠ 0) → flt prev (l ++ [e, f]) = flt prev (l ++ [e]) ++ [e]
  | [], prev, h => by
    rw [List.nil_append, List.nil_append, flt, if_pos (h prev rfl)]
    rfl
  | [y], prev, h => by
    have i := flt_last (e := e) (f := f) [] y fun last hl => h last (by rw [← hl]; rfl)
    show flt prev (y :: e :: [f]) = flt prev (y :: [e]) ++ [e]
    have u1 : flt prev (y :: e :: [f]) = if tn prev y e ≠ 0 then y :: flt y [e, f] else flt y [e, f] := by rw [flt]
    have u2 : flt prev (y :: [e]) = if tn prev y e ≠ 0 then y :: flt y [e] else flt y [e] := by rw [flt]
    rw [u1, u2]
    split
    · rw [show flt y (e :: [f]) = flt y [e] ++ [e] from i]
      rfl
    · exact i
  | y :: z :: l, prev, h => by
    have i := flt_last (e := e) (f := f) (z :: l) y fun last hl => h last (by rw [← hl]; rfl)
    show flt prev (y :: z :: (l ++ [e, f])) = flt prev (y :: z :: (l ++ [e])) ++ [e]
    have u1 : flt prev (y :: z :: (l ++ [e, f])) = if tn prev y z ≠ 0 then y :: flt y (z :: (l ++ [e, f])) else flt y (z :: (l ++ [e, f])) := by rw [flt]
    have u2 : flt prev (y :: z :: (l ++ [e])) = if tn prev y z ≠ 0 then y :: flt y (z :: (l ++ [e])) else flt y (z :: (l ++ [e])) := by rw [flt]
    rw [u1, u2]
    split
    · rw [show flt y (z :: (l ++ [e, f])) = flt y (z :: (l ++ [e])) ++ [e] from i]
      rfl
    · exact i
/-! ### corners and double areas -/
theorem nxt_btw {rows : List Pt} (nr : NoRow rows) {prev x y : Pt} (h : Nxt rows prev x) (k : Nxt rows x y) (t : tn prev x y = 0) : Btw prev x y := by
  have ny : prev ≠ y := fun z => nxt_back nr h.1 (z ▸ k.1)
  rcases btw_cases h.1.2.2.1 ny k.1.2.2.1 with w | w | w
  · exfalso
    refine k.2 prev h.1.1 ?_ ?_
    · rw [← tn_rot]; exact t
    · exact w
  · exact w
  · exact absurd w (h.2 y k.1.2.1 t)
/-! ### chains for any sign of a turn, over a part of the sites -/
abbrev Sgt := Pt → Pt → Pt → Int
/-- what a sign of turns must keep -/
structure Ax (T : Sgt) : Prop where
  over_next : ∀ {a b c d : Pt}, lt2 a b → lt2 b c → lt2 c d → 0 ≤ T a b c → 0 ≤ T b c d → 0 ≤ T a b d
  over_fore : ∀ {a b s p : Pt}, lt2 a b → lt2 a s → lt2 a p → T a b s ≤ 0 → 0 ≤ T a b p → 0 ≤ T a s p
  over_back : ∀ {c a s p : Pt}, lt2 c a → lt2 a s → lt2 p a → 0 ≤ T c a s → 0 ≤ T c a p → 0 ≤ T a s p
  over_fore_lt : ∀ {a b s p : Pt}, lt2 a b → lt2 a s → lt2 a p → T a b s < 0 → 0 ≤ T a b p → 0 < T a s p
  over_next_lt : ∀ {a b c p : Pt}, lt2 a b → lt2 b c → lt2 b p → 0 < T a b c → 0 ≤ T b c p → 0 < T a b p
  over_prev_lt : ∀ {z a b p : Pt}, lt2 z a → lt2 a b → lt2 p a → 0 < T z a b → 0 ≤ T z a p → 0 < T a b p
  tn_end : ∀ (a b : Pt), T a b a = 0 ∧ T a b b = 0
  up : ∀ {a b p0 q p : Pt}, lt2 a b → lt2 p0 p → lt2 p q → 0 < T p0 q p → 0 ≤ T a b p0 → 0 ≤ T a b q → 0 < T a b p
def popFG (T : Sgt) (least : Int) (s : Pt) : List Pt → List Pt
  | b :: a :: r => if T a b s < least then popFG T least s (a :: r) else b :: a :: r
  | l => l
def pushFG (T : Sgt) (least : Int) (st : List Pt) (s : Pt) : List Pt := s :: popFG T least s st
def CvxG (T : Sgt) (least : Int) : List Pt → Prop
  | c :: b :: a :: r => least ≤ T a b c ∧ CvxG T least (b :: a :: r)
  | _ => True
structure ChnG (T : Sgt) (least : Int) (P st : List Pt) : Prop where
  cvx : CvxG T least st
  srt : st.Pairwise fun x y => lt2 y x
  sub : ∀ x ∈ st, x ∈ P
  top : ∀ p ∈ P, ∀ x, st.head? = some x → p = x ∨ lt2 p x
  bot : ∀ p ∈ P, ∀ x, st.getLast? = some x → p = x ∨ lt2 x p
  low : ∀ e ∈ Edg st, ∀ p ∈ P, 0 ≤ T e.2 e.1 p
theorem edg_overG {T : Sgt} (ax : Ax T) {least : Int} (l0 : 0 ≤ least) {s : Pt} : ∀ (r : List Pt) (b a : Pt), CvxG T least (b :: a :: r) → (b :: a :: r).Pairwise (fun x y => lt2 y x) → lt2 b s → 0 ≤ T a b s → ∀ e ∈ Edg (b :: a :: r), 0 ≤ T e.2 e.1 s
  | [], b, a, _, _, _, h, e, he => by
    have : e = (b, a) := by simpa [Edg] using he
    rw [this]
    exact h
  | z :: r, b, a, cv, so, bs, h, e, he => by
    rcases List.mem_cons.mp (show e ∈ (b, a) :: Edg (a :: z :: r) from he) with rfl | he
    · exact h
    · have ab : lt2 a b := (List.pairwise_cons.mp so).1 a List.mem_cons_self
      have so2 := (List.pairwise_cons.mp so).2
      have za : lt2 z a := (List.pairwise_cons.mp so2).1 z List.mem_cons_self
      exact edg_overG ax l0 r a z cv.2 so2 (lt2_tr ab bs) (ax.over_next za ab bs (Int.le_trans l0 cv.1) h) e he
theorem chn_pushG {T : Sgt} (ax : Ax T) {least : Int} (l0 : 0 ≤ least) (l1 : least ≤ 1) {P : List Pt} {s : Pt} (hs : ∀ p ∈ P, lt2 p s) : ∀ (st : List Pt), st ≠ [] → CvxG T least st → st.Pairwise (fun x y => lt2 y x) → (∀ x ∈ st, x ∈ P) → (∀ p ∈ P, ∀ x, st.getLast? = some x → p = x ∨ lt2 x p) → (∀ e ∈ Edg st, ∀ p ∈ P, 0 ≤ T e.2 e.1 p) →
    (∀ p ∈ P, ∀ b, st.head? = some b → lt2 b p → 0 ≤ T b s p) → ChnG T least (P ++ [s]) (pushFG T least st s)
  | [], h, _, _, _, _, _, _ => absurd rfl h
  | [b], _, _, _, sub, bot, _, cover => by
    have bP := sub b List.mem_cons_self
    refine ⟨True.intro, ?_, ?_, ?_, ?_, ?_⟩
    · exact List.pairwise_cons.mpr ⟨fun x hx => by rw [List.mem_singleton.mp hx]; exact hs b bP, List.pairwise_singleton _ _⟩
    · intro x hx
      rcases List.mem_cons.mp hx with rfl | hx
      · exact List.mem_append_right _ (List.mem_singleton.mpr rfl)
      · exact List.mem_append_left _ (sub x hx)
    · intro p hp x hx
      obtain rfl : s = x := Option.some.inj hx
      rcases List.mem_append.mp hp with m | m
      · exact .inr (hs p m)
      · exact .inl (List.mem_singleton.mp m)
    · intro p hp x hx
      obtain rfl : b = x := Option.some.inj hx
      rcases List.mem_append.mp hp with m | m
      · exact bot p m b rfl
      · rw [List.mem_singleton.mp m]
        exact .inr (hs b bP)
    · intro e he p hp
      have : e = (s, b) := by simpa [Edg, pushFG, popFG] using he
      subst this
      rcases List.mem_append.mp hp with m | m
      · rcases bot p m b rfl with rfl | q
        · rw [(ax.tn_end p s).1]
          exact Int.le_refl _
        · exact cover p m b rfl q
      · rw [List.mem_singleton.mp m, (ax.tn_end b s).2]
        exact Int.le_refl _
  | b :: a :: r, _, cv, so, sub, bot, low, cover => by
    have so2 := (List.pairwise_cons.mp so).2
    have ab : lt2 a b := (List.pairwise_cons.mp so).1 a List.mem_cons_self
    have bP := sub b List.mem_cons_self
    have aP := sub a (List.mem_cons_of_mem _ List.mem_cons_self)
    by_cases c : T a b s < least
    · have e : pushFG T least (b :: a :: r) s = pushFG T least (a :: r) s := by
        unfold pushFG
        rw [popFG, if_pos c]
      rw [e]
      refine chn_pushG ax l0 l1 hs (a :: r) (by simp) ?_ so2 (fun x hx => sub x (List.mem_cons_of_mem _ hx)) (fun p hp x hx => bot p hp x ?_) (fun e he => low e ?_) (fun p hp x hx q => ?_)
      · cases r with
        | nil => exact True.intro
        | cons z r => exact cv.2
      · exact hx
      · exact List.mem_cons_of_mem _ he
      · obtain rfl : a = x := Option.some.inj hx
        exact ax.over_fore ab (hs a aP) q (by omega) (low (b, a) List.mem_cons_self p hp)
    · have e : pushFG T least (b :: a :: r) s = s :: b :: a :: r := by
        unfold pushFG
        rw [popFG, if_neg c]
      rw [e]
      have pos : 0 ≤ T a b s := by omega
      refine ⟨⟨by omega, cv⟩, ?_, ?_, ?_, ?_, ?_⟩
      · exact List.pairwise_cons.mpr ⟨fun x hx => hs x (sub x hx), so⟩
      · intro x hx
        rcases List.mem_cons.mp hx with rfl | hx
        · exact List.mem_append_right _ (List.mem_singleton.mpr rfl)
        · exact List.mem_append_left _ (sub x hx)
      · intro p hp x hx
        obtain rfl : s = x := Option.some.inj hx
        rcases List.mem_append.mp hp with m | m
        · exact .inr (hs p m)
        · exact .inl (List.mem_singleton.mp m)
      · intro p hp x hx
        have hx : (b :: a :: r).getLast? = some x := hx
        rcases List.mem_append.mp hp with m | m
        · exact bot p m x hx
        · rw [List.mem_singleton.mp m]
          exact .inr (hs x (sub x (List.mem_of_getLast? hx)))
      · intro e he p hp
        rcases List.mem_append.mp hp with m | m
        · rcases List.mem_cons.mp (show e ∈ (s, b) :: Edg (b :: a :: r) from he) with rfl | he
          · by_cases q : p = b
            · rw [q, (ax.tn_end b s).1]
              exact Int.le_refl _
            · rcases lt2_tri q with z | z
              · exact ax.over_back ab (hs b bP) z pos (low (b, a) List.mem_cons_self p m)
              · exact cover p m b rfl z
          · exact low e he p m
        · rw [List.mem_singleton.mp m]
          rcases List.mem_cons.mp (show e ∈ (s, b) :: Edg (b :: a :: r) from he) with rfl | he
          · rw [(ax.tn_end b s).2]
            exact Int.le_refl _
          · exact edg_overG ax l0 r b a cv so (hs b bP) pos e he
def OffG (T : Sgt) (P : List Pt) (st : List Pt) : Prop := ∀ e ∈ Edg st, ∀ p ∈ P, lt2 e.2 p → lt2 p e.1 → 0 < T e.2 e.1 p
theorem off_pushG {T : Sgt} (ax : Ax T) {P : List Pt} {s : Pt} (hs : ∀ p ∈ P, lt2 p s) : ∀ (st : List Pt), st ≠ [] → st.Pairwise (fun x y => lt2 y x) → (∀ x ∈ st, x ∈ P) → (∀ e ∈ Edg st, ∀ p ∈ P, 0 ≤ T e.2 e.1 p) → OffG T P st →
    (∀ p ∈ P, ∀ b, st.head? = some b → lt2 b p → 0 < T b s p) → OffG T (P ++ [s]) (pushFG T 0 st s)
  | [], h, _, _, _, _, _ => absurd rfl h
  | [b], _, _, _, _, _, cover => by
    intro e he p hp h1 h2
    have : e = (s, b) := by simpa [Edg, pushFG, popFG] using he
    subst this
    rcases List.mem_append.mp hp with m | m
    · exact cover p m b rfl h1
    · rw [List.mem_singleton.mp m] at h2
      exact absurd h2 lt2_irr
  | b :: a :: r, _, so, sub, low, off, cover => by
    have so2 := (List.pairwise_cons.mp so).2
    have ab : lt2 a b := (List.pairwise_cons.mp so).1 a List.mem_cons_self
    have aP := sub a (List.mem_cons_of_mem _ List.mem_cons_self)
    have bP := sub b List.mem_cons_self
    by_cases c : T a b s < 0
    · have e : pushFG T 0 (b :: a :: r) s = pushFG T 0 (a :: r) s := by
        unfold pushFG
        rw [popFG, if_pos c]
      rw [e]
      refine off_pushG ax hs (a :: r) (by simp) so2 (fun x hx => sub x (List.mem_cons_of_mem _ hx)) (fun e he => low e (List.mem_cons_of_mem _ he)) (fun e he => off e (List.mem_cons_of_mem _ he)) (fun p hp x hx q => ?_)
      obtain rfl : a = x := Option.some.inj hx
      exact ax.over_fore_lt ab (hs a aP) q c (low (b, a) List.mem_cons_self p hp)
    · have e : pushFG T 0 (b :: a :: r) s = s :: b :: a :: r := by
        unfold pushFG
        rw [popFG, if_neg c]
      rw [e]
      intro e he p hp h1 h2
      rcases List.mem_cons.mp (show e ∈ (s, b) :: Edg (b :: a :: r) from he) with rfl | he
      · rcases List.mem_append.mp hp with m | m
        · exact cover p m b rfl h1
        · rw [List.mem_singleton.mp m] at h2
          exact absurd h2 lt2_irr
      · rcases List.mem_append.mp hp with m | m
        · exact off e he p m h1 h2
        · -- s lies behind all edges
          have mem : ∀ (l : List Pt) (e : Pt × Pt), e ∈ Edg l → e.1 ∈ l := by
            intro l
            induction l with
            | nil => intro e h; cases h
            | cons x l ih =>
              intro e h
              cases l with
              | nil => cases h
              | cons y l =>
                rcases List.mem_cons.mp (show e ∈ (x, y) :: Edg (y :: l) from h) with rfl | h
                · exact List.mem_cons_self
                · exact List.mem_cons_of_mem _ (ih e h)
          rw [List.mem_singleton.mp m] at h2
          exact absurd (lt2_tr h2 (hs e.1 (sub e.1 (mem _ e he)))) lt2_irr
theorem up_tn {a b p0 q p : Pt} (ab : lt2 a b) (p0p : lt2 p0 p) (pq : lt2 p q) (h : 0 < tn p0 q p) (h0 : 0 ≤ tn a b p0) (hq : 0 ≤ tn a b q) : 0 < tn a b p := by
  refine Classical.byContradiction fun n => ?_
  have n : tn a b p ≤ 0 := by omega
  have e1 : crs (vec p0 p) (vec a b) = tn a b p0 - tn a b p := by unfold crs vec tn; grind
  have e2 : crs (vec a b) (vec p q) = tn a b q - tn a b p := by unfold crs vec tn; grind
  have z := crs_tr (fwd_vec.mpr p0p) (fwd_vec.mpr ab) (fwd_vec.mpr pq) (by omega) (by omega)
  have e3 : tn p0 q p = -crs (vec p0 p) (vec p q) := by unfold crs vec tn; grind
  omega
/-- the sign with the sides changed -/
def tm (a b c : Pt) : Int := -tn a b c
theorem ax_tn : Ax tn := ⟨over_next, over_fore, over_back, over_fore_lt, over_next_lt, over_prev_lt, tn_end, up_tn⟩
theorem ax_tm : Ax tm where
  over_next := fun {a b c d} ab bc cd h k => by
    unfold tm at *
    have e : tn a b d = crs (vec a b) (vec b c) + crs (vec a b) (vec c d) := by unfold tn crs vec; grind
    rw [(tn_crs a b c).2.1, crs_neg] at h
    rw [(tn_crs b c d).2.1, crs_neg] at k
    have t := crs_tr (fwd_vec.mpr cd) (fwd_vec.mpr bc) (fwd_vec.mpr ab) (by omega) (by omega)
    rw [crs_neg] at t
    rw [crs_neg] at h
    omega
  over_fore := fun {a b s p} ab as ap h k => by
    unfold tm at *
    rw [(tn_crs a b s).1] at h
    rw [(tn_crs a b p).1, crs_neg] at k
    rw [(tn_crs a s p).1, crs_neg]
    have t := crs_tr (fwd_vec.mpr ap) (fwd_vec.mpr ab) (fwd_vec.mpr as) (by omega) (by omega)
    omega
  over_back := fun {c a s p} ca as pa h k => by
    unfold tm at *
    rw [(tn_crs c a s).2.1, crs_neg] at h
    have e1 : tn c a p = crs (vec p a) (vec c a) := by unfold tn crs vec; grind
    have e2 : tn a s p = crs (vec p a) (vec a s) := by unfold tn crs vec; grind
    rw [e1, crs_neg] at k
    have t := crs_tr (fwd_vec.mpr as) (fwd_vec.mpr ca) (fwd_vec.mpr pa) (by omega) (by omega)
    rw [crs_neg] at t
    omega
  over_fore_lt := fun {a b s p} ab as ap h k => by
    unfold tm at *
    rw [(tn_crs a b s).1] at h
    rw [(tn_crs a b p).1, crs_neg] at k
    rw [(tn_crs a s p).1, crs_neg]
    have t := crs_tr_lt2 (fwd_vec.mpr ap) (fwd_vec.mpr ab) (fwd_vec.mpr as) (by omega) (by omega)
    omega
  over_next_lt := fun {a b c p} ab bc bp h k => by
    unfold tm at *
    rw [(tn_crs a b c).2.1, crs_neg] at h
    rw [(tn_crs b c p).1, crs_neg] at k
    rw [(tn_crs a b p).2.1, crs_neg]
    have t := crs_tr_lt2 (fwd_vec.mpr bp) (fwd_vec.mpr bc) (fwd_vec.mpr ab) (by omega) (by omega)
    omega
  over_prev_lt := fun {z a b p} za ab pa h k => by
    unfold tm at *
    rw [(tn_crs z a b).2.1, crs_neg] at h
    have e1 : tn z a p = crs (vec p a) (vec z a) := by unfold tn crs vec; grind
    have e2 : tn a b p = crs (vec p a) (vec a b) := by unfold tn crs vec; grind
    rw [e1, crs_neg] at k
    have t := crs_tr_lt (fwd_vec.mpr ab) (fwd_vec.mpr za) (fwd_vec.mpr pa) (by omega) (by omega)
    rw [crs_neg] at t
    omega
  tn_end := fun a b => by
    unfold tm
    rw [(tn_end a b).1, (tn_end a b).2]
    exact ⟨rfl, rfl⟩
  up := fun {a b p0 q p} ab p0p pq h h0 hq => by
    unfold tm at *
    refine Classical.byContradiction fun n => ?_
    have e1 : crs (vec p0 p) (vec a b) = tn a b p0 - tn a b p := by unfold crs vec tn; grind
    have e2 : crs (vec a b) (vec p q) = tn a b q - tn a b p := by unfold crs vec tn; grind
    rw [crs_neg] at e1 e2
    have z := crs_tr (fwd_vec.mpr pq) (fwd_vec.mpr ab) (fwd_vec.mpr p0p) (by omega) (by omega)
    have e3 : tn p0 q p = crs (vec p q) (vec p0 p) := by unfold crs vec tn; grind
    omega
/-! ### both chains of the program: each over the sites on its side of the line from the first to the last -/
/-! ### places against a hull -/
structure Plc where
  x : Int
  y : Int
  d : Int
/-- on which side of a line a place is, times d -/
def po (a b : Pt) (p : Plc) : Int := (b.1 - a.1) * (p.y - a.2 * p.d) - (b.2 - a.2) * (p.x - a.1 * p.d)
/-! ### sides of a ring and of its corners tell the same of a place -/
theorem tn_zero_self (a b : Pt) : tn a b a = 0 := (tn_end a b).1
/-- what is so of one side's line is so of all of it -/
structure Sgn (S : Pt → Pt → Prop) : Prop where
  tr : ∀ {a b x y : Pt}, Dir (vec a b) (vec x y) → tn a b x = 0 → (S a b ↔ S x y)
theorem onc_dir {rows : List Pt} (nr : NoRow rows) {a prev x y : Pt} (h : OnC rows a prev x) (k : Nxt rows x y) (t : tn prev x y = 0) : Dir (vec a x) (vec x y) ∧ Dir (vec a x) (vec a y) ∧ tn a x y = 0 := by
  have bt := nxt_btw nr h.n k t
  have d2 : Dir (vec a x) (vec x y) := h.d.trans (btw_dir t bt)
  have o := onc_on nr h k t
  refine ⟨d2, d2.trans o.d.symm, ?_⟩
  rw [(tn_crs a x y).2.1]
  exact d2.c
/-- of all sides of the ring, so of all between corners -/
theorem ring_cor {S : Pt → Pt → Prop} (hS : Sgn S) {rows : List Pt} (nr : NoRow rows) : ∀ (r : List Pt) (a prev x : Pt), OnC rows a prev x → Pr (Nxt rows) (x :: r) → S a x → Pr S (x :: r) → Pr S (a :: flt prev (x :: r))
  | [], _, _, _, _, _, _, _ => True.intro
  | y :: r, a, prev, x, h, k, s, sr => by
    rw [flt]
    by_cases t : tn prev x y = 0
    · rw [if_neg (fun z => z t)]
      obtain ⟨_, d, _⟩ := onc_dir nr h k.1 t
      exact ring_cor hS nr r a x y (onc_on nr h k.1 t) k.2 ((hS.tr d (tn_zero_self a x)).mp s) sr.2
    · rw [if_pos t]
      obtain ⟨_, h2⟩ := onc_turn h k.1 t
      exact ⟨s, ring_cor hS nr r x x y h2 k.2 sr.1 sr.2⟩
/-- and the other way about, up to the last corner -/
theorem cor_ring {S : Pt → Pt → Prop} (hS : Sgn S) {rows : List Pt} (nr : NoRow rows) {e f : Pt} : ∀ (r : List Pt) (a prev x : Pt), OnC rows a prev x → Pr (Nxt rows) (x :: (r ++ [e, f])) → (∀ last, (prev :: x :: r).getLast? = some last → tn last e f ≠ 0) → Pr S (a :: flt prev (x :: (r ++ [e, f]))) → S prev x ∧ Pr S (x :: (r ++ [e]))
  | [], a, prev, x, h, k, hl, s => by
    have k1 : Nxt rows x e := k.1
    have k2 : Nxt rows e f := k.2.1
    have te := hl x rfl
    have s : Pr S (a :: flt prev (x :: e :: [f])) := s
    have u1 : flt prev (x :: e :: [f]) = if tn prev x e ≠ 0 then x :: flt x [e, f] else flt x [e, f] := by rw [flt]
    have u2 : flt x [e, f] = e :: flt e [f] := by rw [flt, if_pos te]
    rw [u1, u2] at s
    by_cases t : tn prev x e = 0
    · rw [if_neg (fun z => z t)] at s
      obtain ⟨d1, d2, l⟩ := onc_dir nr h k1 t
      have s1 : S a e := s.1
      have l2 : tn a e x = 0 := by
        have : tn a e x = -tn a x e := by
          unfold tn
          grind
        omega
      refine ⟨?_, ?_, True.intro⟩
      · refine (hS.tr (d2.symm.trans h.d) ?_).mp s1
        -- prev lies on the line, too
        have d3 : Dir (vec a x) (vec prev x) := h.d
        have o := onc_on nr h k1 t
        have z : crs (vec a e) (vec prev x) = 0 := (d2.symm.trans h.d).c
        have z2 : crs (vec a e) (vec a x) = 0 := d2.symm.c
        rw [(tn_crs a e prev).1]
        have : crs (vec a e) (vec a prev) = crs (vec a e) (vec a x) - crs (vec a e) (vec prev x) := by
          unfold crs vec
          grind
        omega
      · exact (hS.tr (d2.symm.trans d1) l2).mp s1
    · rw [if_pos t] at s
      refine ⟨(hS.tr h.d ?_).mp s.1, s.2.1, True.intro⟩
      have z : crs (vec a x) (vec prev x) = 0 := h.d.c
      rw [(tn_crs a x prev).1]
      have : crs (vec a x) (vec a prev) = crs (vec a x) (vec a x) - crs (vec a x) (vec prev x) := by
        unfold crs vec
        grind
      have : crs (vec a x) (vec a x) = 0 := by
        unfold crs
        grind
      omega
  | y :: r, a, prev, x, h, k, hl, s => by
    have k1 : Nxt rows x y := k.1
    have s : Pr S (a :: flt prev (x :: y :: (r ++ [e, f]))) := s
    have u1 : flt prev (x :: y :: (r ++ [e, f])) = if tn prev x y ≠ 0 then x :: flt x (y :: (r ++ [e, f])) else flt x (y :: (r ++ [e, f])) := by rw [flt]
    rw [u1] at s
    have hl2 : ∀ last, (x :: y :: r).getLast? = some last → tn last e f ≠ 0 := fun last hx => hl last (by rw [← hx]; rfl)
    by_cases t : tn prev x y = 0
    · rw [if_neg (fun z => z t)] at s
      obtain ⟨i1, i2⟩ := cor_ring hS nr r a x y (onc_on nr h k1 t) k.2 hl2 s
      have bt := nxt_btw nr h.n k1 t
      refine ⟨(hS.tr (btw_dir t bt).symm ?_).mp i1, i1, i2⟩
      have : tn x y prev = tn prev x y := by
        unfold tn
        grind
      omega
    · rw [if_pos t] at s
      obtain ⟨_, h2⟩ := onc_turn h k1 t
      obtain ⟨i1, i2⟩ := cor_ring hS nr r x x y h2 k.2 hl2 s.2
      refine ⟨(hS.tr h.d ?_).mp s.1, i1, i2⟩
      have z : crs (vec a x) (vec prev x) = 0 := h.d.c
      rw [(tn_crs a x prev).1]
      have : crs (vec a x) (vec a prev) = crs (vec a x) (vec a x) - crs (vec a x) (vec prev x) := by
        unfold crs vec
        grind
      have : crs (vec a x) (vec a x) = 0 := by
        unfold crs
        grind
      omega
/-! ### a place on the border is on a side of the ring -/
/-! ### inside, on the border, outside -/
/-- a ring: its corners, its last one, and what is known of it -/
structure Rng (rows : List Pt) (p0 last p1 : Pt) (m1 : List Pt) : Prop where
  nr : NoRow rows
  oc : OnC rows p0 p0 p1
  long : Pr (Nxt rows) (p1 :: (m1 ++ [p0, p1]))
  hl : (p0 :: p1 :: m1).getLast? = some last
  turn : tn last p0 p1 ≠ 0
section
variable {rows m1 : List Pt} {p0 last p1 : Pt}
theorem Rng.hl2 (g : Rng rows p0 last p1 m1) : ∀ x, (p0 :: p1 :: m1).getLast? = some x → tn x p0 p1 ≠ 0 := fun x hx => by
  rw [g.hl] at hx
  rw [← Option.some.inj hx]
  exact g.turn
theorem Rng.iff (g : Rng rows p0 last p1 m1) {S : Pt → Pt → Prop} (hS : Sgn S) : Pr S (p0 :: (flt p0 (p1 :: (m1 ++ [p0])) ++ [p0])) ↔ Pr S (p0 :: p1 :: (m1 ++ [p0])) := by
  have fl := flt_last (e := p0) (f := p1) (p1 :: m1) p0 g.hl2
  have fl : flt p0 (p1 :: (m1 ++ [p0, p1])) = flt p0 (p1 :: (m1 ++ [p0])) ++ [p0] := fl
  rw [← fl]
  constructor
  · intro s
    exact cor_ring hS g.nr m1 p0 p0 p1 g.oc g.long g.hl2 s
  · intro s
    exact ring_cor hS g.nr (m1 ++ [p0, p1]) p0 p0 p1 g.oc g.long s.1 (pr_app (l := p1 :: m1) s.2 ⟨s.1, True.intro⟩)
end
/-! ### sites in a row -/
/-! ### sites in a row, by the program's chains -/
/-! ### the law's own walk along the border -/
theorem pr_at {R : Pt → Pt → Prop} : ∀ {l : List Pt} {i : Nat} {a b : Pt}, Pr R l → l[i]? = some a → l[i + 1]? = some b → R a b
  | [], _, _, _, _, h, _ => by cases h
  | [_], _, _, _, _, _, k => by cases k
  | x :: y :: l, 0, a, b, p, h, k => by
    cases h
    cases k
    exact p.1
  | x :: y :: l, i + 1, a, b, p, h, k => pr_at (l := y :: l) p.2 h k
theorem pr_mem {rows : List Pt} : ∀ {l : List Pt} {a : Pt}, Pr (Nxt rows) (a :: l) → l ≠ [] → a ∈ rows
  | [], _, _, h => absurd rfl h
  | b :: l, a, p, _ => p.1.1.1
theorem pr_sub {rows : List Pt} {e : Pt} : ∀ {l : List Pt}, Pr (Nxt rows) (l ++ [e]) → ∀ x ∈ l, x ∈ rows
  | [], _, x, h => by cases h
  | a :: l, p, x, h => by
    rcases List.mem_cons.mp h with rfl | h
    · exact pr_mem (l := l ++ [e]) p (by simp)
    · cases l with
      | nil => cases h
      | cons b l => exact pr_sub (l := b :: l) p.2 x h
theorem nodup_le {l m : List Pt} (n : l.Nodup) (h : ∀ x ∈ l, x ∈ m) : l.length ≤ m.length := by
  induction l generalizing m with
  | nil => exact Nat.zero_le _
  | cons a l ih =>
    obtain ⟨n1, n2⟩ := List.nodup_cons.mp n
    have ha := h a List.mem_cons_self
    have k := ih (m := m.erase a) n2 fun x hx => (List.mem_erase_of_ne fun e => n1 (by rw [← e]; exact hx)).mpr (h x (List.mem_cons_of_mem _ hx))
    have e := List.length_erase_of_mem ha
    have p := List.length_pos_of_mem ha
    rw [List.length_cons]
    omega
/-- the border as a ring from its first one -/
structure RingB (rows : List Pt) (p0 : Pt) (mid : List Pt) : Prop where
  nr : NoRow rows
  n0 : p0 ∉ mid
  pr : Pr (Nxt rows) (p0 :: (mid ++ [p0]))
theorem RingB.few {rows : List Pt} {p0 : Pt} {mid : List Pt} (r : RingB rows p0 mid) : mid.length + 1 ≤ rows.length :=
  nodup_le (l := p0 :: mid) (ring_nodup (R := Nxt rows) (fun _ _ _ => nxt_uniq r.nr) mid p0 r.pr r.n0) (pr_sub (l := p0 :: mid) r.pr)
theorem RingB.step {rows : List Pt} {p0 : Pt} {mid : List Pt} (r : RingB rows p0 mid) {i : Nat} (hi : i ≤ mid.length) : ∃ h x, (p0 :: mid)[i]? = some h ∧ Nxt rows h x ∧ (x = p0 → i = mid.length) ∧ (x ≠ p0 → i < mid.length ∧ (p0 :: mid)[i + 1]? = some x) := by
  have l1 : i < (p0 :: mid).length := by rw [List.length_cons]; omega
  have l2 : i + 1 < (p0 :: (mid ++ [p0])).length := by simp; omega
  have e1 : (p0 :: (mid ++ [p0]))[i]? = some ((p0 :: mid)[i]'l1) := by
    rw [← List.cons_append, List.getElem?_append_left l1, List.getElem?_eq_getElem l1]
  refine ⟨(p0 :: mid)[i]'l1, (p0 :: (mid ++ [p0]))[i + 1]'l2, List.getElem?_eq_getElem l1, pr_at r.pr e1 (List.getElem?_eq_getElem l2), fun e => ?_, fun e => ?_⟩
  · by_cases c : i < mid.length
    · exfalso
      apply r.n0
      rw [← e]
      have : (p0 :: (mid ++ [p0]))[i + 1]'l2 = mid[i] := by
        simp only [List.getElem_cons_succ]
        rw [List.getElem_append_left c]
      rw [this]
      exact List.getElem_mem c
    · omega
  · have c : i < mid.length := by
      rcases Nat.lt_or_ge i mid.length with c | c
      · exact c
      · exfalso
        apply e
        have ei : i = mid.length := by omega
        subst ei
        simp
    refine ⟨c, ?_⟩
    have l3 : i + 1 < (p0 :: mid).length := by rw [List.length_cons]; omega
    rw [List.getElem?_eq_getElem l3]
    congr 1
    simp only [List.getElem_cons_succ]
    rw [List.getElem_append_left c]
/-! ### the ring and its corners, by the program's chains -/
/-! ### where: the law's answer and the program's -/
/-! ### what a place sees of a ring -/
/-! ### all that is on the border is told; a site that is put to the others -/
theorem lex_edge : ∀ {st : List Pt} {q p0 a : Pt}, st.Pairwise (fun x y => lt2 y x) → st.head? = some q → st.getLast? = some p0 → lt2 p0 a → lt2 a q → a ∉ st → ∃ e ∈ Edg st, lt2 e.2 a ∧ lt2 a e.1
  | [], _, _, _, _, h, _, _, _, _ => by cases h
  | [x], q, p0, a, _, h, k, l1, l2, _ => by
    cases h
    cases k
    exact absurd (lt2_tr l1 l2) lt2_irr
  | x :: y :: r, q, p0, a, so, h, k, l1, l2, n => by
    cases h
    by_cases c : lt2 y a
    · exact ⟨(x, y), List.mem_cons_self, c, l2⟩
    · have ya : a ≠ y := fun z => n (z ▸ List.mem_cons_of_mem _ List.mem_cons_self)
      have ay : lt2 a y := by
        rcases lt2_tri ya with z | z
        · exact z
        · exact absurd z c
      obtain ⟨e, m, z⟩ := lex_edge (List.pairwise_cons.mp so).2 rfl (by rw [← k]; rfl) l1 ay fun z => n (List.mem_cons_of_mem _ z)
      exact ⟨e, List.mem_cons_of_mem _ m, z⟩
/-! ### circles of three sites: pencils -/
/-- the power of the circle on a and b as ends -/
def dia (a b x : Pt) : Int := (x.1 - a.1) * (x.1 - b.1) + (x.2 - a.2) * (x.2 - b.2)
/-- above 0 just if x is inside the circle of a, b and c, which turn left -/
def ic (a b c x : Pt) : Int := dia a b c * tn a b x - dia a b x * tn a b c
theorem ic_cyc (a b c x : Pt) : ic b c a x = ic a b c x := by
  unfold ic dia tn
  grind
theorem ic_sw (a b c x : Pt) : ic b a c x = -ic a b c x := by
  unfold ic dia tn
  grind
theorem ic_ex (a b c x : Pt) : ic a b x c = -ic a b c x := by
  unfold ic
  grind
theorem dia_sw (a b x : Pt) : dia b a x = dia a b x := by
  unfold dia
  grind
theorem tnc (a b c : Pt) : tn b c a = tn a b c := by
  unfold tn
  grind
theorem tns (a b c : Pt) : tn b a c = -tn a b c := by
  unfold tn
  grind
theorem tn_aab (a b : Pt) : tn a a b = 0 := by
  unfold tn
  grind
theorem tn_aba (a b : Pt) : tn a b a = 0 := by
  unfold tn
  grind
theorem tn_abb (a b : Pt) : tn a b b = 0 := by
  unfold tn
  grind
theorem ic_a (a b c : Pt) : ic a b c a = 0 := by
  unfold ic dia tn
  grind
theorem ic_b (a b c : Pt) : ic a b c b = 0 := by
  unfold ic dia tn
  grind
theorem ic_c (a b c : Pt) : ic a b c c = 0 := by
  unfold ic
  grind
/-- three of a pencil: k lies between l and m -/
theorem pen {f1 g1 f2 g2 f3 g3 : Int} (h : 0 < g2) (h1 : 0 < g1) (h3 : 0 < g3) (k : 0 < f1 * g2 - f2 * g1) (l : 0 ≤ f2 * g3 - f3 * g2) : 0 < f1 * g3 - f3 * g1 := by
  have a1 := Int.mul_pos k h3
  have a2 := Int.mul_nonneg l (Int.le_of_lt h1)
  have e : (f1 * g3 - f3 * g1) * g2 = (f1 * g2 - f2 * g1) * g3 + (f2 * g3 - f3 * g2) * g1 := by grind
  exact of_mul_pos (by omega) h
theorem pen0 {f1 g1 f2 g2 f3 g3 : Int} (h : 0 < g2) (h1 : 0 < g1) (h3 : 0 < g3) (k : 0 ≤ f1 * g2 - f2 * g1) (l : 0 ≤ f2 * g3 - f3 * g2) : 0 ≤ f1 * g3 - f3 * g1 := by
  have a1 := Int.mul_nonneg k (Int.le_of_lt h3)
  have a2 := Int.mul_nonneg l (Int.le_of_lt h1)
  have e : (f1 * g3 - f3 * g1) * g2 = (f1 * g2 - f2 * g1) * g3 + (f2 * g3 - f3 * g2) * g1 := by grind
  exact of_mul_nn (by omega) h
/-- all three on the left: what the smaller circle holds there, the greater one holds -/
theorem left_in {a b d p s : Pt} (hd : 0 < tn a b d) (hp : 0 < tn a b p) (hs : 0 < tn a b s) (k : 0 < ic a b d p) (l : 0 ≤ ic a b p s) : 0 < ic a b d s := pen hp hd hs k l
/-- c on the right, p on the left and not inside of the circle of b, a, c: what the circle of a, b, p holds on the right, that one holds -/
theorem right_in {a b c p s : Pt} (hc : tn a b c < 0) (hp : 0 < tn a b p) (hs : tn a b s < 0) (k : 0 ≤ ic a b c p) (l : 0 < ic a b p s) : 0 < ic b a c s := by
  rw [ic_sw]
  unfold ic at *
  have a1 := Int.mul_nonneg k (show 0 ≤ -tn a b s by omega)
  have a2 := Int.mul_pos l (show 0 < -tn a b c by omega)
  have e : -(dia a b c * tn a b s - dia a b s * tn a b c) * tn a b p = (dia a b c * tn a b p - dia a b p * tn a b c) * -tn a b s + (dia a b p * tn a b s - dia a b s * tn a b p) * -tn a b c := by grind
  exact of_mul_pos (by omega) hp
/-- on the line -/
theorem on_line {a b c s : Pt} (h : tn a b s = 0) : ic a b c s = -(dia a b s * tn a b c) := by
  unfold ic
  rw [h]
  grind
/-- p strictly right of a b and inside the circle of a, b, d: inside that of b, a, e too, if e isn't inside the first -/
theorem step_in {a b d e p : Pt} (hd : 0 < tn a b d) (hp : tn a b p < 0) (he : tn a b e < 0) (k : 0 < ic a b d p) (l : ic a b d e ≤ 0) : 0 < ic b a e p := by
  rw [ic_sw]
  unfold ic at *
  have a1 := Int.mul_pos k (show 0 < -tn a b e by omega)
  have a2 := Int.mul_nonneg (show 0 ≤ -(dia a b d * tn a b e - dia a b e * tn a b d) by omega) (show 0 ≤ -tn a b p by omega)
  have e : -(dia a b e * tn a b p - dia a b p * tn a b e) * tn a b d = (dia a b d * tn a b p - dia a b p * tn a b d) * -tn a b e + -(dia a b d * tn a b e - dia a b e * tn a b d) * -tn a b p := by grind
  exact of_mul_pos (by omega) hd
/-- and deeper inside -/
theorem step_deep {a b d e p : Pt} (hp : tn a b p < 0) (l : ic a b d e ≤ 0) : ic a b d p * tn b a e ≤ ic b a e p * tn a b d := by
  have a2 := Int.mul_nonneg (show 0 ≤ -ic a b d e by omega) (show 0 ≤ -tn a b p by omega)
  have e : ic b a e p * tn a b d - ic a b d p * tn b a e = -ic a b d e * -tn a b p := by
    rw [ic_sw, tns a b e]
    unfold ic
    grind
  omega
theorem step_deeper {a b d e p : Pt} (hp : tn a b p < 0) (l : ic a b d e < 0) : ic a b d p * tn b a e < ic b a e p * tn a b d := by
  have a2 := Int.mul_pos (show 0 < -ic a b d e by omega) (show 0 < -tn a b p by omega)
  have e : ic b a e p * tn a b d - ic a b d p * tn b a e = -ic a b d e * -tn a b p := by
    rw [ic_sw, tns a b e]
    unfold ic
    grind
  omega
theorem sq_nn' (x : Int) : 0 ≤ x * x := by
  rcases ltge x 0 with h | h
  · have := Int.mul_pos_of_neg_of_neg h h
    omega
  · exact Int.mul_nonneg h h
theorem sq_pos' {x : Int} (h : x ≠ 0) : 0 < x * x := by
  rcases Int.lt_or_gt_of_ne h with h | h
  · exact Int.mul_pos_of_neg_of_neg h h
  · exact Int.mul_pos h h
def nrm (a b : Pt) : Int := (b.1 - a.1) * (b.1 - a.1) + (b.2 - a.2) * (b.2 - a.2)
theorem nrm_nn (a b : Pt) : 0 ≤ nrm a b := by
  have := sq_nn' (b.1 - a.1)
  have := sq_nn' (b.2 - a.2)
  unfold nrm
  omega
theorem nrm_pos {a b : Pt} (h : a ≠ b) : 0 < nrm a b := by
  have h1 := sq_nn' (b.1 - a.1)
  have h2 := sq_nn' (b.2 - a.2)
  unfold nrm
  have : a.1 ≠ b.1 ∨ a.2 ≠ b.2 := by
    by_cases c : a.1 = b.1
    · exact .inr fun d => h (Prod.ext c d)
    · exact .inl c
  rcases this with q | q
  · have := sq_pos' (show b.1 - a.1 ≠ 0 by omega)
    omega
  · have := sq_pos' (show b.2 - a.2 ≠ 0 by omega)
    omega
theorem tn_ne {a b c : Pt} (h : tn a b c ≠ 0) : a ≠ b ∧ b ≠ c ∧ a ≠ c := by
  refine ⟨fun e => h (e ▸ tn_aab _ _), fun e => h (e ▸ tn_abb _ _), fun e => h (e ▸ tn_aba _ _)⟩
/-- beyond the side a b and not outside of the circle: on the left of a c and c b -/
theorem conv_1 {a b c p : Pt} (hp : 0 < tn a b p) (hc : 0 < tn b a c) (k : 0 ≤ ic b a c p) : 0 < tn a c p := by
  rcases ltge 0 (tn a c p) with h | h
  · exact h
  · exfalso
    have e : ic b a c p * tn a b c = ((tn a p c * (b.1 - a.1) + tn a b p * (c.1 - a.1)) * (tn a p c * (b.1 - a.1) + tn a b p * (c.1 - a.1)) + (tn a p c * (b.2 - a.2) + tn a b p * (c.2 - a.2)) * (tn a p c * (b.2 - a.2) + tn a b p * (c.2 - a.2))) + tn a p c * tn b a c * nrm a b + tn a b p * tn b a c * nrm a c := by
      unfold ic dia tn nrm
      grind
    have e1 : tn a p c = -tn a c p := by
      unfold tn
      grind
    have e2 : tn a b c = -tn b a c := tns b a c
    have a1 := sq_nn' (tn a p c * (b.1 - a.1) + tn a b p * (c.1 - a.1))
    have a2 := sq_nn' (tn a p c * (b.2 - a.2) + tn a b p * (c.2 - a.2))
    have a3 := Int.mul_nonneg (Int.mul_nonneg (show 0 ≤ tn a p c by omega) (Int.le_of_lt hc)) (nrm_nn a b)
    have a4 := Int.mul_pos (Int.mul_pos hp hc) (nrm_pos (tn_ne (by omega : tn b a c ≠ 0)).2.1)
    have a5 := Int.mul_nonneg k (Int.le_of_lt hc)
    rw [e2, Int.mul_neg] at e
    omega
theorem conv_2 {a b c p : Pt} (hp : 0 < tn a b p) (hc : 0 < tn b a c) (k : 0 ≤ ic b a c p) : 0 < tn c b p := by
  rcases ltge 0 (tn c b p) with h | h
  · exact h
  · exfalso
    have e : ic b a c p * tn a b c = ((tn b c p * (a.1 - b.1) + tn a b p * (c.1 - b.1)) * (tn b c p * (a.1 - b.1) + tn a b p * (c.1 - b.1)) + (tn b c p * (a.2 - b.2) + tn a b p * (c.2 - b.2)) * (tn b c p * (a.2 - b.2) + tn a b p * (c.2 - b.2))) + tn b c p * tn b a c * nrm a b + tn a b p * tn b a c * nrm b c := by
      unfold ic dia tn nrm
      grind
    have e1 : tn b c p = -tn c b p := tns c b p
    have e2 : tn a b c = -tn b a c := tns b a c
    have a1 := sq_nn' (tn b c p * (a.1 - b.1) + tn a b p * (c.1 - b.1))
    have a2 := sq_nn' (tn b c p * (a.2 - b.2) + tn a b p * (c.2 - b.2))
    have a3 := Int.mul_nonneg (Int.mul_nonneg (show 0 ≤ tn b c p by omega) (Int.le_of_lt hc)) (nrm_nn a b)
    have a4 := Int.mul_pos (Int.mul_pos hp hc) (nrm_pos (tn_ne (by omega : tn b a c ≠ 0)).2.2)
    have a5 := Int.mul_nonneg k (Int.le_of_lt hc)
    rw [e2, Int.mul_neg] at e
    omega
/-- what is greater than all three corners isn't in the triangle -/
theorem not_in {a b d p : Pt} (ha : lt2 a p) (hb : lt2 b p) (hd : lt2 d p) (h : 0 < tn a b d) : tn a b p < 0 ∨ tn b d p < 0 ∨ tn d a p < 0 := by
  rcases ltge (tn a b p) 0 with h1 | h1
  · exact .inl h1
  rcases ltge (tn b d p) 0 with h2 | h2
  · exact .inr (.inl h2)
  rcases ltge (tn d a p) 0 with h3 | h3
  · exact .inr (.inr h3)
  exfalso
  have s : tn a b p + tn b d p + tn d a p = tn a b d := by
    unfold tn
    grind
  have x : tn b d p * (p.1 - a.1) + tn d a p * (p.1 - b.1) + tn a b p * (p.1 - d.1) = 0 := by
    unfold tn
    grind
  have y : tn b d p * (p.2 - a.2) + tn d a p * (p.2 - b.2) + tn a b p * (p.2 - d.2) = 0 := by
    unfold tn
    grind
  have x1 := Int.mul_nonneg h2 (show 0 ≤ p.1 - a.1 by unfold lt2 at ha; omega)
  have x2 := Int.mul_nonneg h3 (show 0 ≤ p.1 - b.1 by unfold lt2 at hb; omega)
  have x3 := Int.mul_nonneg h1 (show 0 ≤ p.1 - d.1 by unfold lt2 at hd; omega)
  have one {t : Int} {q : Pt} (ht : 0 ≤ t) (hq : lt2 q p) (hx : t * (p.1 - q.1) = 0) : 0 ≤ t * (p.2 - q.2) ∧ (0 < t → 0 < t * (p.2 - q.2)) := by
    rcases Int.mul_eq_zero.mp hx with z | z
    · subst z
      exact ⟨by omega, fun h => absurd h (by omega)⟩
    · have : 0 < p.2 - q.2 := by unfold lt2 at hq; omega
      exact ⟨Int.mul_nonneg ht (Int.le_of_lt this), fun h => Int.mul_pos h this⟩
  have o1 := one h2 ha (by omega)
  have o2 := one h3 hb (by omega)
  have o3 := one h1 hd (by omega)
  rcases ltge 0 (tn a b p) with c1 | c1
  · have := o3.2 c1
    omega
  · rcases ltge 0 (tn b d p) with c2 | c2
    · have := o1.2 c2
      omega
    · have := o2.2 (by omega)
      omega
/-! ### triangles with empty circles, by numbers of sites -/
abbrev TriF := Nat → Nat → Option Nat
structure TriT (P : Nat → Pt) (n : Nat) (T : TriF) : Prop where
  rng : ∀ {a b c}, T a b = some c → a < n ∧ b < n ∧ c < n
  pos : ∀ {a b c}, T a b = some c → 0 < (tn (P a) (P b) (P c))
  rot : ∀ {a b c}, T a b = some c → T b c = some a
def EmpT (P : Nat → Pt) (n : Nat) (T : TriF) : Prop := ∀ {a b c}, T a b = some c → ∀ s, s < n → (ic (P a) (P b) (P c) (P s)) ≤ 0
def BrdT (P : Nat → Pt) (n : Nat) (T : TriF) : Prop := ∀ {a b c}, T a b = some c → T b a = none → ∀ s, s < n → 0 ≤ (tn (P a) (P b) (P s))
/-- two sites that lie beside one another on an empty circle, a third one on the left -/
structure OnE (P : Nat → Pt) (n a b c : Nat) : Prop where
  ra : a < n
  rb : b < n
  rc : c < n
  pos : 0 < (tn (P a) (P b) (P c))
  emp : ∀ s, s < n → (ic (P a) (P b) (P c) (P s)) ≤ 0
  nxt : ∀ s, s < n → (tn (P a) (P b) (P s)) < 0 → (ic (P a) (P b) (P c) (P s)) < 0
def FullT (P : Nat → Pt) (n : Nat) (T : TriF) : Prop := ∀ {a b c}, OnE P n a b c → ∃ d, T a b = some d ∧ (ic (P a) (P b) (P c) (P d)) = 0
structure Dl (P : Nat → Pt) (n : Nat) (T : TriF) : Prop where
  tri : TriT P n T
  emp : EmpT P n T
  brd : BrdT P n T
  full : FullT P n T
/-- a side of the border that the next site sees from its left -/
structure VisP (P : Nat → Pt) (n a b : Nat) : Prop where
  ra : a < n
  rb : b < n
  pos : 0 < (tn (P a) (P b) (P n))
  right : ∀ s, s < n → (tn (P a) (P b) (P s)) ≤ 0
  btw : ∀ s, s < n → (tn (P a) (P b) (P s)) = 0 → 0 ≤ (dia (P a) (P b) (P s))
/-- while the sides about the new site n are looked at; A are those that are left -/
structure Mid (P : Nat → Pt) (n : Nat) (O T : TriF) (A : List (Nat × Nat)) : Prop where
  tri : TriT P (n + 1) T
  old : ∀ {a b c}, T a b = some c → a < n → b < n → c < n → O a b = some c
  why : ∀ {a b}, T a b = some n → VisP P n a b ∨ ∃ d, O a b = some d ∧ 0 < (ic (P a) (P b) (P d) (P n))
  kept : ∀ {a b d}, O a b = some d → T a b = some d ∨ (0 < (ic (P a) (P b) (P d) (P n)) ∧ (T a b = some n ∨ (tn (P a) (P b) (P n)) < 0 ∨ (0 < (tn (P a) (P b) (P n)) ∧ ∃ c, c < n ∧ 0 < (ic (P a) (P b) (P n) (P c)))))
  seen : ∀ {a b}, VisP P n a b → T a b = some n ∨ ∃ c, c < n ∧ 0 < (ic (P a) (P b) (P n) (P c))
  legal : ∀ {a b c}, T a b = some n → T b a = some c → 0 ≤ (ic (P a) (P b) (P c) (P n)) ∨ (a, b) ∈ A
  ahead : ∀ {a b}, (a, b) ∈ A → T a b = some n
  nodup : A.Nodup
  brd : BrdT P (n + 1) T
  star : ∀ {x y x' y'}, T n x = some y → T n x' = some y' → x = x' ∨ 0 ≤ (tn (P n) (P y) (P x')) ∨ 0 ≤ (tn (P n) (P y') (P x))
def Srt (P : Nat → Pt) (n : Nat) : Prop := ∀ i j, i < j → j < n → lt2 (P i) (P j)
theorem Srt.ne {P : Nat → Pt} {n i j : Nat} (h : Srt P n) (hi : i < n) (hj : j < n) (e : P i = P j) : i = j := by
  rcases Nat.lt_trichotomy i j with q | q | q
  · exact absurd (e ▸ h i j q hj) lt2_irr
  · exact q
  · exact absurd (e ▸ h j i q hi) lt2_irr
/-- seen from the last site, directions are ordered -/
theorem from_last {P : Nat → Pt} {n x y z : Nat} (so : Srt P (n + 1)) (hx : x < n) (hy : y < n) (hz : z < n) (h : 0 ≤ (tn (P n) (P x) (P y))) (k : 0 ≤ (tn (P n) (P y) (P z))) : 0 ≤ (tn (P n) (P x) (P z)) := by
  have e (u v : Nat) : (tn (P n) (P u) (P v)) = crs (vec (P u) (P n)) (vec (P v) (P n)) := by
    unfold tn crs vec
    grind
  rw [e] at *
  exact crs_tr (fwd_vec.mpr (so x n hx (by omega))) (fwd_vec.mpr (so y n hy (by omega))) (fwd_vec.mpr (so z n hz (by omega))) h k
theorem tn_neg (a b c : Pt) : tn a c b = -tn a b c := by
  unfold tn
  grind
theorem from_last1 {P : Nat → Pt} {n x y z : Nat} (so : Srt P (n + 1)) (hx : x < n) (hy : y < n) (hz : z < n) (h : 0 < (tn (P n) (P x) (P y))) (k : 0 ≤ (tn (P n) (P y) (P z))) : 0 < (tn (P n) (P x) (P z)) := by
  rcases ltge 0 (tn (P n) (P x) (P z)) with q | q
  · exact q
  · have a := from_last so hy hz hx k (by rw [tn_neg]; omega)
    rw [tn_neg] at a
    omega
theorem from_last2 {P : Nat → Pt} {n x y z : Nat} (so : Srt P (n + 1)) (hx : x < n) (hy : y < n) (hz : z < n) (h : 0 ≤ (tn (P n) (P x) (P y))) (k : 0 < (tn (P n) (P y) (P z))) : 0 < (tn (P n) (P x) (P z)) := by
  rcases ltge 0 (tn (P n) (P x) (P z)) with q | q
  · exact q
  · have a := from_last so hz hx hy (by rw [tn_neg]; omega) h
    rw [tn_neg] at a
    omega
section
variable {P : Nat → Pt} {n : Nat} {O T : TriF} {A : List (Nat × Nat)}
theorem TriT.rot2 (h : TriT P n T) {a b c : Nat} (e : T a b = some c) : T c a = some b := h.rot (h.rot e)
theorem TriT.ne (h : TriT P n T) {a b c : Nat} (e : T a b = some c) : a ≠ b ∧ b ≠ c ∧ a ≠ c := by
  have := tn_ne (show (tn (P a) (P b) (P c)) ≠ 0 by have := h.pos e; omega)
  exact ⟨fun q => this.1 (q ▸ rfl), fun q => this.2.1 (q ▸ rfl), fun q => this.2.2 (q ▸ rfl)⟩
/-- not on both sides -/
theorem TriT.two (h : TriT P n T) {a b c d : Nat} (e : T a b = some c) (k : T b a = some d) : c ≠ d := fun q => by
  have h1 := h.pos e
  have h2 := h.pos k
  rw [← q, tns] at h2
  omega
/-- the next side is one that no flip is asked of -/
theorem Mid.pop {a b : Nat} (h : Mid P n O T (A ++ [(a, b)])) (k : ∀ c, T b a = some c → 0 ≤ (ic (P a) (P b) (P c) (P n))) : Mid P n O T A := by
  refine { h with legal := fun {x y c} e f => ?_, ahead := fun q => h.ahead (List.mem_append_left _ q), nodup := (List.nodup_append.mp h.nodup).1 }
  rcases h.legal e f with q | q
  · exact .inl q
  · rcases List.mem_append.mp q with q | q
    · exact .inr q
    · have := List.mem_singleton.mp q
      cases this
      exact .inl (k c f)
def flip (T : TriF) (n a b c : Nat) : TriF := fun x y =>
  if (x = a ∧ y = b) ∨ (x = b ∧ y = a) then none
  else if x = n ∧ y = a then some c
  else if x = a ∧ y = c then some n
  else if x = c ∧ y = n then some a
  else if x = n ∧ y = c then some b
  else if x = c ∧ y = b then some n
  else if x = b ∧ y = n then some c
  else T x y
end
section
variable {P : Nat → Pt} {n : Nat} {O T : TriF} {A : List (Nat × Nat)} {a b c : Nat}
theorem flip_some (ab : a ≠ b) (an : a ≠ n) (bn : b ≠ n) (ca : c ≠ a) (cb : c ≠ b) (cn : c ≠ n) (n1 : T n c = none) (n2 : T c n = none) {x y z : Nat} :
    flip T n a b c x y = some z ↔ (x = n ∧ y = a ∧ z = c) ∨ (x = a ∧ y = c ∧ z = n) ∨ (x = c ∧ y = n ∧ z = a) ∨ (x = n ∧ y = c ∧ z = b) ∨ (x = c ∧ y = b ∧ z = n) ∨ (x = b ∧ y = n ∧ z = c) ∨
      (T x y = some z ∧ ¬ (x = a ∧ y = b) ∧ ¬ (x = b ∧ y = a) ∧ ¬ (x = n ∧ y = a) ∧ ¬ (x = b ∧ y = n) ∧ ¬ (x = a ∧ y = c) ∧ ¬ (x = c ∧ y = b)) := by
  unfold flip
  have n3 : ∀ w, T n c ≠ some w := fun w => by rw [n1]; simp
  have n4 : ∀ w, T c n ≠ some w := fun w => by rw [n2]; simp
  constructor
  · intro h
    split at h
    · cases h
    split at h
    · cases h
      omega
    split at h
    · cases h
      omega
    split at h
    · cases h
      omega
    split at h
    · cases h
      omega
    split at h
    · cases h
      omega
    split at h
    · cases h
      omega
    refine .inr (.inr (.inr (.inr (.inr (.inr ⟨h, ?_⟩)))))
    omega
  · rintro (⟨rfl, rfl, rfl⟩ | ⟨rfl, rfl, rfl⟩ | ⟨rfl, rfl, rfl⟩ | ⟨rfl, rfl, rfl⟩ | ⟨rfl, rfl, rfl⟩ | ⟨rfl, rfl, rfl⟩ | ⟨h, k⟩)
    · rw [if_neg (by omega), if_pos (by omega)]
    · rw [if_neg (by omega), if_neg (by omega), if_pos (by omega)]
    · rw [if_neg (by omega), if_neg (by omega), if_neg (by omega), if_pos (by omega)]
    · rw [if_neg (by omega), if_neg (by omega), if_neg (by omega), if_neg (by omega), if_pos (by omega)]
    · rw [if_neg (by omega), if_neg (by omega), if_neg (by omega), if_neg (by omega), if_neg (by omega), if_pos (by omega)]
    · rw [if_neg (by omega), if_neg (by omega), if_neg (by omega), if_neg (by omega), if_neg (by omega), if_neg (by omega), if_pos (by omega)]
    · have j1 : ¬ (x = n ∧ y = c) := fun q => n3 z (q.1 ▸ q.2 ▸ h)
      have j2 : ¬ (x = c ∧ y = n) := fun q => n4 z (q.1 ▸ q.2 ▸ h)
      obtain ⟨k1, k2, k3, k4, k5, k6⟩ := k
      rw [if_neg (fun q => q.elim k1 k2), if_neg k3, if_neg k5, if_neg j2, if_neg j1, if_neg k6, if_neg k4]
      exact h
theorem flip_none {x y : Nat} (h : flip T n a b c x y = none) : (x = a ∧ y = b) ∨ (x = b ∧ y = a) ∨ (T x y = none ∧ ¬ (x = n ∧ y = a) ∧ ¬ (x = a ∧ y = c) ∧ ¬ (x = c ∧ y = n) ∧ ¬ (x = n ∧ y = c) ∧ ¬ (x = c ∧ y = b) ∧ ¬ (x = b ∧ y = n)) := by
  unfold flip at h
  split at h
  · omega
  iterate 6
    split at h
    · cases h
  exact .inr (.inr ⟨h, by omega⟩)
/-- what a flip leaves -/
theorem Mid.flipped (so : Srt P (n + 1)) (hO : TriT P n O) (h : Mid P n O T (A ++ [(a, b)])) (hba : T b a = some c) (bad : (ic (P a) (P b) (P c) (P n)) < 0) : Mid P n O (flip T n a b c) (A ++ [(a, c), (c, b)]) ∧ T n c = none ∧ T c n = none ∧ c < n ∧ 0 < (tn (P a) (P c) (P n)) ∧ 0 < (tn (P c) (P b) (P n)) := by
  have hab : T a b = some n := h.ahead (List.mem_append_right _ (List.mem_singleton.mpr rfl))
  have hbn := h.tri.rot hab
  have hna := h.tri.rot2 hab
  have hac := h.tri.rot hba
  have hcb := h.tri.rot2 hba
  have N1 := h.tri.ne hab
  have N2 := h.tri.ne hba
  have cn : c ≠ n := fun q => h.tri.two hab hba q.symm
  have r1 := h.tri.rng hab
  have r2 := h.tri.rng hba
  have cl : c < n := by omega
  have al : a < n := by omega
  have bl : b < n := by omega
  have p1 := h.tri.pos hab
  have p2 := h.tri.pos hba
  have g1 : 0 < (tn (P a) (P c) (P n)) := conv_1 p1 p2 (by rw [ic_sw]; omega)
  have g2 : 0 < (tn (P c) (P b) (P n)) := conv_2 p1 p2 (by rw [ic_sw]; omega)
  have a1 : 0 < (tn (P n) (P a) (P c)) := by rw [← tnc]; exact g1
  have a2 : 0 < (tn (P n) (P c) (P b)) := by rw [← tnc]; exact g2
  have n1 : T n c = none := by
    cases e : T n c with
    | none => rfl
    | some z =>
      exfalso
      have zr := h.tri.rng e
      have zn := h.tri.ne e
      have zl : z < n := by omega
      have zp := h.tri.pos e
      rcases h.star hna e with q | q | q
      · omega
      · rw [tn_neg] at q
        omega
      · have := from_last2 so al cl zl (Int.le_of_lt a1) zp
        rw [tn_neg] at q
        omega
  have n2 : T c n = none := by
    cases e : T c n with
    | none => rfl
    | some z =>
      exfalso
      have e2 := h.tri.rot e
      have zr := h.tri.rng e
      have zn := h.tri.ne e
      have zl : z < n := by omega
      have zp := h.tri.pos e2
      rcases h.star hna e2 with q | q | q
      · subst q
        rw [hna] at e2
        cases e2
        exact absurd rfl N2.2.2
      · have := from_last1 so zl cl bl zp (Int.le_of_lt a2)
        rw [tn_neg] at q
        omega
      · rw [tn_neg] at q
        omega
  have cb : c ≠ b := Ne.symm N2.2.2
  have ca : c ≠ a := Ne.symm N2.2.1
  have S {x y z : Nat} := flip_some (T := T) (x := x) (y := y) (z := z) N1.1 N1.2.2 N1.2.1 ca cb cn n1 n2
  have i1 : 0 < (ic (P a) (P c) (P b) (P n)) := by rw [ic_cyc, ic_sw]; omega
  have i2 : 0 < (ic (P c) (P b) (P a) (P n)) := by rw [ic_cyc]; exact i1
  have i3 : 0 < (ic (P a) (P b) (P n) (P c)) := by rw [ic_ex]; omega
  have i4 : 0 < (ic (P b) (P a) (P c) (P n)) := by rw [ic_sw]; omega
  have i5 : (tn (P b) (P a) (P n)) < 0 := by rw [tns]; omega
  have stay {x y : Nat} (e : T x y = some n) (k : ¬ (x = a ∧ y = b)) : flip T n a b c x y = some n := by
    have q := h.tri.ne e
    refine S.mpr (.inr (.inr (.inr (.inr (.inr (.inr ⟨e, k, ?_, ?_, ?_, ?_, ?_⟩))))))
    · rintro ⟨rfl, rfl⟩
      rw [hba] at e
      cases e
      exact cn rfl
    · omega
    · omega
    · rintro ⟨rfl, rfl⟩
      rw [hac] at e
      cases e
      exact N1.2.1 rfl
    · rintro ⟨rfl, rfl⟩
      rw [hcb] at e
      cases e
      exact N1.2.2 rfl
  refine ⟨⟨⟨?_, ?_, ?_⟩, ?_, ?_, ?_, ?_, ?_, ?_, ?_, ?_, ?_⟩, n1, n2, cl, g1, g2⟩
  · intro x y z e
    rcases S.mp e with ⟨rfl, rfl, rfl⟩ | ⟨rfl, rfl, rfl⟩ | ⟨rfl, rfl, rfl⟩ | ⟨rfl, rfl, rfl⟩ | ⟨rfl, rfl, rfl⟩ | ⟨rfl, rfl, rfl⟩ | ⟨e, _⟩
    iterate 6 omega
    exact h.tri.rng e
  · intro x y z e
    rcases S.mp e with ⟨rfl, rfl, rfl⟩ | ⟨rfl, rfl, rfl⟩ | ⟨rfl, rfl, rfl⟩ | ⟨rfl, rfl, rfl⟩ | ⟨rfl, rfl, rfl⟩ | ⟨rfl, rfl, rfl⟩ | ⟨e, _⟩
    · exact a1
    · exact g1
    · rw [tnc]
      exact g1
    · exact a2
    · exact g2
    · rw [tnc]
      exact g2
    · exact h.tri.pos e
  · intro x y z e
    rcases S.mp e with ⟨rfl, rfl, rfl⟩ | ⟨rfl, rfl, rfl⟩ | ⟨rfl, rfl, rfl⟩ | ⟨rfl, rfl, rfl⟩ | ⟨rfl, rfl, rfl⟩ | ⟨rfl, rfl, rfl⟩ | ⟨e, k1, k2, k3, k4, k5, k6⟩
    · exact S.mpr (.inr (.inl ⟨rfl, rfl, rfl⟩))
    · exact S.mpr (.inr (.inr (.inl ⟨rfl, rfl, rfl⟩)))
    · exact S.mpr (.inl ⟨rfl, rfl, rfl⟩)
    · exact S.mpr (.inr (.inr (.inr (.inr (.inl ⟨rfl, rfl, rfl⟩)))))
    · exact S.mpr (.inr (.inr (.inr (.inr (.inr (.inl ⟨rfl, rfl, rfl⟩))))))
    · exact S.mpr (.inr (.inr (.inr (.inl ⟨rfl, rfl, rfl⟩))))
    · have e2 := h.tri.rot e
      refine S.mpr (.inr (.inr (.inr (.inr (.inr (.inr ⟨e2, ?_, ?_, ?_, ?_, ?_, ?_⟩))))))
      · rintro ⟨rfl, rfl⟩
        rw [hab] at e2
        cases e2
        exact k3 ⟨rfl, rfl⟩
      · rintro ⟨rfl, rfl⟩
        rw [hba] at e2
        cases e2
        exact k6 ⟨rfl, rfl⟩
      · rintro ⟨rfl, rfl⟩
        rw [hna] at e2
        cases e2
        exact k4 ⟨rfl, rfl⟩
      · rintro ⟨rfl, rfl⟩
        rw [hbn] at e2
        cases e2
        exact k1 ⟨rfl, rfl⟩
      · rintro ⟨rfl, rfl⟩
        rw [hac] at e2
        cases e2
        exact k2 ⟨rfl, rfl⟩
      · rintro ⟨rfl, rfl⟩
        rw [hcb] at e2
        cases e2
        exact k5 ⟨rfl, rfl⟩
  · intro x y z e hx hy hz
    rcases S.mp e with ⟨rfl, rfl, rfl⟩ | ⟨rfl, rfl, rfl⟩ | ⟨rfl, rfl, rfl⟩ | ⟨rfl, rfl, rfl⟩ | ⟨rfl, rfl, rfl⟩ | ⟨rfl, rfl, rfl⟩ | ⟨e, _⟩
    iterate 6 omega
    exact h.old e hx hy hz
  · intro x y e
    rcases S.mp e with ⟨r1, r2, r3⟩ | ⟨rfl, rfl, _⟩ | ⟨r1, r2, r3⟩ | ⟨r1, r2, r3⟩ | ⟨rfl, rfl, _⟩ | ⟨r1, r2, r3⟩ | ⟨e, _⟩
    · omega
    · exact .inr ⟨b, h.old hac al cl bl, i1⟩
    · omega
    · omega
    · exact .inr ⟨a, h.old hcb cl bl al, i2⟩
    · omega
    · exact h.why e
  · intro x y d e
    have re := hO.rng e
    rcases h.kept e with q | ⟨q1, q2⟩
    · by_cases w1 : x = a ∧ y = b
      · obtain ⟨rfl, rfl⟩ := w1
        rw [hab] at q
        cases q
        omega
      by_cases w2 : x = b ∧ y = a
      · obtain ⟨rfl, rfl⟩ := w2
        rw [hba] at q
        cases q
        exact .inr ⟨i4, .inr (.inl i5)⟩
      by_cases w3 : x = a ∧ y = c
      · obtain ⟨rfl, rfl⟩ := w3
        rw [hac] at q
        cases q
        exact .inr ⟨i1, .inl (S.mpr (.inr (.inl ⟨rfl, rfl, rfl⟩)))⟩
      by_cases w4 : x = c ∧ y = b
      · obtain ⟨rfl, rfl⟩ := w4
        rw [hcb] at q
        cases q
        exact .inr ⟨i2, .inl (S.mpr (.inr (.inr (.inr (.inr (.inl ⟨rfl, rfl, rfl⟩))))))⟩
      exact .inl (S.mpr (.inr (.inr (.inr (.inr (.inr (.inr ⟨q, w1, w2, by omega, by omega, w3, w4⟩)))))))
    · refine .inr ⟨q1, ?_⟩
      rcases q2 with q2 | q2
      · by_cases w1 : x = a ∧ y = b
        · obtain ⟨rfl, rfl⟩ := w1
          exact .inr (.inr ⟨p1, c, cl, i3⟩)
        · exact .inl (stay q2 w1)
      · exact .inr q2
  · intro x y v
    rcases h.seen v with q | q
    · by_cases w1 : x = a ∧ y = b
      · obtain ⟨rfl, rfl⟩ := w1
        exact .inr ⟨c, cl, i3⟩
      · exact .inl (stay q w1)
    · exact .inr q
  · intro x y z e f
    rcases S.mp e with ⟨r1, r2, r3⟩ | ⟨rfl, rfl, _⟩ | ⟨r1, r2, r3⟩ | ⟨r1, r2, r3⟩ | ⟨rfl, rfl, _⟩ | ⟨r1, r2, r3⟩ | ⟨e, k1, k2, k3, k4, k5, k6⟩
    · omega
    · exact .inr (List.mem_append_right _ (by simp))
    · omega
    · omega
    · exact .inr (List.mem_append_right _ (by simp))
    · omega
    · have N3 := h.tri.ne e
      have p3 := h.tri.pos e
      rcases S.mp f with ⟨r1, r2, r3⟩ | ⟨rfl, rfl, _⟩ | ⟨r1, r2, r3⟩ | ⟨r1, r2, r3⟩ | ⟨rfl, rfl, _⟩ | ⟨r1, r2, r3⟩ | ⟨f, _⟩
      · omega
      · rw [tns] at p3
        omega
      · omega
      · omega
      · rw [tns] at p3
        omega
      · omega
      · rcases h.legal e f with q | q
        · exact .inl q
        · rcases List.mem_append.mp q with q | q
          · exact .inr (List.mem_append_left _ q)
          · have := List.mem_singleton.mp q
            cases this
            exact absurd ⟨rfl, rfl⟩ k1
  · intro x y q
    rcases List.mem_append.mp q with q1 | q
    · refine stay (h.ahead (List.mem_append_left _ q1)) ?_
      intro w
      refine (List.nodup_append.mp h.nodup).2.2 _ q1 (a, b) (List.mem_singleton.mpr rfl) ?_
      rw [w.1, w.2]
    · rcases List.mem_cons.mp q with q | q
      · cases q
        exact S.mpr (.inr (.inl ⟨rfl, rfl, rfl⟩))
      · have := List.mem_singleton.mp q
        cases this
        exact S.mpr (.inr (.inr (.inr (.inr (.inl ⟨rfl, rfl, rfl⟩)))))
  · have nd := List.nodup_append.mp h.nodup
    refine List.nodup_append.mpr ⟨nd.1, ?_, ?_⟩
    · simp only [List.nodup_cons, List.mem_singleton, Prod.mk.injEq, List.not_mem_nil, not_false_eq_true, List.nodup_nil, and_true]
      omega
    · rintro ⟨x, y⟩ hx w hw rfl
      have e := h.ahead (List.mem_append_left _ hx)
      rcases List.mem_cons.mp hw with q | q
      · cases q
        rw [hac] at e
        cases e
        exact N1.2.1 rfl
      · have := List.mem_singleton.mp q
        cases this
        rw [hcb] at e
        cases e
        exact N1.2.2 rfl
  · intro x y z e f
    rcases flip_none f with ⟨rfl, rfl⟩ | ⟨rfl, rfl⟩ | ⟨f1, k1, k2, k3, k4, k5, k6⟩
    · exfalso
      rcases S.mp e with q | q | q | q | q | q | ⟨e, k⟩ <;> omega
    · exfalso
      rcases S.mp e with q | q | q | q | q | q | ⟨e, k⟩ <;> omega
    · rcases S.mp e with ⟨rfl, rfl, _⟩ | ⟨rfl, rfl, _⟩ | ⟨rfl, rfl, _⟩ | ⟨rfl, rfl, _⟩ | ⟨rfl, rfl, _⟩ | ⟨rfl, rfl, _⟩ | ⟨e1, _⟩
      · exact h.brd hna f1
      · exact h.brd hac f1
      · omega
      · omega
      · exact h.brd hcb f1
      · exact h.brd hbn f1
      · exact h.brd e1 f1
  · have st {x y : Nat} (e : flip T n a b c n x = some y) : (x = a ∧ y = c) ∨ (x = c ∧ y = b) ∨ (T n x = some y ∧ x ≠ a ∧ x < n ∧ y < n) := by
      rcases S.mp e with q | q | q | q | q | q | ⟨e, k⟩
      · exact .inl ⟨q.2.1, q.2.2⟩
      · omega
      · omega
      · exact .inr (.inl ⟨q.2.1, q.2.2⟩)
      · omega
      · omega
      · have := h.tri.rng e
        have := h.tri.ne e
        exact .inr (.inr ⟨e, by omega, by omega, by omega⟩)
    intro x y x' y' e f
    rcases st e with ⟨rfl, rfl⟩ | ⟨rfl, rfl⟩ | ⟨e1, ex, xl, yl⟩
    · rcases st f with ⟨rfl, rfl⟩ | ⟨rfl, rfl⟩ | ⟨f1, fx, xl', yl'⟩
      · exact .inl rfl
      · exact .inr (.inl (by rw [tn_abb]; omega))
      · rcases h.star hna f1 with q | q | q
        · exact absurd q.symm fx
        · exact .inr (.inl (from_last so cl bl xl' (Int.le_of_lt a2) q))
        · exact .inr (.inr q)
    · rcases st f with ⟨rfl, rfl⟩ | ⟨rfl, rfl⟩ | ⟨f1, fx, xl', yl'⟩
      · exact .inr (.inr (by rw [tn_abb]; omega))
      · exact .inl rfl
      · rcases h.star hna f1 with q | q | q
        · exact absurd q.symm fx
        · exact .inr (.inl q)
        · exact .inr (.inr (from_last so yl' al cl q (Int.le_of_lt a1)))
    · rcases st f with ⟨rfl, rfl⟩ | ⟨rfl, rfl⟩ | ⟨f1, fx, xl', yl'⟩
      · rcases h.star e1 hna with q | q | q
        · exact absurd q ex
        · exact .inr (.inl q)
        · exact .inr (.inr (from_last so cl bl xl (Int.le_of_lt a2) q))
      · rcases h.star e1 hna with q | q | q
        · exact absurd q ex
        · exact .inr (.inl (from_last so yl al cl q (Int.le_of_lt a1)))
        · exact .inr (.inr q)
      · exact h.star e1 f1
end
/-! ### behind the last flip: all circles are empty -/
theorem best {α : Type} (R : α → α → Prop) : ∀ (l : List α), l ≠ [] → (∀ a ∈ l, ∀ b ∈ l, R a b ∨ R b a) → (∀ a ∈ l, ∀ b ∈ l, ∀ c ∈ l, R a b → R b c → R a c) → ∃ m, m ∈ l ∧ ∀ x ∈ l, R m x
  | [], h, _, _ => absurd rfl h
  | [a], _, t, _ => ⟨a, by simp, fun x hx => by
      rw [List.mem_singleton.mp hx]
      exact (t a (by simp) a (by simp)).elim id id⟩
  | a :: b :: l, _, t, tr => by
    obtain ⟨m, hm, k⟩ := best R (b :: l) (by simp) (fun x hx y hy => t x (List.mem_cons_of_mem _ hx) y (List.mem_cons_of_mem _ hy)) (fun x hx y hy z hz => tr x (List.mem_cons_of_mem _ hx) y (List.mem_cons_of_mem _ hy) z (List.mem_cons_of_mem _ hz))
    have ma := List.mem_cons_of_mem a hm
    rcases t a (by simp) m ma with q | q
    · refine ⟨a, by simp, fun x hx => ?_⟩
      rcases List.mem_cons.mp hx with e | e
      · rw [e]
        exact (t a (by simp) a (by simp)).elim id id
      · exact tr a (by simp) m ma x hx q (k x e)
    · refine ⟨m, ma, fun x hx => ?_⟩
      rcases List.mem_cons.mp hx with e | e
      · rw [e]
        exact q
      · exact k x e
theorem least_of {n : Nat} (S : Nat → Prop) (f g : Nat → Int) (hg : ∀ s, s < n → S s → 0 < g s) (ex : ∃ s, s < n ∧ S s) : ∃ c, c < n ∧ S c ∧ ∀ s, s < n → S s → f c * g s ≤ f s * g c := by
  classical
  have mem (s : Nat) : s ∈ (List.range n).filter (fun s => decide (S s)) ↔ s < n ∧ S s := by
    simp [List.mem_filter, List.mem_range]
  obtain ⟨s0, h0, k0⟩ := ex
  obtain ⟨m, hm, k⟩ := best (fun c s => f c * g s ≤ f s * g c) ((List.range n).filter (fun s => decide (S s))) (List.ne_nil_of_mem ((mem s0).mpr ⟨h0, k0⟩)) (fun a _ b _ => by omega) (fun a ha b hb c hc h1 h2 => by
    have ga := hg a ((mem a).mp ha).1 ((mem a).mp ha).2
    have gb := hg b ((mem b).mp hb).1 ((mem b).mp hb).2
    have gc := hg c ((mem c).mp hc).1 ((mem c).mp hc).2
    have := pen0 (f1 := f c) (g1 := g c) (f2 := f b) (g2 := g b) (f3 := f a) (g3 := g a) gb gc ga (by omega) (by omega)
    omega)
  exact ⟨m, ((mem m).mp hm).1, ((mem m).mp hm).2, fun s hs ks => k s ((mem s).mpr ⟨hs, ks⟩)⟩
theorem len_lt {α : Type} (p q : α → Bool) : ∀ (l : List α), (∀ x ∈ l, p x = true → q x = true) → (∃ x, x ∈ l ∧ q x = true ∧ p x = false) → (l.filter p).length < (l.filter q).length
  | [], _, h => by
    obtain ⟨x, hx, _⟩ := h
    cases hx
  | y :: l, h, ⟨x, hx, h1, h2⟩ => by
    have le : ∀ (m : List α), (∀ x ∈ m, p x = true → q x = true) → (m.filter p).length ≤ (m.filter q).length := fun m hm => by
      induction m with
      | nil => exact Nat.le_refl _
      | cons z m ih =>
        have k := ih fun x hx => hm x (List.mem_cons_of_mem _ hx)
        simp only [List.filter_cons]
        cases e : p z
        · cases q z <;> simp <;> omega
        · rw [hm z (by simp) e]
          simp
          omega
    have ht := fun x hx => h x (List.mem_cons_of_mem y hx)
    simp only [List.filter_cons]
    rcases List.mem_cons.mp hx with e | e
    · subst e
      rw [h1, h2]
      have := le l ht
      simp
      omega
    · have k := len_lt p q l ht ⟨x, e, h1, h2⟩
      cases e : p y
      · cases q y <;> simp <;> omega
      · rw [h y (by simp) e]
        simp
        omega
section
variable {P : Nat → Pt} {n : Nat} {O T : TriF}
theorem Mid.emp_star (hO : Dl P n O) (h : Mid P n O T []) {a b : Nat} (e : T a b = some n) : ∀ s, s < n → (ic (P a) (P b) (P n) (P s)) ≤ 0 := by
  intro s hs
  rcases ltge 0 (ic (P a) (P b) (P n) (P s)) with q | q
  case inr => exact q
  exfalso
  have pn := h.tri.pos e
  rcases Int.lt_trichotomy (tn (P a) (P b) (P s)) 0 with c | c | c
  · cases k : T b a with
    | none =>
      have := h.brd e k s (by omega)
      omega
    | some d =>
      have dn : d ≠ n := fun w => h.tri.two e k w.symm
      have rd := h.tri.rng k
      have re := h.tri.rng e
      have ne := h.tri.ne e
      have pd := h.tri.pos k
      rw [tns] at pd
      have l := (h.legal e k).elim id fun w => absurd w List.not_mem_nil
      have := right_in (by omega) pn c l q
      have := hO.emp (h.old k (by omega) (by omega) (by omega)) s hs
      omega
  · rw [on_line c] at q
    have d0 : (dia (P a) (P b) (P s)) < 0 := by
      rcases ltge (dia (P a) (P b) (P s)) 0 with w | w
      · exact w
      · have := Int.mul_nonneg w (Int.le_of_lt pn)
        omega
    rcases h.why e with v | ⟨d, k, _⟩
    · have := v.btw s hs c
      omega
    · have k1 := hO.emp k s hs
      rw [on_line c] at k1
      have := Int.mul_neg_of_neg_of_pos d0 (hO.tri.pos k)
      omega
  · rcases h.why e with v | ⟨d, k, w⟩
    · have := v.right s hs
      omega
    · have := left_in (hO.tri.pos k) pn c w (Int.le_of_lt q)
      have := hO.emp k s hs
      omega
structure Bad (P : Nat → Pt) (n : Nat) (T : TriF) (a b d : Nat) : Prop where
  tri : T a b = some d
  ra : a < n
  rb : b < n
  rd : d < n
  ins : 0 < (ic (P a) (P b) (P d) (P n))
  out : (tn (P a) (P b) (P n)) < 0
theorem Bad.next (so : Srt P (n + 1)) (hO : Dl P n O) (h : Mid P n O T []) {a b d : Nat} (q : Bad P n T a b d) : ∃ e, T b a = some e ∧ e < n ∧ (ic (P a) (P b) (P d) (P e)) ≤ 0 ∧ (Bad P n T a e b ∨ Bad P n T e b a) := by
  have hp := h.tri.pos q.tri
  have := q.out
  have := q.ins
  cases k : T b a with
  | none =>
    have := h.brd q.tri k n (by omega)
    omega
  | some e =>
    have rk := h.tri.rng k
    by_cases en : e = n
    · subst en
      have := (h.legal k q.tri).elim id fun w => absurd w List.not_mem_nil
      rw [ic_sw] at this
      omega
    have el : e < n := by omega
    have pe := h.tri.pos k
    have pe' : (tn (P a) (P b) (P e)) < 0 := by rw [tns]; omega
    have em := hO.emp (h.old q.tri q.ra q.rb q.rd) e el
    have ins := step_in hp q.out pe' q.ins em
    refine ⟨e, rfl, el, em, ?_⟩
    have out' : 0 < (tn (P b) (P a) (P n)) := by rw [tns]; omega
    rcases not_in (so b n q.rb (by omega)) (so a n q.ra (by omega)) (so e n el (by omega)) pe with w | w | w
    · omega
    · exact .inl ⟨h.tri.rot k, q.ra, el, q.rb, by rw [ic_cyc]; exact ins, w⟩
    · exact .inr ⟨h.tri.rot2 k, el, q.rb, q.ra, by rw [ic_cyc, ic_cyc]; exact ins, w⟩
theorem on_side1 {a b e s : Pt} (he : 0 < tn b a e) (on : 0 ≤ ic b a e s) (hs : tn a e s < 0) : tn a b s < 0 := by
  have h1 : 0 < tn e a s := by rw [tns]; omega
  have := conv_2 (a := e) (b := a) (c := b) (p := s) h1 (by rw [tnc]; exact he) (by rw [ic_cyc]; exact on)
  rw [tns]
  omega
theorem on_side2 {a b e s : Pt} (he : 0 < tn b a e) (on : 0 ≤ ic b a e s) (hs : tn e b s < 0) : tn a b s < 0 := by
  have h1 : 0 < tn b e s := by rw [tns]; omega
  have := conv_1 (a := b) (b := e) (c := a) (p := s) h1 (by rw [tnc, tnc]; exact he) (by rw [ic_cyc, ic_cyc]; exact on)
  rw [tns]
  omega
/-- three sites on the circle of three -/
theorem same_circ {a b c d s : Pt} (h : ic a b c d = 0) (hc : tn a b c ≠ 0) : ic a b c s * tn a b d = ic a b d s * tn a b c := by
  unfold ic at *
  grind
theorem Mid.no_bad (so : Srt P (n + 1)) (hO : Dl P n O) (h : Mid P n O T []) {a b d : Nat} : ¬ Bad P n T a b d := by
  classical
  intro q0
  let D : Nat × Nat → Nat := fun q => (T q.1 q.2).getD 0
  let num : Nat × Nat → Int := fun q => (ic (P q.1) (P q.2) (P (D q)) (P n))
  let den : Nat × Nat → Int := fun q => (tn (P q.1) (P q.2) (P (D q)))
  let prs : List (Nat × Nat) := (List.range n).flatMap fun a => (List.range n).map fun b => (a, b)
  let L := prs.filter fun q => decide (∃ d, Bad P n T q.1 q.2 d)
  have mem (q : Nat × Nat) : q ∈ L ↔ ∃ d, Bad P n T q.1 q.2 d := by
    show q ∈ prs.filter _ ↔ _
    rw [List.mem_filter, decide_eq_true_iff]
    refine ⟨fun w => w.2, fun w => ⟨?_, w⟩⟩
    obtain ⟨d, w⟩ := w
    exact List.mem_flatMap.mpr ⟨q.1, List.mem_range.mpr w.ra, List.mem_map.mpr ⟨q.2, List.mem_range.mpr w.rb, rfl⟩⟩
  have isD {q : Nat × Nat} {d : Nat} (w : Bad P n T q.1 q.2 d) : D q = d := by
    show (T q.1 q.2).getD 0 = d
    rw [w.tri]
    rfl
  have dpos {q : Nat × Nat} (w : q ∈ L) : 0 < den q := by
    obtain ⟨d, w⟩ := (mem q).mp w
    show 0 < (tn (P q.1) (P q.2) (P (D q)))
    rw [isD w]
    exact h.tri.pos w.tri
  obtain ⟨m, hm, km⟩ := best (fun x y => num y * den x ≤ num x * den y) L (List.ne_nil_of_mem ((mem (a, b)).mpr ⟨d, q0⟩)) (fun a _ b _ => by omega) (fun x hx y hy z hz h1 h2 => by
    have := pen0 (f1 := num x) (g1 := den x) (f2 := num y) (g2 := den y) (f3 := num z) (g3 := den z) (dpos hy) (dpos hx) (dpos hz) (by omega) (by omega)
    omega)
  let cnt : Nat × Nat → Nat := fun q => ((List.range n).filter fun s => decide ((ic (P q.1) (P q.2) (P (D q)) (P s)) = 0 ∧ (tn (P q.1) (P q.2) (P s)) < 0)).length
  let L2 := L.filter fun q => decide (num m * den q = num q * den m)
  have mem2 (q : Nat × Nat) : q ∈ L2 ↔ q ∈ L ∧ num m * den q = num q * den m := by
    show q ∈ L.filter _ ↔ _
    rw [List.mem_filter, decide_eq_true_iff]
  obtain ⟨m2, hm2, km2⟩ := best (fun x y => cnt x ≤ cnt y) L2 (List.ne_nil_of_mem ((mem2 m).mpr ⟨hm, rfl⟩)) (fun a _ b _ => by omega) (fun x _ y _ z _ h1 h2 => by omega)
  obtain ⟨l2, e2⟩ := (mem2 m2).mp hm2
  obtain ⟨d2, w2⟩ := (mem m2).mp l2
  obtain ⟨e, k, el, em, nx⟩ := w2.next so hO h
  have pe := h.tri.pos k
  have pe' : (tn (P m2.1) (P m2.2) (P e)) < 0 := by rw [tns]; omega
  have p2 := h.tri.pos w2.tri
  have D2 := isD w2
  have nm : num m2 = (ic (P m2.1) (P m2.2) (P d2) (P n)) := by
    show (ic (P m2.1) (P m2.2) (P (D m2)) (P n)) = _
    rw [D2]
  have dm : den m2 = (tn (P m2.1) (P m2.2) (P d2)) := by
    show (tn (P m2.1) (P m2.2) (P (D m2))) = _
    rw [D2]
  have fin (q : Nat × Nat) (mq : q ∈ L) (e1 : num q = (ic (P m2.2) (P m2.1) (P e) (P n))) (e3 : den q = (tn (P m2.2) (P m2.1) (P e))) (lt : (ic (P m2.1) (P m2.2) (P d2) (P e)) = 0 → cnt q < cnt m2) : False := by
    have u1 := km q mq
    have v1 := dpos hm
    have v2 := dpos l2
    have v3 := dpos mq
    by_cases z : (ic (P m2.1) (P m2.2) (P d2) (P e)) = 0
    · have u2 : num m2 * den q ≤ num q * den m2 := by
        rw [nm, e3, e1, dm]
        exact step_deep w2.out em
      have u3 := Int.mul_le_mul_of_nonneg_left u2 (Int.le_of_lt v1)
      have u4 : 0 ≤ (num q * den m - num m * den q) * den m2 := by
        have : (num q * den m - num m * den q) * den m2 = den m * (num q * den m2) - (num m * den m2) * den q := by grind
        rw [this, e2]
        have : num m2 * den m * den q = den m * (num m2 * den q) := by grind
        omega
      have u5 := of_mul_nn u4 v2
      have u6 := km2 q ((mem2 q).mpr ⟨mq, by omega⟩)
      have := lt z
      omega
    · have u2 : num m2 * den q < num q * den m2 := by
        rw [nm, e3, e1, dm]
        exact step_deeper w2.out (by omega)
      have u3 := Int.mul_lt_mul_of_pos_left u2 v1
      have u4 := Int.mul_le_mul_of_nonneg_right u1 (Int.le_of_lt v2)
      have e4 : num m * den q * den m2 = den m * (num m2 * den q) := by
        have : num m * den q * den m2 = (num m * den m2) * den q := by grind
        rw [this, e2]
        grind
      have e5 : num q * den m * den m2 = den m * (num q * den m2) := by grind
      omega
  have same {s : Nat} (z : (ic (P m2.1) (P m2.2) (P d2) (P e)) = 0) (on : (ic (P m2.2) (P m2.1) (P e) (P s)) = 0) : (ic (P m2.1) (P m2.2) (P d2) (P s)) = 0 := by
    have sc := same_circ (s := P s) z (by omega)
    rw [ic_sw] at on
    have : (ic (P m2.1) (P m2.2) (P e) (P s)) = 0 := by omega
    rw [this, Int.zero_mul] at sc
    rcases Int.mul_eq_zero.mp sc with w | w
    · exact w
    · omega
  rcases nx with w | w
  · have Dq : D (m2.1, e) = m2.2 := isD (q := (m2.1, e)) w
    refine fin (m2.1, e) ((mem (m2.1, e)).mpr ⟨_, w⟩) ?_ ?_ fun z => ?_
    · show (ic (P m2.1) (P e) (P (D (m2.1, e))) (P n)) = _
      rw [Dq, ic_cyc]
    · show (tn (P m2.1) (P e) (P (D (m2.1, e)))) = _
      rw [Dq, tnc]
    · refine len_lt _ _ _ (fun s _ ks => ?_) ⟨e, List.mem_range.mpr el, ?_, ?_⟩
      · have ks' : (ic (P m2.1) (P e) (P (D (m2.1, e))) (P s)) = 0 ∧ (tn (P m2.1) (P e) (P s)) < 0 := of_decide_eq_true ks
        rw [Dq, ic_cyc] at ks'
        refine decide_eq_true ⟨?_, on_side1 pe (by omega) ks'.2⟩
        rw [D2]
        exact same z ks'.1
      · refine decide_eq_true ⟨?_, pe'⟩
        rw [D2]
        exact z
      · refine decide_eq_false fun c => ?_
        have := c.2
        rw [tn_abb] at this
        omega
  · have Dq : D (e, m2.2) = m2.1 := isD (q := (e, m2.2)) w
    refine fin (e, m2.2) ((mem (e, m2.2)).mpr ⟨_, w⟩) ?_ ?_ fun z => ?_
    · show (ic (P e) (P m2.2) (P (D (e, m2.2))) (P n)) = _
      rw [Dq, ic_cyc, ic_cyc]
    · show (tn (P e) (P m2.2) (P (D (e, m2.2)))) = _
      rw [Dq, tnc, tnc]
    · refine len_lt _ _ _ (fun s _ ks => ?_) ⟨e, List.mem_range.mpr el, ?_, ?_⟩
      · have ks' : (ic (P e) (P m2.2) (P (D (e, m2.2))) (P s)) = 0 ∧ (tn (P e) (P m2.2) (P s)) < 0 := of_decide_eq_true ks
        rw [Dq, ic_cyc, ic_cyc] at ks'
        refine decide_eq_true ⟨?_, on_side2 pe (by omega) ks'.2⟩
        rw [D2]
        exact same z ks'.1
      · refine decide_eq_true ⟨?_, pe'⟩
        rw [D2]
        exact z
      · refine decide_eq_false fun c => ?_
        have c2 : (tn (P e) (P m2.2) (P e)) < 0 := c.2
        rw [tn_aba] at c2
        omega
theorem Mid.not_bad (so : Srt P (n + 1)) (hO : Dl P n O) (h : Mid P n O T []) {a b d : Nat} (e : T a b = some d) (ra : a < n) (rb : b < n) (rd : d < n) : (ic (P a) (P b) (P d) (P n)) ≤ 0 := by
  rcases ltge 0 (ic (P a) (P b) (P d) (P n)) with q | q
  case inr => exact q
  exfalso
  have pe := h.tri.pos e
  rcases not_in (so a n ra (by omega)) (so b n rb (by omega)) (so d n rd (by omega)) pe with w | w | w
  · exact h.no_bad so hO ⟨e, ra, rb, rd, q, w⟩
  · exact h.no_bad so hO ⟨h.tri.rot e, rb, rd, ra, by rw [ic_cyc]; exact q, w⟩
  · exact h.no_bad so hO ⟨h.tri.rot2 e, rd, ra, rb, by rw [ic_cyc, ic_cyc]; exact q, w⟩
theorem Mid.empty (so : Srt P (n + 1)) (hO : Dl P n O) (h : Mid P n O T []) : EmpT P (n + 1) T := by
  intro a b c e s hs
  have rg := h.tri.rng e
  have ne := h.tri.ne e
  by_cases sn : s = n
  · subst sn
    by_cases c1 : a = s
    · subst c1
      rw [ic_a]
      omega
    by_cases c2 : b = s
    · subst c2
      rw [ic_b]
      omega
    by_cases c3 : c = s
    · subst c3
      rw [ic_c]
      omega
    exact h.not_bad so hO e (by omega) (by omega) (by omega)
  · have sl : s < n := by omega
    by_cases c3 : c = n
    · subst c3
      exact h.emp_star hO e s sl
    by_cases c1 : a = n
    · subst c1
      have := h.emp_star hO (h.tri.rot e) s sl
      rw [ic_cyc] at this
      exact this
    by_cases c2 : b = n
    · subst c2
      have := h.emp_star hO (h.tri.rot2 e) s sl
      rw [ic_cyc, ic_cyc] at this
      exact this
    exact hO.emp (h.old e (by omega) (by omega) (by omega)) s sl
end
/-! ### behind the last flip: nothing is left out -/
theorem of_nrm {a s : Pt} (h : nrm a s = 0) : s = a := Classical.byContradiction fun c => by
  have := nrm_pos (fun e => c e.symm : a ≠ s)
  omega
theorem line_circ {a b s : Pt} (h : tn a b s = 0) (k : dia a b s = 0) : s = a ∨ s = b := by
  have e : nrm a s * nrm b s = dia a b s * dia a b s + tn a b s * tn a b s := by
    unfold nrm dia tn
    grind
  rw [h, k] at e
  rcases Int.mul_eq_zero.mp (by omega : nrm a s * nrm b s = 0) with q | q
  · exact .inl (of_nrm q)
  · exact .inr (of_nrm q)
theorem at_corner {a b c s : Pt} (t : 0 < tn a b c) (h : tn b c s = 0) (k : tn c a s = 0) : s = c := by
  have e1 : tn a b c * (s.1 - c.1) = tn b c s * (a.1 - c.1) + tn c a s * (b.1 - c.1) := by
    unfold tn
    grind
  have e2 : tn a b c * (s.2 - c.2) = tn b c s * (a.2 - c.2) + tn c a s * (b.2 - c.2) := by
    unfold tn
    grind
  rw [h, k] at e1 e2
  refine Prod.ext ?_ ?_
  · rcases Int.mul_eq_zero.mp (by omega : tn a b c * (s.1 - c.1) = 0) with q | q <;> omega
  · rcases Int.mul_eq_zero.mp (by omega : tn a b c * (s.2 - c.2) = 0) with q | q <;> omega
/-- on the circle and in the triangle -/
theorem in_tri {a b c s : Pt} (t : 0 < tn a b c) (h1 : 0 ≤ tn a b s) (h2 : 0 ≤ tn b c s) (h3 : 0 ≤ tn c a s) (on : ic a b c s = 0) : s = a ∨ s = b ∨ s = c := by
  have e : ic a b c s * tn a b c = tn b c s * tn c a s * nrm a b + tn c a s * tn a b s * nrm b c + tn a b s * tn b c s * nrm c a := by
    unfold ic dia tn nrm
    grind
  rw [on, Int.zero_mul] at e
  have N := tn_ne (by omega : tn a b c ≠ 0)
  have n1 := nrm_pos N.1
  have n2 := nrm_pos N.2.1
  have n3 := nrm_pos (Ne.symm N.2.2)
  have m1 := Int.mul_nonneg (Int.mul_nonneg h2 h3) (Int.le_of_lt n1)
  have m2 := Int.mul_nonneg (Int.mul_nonneg h3 h1) (Int.le_of_lt n2)
  have m3 := Int.mul_nonneg (Int.mul_nonneg h1 h2) (Int.le_of_lt n3)
  have z1 := (Int.mul_eq_zero.mp (by omega : tn b c s * tn c a s * nrm a b = 0)).elim id fun w => absurd w (by omega)
  have z2 := (Int.mul_eq_zero.mp (by omega : tn c a s * tn a b s * nrm b c = 0)).elim id fun w => absurd w (by omega)
  have z3 := (Int.mul_eq_zero.mp (by omega : tn a b s * tn b c s * nrm c a = 0)).elim id fun w => absurd w (by omega)
  rcases Int.mul_eq_zero.mp z1 with c1 | c1
  · rcases Int.mul_eq_zero.mp z2 with c2 | c2
    · exact .inr (.inr (at_corner t c1 c2))
    · exact .inr (.inl (at_corner (a := c) (b := a) (c := b) (by rw [← tnc]; exact t) c2 c1))
  · rcases Int.mul_eq_zero.mp z3 with c3 | c3
    · exact .inl (at_corner (a := b) (b := c) (c := a) (by rw [tnc]; exact t) c1 c3)
    · exact .inr (.inr (at_corner t c3 c1))
theorem same_le {a b c d s : Pt} (h : ic a b c d = 0) (hc : 0 < tn a b c) (hd : 0 < tn a b d) : (ic a b c s ≤ 0 ↔ ic a b d s ≤ 0) ∧ (ic a b c s < 0 ↔ ic a b d s < 0) ∧ (ic a b c s = 0 ↔ ic a b d s = 0) := by
  have e := same_circ (s := s) h (by omega)
  rcases Int.lt_trichotomy (ic a b c s) 0 with q | q | q <;> rcases Int.lt_trichotomy (ic a b d s) 0 with w | w | w
  all_goals first
    | omega
    | (exfalso
       have e1 := q
       have e2 := w
       first
         | (rw [e1] at e
            rw [Int.zero_mul] at e
            rcases Int.mul_eq_zero.mp e.symm with u | u <;> omega)
         | (rw [e2] at e
            rw [Int.zero_mul] at e
            rcases Int.mul_eq_zero.mp e with u | u <;> omega)
         | (have := Int.mul_neg_of_neg_of_pos q hd
            have := Int.mul_pos w hc
            omega)
         | (have := Int.mul_pos q hd
            have := Int.mul_neg_of_neg_of_pos w hc
            omega))
theorem right_less {a b d p s : Pt} (hd : 0 < tn a b d) (hp : 0 < tn a b p) (hs : tn a b s < 0) (k : 0 < ic a b d p) (l : ic a b p s ≤ 0) : ic a b d s < 0 := by
  unfold ic at *
  have a1 := Int.mul_pos k (show 0 < -tn a b s by omega)
  have a2 := Int.mul_nonneg (show 0 ≤ -(dia a b p * tn a b s - dia a b s * tn a b p) by omega) (Int.le_of_lt hd)
  have e : -(dia a b d * tn a b s - dia a b s * tn a b d) * tn a b p = (dia a b d * tn a b p - dia a b p * tn a b d) * -tn a b s + -(dia a b p * tn a b s - dia a b s * tn a b p) * tn a b d := by grind
  have := of_mul_pos (by omega) hp (a := -(dia a b d * tn a b s - dia a b s * tn a b d))
  omega
section
variable {P : Nat → Pt} {n : Nat} {O T : TriF}
theorem Mid.key (so : Srt P (n + 1)) (hO : Dl P n O) (h : Mid P n O T []) {a b : Nat} (al : a < n) (bl : b < n) (pn : 0 < (tn (P a) (P b) (P n))) (em : ∀ s, s < n → (ic (P a) (P b) (P n) (P s)) ≤ 0) (lf : ∀ s, s < n → 0 < (tn (P a) (P b) (P s)) → (ic (P a) (P b) (P n) (P s)) < 0) : T a b = some n := by
  have line (s : Nat) (hs : s < n) (c : (tn (P a) (P b) (P s)) = 0) : 0 ≤ (dia (P a) (P b) (P s)) := by
    have := em s hs
    rw [on_line c] at this
    exact of_mul_nn (by omega) pn
  by_cases ex : ∃ s, s < n ∧ 0 < (tn (P a) (P b) (P s))
  · obtain ⟨d, dl, dp, dm⟩ := least_of (fun s => 0 < (tn (P a) (P b) (P s))) (fun s => (dia (P a) (P b) (P s))) (fun s => (tn (P a) (P b) (P s))) (fun s _ w => w) ex
    have dn : 0 < (ic (P a) (P b) (P d) (P n)) := by
      have := lf d dl dp
      rw [ic_ex]
      omega
    have less (s : Nat) (hs : s < n) (c : (tn (P a) (P b) (P s)) < 0) : (ic (P a) (P b) (P d) (P s)) < 0 := right_less dp pn c dn (em s hs)
    have o : OnE P n a b d := by
      refine ⟨al, bl, dl, dp, fun s hs => ?_, less⟩
      rcases Int.lt_trichotomy (tn (P a) (P b) (P s)) 0 with c | c | c
      · exact Int.le_of_lt (less s hs c)
      · rw [on_line c]
        have := Int.mul_nonneg (line s hs c) (Int.le_of_lt dp)
        omega
      · have := dm s hs c
        unfold ic
        omega
    obtain ⟨d', k, z⟩ := hO.full o
    have rk := hO.tri.rng k
    have pk := hO.tri.pos k
    rcases h.kept k with q | ⟨_, q | q | ⟨_, c, cl, q⟩⟩
    · exfalso
      have u := h.not_bad so hO q al bl rk.2.2
      have := (same_le (s := P n) z dp pk).1.mpr u
      omega
    · exact q
    · omega
    · have := em c cl
      omega
  · have v : VisP P n a b := ⟨al, bl, pn, fun s hs => by
      rcases ltge 0 (tn (P a) (P b) (P s)) with q | q
      · exact absurd ⟨s, hs, q⟩ ex
      · exact q, line⟩
    rcases h.seen v with q | ⟨c, cl, q⟩
    · exact q
    · have := em c cl
      omega
theorem Mid.full (so : Srt P (n + 1)) (hO : Dl P n O) (h : Mid P n O T []) : FullT P (n + 1) T := by
  classical
  intro a b c o
  have N := tn_ne (show (tn (P a) (P b) (P c)) ≠ 0 by have := o.pos; omega)
  have N1 : a ≠ b := fun q => N.1 (q ▸ rfl)
  have N2 : b ≠ c := fun q => N.2.1 (q ▸ rfl)
  have N3 : a ≠ c := fun q => N.2.2 (q ▸ rfl)
  have ra := o.ra
  have rb := o.rb
  have rc := o.rc
  have po := o.pos
  by_cases an : a = n
  · subst an
    have bl : b < a := by omega
    have cl : c < a := by omega
    have mem (s : Nat) : s ∈ (List.range a).filter (fun s => decide (0 < (tn (P a) (P b) (P s)) ∧ (ic (P a) (P b) (P c) (P s)) = 0)) ↔ s < a ∧ 0 < (tn (P a) (P b) (P s)) ∧ (ic (P a) (P b) (P c) (P s)) = 0 := by
      simp [List.mem_filter, List.mem_range]
    obtain ⟨d, hd, kd⟩ := best (fun d s => 0 ≤ (tn (P a) (P s) (P d))) ((List.range a).filter (fun s => decide (0 < (tn (P a) (P b) (P s)) ∧ (ic (P a) (P b) (P c) (P s)) = 0))) (List.ne_nil_of_mem ((mem c).mpr ⟨cl, po, ic_c _ _ _⟩)) (fun x _ y _ => by
        rw [tn_neg (P a) (P x) (P y)]
        omega) (fun x hx y hy z hz h1 h2 => from_last so ((mem z).mp hz).1 ((mem y).mp hy).1 ((mem x).mp hx).1 h2 h1)
    obtain ⟨dl, dp, dz⟩ := (mem d).mp hd
    have k : T b d = some a := by
      refine h.key so hO bl dl (by rw [tnc]; exact dp) (fun s hs => ?_) (fun s hs ps => ?_)
      · rw [ic_cyc]
        exact (same_le dz po dp).1.mp (o.emp s (by omega))
      · rw [ic_cyc]
        have le := (same_le dz po dp (s := P s)).1.mp (o.emp s (by omega))
        rcases Int.lt_or_eq_of_le le with w | w
        · exact w
        exfalso
        have on := (same_le dz po dp).2.2.mpr w
        rcases Int.lt_trichotomy (tn (P a) (P b) (P s)) 0 with q | q | q
        · have := o.nxt s (by omega) q
          omega
        · rw [on_line q] at on
          have : (dia (P a) (P b) (P s)) = 0 := (Int.mul_eq_zero.mp (by omega : (dia (P a) (P b) (P s)) * (tn (P a) (P b) (P c)) = 0)).elim id fun w => absurd w (by omega)
          rcases line_circ q this with e | e
          · have := so.ne (by omega) (by omega) e
            omega
          · rw [e, tn_aba] at ps
            omega
        · have t := kd s ((mem s).mpr ⟨hs, q, on⟩)
          rcases in_tri dp (Int.le_of_lt q) (Int.le_of_lt ps) (by rw [← tnc]; exact t) w with e | e | e
          · have := so.ne (by omega) (by omega) e
            omega
          · rw [e, tn_aba] at ps
            omega
          · rw [e, tn_abb] at ps
            omega
    exact ⟨d, h.tri.rot2 k, dz⟩
  by_cases bn : b = n
  · subst bn
    have al : a < b := by omega
    have cl : c < b := by omega
    have mem (s : Nat) : s ∈ (List.range b).filter (fun s => decide (0 < (tn (P a) (P b) (P s)) ∧ (ic (P a) (P b) (P c) (P s)) = 0)) ↔ s < b ∧ 0 < (tn (P a) (P b) (P s)) ∧ (ic (P a) (P b) (P c) (P s)) = 0 := by
      simp [List.mem_filter, List.mem_range]
    obtain ⟨d, hd, kd⟩ := best (fun d s => 0 ≤ (tn (P b) (P d) (P s))) ((List.range b).filter (fun s => decide (0 < (tn (P a) (P b) (P s)) ∧ (ic (P a) (P b) (P c) (P s)) = 0))) (List.ne_nil_of_mem ((mem c).mpr ⟨cl, po, ic_c _ _ _⟩)) (fun x _ y _ => by
        rw [tn_neg (P b) (P x) (P y)]
        omega) (fun x hx y hy z hz h1 h2 => from_last so ((mem x).mp hx).1 ((mem y).mp hy).1 ((mem z).mp hz).1 h1 h2)
    obtain ⟨dl, dp, dz⟩ := (mem d).mp hd
    have k : T d a = some b := by
      refine h.key so hO dl al (by rw [← tnc]; exact dp) (fun s hs => ?_) (fun s hs ps => ?_)
      · rw [← ic_cyc]
        exact (same_le dz po dp).1.mp (o.emp s (by omega))
      · rw [← ic_cyc]
        have le := (same_le dz po dp (s := P s)).1.mp (o.emp s (by omega))
        rcases Int.lt_or_eq_of_le le with w | w
        · exact w
        exfalso
        have on := (same_le dz po dp).2.2.mpr w
        rcases Int.lt_trichotomy (tn (P a) (P b) (P s)) 0 with q | q | q
        · have := o.nxt s (by omega) q
          omega
        · rw [on_line q] at on
          have : (dia (P a) (P b) (P s)) = 0 := (Int.mul_eq_zero.mp (by omega : (dia (P a) (P b) (P s)) * (tn (P a) (P b) (P c)) = 0)).elim id fun w => absurd w (by omega)
          rcases line_circ q this with e | e
          · rw [e, tn_abb] at ps
            omega
          · have := so.ne (by omega) (by omega) e
            omega
        · have t := kd s ((mem s).mpr ⟨hs, q, on⟩)
          rcases in_tri dp (Int.le_of_lt q) t (Int.le_of_lt ps) w with e | e | e
          · rw [e, tn_abb] at ps
            omega
          · have := so.ne (by omega) (by omega) e
            omega
          · rw [e, tn_aba] at ps
            omega
    exact ⟨d, h.tri.rot k, dz⟩
  have al : a < n := by omega
  have bl : b < n := by omega
  by_cases ex : ∃ s, s < n ∧ 0 < (tn (P a) (P b) (P s)) ∧ (ic (P a) (P b) (P c) (P s)) = 0
  · obtain ⟨e, el, ep, ez⟩ := ex
    have sl (s : Nat) := same_le (s := P s) ez po ep
    have o2 : OnE P n a b e := ⟨al, bl, el, ep, fun s hs => (sl s).1.mp (o.emp s (by omega)), fun s hs q => (sl s).2.1.mp (o.nxt s (by omega) q)⟩
    obtain ⟨d, k, z⟩ := hO.full o2
    have cd := (sl d).2.2.mpr z
    rcases h.kept k with q | ⟨q, _⟩
    · exact ⟨d, q, cd⟩
    · exfalso
      have := (same_le (s := P n) cd po (hO.tri.pos k)).1.mp (o.emp n (by omega))
      omega
  · have cn : c = n := Classical.byContradiction fun w => ex ⟨c, by omega, po, ic_c _ _ _⟩
    subst cn
    exact ⟨c, h.key so hO al bl po (fun s hs => o.emp s (by omega)) (fun s hs q => by
      have := o.emp s (by omega)
      rcases Int.lt_or_eq_of_le this with w | w
      · exact w
      · exact absurd ⟨s, hs, q, w⟩ ex), ic_c _ _ _⟩
/-- the triangles with the new site -/
theorem Mid.done (so : Srt P (n + 1)) (hO : Dl P n O) (h : Mid P n O T []) : Dl P (n + 1) T := ⟨h.tri, h.empty so hO, h.brd, h.full so hO⟩
end
/-! ### edges that are flat -/
structure FlatT (P : Nat → Pt) (T : TriF) (F : List (Nat × Nat)) : Prop where
  on : ∀ {a b}, (a, b) ∈ F → ∃ c d, T a b = some c ∧ T b a = some d ∧ (ic (P a) (P b) (P c) (P d)) = 0
  all : ∀ {a b c d}, T a b = some c → T b a = some d → (ic (P a) (P b) (P c) (P d)) = 0 → (a, b) ∈ F ∨ (b, a) ∈ F
  one : ∀ {a b}, (a, b) ∈ F → (b, a) ∉ F
structure MidF (P : Nat → Pt) (n : Nat) (O T : TriF) (A F : List (Nat × Nat)) : Prop where
  on : ∀ {a b}, (a, b) ∈ F → (∃ c d, O a b = some c ∧ O b a = some d ∧ (ic (P a) (P b) (P c) (P d)) = 0 ∧ T a b ≠ none ∧ T b a ≠ none) ∨ (∃ c, c < n ∧ T a b = some n ∧ T b a = some c ∧ (ic (P a) (P b) (P c) (P n)) = 0 ∧ (a, b) ∉ A)
  all : ∀ {a b c d}, a < n → b < n → T a b = some c → T b a = some d → (ic (P a) (P b) (P c) (P d)) = 0 → (a, b) ∈ F ∨ (b, a) ∈ F ∨ (a, b) ∈ A ∨ (b, a) ∈ A
  one : ∀ {a b}, (a, b) ∈ F → (b, a) ∉ F
section
variable {P : Nat → Pt} {n : Nat} {O T : TriF} {A F : List (Nat × Nat)} {a b c : Nat}
theorem ic_back {a b c d : Pt} (h : ic a b c d = 0) : ic b a d c = 0 := by
  rw [ic_sw, ic_ex]
  omega
theorem MidF.pop_no (h : Mid P n O T (A ++ [(a, b)])) (hf : MidF P n O T (A ++ [(a, b)]) F) (k : ∀ c, T b a = some c → 0 < (ic (P a) (P b) (P c) (P n))) : MidF P n O T A F := by
  have hab : T a b = some n := h.ahead (List.mem_append_right _ (List.mem_singleton.mpr rfl))
  have no {c d : Nat} (e : T a b = some c) (f : T b a = some d) (z : (ic (P a) (P b) (P c) (P d)) = 0) : False := by
    rw [hab] at e
    cases e
    have := k d f
    rw [ic_ex] at this
    omega
  refine ⟨fun q => ?_, fun {x y u v} hx hy e f z => ?_, hf.one⟩
  · rcases hf.on q with w | ⟨c, w1, w2, w3, w4, w5⟩
    · exact .inl w
    · exact .inr ⟨c, w1, w2, w3, w4, fun w => w5 (List.mem_append_left _ w)⟩
  · rcases hf.all hx hy e f z with w | w | w | w
    · exact .inl w
    · exact .inr (.inl w)
    · rcases List.mem_append.mp w with w | w
      · exact .inr (.inr (.inl w))
      · have := List.mem_singleton.mp w
        cases this
        exact (no e f z).elim
    · rcases List.mem_append.mp w with w | w
      · exact .inr (.inr (.inr w))
      · have := List.mem_singleton.mp w
        cases this
        exact (no f e (ic_back z)).elim
theorem MidF.pop_flat (hO : TriT P n O) (h : Mid P n O T (A ++ [(a, b)])) (hf : MidF P n O T (A ++ [(a, b)]) F) (hba : T b a = some c) (z0 : (ic (P a) (P b) (P c) (P n)) = 0) {F' : List (Nat × Nat)} (mem : ∀ q, q ∈ F' ↔ q ∈ F ∨ q = (a, b)) : MidF P n O T A F' := by
  have hab : T a b = some n := h.ahead (List.mem_append_right _ (List.mem_singleton.mpr rfl))
  have cn : c ≠ n := fun q => h.tri.two hab hba q.symm
  have r1 := h.tri.rng hab
  have r2 := h.tri.rng hba
  have N1 := h.tri.ne hab
  have na : (a, b) ∉ A := fun w => (List.nodup_append.mp h.nodup).2.2 _ w _ (List.mem_singleton.mpr rfl) rfl
  have nb : (b, a) ∉ F := fun w => by
    rcases hf.on w with ⟨c1, d1, e1, e2, z, _⟩ | ⟨_, _, e1, _⟩
    · rcases h.why hab with v | ⟨d, e3, ins⟩
      · have := v.right d1 (hO.rng e2).2.2
        have := hO.pos e2
        omega
      · rw [e3] at e2
        cases e2
        have e4 := h.old hba (by omega) (by omega) (by omega)
        rw [e4] at e1
        cases e1
        rw [ic_sw] at z
        have pc := h.tri.pos hba
        rw [tns] at pc
        have s := same_circ (s := P n) (by omega : (ic (P a) (P b) (P c) (P d1)) = 0) (by omega)
        rw [z0, Int.zero_mul] at s
        rcases Int.mul_eq_zero.mp s.symm with u | u <;> omega
    · exact h.tri.two hab e1 rfl
  refine ⟨fun {x y} q => ?_, fun {x y u v} hx hy e f z => ?_, fun {x y} q w => ?_⟩
  · rcases (mem _).mp q with q | q
    · rcases hf.on q with w | ⟨c, w1, w2, w3, w4, w5⟩
      · exact .inl w
      · exact .inr ⟨c, w1, w2, w3, w4, fun w => w5 (List.mem_append_left _ w)⟩
    · cases q
      exact .inr ⟨c, by omega, hab, hba, z0, na⟩
  · rcases hf.all hx hy e f z with w | w | w | w
    · exact .inl ((mem _).mpr (.inl w))
    · exact .inr (.inl ((mem _).mpr (.inl w)))
    · rcases List.mem_append.mp w with w | w
      · exact .inr (.inr (.inl w))
      · exact .inl ((mem _).mpr (.inr (List.mem_singleton.mp w)))
    · rcases List.mem_append.mp w with w | w
      · exact .inr (.inr (.inr w))
      · exact .inr (.inl ((mem _).mpr (.inr (List.mem_singleton.mp w))))
  · rcases (mem _).mp q with q | q
    · rcases (mem _).mp w with w | w
      · exact hf.one q w
      · cases w
        exact nb q
    · cases q
      rcases (mem _).mp w with w | w
      · exact nb w
      · cases w
        exact N1.1 rfl
theorem MidF.flipped (so : Srt P (n + 1)) (hO : TriT P n O) (h : Mid P n O T (A ++ [(a, b)])) (hf : MidF P n O T (A ++ [(a, b)]) F) (hba : T b a = some c) (bad : (ic (P a) (P b) (P c) (P n)) < 0) {F' : List (Nat × Nat)} (mem : ∀ q, q ∈ F' ↔ q ∈ F ∧ q ≠ (a, b) ∧ q ≠ (b, a)) : MidF P n O (flip T n a b c) (A ++ [(a, c), (c, b)]) F' := by
  obtain ⟨h', n1, n2, cl, g1, g2⟩ := h.flipped so hO hba bad
  have hab : T a b = some n := h.ahead (List.mem_append_right _ (List.mem_singleton.mpr rfl))
  have hac := h.tri.rot hba
  have hcb := h.tri.rot2 hba
  have N1 := h.tri.ne hab
  have N2 := h.tri.ne hba
  have ca : c ≠ a := Ne.symm N2.2.1
  have cb : c ≠ b := Ne.symm N2.2.2
  have cn : c ≠ n := by omega
  have S {x y z : Nat} := flip_some (T := T) (x := x) (y := y) (z := z) N1.1 N1.2.2 N1.2.1 ca cb cn n1 n2
  have some_of {x y : Nat} (k : T x y ≠ none) (k1 : ¬ (x = a ∧ y = b)) (k2 : ¬ (x = b ∧ y = a)) : flip T n a b c x y ≠ none := fun w => by
    rcases flip_none w with q | q | q
    · exact k1 q
    · exact k2 q
    · exact k q.1
  refine ⟨fun {x y} q => ?_, fun {x y u v} hx hy e f z => ?_, fun {x y} q w => ?_⟩
  · obtain ⟨q, q1, q2⟩ := (mem _).mp q
    have k1 : ¬ (x = a ∧ y = b) := fun w => q1 (by rw [w.1, w.2])
    have k2 : ¬ (x = b ∧ y = a) := fun w => q2 (by rw [w.1, w.2])
    rcases hf.on q with ⟨u, v, e1, e2, z, t1, t2⟩ | ⟨u, ul, e1, e2, z, nA⟩
    · exact .inl ⟨u, v, e1, e2, z, some_of t1 k1 k2, some_of t2 (by omega) (by omega)⟩
    · have r := h.tri.rng e1
      have N := h.tri.ne e1
      have p := h.tri.pos e1
      refine .inr ⟨u, ul, S.mpr (.inr (.inr (.inr (.inr (.inr (.inr ⟨e1, k1, k2, by omega, by omega, ?_, ?_⟩)))))), S.mpr (.inr (.inr (.inr (.inr (.inr (.inr ⟨e2, by omega, by omega, by omega, by omega, ?_, ?_⟩)))))), z, fun w => ?_⟩
      · rintro ⟨rfl, rfl⟩
        rw [hac] at e1
        cases e1
        omega
      · rintro ⟨rfl, rfl⟩
        rw [hcb] at e1
        cases e1
        omega
      · rintro ⟨rfl, rfl⟩
        rw [tns] at p
        omega
      · rintro ⟨rfl, rfl⟩
        rw [tns] at p
        omega
      · rcases List.mem_append.mp w with w | w
        · exact nA (List.mem_append_left _ w)
        · rcases List.mem_cons.mp w with w | w
          · cases w
            rw [hac] at e1
            cases e1
            omega
          · have := List.mem_singleton.mp w
            cases this
            rw [hcb] at e1
            cases e1
            omega
  · have ac : (a, c) ∈ A ++ [(a, c), (c, b)] := List.mem_append_right _ (by simp)
    have cb' : (c, b) ∈ A ++ [(a, c), (c, b)] := List.mem_append_right _ (by simp)
    rcases S.mp e with q | q | q | q | q | q | ⟨e1, k1, k2, k3, k4, k5, k6⟩
    · omega
    · obtain ⟨rfl, rfl, _⟩ := q
      exact .inr (.inr (.inl ac))
    · omega
    · omega
    · obtain ⟨rfl, rfl, _⟩ := q
      exact .inr (.inr (.inl cb'))
    · omega
    rcases S.mp f with q | q | q | q | q | q | ⟨f1, j1, j2, j3, j4, j5, j6⟩
    · omega
    · obtain ⟨rfl, rfl, _⟩ := q
      exact .inr (.inr (.inr ac))
    · omega
    · omega
    · obtain ⟨rfl, rfl, _⟩ := q
      exact .inr (.inr (.inr cb'))
    · omega
    have back {x y : Nat} (k1 : ¬ (x = a ∧ y = b)) (w : (x, y) ∈ A ++ [(a, b)]) : (x, y) ∈ A ++ [(a, c), (c, b)] := by
      rcases List.mem_append.mp w with w | w
      · exact List.mem_append_left _ w
      · have := List.mem_singleton.mp w
        cases this
        exact absurd ⟨rfl, rfl⟩ k1
    have keep {x y : Nat} (k1 : ¬ (x = a ∧ y = b)) (k2 : ¬ (x = b ∧ y = a)) (w : (x, y) ∈ F) : (x, y) ∈ F' := (mem _).mpr ⟨w, fun e => by
      cases e
      exact k1 ⟨rfl, rfl⟩, fun e => by
      cases e
      exact k2 ⟨rfl, rfl⟩⟩
    rcases hf.all hx hy e1 f1 z with w | w | w | w
    · exact .inl (keep k1 k2 w)
    · exact .inr (.inl (keep j1 j2 w))
    · exact .inr (.inr (.inl (back k1 w)))
    · exact .inr (.inr (.inr (back j1 w)))
  · exact hf.one ((mem _).mp q).1 ((mem _).mp w).1
theorem MidF.done (so : Srt P (n + 1)) (hO : Dl P n O) (h : Mid P n O T []) (hf : MidF P n O T [] F) : FlatT P T F := by
  have em {x y z : Nat} (e : T x y = some z) := h.empty so hO e
  refine ⟨fun {x y} q => ?_, fun {x y u v} e f z => ?_, hf.one⟩
  · rcases hf.on q with ⟨u, v, e1, e2, z, t1, t2⟩ | ⟨u, _, e1, e2, z, _⟩
    · have pu := hO.tri.pos e1
      have pv := hO.tri.pos e2
      have ru := hO.tri.rng e1
      have rv := hO.tri.rng e2
      have z' := ic_back z
      -- the new site is inside of both circles or of none
      have no {x y u v : Nat} (e1 : O x y = some u) (e2 : O y x = some v) (z : (ic (P x) (P y) (P u) (P v)) = 0) (t1 : T x y ≠ none) (t2 : T y x ≠ none) (ins : 0 < (ic (P x) (P y) (P u) (P n))) : False := by
        have pu := hO.tri.pos e1
        have pv := hO.tri.pos e2
        have ru := hO.tri.rng e1
        have rv := hO.tri.rng e2
        have one {x y u : Nat} (e : O x y = some u) (t : T x y ≠ none) (ins : 0 < (ic (P x) (P y) (P u) (P n))) : T x y = some n := by
          cases k : T x y with
          | none => exact absurd k t
          | some w =>
            have rw' := h.tri.rng k
            have re := hO.tri.rng e
            by_cases wn : w = n
            · rw [wn]
            · exfalso
              have := h.old k re.1 re.2.1 (by omega)
              rw [e] at this
              cases this
              have := em k n (by omega)
              omega
        have ins2 : 0 < (ic (P y) (P x) (P v) (P n)) := by
          rw [tns] at pv
          have s := same_circ (s := P n) z (by omega)
          rw [ic_sw]
          rcases ltge 0 (-(ic (P x) (P y) (P v) (P n))) with w | w
          · exact w
          · have a1 := Int.mul_neg_of_pos_of_neg ins (show (tn (P x) (P y) (P v)) < 0 by omega)
            have a2 := Int.mul_nonneg (show 0 ≤ (ic (P x) (P y) (P v) (P n)) by omega) (Int.le_of_lt pu)
            omega
        exact h.tri.two (one e1 t1 ins) (one e2 t2 ins2) rfl
      have ku := (h.kept e1).elim id fun w => (no e1 e2 z t1 t2 w.1).elim
      have kv := (h.kept e2).elim id fun w => (no e2 e1 z' t2 t1 w.1).elim
      exact ⟨u, v, ku, kv, z⟩
    · exact ⟨n, u, e1, e2, by rw [ic_ex]; omega⟩
  · have re := h.tri.rng e
    have rf := h.tri.rng f
    have ne := h.tri.ne e
    have nf := h.tri.ne f
    -- no edge of the new site is flat
    have no {x u v : Nat} (e : T n x = some u) (f : T x n = some v) (z : (ic (P n) (P x) (P u) (P v)) = 0) : False := by
      have re := h.tri.rng e
      have rf := h.tri.rng f
      have ne := h.tri.ne e
      have nf := h.tri.ne f
      have pe := h.tri.pos e
      have pf := h.tri.pos f
      have c := conv_2 (a := P n) (b := P x) (c := P v) (p := P u) pe pf (Int.le_of_eq (ic_back z).symm)
      have e2 := h.tri.rot e
      have c' : 0 < (tn (P x) (P u) (P v)) := by rw [tnc]; exact c
      rcases h.why e2 with w | ⟨d, k, ins⟩
      · have := w.right v (by omega)
        omega
      · have z2 : (ic (P x) (P u) (P n) (P v)) = 0 := by rw [ic_cyc]; exact z
        have := left_in (hO.tri.pos k) (h.tri.pos e2) c' ins (Int.le_of_eq z2.symm)
        have := hO.emp k v (by omega)
        omega
    by_cases xn : x = n
    · subst xn
      exact (no e f z).elim
    by_cases yn : y = n
    · subst yn
      exact (no f e (ic_back z)).elim
    rcases hf.all (by omega) (by omega) e f z with w | w | w | w
    · exact .inl w
    · exact .inr w
    · cases w
    · cases w
end
/-! ### the new site and the sides that it sees -/
theorem sec_btw {n x y w z : Pt} (h1 : tn w z x ≤ 0) (h2 : tn w z y ≤ 0) (h3 : 0 < tn w z n) (h4 : 0 < tn n x w) (h5 : 0 < tn n w y) (h6 : tn x y w ≤ 0) : tn x y w = 0 ∧ dia x y w < 0 := by
  have e4 : tn w n x = tn n x w := (tnc w n x).symm
  have e5 : tn w n y = -tn n w y := by
    unfold tn
    grind
  have gp : tn w z n * tn x y w = tn w z x * tn w n y - tn w z y * tn w n x := by
    unfold tn
    grind
  have a1 := Int.mul_nonneg (show 0 ≤ -tn w z x by omega) (show 0 ≤ -tn w n y by omega)
  have a2 := Int.mul_nonneg (show 0 ≤ -tn w z y by omega) (show 0 ≤ tn w n x by omega)
  rw [Int.neg_mul_neg] at a1
  rw [Int.neg_mul] at a2
  have z0 : tn x y w = 0 := by
    rcases Int.lt_or_eq_of_le h6 with q | q
    · have := Int.mul_neg_of_pos_of_neg h3 q
      omega
    · exact q
  refine ⟨z0, ?_⟩
  have e : tn w n x * dia x y w = tn w n y * nrm x w - tn x y w * ((n.1 - w.1) * (x.1 - w.1) + (n.2 - w.2) * (x.2 - w.2)) := by
    unfold tn dia nrm
    grind
  rw [z0, Int.zero_mul, Int.sub_zero] at e
  have nx := nrm_pos (tn_ne (by omega : tn n x w ≠ 0)).2.1
  have := Int.mul_neg_of_neg_of_pos (show tn w n y < 0 by omega) nx
  rcases ltge (dia x y w) 0 with q | q
  · exact q
  · have := Int.mul_nonneg (show 0 ≤ tn w n x by omega) q
    omega
theorem sec_same {n x y w z : Pt} (c : tn n x w = 0) (h1 : tn x y w ≤ 0) (h2 : tn w z x ≤ 0) (A : 0 < tn n x y) (B : 0 < tn n w y) (C : 0 < tn n w z) (D : 0 < tn n x z) : x = w := by
  have e1 : tn x y w = tn n x y - tn n w y - tn n x w := by
    unfold tn
    grind
  have e2 : tn w z x = tn n w z - tn n x z + tn n x w := by
    unfold tn
    grind
  have gp : tn n x y * tn n w z = tn n w y * tn n x z + tn n x w * tn n y z := by
    unfold tn
    grind
  rw [c, Int.zero_mul, Int.add_zero] at gp
  have AB : tn n x y ≤ tn n w y := by omega
  have CD : tn n w z ≤ tn n x z := by omega
  have eq : tn n x y = tn n w y := by
    rcases Int.lt_or_eq_of_le AB with q | q
    · have a1 := Int.mul_lt_mul_of_pos_right q C
      have a2 := Int.mul_le_mul_of_nonneg_left CD (Int.le_of_lt B)
      omega
    · exact q
  have id : tn n x y * nrm w x = (tn n x y - tn n w y) * ((x.1 - w.1) * (x.1 - n.1) + (x.2 - w.2) * (x.2 - n.2)) - tn n x w * ((x.1 - w.1) * (y.1 - n.1) + (x.2 - w.2) * (y.2 - n.2)) := by
    unfold tn nrm
    grind
  rw [c, eq, Int.sub_self, Int.zero_mul, Int.zero_mul, Int.sub_zero] at id
  rcases Int.mul_eq_zero.mp id with q | q
  · omega
  · exact of_nrm q
section
variable {P : Nat → Pt} {n : Nat} {O T : TriF}
theorem VisP.sector (so : Srt P (n + 1)) {x y x' y' : Nat} (v : VisP P n x y) (w : VisP P n x' y') : x = x' ∨ 0 ≤ (tn (P n) (P y) (P x')) ∨ 0 ≤ (tn (P n) (P y') (P x)) := by
  by_cases h1 : 0 ≤ (tn (P n) (P y) (P x'))
  · exact .inr (.inl h1)
  by_cases h2 : 0 ≤ (tn (P n) (P y') (P x))
  · exact .inr (.inr h2)
  have k1 : 0 < (tn (P n) (P x') (P y)) := by rw [tn_neg]; omega
  have k2 : 0 < (tn (P n) (P x) (P y')) := by rw [tn_neg]; omega
  have A : 0 < (tn (P n) (P x) (P y)) := by rw [← tnc]; exact v.pos
  have C : 0 < (tn (P n) (P x') (P y')) := by rw [← tnc]; exact w.pos
  rcases Int.lt_trichotomy (tn (P n) (P x) (P x')) 0 with q | q | q
  · have := sec_btw (v.right x' w.ra) (v.right y' w.rb) v.pos (by rw [tn_neg]; omega) k2 (w.right x v.ra)
    have := w.btw x v.ra this.1
    omega
  · exact .inl (so.ne (by have := v.ra; omega) (by have := w.ra; omega) (sec_same q (v.right x' w.ra) (w.right x v.ra) A k1 C k2))
  · have := sec_btw (w.right x v.ra) (w.right y v.rb) w.pos q k1 (v.right x' w.ra)
    have := v.btw x' w.ra this.1
    omega
/-- a side that is seen and has no triangle behind it: all sites lie on it -/
theorem VisP.row (hO : Dl P n O) {x y : Nat} (v : VisP P n x y) (k : O y x = none) (s : Nat) (hs : s < n) : 0 ≤ (tn (P x) (P y) (P s)) := by
  rcases ltge (tn (P x) (P y) (P s)) 0 with q | q
  case inr => exact q
  exfalso
  obtain ⟨c, cl, cp, cm⟩ := least_of (fun s => 0 < (tn (P y) (P x) (P s))) (fun s => (dia (P y) (P x) (P s))) (fun s => (tn (P y) (P x) (P s))) (fun s _ w => w) ⟨s, hs, by rw [tns]; omega⟩
  have nn (s : Nat) (hs : s < n) : 0 ≤ (tn (P y) (P x) (P s)) := by
    have := v.right s hs
    rw [tns]
    omega
  obtain ⟨d, e, _⟩ := hO.full (a := y) (b := x) (c := c) ⟨v.rb, v.ra, cl, cp, fun s hs => by
    rcases Int.lt_or_eq_of_le (nn s hs) with w | w
    · have := cm s hs w
      unfold ic
      omega
    · rw [on_line w.symm]
      have h0 : (tn (P x) (P y) (P s)) = 0 := by
        rw [tns] at w
        omega
      have := v.btw s hs h0
      rw [dia_sw]
      have := Int.mul_nonneg this (Int.le_of_lt cp)
      omega, fun s hs w => by
    have := nn s hs
    omega⟩
  rw [k] at e
  cases e
/-- the triangles of the new site and the sides that it sees -/
theorem mid_init (so : Srt P (n + 1)) (hO : Dl P n O) {V : List (Nat × Nat)} (v1 : ∀ a b, (a, b) ∈ V ↔ VisP P n a b) (nd : V.Nodup)
    (t : ∀ x y z, T x y = some z ↔ O x y = some z ∨ (z = n ∧ VisP P n x y) ∨ (x = n ∧ VisP P n y z) ∨ (y = n ∧ VisP P n z x))
    (hb1 : ∀ x y, VisP P n x y → (∃ w, VisP P n w x) ∨ ∀ s, s < n + 1 → 0 ≤ (tn (P n) (P x) (P s)))
    (hb2 : ∀ x y, VisP P n x y → (∃ w, VisP P n y w) ∨ ∀ s, s < n + 1 → 0 ≤ (tn (P y) (P n) (P s))) : Mid P n O T V := by
  have vn {x y : Nat} (e : T x y = some n) : VisP P n x y := by
    rcases (t _ _ _).mp e with q | ⟨_, q⟩ | ⟨_, q⟩ | ⟨_, q⟩
    · have := (hO.tri.rng q).2.2
      omega
    · exact q
    · have := q.rb
      omega
    · have := q.ra
      omega
  have vs {x y : Nat} (e : T n x = some y) : VisP P n x y := by
    rcases (t _ _ _).mp e with q | ⟨_, q⟩ | ⟨_, q⟩ | ⟨h, q⟩
    · have := (hO.tri.rng q).1
      omega
    · have := q.ra
      omega
    · exact q
    · have := q.rb
      omega
  refine ⟨⟨?_, ?_, ?_⟩, ?_, fun e => .inl (vn e), fun e => .inl ((t _ _ _).mpr (.inl e)), fun v => .inl ((t _ _ _).mpr (.inr (.inl ⟨rfl, v⟩))), fun e _ => .inr ((v1 _ _).mpr (vn e)), fun q => (t _ _ _).mpr (.inr (.inl ⟨rfl, (v1 _ _).mp q⟩)), nd, ?_, fun e f => (vs e).sector so (vs f)⟩
  · intro x y z e
    rcases (t _ _ _).mp e with q | ⟨h, q⟩ | ⟨h, q⟩ | ⟨h, q⟩
    · have := hO.tri.rng q
      omega
    all_goals
      have := q.ra
      have := q.rb
      omega
  · intro x y z e
    rcases (t _ _ _).mp e with q | ⟨h, q⟩ | ⟨h, q⟩ | ⟨h, q⟩
    · exact hO.tri.pos q
    · rw [h]
      exact q.pos
    · rw [h, ← tnc]
      exact q.pos
    · rw [h, tnc]
      exact q.pos
  · intro x y z e
    rcases (t _ _ _).mp e with q | ⟨h, q⟩ | ⟨h, q⟩ | ⟨h, q⟩
    · exact (t _ _ _).mpr (.inl (hO.tri.rot q))
    · exact (t _ _ _).mpr (.inr (.inr (.inr ⟨h, q⟩)))
    · exact (t _ _ _).mpr (.inr (.inl ⟨h, q⟩))
    · exact (t _ _ _).mpr (.inr (.inr (.inl ⟨h, q⟩)))
  · intro x y z e hx hy hz
    rcases (t _ _ _).mp e with q | ⟨h, q⟩ | ⟨h, q⟩ | ⟨h, q⟩
    · exact q
    all_goals omega
  · intro x y z e f s hs
    rcases (t _ _ _).mp e with q | ⟨h, q⟩ | ⟨h, q⟩ | ⟨h, q⟩
    · have o2 : O y x = none := by
        cases k : O y x with
        | none => rfl
        | some w =>
          rw [(t _ _ _).mpr (.inl k)] at f
          cases f
      by_cases sn : s = n
      · subst sn
        rcases ltge (tn (P x) (P y) (P s)) 0 with c | c
        case inr => exact c
        exfalso
        have r := hO.tri.rng q
        have v : VisP P s y x := ⟨r.2.1, r.1, by rw [tns]; omega, fun u hu => by
          have := hO.brd q o2 u hu
          rw [tns]
          omega, fun u hu w => by
          have w' : (tn (P x) (P y) (P u)) = 0 := by
            rw [tns] at w
            omega
          have := hO.emp q u hu
          rw [on_line w'] at this
          rw [dia_sw]
          exact of_mul_nn (by omega) (hO.tri.pos q)⟩
        rw [(t _ _ _).mpr (.inr (.inl ⟨rfl, v⟩))] at f
        cases f
      · exact hO.brd q o2 s (by omega)
    · have o2 : O y x = none := by
        cases k : O y x with
        | none => rfl
        | some w =>
          rw [(t _ _ _).mpr (.inl k)] at f
          cases f
      by_cases sn : s = n
      · subst sn
        exact Int.le_of_lt q.pos
      · exact q.row hO o2 s (by omega)
    · subst h
      rcases hb1 y z q with ⟨w, v⟩ | w
      · rw [(t _ _ _).mpr (.inr (.inr (.inr ⟨rfl, v⟩)))] at f
        cases f
      · exact w s hs
    · subst h
      rcases hb2 z x q with ⟨w, v⟩ | w
      · rw [(t _ _ _).mpr (.inr (.inr (.inl ⟨rfl, v⟩)))] at f
        cases f
      · exact w s hs
end
/-! ### the border by numbers, and what the next site sees of it -/
def popI (T : Sgt) (P : Nat → Pt) (s : Nat) : List Nat → List Nat
  | b :: a :: r => if T (P a) (P b) (P s) < 0 then popI T P s (a :: r) else b :: a :: r
  | l => l
/-- the edges of the chain that are taken away -/
def seesI (T : Sgt) (P : Nat → Pt) (s : Nat) : List Nat → List (Nat × Nat)
  | b :: a :: r => if T (P a) (P b) (P s) < 0 then (b, a) :: seesI T P s (a :: r) else []
  | _ => []
def EdgI : List Nat → List (Nat × Nat)
  | b :: a :: r => (b, a) :: EdgI (a :: r)
  | _ => []
theorem edgI_map (P : Nat → Pt) : ∀ (l : List Nat), Edg (l.map P) = (EdgI l).map fun e => (P e.1, P e.2)
  | [] => rfl
  | [_] => rfl
  | b :: a :: r => by
    show (P b, P a) :: Edg ((a :: r).map P) = _
    rw [edgI_map P (a :: r)]
    rfl
theorem popI_map (T : Sgt) (P : Nat → Pt) (s : Nat) : ∀ (l : List Nat), (popI T P s l).map P = popFG T 0 (P s) (l.map P)
  | [] => rfl
  | [_] => rfl
  | b :: a :: r => by
    show (if _ then _ else _ : List Nat).map P = if T (P a) (P b) (P s) < 0 then popFG T 0 (P s) (P a :: r.map P) else P b :: P a :: r.map P
    split
    · exact popI_map T P s (a :: r)
    · rfl
theorem popI_suf (T : Sgt) (P : Nat → Pt) (s : Nat) : ∀ (l : List Nat), ∃ m, l = m ++ popI T P s l
  | [] => ⟨[], rfl⟩
  | [_] => ⟨[], rfl⟩
  | b :: a :: r => by
    unfold popI
    split
    · obtain ⟨m, e⟩ := popI_suf T P s (a :: r)
      exact ⟨b :: m, by rw [List.cons_append, ← e]⟩
    · exact ⟨[], rfl⟩
theorem popI_ne (T : Sgt) (P : Nat → Pt) (s : Nat) : ∀ (l : List Nat), l ≠ [] → popI T P s l ≠ []
  | [], h => h
  | [_], h => h
  | b :: a :: r, h => by
    unfold popI
    split
    · exact popI_ne T P s (a :: r) (by simp)
    · exact h
theorem sees_sub (T : Sgt) (P : Nat → Pt) (s : Nat) : ∀ (l : List Nat) (e : Nat × Nat), e ∈ seesI T P s l → e ∈ EdgI l ∧ T (P e.2) (P e.1) (P s) < 0
  | [], _, h => by cases h
  | [_], _, h => by cases h
  | b :: a :: r, e, h => by
    unfold seesI at h
    split at h
    · rename_i c
      rcases List.mem_cons.mp h with q | q
      · rw [q]
        exact ⟨List.mem_cons_self, c⟩
      · have := sees_sub T P s (a :: r) e q
        exact ⟨List.mem_cons_of_mem _ this.1, this.2⟩
    · cases h
theorem edgI_mem : ∀ (l : List Nat) (e : Nat × Nat), e ∈ EdgI l → e.1 ∈ l ∧ e.2 ∈ l
  | [], _, h => by cases h
  | [_], _, h => by cases h
  | b :: a :: r, e, h => by
    rcases List.mem_cons.mp (show e ∈ (b, a) :: EdgI (a :: r) from h) with q | q
    · rw [q]
      exact ⟨List.mem_cons_self, List.mem_cons_of_mem _ List.mem_cons_self⟩
    · have := edgI_mem (a :: r) e q
      exact ⟨List.mem_cons_of_mem _ this.1, List.mem_cons_of_mem _ this.2⟩
/-- up and down from an edge that is taken away -/
theorem sees_dn (T : Sgt) (P : Nat → Pt) (s : Nat) : ∀ (l : List Nat) (b a : Nat), (b, a) ∈ seesI T P s l → (∃ c, (a, c) ∈ seesI T P s l) ∨ ∃ r, popI T P s l = a :: r
  | [], _, _, h => by cases h
  | [_], _, _, h => by cases h
  | y :: x :: r, b, a, h => by
    have e1 : ∀ (c : T (P x) (P y) (P s) < 0), seesI T P s (y :: x :: r) = (y, x) :: seesI T P s (x :: r) := fun c => by
      conv => lhs; unfold seesI
      rw [if_pos c]
    have e2 : ∀ (c : T (P x) (P y) (P s) < 0), popI T P s (y :: x :: r) = popI T P s (x :: r) := fun c => by
      conv => lhs; unfold popI
      rw [if_pos c]
    by_cases c : T (P x) (P y) (P s) < 0
    · rw [e1 c] at h ⊢
      rw [e2 c]
      rcases List.mem_cons.mp h with q | q
      · cases q
        cases r with
        | nil => exact .inr ⟨[], rfl⟩
        | cons z r =>
          unfold seesI popI
          by_cases d : T (P z) (P x) (P s) < 0
          · rw [if_pos d]
            exact .inl ⟨z, List.mem_cons_of_mem _ List.mem_cons_self⟩
          · rw [if_neg d, if_neg d]
            exact .inr ⟨z :: r, rfl⟩
      · rcases sees_dn T P s (x :: r) b a q with ⟨w, m⟩ | m
        · exact .inl ⟨w, List.mem_cons_of_mem _ m⟩
        · exact .inr m
    · unfold seesI at h
      rw [if_neg c] at h
      cases h
theorem sees_up (T : Sgt) (P : Nat → Pt) (s : Nat) : ∀ (l : List Nat) (b a : Nat), (b, a) ∈ seesI T P s l → (∃ c, (c, b) ∈ seesI T P s l) ∨ ∃ r, l = b :: r
  | [], _, _, h => by cases h
  | [_], _, _, h => by cases h
  | y :: x :: r, b, a, h => by
    by_cases c : T (P x) (P y) (P s) < 0
    · have e1 : seesI T P s (y :: x :: r) = (y, x) :: seesI T P s (x :: r) := by
        conv => lhs; unfold seesI
        rw [if_pos c]
      rw [e1] at h ⊢
      rcases List.mem_cons.mp h with q | q
      · cases q
        exact .inr ⟨x :: r, rfl⟩
      · rcases sees_up T P s (x :: r) b a q with ⟨w, m⟩ | ⟨m, e⟩
        · exact .inl ⟨w, List.mem_cons_of_mem _ m⟩
        · cases e
          exact .inl ⟨y, List.mem_cons_self⟩
    · unfold seesI at h
      rw [if_neg c] at h
      cases h
/-- either nothing is taken away or the first edge is -/
theorem sees_hd (T : Sgt) (P : Nat → Pt) (s b : Nat) (r : List Nat) : (∃ a, (b, a) ∈ seesI T P s (b :: r)) ∨ ∃ r', popI T P s (b :: r) = b :: r' := by
  cases r with
  | nil => exact .inr ⟨[], rfl⟩
  | cons a r =>
    unfold seesI popI
    by_cases c : T (P a) (P b) (P s) < 0
    · rw [if_pos c]
      exact .inl ⟨a, List.mem_cons_self⟩
    · rw [if_neg c, if_neg c]
      exact .inr ⟨a :: r, rfl⟩
structure ChI (T : Sgt) (P : Nat → Pt) (n : Nat) (st : List Nat) : Prop where
  chn : ChnG T 0 ((List.range n).map P) (st.map P)
  off : OffG T ((List.range n).map P) (st.map P)
  hd : ∃ r, st = (n - 1) :: r
  lt : ∀ x ∈ st, x < n
  bot : st.getLast? = some 0
theorem chI_one (T : Sgt) (P : Nat → Pt) : ChI T P 1 [0] := by
  refine ⟨⟨True.intro, List.pairwise_singleton _ _, fun x hx => hx, fun p hp x hx => ?_, fun p hp x hx => ?_, (fun e he => nomatch he)⟩, (fun e he => nomatch he), ⟨[], rfl⟩, fun x hx => by
    rw [List.mem_singleton.mp hx]
    decide, rfl⟩
  · have e1 : p = P 0 := List.mem_singleton.mp hp
    have e2 : P 0 = x := Option.some.inj hx
    exact .inl (e1.trans e2)
  · have e1 : p = P 0 := List.mem_singleton.mp hp
    have e2 : P 0 = x := Option.some.inj hx
    exact .inl (e1.trans e2)
theorem ChI.next {T : Sgt} (ax : Ax T) {P : Nat → Pt} {n : Nat} (so : Srt P (n + 1)) {st : List Nat} (h : ChI T P n st) : ChI T P (n + 1) (n :: popI T P n st) := by
  have ps : ∀ p ∈ (List.range n).map P, lt2 p (P n) := fun p hp => by
    obtain ⟨i, hi, e⟩ := List.mem_map.mp hp
    have := List.mem_range.mp hi
    rw [← e]
    exact so i n this (by omega)
  have ne : st.map P ≠ [] := by
    obtain ⟨r, e⟩ := h.hd
    rw [e]
    simp
  have cov : ∀ p ∈ (List.range n).map P, ∀ b, (st.map P).head? = some b → ¬ lt2 b p := fun p hp b hb q => by
    rcases h.chn.top p hp b hb with rfl | z
    · exact lt2_irr q
    · exact lt2_irr (lt2_tr q z)
  have e1 : (n :: popI T P n st).map P = pushFG T 0 (st.map P) (P n) := by
    rw [List.map_cons, popI_map]
    rfl
  have e2 : (List.range (n + 1)).map P = (List.range n).map P ++ [P n] := by
    rw [List.range_succ, List.map_append]
    rfl
  obtain ⟨m, em⟩ := popI_suf T P n st
  refine ⟨?_, ?_, ⟨popI T P n st, by rw [Nat.add_sub_cancel]⟩, fun x hx => ?_, ?_⟩
  · rw [e1, e2]
    exact chn_pushG ax (by decide) (by decide) ps _ ne h.chn.cvx h.chn.srt h.chn.sub h.chn.bot h.chn.low fun p hp b hb q => absurd q (cov p hp b hb)
  · rw [e1, e2]
    exact off_pushG ax ps _ ne h.chn.srt h.chn.sub h.chn.low h.off fun p hp b hb q => absurd q (cov p hp b hb)
  · rcases List.mem_cons.mp hx with q | q
    · omega
    · have := h.lt x (by rw [em]; exact List.mem_append_right _ q)
      omega
  · have hb := h.bot
    rw [em] at hb
    have hn := popI_ne T P n st (by
      obtain ⟨r, e⟩ := h.hd
      rw [e]
      simp)
    cases k : popI T P n st with
    | nil => exact absurd k hn
    | cons y r =>
      rw [k] at hb
      rw [List.getLast?_append] at hb
      simpa using hb
theorem fwd_dot {u v : Pt} (hu : fwd u) (hv : fwd v) (c : crs u v = 0) : 0 < u.1 * v.1 + u.2 * v.2 := by
  unfold fwd crs at *
  rcases hu with a | ⟨a, b⟩
  · rcases hv with d | ⟨d, e⟩
    · have p := Int.mul_pos a d
      have q : 0 ≤ (u.2 * v.2) * (u.1 * v.1) := by
        have : (u.2 * v.2) * (u.1 * v.1) = (u.1 * v.2) * (u.1 * v.2) := by grind
        rw [this]
        exact sq_nn' _
      have := of_mul_nn q p
      omega
    · rw [d] at c
      have : u.1 * v.2 = 0 := by omega
      rcases Int.mul_eq_zero.mp this with q | q <;> omega
  · rcases hv with d | ⟨d, e⟩
    · rw [a] at c
      have : u.2 * v.1 = 0 := by omega
      rcases Int.mul_eq_zero.mp this with q | q <;> omega
    · have := Int.mul_pos b e
      rw [a, d]
      omega
/-- on the line and not between -/
theorem dia_out {a b s : Pt} (ab : lt2 a b) (z : tn a b s = 0) (k : ¬ (lt2 a s ∧ lt2 s b)) : 0 ≤ dia a b s := by
  by_cases ea : s = a
  · rw [ea]
    unfold dia
    rw [Int.sub_self, Int.sub_self, Int.zero_mul, Int.zero_mul]
    decide
  by_cases eb : s = b
  · rw [eb]
    unfold dia
    rw [Int.sub_self, Int.sub_self, Int.mul_zero, Int.mul_zero]
    decide
  rcases lt2_tri ea with q | q
  · have d := fwd_dot (fwd_vec.mpr q) (fwd_vec.mpr (lt2_tr q ab)) (by
      unfold crs vec
      unfold tn at z
      grind)
    unfold vec at d
    unfold dia
    grind
  · rcases lt2_tri eb with w | w
    · exact absurd ⟨q, w⟩ k
    · have d := fwd_dot (fwd_vec.mpr q) (fwd_vec.mpr w) (by
        unfold crs vec
        unfold tn at z
        grind)
      unfold vec at d
      unfold dia
      grind
theorem dia_between {a b s : Pt} (h : lt2 a s) (k : lt2 s b) (z : tn a b s = 0) : dia a b s < 0 := by
  have d := fwd_dot (fwd_vec.mpr h) (fwd_vec.mpr k) (by
    unfold crs vec
    unfold tn at z
    grind)
  unfold vec at d
  unfold dia
  grind
/-! ### what the next site sees is what the chains lose -/
theorem Srt.lt {P : Nat → Pt} {n i j : Nat} (so : Srt P n) (hi : i < n) (hj : j < n) (h : lt2 (P i) (P j)) : i < j := by
  rcases Nat.lt_trichotomy i j with q | q | q
  · exact q
  · rw [q] at h
    exact absurd h lt2_irr
  · exact absurd (lt2_tr h (so j i q hi)) lt2_irr
theorem Srt.mono {P : Nat → Pt} {n m : Nat} (so : Srt P n) (h : m ≤ n) : Srt P m := fun i j a b => so i j a (by omega)
theorem next_of : ∀ (l : List Nat), l.Pairwise (fun x y => y < x) → ∀ x y, x ∈ l → y ∈ l → y < x → ∃ m, (x, m) ∈ EdgI l ∧ y ≤ m ∧ m < x
  | [], _, _, _, h, _, _ => nomatch h
  | [a], _, x, y, hx, hy, h => by
    have := List.mem_singleton.mp hx
    have := List.mem_singleton.mp hy
    omega
  | b :: a :: r, so, x, y, hx, hy, h => by
    have s1 := List.pairwise_cons.mp so
    have s2 := List.pairwise_cons.mp s1.2
    rcases List.mem_cons.mp hx with q | q
    · subst q
      refine ⟨a, List.mem_cons_self, ?_, s1.1 a List.mem_cons_self⟩
      rcases List.mem_cons.mp hy with w | w
      · omega
      · rcases List.mem_cons.mp w with w | w
        · omega
        · have := s2.1 y w
          omega
    · have yb : y ∈ a :: r := by
        rcases List.mem_cons.mp hy with w | w
        · have := s1.1 x q
          omega
        · exact w
      obtain ⟨m, e, k⟩ := next_of (a :: r) s1.2 x y q yb h
      exact ⟨m, List.mem_cons_of_mem _ e, k⟩
theorem sees_nodup (T : Sgt) (P : Nat → Pt) (s : Nat) : ∀ (l : List Nat), l.Pairwise (fun x y => y < x) → (seesI T P s l).Nodup
  | [], _ => List.nodup_nil
  | [_], _ => List.nodup_nil
  | b :: a :: r, so => by
    unfold seesI
    split
    · refine List.nodup_cons.mpr ⟨fun w => ?_, sees_nodup T P s (a :: r) (List.pairwise_cons.mp so).2⟩
      have m := (edgI_mem _ _ (sees_sub T P s _ _ w).1).1
      have := (List.pairwise_cons.mp so).1 b m
      omega
    · exact List.nodup_nil
theorem sees_of {T : Sgt} (ax : Ax T) {P : Nat → Pt} {n : Nat} : ∀ (l : List Nat), CvxG T 0 (l.map P) → (l.map P).Pairwise (fun x y => lt2 y x) → (∀ x ∈ l, lt2 (P x) (P n)) → ∀ x y, (x, y) ∈ EdgI l → T (P y) (P x) (P n) < 0 → (x, y) ∈ seesI T P n l
  | [], _, _, _, _, _, h, _ => nomatch h
  | [_], _, _, _, _, _, h, _ => nomatch h
  | b :: a :: r, cv, so, ln, x, y, h, k => by
    unfold seesI
    by_cases c : T (P a) (P b) (P n) < 0
    · rw [if_pos c]
      rcases List.mem_cons.mp (show (x, y) ∈ (b, a) :: EdgI (a :: r) from h) with q | q
      · rw [q]
        exact List.mem_cons_self
      · refine List.mem_cons_of_mem _ (sees_of ax (a :: r) ?_ (List.pairwise_cons.mp so).2 (fun x hx => ln x (List.mem_cons_of_mem _ hx)) x y q k)
        cases r with
        | nil => exact True.intro
        | cons z r => exact cv.2
    · exfalso
      have := edg_overG ax (least := 0) (by decide) (r.map P) (P b) (P a) cv so (ln b List.mem_cons_self) (by omega) (P x, P y) (by
        have e := edgI_map P (b :: a :: r)
        rw [List.map_cons, List.map_cons] at e
        rw [e]
        exact List.mem_map.mpr ⟨(x, y), h, rfl⟩)
      change 0 ≤ T (P y) (P x) (P n) at this
      omega
section
variable {T : Sgt} {P : Nat → Pt} {n : Nat} {st : List Nat}
theorem ChI.dec (so : Srt P n) (h : ChI T P n st) : st.Pairwise (fun x y => y < x) := by
  have p := List.pairwise_map.mp h.chn.srt
  exact p.imp_of_mem fun hx hy q => so.lt (h.lt _ hy) (h.lt _ hx) q
theorem ChI.edge (so : Srt P n) (h : ChI T P n st) {b a : Nat} (e : (b, a) ∈ EdgI st) : a < b ∧ b < n ∧ (∀ s, s < n → 0 ≤ T (P a) (P b) (P s)) ∧ ∀ s, s < n → T (P a) (P b) (P s) = 0 → ¬ (lt2 (P a) (P s) ∧ lt2 (P s) (P b)) := by
  have m := edgI_mem _ _ e
  have hb := h.lt _ m.1
  have ha := h.lt _ m.2
  have e2 : (P b, P a) ∈ Edg (st.map P) := by
    rw [edgI_map]
    exact List.mem_map.mpr ⟨(b, a), e, rfl⟩
  have rg (s : Nat) (hs : s < n) : P s ∈ (List.range n).map P := List.mem_map.mpr ⟨s, List.mem_range.mpr hs, rfl⟩
  refine ⟨so.lt ha hb (edg_lt _ h.chn.srt _ e2), hb, fun s hs => h.chn.low _ e2 _ (rg s hs), fun s hs z k => ?_⟩
  have := h.off _ e2 _ (rg s hs) k.1 k.2
  rw [z] at this
  omega
theorem ChI.on (ax : Ax T) (so : Srt P n) (h : ChI T P n st) {x y z : Nat} (xl : x < n) (yx : y < x) (zl : z = x ∨ z = y) (sup : ∀ s, s < n → 0 ≤ T (P y) (P x) (P s)) : z ∈ st := by
  refine Classical.byContradiction fun no => ?_
  obtain ⟨r, er⟩ := h.hd
  have zn : z < n := by omega
  have z1 : z ≠ n - 1 := fun w => no (by
    rw [er, w]
    exact List.mem_cons_self)
  have z0 : z ≠ 0 := fun w => no (by
    rw [w]
    exact List.mem_of_getLast? h.bot)
  have nm : P z ∉ st.map P := fun w => by
    obtain ⟨u, hu, e⟩ := List.mem_map.mp w
    have := so.ne (h.lt u hu) zn e
    exact no (this ▸ hu)
  obtain ⟨e, he, k1, k2⟩ := lex_edge (q := P (n - 1)) (p0 := P 0) h.chn.srt (by
    rw [er]
    rfl) (by
    rw [List.getLast?_map, h.bot]
    rfl) (so 0 z (by omega) zn) (so z (n - 1) (by omega) (by omega)) nm
  have m := edg_mem _ _ he
  obtain ⟨i, hi, ei⟩ := List.mem_map.mp (h.chn.sub _ m.2)
  obtain ⟨j, hj, ej⟩ := List.mem_map.mp (h.chn.sub _ m.1)
  have off := h.off e he (P z) (List.mem_map.mpr ⟨z, List.mem_range.mpr zn, rfl⟩) k1 k2
  have u := ax.up (so y x yx xl) k1 k2 off (by
    rw [← ei]
    exact sup i (List.mem_range.mp hi)) (by
    rw [← ej]
    exact sup j (List.mem_range.mp hj))
  have te := ax.tn_end (P y) (P x)
  rcases zl with w | w
  · rw [w, te.2] at u
    omega
  · rw [w, te.1] at u
    omega
theorem ChI.edge_of (ax : Ax T) (cy : ∀ a b c, T b c a = T a b c) (sw : ∀ a b c, T a c b = -T a b c) (so : Srt P n) (h : ChI T P n st) {x y : Nat} (xl : x < n) (yx : y < x) (sup : ∀ s, s < n → 0 ≤ T (P y) (P x) (P s)) (btw : ∀ s, s < n → T (P y) (P x) (P s) = 0 → ¬ (lt2 (P y) (P s) ∧ lt2 (P s) (P x))) : (x, y) ∈ EdgI st := by
  obtain ⟨m, e, ym, mx⟩ := next_of st (h.dec so) x y (h.on ax so xl yx (.inl rfl) sup) (h.on ax so xl yx (.inr rfl) sup) yx
  rcases Nat.lt_or_eq_of_le ym with q | q
  · exfalso
    have f := (h.edge so e).2.2.1 y (by omega)
    have g := sup m (by omega)
    rw [cy] at f
    have w := sw (P y) (P m) (P x)
    exact btw m (by omega) (by omega) ⟨so y m q (by omega), so m x mx xl⟩
  · rw [q]
    exact e
end
section
variable {P : Nat → Pt} {n : Nat} {lo hi : List Nat}
theorem tm_is (a b c : Pt) : tm a b c = -tn a b c := rfl
theorem vis_iff (so : Srt P (n + 1)) (hl : ChI tn P n lo) (hh : ChI tm P n hi) (x y : Nat) : VisP P n x y ↔ (x, y) ∈ seesI tn P n lo ∨ (y, x) ∈ seesI tm P n hi := by
  have s0 := so.mono (Nat.le_succ n)
  constructor
  · intro v
    have xy : x ≠ y := fun q => (tn_ne (show (tn (P x) (P y) (P n)) ≠ 0 by have := v.pos; omega)).1 (q ▸ rfl)
    have xl := v.ra
    have yl := v.rb
    rcases Nat.lt_or_gt_of_ne xy with q | q
    · right
      refine sees_of ax_tm hi hh.chn.cvx hh.chn.srt (fun z hz => so z n (hh.lt z hz) (by omega)) y x (hh.edge_of ax_tm (fun a b c => by rw [tm_is, tm_is, tnc]) (fun a b c => by rw [tm_is, tm_is, tn_neg]) s0 yl q (fun s hs => ?_) (fun s hs z k => ?_)) ?_
      · have := v.right s hs
        rw [tm_is]
        omega
      · rw [tm_is] at z
        have z' : (tn (P x) (P y) (P s)) = 0 := by omega
        have := dia_between k.1 k.2 z'
        have := v.btw s hs z'
        omega
      · have := v.pos
        rw [tm_is]
        omega
    · left
      refine sees_of ax_tn lo hl.chn.cvx hl.chn.srt (fun z hz => so z n (hl.lt z hz) (by omega)) x y (hl.edge_of ax_tn (fun a b c => tnc a b c) (fun a b c => tn_neg a b c) s0 xl q (fun s hs => ?_) (fun s hs z k => ?_)) ?_
      · have := v.right s hs
        rw [tns]
        omega
      · have z' : (tn (P x) (P y) (P s)) = 0 := by
          rw [tns]
          omega
        have := dia_between k.1 k.2 z
        have := v.btw s hs z'
        rw [dia_sw] at this
        omega
      · have := v.pos
        rw [tns]
        omega
  · rintro (h | h)
    · obtain ⟨e, c⟩ := sees_sub _ _ _ _ _ h
      obtain ⟨k1, k2, k3, k4⟩ := hl.edge s0 e
      refine ⟨k2, by omega, by rw [tns]; simp only at c; omega, fun s hs => ?_, fun s hs z => ?_⟩
      · have := k3 s hs
        rw [tns]
        omega
      · have z' : (tn (P y) (P x) (P s)) = 0 := by
          rw [tns]
          omega
        rw [dia_sw]
        exact dia_out (s0 y x k1 k2) z' (k4 s hs z')
    · obtain ⟨e, c⟩ := sees_sub _ _ _ _ _ h
      obtain ⟨k1, k2, k3, k4⟩ := hh.edge s0 e
      simp only [tm_is] at c
      refine ⟨by omega, k2, by omega, fun s hs => ?_, fun s hs z => ?_⟩
      · have := k3 s hs
        rw [tm_is] at this
        omega
      · exact dia_out (s0 x y k1 k2) z (k4 s hs (by rw [tm_is]; omega))
/-- the sides that are seen, in the program's order -/
def visL (P : Nat → Pt) (n : Nat) (lo hi : List Nat) : List (Nat × Nat) := seesI tn P n lo ++ (seesI tm P n hi).map fun e => (e.2, e.1)
theorem vis_mem (so : Srt P (n + 1)) (hl : ChI tn P n lo) (hh : ChI tm P n hi) (x y : Nat) : (x, y) ∈ visL P n lo hi ↔ VisP P n x y := by
  rw [vis_iff so hl hh]
  unfold visL
  rw [List.mem_append, List.mem_map]
  refine or_congr Iff.rfl ⟨?_, fun h => ⟨(y, x), h, rfl⟩⟩
  rintro ⟨⟨a, b⟩, h, e⟩
  cases e
  exact h
theorem vis_nodup (so : Srt P (n + 1)) (hl : ChI tn P n lo) (hh : ChI tm P n hi) : (visL P n lo hi).Nodup := by
  have s0 := so.mono (Nat.le_succ n)
  refine List.nodup_append.mpr ⟨sees_nodup _ _ _ _ (hl.dec s0), ?_, ?_⟩
  · refine List.pairwise_map.mpr ((sees_nodup tm P n hi (hh.dec s0)).imp fun h e => h ?_)
    have := Prod.ext_iff.mp e
    exact Prod.ext this.2 this.1
  · rintro ⟨x, y⟩ h1 ⟨u, v⟩ h2 e
    obtain ⟨⟨a, b⟩, h3, e3⟩ := List.mem_map.mp h2
    cases e3
    cases e
    have := (hl.edge s0 (sees_sub _ _ _ _ _ h1).1).1
    have := (hh.edge s0 (sees_sub _ _ _ _ _ h3).1).1
    omega
theorem new_low (so : Srt P (n + 1)) {T : Sgt} (ax : Ax T) {st : List Nat} (h : ChI T P n st) {a : Nat} {r : List Nat} (e : popI T P n st = a :: r) (s : Nat) (hs : s < n + 1) : 0 ≤ T (P a) (P n) (P s) := by
  have h' := h.next ax so
  rw [e] at h'
  exact (h'.edge so (b := n) (a := a) List.mem_cons_self).2.2.1 s hs
theorem vis_hb1 (so : Srt P (n + 1)) (hl : ChI tn P n lo) (hh : ChI tm P n hi) (x y : Nat) (v : VisP P n x y) : (∃ w, VisP P n w x) ∨ ∀ s, s < n + 1 → 0 ≤ (tn (P n) (P x) (P s)) := by
  have V := vis_iff so hl hh
  have high {r : List Nat} (e : popI tm P n hi = x :: r) (s : Nat) (hs : s < n + 1) : 0 ≤ (tn (P n) (P x) (P s)) := by
    have := new_low so ax_tm hh e s hs
    rw [tm_is] at this
    rw [tns]
    omega
  rcases (V x y).mp v with h | h
  · rcases sees_up _ _ _ _ _ _ h with ⟨c, k⟩ | ⟨r, k⟩
    · exact .inl ⟨c, (V c x).mpr (.inl k)⟩
    · obtain ⟨r1, e1⟩ := hl.hd
      obtain ⟨r2, e2⟩ := hh.hd
      have xe : x = n - 1 := by
        rw [k] at e1
        exact (List.cons.inj e1).1
      subst xe
      rcases sees_hd tm P n (n - 1) r2 with ⟨a, q⟩ | ⟨r', q⟩
      · rw [← e2] at q
        exact .inl ⟨a, (V a _).mpr (.inr q)⟩
      · rw [← e2] at q
        exact .inr (high q)
  · rcases sees_dn _ _ _ _ _ _ h with ⟨c, k⟩ | ⟨r, k⟩
    · exact .inl ⟨c, (V c x).mpr (.inr k)⟩
    · exact .inr (high k)
theorem vis_hb2 (so : Srt P (n + 1)) (hl : ChI tn P n lo) (hh : ChI tm P n hi) (x y : Nat) (v : VisP P n x y) : (∃ w, VisP P n y w) ∨ ∀ s, s < n + 1 → 0 ≤ (tn (P y) (P n) (P s)) := by
  have V := vis_iff so hl hh
  have low {r : List Nat} (e : popI tn P n lo = y :: r) (s : Nat) (hs : s < n + 1) : 0 ≤ (tn (P y) (P n) (P s)) := new_low so ax_tn hl e s hs
  rcases (V x y).mp v with h | h
  · rcases sees_dn _ _ _ _ _ _ h with ⟨c, k⟩ | ⟨r, k⟩
    · exact .inl ⟨c, (V y c).mpr (.inl k)⟩
    · exact .inr (low k)
  · rcases sees_up _ _ _ _ _ _ h with ⟨c, k⟩ | ⟨r, k⟩
    · exact .inl ⟨c, (V y c).mpr (.inr k)⟩
    · obtain ⟨r1, e1⟩ := hl.hd
      obtain ⟨r2, e2⟩ := hh.hd
      have ye : y = n - 1 := by
        rw [k] at e2
        exact (List.cons.inj e2).1
      subst ye
      rcases sees_hd tn P n (n - 1) r1 with ⟨a, q⟩ | ⟨r', q⟩
      · rw [← e1] at q
        exact .inl ⟨a, (V _ a).mpr (.inl q)⟩
      · rw [← e1] at q
        exact .inr (low q)
/-- the new site's first triangles -/
theorem mid_start (so : Srt P (n + 1)) {O T : TriF} (hO : Dl P n O) (hl : ChI tn P n lo) (hh : ChI tm P n hi)
    (t : ∀ x y z, T x y = some z ↔ O x y = some z ∨ (z = n ∧ (x, y) ∈ visL P n lo hi) ∨ (x = n ∧ (y, z) ∈ visL P n lo hi) ∨ (y = n ∧ (z, x) ∈ visL P n lo hi)) : Mid P n O T (visL P n lo hi) :=
  mid_init so hO (vis_mem so hl hh) (vis_nodup so hl hh) (fun x y z => by
    rw [t, vis_mem so hl hh, vis_mem so hl hh, vis_mem so hl hh]) (vis_hb1 so hl hh) (vis_hb2 so hl hh)
end
/-! ### one site after the other; flat edges taken out -/
section
variable {P : Nat → Pt} {n : Nat} {O T : TriF} {F : List (Nat × Nat)} {lo hi : List Nat}
theorem dl_one : Dl P 1 (fun _ _ => none) := by
  refine ⟨⟨fun e => (nomatch e), fun e => (nomatch e), fun e => (nomatch e)⟩, fun e => (nomatch e), fun e => (nomatch e), fun {a b c} o => ?_⟩
  have N := tn_ne (show (tn (P a) (P b) (P c)) ≠ 0 by have := o.pos; omega)
  have h1 := o.ra
  have h2 := o.rb
  exact absurd (by rw [show a = b by omega]) N.1
theorem flat_one : FlatT P (fun _ _ => none) [] := ⟨fun e => (nomatch e), fun e => (nomatch e), fun e => (nomatch e)⟩
theorem midF_start (so : Srt P (n + 1)) (hO : Dl P n O) (hf : FlatT P O F)
    (t : ∀ x y z, T x y = some z ↔ O x y = some z ∨ (z = n ∧ (x, y) ∈ visL P n lo hi) ∨ (x = n ∧ (y, z) ∈ visL P n lo hi) ∨ (y = n ∧ (z, x) ∈ visL P n lo hi)) : MidF P n O T (visL P n lo hi) F := by
  refine ⟨fun {a b} q => ?_, fun {a b c d} al bl e f z => ?_, hf.one⟩
  · obtain ⟨c, d, e, f, z⟩ := hf.on q
    refine .inl ⟨c, d, e, f, z, fun w => ?_, fun w => ?_⟩
    · rw [(t _ _ _).mpr (.inl e)] at w
      cases w
    · rw [(t _ _ _).mpr (.inl f)] at w
      cases w
  · rcases (t _ _ _).mp e with e1 | ⟨_, e1⟩ | ⟨e1, _⟩ | ⟨e1, _⟩
    · rcases (t _ _ _).mp f with f1 | ⟨_, f1⟩ | ⟨f1, _⟩ | ⟨f1, _⟩
      · rcases hf.all e1 f1 z with w | w
        · exact .inl w
        · exact .inr (.inl w)
      · exact .inr (.inr (.inr f1))
      · omega
      · omega
    · exact .inr (.inr (.inl e1))
    · omega
    · omega
/-- while flat edges are taken out; R are those that are out -/
structure Mrg (P : Nat → Pt) (T M : TriF) (R : List (Nat × Nat)) : Prop where
  at_ : ∀ {a b c}, M a b = some c → ∃ d, T a b = some d ∧ (ic (P a) (P b) (P d) (P c)) = 0 ∧ 0 < (tn (P a) (P b) (P c)) ∧ (a, b) ∉ R
  has : ∀ {a b c}, T a b = some c → (a, b) ∉ R → ∃ d, M a b = some d
  back : ∀ {a b c}, M a b = some c → ∃ e, T c a = some e ∧ (ic (P a) (P b) (P c) (P e)) = 0
  inj : ∀ {a b b' c}, M a b = some c → M a b' = some c → b = b'
  pred : ∀ {a b e}, T b a = some e → (a, b) ∉ R → ∃ c, M a c = some b
  out : ∀ {a b c}, M a b = some c → (a, c) ∉ R
theorem mrg_start (hT : TriT P n T) : Mrg P T T [] := by
  refine ⟨fun {a b c} e => ⟨c, e, ic_c _ _ _, hT.pos e, List.not_mem_nil⟩, fun {a b c} e _ => ⟨c, e⟩, fun {a b c} e => ⟨b, hT.rot2 e, ?_⟩, fun {a b b' c} e f => ?_, fun {a b c} e _ => ⟨c, hT.rot e⟩, fun _ => List.not_mem_nil⟩
  · exact ic_b _ _ _
  · have h1 := hT.rot2 e
    have h2 := hT.rot2 f
    rw [h1] at h2
    exact Option.some.inj h2
/-- b is taken out of what is joined with a: c is ahead of it and d behind -/
def takeO (M : TriF) (a b c d : Nat) : TriF := fun x y => if x = a ∧ y = b then none else if x = a ∧ y = c then some d else M x y
theorem circ_sw {a b c d : Pt} : ic a c b d = -ic a b c d := by
  rw [← ic_cyc, ← ic_cyc, ic_sw]
theorem circ_tr {a b c d e : Pt} (hc : tn a b c ≠ 0) (h : ic a b c d = 0) (k : ic a b c e = 0) : ic a b d e = 0 := by
  have := same_circ (s := e) h hc
  rw [k, Int.zero_mul] at this
  exact (Int.mul_eq_zero.mp this.symm).elim id fun w => absurd w hc
theorem Mrg.take (h : Mrg P T M R) (hT : TriT P n T) {a b u v : Nat} (e1 : T a b = some u) (e2 : T b a = some v) (z : (ic (P a) (P b) (P u) (P v)) = 0) (nR : (a, b) ∉ R) : ∃ c d, M a b = some d ∧ M a c = some b ∧ c ≠ b ∧ (∀ x, M a x = some b → x = c) ∧ Mrg P T (takeO M a b c d) ((a, b) :: R) := by
  obtain ⟨d, hd⟩ := h.has e1 nR
  obtain ⟨c, hc⟩ := h.pred e2 nR
  obtain ⟨d1, k1, k2, k3, k4⟩ := h.at_ hd
  obtain ⟨c1, l1, l2, l3, l4⟩ := h.at_ hc
  have cb : c ≠ b := fun w => by
    rw [w, tn_abb] at l3
    omega
  have db : d ≠ b := fun w => by
    rw [w, tn_abb] at k3
    omega
  obtain ⟨v', m1, m2⟩ := h.back hc
  rw [e2] at m1
  cases m1
  rw [e1] at k1
  cases k1
  have pu := hT.pos e1
  have pv := hT.pos e2
  rw [tns] at pv
  have pc1 := hT.pos l1
  -- all on one circle with a and b: u, v, c, d
  have zc : (ic (P a) (P b) (P v) (P c)) = 0 := by
    have : (ic (P a) (P b) (P c) (P v)) = 0 := by
      rw [circ_sw]
      omega
    rw [ic_ex]
    omega
  have zu : (ic (P a) (P b) (P u) (P c)) = 0 := by
    have := circ_tr (show (tn (P a) (P b) (P v)) ≠ 0 by omega) (by rw [ic_ex]; omega : (ic (P a) (P b) (P v) (P u)) = 0) zc
    exact this
  have pcb : (tn (P a) (P b) (P c)) ≠ 0 := by
    rw [tn_neg]
    omega
  have zcd : (ic (P a) (P b) (P c) (P d)) = 0 := circ_tr (by omega) zu k2
  have S {x y : Nat} {w : Nat} : takeO M a b c d x y = some w ↔ (x = a ∧ y = c ∧ w = d) ∨ (M x y = some w ∧ ¬ (x = a ∧ y = b) ∧ ¬ (x = a ∧ y = c)) := by
    unfold takeO
    constructor
    · intro q
      split at q
      · cases q
      · split at q
        · rename_i k
          cases q
          exact .inl ⟨k.1, k.2, rfl⟩
        · exact .inr ⟨q, by assumption, by assumption⟩
    · rintro (⟨rfl, rfl, rfl⟩ | ⟨q, k1, k2⟩)
      · rw [if_neg (by omega), if_pos ⟨rfl, rfl⟩]
      · rw [if_neg k1, if_neg k2]
        exact q
  refine ⟨c, d, hd, hc, cb, fun x hx => h.inj hx hc, ?_, ?_, ?_, ?_, ?_, ?_⟩
  · intro x y w q
    rcases S.mp q with ⟨rfl, rfl, rfl⟩ | ⟨q, n1, n2⟩
    · refine ⟨c1, l1, ?_, ?_, fun k => ?_⟩
      · refine circ_tr (c := P b) (by omega) ?_ ?_
        · rw [ic_ex]
          omega
        · rw [circ_sw]
          omega
      · exact conv_1 (b := P b) k3 (by rw [tnc, tnc]; exact l3) (by
          rw [ic_sw]
          omega)
      · rcases List.mem_cons.mp k with k | k
        · cases k
          exact cb rfl
        · exact l4 k
    · obtain ⟨g, g1, g2, g3, g4⟩ := h.at_ q
      refine ⟨g, g1, g2, g3, fun k => ?_⟩
      rcases List.mem_cons.mp k with k | k
      · cases k
        exact n1 ⟨rfl, rfl⟩
      · exact g4 k
  · intro x y w q k
    have k1 : ¬ (x = a ∧ y = b) := fun g => k (by rw [g.1, g.2]; exact List.mem_cons_self)
    obtain ⟨g, hg⟩ := h.has q fun g => k (List.mem_cons_of_mem _ g)
    by_cases k2 : x = a ∧ y = c
    · exact ⟨d, S.mpr (.inl ⟨k2.1, k2.2, rfl⟩)⟩
    · exact ⟨g, S.mpr (.inr ⟨hg, k1, k2⟩)⟩
  · intro x y w q
    rcases S.mp q with ⟨rfl, rfl, rfl⟩ | ⟨q, n1, n2⟩
    · obtain ⟨e, g1, g2⟩ := h.back hd
      refine ⟨e, g1, ?_⟩
      -- d, e and c on the circle of a, b, c
      have t1 : (ic (P x) (P w) (P b) (P y)) = 0 := by
        rw [circ_sw, ic_ex]
        omega
      have t2 : (ic (P x) (P w) (P b) (P e)) = 0 := by
        rw [circ_sw]
        omega
      have t3 : (tn (P x) (P w) (P b)) ≠ 0 := by
        rw [tn_neg]
        omega
      have := circ_tr t3 t1 t2
      rw [circ_sw]
      omega
    · exact h.back q
  · intro x y y' w q q'
    rcases S.mp q with ⟨r1, r2, r3⟩ | ⟨q, n1, n2⟩
    · rcases S.mp q' with ⟨_, r4, _⟩ | ⟨q', n3, n4⟩
      · rw [r2, r4]
      · rw [r1, r3] at q'
        exact absurd ⟨r1, h.inj q' hd⟩ n3
    · rcases S.mp q' with ⟨r1, r2, r3⟩ | ⟨q', n3, n4⟩
      · rw [r1, r3] at q
        exact absurd ⟨r1, h.inj q hd⟩ n1
      · exact h.inj q q'
  · intro x y w q k
    obtain ⟨g, hg⟩ := h.pred q fun g => k (List.mem_cons_of_mem _ g)
    by_cases k1 : x = a ∧ g = b
    · obtain ⟨rfl, rfl⟩ := k1
      rw [hd] at hg
      cases hg
      exact ⟨c, S.mpr (.inl ⟨rfl, rfl, rfl⟩)⟩
    · by_cases k2 : x = a ∧ g = c
      · obtain ⟨rfl, rfl⟩ := k2
        rw [hc] at hg
        cases hg
        exact absurd List.mem_cons_self k
      · exact ⟨g, S.mpr (.inr ⟨hg, k1, k2⟩)⟩
  · intro x y w q k
    rcases S.mp q with ⟨rfl, rfl, rfl⟩ | ⟨q, n1, n2⟩
    · rcases List.mem_cons.mp k with k | k
      · cases k
        exact db rfl
      · exact h.out hd k
    · rcases List.mem_cons.mp k with k | k
      · cases k
        exact n2 ⟨rfl, h.inj q hc⟩
      · exact h.out q k
end
/-! ### what links are in the end -/
theorem beyond {a b d e s : Pt} (hd : 0 < tn a b d) (he : tn a b e < 0) (hs : tn a b s < 0) (k : ic a b d e < 0) (l : ic b a e s ≤ 0) : ic a b d s < 0 := by
  rw [ic_sw] at l
  unfold ic at *
  have a1 := Int.mul_pos (show 0 < -(dia a b d * tn a b e - dia a b e * tn a b d) by omega) (show 0 < -tn a b s by omega)
  have a2 := Int.mul_nonneg (show 0 ≤ dia a b e * tn a b s - dia a b s * tn a b e by omega) (Int.le_of_lt hd)
  have e1 : -(dia a b d * tn a b s - dia a b s * tn a b d) * -tn a b e = -(dia a b d * tn a b e - dia a b e * tn a b d) * -tn a b s + (dia a b e * tn a b s - dia a b s * tn a b e) * tn a b d := by grind
  have := of_mul_pos (by omega) (show 0 < -tn a b e by omega) (a := -(dia a b d * tn a b s - dia a b s * tn a b d))
  omega
section
variable {P : Nat → Pt} {n : Nat} {T M : TriF} {F R : List (Nat × Nat)} {lo hi : List Nat}
theorem Dl.side (hD : Dl P n T) {a b d : Nat} (e : T a b = some d) (nf : ∀ v, T b a = some v → (ic (P a) (P b) (P d) (P v)) ≠ 0) : OnE P n a b d := by
  have rg := hD.tri.rng e
  have pd := hD.tri.pos e
  refine ⟨rg.1, rg.2.1, rg.2.2, pd, fun s hs => hD.emp e s hs, fun s hs q => ?_⟩
  cases k : T b a with
  | none =>
    have := hD.brd e k s hs
    omega
  | some v =>
    have rv := hD.tri.rng k
    have pv := hD.tri.pos k
    rw [tns] at pv
    have := hD.emp e v rv.2.2
    have := nf v k
    exact beyond pd (by omega) q (by omega) (hD.emp k s hs)
theorem OnE.same {a b c d : Nat} (o : OnE P n a b c) (dl : d < n) (p : 0 < (tn (P a) (P b) (P d))) (z : (ic (P a) (P b) (P c) (P d)) = 0) : OnE P n a b d :=
  ⟨o.ra, o.rb, dl, p, fun s hs => (same_le z o.pos p).1.mp (o.emp s hs), fun s hs q => (same_le z o.pos p).2.1.mp (o.nxt s hs q)⟩
/-- the one ahead of a on a circle is told -/
theorem OnE.ahead {a b c c' : Nat} (so : Srt P n) (o : OnE P n c a b) (o' : OnE P n c' a b) (z : (ic (P a) (P b) (P c) (P c')) = 0) : c = c' := by
  have h1 : 0 ≤ (tn (P c) (P a) (P c')) := by
    rcases ltge (tn (P c) (P a) (P c')) 0 with q | q
    · have := o.nxt c' o'.ra q
      rw [← ic_cyc] at this
      omega
    · exact q
  have h2 : 0 ≤ (tn (P c') (P a) (P c)) := by
    rcases ltge (tn (P c') (P a) (P c)) 0 with q | q
    · have := o'.nxt c o.ra q
      rw [← ic_cyc, ic_ex] at this
      omega
    · exact q
  rw [← tnc] at h2
  rw [tns] at h1
  have l : (tn (P c) (P a) (P c')) = 0 := by
    rw [tns]
    omega
  have z' : (ic (P c) (P a) (P b) (P c')) = 0 := by
    rw [← ic_cyc]
    exact z
  rw [on_line l] at z'
  have d0 := (Int.mul_eq_zero.mp (show (dia (P c) (P a) (P c')) * (tn (P c) (P a) (P b)) = 0 by omega)).elim id fun w => absurd w (by have := o.pos; omega)
  rcases line_circ l d0 with q | q
  · exact (so.ne o'.ra o.ra q).symm
  · have := o'.pos
    rw [q, tn_aab] at this
    omega
theorem Mrg.final (so : Srt P n) (hD : Dl P n T) (hf : FlatT P T F) (h : Mrg P T M R) (hR : ∀ a b, (a, b) ∈ R ↔ (a, b) ∈ F ∨ (b, a) ∈ F) (a b c : Nat) : M a b = some c ↔ OnE P n a b c ∧ OnE P n c a b := by
  have fwd {a b c : Nat} (e : M a b = some c) : OnE P n a b c ∧ OnE P n c a b := by
    obtain ⟨d, k1, k2, k3, k4⟩ := h.at_ e
    obtain ⟨g, g1, g2⟩ := h.back e
    have rg := hD.tri.rng g1
    refine ⟨(hD.side k1 fun v kv z => k4 ((hR _ _).mpr (hf.all k1 kv z))).same rg.1 k3 k2, ?_⟩
    refine (hD.side g1 fun v kv z => h.out e ((hR _ _).mpr ((hf.all g1 kv z).symm))).same (hD.tri.rng k1).2.1 ?_ ?_
    · rw [← tnc]
      exact k3
    · rw [ic_ex, ← ic_cyc]
      omega
  refine ⟨fwd, fun ⟨o, o'⟩ => ?_⟩
  obtain ⟨d, e, z⟩ := hD.full o
  have pd := hD.tri.pos e
  have po := o.pos
  have z1 : (ic (P a) (P b) (P d) (P c)) = 0 := by
    rw [ic_ex]
    omega
  have nR : (a, b) ∉ R := fun q => by
    have key {v : Nat} (kv : T b a = some v) (w : (ic (P a) (P b) (P d) (P v)) = 0) : False := by
      have pv := hD.tri.pos kv
      have rv := hD.tri.rng kv
      rw [tns] at pv
      have := o.nxt v rv.2.2 (by omega)
      have := circ_tr (by omega) z1 w
      omega
    rcases (hR _ _).mp q with q | q
    · obtain ⟨u, v, k1, k2, w⟩ := hf.on q
      rw [e] at k1
      cases k1
      exact key k2 w
    · obtain ⟨u, v, k1, k2, w⟩ := hf.on q
      rw [e] at k2
      cases k2
      refine key k1 ?_
      exact ic_back w
  obtain ⟨c', m⟩ := h.has e nR
  obtain ⟨f1, f2⟩ := fwd m
  obtain ⟨d', k1, k2, _⟩ := h.at_ m
  rw [e] at k1
  cases k1
  have := o'.ahead so f2 (circ_tr (by omega) z1 k2)
  rw [this]
  exact m
/-- a side of the border, all sites on its left -/
structure HullE (P : Nat → Pt) (n x y : Nat) : Prop where
  rx : x < n
  ry : y < n
  ne : x ≠ y
  left : ∀ s, s < n → 0 ≤ (tn (P x) (P y) (P s))
  btw : ∀ s, s < n → (tn (P x) (P y) (P s)) = 0 → 0 ≤ (dia (P x) (P y) (P s))
theorem hull_iff (so : Srt P n) (hl : ChI tn P n lo) (hh : ChI tm P n hi) (x y : Nat) : HullE P n x y ↔ (y, x) ∈ EdgI lo ∨ (x, y) ∈ EdgI hi := by
  constructor
  · intro v
    rcases Nat.lt_or_gt_of_ne v.ne with q | q
    · refine .inl (hl.edge_of ax_tn (fun a b c => tnc a b c) (fun a b c => tn_neg a b c) so v.ry q v.left fun s hs z k => ?_)
      have := dia_between k.1 k.2 z
      have := v.btw s hs z
      omega
    · refine .inr (hh.edge_of ax_tm (fun a b c => by rw [tm_is, tm_is, tnc]) (fun a b c => by rw [tm_is, tm_is, tn_neg]) so v.rx q (fun s hs => ?_) fun s hs z k => ?_)
      · have := v.left s hs
        rw [tm_is, tns]
        omega
      · rw [tm_is] at z
        have z' : (tn (P x) (P y) (P s)) = 0 := by
          rw [tns]
          omega
        have := dia_between k.1 k.2 (by omega : (tn (P y) (P x) (P s)) = 0)
        have := v.btw s hs z'
        rw [dia_sw] at this
        omega
  · rintro (e | e)
    · obtain ⟨k1, k2, k3, k4⟩ := hl.edge so e
      exact ⟨by omega, k2, by omega, k3, fun s hs z => dia_out (so x y k1 k2) z (k4 s hs z)⟩
    · obtain ⟨k1, k2, k3, k4⟩ := hh.edge so e
      refine ⟨k2, by omega, by omega, fun s hs => ?_, fun s hs z => ?_⟩
      · have := k3 s hs
        rw [tm_is] at this
        rw [tns]
        omega
      · have z' : (tn (P y) (P x) (P s)) = 0 := by
          rw [tns]
          omega
        rw [dia_sw]
        exact dia_out (so y x k1 k2) z' (k4 s hs (by rw [tm_is]; omega))
/-- what links are: the corner ahead of a in the face on the left, or -1 beside a side of the border -/
def LinkT (P : Nat → Pt) (n : Nat) (L : Nat → Nat → Option Int) : Prop := ∀ x y v, L x y = some v ↔ (∃ c : Nat, v = (c : Int) ∧ OnE P n x y c ∧ OnE P n c x y) ∨ (v = -1 ∧ HullE P n y x)
theorem OnE.not_hull {a b c : Nat} (o : OnE P n a b c) : ¬ HullE P n b a := fun h => by
  have := h.left c o.rc
  have := o.pos
  rw [tns] at this
  omega
theorem link_final (so : Srt P n) (hD : Dl P n T) (hf : FlatT P T F) (h : Mrg P T M R) (hR : ∀ a b, (a, b) ∈ R ↔ (a, b) ∈ F ∨ (b, a) ∈ F) (hl : ChI tn P n lo) (hh : ChI tm P n hi) {L : Nat → Nat → Option Int} (hL : ∀ x y v, L x y = some v ↔ (v = -1 ∧ ((x, y) ∈ EdgI lo ∨ (y, x) ∈ EdgI hi)) ∨ (¬ ((x, y) ∈ EdgI lo ∨ (y, x) ∈ EdgI hi) ∧ ∃ c : Nat, v = (c : Int) ∧ M x y = some c)) : LinkT P n L := by
  intro x y v
  rw [hL, ← hull_iff so hl hh]
  constructor
  · rintro (⟨q, w⟩ | ⟨w, c, q, e⟩)
    · exact .inr ⟨q, w⟩
    · exact .inl ⟨c, q, (h.final so hD hf hR x y c).mp e⟩
  · rintro (⟨c, q, w⟩ | ⟨q, w⟩)
    · exact .inr ⟨w.1.not_hull, c, q, (h.final so hD hf hR x y c).mpr w⟩
    · exact .inl ⟨q, w⟩
end
/-! ### faces: the corners on one circle, turning left -/
section
variable {P : Nat → Pt} {n : Nat}
/-- on the line of a side and on the circle -/
theorem on_both (so : Srt P n) {a b c s : Nat} (ra : a < n) (rb : b < n) (rs : s < n) (hc : (tn (P a) (P b) (P c)) ≠ 0) (l : (tn (P a) (P b) (P s)) = 0) (z : (ic (P a) (P b) (P c) (P s)) = 0) : s = a ∨ s = b := by
  rw [on_line l] at z
  have d0 := (Int.mul_eq_zero.mp (show (dia (P a) (P b) (P s)) * (tn (P a) (P b) (P c)) = 0 by omega)).elim id fun w => absurd w hc
  rcases line_circ l d0 with q | q
  · exact .inl (so.ne rs ra q)
  · exact .inr (so.ne rs rb q)
theorem OnE.ne (o : OnE P n a b c) : a ≠ b ∧ b ≠ c ∧ a ≠ c := by
  have N := tn_ne (show (tn (P a) (P b) (P c)) ≠ 0 by have := o.pos; omega)
  exact ⟨fun q => N.1 (q ▸ rfl), fun q => N.2.1 (q ▸ rfl), fun q => N.2.2 (q ▸ rfl)⟩
/-- what is on the circle is on the left or an end -/
theorem OnE.left (so : Srt P n) (o : OnE P n a b c) {s : Nat} (rs : s < n) (z : (ic (P a) (P b) (P c) (P s)) = 0) : s = a ∨ s = b ∨ 0 < (tn (P a) (P b) (P s)) := by
  rcases Int.lt_trichotomy (tn (P a) (P b) (P s)) 0 with q | q | q
  · have := o.nxt s rs q
    omega
  · exact (on_both so o.ra o.rb rs (by have := o.pos; omega) q z).elim .inl fun w => .inr (.inl w)
  · exact .inr (.inr q)
/-- two empty circles beside one side are one -/
theorem OnE.one {a b c d : Nat} (o : OnE P n a b c) (o' : OnE P n a b d) : (ic (P a) (P b) (P c) (P d)) = 0 := by
  have h1 := o.emp d o'.rc
  have h2 := o'.emp c o.rc
  rw [ic_ex] at h2
  omega
/-- the corners of a face from the least one on -/
structure FaceL (P : Nat → Pt) (n a b c : Nat) (l : List Nat) : Prop where
  srt : l.Pairwise fun x y => 0 < (tn (P a) (P x) (P y))
  mem : ∀ s, s ∈ l ↔ s < n ∧ s ≠ a ∧ (ic (P a) (P b) (P c) (P s)) = 0
/-- while the rim is told, from the one ahead of a back to the one behind it -/
structure Rim (P : Nat → Pt) (n a b c : Nat) (bk : List Nat) (here ahead : Nat) : Prop where
  hr : here < n
  ha : here ≠ a
  on : (ic (P a) (P b) (P c) (P here)) = 0
  side : ∃ x, OnE P n here ahead x ∧ ∀ s, (ic (P a) (P b) (P c) (P s)) = 0 ↔ (ic (P here) (P ahead) (P x) (P s)) = 0
  srt : bk.Pairwise fun x y => 0 < (tn (P a) (P y) (P x))
  mem : ∀ s, s ∈ bk ↔ s < n ∧ s ≠ a ∧ (ic (P a) (P b) (P c) (P s)) = 0 ∧ 0 < (tn (P a) (P here) (P s))
theorem OnE.behind (so : Srt P n) {a b c b' c' : Nat} (o : OnE P n a b c) (o' : OnE P n a b' c') (z : (ic (P a) (P b) (P c) (P b')) = 0) (z' : (ic (P a) (P b') (P c') (P b)) = 0) : b = b' := by
  rcases o.left so o'.rb z with q | q | q
  · exact absurd q.symm o'.ne.1
  · exact q.symm
  · rcases o'.left so o.rb z' with w | w | w
    · exact absurd w.symm o.ne.1
    · exact w
    · rw [tn_neg] at w
      omega
theorem Rim.next (so : Srt P n) {a b c : Nat} {bk : List Nat} {here ahead d : Nat} (o : OnE P n a b c) (h : Rim P n a b c bk here ahead) (hb : here ≠ b) (od : OnE P n here ahead d) (od' : OnE P n d here ahead) : Rim P n a b c (bk ++ [here]) d here := by
  obtain ⟨x, ox, eq⟩ := h.side
  have zd := ox.one od
  have dn := od'.ra
  have sK (s : Nat) : (ic (P a) (P b) (P c) (P s)) = 0 ↔ (ic (P d) (P here) (P ahead) (P s)) = 0 := by
    rw [eq s, (same_le (s := P s) zd ox.pos od.pos).2.2, ic_cyc]
  have onA : (ic (P d) (P here) (P ahead) (P a)) = 0 := (sK a).mp (ic_a _ _ _)
  have pK : (tn (P d) (P here) (P ahead)) ≠ 0 := by
    have := od'.pos
    omega
  have da : d ≠ a := fun q => by
    subst q
    exact hb (o.behind so od' h.on ((sK b).mp (ic_b _ _ _))).symm
  have p1 : 0 < (tn (P a) (P d) (P here)) := by
    rcases od'.left so o.ra onA with q | q | q
    · exact absurd q.symm da
    · exact absurd q.symm h.ha
    · rw [← tnc]
      exact q
  have cK {s : Nat} (z : (ic (P a) (P b) (P c) (P s)) = 0) : (ic (P d) (P here) (P a) (P s)) = 0 := circ_tr pK onA ((sK s).mp z)
  refine ⟨dn, da, (eq d).mpr zd, ⟨ahead, od', sK⟩, List.pairwise_append.mpr ⟨h.srt, List.pairwise_singleton _ _, fun y hy z hz => ?_⟩, fun s => ⟨fun q => ?_, fun ⟨rs, sa, z, q⟩ => ?_⟩⟩
  · rw [List.mem_singleton.mp hz]
    exact ((h.mem y).mp hy).2.2.2
  · rcases List.mem_append.mp q with q | q
    · obtain ⟨rs, sa, z, w⟩ := (h.mem s).mp q
      refine ⟨rs, sa, z, conv_1 (b := P here) w (by rw [tnc, tnc]; exact p1) ?_⟩
      rw [ic_cyc, cK z]
      exact Int.le_refl _
    · rw [List.mem_singleton.mp q]
      exact ⟨h.hr, h.ha, h.on, p1⟩
  · rcases Int.lt_trichotomy (tn (P a) (P here) (P s)) 0 with w | w | w
    · exfalso
      have k1 : 0 ≤ (tn (P d) (P here) (P s)) := by
        rcases od'.left so rs ((sK s).mp z) with t | t | t
        · rw [t, tn_aba]
          exact Int.le_refl _
        · rw [t, tn_abb]
          exact Int.le_refl _
        · exact Int.le_of_lt t
      rcases in_tri p1 (Int.le_of_lt q) k1 (by rw [tns]; omega) (by rw [← ic_cyc]; exact cK z) with t | t | t
      · exact sa (so.ne rs o.ra t)
      · rw [t, tn_abb] at q
        omega
      · rw [t, tn_abb] at w
        omega
    · have z2 : (ic (P a) (P here) (P d) (P s)) = 0 := by
        rw [circ_sw, ← ic_cyc, cK z]
        rfl
      rcases on_both so o.ra h.hr rs (by rw [tn_neg]; omega) w z2 with t | t
      · exact absurd t sa
      · rw [t]
        exact List.mem_append_right _ (List.mem_singleton.mpr rfl)
    · exact List.mem_append_left _ ((h.mem s).mpr ⟨rs, sa, z, w⟩)
theorem Rim.done (so : Srt P n) {a b c : Nat} {bk : List Nat} {ahead : Nat} (o : OnE P n a b c) (h : Rim P n a b c bk b ahead) : FaceL P n a b c (b :: bk.reverse) := by
  refine ⟨List.pairwise_cons.mpr ⟨fun y hy => ((h.mem y).mp (List.mem_reverse.mp hy)).2.2.2, List.pairwise_reverse.mpr h.srt⟩, fun s => ⟨fun q => ?_, fun ⟨rs, sa, z⟩ => ?_⟩⟩
  · rcases List.mem_cons.mp q with q | q
    · rw [q]
      exact ⟨o.rb, Ne.symm o.ne.1, ic_b _ _ _⟩
    · have := (h.mem s).mp (List.mem_reverse.mp q)
      exact ⟨this.1, this.2.1, this.2.2.1⟩
  · rcases o.left so rs z with q | q | q
    · exact absurd q sa
    · rw [q]
      exact List.mem_cons_self
    · exact List.mem_cons_of_mem _ (List.mem_reverse.mpr ((h.mem s).mpr ⟨rs, sa, z, q⟩))
theorem len_le : ∀ (n : Nat) (l : List Nat), l.Nodup → (∀ x ∈ l, x < n) → l.length ≤ n
  | 0, l, _, h => by
    cases l with
    | nil => exact Nat.le_refl _
    | cons x l => exact absurd (h x List.mem_cons_self) (by omega)
  | n + 1, l, nd, h => by
    by_cases m : n ∈ l
    · have k := len_le n (l.erase n) (nd.erase n) fun x hx => by
        have := h x (List.mem_of_mem_erase hx)
        have : x ≠ n := fun e => by
          subst e
          exact (nd.not_mem_erase) hx
        omega
      have := List.length_erase_of_mem m
      omega
    · have := len_le n l nd fun x hx => by
        have := h x hx
        have : x ≠ n := fun e => m (e ▸ hx)
        omega
      omega
theorem Rim.len {a b c : Nat} {bk : List Nat} {here ahead : Nat} (h : Rim P n a b c bk here ahead) : bk.length ≤ n := by
  refine len_le n bk ?_ fun x hx => ((h.mem x).mp hx).1
  refine h.srt.imp fun q e => ?_
  rw [e, tn_abb] at q
  omega
end
/-! ### the first triangles of a new site, side by side -/
theorem snoc_ind {α : Type} {p : List α → Prop} (nil : p []) (snoc : ∀ l a, p l → p (l ++ [a])) (l : List α) : p l := by
  rw [← List.reverse_reverse l]
  induction l.reverse with
  | nil => exact nil
  | cons a r ih =>
    rw [List.reverse_cons]
    exact snoc _ _ ih
section
variable {P : Nat → Pt} {n : Nat} {O : TriF}
theorem VisP.one (so : Srt P (n + 1)) {x x' y : Nat} (v : VisP P n x y) (w : VisP P n x' y) : x = x' := by
  rcases v.sector so w with q | q | q
  · exact q
  · have := w.pos
    have e : tn (P n) (P y) (P x') = -tn (P x') (P y) (P n) := by unfold tn; grind
    omega
  · have := v.pos
    have e : tn (P n) (P y) (P x) = -tn (P x) (P y) (P n) := by unfold tn; grind
    omega
/-- on one line, a first: the nearer one is between -/
theorem ray_btw {a u v w : Pt} (z : tn a u v = 0) (h1 : 0 < tn a u w) (h2 : 0 < tn a v w) (d1 : 0 ≤ dia a u v) (d2 : 0 ≤ dia a v u) : u = v := by
  obtain ⟨a1, a2⟩ := a
  obtain ⟨u1, u2⟩ := u
  obtain ⟨v1, v2⟩ := v
  obtain ⟨w1, w2⟩ := w
  unfold tn at z h1 h2
  unfold dia at d1 d2
  simp only at *
  have e1 : u1 = a1 + (u1 - a1) := by omega
  have e2 : u2 = a2 + (u2 - a2) := by omega
  have f1 : v1 = a1 + (v1 - a1) := by omega
  have f2 : v2 = a2 + (v2 - a2) := by omega
  have g1 : w1 = a1 + (w1 - a1) := by omega
  have g2 : w2 = a2 + (w2 - a2) := by omega
  generalize u1 - a1 = p at *
  generalize u2 - a2 = q at *
  generalize v1 - a1 = r at *
  generalize v2 - a2 = s at *
  generalize w1 - a1 = x at *
  generalize w2 - a2 = y at *
  subst e1 e2 f1 f2 g1 g2
  -- d1: v.(v - u) >= 0, d2: u.(u - v) >= 0
  have c : p * s - r * q = 0 := by grind
  have k1 : 0 < p * y - x * q := by grind
  have k2 : 0 < r * y - x * s := by grind
  have m1 : 0 ≤ r * (r - p) + s * (s - q) := by grind
  have m2 : 0 ≤ p * (p - r) + q * (q - s) := by grind
  -- crs(v - u, w) has the sign of both
  have i1 : (r * (r - p) + s * (s - q)) * (r * y - x * s) = (r * r + s * s) * ((r * y - x * s) - (p * y - x * q)) := by grind
  have i2 : (p * (p - r) + q * (q - s)) * (p * y - x * q) = (p * p + q * q) * ((p * y - x * q) - (r * y - x * s)) := by grind
  have n1 := Int.mul_nonneg m1 (Int.le_of_lt k2)
  have n2 := Int.mul_nonneg m2 (Int.le_of_lt k1)
  rw [i1] at n1
  rw [i2] at n2
  have pos2 {g h : Int} (k : g ≠ 0 ∨ h ≠ 0) : 0 < g * g + h * h := by
    have a := sq_nn' g
    have b := sq_nn' h
    rcases ltge 0 (g * g + h * h) with w | w
    · exact w
    · have r0 : g * g = 0 := by omega
      have s0 : h * h = 0 := by omega
      have r0 : g = 0 := (Int.mul_eq_zero.mp r0).elim id id
      have s0 : h = 0 := (Int.mul_eq_zero.mp s0).elim id id
      omega
  have sq1 : 0 < r * r + s * s := pos2 (by
    rcases Int.decEq r 0 with g | g
    · exact .inl g
    · rcases Int.decEq s 0 with h | h
      · exact .inr h
      · rw [g, h] at k2
        omega)
  have sq2 : 0 < p * p + q * q := pos2 (by
    rcases Int.decEq p 0 with g | g
    · exact .inl g
    · rcases Int.decEq q 0 with h | h
      · exact .inr h
      · rw [g, h] at k1
        omega)
  have l1 : 0 ≤ (r * y - x * s) - (p * y - x * q) := by
    rcases ltge ((r * y - x * s) - (p * y - x * q)) 0 with g | g
    · have := Int.mul_neg_of_pos_of_neg sq1 g
      omega
    · exact g
  have l2 : 0 ≤ (p * y - x * q) - (r * y - x * s) := by
    rcases ltge ((p * y - x * q) - (r * y - x * s)) 0 with g | g
    · have := Int.mul_neg_of_pos_of_neg sq2 g
      omega
    · exact g
  have eq : (p * y - x * q) = (r * y - x * s) := by omega
  -- u = v
  have j1 : (r - p) * (p * y - x * q) = 0 := by grind
  have j2 : (s - q) * (p * y - x * q) = 0 := by grind
  have h1 : r - p = 0 := by
    rcases Int.mul_eq_zero.mp j1 with g | g
    · exact g
    · omega
  have h2 : s - q = 0 := by
    rcases Int.mul_eq_zero.mp j2 with g | g
    · exact g
    · omega
  have : p = r := by omega
  have : q = s := by omega
  subst_vars
  rfl
theorem VisP.two (so : Srt P (n + 1)) {x y y' : Nat} (v : VisP P n x y) (w : VisP P n x y') : y = y' := by
  have h1 := v.right y' w.rb
  have h2 := w.right y v.rb
  have e : tn (P x) (P y') (P y) = -tn (P x) (P y) (P y') := tn_neg _ _ _
  have z : tn (P x) (P y) (P y') = 0 := by omega
  have z' : tn (P x) (P y') (P y) = 0 := by omega
  exact so.ne (by have := v.rb; omega) (by have := w.rb; omega) (ray_btw z v.pos w.pos (v.btw _ w.rb z) (w.btw _ v.rb z'))
/-- the triangle of a side that the new site sees -/
def addV (n : Nat) (T : TriF) (e : Nat × Nat) : TriF := fun u v => if u = e.1 ∧ v = e.2 then some n else if u = n ∧ v = e.1 then some e.2 else if u = e.2 ∧ v = n then some e.1 else T u v
def addsV (n : Nat) (O : TriF) (V : List (Nat × Nat)) : TriF := V.foldl (addV n) O
theorem addsV_snoc {V : List (Nat × Nat)} {e : Nat × Nat} : addsV n O (V ++ [e]) = addV n (addsV n O V) e := by
  unfold addsV
  rw [List.foldl_append]
  rfl
theorem adds_iff (so : Srt P (n + 1)) (hO : TriT P n O) : ∀ V : List (Nat × Nat), (∀ e ∈ V, VisP P n e.1 e.2) → V.Nodup →
    ∀ x y z, addsV n O V x y = some z ↔ O x y = some z ∨ (z = n ∧ (x, y) ∈ V) ∨ (x = n ∧ (y, z) ∈ V) ∨ (y = n ∧ (z, x) ∈ V) := by
  intro V
  induction V using snoc_ind with
  | nil =>
    intro _ _ x y z
    simp [addsV]
  | snoc V e ih =>
    intro hv nd x y z
    have nd' := List.nodup_append.mp nd
    have i := ih (fun f m => hv f (List.mem_append_left _ m)) nd'.1 x y z
    have ve : VisP P n e.1 e.2 := hv e (by simp)
    have ne : e ∉ V := fun m => nd'.2.2 e m e (by simp) rfl
    have vV {a b : Nat} (m : (a, b) ∈ V) : VisP P n a b := hv (a, b) (List.mem_append_left _ m)
    have lt := ve.ra
    have lt2 := ve.rb
    have noO {c : Nat} : O e.1 e.2 ≠ some c := fun q => by
      have h1 := hO.pos q
      have h2 := ve.right c (hO.rng q).2.2
      omega
    have o1 {a b c : Nat} (q : O a b = some c) : a < n ∧ b < n ∧ c < n := hO.rng q
    rw [addsV_snoc]
    unfold addV
    simp only [List.mem_append, List.mem_singleton]
    by_cases c1 : x = e.1 ∧ y = e.2
    · rw [if_pos c1]
      obtain ⟨rfl, rfl⟩ := c1
      constructor
      · intro h
        exact .inr (.inl ⟨(Option.some.inj h).symm, .inr rfl⟩)
      · rintro (h | ⟨h, _⟩ | ⟨h, _⟩ | ⟨h, _⟩)
        · exact absurd h noO
        · rw [h]
        · omega
        · omega
    · rw [if_neg c1]
      by_cases c2 : x = n ∧ y = e.1
      · rw [if_pos c2]
        obtain ⟨rfl, rfl⟩ := c2
        constructor
        · intro h
          exact .inr (.inr (.inl ⟨rfl, .inr (by rw [← Option.some.inj h])⟩))
        · rintro (h | ⟨h, m | m⟩ | ⟨_, m | m⟩ | ⟨h, _⟩)
          · have := o1 h
            omega
          · have := (vV m).ra
            omega
          · have := congrArg Prod.fst m
            simp only at this
            omega
          · rw [ve.two so (vV m)]
          · rw [← congrArg Prod.snd m]
          · omega
      · rw [if_neg c2]
        by_cases c3 : x = e.2 ∧ y = n
        · rw [if_pos c3]
          obtain ⟨rfl, rfl⟩ := c3
          constructor
          · intro h
            exact .inr (.inr (.inr ⟨rfl, .inr (by rw [← Option.some.inj h])⟩))
          · rintro (h | ⟨h, m | m⟩ | ⟨h, _⟩ | ⟨_, m | m⟩)
            · have := o1 h
              omega
            · have := (vV m).rb
              omega
            · have := congrArg Prod.snd m
              simp only at this
              omega
            · omega
            · rw [ve.one so (vV m)]
            · rw [← congrArg Prod.fst m]
        · rw [if_neg c3, i]
          constructor
          · rintro (h | ⟨h, m⟩ | ⟨h, m⟩ | ⟨h, m⟩)
            · exact .inl h
            · exact .inr (.inl ⟨h, .inl m⟩)
            · exact .inr (.inr (.inl ⟨h, .inl m⟩))
            · exact .inr (.inr (.inr ⟨h, .inl m⟩))
          · rintro (h | ⟨h, m | m⟩ | ⟨h, m | m⟩ | ⟨h, m | m⟩)
            · exact .inl h
            · exact .inr (.inl ⟨h, m⟩)
            · exact absurd ⟨congrArg Prod.fst m, congrArg Prod.snd m⟩ c1
            · exact .inr (.inr (.inl ⟨h, m⟩))
            · exact absurd ⟨h, congrArg Prod.fst m⟩ c2
            · exact .inr (.inr (.inr ⟨h, m⟩))
            · exact absurd ⟨congrArg Prod.snd m, h⟩ c3
end
/-! ### a side of an empty circle has a corner ahead -/
theorem one_full {P : Nat → Pt} {n : Nat} {T M : TriF} {F R : List (Nat × Nat)} (so : Srt P n) (hD : Dl P n T) (hf : FlatT P T F) (h : Mrg P T M R) (hR : ∀ a b, (a, b) ∈ R ↔ (a, b) ∈ F ∨ (b, a) ∈ F) {a b c : Nat} (o : OnE P n a b c) : ∃ d, OnE P n a b d ∧ OnE P n d a b := by
  obtain ⟨d, e, z⟩ := hD.full o
  have no {v : Nat} (e2 : T b a = some v) (k : ic (P a) (P b) (P d) (P v) = 0) : False := by
    have p := hD.tri.pos e2
    rw [tns] at p
    have l := o.nxt v (hD.tri.rng e2).2.2 (by omega)
    have pd := hD.tri.pos e
    have := circ_tr (a := P a) (b := P b) (c := P d) (d := P c) (e := P v) (by omega) (by rw [ic_ex, z]; rfl) k
    omega
  have nR : (a, b) ∉ R := fun w => by
    rcases (hR a b).mp w with w | w
    · obtain ⟨c1, d1, e1, e2, k⟩ := hf.on w
      rw [e] at e1
      cases e1
      exact no e2 k
    · obtain ⟨c1, d1, e1, e2, k⟩ := hf.on w
      rw [e] at e2
      cases e2
      exact no e1 (ic_back k)
  obtain ⟨x, hx⟩ := h.has e nR
  exact ⟨x, (Mrg.final so hD hf h hR a b x).mp hx⟩
/-! ### links: a list of dicts of numbers -/
section
variable {P : Program} {w : World} {K : PySem.W.Frag} {mg : Str → Option Value} {base : Heap}
def encD (l : List (Nat × Int)) : List (L2.Key × V) := l.map fun e => (Sum.inl (e.1 : Int), .int e.2)
def look (l : List (Nat × Int)) (b : Nat) : Option Int := (l.find? fun e => decide (e.1 = b)).map (·.2)
def putN (l : List (Nat × Int)) (b : Nat) (v : Int) : List (Nat × Int) := if (l.any fun e => decide (e.1 = b)) = true then l.map (fun e => if e.1 = b then (e.1, v) else e) else l ++ [(b, v)]
def dropN (l : List (Nat × Int)) (b : Nat) : List (Nat × Int) := l.filter fun e => decide (e.1 ≠ b)
theorem inl_eq (a b : Nat) : ((Sum.inl (a : Int) : L2.Key) = Sum.inl (b : Int)) ↔ a = b := ⟨fun h => by
  have := Sum.inl.inj h
  omega, fun h => h ▸ rfl⟩
theorem look_cons (e : Nat × Int) (l : List (Nat × Int)) (b : Nat) : look (e :: l) b = if e.1 = b then some e.2 else look l b := by
  unfold look
  rw [List.find?_cons]
  by_cases h : e.1 = b
  · rw [if_pos h, decide_eq_true h]
    rfl
  · rw [if_neg h, decide_eq_false h]
theorem val_enc : ∀ (l : List (Nat × Int)) (b : Nat), valV (encD l) (Sum.inl (b : Int)) = (look l b).map V.int
  | [], _ => rfl
  | e :: l, b => by
    rw [look_cons]
    by_cases h : e.1 = b
    · rw [if_pos h]
      exact valV_pos ((inl_eq _ _).mpr h)
    · rw [if_neg h, ← val_enc l b]
      exact valV_neg fun q => h ((inl_eq _ _).mp q)
theorem any_enc (l : List (Nat × Int)) (b : Nat) : ((encD l).any fun kv => decide (kv.1 = (Sum.inl (b : Int) : L2.Key))) = l.any fun e => decide (e.1 = b) := by
  unfold encD
  rw [List.any_map]
  congr 1
  funext e
  exact decide_eq_decide.mpr (inl_eq _ _)
theorem enc_put (l : List (Nat × Int)) (b : Nat) (v : Int) : putK (encD l) (Sum.inl (b : Int)) (.int v) = encD (putN l b v) := by
  unfold putK putN
  rw [any_enc]
  split
  · unfold encD
    rw [List.map_map, List.map_map]
    refine List.map_congr_left fun e _ => ?_
    by_cases h : e.1 = b
    · simp [h]
    · have : ¬ ((e.1 : Int) = (b : Int)) := by omega
      simp [h, this]
  · unfold encD
    rw [List.map_append]
    rfl
theorem enc_drop (l : List (Nat × Int)) (b : Nat) : dropK (encD l) (Sum.inl (b : Int)) = encD (dropN l b) := by
  unfold dropK dropN encD
  rw [List.filter_map]
  congr 1
  refine List.filter_congr fun e _ => ?_
  refine decide_eq_decide.mpr (not_congr ?_)
  exact inl_eq _ _
theorem look_none : ∀ (l : List (Nat × Int)) (b : Nat), (l.any fun e => decide (e.1 = b)) = (look l b).isSome
  | [], _ => rfl
  | e :: l, b => by
    rw [look_cons, List.any_cons]
    by_cases h : e.1 = b
    · rw [if_pos h, decide_eq_true h]
      rfl
    · rw [if_neg h, decide_eq_false h, Bool.false_or]
      exact look_none l b
theorem look_app : ∀ (l : List (Nat × Int)) (b x : Nat) (v : Int), look l b = none → look (l ++ [(b, v)]) x = if x = b then some v else look l x
  | [], b, x, v, _ => by
    rw [List.nil_append, look_cons]
    by_cases h : b = x
    · rw [if_pos h, if_pos h.symm]
    · rw [if_neg h, if_neg (Ne.symm h)]
  | e :: l, b, x, v, k => by
    rw [look_cons] at k
    rw [List.cons_append, look_cons, look_cons]
    by_cases h : e.1 = b
    · rw [if_pos h] at k
      cases k
    · rw [if_neg h] at k
      rw [look_app l b x v k]
      by_cases g : e.1 = x
      · rw [if_pos g, if_pos g, if_neg (by omega)]
      · rw [if_neg g, if_neg g]
theorem look_map : ∀ (l : List (Nat × Int)) (b x : Nat) (v : Int), look (l.map fun e => if e.1 = b then (e.1, v) else e) x = if x = b then (look l x).map (fun _ => v) else look l x
  | [], b, x, v => by
    split <;> rfl
  | e :: l, b, x, v => by
    rw [List.map_cons, look_cons, look_cons, look_map l b x v]
    by_cases h : e.1 = b
    · rw [if_pos h]
      by_cases g : x = b
      · have ex : e.1 = x := by omega
        simp only [if_pos g, if_pos ex]
        rfl
      · have ex : ¬ e.1 = x := by omega
        simp only [if_neg g, if_neg ex]
    · rw [if_neg h]
      by_cases g : x = b
      · have ex : ¬ e.1 = x := by omega
        simp only [if_pos g, if_neg ex]
      · simp only [if_neg g]
theorem look_put (l : List (Nat × Int)) (b x : Nat) (v : Int) : look (putN l b v) x = if x = b then some v else look l x := by
  unfold putN
  have k := look_none l b
  split
  · rename_i h
    rw [look_map]
    by_cases g : x = b
    · rw [if_pos g, if_pos g, g]
      rw [h] at k
      cases e : look l b with
      | none =>
        rw [e] at k
        cases k
      | some w => rfl
    · rw [if_neg g, if_neg g]
  · rename_i h
    refine look_app l b x v ?_
    cases e : look l b with
    | none => rfl
    | some w =>
      rw [e] at k
      exact absurd k h
theorem look_drop : ∀ (l : List (Nat × Int)) (b x : Nat), look (dropN l b) x = if x = b then none else look l x
  | [], b, x => by split <;> rfl
  | e :: l, b, x => by
    have ih := look_drop l b x
    unfold dropN at ih ⊢
    rw [List.filter_cons, look_cons]
    by_cases h : e.1 = b
    · rw [if_neg (by simp [h]), ih]
      by_cases g : x = b
      · rw [if_pos g, if_pos g]
      · rw [if_neg g, if_neg g, if_neg (by omega)]
    · rw [if_pos (by simp [h]), look_cons, ih]
      by_cases g : e.1 = x
      · rw [if_pos g, if_neg (by omega), if_pos g]
      · rw [if_neg g]
        by_cases g2 : x = b
        · rw [if_pos g2, if_pos g2]
        · rw [if_neg g2, if_neg g2, if_neg g]
theorem keys_put (l : List (Nat × Int)) (b : Nat) (v : Int) : (putN l b v).map (·.1) = if b ∈ l.map (·.1) then l.map (·.1) else l.map (·.1) ++ [b] := by
  unfold putN
  have e : (l.any fun e => decide (e.1 = b)) = true ↔ b ∈ l.map (·.1) := by
    rw [List.any_eq_true]
    constructor
    · rintro ⟨x, hx, h⟩
      exact List.mem_map.mpr ⟨x, hx, of_decide_eq_true h⟩
    · intro h
      obtain ⟨x, hx, h⟩ := List.mem_map.mp h
      exact ⟨x, hx, decide_eq_true h⟩
  by_cases h : b ∈ l.map (·.1)
  · rw [if_pos (e.mpr h), if_pos h, List.map_map]
    refine List.map_congr_left fun x _ => ?_
    show (if x.1 = b then (x.1, v) else x).1 = x.1
    split <;> rfl
  · rw [if_neg (fun q => h (e.mp q)), if_neg h, List.map_append]
    rfl
/-- the keys of a dict: no two alike, below n -/
structure Keys (n : Nat) (l : List (Nat × Int)) : Prop where
  nod : (l.map (·.1)).Nodup
  lt : ∀ e ∈ l, e.1 < n
theorem Keys.put {n : Nat} {l : List (Nat × Int)} (h : Keys n l) {b : Nat} (hb : b < n) (v : Int) : Keys n (putN l b v) := by
  have k := keys_put l b v
  refine ⟨?_, fun e he => ?_⟩
  · rw [k]
    split
    · exact h.nod
    · rename_i q
      exact List.nodup_append.mpr ⟨h.nod, by simp, fun x hx y hy e => q (by
        rw [List.mem_singleton.mp hy] at e
        exact e ▸ hx)⟩
  · have m : e.1 ∈ (putN l b v).map (·.1) := List.mem_map.mpr ⟨e, he, rfl⟩
    have all : ∀ x ∈ l.map (·.1), x < n := fun x hx => by
      obtain ⟨y, hy, q⟩ := List.mem_map.mp hx
      exact q ▸ h.lt y hy
    rw [k] at m
    split at m
    · exact all _ m
    · rcases List.mem_append.mp m with q | q
      · exact all _ q
      · rw [List.mem_singleton.mp q]
        exact hb
theorem Keys.drop {n : Nat} {l : List (Nat × Int)} (h : Keys n l) (b : Nat) : Keys n (dropN l b) :=
  ⟨h.nod.sublist (List.filter_sublist.map _), fun e he => h.lt e (List.mem_filter.mp he).1⟩
theorem Keys.len {n : Nat} {l : List (Nat × Int)} (h : Keys n l) : (encD l).length ≤ n := by
  have := len_le n (l.map (·.1)) h.nod fun x hx => by
    obtain ⟨y, hy, q⟩ := List.mem_map.mp hx
    exact q ▸ h.lt y hy
  rw [List.length_map] at this
  unfold encD
  rw [List.length_map]
  exact this
/-- links: the list at p of the dicts at A -/
structure Lk (H : Hp) (p : Addr) (A : List Addr) (D : Nat → List (Nat × Int)) : Prop where
  at_ : H p = some (.lst (A.map V.ref))
  nod : A.Nodup
  few : A.length ≤ 300
  each : ∀ i a, A[i]? = some a → H a = some (.dK (encD (D i)))
  key : ∀ i, i < A.length → Keys A.length (D i)
def setD (D : Nat → List (Nat × Int)) (i : Nat) (l : List (Nat × Int)) : Nat → List (Nat × Int) := fun j => if j = i then l else D j
theorem Lk.set {H : Hp} {p a : Addr} {A : List Addr} {D : Nat → List (Nat × Int)} (h : Lk H p A D) {i : Nat} (e : A[i]? = some a) {l : List (Nat × Int)} (k : Keys A.length l) : Lk (upd H a (.dK (encD l))) p A (setD D i l) := by
  refine ⟨?_, h.nod, h.few, fun j b q => ?_, fun j hj => ?_⟩
  · have := h.each i a e
    have pa : p ≠ a := fun w => by
      have q := h.at_
      rw [w, this] at q
      cases q
    rw [upd_ne pa]
    exact h.at_
  · unfold setD
    by_cases c : j = i
    · subst c
      rw [e] at q
      cases q
      rw [if_pos rfl, upd_same]
    · rw [if_neg c, upd_ne fun w => c ?_]
      · exact h.each j b q
      · subst w
        have hj := (List.getElem?_eq_some_iff.mp q).1
        exact (List.getElem?_inj hj h.nod).mp (q.trans e.symm)
  · unfold setD
    split
    · exact k
    · exact h.key j hj
/-- all that isn't at A stays -/
def OffA (A : List Addr) (H H' : Hp) : Prop := ∀ x o, x ∉ A → H x = some o → H' x = some o
theorem OffA.refl {A : List Addr} {H : Hp} : OffA A H H := fun _ _ _ h => h
theorem OffA.trans {A : List Addr} {H H1 H2 : Hp} (h : OffA A H H1) (k : OffA A H1 H2) : OffA A H H2 := fun x o n e => k x o n (h x o n e)
theorem OffA.same {A : List Addr} {H H' : Hp} (h : Same H H') : OffA A H H' := fun x o _ e => h x o e
theorem OffA.put {A : List Addr} {H : Hp} {a : Addr} {o : HO} (m : a ∈ A) : OffA A H (L2.upd H a o) := fun x _ n e => by
  have xa : x ≠ a := fun w => n (by
    rw [w]
    exact m)
  rw [upd_ne xa]
  exact e
theorem Lk.same {H H' : Hp} {p : Addr} {A : List Addr} {D : Nat → List (Nat × Int)} (h : Lk H p A D) (s : Same H H') : Lk H' p A D := ⟨s _ _ h.at_, h.nod, h.few, fun i a e => s _ _ (h.each i a e), h.key⟩
/-- what the dicts say -/
def IsT (D : Nat → List (Nat × Int)) (n : Nat) (T : TriF) : Prop := ∀ x y, x < n → look (D x) y = Option.map (fun (c : Nat) => (c : Int)) (T x y)
end
/-! ### an edge is flipped -/
section
variable {P : Program} {w : World} {K : PySem.W.Frag} {mg : Str → Option Value} {base : Heap}
theorem look_setP {D : Nat → List (Nat × Int)} {i b : Nat} {v : Int} (x y : Nat) : look (setD D i (putN (D i) b v) x) y = if x = i ∧ y = b then some v else look (D x) y := by
  unfold setD
  by_cases h : x = i
  · subst h
    rw [if_pos rfl, look_put]
    by_cases g : y = b
    · rw [if_pos g, if_pos ⟨rfl, g⟩]
    · rw [if_neg g, if_neg fun w => g w.2]
  · rw [if_neg h, if_neg fun w => h w.1]
theorem look_setR {D : Nat → List (Nat × Int)} {i b : Nat} (x y : Nat) : look (setD D i (dropN (D i) b) x) y = if x = i ∧ y = b then none else look (D x) y := by
  unfold setD
  by_cases h : x = i
  · subst h
    rw [if_pos rfl, look_drop]
    by_cases g : y = b
    · rw [if_pos g, if_pos ⟨rfl, g⟩]
    · rw [if_neg g, if_neg fun w => g w.2]
  · rw [if_neg h, if_neg fun w => h w.1]
theorem Lk.dput {H : Hp} {p a : Addr} {A : List Addr} {D : Nat → List (Nat × Int)} (h : Lk H p A D) {i b : Nat} (e : A[i]? = some a) (v : Int) : DPut H a (.int b) (.int v) (L2.upd H a (.dK (encD (putN (D i) b v)))) := by
  have li := (List.getElem?_eq_some_iff.mp e).1
  have z := DPut.k (k := Sum.inl (b : Int)) (v := .int v) (h.each i a e) (Nat.lt_of_le_of_lt (h.key i li).len (Nat.lt_of_le_of_lt h.few (by decide)))
  rw [enc_put] at z
  exact z
theorem Lk.putA {H : Hp} {p a : Addr} {A : List Addr} {D : Nat → List (Nat × Int)} (h : Lk H p A D) {i b : Nat} (e : A[i]? = some a) (hb : b < A.length) (v : Int) : Lk (L2.upd H a (.dK (encD (putN (D i) b v)))) p A (setD D i (putN (D i) b v)) :=
  h.set e ((h.key i (List.getElem?_eq_some_iff.mp e).1).put hb v)
theorem Lk.dropA {H : Hp} {p a : Addr} {A : List Addr} {D : Nat → List (Nat × Int)} (h : Lk H p A D) {i b : Nat} (e : A[i]? = some a) : Lk (L2.upd H a (.dK (dropK (encD (D i)) (Sum.inl (b : Int))))) p A (setD D i (dropN (D i) b)) := by
  rw [enc_drop]
  exact h.set e ((h.key i (List.getElem?_eq_some_iff.mp e).1).drop b)
theorem val_some {l : List (Nat × Int)} {b : Nat} {v : Int} (h : look l b = some v) : (valV (encD l) (Sum.inl (b : Int))).isSome = true := by
  rw [val_enc, h]
  rfl
theorem turned {D D1 D2 D3 D4 D5 D6 D7 D8 : Nat → List (Nat × Int)} {n : Nat} {T : TriF} {a b c t : Nat} (hT : IsT D n T) (ab : a ≠ b) (ac : a ≠ c) (at_ : a ≠ t) (bc : b ≠ c) (bt : b ≠ t) (ct : c ≠ t) (h1 : D1 = setD D a (dropN (D a) b)) (h2 : D2 = setD D1 b (dropN (D1 b) a)) (h3 : D3 = setD D2 t (putN (D2 t) a c)) (h4 : D4 = setD D3 a (putN (D3 a) c t))
    (h5 : D5 = setD D4 c (putN (D4 c) t a)) (h6 : D6 = setD D5 t (putN (D5 t) c b)) (h7 : D7 = setD D6 c (putN (D6 c) b t)) (h8 : D8 = setD D7 b (putN (D7 b) t c)) : IsT D8 n (flip T t a b c) := fun x y hx => by
  rw [h8, look_setP, h7, look_setP, h6, look_setP, h5, look_setP, h4, look_setP, h3, look_setP, h2, look_setR, h1, look_setR, hT x y hx]
  unfold flip
  repeat' split
  all_goals first
    | rfl
    | omega
abbrev s_turn_over : Stmt := topS 20
abbrev n_turn_over : List Str := ["links", "a", "b", "c", "at", "of_a", "of_b", "of_c", "near"]
theorem c_turn_over : FnScope n_turn_over ["links", "a", "b", "c", "at"] (defScope s_turn_over) := ⟨rfl, rfl, rfl, by decide +kernel, rfl, by decide +kernel, by decide +kernel⟩
def p_turn_over : Sp := fun vs H Q _ => ∃ (p : Addr) (A : List Addr) (D : Nat → List (Nat × Int)) (T : TriF) (a b c t : Nat), vs = [.ref p, .int a, .int b, .int c, .int t] ∧ Lk H p A D ∧ IsT D A.length T ∧ (a < A.length ∧ b < A.length ∧ c < A.length ∧ t < A.length) ∧ (a ≠ b ∧ a ≠ c ∧ a ≠ t ∧ b ≠ c ∧ b ≠ t ∧ c ≠ t) ∧ (∃ u, T a b = some u) ∧ (∃ u, T b a = some u) ∧
  ∀ H' D', Lk H' p A D' → IsT D' A.length (flip T t a b c) → OffA A H H' → Q .non H'
set_option pp.maxSteps 300 in
theorem ok_turn_over  (D : Df K mg "turn_over" s_turn_over ["links", "a", "b", "c", "at"]) : Cl P w K mg base CX0 "turn_over" 1 ["links", "a", "b", "c", "at"] (p_turn_over) := by
  refine D.cl fun f fd F => F.ok c_turn_over (fun vs H Q E h => ?_) (fun cdv A outer s H vs Q E hr h => ?_)
  · obtain ⟨p, A, D, T, a, b, c, t, rfl, hl, hT, ⟨la, lb, lc, lt⟩, ⟨ab, ac, at_, bc, bt, ct⟩, ⟨u1, t1⟩, ⟨u2, t2⟩, q⟩ := h
    rfl
  · obtain ⟨p, A, D, T, a, b, c, t, rfl, hl, hT, ⟨la, lb, lc, lt⟩, ⟨ab, ac, at_, bc, bt, ct⟩, ⟨u1, t1⟩, ⟨u2, t2⟩, q⟩ := h
    have nd := c_turn_over.nd
    have hu : _ := hu_of hr
    refine ⟨_, (pss_cons (ps_asg (pe_tupG (pa_cons (pe_ix ix_list (pv 0) (pv 1) (fun _ _ => rfl)) (pa_cons (pe_ix ix_list (pv 0) (pv 2) (fun _ _ => rfl)) (pa_cons (pe_ix ix_list (pv 0) (pv 3) (fun _ _ => rfl)) (pa_cons (pe_ix ix_list (pv 0) (pv 4) (fun _ _ => rfl)) pa_nil))))) (pg_tup (by rfl) (pgs_cons (pg_name (i := 5) nd rfl (.inl rfl)) (pgs_cons (pg_name (i := 6) nd rfl (.inl rfl)) (pgs_cons (pg_name (i := 7) nd rfl (.inl rfl)) (pgs_cons (pg_name (i := 8) nd rfl (.inl rfl)) pgs_nil)))))) (pss_cons (ps_del2 (pv 5) (pv 2) (pv 6) (pv 1)) (pss_cons (ps_asg (pe_tupG (pa_cons (pv 3) (pa_cons (pv 4) (pa_cons (pv 1) pa_nil)))) (pg_tup (by rfl) (pgs_cons (pg_sub (pv 8) (pv 1) (L2.set_dict hu)) (pgs_cons (pg_sub (pv 5) (pv 3) (L2.set_dict hu)) (pgs_cons (pg_sub (pv 7) (pv 4) (L2.set_dict hu)) pgs_nil))))) (pss_one (ps_asg (pe_tupG (pa_cons (pv 2) (pa_cons (pv 4) (pa_cons (pv 3) pa_nil)))) (pg_tup (by rfl) (pgs_cons (pg_sub (pv 8) (pv 3) (L2.set_dict hu)) (pgs_cons (pg_sub (pv 7) (pv 2) (L2.set_dict hu)) (pgs_cons (pg_sub (pv 6) (pv 4) (L2.set_dict hu)) pgs_nil))))))))), ?_⟩
    obtain ⟨pa, ea⟩ : ∃ x, A[a]? = some x := ⟨_, List.getElem?_eq_getElem la⟩
    obtain ⟨pb, eb⟩ : ∃ x, A[b]? = some x := ⟨_, List.getElem?_eq_getElem lb⟩
    obtain ⟨pc, ec⟩ : ∃ x, A[c]? = some x := ⟨_, List.getElem?_eq_getElem lc⟩
    obtain ⟨pt, et⟩ : ∃ x, A[t]? = some x := ⟨_, List.getElem?_eq_getElem lt⟩
    have ref {i : Nat} {x : Addr} (e : A[i]? = some x) : atI (A.map V.ref) (i : Int) = some (.ref x) := atI_nat (by rw [List.getElem?_map, e]; rfl)
    have mem {i : Nat} {x : Addr} (e : A[i]? = some x) : x ∈ A := List.mem_of_getElem? e
    repeat array_get_dec
    refine ⟨p, _, _, _, rfl, rfl, SqL.of hl.at_, ref ea, ?_⟩
    repeat array_get_dec
    refine ⟨p, _, _, _, rfl, rfl, SqL.of hl.at_, ref eb, ?_⟩
    repeat array_get_dec
    refine ⟨p, _, _, _, rfl, rfl, SqL.of hl.at_, ref ec, ?_⟩
    repeat array_get_dec
    refine ⟨p, _, _, _, rfl, rfl, SqL.of hl.at_, ref et, ?_⟩
    repeat array_get_dec
    refine fun p1 H1 s1 n1 e1 => ?_
    repeat array_get_dec
    have l1 := hl.same s1
    have d1 := l1.dropA (b := b) ea
    have d2 := d1.dropA (b := a) eb
    refine ⟨pa, _, Sum.inl (b : Int), rfl, l1.each a pa ea, rfl, val_some (by rw [hT a b la, t1]; rfl), ?_⟩
    repeat array_get_dec
    refine ⟨pb, _, Sum.inl (a : Int), rfl, d1.each b pb eb, rfl, val_some (by rw [look_setR, if_neg (by omega), hT b a lb, t2]; rfl), ?_⟩
    repeat array_get_dec
    refine fun p2 H2 s2 n2 e2 => ?_
    have l2 := d2.same s2
    have k1 := l2.putA et la c
    have k2 := k1.putA ea lc t
    have k3 := k2.putA ec lt a
    repeat array_get_dec
    refine ⟨pt, _, rfl, l2.dput et c, ?_⟩
    repeat array_get_dec
    refine ⟨pa, _, rfl, k1.dput ea t, ?_⟩
    repeat array_get_dec
    refine ⟨pc, _, rfl, k2.dput ec a, ?_⟩
    repeat array_get_dec
    refine fun p3 H3 s3 n3 e3 => ?_
    have l3 := k3.same s3
    have m1 := l3.putA et lc b
    have m2 := m1.putA ec lb t
    have m3 := m2.putA eb lt c
    repeat array_get_dec
    refine ⟨pt, _, rfl, l3.dput et b, ?_⟩
    repeat array_get_dec
    refine ⟨pc, _, rfl, m1.dput ec t, ?_⟩
    repeat array_get_dec
    refine ⟨pb, _, rfl, m2.dput eb c, ?_⟩
    have isT := turned hT ab ac at_ bc bt ct rfl rfl rfl rfl rfl rfl rfl rfl
    have z := q _ _ m3 isT ((OffA.same s1).trans ((OffA.put (mem ea)).trans ((OffA.put (mem eb)).trans ((OffA.same s2).trans ((OffA.put (mem et)).trans ((OffA.put (mem ea)).trans ((OffA.put (mem ec)).trans ((OffA.same s3).trans ((OffA.put (mem et)).trans ((OffA.put (mem ec)).trans (OffA.put (mem eb))))))))))))
    first | exact z | (repeat array_get_dec; exact z) | (trace_state; sorry)
end
/-! ### edges that are flat: a dict whose keys are pairs of numbers -/
section
variable {P : Program} {w : World} {K : PySem.W.Frag} {mg : Str → Option Value} {base : Heap}
def k2 (q : Nat × Nat) : List L2.Key := [Sum.inl (q.1 : Int), Sum.inl (q.2 : Int)]
def encF (l : List (Nat × Nat)) : List (List L2.Key × V) := l.map fun q => (k2 q, .bl true)
theorem k2_inj (a b : Nat × Nat) : k2 a = k2 b ↔ a = b := ⟨fun h => by
  unfold k2 at h
  have h1 := List.cons.inj h
  have h2 := List.cons.inj h1.2
  have e1 := Sum.inl.inj h1.1
  have e2 := Sum.inl.inj h2.1
  exact Prod.ext (by omega) (by omega), fun h => h ▸ rfl⟩
theorem valF (l : List (Nat × Nat)) (q : Nat × Nat) : valV (encF l) (k2 q) = if q ∈ l then some (.bl true) else none := by
  induction l with
  | nil => rfl
  | cons e l ih =>
    by_cases h : e = q
    · rw [if_pos (by rw [h]; exact List.mem_cons_self)]
      exact valV_pos ((k2_inj _ _).mpr h)
    · have z : valV (encF (e :: l)) (k2 q) = valV (encF l) (k2 q) := valV_neg fun w => h ((k2_inj _ _).mp w)
      rw [z, ih]
      by_cases g : q ∈ l
      · rw [if_pos g, if_pos (List.mem_cons_of_mem _ g)]
      · rw [if_neg g, if_neg fun w => (List.mem_cons.mp w).elim (fun e => h e.symm) g]
theorem dropF (l : List (Nat × Nat)) (q : Nat × Nat) : dropK (encF l) (k2 q) = encF (l.filter fun e => decide (e ≠ q)) := by
  unfold dropK encF
  rw [List.filter_map]
  congr 1
  refine List.filter_congr fun e _ => ?_
  refine decide_eq_decide.mpr (not_congr ?_)
  exact k2_inj _ _
/-- flat edges: the dict at F -/
def FlatAt (H : Hp) (F : Addr) (fl : List (Nat × Nat)) : Prop := H F = some (.dT (encF fl))
abbrev s_take_out : Stmt := topS 21
abbrev n_take_out : List Str := ["flat", "a", "b"]
theorem c_take_out : FnScope n_take_out ["flat", "a", "b"] (defScope s_take_out) := ⟨rfl, rfl, rfl, by decide +kernel, rfl, by decide +kernel, by decide +kernel⟩
def p_take_out : Sp := fun vs H Q _ => ∃ (F : Addr) (fl : List (Nat × Nat)) (a b : Nat), vs = [.ref F, .int a, .int b] ∧ FlatAt H F fl ∧ ((a, b) ∈ fl → (b, a) ∉ fl) ∧
  ∀ H' fl', FlatAt H' F fl' → (∀ q, q ∈ fl' ↔ q ∈ fl ∧ q ≠ (a, b) ∧ q ≠ (b, a)) → (fl.Nodup → fl'.Nodup) → OffA [F] H H' → Q (.bl (decide ((a, b) ∈ fl ∨ (b, a) ∈ fl))) H'
set_option pp.maxSteps 300 in
theorem ok_take_out  (D : Df K mg "take_out" s_take_out ["flat", "a", "b"]) : Cl P w K mg base CX0 "take_out" 1 ["flat", "a", "b"] (p_take_out) := by
  refine D.cl fun f fd F => F.ok c_take_out (fun vs H Q E h => ?_) (fun cdv A outer s H vs Q E hr h => ?_)
  · obtain ⟨F, fl, a, b, rfl, hF, one, q⟩ := h
    rfl
  · obtain ⟨F, fl, a, b, rfl, hF, one, q⟩ := h
    have nd := c_take_out.nd
    have hu : _ := hu_of hr
    refine ⟨_, (pss_one (ps_ret (pe_or (pe_dpopT hu (pv 0) (pe_tupG (pa_cons (pv 1) (pa_cons (pv 2) pa_nil))) pe_bl ⟨by rfl, by rfl, by rfl, by rfl⟩) (pe_one (pe_dpopT hu (pv 0) (pe_tupG (pa_cons (pv 2) (pa_cons (pv 1) pa_nil))) pe_bl ⟨by rfl, by rfl, by rfl, by rfl⟩))))), ?_⟩
    have off {H1 : Hp} (s1 : Same H H1) (o : HO) : OffA [F] H (L2.upd H1 F o) := (OffA.same s1).trans (OffA.put (List.mem_singleton.mpr rfl))
    repeat array_get_dec
    refine ⟨.inr ⟨_, .inl hF⟩, ?_⟩
    repeat array_get_dec
    refine fun p1 H1 s1 n1 e1 => ?_
    refine ⟨encF fl, k2 (a, b), p1, s1 _ _ hF, rfl, e1, fun v hv => ?_, fun hn => ?_⟩
    · by_cases m : (a, b) ∈ fl
      case neg =>
        rw [valF, if_neg m] at hv
        cases hv
      rw [valF, if_pos m] at hv
      cases hv
      refine ⟨true, rfl, ?_⟩
      rw [if_pos rfl]
      have z := q (L2.upd H1 F (.dT (dropK (encF fl) (k2 (a, b))))) (fl.filter fun e => decide (e ≠ (a, b))) (by
        unfold FlatAt
        rw [upd_same, dropF]) (fun e => by
        rw [List.mem_filter, decide_eq_true_iff]
        refine and_congr_right fun me => ⟨fun w => ⟨w, fun w2 => one m (w2 ▸ me)⟩, fun w => w.1⟩) (fun nd => nd.sublist List.filter_sublist) (off s1 _)
      rw [decide_eq_true (.inl m)] at z
      exact z
    · by_cases m : (a, b) ∈ fl
      case pos =>
        rw [valF, if_pos m] at hn
        cases hn
      refine ⟨false, rfl, ?_⟩
      rw [if_neg Bool.false_ne_true]
      repeat array_get_dec
      refine ⟨.inr ⟨_, .inl (s1 _ _ hF)⟩, ?_⟩
      repeat array_get_dec
      refine fun p2 H2 s2 n2 e2 => ?_
      have s12 := s1.trans s2
      refine ⟨encF fl, k2 (b, a), p2, s12 _ _ hF, rfl, e2, fun v hv => ?_, fun hn => ?_⟩
      · by_cases m2 : (b, a) ∈ fl
        case neg =>
          rw [valF, if_neg m2] at hv
          cases hv
        rw [valF, if_pos m2] at hv
        cases hv
        have z := q (L2.upd H2 F (.dT (dropK (encF fl) (k2 (b, a))))) (fl.filter fun e => decide (e ≠ (b, a))) (by
          unfold FlatAt
          rw [upd_same, dropF]) (fun e => by
          rw [List.mem_filter, decide_eq_true_iff]
          refine and_congr_right fun me => ⟨fun w => ⟨fun w2 => m (w2 ▸ me), w⟩, fun w => w.2⟩) (fun nd => nd.sublist List.filter_sublist) (off s12 _)
        rw [decide_eq_true (.inr m2)] at z
        exact z
      · by_cases m2 : (b, a) ∈ fl
        case pos =>
          rw [valF, if_pos m2] at hn
          cases hn
        have z := q H2 fl (s12 _ _ hF) (fun e => ⟨fun me => ⟨me, fun w2 => m (w2 ▸ me), fun w2 => m2 (w2 ▸ me)⟩, fun w => w.1⟩) id (OffA.same s12)
        rw [decide_eq_false (fun w => w.elim m m2)] at z
        exact z
end
/-! ### one more flat edge; how many there are -/
section
variable {P : Program} {w : World} {K : PySem.W.Frag} {mg : Str → Option Value} {base : Heap}
theorem putF (l : List (Nat × Nat)) (q : Nat × Nat) : putK (encF l) (k2 q) (.bl true) = encF (if q ∈ l then l else l ++ [q]) := by
  unfold putK
  rw [valV_any, valF]
  by_cases m : q ∈ l
  · rw [if_pos m, if_pos m, if_pos (by rfl)]
    unfold encF
    rw [List.map_map]
    refine List.map_congr_left fun e _ => ?_
    show (if k2 e = k2 q then (k2 e, L2.V.bl true) else (k2 e, L2.V.bl true)) = _
    split <;> rfl
  · rw [if_neg m, if_neg m, if_neg (by decide)]
    unfold encF
    rw [List.map_append]
    rfl
theorem pairs_len {N : Nat} {l : List (Nat × Nat)} (nd : l.Nodup) (h : ∀ e ∈ l, e.1 < N ∧ e.2 < N) : l.length ≤ N * N := by
  have z := len_le (N * N) (l.map fun e => e.1 * N + e.2) (List.pairwise_map.mpr (nd.imp_of_mem fun {a b} ha hb ne e => by
    have h1 := h a ha
    have h2 := h b hb
    have one : a.1 = b.1 := by
      rcases Nat.lt_trichotomy a.1 b.1 with q | q | q
      · have := Nat.mul_le_mul_right N (show a.1 + 1 ≤ b.1 from q)
        rw [Nat.add_mul] at this
        omega
      · exact q
      · have := Nat.mul_le_mul_right N (show b.1 + 1 ≤ a.1 from q)
        rw [Nat.add_mul] at this
        omega
    rw [one] at e
    exact ne (Prod.ext one (by omega)))) fun x hx => by
    obtain ⟨e, he, q⟩ := List.mem_map.mp hx
    have k := h e he
    have := Nat.mul_le_mul_right N (show e.1 + 1 ≤ N from k.1)
    rw [Nat.add_mul] at this
    omega
  rw [List.length_map] at z
  exact z
/-- how many triangles there are without the new site, thrice -/
def oldN (T : TriF) (n : Nat) : Nat := (((List.range n).flatMap fun a => (List.range n).map fun b => (a, b)).filter fun q => match T q.1 q.2 with
  | some c => decide (c < n)
  | none => false).length
/-- a flip takes a triangle away -/
theorem old_flip {T : TriF} {n a b c : Nat} (an : a < n) (bn : b < n) (cn : c < n) (e : T b a = some c) : oldN (flip T n a b c) n < oldN T n := by
  unfold oldN
  refine len_lt _ _ _ (fun q hq h => ?_) ⟨(b, a), List.mem_flatMap.mpr ⟨b, List.mem_range.mpr bn, List.mem_map.mpr ⟨a, List.mem_range.mpr an, rfl⟩⟩, ?_, ?_⟩
  · obtain ⟨x, hx, hy⟩ := List.mem_flatMap.mp hq
    obtain ⟨y, hy2, rfl⟩ := List.mem_map.mp hy
    have xl := List.mem_range.mp hx
    have yl := List.mem_range.mp hy2
    simp only at h ⊢
    unfold flip at h
    by_cases k1 : (x = a ∧ y = b) ∨ (x = b ∧ y = a)
    · rw [if_pos k1] at h
      cases h
    · rw [if_neg k1, if_neg (by omega)] at h
      by_cases k2 : x = a ∧ y = c
      · rw [if_pos k2] at h
        simp at h
      · rw [if_neg k2, if_neg (by omega), if_neg (by omega)] at h
        by_cases k3 : x = c ∧ y = b
        · rw [if_pos k3] at h
          simp at h
        · rw [if_neg k3, if_neg (by omega)] at h
          exact h
  · simp only [e]
    exact decide_eq_true cn
  · show (match flip T n a b c b a with | some c => decide (c < n) | none => false) = false
    unfold flip
    rw [if_pos (Or.inr (And.intro (Eq.refl b) (Eq.refl a)))]
end
/-! ### sides are flipped until no circle has the new site inside -/
section
variable {P : Program} {w : World} {K : PySem.W.Frag} {mg : Str → Option Value} {base : Heap}
/-- pairs of numbers in the heap -/
def PrAt (H : Hp) (us : List Addr) (es : List (Nat × Nat)) : Prop := us.length = es.length ∧ ∀ (i : Nat) (u : Addr) (e : Nat × Nat), us[i]? = some u → es[i]? = some e → H u = some (.tup [.int (e : Nat × Nat).1, .int (e : Nat × Nat).2])
/-- the rows: sites at ts, f the pairs there -/
structure RowsAt (H : Hp) (R : Addr) (ts : List Addr) (f : Nat → Pt) : Prop where
  at_ : H R = some (.lst (ts.map V.ref))
  each : ∀ i t, ts[i]? = some t → Sit H t (f i).1 (f i).2 ∧ Bd 1000000 (f i).1 (f i).2
/-- what stands while sides are flipped -/
structure Stg (H : Hp) (R p F h : Addr) (ts A : List Addr) (pt : Nat → Pt) (n : Nat) (O T : TriF) (D : Nat → List (Nat × Int)) (fl sd : List (Nat × Nat)) (us : List Addr) : Prop where
  rows : RowsAt H R ts pt
  len : ts.length = A.length
  lk : Lk H p A D
  isT : IsT D A.length T
  fat : FlatAt H F fl
  fnd : fl.Nodup
  hat : H h = some (.lst (us.map V.ref))
  prs : PrAt H us sd
  mid : Mid pt n O T sd
  midF : MidF pt n O T sd fl
  low : n < A.length
  ne : R ≠ h ∧ p ≠ h
theorem PrAt.keep0 {H H' : Hp} {us : List Addr} {sd : List (Nat × Nat)} (h : PrAt H us sd) (s : Same H H') : PrAt H' us sd := ⟨h.1, fun i u e hu he => s _ _ (h.2 i u e hu he)⟩
theorem Stg.same {H H' : Hp} {R p F h : Addr} {ts A : List Addr} {pt : Nat → Pt} {n : Nat} {O T : TriF} {D : Nat → List (Nat × Int)} {fl sd : List (Nat × Nat)} {us : List Addr} (k : Stg H R p F h ts A pt n O T D fl sd us) (s : Same H H') : Stg H' R p F h ts A pt n O T D fl sd us :=
  ⟨⟨s _ _ k.rows.at_, fun i t e => ⟨(k.rows.each i t e).1.same s, (k.rows.each i t e).2⟩⟩, k.len, k.lk.same s, k.isT, s _ _ k.fat, k.fnd, s _ _ k.hat, k.prs.keep0 s, k.mid, k.midF, k.low, k.ne⟩
theorem PrAt.snoc_inv {H : Hp} {us : List Addr} {u : Addr} {es : List (Nat × Nat)} (h : PrAt H (us ++ [u]) es) : ∃ sd a b, es = sd ++ [(a, b)] ∧ PrAt H us sd ∧ H u = some (.tup [.int (a : Nat), .int (b : Nat)]) := by
  obtain ⟨hl, he⟩ := h
  rw [List.length_append] at hl
  rcases List.eq_nil_or_concat es with rfl | ⟨sd, e, rfl⟩
  · simp at hl
  have l2 : us.length = sd.length := by
    simp at hl
    exact hl
  refine ⟨sd, e.1, e.2, by simp, ⟨l2, fun i x y hx hy => ?_⟩, ?_⟩
  · have i1 := (List.getElem?_eq_some_iff.mp hx).1
    have i2 := (List.getElem?_eq_some_iff.mp hy).1
    exact he i x y (by rw [List.getElem?_append_left i1]; exact hx) (by rw [List.concat_eq_append, List.getElem?_append_left i2]; exact hy)
  · exact he us.length u e (by simp) (by rw [List.concat_eq_append, l2]; simp)
theorem PrAt.snoc {H : Hp} {us : List Addr} {u : Addr} {sd : List (Nat × Nat)} {a b : Nat} (h : PrAt H us sd) (e : H u = some (.tup [.int a, .int b])) : PrAt H (us ++ [u]) (sd ++ [(a, b)]) := by
  refine ⟨by rw [List.length_append, List.length_append, h.1]; rfl, fun i x y hx hy => ?_⟩
  rcases Nat.lt_trichotomy i us.length with q | q | q
  · rw [List.getElem?_append_left q] at hx
    rw [List.getElem?_append_left (by rw [← h.1]; exact q)] at hy
    exact h.2 i x y hx hy
  · subst q
    have ex : u = x := by simpa using hx
    have ey : (a, b) = y := by
      rw [h.1] at hy
      simpa using hy
    subst ex ey
    exact e
  · rw [List.getElem?_eq_none (by rw [List.length_append]; simp; omega)] at hx
    cases hx
theorem PrAt.keep {H H' : Hp} {us : List Addr} {sd : List (Nat × Nat)} (h : PrAt H us sd) (k : ∀ u xs, H u = some (.tup xs) → H' u = some (.tup xs)) : PrAt H' us sd := ⟨h.1, fun i u e hu he => k u _ (h.2 i u e hu he)⟩
/-- all that isn't at A stays, also what isn't there -/
def OffB (A : List Addr) (H H' : Hp) : Prop := OffA A H H'
theorem Lk.lst {H : Hp} {p h : Addr} {A : List Addr} {D : Nat → List (Nat × Int)} {xs ys : List L2.V} (k : Lk H p A D) (n : p ≠ h) (e : H h = some (.lst xs)) : Lk (L2.upd H h (.lst ys)) p A D := by
  refine ⟨by rw [upd_ne n]; exact k.at_, k.nod, k.few, fun i a ea => ?_, k.key⟩
  have z := k.each i a ea
  have ah : a ≠ h := fun w => by
    rw [w, e] at z
    cases z
  rw [upd_ne ah]
  exact z
theorem RowsAt.lst {H : Hp} {R h : Addr} {ts : List Addr} {f : Nat → Pt} {xs ys : List L2.V} (k : RowsAt H R ts f) (n : R ≠ h) (e : H h = some (.lst xs)) : RowsAt (L2.upd H h (.lst ys)) R ts f := by
  refine ⟨by rw [upd_ne n]; exact k.at_, fun i t et => ?_⟩
  have z := k.each i t et
  have th : t ≠ h := fun w => by
    have z1 : H t = some (.tup [.int (f i).1, .int (f i).2]) := z.1
    rw [w, e] at z1
    cases z1
  refine ⟨?_, z.2⟩
  show L2.upd H h _ t = _
  rw [upd_ne th]
  exact z.1
theorem FlatAt.lst {H : Hp} {F h : Addr} {fl : List (Nat × Nat)} {xs ys : List L2.V} (k : FlatAt H F fl) (e : H h = some (.lst xs)) : FlatAt (L2.upd H h (.lst ys)) F fl := by
  have k1 : H F = some (.dT (encF fl)) := k
  have n : F ≠ h := fun w => by
    rw [w, e] at k1
    cases k1
  unfold FlatAt
  rw [upd_ne n]
  exact k1
theorem tup_lst {H : Hp} {h u : Addr} {xs ys zs : List L2.V} (e : H h = some (.lst xs)) (k : H u = some (.tup zs)) : L2.upd H h (.lst ys) u = some (.tup zs) := by
  have n : u ≠ h := fun w => by
    rw [w, e] at k
    cases k
  rw [upd_ne n]
  exact k
theorem if_t {A B : Prop} {b : Bool} (e : b = true) (h : A) : if b = true then A else B := by
  rw [if_pos e]
  exact h
theorem or_path {A B E : Prop} {p : Bool} (a : A) (e : p = false → A → E) : if p = true then (if true = true then A else B) else E := by
  cases p with
  | true =>
    rw [if_pos rfl, if_pos rfl]
    exact a
  | false =>
    rw [if_neg (by decide)]
    exact e rfl a
theorem if_f {A B : Prop} {b : Bool} (e : b = false) (h : B) : if b = true then A else B := by
  rw [if_neg (by rw [e]; decide)]
  exact h
theorem upd_o {H : Hp} {x y : Addr} {o' o v : HO} (e : H x = some o') (k : H y = some o) (ne : o ≠ o') : L2.upd H x v y = some o := by
  rw [upd_ne (fun w => ne (by rw [w, e] at k; exact (Option.some.inj k).symm))]
  exact k
/-- all but dicts of pairs stays -/
def KpD (H H' : Hp) : Prop := ∀ x o, (∀ kvs, o ≠ .dT kvs) → H x = some o → H' x = some o
/-- all but dicts of numbers stays -/
def KpK (H H' : Hp) : Prop := ∀ x o, (∀ kvs, o ≠ .dK kvs) → H x = some o → H' x = some o
theorem FlatAt.kp {H H' : Hp} {F : Addr} {fl : List (Nat × Nat)} (k : FlatAt H F fl) (o : OffA [F] H H') : KpD H H' := fun x z n e => o x _ (fun w => by
  have k : H F = some _ := k
  rw [List.mem_singleton.mp w, k] at e
  exact n _ (Option.some.inj e).symm) e
theorem Lk.kp {H H' : Hp} {p : Addr} {A : List Addr} {D : Nat → List (Nat × Int)} (k : Lk H p A D) (o : OffA A H H') : KpK H H' := fun x z n e => o x _ (fun m => by
  obtain ⟨i, li, ei⟩ := List.getElem_of_mem m
  have := k.each i x (by rw [List.getElem?_eq_getElem li, ei])
  rw [this] at e
  exact n _ (Option.some.inj e).symm) e
theorem RowsAt.of {H H' : Hp} {R : Addr} {ts : List Addr} {f : Nat → Pt} (k : RowsAt H R ts f) (a : H' R = some (.lst (ts.map V.ref))) (g : ∀ u xs, H u = some (.tup xs) → H' u = some (.tup xs)) : RowsAt H' R ts f := ⟨a, fun i t e => ⟨g _ _ (k.each i t e).1, (k.each i t e).2⟩⟩
theorem Lk.of {H H' : Hp} {p : Addr} {A : List Addr} {D : Nat → List (Nat × Int)} (k : Lk H p A D) (a : H' p = some (.lst (A.map V.ref))) (g : ∀ x kvs, H x = some (.dK kvs) → H' x = some (.dK kvs)) : Lk H' p A D := ⟨a, k.nod, k.few, fun i x e => g _ _ (k.each i x e), k.key⟩
/-- Stg but for its maths -/
structure Pc (H : Hp) (R p F h : Addr) (ts A : List Addr) (pt : Nat → Pt) (D : Nat → List (Nat × Int)) (fl sd : List (Nat × Nat)) (us : List Addr) : Prop where
  rows : RowsAt H R ts pt
  lk : Lk H p A D
  fat : FlatAt H F fl
  hat : H h = some (.lst (us.map V.ref))
  prs : PrAt H us sd
  ne : R ≠ h ∧ p ≠ h
theorem Pc.same {H H' : Hp} {R p F h : Addr} {ts A : List Addr} {pt : Nat → Pt} {D : Nat → List (Nat × Int)} {fl sd : List (Nat × Nat)} {us : List Addr} (k : Pc H R p F h ts A pt D fl sd us) (s : Same H H') : Pc H' R p F h ts A pt D fl sd us :=
  ⟨k.rows.of (s _ _ k.rows.at_) (fun _ _ e => s _ _ e), k.lk.same s, s _ _ k.fat, s _ _ k.hat, k.prs.keep fun _ _ e => s _ _ e, k.ne⟩
theorem Pc.flat {H H' : Hp} {R p F h : Addr} {ts A : List Addr} {pt : Nat → Pt} {D : Nat → List (Nat × Int)} {fl fl' sd : List (Nat × Nat)} {us : List Addr} (k : Pc H R p F h ts A pt D fl sd us) (g : OffA [F] H H') (f : FlatAt H' F fl') : Pc H' R p F h ts A pt D fl' sd us :=
  have z := k.fat.kp g
  ⟨k.rows.of (z _ _ (fun _ => nofun) k.rows.at_) (fun _ _ e => z _ _ (fun _ => nofun) e), k.lk.of (z _ _ (fun _ => nofun) k.lk.at_) (fun _ _ e => z _ _ (fun _ => nofun) e), f, z _ _ (fun _ => nofun) k.hat, k.prs.keep fun _ _ e => z _ _ (fun _ => nofun) e, k.ne⟩
theorem Pc.turn {H H' : Hp} {R p F h : Addr} {ts A : List Addr} {pt : Nat → Pt} {D D' : Nat → List (Nat × Int)} {fl sd : List (Nat × Nat)} {us : List Addr} (k : Pc H R p F h ts A pt D fl sd us) (g : OffA A H H') (l : Lk H' p A D') : Pc H' R p F h ts A pt D' fl sd us :=
  have z := k.lk.kp g
  ⟨k.rows.of (z _ _ (fun _ => nofun) k.rows.at_) (fun _ _ e => z _ _ (fun _ => nofun) e), l, z _ _ (fun _ => nofun) (show H F = some _ from k.fat), z _ _ (fun _ => nofun) k.hat, k.prs.keep fun _ _ e => z _ _ (fun _ => nofun) e, k.ne⟩
theorem Pc.gone {H : Hp} {R p F h q : Addr} {ts A : List Addr} {pt : Nat → Pt} {D : Nat → List (Nat × Int)} {fl sd : List (Nat × Nat)} {us : List Addr} {xs ys : List L2.V} (k : Pc H R p F h ts A pt D fl sd us) (e : H q = some (.lst xs)) (n : R ≠ q ∧ p ≠ q ∧ h ≠ q) : Pc (L2.upd H q (.lst ys)) R p F h ts A pt D fl sd us :=
  ⟨k.rows.lst n.1 e, k.lk.lst n.2.1 e, k.fat.lst e, by rw [upd_ne n.2.2]; exact k.hat, k.prs.keep fun _ _ w => tup_lst e w, k.ne⟩
theorem Pc.more {H : Hp} {R p F h u : Addr} {ts A : List Addr} {pt : Nat → Pt} {D : Nat → List (Nat × Int)} {fl sd : List (Nat × Nat)} {us : List Addr} {a b : Nat} (k : Pc H R p F h ts A pt D fl sd us) (e : H u = some (.tup [.int a, .int b])) : Pc (L2.upd H h (.lst (us.map V.ref ++ [.ref u]))) R p F h ts A pt D fl (sd ++ [(a, b)]) (us ++ [u]) :=
  ⟨k.rows.lst k.ne.1 k.hat, k.lk.lst k.ne.2 k.hat, k.fat.lst k.hat, by rw [upd_same, List.map_append]; rfl, (k.prs.keep fun _ _ w => tup_lst k.hat w).snoc (tup_lst k.hat e), k.ne⟩
theorem Pc.stg {H : Hp} {R p F h : Addr} {ts A : List Addr} {pt : Nat → Pt} {D : Nat → List (Nat × Int)} {fl sd : List (Nat × Nat)} {us : List Addr} {n : Nat} {O T : TriF} (k : Pc H R p F h ts A pt D fl sd us) (l : ts.length = A.length) (t : IsT D A.length T) (nd : fl.Nodup) (m : Mid pt n O T sd) (f : MidF pt n O T sd fl) (low : n < A.length) : Stg H R p F h ts A pt n O T D fl sd us := ⟨k.rows, l, k.lk, t, k.fat, nd, k.hat, k.prs, m, f, low, k.ne⟩
theorem put_mem {l : List (Nat × Nat)} {q x : Nat × Nat} : x ∈ (if q ∈ l then l else l ++ [q]) ↔ x ∈ l ∨ x = q := by
  split
  · rename_i m
    exact ⟨.inl, fun h => h.elim id fun e => e ▸ m⟩
  · rw [List.mem_append, List.mem_singleton]
theorem put_nd {l : List (Nat × Nat)} {q : Nat × Nat} (h : l.Nodup) : (if q ∈ l then l else l ++ [q]).Nodup := by
  split
  · exact h
  · rename_i m
    exact List.nodup_append.mpr ⟨h, by simp, fun x hx y hy e => m (by
      rw [List.mem_singleton.mp hy] at e
      exact e ▸ hx)⟩
theorem old_le {T : TriF} {n : Nat} : oldN T n ≤ n * n := by
  unfold oldN
  refine Nat.le_trans (List.length_filter_le _ _) (Nat.le_of_eq ?_)
  have z : ∀ (l : List Nat), (l.flatMap fun a => (List.range n).map fun b => (a, b)).length = l.length * n := fun l => by
    induction l with
    | nil => simp
    | cons a l ih => rw [List.flatMap_cons, List.length_append, ih, List.length_map, List.length_range, List.length_cons, Nat.succ_mul, Nat.add_comm]
  rw [z, List.length_range]
theorem Mid.few {pt : Nat → Pt} {n : Nat} {O T : TriF} {sd : List (Nat × Nat)} (h : Mid pt n O T sd) (l : n < 300) : sd.length ≤ 90000 :=
  Nat.le_trans (pairs_len (N := n + 1) h.nodup (fun e he => by
    have := h.tri.rng (h.ahead (a := e.1) (b := e.2) he)
    omega)) (Nat.mul_le_mul (show n + 1 ≤ 300 from l) (show n + 1 ≤ 300 from l))
abbrev s_settle : Stmt := topS 19
abbrev n_settle : List Str := ["rows", "links", "flat", "at", "ahead", "x", "y", "gone", "a", "b", "of_b", "c", "ax", "ay", "bx", "by", "cx", "cy", "ux", "uy", "vx", "vy", "px", "py", "qx", "qy", "one", "other", "room"]
theorem c_settle : FnScope n_settle ["rows", "links", "flat", "at", "ahead"] (defScope s_settle) := ⟨rfl, rfl, rfl, by decide +kernel, rfl, by decide +kernel, by decide +kernel⟩
def p_settle : Sp := fun vs H Q _ => ∃ (R p F h : Addr) (ts A : List Addr) (pt : Nat → Pt) (n : Nat) (O T : TriF) (D : Nat → List (Nat × Int)) (fl sd : List (Nat × Nat)) (us : List Addr), vs = [.ref R, .ref p, .ref F, .int n, .ref h] ∧ Stg H R p F h ts A pt n O T D fl sd us ∧ Srt pt (n + 1) ∧ Dl pt n O ∧
  ∀ g H' T' D' fl', H g = none → Stg H' R p F h ts A pt n O T' D' fl' [] [] → OffA (F :: h :: A) H H' → Q (.ref g) H'
set_option pp.maxSteps 300 in
theorem ok_settle  (D : Df K mg "settle" s_settle ["rows", "links", "flat", "at", "ahead"]) (C_turn_over : Cl P w K mg base CX0 "turn_over" 1 ["links", "a", "b", "c", "at"] (p_turn_over)) (C_take_out : Cl P w K mg base CX0 "take_out" 1 ["flat", "a", "b"] (p_take_out)) : Cl P w K mg base CX0 "settle" 2 ["rows", "links", "flat", "at", "ahead"] (p_settle) := by
  refine D.cl fun f fd F => F.ok c_settle (fun vs H Q E h => ?_) (fun cdv A outer s H vs Q E hr h => ?_)
  · obtain ⟨R, p, F, h0, ts, A, pt, n, O, T, D, fl, sd, us, rfl, hg, so, hO, q⟩ := h
    rfl
  · obtain ⟨R, p, F, h0, ts, A, pt, n, O, T, D, fl, sd, us, rfl, hg, so, hO, q⟩ := h
    have nd := c_settle.nd
    have hu : _ := hu_of hr
    refine ⟨_, (pss_cons (ps_asg (pe_ix ix_list (pv 0) (pv 3) (fun _ _ => rfl)) (pg_tup (by rfl) (pgs_cons (pg_name (i := 5) nd rfl (.inl rfl)) (pgs_cons (pg_name (i := 6) nd rfl (.inl rfl)) pgs_nil)))) (pss_cons (ps_set (i := 7) nd rfl (.inl rfl) (pe_lstG pa_nil)) (pss_cons (ps_while PassesOwn.never (pt_truth (pv 4) (fun _ => rfl)) (pss_cons (ps_asg (pe_bm0 PySem.F.plainAttrs_list PySem.F.slot_list_pop PySem.F.type_list_pop mt_pop (pv 4)) (pg_tup (by rfl) (pgs_cons (pg_name (i := 8) nd rfl (.inl rfl)) (pgs_cons (pg_name (i := 9) nd rfl (.inl rfl)) pgs_nil)))) (pss_cons (ps_set (i := 10) nd rfl (.inl rfl) (pe_ix ix_list (pv 1) (pv 9) (fun _ _ => rfl))) (pss_cons (ps_if (pt_cmp (pc_dnotin hu (pv 8) (pv 10))) (pss_one ps_continue) pss_nil) (pss_cons (ps_set (i := 11) nd rfl (.inl rfl) (pe_dget hu (pv 10) (pv 8) (fun _ _ => rfl))) (pss_cons (ps_asg (pe_ix ix_list (pv 0) (pv 8) (fun _ _ => rfl)) (pg_tup (by rfl) (pgs_cons (pg_name (i := 12) nd rfl (.inl rfl)) (pgs_cons (pg_name (i := 13) nd rfl (.inl rfl)) pgs_nil)))) (pss_cons (ps_asg (pe_ix ix_list (pv 0) (pv 9) (fun _ _ => rfl)) (pg_tup (by rfl) (pgs_cons (pg_name (i := 14) nd rfl (.inl rfl)) (pgs_cons (pg_name (i := 15) nd rfl (.inl rfl)) pgs_nil)))) (pss_cons (ps_asg (pe_ix ix_list (pv 0) (pv 11) (fun _ _ => rfl)) (pg_tup (by rfl) (pgs_cons (pg_name (i := 16) nd rfl (.inl rfl)) (pgs_cons (pg_name (i := 17) nd rfl (.inl rfl)) pgs_nil)))) (pss_cons (ps_asg (pe_tupG (pa_cons (pe_op op_sub (pv 12) (pv 5)) (pa_cons (pe_op op_sub (pv 13) (pv 6)) (pa_cons (pe_op op_sub (pv 14) (pv 5)) (pa_cons (pe_op op_sub (pv 15) (pv 6)) pa_nil))))) (pg_tup (by rfl) (pgs_cons (pg_name (i := 18) nd rfl (.inl rfl)) (pgs_cons (pg_name (i := 19) nd rfl (.inl rfl)) (pgs_cons (pg_name (i := 20) nd rfl (.inl rfl)) (pgs_cons (pg_name (i := 21) nd rfl (.inl rfl)) pgs_nil)))))) (pss_cons (ps_asg (pe_tupG (pa_cons (pe_op op_sub (pv 12) (pv 16)) (pa_cons (pe_op op_sub (pv 13) (pv 17)) (pa_cons (pe_op op_sub (pv 14) (pv 16)) (pa_cons (pe_op op_sub (pv 15) (pv 17)) pa_nil))))) (pg_tup (by rfl) (pgs_cons (pg_name (i := 22) nd rfl (.inl rfl)) (pgs_cons (pg_name (i := 23) nd rfl (.inl rfl)) (pgs_cons (pg_name (i := 24) nd rfl (.inl rfl)) (pgs_cons (pg_name (i := 25) nd rfl (.inl rfl)) pgs_nil)))))) (pss_cons (ps_par (i := 26) (j := 27) (by rfl) nd rfl rfl (by decide) rfl rfl (pa_cons (pe_op op_add (pe_op op_mulW (pv 18) (pv 20)) (pe_op op_mulW (pv 19) (pv 21))) (pa_cons (pe_op op_add (pe_op op_mulW (pv 22) (pv 24)) (pe_op op_mulW (pv 23) (pv 25))) pa_nil)) (by rfl)) (pss_one (ps_if (PW.pt (pw_or (pt_cmpR op_le (pv 26) pe_int (nomark _)) (pw_or1 (pt_cmpR op_le (pv 27) pe_int (nomark _))))) (pss_cons (ps_set (i := 28) nd rfl (.inl rfl) (pe_op op_add (pe_op op_mulW (pv 26) (pe_op op_sub (pe_op op_mulW (pv 24) (pv 23)) (pe_op op_mulW (pv 25) (pv 22)))) (pe_op op_mulW (pv 27) (pe_op op_sub (pe_op op_mulW (pv 18) (pv 21)) (pe_op op_mulW (pv 19) (pv 20)))))) (pss_one (ps_if (pt_cmpR op_eq (pv 28) pe_int (nomark _)) (pss_cons (ps_dput hu (pv 2) (pe_tupG (pa_cons (pv 8) (pa_cons (pv 9) pa_nil))) pe_bl rfl) (pss_one (ps_expr (pe_bm PySem.F.plainAttrs_list PySem.F.slot_list_append PySem.F.type_list_append mt_append (pv 7) (pa_cons (pe_tupG (pa_cons (pv 8) (pa_cons (pv 9) pa_nil))) pa_nil))))) (pss_one (ps_if (pt_cmpR op_lt (pv 28) pe_int (nomark _)) (pss_cons (ps_expr (pe_cl C_turn_over (hr.mono (by decide)) (by rfl) pass0 (pa_cons (pv 1) (pa_cons (pv 8) (pa_cons (pv 9) (pa_cons (pv 11) (pa_cons (pv 3) pa_nil))))))) (pss_cons (ps_expr (pe_bm PySem.F.plainAttrs_list PySem.F.slot_list_append PySem.F.type_list_append mt_append (pv 4) (pa_cons (pe_tupG (pa_cons (pv 8) (pa_cons (pv 11) pa_nil))) pa_nil))) (pss_cons (ps_expr (pe_bm PySem.F.plainAttrs_list PySem.F.slot_list_append PySem.F.type_list_append mt_append (pv 4) (pa_cons (pe_tupG (pa_cons (pv 11) (pa_cons (pv 9) pa_nil))) pa_nil))) (pss_one (ps_if (PW.pt (pw_or (pt_not (pt_truthR (pv 2) tru_dT (fun _ => rfl))) (pw_or1 (pt_not (pt_val (pe_cl C_take_out (hr.mono (by decide)) (by rfl) pass0 (pa_cons (pv 2) (pa_cons (pv 8) (pa_cons (pv 9) pa_nil))))))))) (pss_one (ps_expr (pe_bm PySem.F.plainAttrs_list PySem.F.slot_list_append PySem.F.type_list_append mt_append (pv 7) (pa_cons (pe_tupG (pa_cons (pv 8) (pa_cons (pv 9) pa_nil))) pa_nil)))) pss_nil))))) pss_nil))))) pss_nil))))))))))))) (pss_one (ps_ret (pv 7)))))), ?_⟩
    obtain ⟨tN, etn⟩ : ∃ t, ts[n]? = some t := ⟨_, List.getElem?_eq_getElem (by rw [hg.len]; exact hg.low)⟩
    obtain ⟨zn, bn1, bn2, bn3, bn4⟩ := hg.rows.each n tN etn
    repeat array_get_dec
    refine ⟨R, _, _, _, rfl, rfl, SqL.of hg.rows.at_, atI_nat (by rw [List.getElem?_map, etn]; rfl), ?_⟩
    repeat array_get_dec
    refine fun gA H1 s1 n1 e1 => ?_
    repeat array_get_dec
    refine ⟨fun m σ4 H4 => ∃ (y8 y9 y10 y11 y12 y13 y14 y15 y16 y17 y18 y19 y20 y21 y22 y23 y24 y25 y26 y27 y28 : Option L2.V) (T4 : TriF) (D4 : Nat → List (Nat × Int)) (fl4 sd4 : List (Nat × Nat)) (us4 gs : List Addr), m = 2 * oldN T4 n + sd4.length ∧ σ4 = [some (.ref R), some (.ref p), some (.ref F), some (.int n), some (.ref h0), some (.int (pt n).1), some (.int (pt n).2), some (.ref gA), y8, y9, y10, y11, y12, y13, y14, y15, y16, y17, y18, y19, y20, y21, y22, y23, y24, y25, y26, y27, y28] ∧ Stg H4 R p F h0 ts A pt n O T4 D4 fl4 sd4 us4 ∧ H4 gA = some (.lst (gs.map V.ref)) ∧ gs.length + m ≤ 2 * oldN T n + sd.length ∧ OffB (F :: h0 :: gA :: A) H1 H4, ?_, ?_⟩
    · exact ⟨_, _, _, _, _, _, _, _, _, _, _, _, _, _, _, _, _, _, _, _, _, _, T, D, fl, sd, us, [], rfl, rfl, hg.same s1, e1, by simp, OffA.refl⟩
    rintro m σ4 H4 ⟨y8, y9, y10, y11, y12, y13, y14, y15, y16, y17, y18, y19, y20, y21, y22, y23, y24, y25, y26, y27, y28, T4, D4, fl4, sd4, us4, gs, rfl, rfl, hg4, eg, few, off⟩
    repeat array_get_dec
    refine ⟨_, .inl ⟨_, SqL.of hg4.hat, rfl⟩, ?_⟩
    rcases List.eq_nil_or_concat us4 with e0 | ⟨us, u, e0⟩
    · subst e0
      have e0 : sd4 = [] := List.length_eq_zero_iff.mp hg4.prs.1.symm
      subst e0
      rw [if_neg (by decide)]
      have z := q gA H4 T4 D4 fl4 n1 hg4 (fun x o nx e => off x o (fun w => by
        have xg : x ≠ gA := fun w => by
          rw [w, n1] at e
          cases e
        rcases List.mem_cons.mp w with w | w
        · exact nx (w ▸ List.mem_cons_self)
        rcases List.mem_cons.mp w with w | w
        · exact nx (w ▸ List.mem_cons_of_mem _ List.mem_cons_self)
        rcases List.mem_cons.mp w with w | w
        · exact xg w
        · exact nx (List.mem_cons_of_mem _ (List.mem_cons_of_mem _ w))) (s1 _ _ e))
      exact ⟨_, rfl, z⟩
    · rw [List.concat_eq_append] at e0
      subst e0
      obtain ⟨sd', a, b, rfl, pr, eu⟩ := hg4.prs.snoc_inv
      rw [if_pos (by simp)]
      refine ⟨_, fun _ _ z => z, ?_⟩
      have uh : u ≠ h0 := fun w => by
        have z := hg4.hat
        rw [← w, eu] at z
        cases z
      repeat array_get_dec
      refine ⟨.inl ⟨rfl, _, SqL.of hg4.hat⟩, h0, _, .ref u, rfl, rfl, hg4.hat, by simp, ?_⟩
      have drop : (List.map V.ref (us ++ [u])).dropLast = us.map V.ref := by simp
      rw [drop]
      have r5 := hg4.rows.lst (ys := us.map V.ref) hg4.ne.1 hg4.hat
      have l5 := hg4.lk.lst (ys := us.map V.ref) hg4.ne.2 hg4.hat
      have f5 := hg4.fat.lst (ys := us.map V.ref) hg4.hat
      have u5 := tup_lst (ys := us.map V.ref) hg4.hat eu
      have p5 := pr.keep fun v zs q => tup_lst (ys := us.map V.ref) hg4.hat q
      have h5 : L2.upd H4 h0 (.lst (us.map V.ref)) h0 = some (.lst (us.map V.ref)) := upd_same
      have gh : gA ≠ h0 := fun w => by
        have z := hg.hat
        rw [← w, n1] at z
        cases z
      have g5 : L2.upd H4 h0 (.lst (us.map V.ref)) gA = some (.lst (gs.map V.ref)) := by
        rw [upd_ne gh]
        exact eg
      have o5 : OffB (F :: h0 :: gA :: A) H1 (L2.upd H4 h0 (.lst (us.map V.ref))) := OffA.trans off (OffA.put (by simp))
      generalize L2.upd H4 h0 (.lst (us.map V.ref)) = H5 at r5 l5 f5 u5 p5 h5 g5 o5 ⊢
      have hab : T4 a b = some n := hg4.mid.ahead (List.mem_append_right _ (List.mem_singleton.mpr rfl))
      have rg := hg4.mid.tri.rng hab
      have low := hg4.low
      have la : a < A.length := by omega
      have lb : b < A.length := by omega
      obtain ⟨pb, eb⟩ : ∃ x, A[b]? = some x := ⟨_, List.getElem?_eq_getElem lb⟩
      have ref {i : Nat} {x : Addr} (e : A[i]? = some x) : atI (A.map V.ref) (i : Int) = some (.ref x) := atI_nat (by rw [List.getElem?_map, e]; rfl)
      refine ⟨u, _, rfl, SqT.of u5, rfl, ?_⟩
      repeat array_get_dec
      refine ⟨p, _, _, _, rfl, rfl, SqL.of l5.at_, ref eb, ?_⟩
      repeat array_get_dec
      have look0 : valV (encD (D4 b)) (Sum.inl (a : Int)) = Option.map (fun (c : Nat) => L2.V.int c) (T4 b a) := by
        rw [val_enc, hg4.isT b a lb]
        cases T4 b a <;> rfl
      have dg : DGet H5 pb (.int a) (valV (encD (D4 b)) (Sum.inl (a : Int))) := DGet.k (k := Sum.inl (a : Int)) (l5.each b pb eb)
      rw [look0] at dg
      have sl : (sd' ++ [(a, b)]).length = sd'.length + 1 := by simp
      cases k : T4 b a with
      | none =>
        rw [k] at dg
        refine ⟨pb, none, rfl, dg, _, rfl, ?_⟩
        refine if_t rfl ?_
        exact ⟨2 * oldN T4 n + sd'.length, by omega, _, _, _, _, _, _, _, _, _, _, _, _, _, _, _, _, _, _, _, _, _, T4, D4, fl4, sd', us, gs, rfl, rfl, ⟨r5, hg4.len, l5, hg4.isT, f5, hg4.fnd, h5, p5, hg4.mid.pop (fun c e => by rw [k] at e; cases e), MidF.pop_no hg4.mid hg4.midF (fun c e => by rw [k] at e; cases e), hg4.low, hg4.ne⟩, g5, by omega, o5⟩
      | some c =>
        rw [k] at dg
        refine ⟨pb, _, rfl, dg, _, rfl, ?_⟩
        refine if_f rfl ?_
        repeat array_get_dec
        refine ⟨pb, .int c, rfl, dg, ?_⟩
        have rk := hg4.mid.tri.rng k
        have site {i : Nat} (li : i < A.length) : ∃ t, atI (ts.map V.ref) (i : Int) = some (.ref t) ∧ Sit H5 t (pt i).1 (pt i).2 ∧ Bd 1000000 (pt i).1 (pt i).2 := by
          have li' : i < ts.length := by rw [hg4.len]; exact li
          refine ⟨ts[i], atI_nat (by rw [List.getElem?_map, List.getElem?_eq_getElem li']; rfl), r5.each i _ (List.getElem?_eq_getElem li')⟩
        obtain ⟨ta, ia, sa, a1, a2, a3, a4⟩ := site la
        obtain ⟨tb, ib, sb, b1, b2, b3, b4⟩ := site lb
        obtain ⟨tc, ic', sc, c1, c2, c3, c4⟩ := site (show c < A.length by omega)
        repeat array_get_dec
        refine ⟨R, _, _, _, rfl, rfl, SqL.of r5.at_, ia, ?_⟩
        repeat array_get_dec
        refine ⟨R, _, _, _, rfl, rfl, SqL.of r5.at_, ib, ?_⟩
        repeat array_get_dec
        refine ⟨R, _, _, _, rfl, rfl, SqL.of r5.at_, ic', ?_⟩
        refine ⟨tc, _, rfl, SqT.of sc, rfl, ?_⟩
        refine ⟨_, _, rfl, ?_⟩
        refine ⟨_, _, rfl, ?_⟩
        refine ⟨rfl, ?_⟩
        show tSeq _ _ _ [some (.ref R), some (.ref p), some (.ref F), some (.int n), some (.ref h0), some (.int (pt n).1), some (.int (pt n).2), some (.ref gA), some (.int a), some (.int b), some (.ref pb), some (.int c), some (.int (pt a).1), some (.int (pt a).2), some (.int (pt b).1), some (.int (pt b).2), some (.int (pt c).1), some (.int (pt c).2), y18, y19, y20, y21, y22, y23, y24, y25, y26, y27, y28] _
        repeat array_get_dec
        refine fun q1 H6 s6 n6 e6 => ?_
        repeat array_get_dec
        refine fun q2 H7 s7 n7 e7 => ?_
        repeat array_get_dec
        have rg2 : T4 b a = some c := k
        have pab := hg4.mid.tri.pos hab
        have pba := hg4.mid.tri.pos k
        have s57 := s6.trans s7
        have c5 : Pc H5 R p F h0 ts A pt D4 fl4 sd' us := ⟨r5, l5, f5, h5, p5, hg4.ne⟩
        have gne : R ≠ gA ∧ p ≠ gA ∧ h0 ≠ gA := ⟨fun w => (by
          have z := hg.rows.at_
          rw [w, n1] at z
          cases z), fun w => (by
          have z := hg.lk.at_
          rw [w, n1] at z
          cases z), Ne.symm gh⟩
        have n300 : n < 300 := Nat.lt_of_lt_of_le low l5.few
        have fewG : gs.length + 3 < 16777216 := by
          have w1 := hg.mid.few n300
          have w2 := old_le (T := T) (n := n)
          have w3 := Nat.mul_le_mul (Nat.le_of_lt n300) (Nat.le_of_lt n300)
          omega
        have end_ {H8 : Hp} (s8 : Same H5 H8) : RowsAt H8 R ts pt ∧ Lk H8 p A D4 ∧ FlatAt H8 F fl4 ∧ H8 h0 = some (.lst (us.map V.ref)) ∧ PrAt H8 us sd' ∧ H8 gA = some (.lst (gs.map V.ref)) ∧ OffB (F :: h0 :: gA :: A) H1 H8 :=
          ⟨⟨s8 _ _ r5.at_, fun i t e => ⟨(r5.each i t e).1.same s8, (r5.each i t e).2⟩⟩, l5.same s8, s8 _ _ f5, s8 _ _ h5, p5.keep fun v zs q => s8 _ _ q, s8 _ _ g5, OffA.trans o5 (OffA.same s8)⟩
        refine or_path ?_ (fun h1 room => ?_)
        · show tSeq _ _ _ [some (.ref R), some (.ref p), some (.ref F), some (.int n), some (.ref h0), some (.int (pt n).1), some (.int (pt n).2), some (.ref gA), some (.int a), some (.int b), some (.ref pb), some (.int c), some (.int (pt a).1), some (.int (pt a).2), some (.int (pt b).1), some (.int (pt b).2), some (.int (pt c).1), some (.int (pt c).2), some (.int ((pt a).1 - (pt n).1)), some (.int ((pt a).2 - (pt n).2)), some (.int ((pt b).1 - (pt n).1)), some (.int ((pt b).2 - (pt n).2)), some (.int ((pt a).1 - (pt c).1)), some (.int ((pt a).2 - (pt c).2)), some (.int ((pt b).1 - (pt c).1)), some (.int ((pt b).2 - (pt c).2)), some (.int (((pt a).1 - (pt n).1) * ((pt b).1 - (pt n).1) + ((pt a).2 - (pt n).2) * ((pt b).2 - (pt n).2))), some (.int (((pt a).1 - (pt c).1) * ((pt b).1 - (pt c).1) + ((pt a).2 - (pt c).2) * ((pt b).2 - (pt c).2))), y28] _
          repeat array_get_dec
          have ro : ((((pt a).1 - (pt n).1) * ((pt b).1 - (pt n).1) + ((pt a).2 - (pt n).2) * ((pt b).2 - (pt n).2)) * (((pt b).1 - (pt c).1) * ((pt a).2 - (pt c).2) - ((pt b).2 - (pt c).2) * ((pt a).1 - (pt c).1)) + (((pt a).1 - (pt c).1) * ((pt b).1 - (pt c).1) + ((pt a).2 - (pt c).2) * ((pt b).2 - (pt c).2)) * (((pt a).1 - (pt n).1) * ((pt b).2 - (pt n).2) - ((pt a).2 - (pt n).2) * ((pt b).1 - (pt n).1))) = ic (pt a) (pt b) (pt c) (pt n) := by
            unfold ic dia tn
            grind
          by_cases z : ((((pt a).1 - (pt n).1) * ((pt b).1 - (pt n).1) + ((pt a).2 - (pt n).2) * ((pt b).2 - (pt n).2)) * (((pt b).1 - (pt c).1) * ((pt a).2 - (pt c).2) - ((pt b).2 - (pt c).2) * ((pt a).1 - (pt c).1)) + (((pt a).1 - (pt c).1) * ((pt b).1 - (pt c).1) + ((pt a).2 - (pt c).2) * ((pt b).2 - (pt c).2)) * (((pt a).1 - (pt n).1) * ((pt b).2 - (pt n).2) - ((pt a).2 - (pt n).2) * ((pt b).1 - (pt n).1))) = 0
          · refine w_itt (congrArg L2.V.int z) ?_
            have few4 : (encF fl4).length < sizeLine := by
              have z4 := pairs_len (N := A.length) hg4.fnd (fun e he => by
                have lt (h2 : ∃ c d : Nat, O e.1 e.2 = some c ∧ O e.2 e.1 = some d) : e.1 < n ∧ e.2 < n := by
                  obtain ⟨c, d, h2, _⟩ := h2
                  have := hO.tri.rng h2
                  exact ⟨this.1, this.2.1⟩
                rcases hg4.midF.on (a := e.1) (b := e.2) he with ⟨c, d, e1, e2, _⟩ | ⟨c, _, e1, _⟩
                · have := lt ⟨c, d, e1, e2⟩
                  omega
                · have := hg4.mid.tri.rng e1
                  omega)
              have z5 := Nat.mul_le_mul hg4.lk.few hg4.lk.few
              unfold encF
              rw [List.length_map]
              exact Nat.lt_of_le_of_lt (Nat.le_trans z4 z5) (by decide)
            repeat array_get_dec
            refine fun t1 H8 s8 n8 e8 => ?_
            have s58 := s57.trans s8
            refine ⟨F, _, rfl, DPut.t (k := k2 (a, b)) (s58 _ _ f5) e8 few4, ?_⟩
            repeat array_get_dec
            have c9 := (c5.same s58).flat (H' := L2.upd H8 F (.dT (putK (encF fl4) (k2 (a, b)) (.bl true)))) (fl' := if (a, b) ∈ fl4 then fl4 else fl4 ++ [(a, b)]) (OffA.put (List.mem_singleton.mpr rfl)) (by
              unfold FlatAt
              rw [upd_same, putF])
            have g9 := upd_o (v := .dT (putK (encF fl4) (k2 (a, b)) (.bl true))) (s58 _ _ f5) (s58 _ _ g5) nofun
            have o9 : OffB (F :: h0 :: gA :: A) H1 (L2.upd H8 F (.dT (putK (encF fl4) (k2 (a, b)) (.bl true)))) := OffA.trans o5 (OffA.trans (OffA.same s58) (OffA.put List.mem_cons_self))
            generalize L2.upd H8 F (.dT (putK (encF fl4) (k2 (a, b)) (.bl true))) = H9 at c9 g9 o9 ⊢
            refine ⟨.inl ⟨rfl, _, SqL.of g9⟩, ?_⟩
            repeat array_get_dec
            refine fun t2 H10 s10 n10 e10 => ?_
            refine ⟨gA, _, .ref t2, rfl, rfl, s10 _ _ g9, by rw [List.length_map, sizeLine_eq]; omega, ?_⟩
            have c10 := ((c9.same s10).gone (ys := gs.map V.ref ++ [.ref t2]) (s10 _ _ g9) gne).stg hg4.len hg4.isT (put_nd hg4.fnd) (hg4.mid.pop (fun c' e => by
              rw [k] at e
              cases e
              rw [← ro]
              exact Int.le_of_eq z.symm)) (MidF.pop_flat hO.tri hg4.mid hg4.midF k (ro ▸ z) (fun _ => put_mem)) hg4.low
            exact ⟨2 * oldN T4 n + sd'.length, by omega, _, _, _, _, _, _, _, _, _, _, _, _, _, _, _, _, _, _, _, _, _, T4, D4, _, sd', us, gs ++ [t2], rfl, rfl, c10, by rw [upd_same, List.map_append]; rfl, by rw [List.length_append, List.length_singleton]; omega, OffA.trans o9 (OffA.trans (OffA.same s10) (OffA.put (by simp)))⟩
          · refine w_itf (fun e => z (L2.V.int.inj e)) ?_
            repeat array_get_dec
            refine w_ifd (fun bad => ?_) fun nb => ?_
            · have bad : ic (pt a) (pt b) (pt c) (pt n) < 0 := by
                rw [← ro]
                exact bad
              obtain ⟨md, nn1, nn2, cl, _, _⟩ := hg4.mid.flipped so hO.tri k bad
              have N1 := hg4.mid.tri.ne hab
              have N2 := hg4.mid.tri.ne k
              have m1 := hg4.mid.few (by omega)
              have m2 := md.few (by omega)
              rw [List.length_append] at m1 m2
              simp only [List.length_cons, List.length_nil] at m1 m2
              have c7 := c5.same s57
              repeat array_get_dec
              refine ⟨p, A, D4, T4, a, b, c, n, rfl, c7.lk, hg4.isT, ⟨la, lb, by omega, low⟩, ⟨N1.1, N2.2.1, N1.2.2, N2.2.2, N1.2.1, by omega⟩, ⟨_, hab⟩, ⟨_, k⟩, fun H8 D8 l8 isT8 off8 => ?_⟩
              have c8 := c7.turn off8 l8
              have g8 : H8 gA = some (.lst (gs.map V.ref)) := c7.lk.kp off8 _ _ (fun _ => nofun) (s57 _ _ g5)
              have o8 : OffB (F :: h0 :: gA :: A) H1 H8 := OffA.trans o5 (OffA.trans (OffA.same s57) (fun x o m e => off8 x o (fun w => m (by simp [w])) e))
              have us1 : us.length = sd'.length := c5.prs.1
              repeat array_get_dec
              refine ⟨.inl ⟨rfl, _, SqL.of c8.hat⟩, ?_⟩
              repeat array_get_dec
              refine fun t1 H9 s9 n9 e9 => ?_
              refine ⟨h0, _, .ref t1, rfl, rfl, (c8.same s9).hat, by rw [List.length_map, sizeLine_eq]; omega, ?_⟩
              have c10 := (c8.same s9).more (a := a) (b := c) e9
              have g10 : L2.upd H9 h0 (.lst (us.map V.ref ++ [.ref t1])) gA = some (.lst (gs.map V.ref)) := by
                rw [upd_ne gh]
                exact s9 _ _ g8
              have o10 : OffB (F :: h0 :: gA :: A) H1 (L2.upd H9 h0 (.lst (us.map V.ref ++ [.ref t1]))) := OffA.trans o8 (OffA.trans (OffA.same s9) (OffA.put (by simp)))
              generalize L2.upd H9 h0 (.lst (us.map V.ref ++ [.ref t1])) = H10 at c10 g10 o10 ⊢
              repeat array_get_dec
              refine ⟨.inl ⟨rfl, _, SqL.of c10.hat⟩, ?_⟩
              repeat array_get_dec
              refine fun t2 H11 s11 n11 e11 => ?_
              refine ⟨h0, _, .ref t2, rfl, rfl, (c10.same s11).hat, by rw [List.length_map, List.length_append, sizeLine_eq]; simp only [List.length_cons, List.length_nil]; omega, ?_⟩
              have c12 := (c10.same s11).more (a := c) (b := b) e11
              have g12 : L2.upd H11 h0 (.lst ((us ++ [t1]).map V.ref ++ [.ref t2])) gA = some (.lst (gs.map V.ref)) := by
                rw [upd_ne gh]
                exact s11 _ _ g10
              have o12 : OffB (F :: h0 :: gA :: A) H1 (L2.upd H11 h0 (.lst ((us ++ [t1]).map V.ref ++ [.ref t2]))) := OffA.trans o10 (OffA.trans (OffA.same s11) (OffA.put (by simp)))
              generalize L2.upd H11 h0 (.lst ((us ++ [t1]).map V.ref ++ [.ref t2])) = H12 at c12 g12 o12 ⊢
              repeat array_get_dec
              refine ⟨F, encF fl4, rfl, c12.fat, ?_⟩
              have e2 : sd' ++ [(a, c)] ++ [(c, b)] = sd' ++ [(a, c), (c, b)] := by simp
              rw [e2] at c12
              have few2 := old_flip (T := T4) (n := n) (a := a) (b := b) (c := c) (by omega) (by omega) cl k
              have sl2 : (sd' ++ [(a, c), (c, b)]).length = sd'.length + 2 := by simp
              have mF {fl' : List (Nat × Nat)} (mem : ∀ q, q ∈ fl' ↔ q ∈ fl4 ∧ q ≠ (a, b) ∧ q ≠ (b, a)) := MidF.flipped so hO.tri hg4.mid hg4.midF k bad mem
              have isT8 : IsT D8 A.length (flip T4 n a b c) := isT8
              by_cases fe : fl4 = []
              · have ee : encF fl4 = [] := by rw [fe]; rfl
                rw [ee]
                refine if_t rfl ?_
                refine if_t rfl ?_
                repeat array_get_dec
                refine ⟨.inl ⟨rfl, _, SqL.of g12⟩, ?_⟩
                repeat array_get_dec
                refine fun t3 H13 s13 n13 e13 => ?_
                refine ⟨gA, _, .ref t3, rfl, rfl, s13 _ _ g12, by rw [List.length_map, sizeLine_eq]; omega, ?_⟩
                have c13 := ((c12.same s13).gone (ys := gs.map V.ref ++ [.ref t3]) (s13 _ _ g12) gne).stg hg4.len isT8 hg4.fnd md (mF fun q => by
                  rw [fe]
                  simp) hg4.low
                exact ⟨2 * oldN (flip T4 n a b c) n + (sd' ++ [(a, c), (c, b)]).length, by omega, _, _, _, _, _, _, _, _, _, _, _, _, _, _, _, _, _, _, _, _, _, _, D8, _, _, _, gs ++ [t3], rfl, rfl, c13, by rw [upd_same, List.map_append]; rfl, by rw [List.length_append, List.length_singleton]; omega, OffA.trans o12 (OffA.trans (OffA.same s13) (OffA.put (by simp)))⟩
              · have ee : (encF fl4).isEmpty = false := by
                  unfold encF
                  cases fl4 with
                  | nil => exact absurd rfl fe
                  | cons => rfl
                rw [ee]
                refine if_f rfl ?_
                repeat array_get_dec
                refine ⟨F, fl4, a, b, rfl, c12.fat, hg4.midF.one, fun H13 fl' f13 mem nd off13 => ?_⟩
                have c13 := c12.flat off13 f13
                have g13 : H13 gA = some (.lst (gs.map V.ref)) := c12.fat.kp off13 _ _ (fun _ => nofun) g12
                have o13 : OffB (F :: h0 :: gA :: A) H1 H13 := OffA.trans o12 (fun x o m e => off13 x o (fun w => m (by
                  rw [List.mem_singleton.mp w]
                  exact List.mem_cons_self)) e)
                repeat array_get_dec
                by_cases dn : (a, b) ∈ fl4 ∨ (b, a) ∈ fl4
                · rw [decide_eq_true dn]
                  refine if_f rfl ?_
                  exact ⟨2 * oldN (flip T4 n a b c) n + (sd' ++ [(a, c), (c, b)]).length, by omega, _, _, _, _, _, _, _, _, _, _, _, _, _, _, _, _, _, _, _, _, _, _, D8, _, _, _, gs, rfl, rfl, c13.stg hg4.len isT8 (nd hg4.fnd) md (mF mem) hg4.low, g13, by omega, o13⟩
                · rw [decide_eq_false dn]
                  refine if_t rfl ?_
                  repeat array_get_dec
                  refine ⟨.inl ⟨rfl, _, SqL.of g13⟩, ?_⟩
                  repeat array_get_dec
                  refine fun t3 H14 s14 n14 e14 => ?_
                  refine ⟨gA, _, .ref t3, rfl, rfl, s14 _ _ g13, by rw [List.length_map, sizeLine_eq]; omega, ?_⟩
                  have c14 := ((c13.same s14).gone (ys := gs.map V.ref ++ [.ref t3]) (s14 _ _ g13) gne).stg hg4.len isT8 (nd hg4.fnd) md (mF mem) hg4.low
                  exact ⟨2 * oldN (flip T4 n a b c) n + (sd' ++ [(a, c), (c, b)]).length, by omega, _, _, _, _, _, _, _, _, _, _, _, _, _, _, _, _, _, _, _, _, _, _, D8, _, _, _, gs ++ [t3], rfl, rfl, c14, by rw [upd_same, List.map_append]; rfl, by rw [List.length_append, List.length_singleton]; omega, OffA.trans o13 (OffA.trans (OffA.same s14) (OffA.put (by simp)))⟩
            have pos : 0 < ic (pt a) (pt b) (pt c) (pt n) := by
              rw [← ro]
              omega
            have no : ∀ c', T4 b a = some c' → 0 < ic (pt a) (pt b) (pt c') (pt n) := fun c' e => by
              rw [k] at e
              cases e
              exact pos
            obtain ⟨r8, l8, f8, h8, p8, g8, o8⟩ := end_ s57
            exact ⟨2 * oldN T4 n + sd'.length, by omega, _, _, _, _, _, _, _, _, _, _, _, _, _, _, _, _, _, _, _, _, _, T4, D4, fl4, sd', us, gs, rfl, rfl, ⟨r8, hg4.len, l8, hg4.isT, f8, hg4.fnd, h8, p8, hg4.mid.pop (fun c' e => Int.le_of_lt (no c' e)), MidF.pop_no hg4.mid hg4.midF no, hg4.low, hg4.ne⟩, g8, by omega, o8⟩
        · have h1 := of_decide_eq_false h1
          repeat array_get_dec
          by_cases h2 : ((pt a).1 - (pt c).1) * ((pt b).1 - (pt c).1) + ((pt a).2 - (pt c).2) * ((pt b).2 - (pt c).2) ≤ 0
          · exact if_t (decide_eq_true h2) room
          refine if_f (decide_eq_false h2) ?_
          have pos : 0 < ic (pt a) (pt b) (pt c) (pt n) := by
            have d1 : 0 < dia (pt a) (pt b) (pt n) := by
              unfold dia
              have : ((pt n).1 - (pt a).1) * ((pt n).1 - (pt b).1) + ((pt n).2 - (pt a).2) * ((pt n).2 - (pt b).2) = ((pt a).1 - (pt n).1) * ((pt b).1 - (pt n).1) + ((pt a).2 - (pt n).2) * ((pt b).2 - (pt n).2) := by grind
              omega
            have d2 : 0 < dia (pt a) (pt b) (pt c) := by
              unfold dia
              have : ((pt c).1 - (pt a).1) * ((pt c).1 - (pt b).1) + ((pt c).2 - (pt a).2) * ((pt c).2 - (pt b).2) = ((pt a).1 - (pt c).1) * ((pt b).1 - (pt c).1) + ((pt a).2 - (pt c).2) * ((pt b).2 - (pt c).2) := by grind
              omega
            have t := pba
            rw [tns] at t
            have m1 := Int.mul_pos d2 pab
            have m2 := Int.mul_neg_of_pos_of_neg d1 (show tn (pt a) (pt b) (pt c) < 0 by omega)
            unfold ic
            omega
          have no : ∀ c', T4 b a = some c' → 0 < ic (pt a) (pt b) (pt c') (pt n) := fun c' e => by
            rw [k] at e
            cases e
            exact pos
          obtain ⟨r8, l8, f8, h8, p8, g8, o8⟩ := end_ s57
          exact ⟨2 * oldN T4 n + sd'.length, by omega, _, _, _, _, _, _, _, _, _, _, _, _, _, _, _, _, _, _, _, _, _, T4, D4, fl4, sd', us, gs, rfl, rfl, ⟨r8, hg4.len, l8, hg4.isT, f8, hg4.fnd, h8, p8, hg4.mid.pop (fun c' e => Int.le_of_lt (no c' e)), MidF.pop_no hg4.mid hg4.midF no, hg4.low, hg4.ne⟩, g8, by omega, o8⟩
end
/-! ### flat edges are taken out; the border's -/
section
variable {P : Program} {w : World} {K : PySem.W.Frag} {mg : Str → Option Value} {base : Heap}
theorem look_mem : ∀ (l : List (Nat × Int)), (l.map (·.1)).Nodup → ∀ (k : Nat) (v : Int), look l k = some v ↔ (k, v) ∈ l
  | [], _, k, v => ⟨fun h => (nomatch h), fun h => (nomatch h)⟩
  | e :: l, nd, k, v => by
    rw [List.map_cons] at nd
    have nd := List.nodup_cons.mp nd
    rw [look_cons, List.mem_cons]
    by_cases h : e.1 = k
    · rw [if_pos h]
      constructor
      · intro w
        exact .inl (Prod.ext h.symm (Option.some.inj w).symm)
      · rintro (w | w)
        · rw [← w]
        · exact absurd (List.mem_map.mpr ⟨(k, v), w, h.symm⟩) nd.1
    · rw [if_neg h, look_mem l nd.2 k v]
      exact ⟨.inr, fun w => w.elim (fun w => absurd (congrArg Prod.fst w).symm h) id⟩
theorem get_all {α : Type} (l : List α) (d : α) : (List.range l.length).map (fun i => l.getD i d) = l := by
  apply List.ext_getElem
  · simp
  · intro i h1 h2
    rw [List.getElem_map, List.getElem_range, List.getD_eq_getElem?_getD, List.getElem?_eq_getElem h2, Option.getD_some]
theorem fil_one {l : List (Nat × Int)} {v : Int} {c : Nat} (nd : (l.map (·.1)).Nodup) (h : look l c = some v) (u : ∀ k, look l k = some v → k = c) :
    ((List.range l.length).filter fun i => decide ((l.getD i (0, 0)).2 = v)).map (fun i => V.int (l.getD i (0, 0)).1) = [.int c] := by
  have e : ((List.range l.length).filter fun i => decide ((l.getD i (0, 0)).2 = v)).map (fun i => V.int (l.getD i (0, 0)).1) = (l.filter fun e => decide (e.2 = v)).map fun e => V.int e.1 := by
    conv => rhs; rw [← get_all l (0, 0), List.filter_map, List.map_map]
    rfl
  rw [e]
  have all : ∀ e ∈ l.filter (fun e => decide (e.2 = v)), e = (c, v) := fun e he => by
    have := List.mem_filter.mp he
    have e2 := of_decide_eq_true this.2
    have m : (e.1, v) ∈ l := by
      rw [← e2]
      exact this.1
    exact Prod.ext (u _ ((look_mem l nd _ _).mpr m)) e2
  have has : (c, v) ∈ l.filter fun e => decide (e.2 = v) := List.mem_filter.mpr ⟨(look_mem l nd _ _).mp h, decide_eq_true rfl⟩
  have nd2 : (l.filter fun e => decide (e.2 = v)).Nodup := List.Nodup.sublist List.filter_sublist (List.Pairwise.of_map (·.1) (fun a b n e => n (congrArg _ e)) nd)
  generalize l.filter (fun e => decide (e.2 = v)) = m at all has nd2
  match m, all, has, nd2 with
  | [a], all, _, _ => rw [all a List.mem_cons_self]; rfl
  | a :: b :: r, all, _, nd2 => exact absurd (List.mem_cons.mpr (.inl ((all a List.mem_cons_self).trans (all b (by simp)).symm))) (List.nodup_cons.mp nd2).1
theorem taken {D D1 D2 : Nat → List (Nat × Int)} {N : Nat} {M : TriF} {a b c d : Nat} (hM : IsT D N M) (cb : c ≠ b) (h1 : D1 = setD D a (dropN (D a) b)) (h2 : D2 = setD D1 a (putN (D1 a) c d)) : IsT D2 N (takeO M a b c d) := fun x y hx => by
  rw [h2, look_setP, h1, look_setR, hM x y hx]
  unfold takeO
  repeat' split
  all_goals first
    | rfl
    | omega
theorem encF_at {l : List (Nat × Nat)} {i : Nat} {k : List L2.Key} {v : V} (h : (encF l)[i]? = some (k, v)) : ∃ a b, l[i]? = some (a, b) ∧ k = k2 (a, b) := by
  unfold encF at h
  rw [List.getElem?_map] at h
  cases e : l[i]? with
  | none =>
    rw [e] at h
    cases h
  | some q =>
    rw [e] at h
    exact ⟨q.1, q.2, rfl, (congrArg Prod.fst (Option.some.inj h)).symm⟩
theorem encD_at {l : List (Nat × Int)} {i : Nat} {k : L2.Key} {v : V} (h : (encD l)[i]? = some (k, v)) : i < l.length ∧ k = Sum.inl ((l.getD i (0, 0)).1 : Int) ∧ v = .int (l.getD i (0, 0)).2 := by
  unfold encD at h
  rw [List.getElem?_map] at h
  cases e : l[i]? with
  | none =>
    rw [e] at h
    cases h
  | some q =>
    rw [e] at h
    have := Option.some.inj h
    rw [List.getD_eq_getElem?_getD, e, Option.getD_some]
    exact ⟨(List.getElem?_eq_some_iff.mp e).1, (congrArg Prod.fst this).symm, (congrArg Prod.snd this).symm⟩
theorem same_new {H : Hp} {p : Addr} {o : HO} (n : H p = none) : Same H (L2.upd H p o) := fun b o' e => by
  rw [upd_ne (ne_of_none e n)]
  exact e
theorem lock_back {H H4 : Hp} {d : Addr} {u : HO} {od : Obj} (e : H d = some u) (s : Same (L2.upd H d (.frz od u)) H4) : Same H (L2.upd H4 d u) := fun b o k => by
  by_cases c : b = d
  · subst c
    rw [upd_same, ← e, k]
  · rw [upd_ne c]
    exact s _ _ (by rw [upd_ne c]; exact k)
theorem take_not {α : Type} {l : List α} {i : Nat} {x : α} (nd : l.Nodup) (e : l[i]? = some x) : x ∉ l.take i := fun m => by
  obtain ⟨j, hj, k⟩ := List.getElem_of_mem m
  have j1 : j < i := by
    rw [List.length_take] at hj
    omega
  have j2 : l[j]? = some x := by
    rw [← k, List.getElem_take, List.getElem?_eq_getElem]
  have := (List.getElem?_inj (List.getElem?_eq_some_iff.mp e).1 nd).mp (e.trans j2.symm)
  omega
abbrev s_merge : Stmt := topS 22
abbrev n_merge : List Str := ["links", "flat", "ends", "a", "b", "of_a", "before", "c"]
theorem c_merge : FnScope n_merge ["links", "flat"] (defScope s_merge) := ⟨rfl, rfl, rfl, by decide +kernel, rfl, by decide +kernel, by decide +kernel⟩
def p_merge : Sp := fun vs H Q _ => ∃ (p F : Addr) (A : List Addr) (pt : Nat → Pt) (D : Nat → List (Nat × Int)) (T : TriF) (fl : List (Nat × Nat)), vs = [.ref p, .ref F] ∧ Lk H p A D ∧ IsT D A.length T ∧ TriT pt A.length T ∧ FlatAt H F fl ∧ fl.Nodup ∧ FlatT pt T fl ∧
  ∀ H' D' M R, Lk H' p A D' → IsT D' A.length M → Mrg pt T M R → (∀ a b, (a, b) ∈ R ↔ (a, b) ∈ fl ∨ (b, a) ∈ fl) → OffA (F :: A) H H' → Q .non H'
set_option pp.maxSteps 300 in
theorem ok_merge  (D : Df K mg "merge" s_merge ["links", "flat"]) : Cl P w K mg base CX0 "merge" 1 ["links", "flat"] (p_merge) := by
  refine D.cl fun f fd F => F.ok c_merge (fun vs H Q E h => ?_) (fun cdv A outer s H vs Q E hr h => ?_)
  · obtain ⟨p, F, A, pt, D, T, fl, rfl, hl, hT, tri, hF, nd0, ff, q⟩ := h
    rfl
  · obtain ⟨p, F, A, pt, D, T, fl, rfl, hl, hT, tri, hF, nd0, ff, q⟩ := h
    have nd := c_merge.nd
    have hu : _ := hu_of hr
    refine ⟨_, (pss_one (ps_lock (ps_for PassesOwn.never rfl (pi_keys (pv 1)) (pg_name (i := 2) nd rfl (.inl rfl)) (pss_one (ps_for PassesOwn.never rfl (pi_tup (pe_tupG (pa_cons (pv 2) (pa_cons (pe_revT (pv 2)) pa_nil)))) (pg_tup (by rfl) (pgs_cons (pg_name (i := 3) nd rfl (.inl rfl)) (pgs_cons (pg_name (i := 4) nd rfl (.inr rfl)) pgs_nil))) (pss_cons (ps_set (i := 5) nd rfl (.inr rfl) (pe_ix ix_list (pv 0) (pv 3) (fun _ _ => rfl))) (pss_cons (ps_lock (ps_setLc (i := 6) (own := [("c", 7)]) (g := (gName 7))  rfl nd rfl rfl (sw_true rfl rfl rfl (by decide +kernel)) (pi_keys (pv 5)) (blkOk_by (own := [("c", 7)]) (N := n_merge) (sc := defScope s_merge) (by decide +kernel)) (fun _ _ _ _ _ => by exact (pg_name (i := 7) nd rfl (.inl rfl))) (fun _ _ _ _ _ => by exact (pts_one (pt_cmpR op_eq (pe_dget hu (pv 5) (pv 7) (fun _ _ => rfl)) (pv 4) (nomark _)))) (fun _ _ _ _ _ => by exact (pv 7)))) (pss_one (ps_dput hu (pv 5) (pe_ix ix_list (pv 6) pe_int (fun _ _ => rfl)) (pe_dpop1 (pv 5) (pv 4) ⟨by rfl, by rfl, by rfl, by rfl⟩) rfl))))))))), ?_⟩
    refine ⟨F, _, hF, True.intro, fun od => ⟨_, rfl, F, od, rfl, .inr ⟨encF fl, upd_same, ?_⟩⟩⟩
    have FA : F ∉ A := fun m => by
      obtain ⟨i, li, ei⟩ := List.getElem_of_mem m
      have z := hl.each i F (by rw [List.getElem?_eq_getElem li, ei])
      have k : H F = some _ := hF
      rw [k] at z
      cases z
    have pF : p ≠ F := fun w => by
      have z := hl.at_
      have k : H F = some _ := hF
      rw [w, k] at z
      cases z
    have hl1 : Lk (upd H F (.frz od (.dT (encF fl)))) p A D := hl.of (by rw [upd_ne pF]; exact hl.at_) fun x kvs e => upd_o hF e nofun
    have fz : upd H F (.frz od (.dT (encF fl))) F = some (.frz od (.dT (encF fl))) := upd_same
    have o1 : OffA (F :: A) H (upd H F (.frz od (.dT (encF fl)))) := OffA.put List.mem_cons_self
    generalize upd H F (.frz od (.dT (encF fl))) = H1 at hl1 fz o1 ⊢
    refine for_it walk_keysT (fun i σ' H' => ∃ (y2 y3 y4 y5 y6 y7 : Option L2.V) (M : TriF) (R : List (Nat × Nat)) (D' : Nat → List (Nat × Int)), σ' = [some (.ref p), some (.ref F), y2, y3, y4, y5, y6, y7] ∧ Lk H' p A D' ∧ IsT D' A.length M ∧ Mrg pt T M R ∧ (∀ a b, (a, b) ∈ R ↔ (a, b) ∈ fl.take i ∨ (b, a) ∈ fl.take i) ∧ H' F = some (.frz od (.dT (encF fl))) ∧ OffA (F :: A) H H') ⟨_, _, _, _, _, _, T, [], D, rfl, hl1, hT, mrg_start tri, by simp, fz, o1⟩ (fun i σ' H' _ z => ?_) (fun i x σ' H' H2 hi z y => ?_) fun σ' H' z => ?_
    · obtain ⟨y2, y3, y4, y5, y6, y7, M, R, D', rfl, l2, t2, m2, r2, f2, o2⟩ := z
      exact f2
    · obtain ⟨y2, y3, y4, y5, y6, y7, M, R, D', rfl, l2, t2, m2, r2, f2, o2⟩ := z
      obtain ⟨rfl, ky, v0, e1, ek, rfl, ep⟩ := y
      obtain ⟨a, b, ei, rfl⟩ := encF_at ek
      have ep : H2 e1 = some (.tup [.int a, .int b]) := ep
      have mem : (a, b) ∈ fl := List.mem_of_getElem? ei
      obtain ⟨u, v, k1, k2, z0⟩ := ff.on mem
      have ab := (tri.ne k1).1
      have n1 : (a, b) ∉ R := fun w => by
        rcases (r2 a b).mp w with w | w
        · exact take_not nd0 ei w
        · exact ff.one mem (List.mem_of_mem_take w)
      have n2 : (b, a) ∉ R := fun w => by
        rcases (r2 b a).mp w with w | w
        · exact ff.one mem (List.mem_of_mem_take w)
        · exact take_not nd0 ei w
      have tk : fl.take (i + 1) = fl.take i ++ [(a, b)] := by
        rw [List.take_add_one, ei]
        rfl
      repeat array_get_dec
      refine ⟨e1, _, _, rfl, SqT.of ep, fun e2 n3 => ?_⟩
      have s3 : Same H2 (upd H2 e2 (.tup [.int b, .int a])) := same_new n3
      have ep2 : upd H2 e2 (.tup [.int b, .int a]) e2 = some (.tup [.int b, .int a]) := upd_same
      generalize upd H2 e2 (.tup [.int b, .int a]) = H3 at s3 ep2 ⊢
      repeat array_get_dec
      refine fun t4 H4 s4 n4 e4 => ?_
      have s24 := s3.trans s4
      refine ⟨t4, rfl, ⟨_, SqT.of e4⟩, for_tup (K := K) (a := t4) (xs := [V.ref e1, V.ref e2]) (fun j σ'' H'' => ∃ (y3 y4 y5 y6 y7 : Option L2.V) (M' : TriF) (R' : List (Nat × Nat)) (D2 : Nat → List (Nat × Int)), σ'' = [some (.ref p), some (.ref F), some (.ref e1), y3, y4, y5, y6, y7] ∧ Lk H'' p A D2 ∧ IsT D2 A.length M' ∧ Mrg pt T M' R' ∧ (∀ q, q ∈ R' ↔ q ∈ R ∨ (1 ≤ j ∧ q = (a, b)) ∨ (2 ≤ j ∧ q = (b, a))) ∧ H'' F = some (.frz od (.dT (encF fl))) ∧ OffA (F :: A) H H'' ∧ H'' e1 = some (.tup [.int a, .int b]) ∧ H'' e2 = some (.tup [.int b, .int a]) ∧ H'' t4 = some (.tup [V.ref e1, V.ref e2]))
        ⟨_, _, _, _, _, M, R, D', rfl, l2.same s24, t2, m2, by simp, s24 _ _ f2, OffA.trans o2 (OffA.same s24), s24 _ _ ep, s4 _ _ ep2, e4⟩ (fun j σ'' H'' _ z => ?_) (fun j x σ'' H'' hx z => ?_) fun σ'' H'' z => ?_⟩
      · obtain ⟨y3, y4, y5, y6, y7, M', R', D2, _, _, _, _, _, _, _, _, _, z⟩ := z
        exact SqT.of z
      · obtain ⟨y3, y4, y5, y6, y7, M', R', D2, rfl, l5, t5, m5, r5, f5, o5, p1, p2, p4⟩ := z
        obtain ⟨u1, v1, e, rfl, ee, cu, cv, k3, k4, z3, nR, ext⟩ : ∃ (u1 v1 : Nat) (e : Addr), x = V.ref e ∧ H'' e = some (.tup [.int u1, .int v1]) ∧ ∃ cu cv, T u1 v1 = some cu ∧ T v1 u1 = some cv ∧ ic (pt u1) (pt v1) (pt cu) (pt cv) = 0 ∧ (u1, v1) ∉ R' ∧ (∀ q, q ∈ (u1, v1) :: R' ↔ q ∈ R ∨ (1 ≤ j + 1 ∧ q = (a, b)) ∨ (2 ≤ j + 1 ∧ q = (b, a))) := by
          match j, hx with
          | 0, hx =>
            refine ⟨a, b, e1, (Option.some.inj hx).symm, p1, u, v, k1, k2, z0, fun w => ?_, fun q => ?_⟩
            · rcases (r5 _).mp w with w | w | w
              · exact n1 w
              · exact absurd w.1 (by decide)
              · exact absurd w.1 (by decide)
            · rw [List.mem_cons, r5]
              constructor
              · rintro (w | w | w | w)
                · exact .inr (.inl ⟨by decide, w⟩)
                · exact .inl w
                · exact absurd w.1 (by decide)
                · exact absurd w.1 (by decide)
              · rintro (w | w | w)
                · exact .inr (.inl w)
                · exact .inl w.2
                · exact absurd w.1 (by decide)
          | 1, hx =>
            refine ⟨b, a, e2, (Option.some.inj hx).symm, p2, v, u, k2, k1, ic_back z0, fun w => ?_, fun q => ?_⟩
            · rcases (r5 _).mp w with w | w | w
              · exact n2 w
              · exact ab (congrArg Prod.snd w.2)
              · exact absurd w.1 (by decide)
            · rw [List.mem_cons, r5]
              constructor
              · rintro (w | w | w | w)
                · exact .inr (.inr ⟨by decide, w⟩)
                · exact .inl w
                · exact .inr (.inl ⟨by decide, w.2⟩)
                · exact absurd w.1 (by decide)
              · rintro (w | w | w)
                · exact .inr (.inl w)
                · exact .inr (.inr (.inl ⟨by decide, w.2⟩))
                · exact .inl w.2
        obtain ⟨c, d, h1, h2, h3, h4, m6⟩ := m5.take tri k3 k4 z3 nR
        have rg := tri.rng k3
        obtain ⟨pu, eu⟩ : ∃ x, A[u1]? = some x := ⟨_, List.getElem?_eq_getElem rg.1⟩
        repeat array_get_dec
        refine ⟨p, _, _, _, rfl, rfl, SqL.of l5.at_, atI_nat (by rw [List.getElem?_map, eu]; rfl), ?_⟩
        repeat array_get_dec
        have ed := l5.each u1 pu eu
        refine ⟨pu, _, ed, True.intro, fun od2 => ⟨_, rfl, pu, od2, rfl, .inl ⟨_, upd_same, fun L nL => ?_⟩⟩⟩
        have fz2 : upd H'' pu (.frz od2 (.dK (encD (D2 u1)))) pu = some (.frz od2 (.dK (encD (D2 u1)))) := upd_same
        have back {H4 : Hp} (s : Same (upd H'' pu (.frz od2 (.dK (encD (D2 u1))))) H4) : Same H'' (upd H4 pu (.dK (encD (D2 u1)))) := lock_back ed s
        have ky := l5.key u1 rg.1
        have lenD : (encD (D2 u1)).length = (D2 u1).length := by
          unfold encD
          rw [List.length_map]
        generalize upd H'' pu (.frz od2 (.dK (encD (D2 u1)))) = H5 at fz2 back nL ⊢
        refine lc_fil walk_keys nL (by have := ky.len; have := l5.few; omega) (fun H6 s6 => s6 _ _ fz2) (fun i => decide (((D2 u1).getD i (0, 0)).2 = (v1 : Int))) (fun i => V.int ((D2 u1).getD i (0, 0)).1) (fun i x H6 H7 Kp Kn hi s6 eD yi fin finN => ?_) fun H6 s6 eD => ?_
        · obtain ⟨rfl, key, val, ek, rfl⟩ := yi
          obtain ⟨il, rfl, rfl⟩ := encD_at ek
          have lk : look (D2 u1) ((D2 u1).getD i (0, 0)).1 = some ((D2 u1).getD i (0, 0)).2 := (look_mem _ ky.nod _ _).mpr (by
            rw [List.getD_eq_getElem?_getD, List.getElem?_eq_getElem il, Option.getD_some]
            exact List.getElem_mem il)
          have dg : DGet H7 pu (.int ((D2 u1).getD i (0, 0)).1) (some (.int ((D2 u1).getD i (0, 0)).2)) := .inl ⟨_, Sum.inl (((D2 u1).getD i (0, 0)).1 : Int), .inr ⟨od2, s6 _ _ fz2⟩, rfl, by
            rw [val_enc, lk]
            rfl⟩
          refine ⟨rfl, ?_⟩
          repeat array_get_dec
          refine ⟨pu, _, rfl, dg, ?_⟩
          repeat array_get_dec
          by_cases z : ((D2 u1).getD i (0, 0)).2 = (v1 : Int)
          · refine w_itt (congrArg L2.V.int z) ?_
            exact ⟨_, rfl, fin _ (decide_eq_true z) (Same.refl _)⟩
          · refine w_itf (fun e => z (L2.V.int.inj e)) ?_
            exact finN _ (decide_eq_false z) (Same.refl _)
        · rw [lenD, fil_one ky.nod (by rw [t5 u1 c rg.1, h2]; rfl) (fun k w => by
            rw [t5 u1 k rg.1] at w
            refine h4 k ?_
            cases e : M' u1 k with
            | none =>
              rw [e] at w
              cases w
            | some q =>
              rw [e] at w
              have : (q : Int) = v1 := Option.some.inj w
              rw [show q = v1 by omega])] at eD
          refine ⟨s6 _ _ fz2, ?_⟩
          have s7 := back s6
          have eL : upd H6 pu (.dK (encD (D2 u1))) L = some (.lst [.int c]) := by
            rw [upd_ne (fun w => by
              rw [w, fz2] at nL
              cases nL)]
            exact eD
          generalize upd H6 pu (.dK (encD (D2 u1))) = H7 at s7 eL ⊢
          have l7 := l5.same s7
          have d7 := l7.dropA (b := v1) eu
          repeat array_get_dec
          refine ⟨.inl ⟨_, .inl (l7.each u1 pu eu)⟩, ?_⟩
          repeat array_get_dec
          refine ⟨_, Sum.inl (v1 : Int), _, l7.each u1 pu eu, rfl, by rw [val_enc, t5 u1 v1 rg.1, h1]; rfl, ?_⟩
          have keep {x : Addr} {o : HO} (k : H7 x = some o) (n : x ≠ pu) (o1 o2 : HO) : upd (upd H7 pu o1) pu o2 x = some o := by
            rw [upd_ne n, upd_ne n]
            exact k
          have npu {x : Addr} {o : HO} (k : H7 x = some o) (n : ∀ kvs, o ≠ .dK kvs) : x ≠ pu := fun w => by
            rw [w, l7.each u1 pu eu] at k
            exact n _ (Option.some.inj k).symm
          have mpu : pu ∈ A := List.mem_of_getElem? eu
          have Fpu : F ≠ pu := fun w => FA (w ▸ mpu)
          have cA : c < A.length := by
            obtain ⟨d3, w, _⟩ := m5.at_ h2
            exact (tri.rng w).2.1
          repeat array_get_dec
          refine ⟨L, _, _, _, rfl, rfl, SqL.of (by rw [upd_ne (npu eL nofun)]; exact eL), rfl, ?_⟩
          refine ⟨pu, _, rfl, d7.dput (b := c) eu d, ?_⟩
          exact ⟨_, _, _, _, _, takeO M' u1 v1 c d, (u1, v1) :: R', _, rfl, d7.putA eu cA d, taken t5 h3 rfl rfl, m6, ext, keep (s7 _ _ f5) Fpu _ _, OffA.trans o5 (OffA.trans (OffA.same s7) (OffA.trans (OffA.put (List.mem_cons_of_mem _ mpu)) (OffA.put (List.mem_cons_of_mem _ mpu)))), keep (s7 _ _ p1) (npu (s7 _ _ p1) nofun) _ _, keep (s7 _ _ p2) (npu (s7 _ _ p2) nofun) _ _, keep (s7 _ _ p4) (npu (s7 _ _ p4) nofun) _ _⟩
      · obtain ⟨y3, y4, y5, y6, y7, M', R', D2, rfl, l5, t5, m5, r5, f5, o5, p1, p2, p4⟩ := z
        refine ⟨_, _, _, _, _, _, M', R', D2, rfl, l5, t5, m5, fun x y => ?_, f5, o5⟩
        rw [r5, r2, tk, List.mem_append, List.mem_append, List.mem_singleton, List.mem_singleton]
        have l2 : ([V.ref e1, V.ref e2] : List L2.V).length = 2 := rfl
        rw [l2]
        constructor
        · rintro ((w | w) | w | w)
          · exact .inl (.inl w)
          · exact .inr (.inl w)
          · exact .inl (.inr w.2)
          · have := w.2
            exact .inr (.inr (by cases this; rfl))
        · rintro ((w | w) | w | w)
          · exact .inl (.inl w)
          · exact .inr (.inl ⟨by decide, w⟩)
          · exact .inl (.inr w)
          · exact .inr (.inr ⟨by decide, by cases w; rfl⟩)
    · obtain ⟨y2, y3, y4, y5, y6, y7, M, R, D', rfl, l2, t2, m2, r2, f2, o2⟩ := z
      refine ⟨f2, ?_⟩
      have le : (encF fl).length = fl.length := by
        unfold encF
        rw [List.length_map]
      exact q _ D' M R (l2.of (by rw [upd_ne pF]; exact l2.at_) fun x kvs e => upd_o f2 e nofun) t2 m2 (fun a b => by
        have := r2 a b
        rw [le, List.take_length] at this
        exact this) (OffA.trans o2 (OffA.put List.mem_cons_self))
end
/-! ### what is joined along the border -/
section
variable {P : Program} {w : World} {K : PySem.W.Frag} {mg : Str → Option Value} {base : Heap}
/-- a chain of numbers as the program keeps it, the last one last -/
def chV (st : List Nat) : List L2.V := st.reverse.map fun (i : Nat) => L2.V.int i
theorem chV_len (st : List Nat) : (chV st).length = st.length := by
  unfold chV
  rw [List.length_map, List.length_reverse]
theorem chV_cons (b : Nat) (st : List Nat) : chV (b :: st) = chV st ++ [.int b] := by
  unfold chV
  rw [List.reverse_cons, List.map_append]
  rfl
theorem chV_top (b : Nat) (r : List Nat) : atI (chV (b :: r)) (-1) = some (.int b) := by
  rw [chV_cons]
  generalize chV r = xs
  have hl : (xs ++ [V.int b]).length = xs.length + 1 := by simp
  have e1 : ixN (xs ++ [V.int b]).length (-1) = some xs.length := by
    unfold ixN
    rw [hl, if_neg (by decide), if_pos (by omega)]
    congr 1
    omega
  unfold atI
  rw [e1]
  simp
theorem chV_two (b a : Nat) (r : List Nat) : atI (chV (b :: a :: r)) (-2) = some (.int a) := by
  have e : chV (b :: a :: r) = chV r ++ [V.int a, V.int b] := by
    rw [chV_cons, chV_cons, List.append_assoc]
    rfl
  rw [e]
  generalize chV r = xs
  have hl : (xs ++ [V.int a, V.int b]).length = xs.length + 2 := by simp
  have e1 : ixN (xs ++ [V.int a, V.int b]).length (-2) = some xs.length := by
    unfold ixN
    rw [hl, if_neg (by decide), if_pos (by omega)]
    congr 1
    omega
  unfold atI
  rw [e1]
  simp
theorem chV_drop (b : Nat) (st : List Nat) : (chV (b :: st)).dropLast = chV st := by
  rw [chV_cons]
  simp
theorem cut_d1 {xs : List V} (h : 1 ≤ xs.length) : cutV xs (some 1) none = xs.drop 1 := by
  have z : cutV xs (some ((1 : Nat) : Int)) none = xs.drop 1 := by
    unfold cutV
    rw [HT.sIx_nat, HT.sIx_none, Nat.min_eq_left h]
    exact List.take_of_length_le (by rw [List.length_drop]; omega)
  exact z
theorem chV_at {st : List Nat} {i : Nat} {x : V} (h : (chV st)[i]? = some x) : ∃ a : Nat, st.reverse[i]? = some a ∧ x = .int a := by
  unfold chV at h
  rw [List.getElem?_map] at h
  cases e : st.reverse[i]? with
  | none =>
    rw [e] at h
    cases h
  | some a =>
    rw [e] at h
    exact ⟨a, rfl, (Option.some.inj h).symm⟩
theorem chV_zip {st : List Nat} {i : Nat} {x z : V} (ne : st ≠ []) (h : (chV st)[i]? = some x) (k : (cutV (chV st) (some 1) none)[i]? = some z) : ∃ a b : Nat, st.reverse[i]? = some a ∧ st.reverse[i + 1]? = some b ∧ x = .int a ∧ z = .int b ∧ a ∈ st ∧ b ∈ st := by
  rw [cut_d1 (by rw [chV_len]; exact Nat.pos_of_ne_zero fun w => ne (List.length_eq_zero_iff.mp w)), List.getElem?_drop, Nat.add_comm] at k
  obtain ⟨a, ea, xa⟩ := chV_at h
  obtain ⟨b, eb, xb⟩ := chV_at k
  exact ⟨a, b, ea, eb, xa, xb, List.mem_reverse.mp (List.mem_of_getElem? ea), List.mem_reverse.mp (List.mem_of_getElem? eb)⟩
theorem edgI_at : ∀ (l : List Nat) (x y : Nat), (x, y) ∈ EdgI l ↔ ∃ i : Nat, l[i]? = some x ∧ l[i + 1]? = some y
  | [], x, y => ⟨fun h => (nomatch h), fun ⟨i, h, _⟩ => (nomatch h)⟩
  | [b], x, y => ⟨fun h => (nomatch h), fun ⟨i, _, h⟩ => by simp at h⟩
  | b :: a :: r, x, y => by
    show (x, y) ∈ (b, a) :: EdgI (a :: r) ↔ _
    rw [List.mem_cons, edgI_at (a :: r) x y]
    constructor
    · rintro (h | ⟨i, h, k⟩)
      · cases h
        exact ⟨0, rfl, rfl⟩
      · exact ⟨i + 1, h, k⟩
    · rintro ⟨i, h, k⟩
      cases i with
      | zero =>
        have e1 : b = x := Option.some.inj h
        have e2 : a = y := Option.some.inj k
        exact .inl (by rw [e1, e2])
      | succ i => exact .inr ⟨i, h, k⟩
theorem edgI_rev (l : List Nat) (x y : Nat) : (x, y) ∈ EdgI l ↔ ∃ i : Nat, l.reverse[i]? = some y ∧ l.reverse[i + 1]? = some x := by
  rw [edgI_at]
  constructor
  · rintro ⟨i, h, k⟩
    have hi := (List.getElem?_eq_some_iff.mp k).1
    refine ⟨l.length - 2 - i, ?_, ?_⟩
    · rw [List.getElem?_reverse (by omega), ← k]
      congr 1
      omega
    · rw [List.getElem?_reverse (by omega), ← h]
      congr 1
      omega
  · rintro ⟨i, h, k⟩
    have hi := (List.getElem?_eq_some_iff.mp k).1
    rw [List.length_reverse] at hi
    refine ⟨l.length - 2 - i, ?_, ?_⟩
    · rw [← k, List.getElem?_reverse (by omega)]
      congr 1
      omega
    · rw [← h, List.getElem?_reverse (by omega)]
      congr 1
      omega
/-- where E says so there is -1 now, all else is as it was -/
def Ov (E : Nat → Nat → Prop) (N : Nat) (D D' : Nat → List (Nat × Int)) : Prop := ∀ x y, x < N → (E x y → look (D' x) y = some (-1)) ∧ (¬ E x y → look (D' x) y = look (D x) y)
theorem Ov.step {E E' : Nat → Nat → Prop} {N : Nat} {D D' : Nat → List (Nat × Int)} {a b : Nat} (h : Ov E N D D') (e : ∀ x y, E' x y ↔ E x y ∨ (x = a ∧ y = b)) : Ov E' N D (setD D' a (putN (D' a) b (-1))) := fun x y hx => by
  rw [look_setP, e]
  by_cases c : x = a ∧ y = b
  · rw [if_pos c]
    exact ⟨fun _ => rfl, fun w => absurd (.inr c) w⟩
  · rw [if_neg c]
    exact ⟨fun w => (h x y hx).1 (w.resolve_right c), fun w => (h x y hx).2 fun z => w (.inl z)⟩
abbrev s_enclose : Stmt := topS 23
abbrev n_enclose : List Str := ["links", "low", "high", "a", "b"]
theorem c_enclose : FnScope n_enclose ["links", "low", "high"] (defScope s_enclose) := ⟨rfl, rfl, rfl, by decide +kernel, rfl, by decide +kernel, by decide +kernel⟩
def p_enclose : Sp := fun vs H Q _ => ∃ (p l h : Addr) (A : List Addr) (D : Nat → List (Nat × Int)) (lo hi : List Nat), vs = [.ref p, .ref l, .ref h] ∧ Lk H p A D ∧ H l = some (.lst (chV lo)) ∧ H h = some (.lst (chV hi)) ∧ (∀ x ∈ lo, x < A.length) ∧ (∀ x ∈ hi, x < A.length) ∧ lo ≠ [] ∧ hi ≠ [] ∧
  ∀ H' D', Lk H' p A D' → Ov (fun x y => (x, y) ∈ EdgI lo ∨ (y, x) ∈ EdgI hi) A.length D D' → OffA A H H' → Q .non H'
set_option pp.maxSteps 300 in
theorem ok_enclose  (D : Df K mg "enclose" s_enclose ["links", "low", "high"]) (mzip : mg "zip" = none) : Cl P w K mg base CX0 "enclose" 1 ["links", "low", "high"] (p_enclose) := by
  refine D.cl fun f fd F => F.ok c_enclose (fun vs H Q E h => ?_) (fun cdv A outer s H vs Q E hr h => ?_)
  · obtain ⟨p, l, h0, A, D, lo, hi, rfl, hl, el, eh, rl, rh, ne1, ne2, q⟩ := h
    rfl
  · obtain ⟨p, l, h0, A, D, lo, hi, rfl, hl, el, eh, rl, rh, ne1, ne2, q⟩ := h
    have nd := c_enclose.nd
    have hu : _ := hu_of hr
    refine ⟨_, (pss_cons (ps_for PassesOwn.never rfl (pi_zip (by rfl) mzip (pa_cons (pv 1) (pa_cons (pe_slice sl_listG (pv 1) (po_some pe_int) po_none) pa_nil))) (pg_tup (by rfl) (pgs_cons (pg_name (i := 3) nd rfl (.inl rfl)) (pgs_cons (pg_name (i := 4) nd rfl (.inl rfl)) pgs_nil))) (pss_one (ps_dput hu (pe_ix ix_list (pv 0) (pv 4) (fun _ _ => rfl)) (pv 3) pe_neg rfl))) (pss_one (ps_for PassesOwn.never rfl (pi_zip (by rfl) mzip (pa_cons (pv 2) (pa_cons (pe_slice sl_listG (pv 2) (po_some pe_int) po_none) pa_nil))) (pg_tup (by rfl) (pgs_cons (pg_name (i := 3) nd rfl (.inl rfl)) (pgs_cons (pg_name (i := 4) nd rfl (.inl rfl)) pgs_nil))) (pss_one (ps_dput hu (pe_ix ix_list (pv 0) (pv 3) (fun _ _ => rfl)) (pv 4) pe_neg rfl))))), ?_⟩
    repeat array_get_dec
    refine ⟨l, _, rfl, SqL.of el, fun q1 H1 s1 n1 e1 => ?_⟩
    repeat array_get_dec
    have hl1 := hl.same s1
    refine ⟨l, q1, _, _, rfl, SqL.of (s1 _ _ el), SqL.of e1, ?_⟩
    refine for_it (walk_zip (xs := chV lo) (ys := cutV (chV lo) (some 1) none) rfl) (fun i σ' H' => ∃ (y3 y4 : Option L2.V) (D' : Nat → List (Nat × Int)), σ' = [some (.ref p), some (.ref l), some (.ref h0), y3, y4] ∧ Lk H' p A D' ∧ Ov (fun x y => ∃ j : Nat, j < i ∧ lo.reverse[j]? = some y ∧ lo.reverse[j + 1]? = some x) A.length D D' ∧ OffA A H H' ∧ H' l = some (.lst (chV lo)) ∧ H' h0 = some (.lst (chV hi)) ∧ H' q1 = some (.lst (cutV (chV lo) (some 1) none))) ⟨_, _, _, rfl, hl1, (fun x y _ => ⟨fun ⟨j, w, _⟩ => absurd w (by omega), fun _ => rfl⟩), OffA.same s1, s1 _ _ (el), s1 _ _ (eh), e1⟩ (fun i σ' H' _ z => ?_) (fun i x σ' H' H2 hi' z y => ?_) fun σ' H' z => ?_
    · obtain ⟨y3, y4, D', _, _, _, _, w1, w2, w3⟩ := z
      exact ⟨SqL.of w1, SqL.of w3⟩
    · obtain ⟨y3, y4, D', rfl, l2, ov, o2, w1, w2, w3⟩ := z
      obtain ⟨t, x1, x2, rfl, nt, rfl, h1, h2⟩ := y
      obtain ⟨a, b, ea, eb, rfl, rfl, ma, mb⟩ := chV_zip ne1 h1 h2
      have la := rl a ma
      have lb := rl b mb
      have st := same_new (o := .tup [V.int a, V.int b]) nt
      have et : upd H' t (.tup [V.int a, V.int b]) t = some (.tup [V.int a, V.int b]) := upd_same
      generalize upd H' t (.tup [V.int a, V.int b]) = H3 at st et ⊢
      have l3 := l2.same st
      obtain ⟨pu, eu⟩ : ∃ x, A[b]? = some x := ⟨_, List.getElem?_eq_getElem lb⟩
      repeat array_get_dec
      refine ⟨p, _, _, _, rfl, rfl, SqL.of l3.at_, atI_nat (by rw [List.getElem?_map, eu]; rfl), ?_⟩
      repeat array_get_dec
      refine ⟨pu, _, rfl, l3.dput (b := a) eu (-1), ?_⟩
      have mpu : pu ∈ A := List.mem_of_getElem? eu
      have keep {x : Addr} {xs : List V} (k : H' x = some (.lst xs)) : upd H3 pu (.dK (encD (putN (D' b) a (-1)))) x = some (.lst xs) := upd_o (l3.each b pu eu) (st _ _ k) nofun
      exact ⟨_, _, _, rfl, l3.putA eu la (-1), ov.step fun x y => by
        constructor
        · rintro ⟨j, w1, w2, w3⟩
          rcases Nat.lt_succ_iff_lt_or_eq.mp w1 with w | rfl
          · exact .inl ⟨j, w, w2, w3⟩
          · rw [ea] at w2
            rw [eb] at w3
            exact .inr ⟨(Option.some.inj w3).symm, (Option.some.inj w2).symm⟩
        · rintro (⟨j, w1, w2⟩ | ⟨rfl, rfl⟩)
          · exact ⟨j, by omega, w2⟩
          · exact ⟨i, by omega, ea, eb⟩, OffA.trans o2 (OffA.trans (OffA.same st) (OffA.put mpu)), keep w1, keep w2, keep w3⟩
    · obtain ⟨y3, y4, D5, rfl, l5, ov5, o5, f1, f2, f3⟩ := z
      have full : (min (chV lo).length (cutV (chV lo) (some 1) none).length) = lo.length - 1 := by
        rw [cut_d1 (by rw [chV_len]; exact Nat.pos_of_ne_zero fun w => ne1 (List.length_eq_zero_iff.mp w)), List.length_drop, chV_len]
        omega
      rw [full] at ov5
      have ov5 : Ov (fun x y => (x, y) ∈ EdgI lo) A.length D D5 := fun x y hx => by
        have e : (x, y) ∈ EdgI lo ↔ ∃ j : Nat, j < lo.length - 1 ∧ lo.reverse[j]? = some y ∧ lo.reverse[j + 1]? = some x := by
          rw [edgI_rev]
          constructor
          · rintro ⟨j, h, k⟩
            have := (List.getElem?_eq_some_iff.mp k).1
            rw [List.length_reverse] at this
            exact ⟨j, by omega, h, k⟩
          · rintro ⟨j, _, h, k⟩
            exact ⟨j, h, k⟩
        have w := ov5 x y hx
        exact ⟨fun z => w.1 (e.mp z), fun z => w.2 fun k => z (e.mpr k)⟩
      have start2 : Ov (fun x y => (x, y) ∈ EdgI lo ∨ ∃ j : Nat, j < 0 ∧ hi.reverse[j]? = some x ∧ hi.reverse[j + 1]? = some y) A.length D D5 := fun x y hx => ⟨fun z => (ov5 x y hx).1 (z.resolve_right fun ⟨j, w, _⟩ => absurd w (by omega)), fun z => (ov5 x y hx).2 fun k => z (.inl k)⟩
      repeat array_get_dec
      refine ⟨h0, _, rfl, SqL.of f2, fun q1 H6 s6 n6 e6 => ?_⟩
      repeat array_get_dec
      have hl6 := l5.same s6
      refine ⟨h0, q1, _, _, rfl, SqL.of (s6 _ _ f2), SqL.of e6, ?_⟩
      refine for_it (walk_zip (xs := chV hi) (ys := cutV (chV hi) (some 1) none) rfl) (fun i σ' H' => ∃ (y3 y4 : Option L2.V) (D' : Nat → List (Nat × Int)), σ' = [some (.ref p), some (.ref l), some (.ref h0), y3, y4] ∧ Lk H' p A D' ∧ Ov (fun x y => (x, y) ∈ EdgI lo ∨ ∃ j : Nat, j < i ∧ hi.reverse[j]? = some x ∧ hi.reverse[j + 1]? = some y) A.length D D' ∧ OffA A H H' ∧ H' l = some (.lst (chV lo)) ∧ H' h0 = some (.lst (chV hi)) ∧ H' q1 = some (.lst (cutV (chV hi) (some 1) none))) ⟨_, _, _, rfl, hl6, start2, OffA.trans o5 (OffA.same s6), s6 _ _ (f1), s6 _ _ (f2), e6⟩ (fun i σ' H' _ z => ?_) (fun i x σ' H' H2 hi' z y => ?_) fun σ' H' z => ?_
      · obtain ⟨y3, y4, D', _, _, _, _, w1, w2, w3⟩ := z
        exact ⟨SqL.of w2, SqL.of w3⟩
      · obtain ⟨y3, y4, D', rfl, l2, ov, o2, w1, w2, w3⟩ := z
        obtain ⟨t, x1, x2, rfl, nt, rfl, h1, h2⟩ := y
        obtain ⟨a, b, ea, eb, rfl, rfl, ma, mb⟩ := chV_zip ne2 h1 h2
        have la := rh a ma
        have lb := rh b mb
        have st := same_new (o := .tup [V.int a, V.int b]) nt
        have et : upd H' t (.tup [V.int a, V.int b]) t = some (.tup [V.int a, V.int b]) := upd_same
        generalize upd H' t (.tup [V.int a, V.int b]) = H3 at st et ⊢
        have l3 := l2.same st
        obtain ⟨pu, eu⟩ : ∃ x, A[a]? = some x := ⟨_, List.getElem?_eq_getElem la⟩
        repeat array_get_dec
        refine ⟨p, _, _, _, rfl, rfl, SqL.of l3.at_, atI_nat (by rw [List.getElem?_map, eu]; rfl), ?_⟩
        repeat array_get_dec
        refine ⟨pu, _, rfl, l3.dput (b := b) eu (-1), ?_⟩
        have mpu : pu ∈ A := List.mem_of_getElem? eu
        have keep {x : Addr} {xs : List V} (k : H' x = some (.lst xs)) : upd H3 pu (.dK (encD (putN (D' a) b (-1)))) x = some (.lst xs) := upd_o (l3.each a pu eu) (st _ _ k) nofun
        exact ⟨_, _, _, rfl, l3.putA eu lb (-1), ov.step fun x y => by
          constructor
          · rintro (w | ⟨j, w1, w2, w3⟩)
            · exact .inl (.inl w)
            · rcases Nat.lt_succ_iff_lt_or_eq.mp w1 with w | rfl
              · exact .inl (.inr ⟨j, w, w2, w3⟩)
              · rw [ea] at w2
                rw [eb] at w3
                exact .inr ⟨(Option.some.inj w2).symm, (Option.some.inj w3).symm⟩
          · rintro ((w | ⟨j, w1, w2⟩) | ⟨rfl, rfl⟩)
            · exact .inl w
            · exact .inr ⟨j, by omega, w2⟩
            · exact .inr ⟨i, by omega, ea, eb⟩, OffA.trans o2 (OffA.trans (OffA.same st) (OffA.put mpu)), keep w1, keep w2, keep w3⟩
      · obtain ⟨y3, y4, D7, rfl, l7, ov7, o7, g1, g2, g3⟩ := z
        have full : (min (chV hi).length (cutV (chV hi) (some 1) none).length) = hi.length - 1 := by
          rw [cut_d1 (by rw [chV_len]; exact Nat.pos_of_ne_zero fun w => ne2 (List.length_eq_zero_iff.mp w)), List.length_drop, chV_len]
          omega
        rw [full] at ov7
        refine q _ D7 l7 (fun x y hx => ?_) o7
        have e : (y, x) ∈ EdgI hi ↔ ∃ j : Nat, j < hi.length - 1 ∧ hi.reverse[j]? = some x ∧ hi.reverse[j + 1]? = some y := by
          rw [edgI_rev]
          constructor
          · rintro ⟨j, h, k⟩
            have := (List.getElem?_eq_some_iff.mp k).1
            rw [List.length_reverse] at this
            exact ⟨j, by omega, h, k⟩
          · rintro ⟨j, _, h, k⟩
            exact ⟨j, h, k⟩
        have w := ov7 x y hx
        exact ⟨fun z => w.1 (z.elim .inl fun k => .inr (e.mp k)), fun z => w.2 fun k => z (k.elim .inl fun k => .inr (e.mpr k))⟩
end
/-! ### links of ascending sites, site by site -/
section
variable {P : Program} {w : World} {K : PySem.W.Frag} {mg : Str → Option Value} {base : Heap}
/-- the links after a side that the new site sees -/
theorem added {D D1 D2 D3 : Nat → List (Nat × Int)} {N : Nat} {T : TriF} {n x y : Nat} (hT : IsT D N T) (h1 : D1 = setD D y (putN (D y) n x)) (h2 : D2 = setD D1 n (putN (D1 n) x y)) (h3 : D3 = setD D2 x (putN (D2 x) y n)) : IsT D3 N (addV n T (x, y)) := fun u v hu => by
  rw [h3, look_setP, h2, look_setP, h1, look_setP, hT u v hu]
  unfold addV
  simp only
  repeat' split
  all_goals first
    | rfl
    | omega
/-- while the chains are walked for the site n: what stands in the heap -/
structure Phs (H : Hp) (R p F l h q : Addr) (ts A : List Addr) (pt : Nat → Pt) (D : Nat → List (Nat × Int)) (fl vl : List (Nat × Nat)) (us : List Addr) (lo hi : List Nat) : Prop where
  pc : Pc H R p F q ts A pt D fl vl us
  low : H l = some (.lst (chV lo))
  high : H h = some (.lst (chV hi))
  ne : l ≠ h ∧ p ≠ l ∧ p ≠ h ∧ R ≠ l ∧ R ≠ h ∧ q ≠ l ∧ q ≠ h
theorem Phs.same {H H' : Hp} {R p F l h q : Addr} {ts A : List Addr} {pt : Nat → Pt} {D : Nat → List (Nat × Int)} {fl vl : List (Nat × Nat)} {us : List Addr} {lo hi : List Nat} (k : Phs H R p F l h q ts A pt D fl vl us lo hi) (s : Same H H') : Phs H' R p F l h q ts A pt D fl vl us lo hi := ⟨k.pc.same s, s _ _ k.low, s _ _ k.high, k.ne⟩
theorem Phs.turn {H H' : Hp} {R p F l h q : Addr} {ts A : List Addr} {pt : Nat → Pt} {D D' : Nat → List (Nat × Int)} {fl vl : List (Nat × Nat)} {us : List Addr} {lo hi : List Nat} (k : Phs H R p F l h q ts A pt D fl vl us lo hi) (g : OffA A H H') (m : Lk H' p A D') : Phs H' R p F l h q ts A pt D' fl vl us lo hi :=
  have z := k.pc.lk.kp g
  ⟨k.pc.turn g m, z _ _ (fun _ => nofun) k.low, z _ _ (fun _ => nofun) k.high, k.ne⟩
theorem Phs.setL {H : Hp} {R p F l h q : Addr} {ts A : List Addr} {pt : Nat → Pt} {D : Nat → List (Nat × Int)} {fl vl : List (Nat × Nat)} {us : List Addr} {lo hi lo' : List Nat} (k : Phs H R p F l h q ts A pt D fl vl us lo hi) : Phs (L2.upd H l (.lst (chV lo'))) R p F l h q ts A pt D fl vl us lo' hi :=
  ⟨k.pc.gone k.low ⟨k.ne.2.2.2.1, k.ne.2.1, k.ne.2.2.2.2.2.1⟩, upd_same, by rw [upd_ne (Ne.symm k.ne.1)]; exact k.high, k.ne⟩
theorem Phs.setH {H : Hp} {R p F l h q : Addr} {ts A : List Addr} {pt : Nat → Pt} {D : Nat → List (Nat × Int)} {fl vl : List (Nat × Nat)} {us : List Addr} {lo hi hi' : List Nat} (k : Phs H R p F l h q ts A pt D fl vl us lo hi) : Phs (L2.upd H h (.lst (chV hi'))) R p F l h q ts A pt D fl vl us lo hi' :=
  ⟨k.pc.gone k.high ⟨k.ne.2.2.2.2.1, k.ne.2.2.1, k.ne.2.2.2.2.2.2⟩, by rw [upd_ne k.ne.1]; exact k.low, upd_same, k.ne⟩
theorem Phs.more {H : Hp} {R p F l h q u : Addr} {ts A : List Addr} {pt : Nat → Pt} {D : Nat → List (Nat × Int)} {fl vl : List (Nat × Nat)} {us : List Addr} {lo hi : List Nat} {a b : Nat} (k : Phs H R p F l h q ts A pt D fl vl us lo hi) (e : H u = some (.tup [.int a, .int b])) : Phs (L2.upd H q (.lst (us.map V.ref ++ [.ref u]))) R p F l h q ts A pt D fl (vl ++ [(a, b)]) (us ++ [u]) lo hi :=
  ⟨k.pc.more e, by rw [upd_ne (Ne.symm k.ne.2.2.2.2.2.1)]; exact k.low, by rw [upd_ne (Ne.symm k.ne.2.2.2.2.2.2)]; exact k.high, k.ne⟩
/-- between two sites: all that stands -/
structure Lnk (H0 H : Hp) (R p F l h : Addr) (ts A : List Addr) (pt : Nat → Pt) (n : Nat) (O : TriF) (D : Nat → List (Nat × Int)) (fl : List (Nat × Nat)) (lo hi : List Nat) : Prop where
  keep : Same H0 H
  rows : RowsAt H R ts pt
  lk : Lk H p A D
  isT : IsT D A.length O
  fat : FlatAt H F fl
  fnd : fl.Nodup
  low : H l = some (.lst (chV lo))
  high : H h = some (.lst (chV hi))
  dl : Dl pt n O
  ff : FlatT pt O fl
  cl : ChI tn pt n lo
  ch : ChI tm pt n hi
theorem off3 {H : Hp} {A : List Addr} {a b c : Addr} {o1 o2 o3 : HO} (ma : a ∈ A) (mb : b ∈ A) (mc : c ∈ A) : OffA A H (L2.upd (L2.upd (L2.upd H a o1) b o2) c o3) := OffA.trans (OffA.put ma) (OffA.trans (OffA.put mb) (OffA.put mc))
theorem chV_get (b : Nat) (st : List Nat) : (chV (b :: st))[(chV (b :: st)).length - 1]? = some (.int b) := by
  rw [chV_cons]
  simp
theorem popI_len (T : Sgt) (P : Nat → Pt) (s : Nat) : ∀ l : List Nat, (popI T P s l).length ≤ l.length
  | [] => Nat.le_refl _
  | [_] => Nat.le_refl _
  | b :: a :: r => by
    have ih := popI_len T P s (a :: r)
    show (if T (P a) (P b) (P s) < 0 then popI T P s (a :: r) else b :: a :: r).length ≤ _
    split
    · exact Nat.le_trans ih (Nat.le_succ _)
    · exact Nat.le_refl _
theorem sees_len (T : Sgt) (P : Nat → Pt) (s : Nat) : ∀ l : List Nat, (seesI T P s l).length ≤ l.length
  | [] => Nat.le_refl _
  | [_] => Nat.zero_le _
  | b :: a :: r => by
    have ih := sees_len T P s (a :: r)
    show (if T (P a) (P b) (P s) < 0 then (b, a) :: seesI T P s (a :: r) else []).length ≤ _
    split
    · exact Nat.succ_le_succ ih
    · exact Nat.zero_le _
theorem sees_go {T : Sgt} {P : Nat → Pt} {s b a : Nat} {r : List Nat} (h : T (P a) (P b) (P s) < 0) : seesI T P s (b :: a :: r) = (b, a) :: seesI T P s (a :: r) ∧ popI T P s (b :: a :: r) = popI T P s (a :: r) := by
  constructor
  · show (if T (P a) (P b) (P s) < 0 then (b, a) :: seesI T P s (a :: r) else []) = _
    rw [if_pos h]
  · show (if T (P a) (P b) (P s) < 0 then popI T P s (a :: r) else b :: a :: r) = _
    rw [if_pos h]
theorem sees_stop {T : Sgt} {P : Nat → Pt} {s b a : Nat} {r : List Nat} (h : 0 ≤ T (P a) (P b) (P s)) : seesI T P s (b :: a :: r) = [] ∧ popI T P s (b :: a :: r) = b :: a :: r := by
  constructor
  · show (if T (P a) (P b) (P s) < 0 then (b, a) :: seesI T P s (a :: r) else []) = _
    rw [if_neg (by omega)]
  · show (if T (P a) (P b) (P s) < 0 then popI T P s (a :: r) else b :: a :: r) = _
    rw [if_neg (by omega)]
theorem same_put {H H' : Hp} {x : Addr} {o : HO} (s : Same H H') (n : H x = none) : Same H (L2.upd H' x o) := fun b z e => by
  rw [upd_ne (ne_of_none e n)]
  exact s _ _ e
theorem same_off {X : List Addr} {H H' H'' : Hp} (s : Same H H') (o : OffA X H' H'') (n : ∀ x ∈ X, H x = none) : Same H H'' := fun b z e => o b z (fun m => by
  rw [n b m] at e
  cases e) (s _ _ e)
theorem same_lk {H H' H'' : Hp} {p : Addr} {A : List Addr} {D : Nat → List (Nat × Int)} (_ : Lk H'' p A D) (s : Same H H') (o : OffA A H' H'') (n : ∀ x ∈ A, H x = none) : Same H H'' := same_off s o n
abbrev s_linked : Stmt := topS 18
abbrev n_linked : List Str := ["rows", "links", "flat", "low", "high", "at", "x", "y", "near", "ahead", "b", "bx", "by", "a", "ax", "ay", "_"]
theorem c_linked : FnScope n_linked ["rows"] (defScope s_linked) := ⟨rfl, rfl, rfl, by decide +kernel, rfl, by decide +kernel, by decide +kernel⟩
def p_linked : Sp := fun vs H Q _ => ∃ (R : Addr) (ts : List Addr) (pt : Nat → Pt), vs = [.ref R] ∧ RowsAt H R ts pt ∧ 0 < ts.length ∧ ts.length ≤ 300 ∧ Srt pt ts.length ∧
  ∀ (p : Addr) (A : List Addr) D H', A.length = ts.length → Same H H' → H p = none → (∀ a ∈ A, H a = none) → Lk H' p A D → LinkT pt ts.length (fun x y => if x < ts.length then look (D x) y else none) → (∀ x y c, OnE pt ts.length x y c → ∃ d, OnE pt ts.length x y d ∧ OnE pt ts.length d x y) → Q (.ref p) H'
set_option pp.maxSteps 300 in
theorem ok_linked  (D : Df K mg "linked" s_linked ["rows"]) (C_settle : Cl P w K mg base CX0 "settle" 2 ["rows", "links", "flat", "at", "ahead"] (p_settle)) (C_merge : Cl P w K mg base CX0 "merge" 1 ["links", "flat"] (p_merge)) (C_enclose : Cl P w K mg base CX0 "enclose" 1 ["links", "low", "high"] (p_enclose)) (mlen : mg "len" = none) (mrange : mg "range" = none) : Cl P w K mg base CX0 "linked" 3 ["rows"] (p_linked) := by
  refine D.cl fun f fd F => F.ok c_linked (fun vs H Q E h => ?_) (fun cdv A outer s H vs Q E hr h => ?_)
  · obtain ⟨R, ts, pt, rfl, hr0, n0, n300, so, q⟩ := h
    rfl
  · obtain ⟨R, ts, pt, rfl, hr0, n0, n300, so, q⟩ := h
    have nd := c_linked.nd
    have hu : _ := hu_of hr
    refine ⟨_, (pss_cons (ps_setLc (i := 1) (own := [("_", 16)]) (g := (gName 16)) (tt := tYes)  rfl nd rfl rfl (sw_true rfl rfl rfl (by decide +kernel)) (pi_list (pv 0)) (blkOk_by (own := [("_", 16)]) (N := n_linked) (sc := defScope s_linked) (by decide +kernel)) (fun _ _ _ _ _ => by exact (pg_name (i := 16) nd rfl (.inl rfl))) (fun _ _ _ _ _ => by exact pts_nil) (fun _ _ _ _ _ => by exact pe_dnewK)) (pss_cons (ps_par3 (i := 2) (j := 3) (l := 4) (by rfl) nd rfl rfl rfl (by decide) (by decide) (by decide) rfl rfl rfl (pa_cons pe_dnewT (pa_cons (pe_lstG (pa_cons pe_int pa_nil)) (pa_cons (pe_lstG (pa_cons pe_int pa_nil)) pa_nil))) (by rfl)) (pss_cons (ps_for PassesOwn.never rfl (pi_range2 (by rfl) mrange (pa_cons pe_int (pa_cons (pe_callB call_len_seq (by rfl) mlen (by decide +kernel) (pa_cons (pv 0) pa_nil)) pa_nil))) (pg_name (i := 5) nd rfl (.inl rfl)) (pss_cons (ps_asg (pe_ix ix_list (pv 0) (pv 5) (fun _ _ => rfl)) (pg_tup (by rfl) (pgs_cons (pg_name (i := 6) nd rfl (.inl rfl)) (pgs_cons (pg_name (i := 7) nd rfl (.inl rfl)) pgs_nil)))) (pss_cons (ps_par (i := 8) (j := 9) (by rfl) nd rfl rfl (by decide) rfl rfl (pa_cons (pe_ix ix_list (pv 1) (pv 5) (fun _ _ => rfl)) (pa_cons (pe_lstG pa_nil) pa_nil)) (by rfl)) (pss_cons (ps_set (i := 10) nd rfl (.inl rfl) (pe_ix ix_list (pv 3) pe_neg (fun _ _ => rfl))) (pss_cons (ps_asg (pe_ix ix_list (pv 0) (pv 10) (fun _ _ => rfl)) (pg_tup (by rfl) (pgs_cons (pg_name (i := 11) nd rfl (.inl rfl)) (pgs_cons (pg_name (i := 12) nd rfl (.inl rfl)) pgs_nil)))) (C8.pss_cut (ps_while PassesOwn.never (pt_cmpR op_gt (pe_callB call_len_seq (by rfl) mlen (by decide +kernel) (pa_cons (pv 3) pa_nil)) pe_int (nomark _)) (pss_cons (ps_set (i := 13) nd rfl (.inl rfl) (pe_ix ix_list (pv 3) pe_neg (fun _ _ => rfl))) (pss_cons (ps_asg (pe_ix ix_list (pv 0) (pv 13) (fun _ _ => rfl)) (pg_tup (by rfl) (pgs_cons (pg_name (i := 14) nd rfl (.inl rfl)) (pgs_cons (pg_name (i := 15) nd rfl (.inl rfl)) pgs_nil)))) (pss_cons (ps_if (pt_cmpR op_ge (pe_op op_mulW (pe_op op_sub (pv 11) (pv 14)) (pe_op op_sub (pv 7) (pv 15))) (pe_op op_mulW (pe_op op_sub (pv 12) (pv 15)) (pe_op op_sub (pv 6) (pv 14))) (nomark _)) (pss_one ps_break) pss_nil) (pss_cons (ps_expr (pe_bm0 PySem.F.plainAttrs_list PySem.F.slot_list_pop PySem.F.type_list_pop mt_pop (pv 3))) (pss_cons (ps_asg (pe_tupG (pa_cons (pv 10) (pa_cons (pv 13) (pa_cons (pv 5) pa_nil)))) (pg_tup (by rfl) (pgs_cons (pg_sub (pe_ix ix_list (pv 1) (pv 13) (fun _ _ => rfl)) (pv 5) (L2.set_dict hu)) (pgs_cons (pg_sub (pv 8) (pv 10) (L2.set_dict hu)) (pgs_cons (pg_sub (pe_ix ix_list (pv 1) (pv 10) (fun _ _ => rfl)) (pv 13) (L2.set_dict hu)) pgs_nil))))) (pss_cons (ps_expr (pe_bm PySem.F.plainAttrs_list PySem.F.slot_list_append PySem.F.type_list_append mt_append (pv 9) (pa_cons (pe_tupG (pa_cons (pv 10) (pa_cons (pv 13) pa_nil))) pa_nil))) (pss_one (ps_par3 (i := 10) (j := 11) (l := 12) (by rfl) nd rfl rfl rfl (by decide) (by decide) (by decide) rfl rfl rfl (pa_cons (pv 13) (pa_cons (pv 14) (pa_cons (pv 15) pa_nil))) (by rfl)))))))))) (pss_cons (ps_expr (pe_bm PySem.F.plainAttrs_list PySem.F.slot_list_append PySem.F.type_list_append mt_append (pv 3) (pa_cons (pv 5) pa_nil))) (pss_cons (ps_set (i := 10) nd rfl (.inl rfl) (pe_ix ix_list (pv 4) pe_neg (fun _ _ => rfl))) (pss_cons (ps_asg (pe_ix ix_list (pv 0) (pv 10) (fun _ _ => rfl)) (pg_tup (by rfl) (pgs_cons (pg_name (i := 11) nd rfl (.inl rfl)) (pgs_cons (pg_name (i := 12) nd rfl (.inl rfl)) pgs_nil)))) (C8.pss_cut (ps_while PassesOwn.never (pt_cmpR op_gt (pe_callB call_len_seq (by rfl) mlen (by decide +kernel) (pa_cons (pv 4) pa_nil)) pe_int (nomark _)) (pss_cons (ps_set (i := 13) nd rfl (.inl rfl) (pe_ix ix_list (pv 4) pe_neg (fun _ _ => rfl))) (pss_cons (ps_asg (pe_ix ix_list (pv 0) (pv 13) (fun _ _ => rfl)) (pg_tup (by rfl) (pgs_cons (pg_name (i := 14) nd rfl (.inl rfl)) (pgs_cons (pg_name (i := 15) nd rfl (.inl rfl)) pgs_nil)))) (pss_cons (ps_if (pt_cmpR op_le (pe_op op_mulW (pe_op op_sub (pv 11) (pv 14)) (pe_op op_sub (pv 7) (pv 15))) (pe_op op_mulW (pe_op op_sub (pv 12) (pv 15)) (pe_op op_sub (pv 6) (pv 14))) (nomark _)) (pss_one ps_break) pss_nil) (pss_cons (ps_expr (pe_bm0 PySem.F.plainAttrs_list PySem.F.slot_list_pop PySem.F.type_list_pop mt_pop (pv 4))) (pss_cons (ps_asg (pe_tupG (pa_cons (pv 13) (pa_cons (pv 10) (pa_cons (pv 5) pa_nil)))) (pg_tup (by rfl) (pgs_cons (pg_sub (pe_ix ix_list (pv 1) (pv 10) (fun _ _ => rfl)) (pv 5) (L2.set_dict hu)) (pgs_cons (pg_sub (pv 8) (pv 13) (L2.set_dict hu)) (pgs_cons (pg_sub (pe_ix ix_list (pv 1) (pv 13) (fun _ _ => rfl)) (pv 10) (L2.set_dict hu)) pgs_nil))))) (pss_cons (ps_expr (pe_bm PySem.F.plainAttrs_list PySem.F.slot_list_append PySem.F.type_list_append mt_append (pv 9) (pa_cons (pe_tupG (pa_cons (pv 13) (pa_cons (pv 10) pa_nil))) pa_nil))) (pss_one (ps_par3 (i := 10) (j := 11) (l := 12) (by rfl) nd rfl rfl rfl (by decide) (by decide) (by decide) rfl rfl rfl (pa_cons (pv 13) (pa_cons (pv 14) (pa_cons (pv 15) pa_nil))) (by rfl)))))))))) (pss_cons (ps_expr (pe_bm PySem.F.plainAttrs_list PySem.F.slot_list_append PySem.F.type_list_append mt_append (pv 4) (pa_cons (pv 5) pa_nil))) (pss_one (ps_expr (pe_cl C_settle (hr.mono (by decide)) (by rfl) pass0 (pa_cons (pv 0) (pa_cons (pv 1) (pa_cons (pv 2) (pa_cons (pv 5) (pa_cons (pv 9) pa_nil))))))))))))))))))) (pss_cons (ps_expr (pe_cl C_merge (hr.mono (by decide)) (by rfl) pass0 (pa_cons (pv 1) (pa_cons (pv 2) pa_nil)))) (pss_cons (ps_expr (pe_cl C_enclose (hr.mono (by decide)) (by rfl) pass0 (pa_cons (pv 1) (pa_cons (pv 3) (pa_cons (pv 4) pa_nil))))) (pss_one (ps_ret (pv 1)))))))), ?_⟩
    repeat array_get_dec
    refine ⟨⟨_, SqL.of hr0.at_⟩, fun p np => ?_⟩
    refine lc_newN (walk_list (xs := ts.map V.ref)) np (by rw [List.length_map]; omega) (fun H1 s1 => SqL.of (s1 _ _ hr0.at_)) (fun _ => .dK []) (fun i x H1 H2 Kp hi s1 eD yi fin => ?_) fun H1 A s1 e1 nw ndA newA => ?_
    · obtain ⟨rfl, ex⟩ := yi
      exact ⟨rfl, fun t nt => fin t _ (same_new nt) nt upd_same⟩
    have lenA : A.length = ts.length := by
      rw [nw.1, List.length_range, List.length_map]
    have lk1 : Lk H1 p A (fun _ => []) := ⟨e1, ndA, by omega, fun i a ea => (nw.2 i i a (by rw [List.getElem?_range (by have := (List.getElem?_eq_some_iff.mp ea).1; rw [List.length_map]; omega)]) ea).2, fun i _ => ⟨List.nodup_nil, fun e h => nomatch h⟩⟩
    repeat array_get_dec
    refine fun F nF => ?_
    have sF : Same H1 (upd H1 F (.dT [])) := same_new nF
    have eF : upd H1 F (.dT []) F = some (.dT []) := upd_same
    generalize upd H1 F (.dT []) = H2 at sF eF ⊢
    repeat array_get_dec
    refine fun l H3 s3 n3 e3 => ?_
    repeat array_get_dec
    refine fun h0 H4 s4 n4 e4 => ?_
    have S4 : Same H H4 := s1.trans (sF.trans (s3.trans s4))
    have S24 := s3.trans s4
    have eR4 := S4 _ _ hr0.at_
    have lk4 : Lk H4 p A (fun _ => []) := lk1.same (sF.trans S24)
    have nF0 : H F = none := s1.free nF
    have nl0 : H l = none := (s1.trans sF).free n3
    have nh0 : H h0 = none := (s1.trans (sF.trans s3)).free n4
    have ne1 : l ≠ h0 ∧ p ≠ l ∧ p ≠ h0 ∧ R ≠ l ∧ R ≠ h0 ∧ R ≠ p := ⟨ne_of_none e3 n4, ne_of_none (sF _ _ e1) n3, ne_of_none (s3 _ _ (sF _ _ e1)) n4, ne_of_none hr0.at_ nl0, ne_of_none hr0.at_ nh0, ne_of_none hr0.at_ np⟩
    have start : Lnk H H4 R p F l h0 ts A pt 1 (fun _ _ => none) (fun _ => []) [] [0] [0] := ⟨S4, ⟨eR4, fun i t e => ⟨(hr0.each i t e).1.same S4, (hr0.each i t e).2⟩⟩, lk4, fun x y _ => rfl, S24 _ _ eF, List.nodup_nil, s4 _ _ e3, e4, dl_one, flat_one, chI_one _ _, chI_one _ _⟩
    repeat array_get_dec
    refine ⟨by rw [List.length_map]; omega, for_range (lo := 1) (n := ((ts.map V.ref).length - 1 : Int).toNat) (fun i σ' H' => ∃ (y5 y6 y7 y8 y9 y10 y11 y12 y13 y14 y15 y16 : Option L2.V) (O : TriF) (D : Nat → List (Nat × Int)) (fl : List (Nat × Nat)) (lo hi : List Nat), σ' = [some (.ref R), some (.ref p), some (.ref F), some (.ref l), some (.ref h0), y5, y6, y7, y8, y9, y10, y11, y12, y13, y14, y15, y16] ∧ Lnk H H' R p F l h0 ts A pt (i + 1) O D fl lo hi) ⟨_, _, _, _, _, _, _, _, _, _, _, _, _, _, _, _, _, rfl, start⟩ (fun i σ' H' hi' z => ?_) fun σ' H' z => ?_⟩
    · obtain ⟨y5, y6, y7, y8, y9, y10, y11, y12, y13, y14, y15, y16, O, D, fl, lo, hi, rfl, k⟩ := z
      have low : i + 1 < A.length := by
        rw [List.length_map] at hi'
        omega
      have en : (1 : Int) + (i : Int) = ((i + 1 : Nat) : Int) := by omega
      rw [en]
      generalize hn : i + 1 = n at k low ⊢
      obtain ⟨r1, el1⟩ := k.cl.hd
      obtain ⟨r2, eh1⟩ := k.ch.hd
      have lenA2 : ts.length = A.length := lenA.symm
      obtain ⟨tN, etn⟩ : ∃ t, ts[n]? = some t := ⟨_, List.getElem?_eq_getElem (by omega)⟩
      obtain ⟨zn, bn1, bn2, bn3, bn4⟩ := k.rows.each n tN etn
      obtain ⟨pn, enn⟩ : ∃ x, A[n]? = some x := ⟨_, List.getElem?_eq_getElem low⟩
      have so1 : Srt pt (n + 1) := so.mono (by omega)
      have lenlo : lo.length ≤ 300 := Nat.le_trans (len_le n lo ((k.cl.dec (so.mono (by omega))).imp fun h => by omega) k.cl.lt) (by omega)
      have lenhi : hi.length ≤ 300 := Nat.le_trans (len_le n hi ((k.ch.dec (so.mono (by omega))).imp fun h => by omega) k.ch.lt) (by omega)
      have ref {i : Nat} {x : Addr} (e : A[i]? = some x) : atI (A.map V.ref) (i : Int) = some (.ref x) := atI_nat (by rw [List.getElem?_map, e]; rfl)
      have site {H5 : Hp} (r5 : RowsAt H5 R ts pt) {i : Nat} (li : i < A.length) : ∃ t, atI (ts.map V.ref) (i : Int) = some (.ref t) ∧ Sit H5 t (pt i).1 (pt i).2 ∧ Bd 1000000 (pt i).1 (pt i).2 := by
        have li' : i < ts.length := by omega
        refine ⟨ts[i], atI_nat (by rw [List.getElem?_map, List.getElem?_eq_getElem li']; rfl), r5.each i _ (List.getElem?_eq_getElem li')⟩
      obtain ⟨tN2, itn, _⟩ := site k.rows low
      have tNe : tN2 = tN := by
        have z := atI_nat (xs := ts.map V.ref) (j := n) (v := .ref tN) (by rw [List.getElem?_map, etn]; rfl)
        rw [itn] at z
        exact V.ref.inj (Option.some.inj z)
      subst tNe
      repeat array_get_dec
      refine ⟨R, _, _, _, rfl, rfl, SqL.of k.rows.at_, itn, ?_⟩
      repeat array_get_dec
      refine ⟨p, _, _, _, rfl, rfl, SqL.of k.lk.at_, ref enn, ?_⟩
      repeat array_get_dec
      refine fun q0 H5 s5 n5 e5 => ?_
      have SH5 := k.keep.trans s5
      have nq0 : H q0 = none := k.keep.free n5
      have ph5 : Phs H5 R p F l h0 q0 ts A pt D fl [] [] lo hi := ⟨⟨k.rows.of (s5 _ _ k.rows.at_) (fun _ _ e => s5 _ _ e), k.lk.same s5, s5 _ _ k.fat, e5, ⟨rfl, fun i u e h => nomatch h⟩, ne_of_none k.rows.at_ n5, ne_of_none k.lk.at_ n5⟩, s5 _ _ k.low, s5 _ _ k.high, ne1.1, ne1.2.1, ne1.2.2.1, ne1.2.2.2.1, ne1.2.2.2.2.1, Ne.symm (ne_of_none k.low n5), Ne.symm (ne_of_none k.high n5)⟩
      have lb0 : n - 1 < A.length := by omega
      obtain ⟨tb0, ib0, sb0, b01, b02, b03, b04⟩ := site ph5.pc.rows lb0
      repeat array_get_dec
      refine ⟨l, _, _, _, rfl, rfl, SqL.of ph5.low, by rw [el1]; exact chV_top _ _, ?_⟩
      repeat array_get_dec
      refine ⟨R, _, _, _, rfl, rfl, SqL.of ph5.pc.rows.at_, ib0, ?_⟩
      repeat array_get_dec
      refine ⟨fun σ1 Hd => ∃ (y10 y11 y12 y13 y14 y15 y16 : Option L2.V) (us : List Addr) (D6 : Nat → List (Nat × Int)), σ1 = [some (.ref R), some (.ref p), some (.ref F), some (.ref l), some (.ref h0), some (.int n), some (.int (pt n).1), some (.int (pt n).2), some (.ref pn), some (.ref q0), y10, y11, y12, y13, y14, y15, y16] ∧ Phs Hd R p F l h0 q0 ts A pt D6 fl (seesI tn pt n lo) us (popI tn pt n lo) hi ∧ IsT D6 A.length (addsV n O (seesI tn pt n lo)) ∧ Same H Hd, ?_, ?_⟩
      · refine ⟨fun m σ6 H6 => ∃ (y13 y14 y15 y16 : Option L2.V) (b : Nat) (r : List Nat) (vl : List (Nat × Nat)) (us : List Addr) (D6 : Nat → List (Nat × Int)), m = (b :: r).length ∧ σ6 = [some (.ref R), some (.ref p), some (.ref F), some (.ref l), some (.ref h0), some (.int n), some (.int (pt n).1), some (.int (pt n).2), some (.ref pn), some (.ref q0), some (.int b), some (.int (pt b).1), some (.int (pt b).2), y13, y14, y15, y16] ∧ Phs H6 R p F l h0 q0 ts A pt D6 fl vl us (b :: r) hi ∧ IsT D6 A.length (addsV n O vl) ∧ (seesI tn pt n lo) = vl ++ seesI tn pt n (b :: r) ∧ popI tn pt n lo = popI tn pt n (b :: r) ∧ (∀ x ∈ b :: r, x < n) ∧ Same H H6, ⟨_, _, _, _, _, n - 1, _, [], [], D, rfl, rfl, (by rw [← el1]; exact ph5), k.isT, by rw [← el1]; rfl, by rw [← el1], by rw [← el1]; exact k.cl.lt, SH5⟩, ?_⟩
        rintro m σ6 H6 ⟨y13, y14, y15, y16, b, r, vl, us, D6, rfl, rfl, ph, isT6, esee, epop, all, SH6⟩
        have lb : b < A.length := by
          have := all b List.mem_cons_self
          omega
        have lst : (chV (b :: r)).length = (b :: r).length := chV_len _
        repeat array_get_dec
        refine ⟨l, _, rfl, .inl (SqL.of ph.low), ?_⟩
        repeat array_get_dec
        rcases r with _ | ⟨a, r⟩
        · refine w_itf (by rw [lst]; simp) ?_
          exact ⟨_, _, _, _, _, _, _, us, D6, rfl, by rw [esee, epop]; simpa [seesI, popI] using ph, by rw [esee]; simpa [seesI, popI] using isT6, SH6⟩
        · refine w_itt (by rw [lst]; simp only [List.length_cons]; omega) ?_
          refine ⟨_, fun _ _ z => z, ?_⟩
          have la : a < A.length := by
            have := all a (by simp)
            omega
          obtain ⟨ta, ia, sa, a1, a2, a3, a4⟩ := site ph.pc.rows la
          obtain ⟨tb, ib, sb, b1, b2, b3, b4⟩ := site ph.pc.rows lb
          obtain ⟨pa, ea⟩ : ∃ x, A[a]? = some x := ⟨_, List.getElem?_eq_getElem la⟩
          obtain ⟨pb, eb⟩ : ∃ x, A[b]? = some x := ⟨_, List.getElem?_eq_getElem lb⟩
          repeat array_get_dec
          refine ⟨l, _, _, _, rfl, rfl, SqL.of ph.low, chV_two b a r, ?_⟩
          repeat array_get_dec
          refine ⟨R, _, _, _, rfl, rfl, SqL.of ph.pc.rows.at_, ia, ?_⟩
          repeat array_get_dec
          refine w_ifd (fun c => ?_) fun c => ?_
          · have c0 : 0 ≤ tn (pt a) (pt b) (pt n) := by
                  unfold tn
                  omega
            have w := sees_stop (r := r) c0
            exact ⟨_, _, _, _, _, _, _, us, D6, rfl, by rw [esee, epop, w.1, w.2]; simpa using ph, by rw [esee, w.1]; simpa using isT6, SH6⟩
          · have c0 : tn (pt a) (pt b) (pt n) < 0 := by
                  unfold tn
                  omega
            have w := sees_go (r := r) c0
            repeat array_get_dec
            refine ⟨.inl ⟨rfl, _, SqL.of ph.low⟩, l, _, .int b, rfl, rfl, ph.low, chV_get _ _, ?_⟩
            have ph1 := ph.setL (lo' := a :: r)
            rw [chV_drop]
            have S1 : Same H (L2.upd H6 l (.lst (chV (a :: r)))) := same_put SH6 nl0
            generalize L2.upd H6 l (.lst (chV (a :: r))) = H7 at ph1 S1 ⊢
            repeat array_get_dec
            refine fun t8 H8 s8 n8 e8 => ?_
            have ph8 := ph1.same s8
            have k1 := ph8.pc.lk.putA ea low b
            have k2 := k1.putA enn lb a
            have k3 := k2.putA eb la n
            repeat array_get_dec
            refine ⟨p, _, _, _, rfl, rfl, SqL.of ph8.pc.lk.at_, ref ea, ?_⟩
            repeat array_get_dec
            refine ⟨_, _, rfl, ph8.pc.lk.dput ea b, ?_⟩
            repeat array_get_dec
            refine ⟨pn, _, rfl, k1.dput enn a, ?_⟩
            repeat array_get_dec
            refine ⟨p, _, _, _, rfl, rfl, SqL.of k2.at_, ref eb, ?_⟩
            repeat array_get_dec
            refine ⟨_, _, rfl, k2.dput eb n, ?_⟩
            have m1 := List.mem_of_getElem? ea
            have m2 := List.mem_of_getElem? enn
            have m3 := List.mem_of_getElem? eb
            have ph9 := ph8.turn (off3 m1 m2 m3) k3
            have isT9 := added (n := n) (x := b) (y := a) isT6 rfl rfl rfl
            have S9 := same_lk k3 (S1.trans s8) (off3 m1 m2 m3) newA
            rw [← addsV_snoc] at isT9
            repeat array_get_dec
            refine ⟨.inl ⟨rfl, _, SqL.of ph9.pc.hat⟩, ?_⟩
            repeat array_get_dec
            refine fun t10 H10 s10 n10 e10 => ?_
            refine ⟨q0, _, .ref t10, rfl, rfl, (ph9.same s10).pc.hat, by rw [List.length_map, sizeLine_eq]; exact (by have h1 := ph.pc.prs.1; have h2 := congrArg List.length esee; rw [List.length_append] at h2; have h3 := sees_len tn pt n lo; omega), ?_⟩
            have ph11 := (ph9.same s10).more (a := b) (b := a) e10
            have S11 : Same H (L2.upd H10 q0 (.lst (us.map V.ref ++ [.ref t10]))) := same_put (S9.trans s10) nq0
            repeat array_get_dec
            exact ⟨_, Nat.lt_succ_self _, _, _, _, _, a, r, _, _, _, rfl, rfl, ph11, isT9, by rw [esee, w.1]; simp, by rw [epop, w.2], fun x hx => all x (List.mem_cons_of_mem _ hx), S11⟩
      rintro σ1 Hd ⟨y10, y11, y12, y13, y14, y15, y16, us0, D0, rfl, ph6, isT0, SH6⟩
      repeat array_get_dec
      refine ⟨.inl ⟨rfl, _, SqL.of ph6.low⟩, ?_⟩
      repeat array_get_dec
      refine ⟨l, _, .int n, rfl, rfl, ph6.low, by rw [chV_len, sizeLine_eq]; have := popI_len tn pt n lo; omega, ?_⟩
      have ph7 := ph6.setL (lo' := n :: popI tn pt n lo)
      have SH7 : Same H (L2.upd Hd l (.lst (chV (n :: popI tn pt n lo)))) := same_put SH6 nl0
      rw [← chV_cons]
      generalize L2.upd Hd l (.lst (chV (n :: popI tn pt n lo))) = H7 at ph7 SH7 ⊢
      obtain ⟨tb1, ib1, sb1, b11, b12, b13, b14⟩ := site ph7.pc.rows lb0
      repeat array_get_dec
      refine ⟨h0, _, _, _, rfl, rfl, SqL.of ph7.high, by rw [eh1]; exact chV_top _ _, ?_⟩
      repeat array_get_dec
      refine ⟨R, _, _, _, rfl, rfl, SqL.of ph7.pc.rows.at_, ib1, ?_⟩
      repeat array_get_dec
      refine ⟨fun σ1 Hd => ∃ (y10 y11 y12 y13 y14 y15 y16 : Option L2.V) (us : List Addr) (D6 : Nat → List (Nat × Int)), σ1 = [some (.ref R), some (.ref p), some (.ref F), some (.ref l), some (.ref h0), some (.int n), some (.int (pt n).1), some (.int (pt n).2), some (.ref pn), some (.ref q0), y10, y11, y12, y13, y14, y15, y16] ∧ Phs Hd R p F l h0 q0 ts A pt D6 fl (visL pt n lo hi) us (n :: popI tn pt n lo) (popI tm pt n hi) ∧ IsT D6 A.length (addsV n O (visL pt n lo hi)) ∧ Same H Hd, ?_, ?_⟩
      · refine ⟨fun m σ6 H6 => ∃ (y13 y14 y15 y16 : Option L2.V) (b : Nat) (r : List Nat) (vl : List (Nat × Nat)) (us : List Addr) (D6 : Nat → List (Nat × Int)), m = (b :: r).length ∧ σ6 = [some (.ref R), some (.ref p), some (.ref F), some (.ref l), some (.ref h0), some (.int n), some (.int (pt n).1), some (.int (pt n).2), some (.ref pn), some (.ref q0), some (.int b), some (.int (pt b).1), some (.int (pt b).2), y13, y14, y15, y16] ∧ Phs H6 R p F l h0 q0 ts A pt D6 fl vl us (n :: popI tn pt n lo) (b :: r) ∧ IsT D6 A.length (addsV n O vl) ∧ (visL pt n lo hi) = vl ++ (seesI tm pt n (b :: r)).map (fun e => (e.2, e.1)) ∧ popI tm pt n hi = popI tm pt n (b :: r) ∧ (∀ x ∈ b :: r, x < n) ∧ Same H H6, ⟨_, _, _, _, _, n - 1, _, (seesI tn pt n lo), us0, D0, rfl, rfl, (by rw [← eh1]; exact ph7), isT0, by rw [← eh1]; rfl, by rw [← eh1], by rw [← eh1]; exact k.ch.lt, SH7⟩, ?_⟩
        rintro m σ6 H6 ⟨y13, y14, y15, y16, b, r, vl, us, D6, rfl, rfl, ph, isT6, esee, epop, all, SH6⟩
        have lb : b < A.length := by
          have := all b List.mem_cons_self
          omega
        have lst : (chV (b :: r)).length = (b :: r).length := chV_len _
        repeat array_get_dec
        refine ⟨h0, _, rfl, .inl (SqL.of ph.high), ?_⟩
        repeat array_get_dec
        rcases r with _ | ⟨a, r⟩
        · refine w_itf (by rw [lst]; simp) ?_
          exact ⟨_, _, _, _, _, _, _, us, D6, rfl, by rw [esee, epop]; simpa [seesI, popI] using ph, by rw [esee]; simpa [seesI, popI] using isT6, SH6⟩
        · refine w_itt (by rw [lst]; simp only [List.length_cons]; omega) ?_
          refine ⟨_, fun _ _ z => z, ?_⟩
          have la : a < A.length := by
            have := all a (by simp)
            omega
          obtain ⟨ta, ia, sa, a1, a2, a3, a4⟩ := site ph.pc.rows la
          obtain ⟨tb, ib, sb, b1, b2, b3, b4⟩ := site ph.pc.rows lb
          obtain ⟨pa, ea⟩ : ∃ x, A[a]? = some x := ⟨_, List.getElem?_eq_getElem la⟩
          obtain ⟨pb, eb⟩ : ∃ x, A[b]? = some x := ⟨_, List.getElem?_eq_getElem lb⟩
          repeat array_get_dec
          refine ⟨h0, _, _, _, rfl, rfl, SqL.of ph.high, chV_two b a r, ?_⟩
          repeat array_get_dec
          refine ⟨R, _, _, _, rfl, rfl, SqL.of ph.pc.rows.at_, ia, ?_⟩
          repeat array_get_dec
          refine w_ifd (fun c => ?_) fun c => ?_
          · have c0 : 0 ≤ tm (pt a) (pt b) (pt n) := by
                  unfold tm tn
                  omega
            have w := sees_stop (r := r) c0
            exact ⟨_, _, _, _, _, _, _, us, D6, rfl, by rw [esee, epop, w.1, w.2]; simpa using ph, by rw [esee, w.1]; simpa using isT6, SH6⟩
          · have c0 : tm (pt a) (pt b) (pt n) < 0 := by
                  unfold tm tn
                  omega
            have w := sees_go (r := r) c0
            repeat array_get_dec
            refine ⟨.inl ⟨rfl, _, SqL.of ph.high⟩, h0, _, .int b, rfl, rfl, ph.high, chV_get _ _, ?_⟩
            have ph1 := ph.setH (hi' := a :: r)
            rw [chV_drop]
            have S1 : Same H (L2.upd H6 h0 (.lst (chV (a :: r)))) := same_put SH6 nh0
            generalize L2.upd H6 h0 (.lst (chV (a :: r))) = H7 at ph1 S1 ⊢
            repeat array_get_dec
            refine fun t8 H8 s8 n8 e8 => ?_
            have ph8 := ph1.same s8
            have k1 := ph8.pc.lk.putA eb low a
            have k2 := k1.putA enn la b
            have k3 := k2.putA ea lb n
            repeat array_get_dec
            refine ⟨p, _, _, _, rfl, rfl, SqL.of ph8.pc.lk.at_, ref eb, ?_⟩
            repeat array_get_dec
            refine ⟨_, _, rfl, ph8.pc.lk.dput eb a, ?_⟩
            repeat array_get_dec
            refine ⟨pn, _, rfl, k1.dput enn b, ?_⟩
            repeat array_get_dec
            refine ⟨p, _, _, _, rfl, rfl, SqL.of k2.at_, ref ea, ?_⟩
            repeat array_get_dec
            refine ⟨_, _, rfl, k2.dput ea n, ?_⟩
            have m1 := List.mem_of_getElem? eb
            have m2 := List.mem_of_getElem? enn
            have m3 := List.mem_of_getElem? ea
            have ph9 := ph8.turn (off3 m1 m2 m3) k3
            have isT9 := added (n := n) (x := a) (y := b) isT6 rfl rfl rfl
            have S9 := same_lk k3 (S1.trans s8) (off3 m1 m2 m3) newA
            rw [← addsV_snoc] at isT9
            repeat array_get_dec
            refine ⟨.inl ⟨rfl, _, SqL.of ph9.pc.hat⟩, ?_⟩
            repeat array_get_dec
            refine fun t10 H10 s10 n10 e10 => ?_
            refine ⟨q0, _, .ref t10, rfl, rfl, (ph9.same s10).pc.hat, by rw [List.length_map, sizeLine_eq]; exact (by have h1 := ph.pc.prs.1; have h2 := congrArg List.length esee; unfold visL at h2; rw [List.length_append, List.length_append, List.length_map] at h2; have h3 := sees_len tn pt n lo; have h4 := sees_len tm pt n hi; omega), ?_⟩
            have ph11 := (ph9.same s10).more (a := a) (b := b) e10
            have S11 : Same H (L2.upd H10 q0 (.lst (us.map V.ref ++ [.ref t10]))) := same_put (S9.trans s10) nq0
            repeat array_get_dec
            exact ⟨_, Nat.lt_succ_self _, _, _, _, _, a, r, _, _, _, rfl, rfl, ph11, isT9, by rw [esee, w.1, List.map_cons]; simp, by rw [epop, w.2], fun x hx => all x (List.mem_cons_of_mem _ hx), S11⟩
      rintro σ1 Hd2 ⟨z10, z11, z12, z13, z14, z15, z16, us1, D1, rfl, ph8, isT1, SH8⟩
      repeat array_get_dec
      refine ⟨.inl ⟨rfl, _, SqL.of ph8.high⟩, ?_⟩
      repeat array_get_dec
      refine ⟨h0, _, .int n, rfl, rfl, ph8.high, by rw [chV_len, sizeLine_eq]; have := popI_len tm pt n hi; omega, ?_⟩
      have ph9 := ph8.setH (hi' := n :: popI tm pt n hi)
      have SH9 : Same H (L2.upd Hd2 h0 (.lst (chV (n :: popI tm pt n hi)))) := same_put SH8 nh0
      rw [← chV_cons]
      generalize L2.upd Hd2 h0 (.lst (chV (n :: popI tm pt n hi))) = H9 at ph9 SH9 ⊢
      have vis : ∀ e ∈ visL pt n lo hi, VisP pt n e.1 e.2 := fun e he => (vis_mem so1 k.cl k.ch e.1 e.2).mp he
      have adds := adds_iff so1 k.dl.tri (visL pt n lo hi) vis (vis_nodup so1 k.cl k.ch)
      have st9 := ph9.pc.stg lenA2 isT1 k.fnd (mid_start so1 k.dl k.cl k.ch adds) (midF_start so1 k.dl k.ff adds) low
      repeat array_get_dec
      refine ⟨R, p, F, q0, ts, A, pt, n, O, _, D1, fl, _, us1, rfl, st9, so1, k.dl, fun g H10 T' D10 fl' ng st10 off10 => ?_⟩
      have nA {x : Addr} {xs : List V} (e : H9 x = some (.lst xs)) (nq : x ≠ q0) : x ∉ F :: q0 :: A := fun m => by
        have fat9 : H9 F = some _ := ph9.pc.fat
        rcases List.mem_cons.mp m with w | m
        · rw [w, fat9] at e
          cases e
        rcases List.mem_cons.mp m with w | m
        · exact nq w
        obtain ⟨j, lj, ej⟩ := List.getElem_of_mem m
        rw [ph9.pc.lk.each j x (by rw [List.getElem?_eq_getElem lj, ej])] at e
        cases e
      have S10 : Same H H10 := same_off SH9 off10 fun x m => by
        rcases List.mem_cons.mp m with w | m
        · rw [w]
          exact nF0
        rcases List.mem_cons.mp m with w | m
        · rw [w]
          exact nq0
        exact newA x m
      refine ⟨_, _, _, _, _, _, _, _, _, _, _, _, T', D10, fl', n :: popI tn pt n lo, n :: popI tm pt n hi, rfl, ?_⟩
      exact ⟨S10, st10.rows, st10.lk, st10.isT, st10.fat, st10.fnd, off10 _ _ (nA ph9.low (Ne.symm ph9.ne.2.2.2.2.2.1)) ph9.low, off10 _ _ (nA ph9.high (Ne.symm ph9.ne.2.2.2.2.2.2)) ph9.high, st10.mid.done so1 k.dl, st10.midF.done so1 k.dl st10.mid, k.cl.next ax_tn so1, k.ch.next ax_tm so1⟩
    · obtain ⟨y5, y6, y7, y8, y9, y10, y11, y12, y13, y14, y15, y16, O, D, fl, lo, hi, rfl, k⟩ := z
      have eN : ((ts.map V.ref).length - 1 : Int).toNat + 1 = ts.length := by
        rw [List.length_map]
        omega
      rw [eN] at k
      obtain ⟨r1, el1⟩ := k.cl.hd
      obtain ⟨r2, eh1⟩ := k.ch.hd
      have tri : TriT pt A.length O := lenA ▸ k.dl.tri
      repeat array_get_dec
      refine ⟨p, F, A, pt, D, O, fl, rfl, k.lk, k.isT, tri, k.fat, k.fnd, k.ff, fun H5 D5 M R5 l5 t5 m5 r5 off5 => ?_⟩
      have nA {x : Addr} {xs : List V} (e : H' x = some (.lst xs)) : x ∉ F :: A := fun m => by
        have fat9 : H' F = some _ := k.fat
        rcases List.mem_cons.mp m with w | m
        · rw [w, fat9] at e
          cases e
        obtain ⟨j, lj, ej⟩ := List.getElem_of_mem m
        rw [k.lk.each j x (by rw [List.getElem?_eq_getElem lj, ej])] at e
        cases e
      have S5 : Same H H5 := same_off k.keep off5 fun x m => by
        rcases List.mem_cons.mp m with w | m
        · rw [w]
          exact nF0
        exact newA x m
      repeat array_get_dec
      refine ⟨p, l, h0, A, D5, lo, hi, rfl, l5, off5 _ _ (nA k.low) k.low, off5 _ _ (nA k.high) k.high, fun x m => lenA ▸ k.cl.lt x m, fun x m => lenA ▸ k.ch.lt x m, by rw [el1]; exact List.cons_ne_nil _ _, by rw [eh1]; exact List.cons_ne_nil _ _, fun H6 D6 l6 ov6 off6 => ?_⟩
      repeat array_get_dec
      refine q p A D6 H6 lenA (same_off S5 off6 newA) np newA l6 (link_final so k.dl k.ff m5 r5 k.cl k.ch fun x y v => ?_) (fun x y c o => one_full so k.dl k.ff m5 r5 o)
      have inE : ((x, y) ∈ EdgI lo ∨ (y, x) ∈ EdgI hi) → x < ts.length := fun w => by
        rcases w with w | w
        · exact k.cl.lt _ (edgI_mem _ _ w).1
        · exact k.ch.lt _ (edgI_mem _ _ w).2
      have inM {c : Nat} (w : M x y = some c) : x < ts.length := by
        obtain ⟨d, w, _⟩ := m5.at_ w
        exact (k.dl.tri.rng w).1
      by_cases xl : x < ts.length
      · rw [if_pos xl]
        have w := ov6 x y (by omega)
        by_cases e : (x, y) ∈ EdgI lo ∨ (y, x) ∈ EdgI hi
        · rw [w.1 e]
          constructor
          · intro h
            exact .inl ⟨(Option.some.inj h).symm, e⟩
          · rintro (⟨h, _⟩ | ⟨h, _⟩)
            · rw [h]
            · exact absurd e h
        · rw [w.2 e, t5 x y (by omega)]
          constructor
          · intro h
            cases em : M x y with
            | none =>
              rw [em] at h
              cases h
            | some c =>
              rw [em] at h
              exact .inr ⟨e, c, (Option.some.inj h).symm, rfl⟩
          · rintro (⟨_, h⟩ | ⟨_, c, h1, h2⟩)
            · exact absurd h e
            · rw [h1, h2]
              rfl
      · rw [if_neg xl]
        constructor
        · intro h
          cases h
        · rintro (⟨_, h⟩ | ⟨_, c, _, h⟩)
          · exact absurd (inE h) xl
          · exact absurd (inM h) xl
end
/-! ### the edges -/
section
variable {P : Program} {w : World} {K : PySem.W.Frag} {mg : Str → Option Value} {base : Heap}
def lexN (e f : Nat × Nat) : Prop := e.1 < f.1 ∨ (e.1 = f.1 ∧ e.2 < f.2)
/-- pairs of sites in the heap, by their numbers -/
def PrsAt (H : Hp) (ts : List Addr) (z : Addr) (us : List Addr) (es : List (Nat × Nat)) : Prop := us.length = es.length ∧ ∀ (i : Nat) (u : Addr) (e : Nat × Nat), us[i]? = some u → es[i]? = some e → H u = some (.tup [.ref (ts.getD (e : Nat × Nat).1 z), .ref (ts.getD (e : Nat × Nat).2 z)])
/-- the edges that links tell, ascending -/
structure EdgL (D : Nat → List (Nat × Int)) (N : Nat) (es : List (Nat × Nat)) : Prop where
  mem : ∀ a b, (a, b) ∈ es ↔ a < N ∧ a < b ∧ (look (D a) b).isSome = true
  ord : es.Pairwise lexN
/-- sorted of a dict of numbers -/
def rSrtDI : List V → Hp → VK → Prop := fun xs H Q => ∃ (a : Addr) (kvs : List (L2.Key × V)) (ks : List Int), xs = [V.ref a] ∧ Rd H a (.dK kvs) ∧ kvs.map (·.1) = ks.map Sum.inl ∧ ks.length < 64 ∧
    ∀ (ys : List Int) (p : Addr), ys.Perm ks → ys.Pairwise (· ≤ ·) → H p = none → Q (.ref p) (upd H p (.lst (ys.map V.int)))
theorem cr_srtDI {X : Cx} (hc : X.calm = true) : CallR X (.builtin "sorted") rSrtDI := call_sortedDI hc
theorem PrsAt.same {H H' : Hp} {ts : List Addr} {z : Addr} {us : List Addr} {es : List (Nat × Nat)} (h : PrsAt H ts z us es) (s : ∀ u xs, H u = some (.tup xs) → H' u = some (.tup xs)) : PrsAt H' ts z us es := ⟨h.1, fun i u e hu he => s _ _ (h.2 i u e hu he)⟩
theorem PrsAt.snoc {H : Hp} {ts : List Addr} {z u : Addr} {us : List Addr} {es : List (Nat × Nat)} {a b : Nat} (h : PrsAt H ts z us es) (e : H u = some (.tup [.ref (ts.getD a z), .ref (ts.getD b z)])) : PrsAt H ts z (us ++ [u]) (es ++ [(a, b)]) := by
  refine ⟨by rw [List.length_append, List.length_append, h.1]; rfl, fun i x y hx hy => ?_⟩
  rcases Nat.lt_trichotomy i us.length with q | q | q
  · rw [List.getElem?_append_left q] at hx
    rw [List.getElem?_append_left (by rw [← h.1]; exact q)] at hy
    exact h.2 i x y hx hy
  · subst q
    have ex : u = x := by simpa using hx
    have ey : (a, b) = y := by
      rw [h.1] at hy
      simpa using hy
    subst ex ey
    exact e
  · rw [List.getElem?_eq_none (by rw [List.length_append]; simp; omega)] at hx
    cases hx
theorem look_lt {n : Nat} {l : List (Nat × Int)} (k : Keys n l) {b : Nat} (h : (look l b).isSome = true) : b < n := by
  cases e : look l b with
  | none =>
    rw [e] at h
    cases h
  | some v => exact k.lt _ ((look_mem l k.nod b v).mp e)
theorem look_key {l : List (Nat × Int)} (nd : (l.map (·.1)).Nodup) {b : Nat} : (look l b).isSome = true ↔ ∃ e ∈ l, e.1 = b := by
  constructor
  · intro h
    cases e : look l b with
    | none =>
      rw [e] at h
      cases h
    | some v => exact ⟨_, (look_mem l nd b v).mp e, rfl⟩
  · rintro ⟨e, m, rfl⟩
    rw [(look_mem l nd e.1 e.2).mpr m]
    rfl
/-- the sorted keys -/
theorem srt_keys {l : List (Nat × Int)} (nd : (l.map (·.1)).Nodup) {ys : List Int} (pm : ys.Perm (l.map fun e => (e.1 : Int))) (so : ys.Pairwise (· ≤ ·)) : ys.Pairwise (· < ·) ∧ (∀ y ∈ ys, ∃ b : Nat, y = b ∧ (look l b).isSome = true) ∧ ∀ b : Nat, (look l b).isSome = true → (b : Int) ∈ ys := by
  have nd2 : ys.Nodup := pm.nodup_iff.mpr (by
    have e : (l.map fun e => (e.1 : Int)) = (l.map (·.1)).map fun n : Nat => (n : Int) := by
      rw [List.map_map]
      rfl
    rw [e]
    exact List.pairwise_map.mpr (nd.imp fun n w => n (by omega)))
  refine ⟨(so.and nd2).imp fun w => by have := w.1; have := w.2; omega, fun y hy => ?_, fun b hb => ?_⟩
  · obtain ⟨e, m, rfl⟩ := List.mem_map.mp (pm.mem_iff.mp hy)
    exact ⟨e.1, rfl, (look_key nd).mpr ⟨e, m, rfl⟩⟩
  · obtain ⟨e, m, rfl⟩ := (look_key nd).mp hb
    exact pm.mem_iff.mpr (List.mem_map.mpr ⟨e, m, rfl⟩)
theorem lexN_nodup {es : List (Nat × Nat)} (h : es.Pairwise lexN) : es.Nodup := h.imp fun w e => by
  subst e
  unfold lexN at w
  omega
abbrev s_edges_of : Stmt := topS 24
abbrev n_edges_of : List Str := ["rows", "links", "a", "of_a", "b"]
theorem c_edges_of : FnScope n_edges_of ["rows", "links"] (defScope s_edges_of) := ⟨rfl, rfl, rfl, by decide +kernel, rfl, by decide +kernel, by decide +kernel⟩
def p_edges_of : Sp := fun vs H Q _ => ∃ (R p : Addr) (ts A : List Addr) (pt : Nat → Pt) (D : Nat → List (Nat × Int)), vs = [.ref R, .ref p] ∧ RowsAt H R ts pt ∧ ts.length = A.length ∧ A.length < 64 ∧ Lk H p A D ∧
  ∀ (q : Addr) (us : List Addr) (es : List (Nat × Nat)) H', Same H H' → H q = none → H' q = some (.lst (us.map V.ref)) → PrsAt H' ts R us es → EdgL D A.length es → Q (.ref q) H'
set_option pp.maxSteps 300 in
theorem ok_edges_of  (D : Df K mg "edges_of" s_edges_of ["rows", "links"]) (menumerate : mg "enumerate" = none) (msorted : mg "sorted" = none) : Cl P w K mg base CX0 "edges_of" 1 ["rows", "links"] (p_edges_of) := by
  refine D.cl fun f fd F => F.ok c_edges_of (fun vs H Q E h => ?_) (fun cdv A outer s H vs Q E hr h => ?_)
  · obtain ⟨R, p, ts, A, pt, D, rfl, hr0, len, few, hl, q⟩ := h
    rfl
  · obtain ⟨R, p, ts, A, pt, D, rfl, hr0, len, few, hl, q⟩ := h
    have nd := c_edges_of.nd
    have hu : _ := hu_of hr
    refine ⟨_, (pss_one (ps_ret (pe_lc2 (own := [("a", 2), ("of_a", 3), ("b", 4)]) (vs1 := [4]) (g := gTup K 2 (gCons (gName 2) (gCons (gName 3) gNil))) (tt := tYes) (wi1 := iList K (tCB rSrtDI (tCons (tVar 3) tNil))) (g1 := gName 4) (tt1 := tTest (tOp (rI0 fun i j => V.bl (decide (j < i))) (tVar 4) (tVar 2))) (te := tTupG (tCons (tOp (rIxL K) (tVar 0) (tVar 2)) (tCons (tOp (rIxL K) (tVar 0) (tVar 4)) tNil))) rfl nd (pi_enum (by rfl) menumerate (pa_cons (pv 1) pa_nil)) (blkOk_by (own := [("a", 2), ("of_a", 3), ("b", 4)]) (N := n_edges_of) (sc := defScope s_edges_of) (by decide +kernel)) (by decide) (fun _ _ _ _ _ => by exact (pg_tup (by rfl) (pgs_cons (pg_name (i := 2) nd rfl (.inl rfl)) (pgs_cons (pg_name (i := 3) nd rfl (.inl rfl)) pgs_nil)))) (fun _ _ _ _ _ => by exact pts_nil) (fun _ _ _ _ _ => by exact (pi_list (pe_callB (cr_srtDI (by rfl)) (by rfl) msorted (by decide +kernel) (pa_cons (pv 3) pa_nil)))) (fun _ _ _ _ _ => by exact (pg_name (i := 4) nd rfl (.inl rfl))) (fun _ _ _ _ _ => by exact (pts_one (pt_cmpR op_gt (pv 4) (pv 2) (nomark _)))) (fun _ _ _ _ _ => by exact (pe_tupG (pa_cons (pe_ix (r := rIxL K) (by exact ix_list) (pv 0) (pv 2) (fun _ _ => rfl)) (pa_cons (pe_ix (r := rIxL K) (by exact ix_list) (pv 0) (pv 4) (fun _ _ => rfl)) pa_nil))))))), ?_⟩
    repeat array_get_dec
    refine ⟨p, _, rfl, SqL.of hl.at_, fun L nL => ?_⟩
    refine lc2_out (walk_enum (xs := A.map V.ref)) (fun i H' => Same H H' ∧ ∃ us es, H' L = some (.lst (us.map V.ref)) ∧ PrsAt H' ts R us es ∧ (∀ a b, (a, b) ∈ es ↔ a < i ∧ a < b ∧ (look (D a) b).isSome = true) ∧ es.Pairwise lexN) ⟨Same.upd nL, [], [], upd_same, ⟨rfl, fun _ _ _ h => nomatch h⟩, by simp, List.Pairwise.nil⟩ (fun i H' _ z => SqL.of (z.1 _ _ hl.at_)) (fun i x H4 H5 hi z y => ?_) fun H' z => ?_
    · obtain ⟨s4, us, es, eL, pr, mem, ord⟩ := z
      obtain ⟨T, x1, x2, rfl, nT, rfl, hx1, hx2⟩ := y
      cases hx1
      have hiA : i < A.length := by
        rw [List.length_map] at hi
        exact hi
      obtain ⟨pa, ea⟩ : ∃ x, A[i]? = some x := ⟨_, List.getElem?_eq_getElem hiA⟩
      have e2 : x2 = .ref pa := by
        have hx2 : (A.map V.ref)[i]? = some x2 := hx2
        rw [List.getElem?_map, ea] at hx2
        exact (Option.some.inj hx2).symm
      subst e2
      have s5 : Same H4 (upd H4 T (.tup [.int (i : Nat), .ref pa])) := same_new nT
      have e5 : upd H4 T (.tup [.int (i : Nat), .ref pa]) T = some (.tup [.int (i : Nat), .ref pa]) := upd_same
      generalize upd H4 T (.tup [.int (i : Nat), .ref pa]) = H5 at s5 e5 ⊢
      refine ⟨T, _, rfl, SqT.of e5, rfl, ?_⟩
      repeat array_get_dec
      have S5 := s4.trans s5
      have l5 := hl.same S5
      have ky := hl.key i hiA
      refine ⟨pa, encD (D i), (D i).map (fun e => (e.1 : Int)), rfl, .inl (l5.each i pa ea), by unfold encD; rw [List.map_map, List.map_map]; rfl, ?_, fun ys pS pm so nS => ?_⟩
      · have := ky.len
        unfold encD at this
        rw [List.length_map] at this ⊢
        omega
      obtain ⟨lt, all, has⟩ := srt_keys ky.nod pm so
      have s6 : Same H5 (upd H5 pS (.lst (ys.map V.int))) := same_new nS
      have e6 : upd H5 pS (.lst (ys.map V.int)) pS = some (.lst (ys.map V.int)) := upd_same
      generalize upd H5 pS (.lst (ys.map V.int)) = H6 at s6 e6 ⊢
      have S6 := S5.trans s6
      have s46 := s5.trans s6
      refine ⟨pS, rfl, ⟨_, SqL.of e6⟩, lc2_in (walk_list (xs := ys.map V.int)) (fun j H' => Same H H' ∧ H' pS = some (.lst (ys.map V.int)) ∧ ∃ us es, H' L = some (.lst (us.map V.ref)) ∧ PrsAt H' ts R us es ∧ (∀ a b, (a, b) ∈ es ↔ (a < i ∧ a < b ∧ (look (D a) b).isSome = true) ∨ (a = i ∧ i < b ∧ ∃ k, k < j ∧ ys[k]? = some (b : Int))) ∧ es.Pairwise lexN) ⟨S6, e6, us, es, s46 _ _ eL, pr.same fun _ _ e => s46 _ _ e, fun a b => by rw [mem]; simp, ord⟩ (fun j H' _ z => SqL.of z.2.1) (fun j x H7 H8 hj z y => ?_) fun H' z => ?_⟩
      · obtain ⟨s7, ep7, us7, es7, eL7, pr7, mem7, ord7⟩ := z
        obtain ⟨rfl, ex⟩ := y
        rw [List.getElem?_map] at ex
        obtain ⟨y, ey, rfl⟩ := Option.map_eq_some_iff.mp ex
        obtain ⟨b, rfl, hb⟩ := all y (List.mem_of_getElem? ey)
        have bl := look_lt ky hb
        have LpS : L ≠ pS := ne_of_none (s5 _ _ eL) nS
        have nw {a b' : Nat} : ((a < i ∧ a < b' ∧ (look (D a) b').isSome = true) ∨ (a = i ∧ i < b' ∧ ∃ k, k < j + 1 ∧ ys[k]? = some (b' : Int))) ↔ ((a < i ∧ a < b' ∧ (look (D a) b').isSome = true) ∨ (a = i ∧ i < b' ∧ ∃ k, k < j ∧ ys[k]? = some (b' : Int))) ∨ (a = i ∧ i < b' ∧ b' = b) := by
          constructor
          · rintro (w | ⟨h1, h2, k, h3, h4⟩)
            · exact .inl (.inl w)
            · rcases Nat.lt_succ_iff_lt_or_eq.mp h3 with w | w
              · exact .inl (.inr ⟨h1, h2, k, w, h4⟩)
              · subst w
                rw [ey] at h4
                have := Option.some.inj h4
                exact .inr ⟨h1, h2, by omega⟩
          · rintro ((w | ⟨h1, h2, k, h3, h4⟩) | ⟨h1, h2, h3⟩)
            · exact .inl w
            · exact .inr ⟨h1, h2, k, by omega, h4⟩
            · exact .inr ⟨h1, h2, j, by omega, by rw [h3]; exact ey⟩
        have at_ {k : Nat} (h : k < A.length) : atI (ts.map V.ref) (k : Int) = some (.ref (ts.getD k R)) := atI_nat (by
          have h2 : k < ts.length := by omega
          rw [List.getElem?_map, List.getD_eq_getElem?_getD, List.getElem?_eq_getElem h2]
          rfl)
        have eR7 := s7 _ _ hr0.at_
        repeat array_get_dec
        by_cases c : (i : Int) < (b : Int)
        · refine if_t (decide_eq_true c) ?_
          repeat array_get_dec
          refine ⟨R, _, _, _, rfl, rfl, SqL.of eR7, at_ hiA, ?_⟩
          repeat array_get_dec
          refine ⟨R, _, _, _, rfl, rfl, SqL.of eR7, at_ bl, ?_⟩
          repeat array_get_dec
          refine fun t H9 s9 n9 e9 => ?_
          have ord9 : (es7 ++ [(i, b)]).Pairwise lexN := List.pairwise_append.mpr ⟨ord7, List.pairwise_singleton _ _, fun e he f hf => by
            rw [List.mem_singleton.mp hf]
            rcases (mem7 e.1 e.2).mp he with ⟨w, _⟩ | ⟨w, _, k, h3, h4⟩
            · exact .inl w
            · refine .inr ⟨w, ?_⟩
              have z := List.pairwise_iff_getElem.mp lt k j (List.getElem?_eq_some_iff.mp h4).1 (List.getElem?_eq_some_iff.mp ey).1 h3
              rw [(List.getElem?_eq_some_iff.mp h4).2, (List.getElem?_eq_some_iff.mp ey).2] at z
              show e.2 < b
              omega⟩
          have few7 := pairs_len (N := A.length) (lexN_nodup ord7) (fun e he => by
            rcases (mem7 e.1 e.2).mp he with ⟨w, _, h⟩ | ⟨w, _, k, _, h4⟩
            · exact ⟨by omega, look_lt (hl.key e.1 (by omega)) h⟩
            · obtain ⟨b', e', hb'⟩ := all _ (List.mem_of_getElem? h4)
              have := look_lt ky hb'
              omega)
          have few8 := Nat.mul_le_mul (show A.length ≤ 64 by omega) (show A.length ≤ 64 by omega)
          refine ⟨_, s9 _ _ eL7, ?_, same_upd_of (s7.trans s9) nL, by rw [upd_ne (Ne.symm LpS)]; exact s9 _ _ ep7, us7 ++ [t], es7 ++ [(i, b)], by rw [upd_same, List.map_append]; rfl, ?_, fun a b' => ?_, ord9⟩
          · rw [List.length_map, pr7.1, sizeLine_eq]
            omega
          · have tL : t ≠ L := fun w => by
              rw [w, eL7] at n9
              cases n9
            exact PrsAt.snoc (pr7.same fun u xs e => by
              rw [upd_ne (fun w => by
                rw [w, eL7] at e
                cases e)]
              exact s9 _ _ e) (by rw [upd_ne tL]; exact e9)
          · rw [List.mem_append, List.mem_singleton, mem7, nw]
            constructor
            · rintro (w | w)
              · exact .inl w
              · cases w
                exact .inr ⟨rfl, by omega, rfl⟩
            · rintro (w | ⟨h1, _, h2⟩)
              · exact .inl w
              · exact .inr (by rw [h1, h2])
        · refine if_f (decide_eq_false c) ?_
          refine ⟨s7, ep7, us7, es7, eL7, pr7, fun a b' => ?_, ord7⟩
          rw [mem7, nw]
          constructor
          · exact .inl
          · rintro (w | ⟨h1, h2, h3⟩)
            · exact w
            · omega
      · obtain ⟨s7, ep7, us7, es7, eL7, pr7, mem7, ord7⟩ := z
        refine ⟨s7, us7, es7, eL7, pr7, fun a b => ?_, ord7⟩
        rw [mem7]
        constructor
        · rintro (⟨h1, h2⟩ | ⟨rfl, h1, k, _, h2⟩)
          · exact ⟨by omega, h2⟩
          · obtain ⟨b', e, hb'⟩ := all _ (List.mem_of_getElem? h2)
            rw [show b = b' by omega]
            exact ⟨by omega, by omega, hb'⟩
        · rintro ⟨h1, h2, h3⟩
          rcases Nat.lt_succ_iff_lt_or_eq.mp h1 with w | rfl
          · exact .inl ⟨w, h2, h3⟩
          · obtain ⟨k, hk, e⟩ := List.getElem_of_mem (has b h3)
            exact .inr ⟨rfl, h2, k, by rw [List.length_map]; exact hk, by rw [List.getElem?_eq_getElem hk, e]⟩
    · obtain ⟨s1, us, es, eL, pr, mem, ord⟩ := z
      rw [List.length_map] at mem
      exact q L us es H' s1 nL eL pr ⟨mem, ord⟩
end
/-! ### faces -/
section
variable {P : Program} {w : World} {K : PySem.W.Frag} {mg : Str → Option Value} {base : Heap}
/-- what links tell -/
structure LinkD (P : Nat → Pt) (n : Nat) (D : Nat → List (Nat × Int)) : Prop where
  lt : LinkT P n (fun x y => if x < n then look (D x) y else none)
  full : ∀ x y c, OnE P n x y c → ∃ d, OnE P n x y d ∧ OnE P n d x y
theorem LinkD.tell {P : Nat → Pt} {n : Nat} {D : Nat → List (Nat × Int)} (h : LinkD P n D) {x y c : Nat} (o : OnE P n x y c) (o' : OnE P n c x y) : look (D x) y = some (c : Int) := by
  have z : (if x < n then look (D x) y else none) = some (c : Int) := (h.lt x y c).mpr (.inl ⟨c, rfl, o, o'⟩)
  rw [if_pos o.ra] at z
  exact z
theorem LinkD.next {P : Nat → Pt} {n : Nat} {D : Nat → List (Nat × Int)} (h : LinkD P n D) {x y c : Nat} (o : OnE P n x y c) : ∃ d : Nat, look (D x) y = some (d : Int) ∧ OnE P n x y d ∧ OnE P n d x y := by
  obtain ⟨d, o1, o2⟩ := h.full x y c o
  exact ⟨d, h.tell o1 o2, o1, o2⟩
end
/-! ### the list of faces -/
section
variable {P : Program} {w : World} {K : PySem.W.Frag} {mg : Str → Option Value} {base : Heap}
/-- lists of sites in the heap, by their numbers -/
def FcsAt (H : Hp) (ts : List Addr) (z : Addr) (us : List Addr) (fs : List (List Nat)) : Prop := us.length = fs.length ∧ ∀ (i : Nat) (u : Addr) (f : List Nat), us[i]? = some u → fs[i]? = some f → H u = some (.lst (f.map fun k => V.ref (ts.getD k z)))
/-- a face, told by its first side -/
structure FaceS (P : Nat → Pt) (n : Nat) (e : Nat × Nat) (f : List Nat) : Prop where
  is : ∃ c l, f = e.1 :: l ∧ OnE P n e.1 e.2 c ∧ OnE P n c e.1 e.2 ∧ e.1 < e.2 ∧ e.1 < c ∧ FaceL P n e.1 e.2 c l ∧ l.length ≤ n + 1
/-- the faces, ascending -/
structure FacesL (P : Nat → Pt) (n : Nat) (es : List (Nat × Nat)) (fs : List (List Nat)) : Prop where
  mem : ∀ a b, (a, b) ∈ es ↔ ∃ c, OnE P n a b c ∧ OnE P n c a b ∧ a < b ∧ a < c
  ord : es.Pairwise lexN
  len : es.length = fs.length
  each : ∀ (i : Nat) (e : Nat × Nat) (f : List Nat), es[i]? = some e → fs[i]? = some f → FaceS P n e f
theorem FcsAt.same {H H' : Hp} {ts : List Addr} {z : Addr} {us : List Addr} {fs : List (List Nat)} (h : FcsAt H ts z us fs) (s : ∀ (i : Nat) (u : Addr), us[i]? = some u → ∀ o, H u = some o → H' u = some o) : FcsAt H' ts z us fs := ⟨h.1, fun i u f hu hf => s i u hu _ (h.2 i u f hu hf)⟩
theorem snoc_at {α : Type} {l : List α} {x y : α} {i : Nat} (h : (l ++ [x])[i]? = some y) : (i < l.length ∧ l[i]? = some y) ∨ (i = l.length ∧ x = y) := by
  rcases Nat.lt_trichotomy i l.length with q | q | q
  · rw [List.getElem?_append_left q] at h
    exact .inl ⟨q, h⟩
  · subst q
    exact .inr ⟨rfl, by simpa using h⟩
  · rw [List.getElem?_eq_none (by rw [List.length_append]; simp; omega)] at h
    cases h
theorem FcsAt.snoc {H : Hp} {ts : List Addr} {z u : Addr} {us : List Addr} {fs : List (List Nat)} {f : List Nat} (h : FcsAt H ts z us fs) (e : H u = some (.lst (f.map fun k => V.ref (ts.getD k z)))) : FcsAt H ts z (us ++ [u]) (fs ++ [f]) := by
  refine ⟨by rw [List.length_append, List.length_append, h.1]; rfl, fun i x g hx hg => ?_⟩
  rcases snoc_at hx with ⟨q, hx⟩ | ⟨q, rfl⟩ <;> rcases snoc_at hg with ⟨q2, hg⟩ | ⟨q2, rfl⟩
  · exact h.2 i x g hx hg
  · have := h.1
    omega
  · have := h.1
    omega
  · exact e
theorem LinkD.get {P : Nat → Pt} {n : Nat} {D : Nat → List (Nat × Int)} (h : LinkD P n D) {x y : Nat} {v : Int} (hx : x < n) (e : look (D x) y = some v) : (∃ c : Nat, v = c ∧ OnE P n x y c ∧ OnE P n c x y) ∨ v = -1 := by
  have z : (if x < n then look (D x) y else none) = some v := by
    rw [if_pos hx]
    exact e
  rcases (h.lt x y v).mp z with w | w
  · exact .inl w
  · exact .inr w.1
def GoodF (P : Nat → Pt) (n a b : Nat) : Prop := ∃ c, OnE P n a b c ∧ OnE P n c a b ∧ a < b ∧ a < c
/-- faces that are told so far -/
structure FaT (P : Nat → Pt) (n : Nat) (H0 H : Hp) (ts : List Addr) (R q0 : Addr) (us : List Addr) (es : List (Nat × Nat)) (fs : List (List Nat)) (C : Nat → Nat → Prop) : Prop where
  keep : Same H0 H
  at_ : H q0 = some (.lst (us.map V.ref))
  fcs : FcsAt H ts R us fs
  nod : us.Nodup
  new : ∀ u ∈ us, H0 u = none ∧ u ≠ q0
  mem : ∀ a b, (a, b) ∈ es ↔ GoodF P n a b ∧ C a b
  ord : es.Pairwise lexN
  len : es.length = fs.length
  each : ∀ (i : Nat) (e : Nat × Nat) (f : List Nat), es[i]? = some e → fs[i]? = some f → FaceS P n e f
section
variable {P : Nat → Pt} {n : Nat} {H0 H : Hp} {ts : List Addr} {R q0 : Addr} {us : List Addr} {es : List (Nat × Nat)} {fs : List (List Nat)} {C C' : Nat → Nat → Prop}
theorem FaT.same (h : FaT P n H0 H ts R q0 us es fs C) {H' : Hp} (s : Same H H') : FaT P n H0 H' ts R q0 us es fs C := ⟨h.keep.trans s, s _ _ h.at_, h.fcs.same fun _ _ _ _ e => s _ _ e, h.nod, h.new, h.mem, h.ord, h.len, h.each⟩
theorem FaT.iff (h : FaT P n H0 H ts R q0 us es fs C) (c : ∀ x y, GoodF P n x y → (C' x y ↔ C x y)) : FaT P n H0 H ts R q0 us es fs C' := ⟨h.keep, h.at_, h.fcs, h.nod, h.new, fun a b => by
  rw [h.mem]
  exact and_congr_right fun g => (c a b g).symm, h.ord, h.len, h.each⟩
theorem FaT.skip (h : FaT P n H0 H ts R q0 us es fs C) {i b : Nat} (g : ¬ GoodF P n i b) (c : ∀ x y, C' x y ↔ C x y ∨ (x = i ∧ y = b)) : FaT P n H0 H ts R q0 us es fs C' := h.iff fun x y gx => by
  rw [c]
  constructor
  · rintro (w | ⟨rfl, rfl⟩)
    · exact w
    · exact absurd gx g
  · exact .inl
theorem FaT.snoc (h : FaT P n H0 H ts R q0 us es fs C) {u : Addr} {f : List Nat} {i b : Nat} (nq : H0 q0 = none) (e : H u = some (.lst (f.map fun k => V.ref (ts.getD k R)))) (nu : H0 u = none) (uq : u ≠ q0) (uu : u ∉ us) (g : GoodF P n i b) (fa : FaceS P n (i, b) f) (ord : ∀ e ∈ es, lexN e (i, b))
    (c : ∀ x y, C' x y ↔ C x y ∨ (x = i ∧ y = b)) : FaT P n H0 (L2.upd H q0 (.lst (us.map V.ref ++ [.ref u]))) ts R q0 (us ++ [u]) (es ++ [(i, b)]) (fs ++ [f]) C' := by
  refine ⟨same_put h.keep nq, by rw [upd_same, List.map_append]; rfl, FcsAt.snoc (h.fcs.same fun j v hv o k => ?_) (by rw [upd_ne uq]; exact e), ?_, fun v hv => ?_, fun x y => ?_, ?_, by rw [List.length_append, List.length_append, h.len]; rfl, fun j e' f' he hf => ?_⟩
  · rw [upd_ne (h.new v (List.mem_of_getElem? hv)).2]
    exact k
  · exact List.nodup_append.mpr ⟨h.nod, by simp, fun x hx y hy w => uu (by
      rw [List.mem_singleton.mp hy] at w
      exact w ▸ hx)⟩
  · rcases List.mem_append.mp hv with w | w
    · exact h.new v w
    · rw [List.mem_singleton.mp w]
      exact ⟨nu, uq⟩
  · rw [List.mem_append, List.mem_singleton, h.mem, c]
    constructor
    · rintro (⟨w1, w2⟩ | w)
      · exact ⟨w1, .inl w2⟩
      · cases w
        exact ⟨g, .inr ⟨rfl, rfl⟩⟩
    · rintro ⟨w1, w2 | ⟨rfl, rfl⟩⟩
      · exact .inl ⟨w1, w2⟩
      · exact .inr rfl
  · exact List.pairwise_append.mpr ⟨h.ord, List.pairwise_singleton _ _, fun x hx y hy => by
      rw [List.mem_singleton.mp hy]
      exact ord x hx⟩
  · rcases snoc_at he with ⟨q, he⟩ | ⟨q, rfl⟩ <;> rcases snoc_at hf with ⟨q2, hf⟩ | ⟨q2, rfl⟩
    · exact h.each j e' f' he hf
    · have := h.len
      omega
    · have := h.len
      omega
    · exact fa
theorem FaT.fresh (h : FaT P n H0 H ts R q0 us es fs C) {u : Addr} (e : H u = none) : u ∉ us ∧ u ≠ q0 ∧ H0 u = none := by
  refine ⟨fun m => ?_, fun w => ?_, h.keep.free e⟩
  · obtain ⟨j, hj, k⟩ := List.getElem_of_mem m
    have l := h.fcs.1
    have := h.fcs.2 j u fs[j] (by rw [List.getElem?_eq_getElem hj, k]) (List.getElem?_eq_getElem (by omega))
    rw [e] at this
    cases this
  · rw [w, h.at_] at e
    cases e
theorem FaT.few (h : FaT P n H0 H ts R q0 us es fs C) (l : n < 64) : us.length ≤ 4096 := by
  have z := pairs_len (N := n) (lexN_nodup h.ord) fun e he => by
    obtain ⟨⟨c, o, _⟩, _⟩ := (h.mem e.1 e.2).mp he
    exact ⟨o.ra, o.rb⟩
  have := h.len
  have := h.fcs.1
  have := Nat.mul_le_mul (show n ≤ 64 by omega) (show n ≤ 64 by omega)
  omega
end
end
abbrev sSrc : Stmt := topS 36
abbrev sNext : Stmt := topS 37
abbrev sOne : Stmt := topS 38
abbrev sCell : Stmt := topS 39
abbrev sSites : Stmt := topS 40
theorem scSrc : FnScope ["_law_number_here"] ["_law_number_here"] (defScope sSrc) := ⟨rfl, rfl, rfl, by decide +kernel, rfl, by decide +kernel, by decide +kernel⟩
theorem scNext : FnScope ["_law_source", "_law_many", "_law_found", "_law_prime", "_law_number"] ["_law_source", "_law_many"] (defScope sNext) := ⟨rfl, rfl, rfl, by decide +kernel, rfl, by decide +kernel, by decide +kernel⟩
theorem scOne : FnScope ["_law_source", "_law_some"] ["_law_source", "_law_some"] (defScope sOne) := ⟨rfl, rfl, rfl, by decide +kernel, rfl, by decide +kernel, by decide +kernel⟩
theorem scCell : FnScope ["_law_script", "_law_index"] ["_law_script", "_law_index"] (defScope sCell) := ⟨rfl, rfl, rfl, by decide +kernel, rfl, by decide +kernel, by decide +kernel⟩
section
variable {P : Program} {w : World} {K : PySem.W.Frag} {mg : Str → Option Value} {base : Heap}
/-! ### a source of a number -/
def spSrc : Sp := fun vs H Q _ => ∃ n : Int, vs = [.int n] ∧ ∀ p (a b c : Int), H p = none → Q (.ref p) (upd H p (.lst [.int a, .int b, .int c]))
theorem ok_src {f : Addr} {fd : FuncData} {k : Nat} (F : Fun K "_law_source_of" "_law_source_of" sSrc f fd) (mi : mg "int" = none) : FnOk P w K mg base CX0 (k + 1) f fd ["_law_number_here"] spSrc := by
  refine F.ok scSrc (fun vs H Q E h => ?_) (fun cdv A outer s H vs Q E hr h => ?_)
  · obtain ⟨n, rfl, _⟩ := h
    rfl
  · obtain ⟨n, rfl, q⟩ := h
    refine ⟨_, pss_cons (ps_set (i := 0) scSrc.nd rfl (.inl rfl) (pe_ifExp (pt_cmpR op_ge (pv 0) pe_int (nomark _)) (pv 0) (pe_op op_sub (pe_op op_sub pe_int (pe_op op_mul pe_int (pv 0))) pe_int)))
      (pss_one (ps_ret (pe_lst (pa_cons (pe_op op_mul (pv 0) (pe_callTy call_int1 (by rfl) mi (by decide +kernel) (pa_cons (pe_cmpR op_ge (pv 0) (pe_op op_pow pe_int pe_int) (nomark _)) pa_nil)))
        (pa_cons (pe_op op_mod (pe_callTy call_int1 (by rfl) mi (by decide +kernel) (pa_cons (pv 0) pa_nil)) pe_int) (pa_cons pe_int pa_nil)))))), ?_⟩
    refine ⟨_, rfl, _, _, rfl, rfl, _, rfl, ite2 (fun c => ?_) fun c => ?_⟩
    · refine ⟨_, rfl, _, rfl, _, rfl, _, _, rfl, rfl, ⟨by decide, by decide, by decide⟩, _, _, rfl, rfl, .inr ⟨_, rfl, _, _, rfl, rfl, .inr (b2i_small _), ?_⟩⟩
      exact ⟨_, rfl, .inl ⟨_, rfl, _, _, rfl, rfl, (by decide : (0 : Int) < 2147483647), by show 3 ≤ sizeLine; decide, fun p hp => q p _ _ _ hp⟩⟩
    · refine ⟨_, rfl, _, _, rfl, rfl, .inl ⟨by decide, by decide⟩, _, _, rfl, rfl, _, _, rfl, rfl, _, rfl, _, rfl, _, _, rfl, rfl, ⟨by decide, by decide, by decide⟩, _, _, rfl, rfl, .inr ⟨_, rfl, _, _, rfl, rfl, .inr (b2i_small _), ?_⟩⟩
      exact ⟨_, rfl, .inl ⟨_, rfl, _, _, rfl, rfl, (by decide : (0 : Int) < 2147483647), by show 3 ≤ sizeLine; decide, fun p hp => q p _ _ _ hp⟩⟩
end
section
variable {P : Program} {w : World} {K : PySem.W.Frag} {mg : Str → Option Value} {base : Heap}
/-! ### the next draw below many -/
def spNext : Sp := fun vs H Q _ => ∃ (s : Addr) (m : Int), vs = [.ref s, .int m] ∧ Src H s ∧ 0 < m ∧ m.natAbs < 2 ^ 8000 ∧ ∀ (r : Int) H', 0 ≤ r → r < m → Stp s H H' → Q (.int r) H'
theorem ok_next {f : Addr} {fd : FuncData} {k : Nat} (F : Fun K "_law_next" "_law_next" sNext f fd) (mi : mg "int" = none) : FnOk P w K mg base CX0 (k + 1) f fd ["_law_source", "_law_many"] spNext := by
  refine F.ok scNext (fun vs H Q E h => ?_) (fun cdv A outer s H vs Q E hr h => ?_)
  · obtain ⟨s, m, rfl, _⟩ := h
    rfl
  · obtain ⟨s, m, rfl, ⟨a, b, c, hs⟩, hm, hw, q⟩ := h
    have bi : bootBuiltins "int" = some (.type "int") := by decide +kernel
    refine ⟨_, pss_cons (ps_if (pt_cmpR op_gt (pe_ix ix_list (pv 0) pe_int (fun _ _ => rfl)) pe_int (nomark _))
        (pss_cons (ps_set (i := 2) scNext.nd rfl (.inl rfl) (pe_op op_mod (pe_callTy call_int1 (by rfl) mi bi (pa_cons (pe_ix ix_list (pv 0) pe_int (fun _ _ => rfl)) pa_nil)) (pv 1)))
          (pss_cons (ps_asg (pe_op op_fdivW (pe_ix ix_list (pv 0) pe_int (fun _ _ => rfl)) (pv 1)) (pg_sub (pv 0) pe_int set_list)) (pss_one (ps_ret (pv 2))))) pss_nil)
      (pss_cons (ps_asg (pe_op op_add (pe_ix ix_list (pv 0) pe_int (fun _ _ => rfl)) pe_int) (pg_sub (pv 0) pe_int set_list))
      (pss_cons (ps_set (i := 3) scNext.nd rfl (.inl rfl) pe_int)
      (pss_cons (ps_set (i := 4) scNext.nd rfl (.inl rfl) (pe_op op_mod (pe_callTy call_int1 (by rfl) mi bi (pa_cons (pe_op op_add (pe_op op_add (pe_ix ix_list (pv 0) pe_int (fun _ _ => rfl)) (pe_op op_mul pe_int (pe_ix ix_list (pv 0) pe_int (fun _ _ => rfl)))) pe_int) pa_nil)) (pv 3)))
      (pss_cons (ps_set (i := 4) scNext.nd rfl (.inl rfl) (pe_op op_mod (pe_callTy call_int1 (by rfl) mi bi (pa_cons (pe_op op_mul (pv 4) pe_int) pa_nil)) (pv 3)))
      (pss_cons (ps_set (i := 4) scNext.nd rfl (.inl rfl) (pe_op op_mod (pe_callTy call_int1 (by rfl) mi bi (pa_cons (pe_op op_mul (pv 4) (pe_op op_add (pe_op op_fdiv (pv 4) pe_int) pe_int)) pa_nil)) (pv 3)))
      (pss_cons (ps_set (i := 4) scNext.nd rfl (.inl rfl) (pe_op op_mod (pe_callTy call_int1 (by rfl) mi bi (pa_cons (pe_op op_mul (pv 4) (pe_op op_add (pe_op op_fdiv (pv 4) pe_int) pe_int)) pa_nil)) pe_int))
      (pss_one (ps_ret (pe_op op_mod (pe_callTy call_int1 (by rfl) mi bi (pa_cons (pe_op op_fdiv (pv 4) pe_int) pa_nil)) (pv 1)))))))))), ?_⟩
    have at0 : ∀ x y z : V, atI [x, y, z] 0 = some x := fun _ _ _ => rfl
    refine ⟨_, rfl, s, _, _, _, rfl, rfl, SqL.of hs, at0 _ _ _, _, _, rfl, rfl, _, rfl, ite2 (fun g => ?_) fun g => ?_⟩
    · refine ⟨_, rfl, s, _, _, _, rfl, rfl, SqL.of hs, at0 _ _ _, .inl ⟨_, rfl, _, rfl, _, _, rfl, rfl, hm, ?_⟩⟩
      refine ⟨_, rfl, s, _, _, _, rfl, rfl, SqL.of hs, at0 _ _ _, _, rfl, _, _, rfl, rfl, wide_div hm hw (by decide) (by decide), ?_⟩
      refine ⟨_, rfl, s, _, 0, 0, rfl, rfl, hs, rfl, ?_⟩
      exact ⟨_, rfl, q _ _ (Int.emod_nonneg _ (Int.ne_of_gt hm)) (Int.emod_lt_of_pos _ hm) ((Stp.refl ⟨a, b, c, hs⟩).turn _ _ _)⟩
    · refine ⟨_, rfl, s, _, _, _, rfl, rfl, SqL.of hs, rfl, _, _, rfl, rfl, ?_⟩
      refine ⟨_, rfl, s, _, 2, 2, rfl, rfl, hs, rfl, ?_⟩
      have h2 : (upd H s (.lst [.int a, .int b, .int (c + 1)])) s = some (.lst [.int a, .int b, .int (c + 1)]) := upd_same
      refine ⟨_, rfl, s, _, _, _, rfl, rfl, SqL.of h2, rfl, _, rfl, s, _, _, _, rfl, rfl, SqL.of h2, rfl, _, _, rfl, rfl, .inl ⟨by decide, by decide⟩, _, _, rfl, rfl, _, _, rfl, rfl, .inl ⟨_, rfl, ?_⟩⟩
      have hp : (0 : Int) < 2147483647 := by decide
      refine ⟨_, rfl, _, _, rfl, rfl, hp, ?_⟩
      refine ⟨_, rfl, _, _, rfl, rfl, .inr ⟨by decide, by decide⟩, .inl ⟨_, rfl, _, rfl, _, _, rfl, rfl, hp, ?_⟩⟩
      have b1 : 0 ≤ (b + 104729 * (c + 1) + 7919) % 2147483647 * 48271 % 2147483647 := Int.emod_nonneg _ (Int.ne_of_gt hp)
      have b2 : (b + 104729 * (c + 1) + 7919) % 2147483647 * 48271 % 2147483647 < 2147483647 := Int.emod_lt_of_pos _ hp
      generalize (b + 104729 * (c + 1) + 7919) % 2147483647 * 48271 % 2147483647 = n1 at b1 b2
      refine ⟨_, rfl, _, rfl, _, _, rfl, rfl, ⟨by decide, by decide⟩, _, _, rfl, rfl, _, _, rfl, rfl, .inl ⟨by omega, by omega⟩, .inl ⟨_, rfl, _, rfl, _, _, rfl, rfl, hp, ?_⟩⟩
      have c1 : 0 ≤ n1 * (n1 / 1009 + 69621) % 2147483647 := Int.emod_nonneg _ (Int.ne_of_gt hp)
      have c2 : n1 * (n1 / 1009 + 69621) % 2147483647 < 2147483647 := Int.emod_lt_of_pos _ hp
      generalize n1 * (n1 / 1009 + 69621) % 2147483647 = n2 at c1 c2
      refine ⟨_, rfl, _, rfl, _, _, rfl, rfl, ⟨by decide, by decide⟩, _, _, rfl, rfl, _, _, rfl, rfl, .inl ⟨by omega, by omega⟩, .inl ⟨_, rfl, _, _, rfl, rfl, (by decide : (0 : Int) < 2147483399), ?_⟩⟩
      refine ⟨_, rfl, _, _, rfl, rfl, ⟨by decide, by decide⟩, .inl ⟨_, rfl, _, rfl, _, _, rfl, rfl, hm, ?_⟩⟩
      exact q _ _ (Int.emod_nonneg _ (Int.ne_of_gt hm)) (Int.emod_lt_of_pos _ hm) ((Stp.refl ⟨a, b, c, hs⟩).turn _ _ _)
/-! ### one of some -/
/-- the source at s, some: a list of xs (another object than the source): one of xs -/
def spOne (K : PySem.W.Frag) : Sp := fun vs H Q _ => ∃ (s l : Addr) (xs : List V), vs = [.ref s, .ref l] ∧ Src H s ∧ H l = some (.lst xs) ∧ l ≠ s ∧ 0 < xs.length ∧ xs.length ≤ 1000 ∧ ∀ x H', x ∈ xs → Stp s H H' → Q x H'
theorem ok_one {f fN : Addr} {fd fdN : FuncData} {k : Nat} (F : Fun K "_law_one" "_law_one" sOne f fd) (GN : FnOk P w K mg base CX0 (k + 1) fN fdN ["_law_source", "_law_many"] spNext) (gN : mg "_law_next" = some (.ref fN)) (kN : PySem.W.keepIn K (.ref fN) = true) (bN : Binds K fdN ["_law_source", "_law_many"] [])
    (ml : mg "len" = none) : FnOk P w K mg base CX0 (k + 2) f fd ["_law_source", "_law_some"] (spOne K) := by
  refine F.ok scOne (fun vs H Q E h => ?_) (fun cdv A outer s H vs Q E hr h => ?_)
  · obtain ⟨s, l, xs, rfl, _⟩ := h
    rfl
  · obtain ⟨s, l, xs, rfl, hs, hl, hne, h0, h1, q⟩ := h
    refine ⟨_, pss_one (ps_ret (pe_ix ix_list (pv 1) (pe_call GN hr (by rfl) gN kN bN .nil pass0 (pa_cons (pv 0) (pa_cons (pe_callB call_len_seq (by rfl) ml (by decide +kernel) (pa_cons (pv 1) pa_nil)) pa_nil))) (fun _ _ => rfl))), ?_⟩
    refine ⟨_, rfl, _, rfl, _, rfl, l, xs, rfl, .inl (SqL.of hl), ?_⟩
    have small : ((xs.length : Nat) : Int).natAbs < 2 ^ 8000 := by
      rw [Int.natAbs_natCast]
      exact Nat.lt_of_le_of_lt h1 (Nat.lt_of_lt_of_le (by decide : 1000 < 2 ^ 10) (Nat.pow_le_pow_right (by decide) (by decide)))
    refine ⟨s, xs.length, rfl, hs, by omega, small, fun r H' r0 r1 st => ?_⟩
    have hl' := st.keep l _ hne hl
    have hr : r.toNat < xs.length := by omega
    have at1 : atI xs r = some xs[r.toNat] := by
      have z := atI_nat (List.getElem?_eq_getElem hr)
      rwa [Int.toNat_of_nonneg r0] at z
    exact ⟨l, xs, r, _, rfl, rfl, SqL.of hl', at1, q _ _ (List.getElem_mem hr) st⟩
/-! ### a cell of the script, 0 beyond its end -/
def spCell (K : PySem.W.Frag) : Sp := fun vs H Q _ => ∃ (a : Addr) (ns : List Int), vs = [.ref a, .int 0] ∧ SqL K H a (ns.map V.int) ∧ ns.length ≤ 1000 ∧ ∀ (n : Int) H', Same H H' → Q (.int n) H'
theorem ok_cell {f : Addr} {fd : FuncData} {k : Nat} (F : Fun K "_law_cell_at" "_law_cell_at" sCell f fd) : FnOk P w K mg base CX0 (k + 1) f fd ["_law_script", "_law_index"] (spCell K) := by
  refine F.ok scCell (fun vs H Q E h => ?_) (fun cdv A outer s H vs Q E hr h => ?_)
  · obtain ⟨a, ns, rfl, _⟩ := h
    rfl
  · obtain ⟨a, ns, rfl, hS, hlen, q⟩ := h
    refine ⟨_, pss_one (ps_ret (pe_ix ix_list (pe_op op_cat (pe_slice sl_list (pv 0) (po_some (pv 1)) (po_some (pe_op op_add (pv 1) pe_int))) (pe_lst (pa_cons pe_int pa_nil))) pe_int (fun _ _ => rfl))), ?_⟩
    refine ⟨_, rfl, _, rfl, _, rfl, _, rfl, _, _, rfl, rfl, _, rfl, a, ns.map V.int, rfl, hS, fun p np => ?_⟩
    refine ⟨by show 1 ≤ sizeLine; decide, fun p2 np2 => ?_⟩
    have e1 : (upd (upd H p (.lst (cutV (ns.map V.int) (some 0) (some (0 + 1))))) p2 (.lst [.int 0])) p = some (.lst (cutV (ns.map V.int) (some 0) (some (0 + 1)))) := by
      rw [upd_ne (ne_of_none upd_same np2)]
      exact upd_same
    have len : (cutV (ns.map V.int) (some 0) (some (0 + 1))).length ≤ ns.length := by
      have z := cutV_length (ns.map V.int) (some 0) (some (0 + 1))
      rwa [List.length_map] at z
    refine ⟨p, p2, _, _, rfl, rfl, e1, upd_same, ?_, fun p3 np3 => ?_⟩
    · refine Nat.le_trans (Nat.add_le_add_right (Nat.le_trans len hlen) _) (by decide)
    · obtain ⟨n, en⟩ : ∃ n : Int, (cutV (ns.map V.int) (some 0) (some (0 + 1)) ++ [V.int 0])[0]? = some (V.int n) := by
        unfold cutV
        rw [← List.map_drop, ← List.map_take]
        cases (List.take (HT.sIx (ns.map V.int).length (ns.map V.int).length (some (0 + 1)) - HT.sIx (ns.map V.int).length 0 (some 0)) (List.drop (HT.sIx (ns.map V.int).length 0 (some 0)) ns)) with
        | nil => exact ⟨0, rfl⟩
        | cons x r => exact ⟨x, rfl⟩
      refine ⟨p3, _, 0, .int n, rfl, rfl, SqL.of upd_same, atI_nat (j := 0) en, q n _ ?_⟩
      exact ((Same.upd np).trans (Same.upd np2)).trans (Same.upd np3)
end
/-! ### drawn sites -/
theorem scSites : FnScope ["_law_source", "_law_most", "_law_round_one", "_law_way", "_law_found", "_law_u", "_law_v", "_law_k", "_law_site", "_law_x", "_law_y"] ["_law_source", "_law_most"] (defScope sSites) := ⟨rfl, rfl, rfl, by decide +kernel, rfl, by decide +kernel, by decide +kernel⟩
section
variable {P : Program} {w : World} {K : PySem.W.Frag} {mg : Str → Option Value} {base : Heap}
/-- sites at addresses, with their numbers -/
inductive SR (H : Hp) : List Addr → List (Int × Int) → Prop
  | nil : SR H [] []
  | cons {t : Addr} {s : Int × Int} {ts : List Addr} {ss : List (Int × Int)} (h : Sit H t s.1 s.2) (r : SR H ts ss) : SR H (t :: ts) (s :: ss)
theorem SR.same {H H' : Hp} {ts : List Addr} {ss : List (Int × Int)} (h : SR H ts ss) (a : Same H H') : SR H' ts ss := by
  induction h with
  | nil => exact .nil
  | cons h _ ih => exact .cons (h.same a) ih
theorem SR.put {H : Hp} {ts : List Addr} {ss : List (Int × Int)} {p : Addr} {o : HO} (h : SR H ts ss) (n : ∀ x y, H p ≠ some (.tup [.int x, .int y])) : SR (upd H p o) ts ss := by
  induction h with
  | nil => exact .nil
  | @cons t s ts ss h _ ih =>
    refine .cons ?_ ih
    show upd H p o t = _
    rw [upd_ne (fun z => n s.1 s.2 (by rw [← z]; exact h))]
    exact h
theorem SR.snoc {H : Hp} {ts : List Addr} {ss : List (Int × Int)} {t : Addr} {s : Int × Int} (h : SR H ts ss) (e : Sit H t s.1 s.2) : SR H (ts ++ [t]) (ss ++ [s]) := by
  induction h with
  | nil => exact .cons e .nil
  | cons h _ ih => exact .cons h ih
theorem SR.len {H : Hp} {ts : List Addr} {ss : List (Int × Int)} (h : SR H ts ss) : ts.length = ss.length := by
  induction h with
  | nil => rfl
  | cons _ _ ih => rw [List.length_cons, List.length_cons, ih]
/-- the numbers of a site -/
def siteOf (H : Hp) (t : Addr) : Int × Int := match H t with
  | some (.tup [.int x, .int y]) => (x, y)
  | _ => (0, 0)
theorem siteOf_is {H : Hp} {t : Addr} {x y : Int} (h : Sit H t x y) : siteOf H t = (x, y) := by
  unfold siteOf
  rw [show H t = some (.tup [.int x, .int y]) from h]
theorem SR.map {H : Hp} {ts : List Addr} {ss : List (Int × Int)} (h : SR H ts ss) : ts.map (siteOf H) = ss := by
  induction h with
  | nil => rfl
  | cons h _ ih => rw [List.map_cons, ih, siteOf_is h]
/-- f tells the numbers of the sites at ts -/
def SitF (f : Addr → Int × Int) (H : Hp) (ts : List Addr) : Prop := ∀ t ∈ ts, Sit H t (f t).1 (f t).2 ∧ Bd 1000000 (f t).1 (f t).2
theorem SitF.same {f : Addr → Int × Int} {H H' : Hp} {ts : List Addr} (h : SitF f H ts) (a : Same H H') : SitF f H' ts := fun t m => ⟨(h t m).1.same a, (h t m).2⟩
theorem SitF.stp {f : Addr → Int × Int} {s : Addr} {H H' : Hp} {ts : List Addr} (h : SitF f H ts) (q : Src H s) (a : Stp s H H') : SitF f H' ts := fun t m => ⟨(h t m).1.stp q a, (h t m).2⟩
theorem SitF.sub {f : Addr → Int × Int} {H : Hp} {ts us : List Addr} (h : SitF f H ts) (a : ∀ u ∈ us, u ∈ ts) : SitF f H us := fun t m => h t (a t m)
/-- the source at s, a new list of sites, no two alike, at least one, at most as many as are asked -/
def spSitesN : Sp := fun vs H Q _ => ∃ (s : Addr) (most : Int), vs = [.ref s, .int most] ∧ Src H s ∧ 0 < most ∧ most ≤ 1000 ∧
  ∀ (p : Addr) (ts : List Addr) (f : Addr → Int × Int) H', Stp s H H' → H p = none → H' p = some (.lst (ts.map V.ref)) → 0 < ts.length → (ts.length : Int) ≤ most → SitF f H' ts → (ts.map f).Nodup → Q (.ref p) H'
/-- a key, moved -/
def mvK (u v : Int) : List L2.Key → Int × Int
  | [Sum.inl x, Sum.inl y] => (x + u, y + v)
  | _ => (0, 0)
theorem put_nodup {kvs : List (List L2.Key × V)} {k : List L2.Key} {v : V} (h : (kvs.map (·.1)).Nodup) : ((putK kvs k v).map (·.1)).Nodup := by
  unfold putK
  split
  · rw [List.map_map, show ((fun kv : List L2.Key × V => kv.1) ∘ fun kv => if kv.1 = k then (kv.1, v) else kv) = fun kv => kv.1 from funext fun kv => by
      show (if kv.1 = k then (kv.1, v) else kv).1 = kv.1
      split <;> rfl]
    exact h
  · rename_i c
    rw [List.map_append]
    refine List.nodup_append.mpr ⟨h, List.nodup_cons.mpr ⟨(fun z => nomatch z), List.nodup_nil⟩, fun a ma b mb => ?_⟩
    rintro rfl
    have e : a = k := List.mem_singleton.mp mb
    subst e
    obtain ⟨kv, m, e⟩ := List.mem_map.mp ma
    exact c (List.any_eq_true.mpr ⟨kv, m, decide_eq_true e⟩)
/-- within the loop: what stands -/
structure SL (s R d : Addr) (rs : List Addr) (H H' : Hp) (kvs : List (List Key × V)) : Prop where
  st : Stp s H H'
  nR : H R = none
  nd : H d = none
  lR : H' R = some (.lst (rs.map V.ref))
  sR : Sits 5 H' rs
  dd : H' d = some (.dT kvs)
  kk : ∀ kv ∈ kvs, ∃ x y : Int, kv.1 = [Sum.inl x, Sum.inl y] ∧ Bd 999000 x y
  nk : (kvs.map (·.1)).Nodup
theorem put_keys {kvs : List (List Key × V)} {x y : Int} {v : V} (h : ∀ kv ∈ kvs, ∃ x y : Int, kv.1 = [Sum.inl x, Sum.inl y] ∧ Bd 999000 x y) (b : Bd 999000 x y) : ∀ kv ∈ putK kvs [Sum.inl x, Sum.inl y] v, ∃ x y : Int, kv.1 = [Sum.inl x, Sum.inl y] ∧ Bd 999000 x y := by
  intro kv m
  unfold putK at m
  split at m
  · obtain ⟨u, mu, e⟩ := List.mem_map.mp m
    obtain ⟨x', y', e1, b1⟩ := h u mu
    refine ⟨x', y', ?_, b1⟩
    rw [← e]
    split
    · exact e1
    · exact e1
  · rcases List.mem_append.mp m with m | m
    · exact h kv m
    · have e := List.mem_singleton.mp m
      subst e
      exact ⟨x, y, rfl, b⟩
theorem put_pos {kvs : List (List Key × V)} {k : List Key} {v : V} : 0 < (putK kvs k v).length := by
  unfold putK
  split
  · rename_i h
    rw [List.length_map]
    cases kvs with
    | nil => cases h
    | cons a r => exact Nat.zero_lt_succ _
  · rw [List.length_append]
    exact Nat.lt_of_lt_of_le (Nat.zero_lt_succ _) (Nat.le_add_left _ _)
theorem SL.step {s R d : Addr} {rs : List Addr} {H H1 H2 : Hp} {kvs : List (List Key × V)} (h : SL s R d rs H H1 kvs) (q : Src H s) (a : Stp s H1 H2) : SL s R d rs H H2 kvs :=
  ⟨h.st.trans a, h.nR, h.nd, a.keep _ _ (q.nen h.nR) h.lR, h.sR.stp h.st.src a, a.keep _ _ (q.nen h.nd) h.dd, h.kk, h.nk⟩
theorem ok_sitesN {f fN fO : Addr} {fd fdN fdO : FuncData} {k : Nat} (F : Fun K "_law_sites" "_law_sites" sSites f fd)
    (GN : FnOk P w K mg base CX0 (k + 1) fN fdN ["_law_source", "_law_many"] spNext) (gN : mg "_law_next" = some (.ref fN)) (kN : PySem.W.keepIn K (.ref fN) = true) (bN : Binds K fdN ["_law_source", "_law_many"] [])
    (GO : FnOk P w K mg base CX0 (k + 2) fO fdO ["_law_source", "_law_some"] (spOne K)) (gO : mg "_law_one" = some (.ref fO)) (kO : PySem.W.keepIn K (.ref fO) = true) (bO : Binds K fdO ["_law_source", "_law_some"] [])
    (mr : mg "range" = none) : FnOk P w K mg base CX0 (k + 3) f fd ["_law_source", "_law_most"] spSitesN := by
  refine F.ok scSites (fun vs H Q E h => ?_) (fun cdv A outer s H vs Q E hr h => ?_)
  · obtain ⟨s, m, rfl, _⟩ := h
    rfl
  · obtain ⟨s, most, rfl, hs, m0, m1, q⟩ := h
    have hr1 : Room (k + 1) _ := hr.mono (by omega)
    have nd := scSites.nd
    have bd : ∀ {x y : Int}, x.natAbs ≤ 5 → y.natAbs ≤ 5 → Bd 5 x y := fun h1 h2 => ⟨by omega, by omega, by omega, by omega⟩
    refine ⟨_, pss_cons (ps_set (i := 2) nd rfl (.inl rfl) (pe_lst
        (pa_sits (pe_sit (b := 5) (pa_cons pe_int (pa_cons pe_int pa_nil)) (bd (by decide) (by decide)))
        (pa_sits (pe_sit (b := 5) (pa_cons pe_int (pa_cons pe_int pa_nil)) (bd (by decide) (by decide)))
        (pa_sits (pe_sit (b := 5) (pa_cons pe_int (pa_cons pe_int pa_nil)) (bd (by decide) (by decide)))
        (pa_sits (pe_sit (b := 5) (pa_cons pe_int (pa_cons pe_int pa_nil)) (bd (by decide) (by decide)))
        (pa_sits (pe_sit (b := 5) (pa_cons pe_neg (pa_cons pe_int pa_nil)) (bd (by decide) (by decide)))
        (pa_sits (pe_sit (b := 5) (pa_cons pe_neg (pa_cons pe_int pa_nil)) (bd (by decide) (by decide)))
        (pa_sits (pe_sit (b := 5) (pa_cons pe_neg (pa_cons pe_int pa_nil)) (bd (by decide) (by decide)))
        (pa_sits (pe_sit (b := 5) (pa_cons pe_neg (pa_cons pe_neg pa_nil)) (bd (by decide) (by decide))) pa_sits0))))))))))
      (pss_cons (ps_set (i := 2) nd rfl (.inl rfl) (pe_op op_cat (pv 2) (pe_lst
        (pa_sits (pe_sit (b := 5) (pa_cons pe_neg (pa_cons pe_neg pa_nil)) (bd (by decide) (by decide)))
        (pa_sits (pe_sit (b := 5) (pa_cons pe_int (pa_cons pe_neg pa_nil)) (bd (by decide) (by decide)))
        (pa_sits (pe_sit (b := 5) (pa_cons pe_int (pa_cons pe_neg pa_nil)) (bd (by decide) (by decide)))
        (pa_sits (pe_sit (b := 5) (pa_cons pe_int (pa_cons pe_neg pa_nil)) (bd (by decide) (by decide))) pa_sits0)))))))
      (pss_cons (ps_par (i := 3) (j := 4) (by rfl) nd rfl rfl (by decide) rfl rfl (pa_cons (pe_call GN hr1 (by rfl) gN kN bN .nil pass0 (pa_cons (pv 0) (pa_cons pe_int pa_nil))) (pa_cons pe_dnewT pa_nil)) (by rfl))
      (pss_cons (ps_asg (pe_tup (pa_cons (pe_op op_sub (pe_call GN hr1 (by rfl) gN kN bN .nil pass0 (pa_cons (pv 0) (pa_cons pe_int pa_nil))) pe_int) (pa_cons (pe_op op_sub (pe_call GN hr1 (by rfl) gN kN bN .nil pass0 (pa_cons (pv 0) (pa_cons pe_int pa_nil))) pe_int) pa_nil)))
          (pg_tup (by rfl) (pgs_cons (pg_name (i := 5) nd rfl (.inr rfl)) (pgs_cons (pg_name (i := 6) nd rfl (.inr rfl)) pgs_nil))))
      (C8.pss_cut (ps_for PassesOwn.never rfl (pi_range1 (by rfl) mr (pa_cons (pe_op op_add pe_int (pe_call GN hr1 (by rfl) gN kN bN .nil pass0 (pa_cons (pv 0) (pa_cons (pv 1) pa_nil)))) pa_nil)) (pg_name (i := 7) nd rfl (.inl rfl))
          (pss_cons (ps_set (i := 8) nd rfl (.inl rfl) (pe_tup (pa_cons (pe_call GN hr1 (by rfl) gN kN bN .nil pass0 (pa_cons (pv 0) (pa_cons pe_int pa_nil))) (pa_cons (pe_call GN hr1 (by rfl) gN kN bN .nil pass0 (pa_cons (pv 0) (pa_cons pe_int pa_nil))) pa_nil))))
          (C8.pss_cut (ps_if (PW.pt (pw_and (pt_cmpR op_eq (pv 3) pe_int (nomark _)) (pw_and1 (pt_cmpR op_gt (pe_call GN hr1 (by rfl) gN kN bN .nil pass0 (pa_cons (pv 0) (pa_cons pe_int pa_nil))) pe_int (nomark _)))))
              (pss_one (ps_set (i := 8) nd rfl (.inl rfl) (pe_call GO hr (by rfl) gO kO bO .nil pass0 (pa_cons (pv 0) (pa_cons (pv 2) pa_nil))))) pss_nil)
          (C8.pss_cut (ps_if (pt_cmpR op_eq (pv 3) pe_int (nomark _))
              (pss_one (ps_set (i := 8) nd rfl (.inl rfl) (pe_tup (pa_cons (pe_op op_mul (pe_call GN hr1 (by rfl) gN kN bN .nil pass0 (pa_cons (pv 0) (pa_cons pe_int pa_nil))) pe_int)
                (pa_cons (pe_op op_mul (pe_call GN hr1 (by rfl) gN kN bN .nil pass0 (pa_cons (pv 0) (pa_cons pe_int pa_nil))) (pe_call GN hr1 (by rfl) gN kN bN .nil pass0 (pa_cons (pv 0) (pa_cons pe_int pa_nil)))) pa_nil))))) pss_nil)
          (C8.pss_cut (ps_if (pt_cmpR op_eq (pv 3) pe_int (nomark _))
              (pss_one (ps_set (i := 8) nd rfl (.inl rfl) (pe_tup (pa_cons (pe_op op_sub (pe_call GN hr1 (by rfl) gN kN bN .nil pass0 (pa_cons (pv 0) (pa_cons pe_int pa_nil))) pe_int)
                (pa_cons (pe_op op_sub (pe_call GN hr1 (by rfl) gN kN bN .nil pass0 (pa_cons (pv 0) (pa_cons pe_int pa_nil))) pe_int) pa_nil))))) pss_nil)
          (C8.pss_cut (ps_if (pt_cmpR op_eq (pv 3) pe_int (nomark _))
              (pss_one (ps_set (i := 8) nd rfl (.inl rfl) (pe_tup (pa_cons (pe_op op_sub (pe_call GN hr1 (by rfl) gN kN bN .nil pass0 (pa_cons (pv 0) (pa_cons pe_int pa_nil))) pe_int)
                (pa_cons (pe_op op_sub (pe_call GN hr1 (by rfl) gN kN bN .nil pass0 (pa_cons (pv 0) (pa_cons pe_int pa_nil))) pe_int) pa_nil))))) pss_nil)
          (pss_one (ps_dput (hu_of hr) (pv 4) (pv 8) pe_bl rfl))))))))
      (pss_one (ps_ret (pe_lock (pe_lc (own := [("_law_x", 9), ("_law_y", 10)]) (g := gTup K 2 (gCons (gName 9) (gCons (gName 10) gNil))) (tt := tYes) (te := tTup (tCons (tOp (rI0 fun i j => .int (i + j)) (tVar 9) (tVar 5)) (tCons (tOp (rI0 fun i j => .int (i + j)) (tVar 10) (tVar 6)) tNil))) rfl nd (pi_keys (pv 4)) (blkOk_by (own := [("_law_x", 9), ("_law_y", 10)]) (N := ["_law_source", "_law_most", "_law_round_one", "_law_way", "_law_found", "_law_u", "_law_v", "_law_k", "_law_site", "_law_x", "_law_y"]) (sc := defScope sSites) (by decide +kernel))
          (fun _ _ _ _ _ => by exact pg_tup rfl (pgs_cons (pg_name (i := 9) nd rfl (.inl rfl)) (pgs_cons (pg_name (i := 10) nd rfl (.inl rfl)) pgs_nil)))
          (fun _ _ _ _ _ => pts_nil)
          (fun _ _ _ _ _ => by exact pe_tup (pa_cons (pe_op op_add (pv 9) (pv 5)) (pa_cons (pe_op op_add (pv 10) (pv 6)) pa_nil))))))))))), ?_⟩
    -- the round ones
    refine fun ps1 H1 sm1 l1 st1 => ⟨by rw [List.length_map, l1]; decide, fun p1 np1 => ?_⟩
    have e1 : (upd H1 p1 (.lst (ps1.map V.ref))) p1 = some (.lst (ps1.map V.ref)) := upd_same
    have s1 : Same H (upd H1 p1 (.lst (ps1.map V.ref))) := sm1.trans (Same.upd np1)
    have t1 : Sits 5 (upd H1 p1 (.lst (ps1.map V.ref))) ps1 := st1.same (Same.upd np1)
    generalize upd H1 p1 (.lst (ps1.map V.ref)) = G1 at e1 s1 t1
    refine ⟨_, rfl, fun ps2 H2 sm2 l2 st2 => ⟨by rw [List.length_map, l2]; decide, fun p2 np2 => ?_⟩⟩
    have s2 : Same G1 (upd H2 p2 (.lst (ps2.map V.ref))) := sm2.trans (Same.upd np2)
    have e2 : (upd H2 p2 (.lst (ps2.map V.ref))) p2 = some (.lst (ps2.map V.ref)) := upd_same
    have t2 : Sits 5 (upd H2 p2 (.lst (ps2.map V.ref))) (ps1 ++ ps2) := fun r m => by
      rcases List.mem_append.mp m with m | m
      · exact (t1.same s2) r m
      · exact (st2.same (Same.upd np2)) r m
    have n2 : ∀ p, (upd H2 p2 (.lst (ps2.map V.ref))) p = none → H p = none := fun p e => (s1.trans s2).free e
    have s2' := s1.trans s2
    generalize upd H2 p2 (.lst (ps2.map V.ref)) = G2 at s2 e2 t2 n2 s2'
    refine ⟨p1, p2, _, _, rfl, rfl, s2 _ _ e1, e2, by rw [List.length_map, List.length_map, l1, l2]; decide, fun R nR => ?_⟩
    have eR : (upd G2 R (.lst (ps1.map V.ref ++ ps2.map V.ref))) R = some (.lst ((ps1 ++ ps2).map V.ref)) := by
      rw [List.map_append]
      exact upd_same
    have tR : Sits 5 (upd G2 R (.lst (ps1.map V.ref ++ ps2.map V.ref))) (ps1 ++ ps2) := t2.same (Same.upd nR)
    have sR : Stp s H (upd G2 R (.lst (ps1.map V.ref ++ ps2.map V.ref))) := (Stp.refl hs).same (s2'.trans (Same.upd nR))
    have lR : (ps1 ++ ps2).length = 12 := by rw [List.length_append, l1, l2]
    have nRH := n2 R nR
    generalize upd G2 R (.lst (ps1.map V.ref ++ ps2.map V.ref)) = G3 at eR tR sR
    generalize ps1 ++ ps2 = rs at eR tR lR
    -- way, found
    refine ⟨_, rfl, s, 5, rfl, sR.src, by decide, sm (by decide), fun w H4 w0 w1 st4 d nd4 => ⟨_, _, rfl, ?_⟩⟩
    have hRs : R ≠ s := hs.nen nRH
    have st04 := sR.trans st4
    have keep4 := st4.keep _ _ hRs eR
    have eR4 : (upd H4 d (.dT [])) R = some (.lst (rs.map V.ref)) := by
      rw [upd_ne (ne_of_none keep4 nd4)]
      exact keep4
    have sl4 : SL s R d rs H (upd H4 d (.dT [])) [] :=
      ⟨st04.new nd4, nRH, st04.free nd4, eR4, (tR.stp sR.src st4).same (Same.upd nd4), upd_same, (fun _ m => nomatch m), List.nodup_nil⟩
    generalize upd H4 d (.dT []) = G4 at sl4
    -- u, v
    refine ⟨_, rfl, s, 2001, rfl, sl4.st.src, by decide, sm (by decide), fun u0 H5 u1 u2 st5 => ⟨_, _, rfl, rfl, _, rfl, s, 2001, rfl, st5.src, by decide, sm (by decide), fun v0 H6 v1 v2 st6 => ⟨_, _, rfl, rfl, two_line, fun p4 np4 => ?_⟩⟩⟩
    have sl6 := ((sl4.step hs st5).step hs st6).step hs ((Stp.refl st6.src).new (o := .tup [.int (u0 - 1000), .int (v0 - 1000)]) np4)
    refine ⟨p4, _, rfl, SqT.of upd_same, rfl, _, _, rfl, _, _, rfl, rfl, ?_⟩
    generalize upd H6 p4 (.tup [.int (u0 - 1000), .int (v0 - 1000)]) = G6 at sl6
    refine ⟨fun σ' H' => ∃ y7 y8 kvs, σ' = [some (.ref s), some (.int most), some (.ref R), some (.int w), some (.ref d), some (.int (u0 - 1000)), some (.int (v0 - 1000)), y7, y8, none, none] ∧ SL s R d rs H H' kvs ∧ 0 < kvs.length ∧ (kvs.length : Int) ≤ most, ?_, ?_⟩
    · -- the loop
      refine ⟨_, rfl, _, rfl, s, most, rfl, sl6.st.src, m0, sm (by omega), fun n H7 n0 n1 st7 => ⟨_, _, rfl, rfl, _, rfl, by omega, by omega, ?_⟩⟩
      have sl7 := sl6.step hs st7
      refine for_range (lo := 0) (n := (1 + n).toNat) (fun i σ' H' => ∃ y7 y8 kvs, σ' = [some (.ref s), some (.int most), some (.ref R), some (.int w), some (.ref d), some (.int (u0 - 1000)), some (.int (v0 - 1000)), y7, y8, none, none] ∧ SL s R d rs H H' kvs ∧ (0 < i → 0 < kvs.length) ∧ kvs.length ≤ i)
        ⟨none, none, [], rfl, sl7, fun z => absurd z (Nat.lt_irrefl _), Nat.le_refl _⟩ ?_ ?_
      · rintro i σ' H' hi ⟨y7, y8, kvs, rfl, sl, c1, c2⟩
        refine ⟨_, rfl, s, 4, rfl, sl.st.src, by decide, sm (by decide), fun a Ha a0 a1 sta => ⟨_, rfl, s, 4, rfl, sta.src, by decide, sm (by decide), fun b Hb b0 b1 stb => ⟨two_line, fun t nt => ?_⟩⟩⟩
        have sl1 := ((sl.step hs sta).step hs stb).step hs ((Stp.refl stb.src).new (o := .tup [.int a, .int b]) nt)
        have e1 : Sit (upd Hb t (.tup [.int a, .int b])) t a b := upd_same
        have d1 : Bd 999000 a b := ⟨by omega, by omega, by omega, by omega⟩
        generalize upd Hb t (.tup [.int a, .int b]) = Hc at sl1 e1
        -- between the ifs
        let M : L2.St → Hp → Prop := fun σ' H' => ∃ (t : Addr) (x y : Int), σ' = [some (V.ref s), some (V.int most), some (V.ref R), some (V.int w), some (V.ref d), some (V.int (u0 - 1000)), some (V.int (v0 - 1000)), some (V.int (0 + i)), some (V.ref t), none, none] ∧ SL s R d rs H H' kvs ∧ Sit H' t x y ∧ Bd 999000 x y
        have m1 : M [some (V.ref s), some (V.int most), some (V.ref R), some (V.int w), some (V.ref d), some (V.int (u0 - 1000)), some (V.int (v0 - 1000)), some (V.int (0 + i)), some (V.ref t), none, none] Hc := ⟨t, a, b, rfl, sl1, e1, d1⟩
        refine ⟨M, ⟨_, rfl, rfl, _, rfl, ?_⟩, ?_⟩
        · refine ite2 (fun _ => ?_) (fun _ => m1)
          refine ⟨_, rfl, s, 4, rfl, sl1.st.src, by decide, sm (by decide), fun a Ha a0 a1 sta => ⟨_, _, rfl, rfl, _, rfl, ite2 (fun _ => ?_) fun _ => ⟨t, _, _, rfl, sl1.step hs sta, e1.stp sl1.st.src sta, d1⟩⟩⟩
          have sl2 := sl1.step hs sta
          refine ⟨_, rfl, _, rfl, s, R, _, rfl, sl2.st.src, sl2.lR, hRs, by rw [List.length_map, lR]; decide, by rw [List.length_map, lR]; decide, fun x H' mx st => ?_⟩
          obtain ⟨r, mr', rfl⟩ := List.mem_map.mp mx
          obtain ⟨x, y, er, dr⟩ := sl2.sR r mr'
          exact ⟨r, x, y, rfl, sl2.step hs st, er.stp sl2.st.src st, dr.mono (by decide)⟩
        rintro σ' H' ⟨t, x, y, rfl, sl, et, dt⟩
        -- the others
        refine ⟨M, ⟨_, rfl, rfl, _, rfl, ite2 (fun _ => ?_) fun _ => ⟨t, x, y, rfl, sl, et, dt⟩⟩, ?_⟩
        · refine ⟨_, rfl, s, 9, rfl, sl.st.src, by decide, sm (by decide), fun a Ha a0 a1 sta => ⟨_, _, rfl, rfl, .inr ⟨by decide, by decide⟩, _, rfl, s, 9, rfl, sta.src, by decide, sm (by decide), fun b Hb b0 b1 stb => ?_⟩⟩
          refine ⟨_, rfl, s, 2, rfl, stb.src, by decide, sm (by decide), fun c Hd c0 c1 stc => ⟨_, _, rfl, rfl, .inr ⟨by omega, by omega⟩, two_line, fun t nt => ?_⟩⟩
          refine ⟨t, _, _, rfl, (((sl.step hs sta).step hs stb).step hs stc).step hs ((Stp.refl stc.src).new nt), upd_same, ?_⟩
          have hc : c = 0 ∨ c = 1 := by omega
          rcases hc with rfl | rfl
          · exact ⟨by omega, by omega, by omega, by omega⟩
          · exact ⟨by omega, by omega, by omega, by omega⟩
        rintro σ' H' ⟨t, x, y, rfl, sl, et, dt⟩
        refine ⟨M, ⟨_, rfl, rfl, _, rfl, ite2 (fun _ => ?_) fun _ => ⟨t, x, y, rfl, sl, et, dt⟩⟩, ?_⟩
        · refine ⟨_, rfl, s, 41, rfl, sl.st.src, by decide, sm (by decide), fun a Ha a0 a1 sta => ⟨_, _, rfl, rfl, _, rfl, s, 41, rfl, sta.src, by decide, sm (by decide), fun b Hb b0 b1 stb => ⟨_, _, rfl, rfl, two_line, fun t nt => ?_⟩⟩⟩
          exact ⟨t, _, _, rfl, ((sl.step hs sta).step hs stb).step hs ((Stp.refl stb.src).new nt), upd_same, by omega, by omega, by omega, by omega⟩
        rintro σ' H' ⟨t, x, y, rfl, sl, et, dt⟩
        refine ⟨M, ⟨_, rfl, rfl, _, rfl, ite2 (fun _ => ?_) fun _ => ⟨t, x, y, rfl, sl, et, dt⟩⟩, ?_⟩
        · refine ⟨_, rfl, s, 1998001, rfl, sl.st.src, by decide, sm (by decide), fun a Ha a0 a1 sta => ⟨_, _, rfl, rfl, _, rfl, s, 1998001, rfl, sta.src, by decide, sm (by decide), fun b Hb b0 b1 stb => ⟨_, _, rfl, rfl, two_line, fun t nt => ?_⟩⟩⟩
          exact ⟨t, _, _, rfl, ((sl.step hs sta).step hs stb).step hs ((Stp.refl stb.src).new nt), upd_same, by omega, by omega, by omega, by omega⟩
        rintro σ' H' ⟨t, x, y, rfl, sl, et, dt⟩
        -- found[site] = True
        have nds : d ≠ s := hs.nen sl.nd
        have hlen : kvs.length < sizeLine := Nat.lt_of_lt_of_le (Nat.lt_of_le_of_lt c2 hi) (Nat.le_trans (by omega) (by decide : 1000 ≤ sizeLine))
        refine ⟨_, rfl, _, rfl, d, _, rfl, DPut.t (k := [Sum.inl x, Sum.inl y]) sl.dd et hlen, ?_⟩
        refine ⟨_, _, _, rfl, ⟨sl.st.set sl.nd nds, sl.nR, sl.nd, ?_, sl.sR.put fun x y z => ?_, upd_same, put_keys sl.kk dt, put_nodup sl.nk⟩, fun _ => put_pos, ?_⟩
        · rw [upd_ne (ne_of sl.lR sl.dd (by intro z; cases z))]
          exact sl.lR
        · rw [sl.dd] at z
          cases z
        · exact Nat.le_trans (length_putK _ _ _) (Nat.succ_le_succ c2)
      · rintro σ' H' ⟨y7, y8, kvs, rfl, sl, c1, c2⟩
        exact ⟨y7, y8, kvs, rfl, sl, c1 (by omega), by omega⟩
    · -- the sites, moved
      rintro σ' H' ⟨y7, y8, kvs, rfl, sl, c1, c2⟩
      have nds : d ≠ s := hs.nen sl.nd
      refine ⟨d, _, sl.dd, True.intro, fun od => ⟨_, rfl, d, od, rfl, .inr ⟨kvs, upd_same, fun D nD => ?_⟩⟩⟩
      have nDd : D ≠ d := fun z => by
        rw [z, upd_same] at nD
        cases nD
      refine lc_it walk_keysT (fun i Hc => Same (upd H' d (.frz od (.dT kvs))) Hc ∧ ∃ ts : List Addr, Hc D = some (.lst (ts.map V.ref)) ∧ SR Hc ts ((kvs.take i).map fun kv => mvK (u0 - 1000) (v0 - 1000) kv.1))
        ⟨Same.upd nD, [], upd_same, .nil⟩ (fun i Hc _ z => z.1 _ _ upd_same) ?_ ?_
      · rintro i x Hc0 Hc hi ⟨sm', ts, eD, tt⟩ ⟨rfl, k, v, p, ek, rfl, ep⟩
        obtain ⟨x, y, e1, b1⟩ := sl.kk (k, v) (List.mem_of_getElem? ek)
        have e1 : k = [Sum.inl x, Sum.inl y] := e1
        subst e1
        refine ⟨p, _, rfl, SqT.of ep, rfl, _, _, rfl, _, _, rfl, rfl, rfl, ?_⟩
        refine ⟨_, rfl, _, rfl, _, _, rfl, rfl, _, rfl, _, rfl, _, _, rfl, rfl, two_line, fun r nr => ?_⟩
        have eD' : (upd Hc r (.tup [.int (x + (u0 - 1000)), .int (y + (v0 - 1000))])) D = some (.lst (ts.map V.ref)) := (Same.upd nr) _ _ eD
        have lt := tt.len
        rw [List.length_map, List.length_take] at lt
        refine ⟨_, eD', ?_, ?_⟩
        · rw [List.length_map, lt]
          exact Nat.lt_of_le_of_lt (Nat.min_le_left _ _) (Nat.lt_of_lt_of_le hi (Nat.le_trans (by omega) (by decide : 1000 ≤ sizeLine)))
        · have nr' : r ≠ D := (ne_of_none eD nr).symm
          refine ⟨fun b o e => ?_, ts ++ [r], ?_, ?_⟩
          · have nbD : b ≠ D := ne_of_none e nD
            rw [upd_ne nbD]
            exact (Same.upd nr) _ _ (sm' b o e)
          · rw [List.map_append]
            exact upd_same
          · rw [List.take_add_one, ek, Option.toList_some, List.map_append]
            refine SR.snoc (((tt.same (Same.upd nr)).put (p := D) (o := .lst (ts.map V.ref ++ [.ref r])) fun x y z => by rw [eD'] at z; cases z)) ?_
            show upd _ D _ r = _
            rw [upd_ne nr', upd_same]
            rfl
      · rintro Hc ⟨sm', ts, eD, tt⟩
        rw [List.take_length] at tt
        have tt2 : SR (upd Hc d (.dT kvs)) ts (kvs.map fun kv => mvK (u0 - 1000) (v0 - 1000) kv.1) := tt.put fun x y z => by
          rw [sm' _ _ upd_same] at z
          cases z
        have lt := tt2.len
        rw [List.length_map] at lt
        have key : ∀ kv ∈ kvs, ∃ x y : Int, kv.1 = [Sum.inl x, Sum.inl y] ∧ Bd 999000 x y := sl.kk
        have fin : SitF (siteOf (upd Hc d (.dT kvs))) (upd Hc d (.dT kvs)) ts := by
          have gen : ∀ (us : List Addr) (ws : List (List L2.Key × V)), (∀ kv ∈ ws, ∃ x y : Int, kv.1 = [Sum.inl x, Sum.inl y] ∧ Bd 999000 x y) → SR (upd Hc d (.dT kvs)) us (ws.map fun kv => mvK (u0 - 1000) (v0 - 1000) kv.1) → SitF (siteOf (upd Hc d (.dT kvs))) (upd Hc d (.dT kvs)) us := by
            intro us
            induction us with
            | nil => intro ws _ _ t m; exact nomatch m
            | cons u us ih =>
              intro ws hk hr t m
              cases ws with
              | nil => exact nomatch hr
              | cons kv ws =>
                rw [List.map_cons] at hr
                cases hr with
                | cons e r =>
                  rcases List.mem_cons.mp m with rfl | m
                  · obtain ⟨x, y, ek, h1, h2, h3, h4⟩ := hk kv List.mem_cons_self
                    rw [siteOf_is e]
                    refine ⟨e, ?_⟩
                    rw [ek]
                    show Bd 1000000 (x + (u0 - 1000)) (y + (v0 - 1000))
                    exact ⟨by omega, by omega, by omega, by omega⟩
                  · exact ih ws (fun kv m => hk kv (List.mem_cons_of_mem _ m)) r t m
          exact gen ts kvs key tt2
        have nod : (ts.map (siteOf (upd Hc d (.dT kvs)))).Nodup := by
          rw [tt2.map]
          have inj : ∀ a ∈ kvs, ∀ b ∈ kvs, a.1 ≠ b.1 → mvK (u0 - 1000) (v0 - 1000) a.1 ≠ mvK (u0 - 1000) (v0 - 1000) b.1 := fun a ma b mb ne z => by
            obtain ⟨x, y, ea, _⟩ := key a ma
            obtain ⟨x', y', eb, _⟩ := key b mb
            rw [ea, eb] at z ne
            have z1 : x + (u0 - 1000) = x' + (u0 - 1000) := congrArg Prod.fst z
            have z2 : y + (v0 - 1000) = y' + (v0 - 1000) := congrArg Prod.snd z
            exact ne (by rw [show x = x' by omega, show y = y' by omega])
          have nk := sl.nk
          unfold List.Nodup at nk ⊢
          rw [List.pairwise_map] at nk ⊢
          exact List.Pairwise.imp_of_mem (fun {a b} ma mb ne => inj a ma b mb ne) nk
        refine ⟨sm' _ _ upd_same, q D ts (siteOf (upd Hc d (.dT kvs))) _ ⟨fun b o nb e => ?_, ?_⟩ ?_ ?_ (by omega) (by omega) fin nod⟩
        · have nbd : b ≠ d := ne_of_none e sl.nd
          rw [upd_ne nbd]
          refine sm' _ _ ?_
          rw [upd_ne nbd]
          exact sl.st.keep b o nb e
        · obtain ⟨x, y, z, e⟩ := sl.st.src
          refine ⟨x, y, z, ?_⟩
          rw [upd_ne nds.symm]
          refine sm' _ _ ?_
          rw [upd_ne nds.symm]
          exact e
        · rw [upd_ne nDd] at nD
          exact sl.st.free nD
        · rw [upd_ne nDd]
          exact eD
end
/-! ### the program's own defs: what a site is -/
abbrev sIsSite : Stmt := topS 10
theorem scIsSite : FnScope ["value", "x", "y"] ["value"] (defScope sIsSite) := ⟨rfl, rfl, rfl, by decide +kernel, rfl, by decide +kernel, by decide +kernel⟩
section
variable {P : Program} {w : World} {K : PySem.W.Frag} {mg : Str → Option Value} {base : Heap}
/-- a number is neither True nor False -/
theorem op_isIB {X : Cx} : OpR X (compareOp .Is) (fun x y H Q => ∃ (n : Int) (b : Bool), x = .int n ∧ y = .bl b ∧ Q (.bl false) H) := by
  intro pins s σ H x y v u Q I rx ry h
  obtain ⟨n, b, rfl, rfl, q⟩ := h
  obtain ⟨t, rfl⟩ := rx
  cases (show u = Value.bool b from ry)
  exact wpAny_is_other rfl (fun z => by cases z) ⟨.bl false, H, I, rfl, q⟩
theorem itf {p A B : Prop} [Decidable p] (h : ¬ p) (b : B) : if decide p = true then A else B := by
  rw [decide_eq_false h]
  exact b
theorem kTT (K : PySem.W.Frag) : PySem.W.kitOne K (.type "tuple") (.type "tuple") = some true := kit_ty (by decide +kernel)
theorem kII (K : PySem.W.Frag) : PySem.W.kitOne K (.type "int") (.type "int") = some true := kit_ty (by decide +kernel)
/-- a site -/
def spIsSite : Sp := fun vs H Q _ => ∃ (t : Addr) (x y : Int), vs = [.ref t] ∧ Sit H t x y ∧ Bd 1000000 x y ∧ Q (.bl true) H
theorem ok_issite {f : Addr} {fd : FuncData} {k : Nat} (F : Fun K "is_site" "is_site" sIsSite f fd) (misinstance : mg "isinstance" = none) (mtuple : mg "tuple" = none) (mint : mg "int" = none) (mlen : mg "len" = none) : FnOk P w K mg base CX0 (k + 1) f fd ["value"] spIsSite := by
  refine F.ok scIsSite (fun vs H Q E h => ?_) (fun cdv A outer s H vs Q E hr h => ?_)
  · obtain ⟨t, x, y, rfl, _⟩ := h
    rfl
  · obtain ⟨t, x, y, rfl, h, d, q⟩ := h
    have nd := scIsSite.nd
    obtain ⟨d1, d2, d3, d4⟩ := d
    refine ⟨_, (pss_cons (ps_if (PW.pt (pw_or (pt_not (pt_val (pe_callB call_isi (by rfl) misinstance (by decide +kernel) (pa_cons (pv 0) (pa_cons (pe_bltn (v := .ty "tuple") (by rfl) mtuple (by decide +kernel) rfl) pa_nil))))) (pw_or1 (pt_cmpR op_ne (pe_callB call_len_seq (by rfl) mlen (by decide +kernel) (pa_cons (pv 0) pa_nil)) pe_int (nomark _))))) (pss_one (ps_ret pe_bl)) pss_nil) (pss_cons (ps_asg (pv 0) (pg_tup (by rfl) (pgs_cons (pg_name (i := 1) nd rfl (.inl rfl)) (pgs_cons (pg_name (i := 2) nd rfl (.inl rfl)) pgs_nil)))) (pss_cons (ps_if (PW.pt (pw_or (pt_not (pt_val (pe_callB call_isi (by rfl) misinstance (by decide +kernel) (pa_cons (pv 1) (pa_cons (pe_bltn (v := .ty "int") (by rfl) mint (by decide +kernel) rfl) pa_nil))))) (pw_or1 (pt_not (pt_val (pe_callB call_isi (by rfl) misinstance (by decide +kernel) (pa_cons (pv 2) (pa_cons (pe_bltn (v := .ty "int") (by rfl) mint (by decide +kernel) rfl) pa_nil)))))))) (pss_one (ps_ret pe_bl)) pss_nil) (pss_cons (ps_if (PW.pt (pw_or (pt_cmpR op_isIB (pv 1) pe_bl (nomark _)) (pw_or (pt_cmpR op_isIB (pv 1) pe_bl (nomark _)) (pw_or (pt_cmpR op_isIB (pv 2) pe_bl (nomark _)) (pw_or1 (pt_cmpR op_isIB (pv 2) pe_bl (nomark _))))))) (pss_one (ps_ret pe_bl)) pss_nil) (pss_cons (ps_if (PW.pt (pw_or (pt_cmpR op_gt (pv 1) pe_int (nomark _)) (pw_or (pt_cmpR op_lt (pv 1) pe_neg (nomark _)) (pw_or (pt_cmpR op_gt (pv 2) pe_int (nomark _)) (pw_or1 (pt_cmpR op_lt (pv 2) pe_neg (nomark _))))))) (pss_one (ps_ret pe_bl)) pss_nil) (pss_one (ps_ret pe_bl))))))), ?_⟩
    exact ⟨_, rfl, _, _, _, _, _, rfl, .ty "tuple", .base (.tup h), kTT K, _, rfl, _, rfl, _, _, rfl, .inr (SqT.of h), rfl, _, rfl, _, rfl, _, _, rfl, SqT.of h, rfl, _, _, rfl, _, _, rfl, rfl, _, rfl, _, _, _, _, _, rfl, .ty "int", .base (.int _), kII K, _, rfl, _, rfl, _, _, _, _, _, rfl, .ty "int", .base (.int _), kII K, _, rfl, _, rfl, _, _, rfl, rfl, _, rfl, _, rfl, _, _, rfl, rfl, _, rfl, _, rfl, _, _, rfl, rfl, _, rfl, _, rfl, _, _, rfl, rfl, _, rfl, _, rfl, _, _, rfl, rfl, _, rfl, itf (by omega) ⟨_, rfl, _, _, rfl, rfl, _, rfl, itf (by omega) ⟨_, rfl, _, _, rfl, rfl, _, rfl, itf (by omega) ⟨_, rfl, _, _, rfl, rfl, _, rfl, itf (by omega) q⟩⟩⟩⟩
/-- the double area -/
def tri (ax ay bx by' cx cy : Int) : Int := (bx - ax) * (cy - ay) - (by' - ay) * (cx - ax)
/-- three sites, and what is told of their numbers -/
def sp3 (K : PySem.W.Frag) (v : Int → Int → Int → Int → Int → Int → V) : Sp := fun vs H Q _ => ∃ (a b c : Addr) (ax ay bx by' cx cy : Int), vs = [.ref a, .ref b, .ref c] ∧ Sit H a ax ay ∧ Sit H b bx by' ∧ Sit H c cx cy ∧
  Bd 1000000 ax ay ∧ Bd 1000000 bx by' ∧ Bd 1000000 cx cy ∧ Q (v ax ay bx by' cx cy) H
end
/-! ### sites that are handed in -/
section
variable {P : Program} {w : World} {K : PySem.W.Frag} {mg : Str → Option Value} {base : Heap}
theorem ref_at {ts : List Addr} {i : Nat} {x : V} (h : (ts.map V.ref)[i]? = some x) : ∃ t, ts[i]? = some t ∧ x = .ref t ∧ t ∈ ts := by
  rw [List.getElem?_map] at h
  obtain ⟨t, e, e2⟩ := Option.map_eq_some_iff.mp h
  exact ⟨t, e, e2.symm, List.mem_of_getElem? e⟩
/-- a list of sites, no two alike, fewer than 64 -/
structure Lot (f : Addr → Int × Int) (H : Hp) (p : Addr) (ts : List Addr) : Prop where
  at_ : H p = some (.lst (ts.map V.ref))
  pos : 0 < ts.length
  few : ts.length < 64
  sit : SitF f H ts
  nod : (ts.map f).Nodup
theorem Lot.same {f : Addr → Int × Int} {H H' : Hp} {p : Addr} {ts : List Addr} (h : Lot f H p ts) (s : Same H H') : Lot f H' p ts := ⟨s _ _ h.at_, h.pos, h.few, h.sit.same s, h.nod⟩
abbrev s_are_sites : Stmt := topS 11
abbrev n_are_sites : List Str := ["value", "item", "x", "y"]
theorem c_are_sites : FnScope n_are_sites ["value"] (defScope s_are_sites) := ⟨rfl, rfl, rfl, by decide +kernel, rfl, by decide +kernel, by decide +kernel⟩
def p_are_sites : Sp := fun vs H Q _ => ∃ (p : Addr) (ts : List Addr) (f : Addr → Int × Int), vs = [.ref p] ∧ Lot f H p ts ∧ ∀ H', Same H H' → Q (.bl true) H'
set_option pp.maxSteps 300 in
theorem ok_are_sites {tMOST_SITES : Tok} (D : Df K mg "are_sites" s_are_sites ["value"]) (mint : mg "int" = none) (misinstance : mg "isinstance" = none) (mlen : mg "len" = none) (mlist : mg "list" = none) (mset : mg "set" = none) (mtuple : mg "tuple" = none) (mMOST_SITES : mg "MOST_SITES" = some (.int 200 tMOST_SITES)) : Cl P w K mg base CX0 "are_sites" 1 ["value"] (p_are_sites) := by
  refine D.cl fun f fd F => F.ok c_are_sites (fun vs H Q E h => ?_) (fun cdv A outer s H vs Q E hr h => ?_)
  · obtain ⟨p, ts, g, rfl, ⟨hp, l0, l1, hs, nod⟩, q⟩ := h
    rfl
  · obtain ⟨p, ts, g, rfl, ⟨hp, l0, l1, hs, nod⟩, q⟩ := h
    have nd := c_are_sites.nd
    have hu : _ := hu_of hr
    refine ⟨_, (pss_cons (ps_if (PW.pt (pw_or (pt_not (pt_val (pe_callB call_isi (by rfl) misinstance (by decide +kernel) (pa_cons (pv 0) (pa_cons (pe_bltn (v := .ty "list") (by rfl) mlist (by decide +kernel) rfl) pa_nil))))) (pw_or1 (pt_not (pt_chain op_lt op_le pe_int (pe_callB call_len_seq (by rfl) mlen (by decide +kernel) (pa_cons (pv 0) pa_nil)) (pe_glob (v := .int 200) (by rfl) mMOST_SITES ⟨_, rfl⟩)))))) (pss_one (ps_ret pe_bl)) pss_nil) (pss_cons (ps_for PassesOwn.never rfl (pi_list (pv 0)) (pg_name (i := 1) nd rfl (.inl rfl)) (pss_cons (ps_if (PW.pt (pw_or (pt_not (pt_val (pe_callB call_isi (by rfl) misinstance (by decide +kernel) (pa_cons (pv 1) (pa_cons (pe_bltn (v := .ty "tuple") (by rfl) mtuple (by decide +kernel) rfl) pa_nil))))) (pw_or1 (pt_cmpR op_ne (pe_callB call_len_seq (by rfl) mlen (by decide +kernel) (pa_cons (pv 1) pa_nil)) pe_int (nomark _))))) (pss_one (ps_ret pe_bl)) pss_nil) (pss_cons (ps_asg (pv 1) (pg_tup (by rfl) (pgs_cons (pg_name (i := 2) nd rfl (.inl rfl)) (pgs_cons (pg_name (i := 3) nd rfl (.inl rfl)) pgs_nil)))) (pss_cons (ps_if (PW.pt (pw_or (pt_not (pt_val (pe_callB call_isi (by rfl) misinstance (by decide +kernel) (pa_cons (pv 2) (pa_cons (pe_bltn (v := .ty "int") (by rfl) mint (by decide +kernel) rfl) pa_nil))))) (pw_or1 (pt_not (pt_val (pe_callB call_isi (by rfl) misinstance (by decide +kernel) (pa_cons (pv 3) (pa_cons (pe_bltn (v := .ty "int") (by rfl) mint (by decide +kernel) rfl) pa_nil)))))))) (pss_one (ps_ret pe_bl)) pss_nil) (pss_cons (ps_if (PW.pt (pw_or (pt_cmpR op_isIB (pv 2) pe_bl (nomark _)) (pw_or (pt_cmpR op_isIB (pv 2) pe_bl (nomark _)) (pw_or (pt_cmpR op_isIB (pv 3) pe_bl (nomark _)) (pw_or1 (pt_cmpR op_isIB (pv 3) pe_bl (nomark _))))))) (pss_one (ps_ret pe_bl)) pss_nil) (pss_one (ps_if (PW.pt (pw_or (pt_cmpR op_gt (pv 2) pe_int (nomark _)) (pw_or (pt_cmpR op_lt (pv 2) pe_neg (nomark _)) (pw_or (pt_cmpR op_gt (pv 3) pe_int (nomark _)) (pw_or1 (pt_cmpR op_lt (pv 3) pe_neg (nomark _))))))) (pss_one (ps_ret pe_bl)) pss_nil))))))) (pss_one (ps_ret (pe_cmpR op_eq (pe_callB call_len_setN (by rfl) mlen (by decide +kernel) (pa_cons (pe_callTy (cr_setOfT (by rfl) hr.units) (by rfl) mset (by decide +kernel) (pa_cons (pv 0) pa_nil)) pa_nil)) (pe_callB call_len_seq (by rfl) mlen (by decide +kernel) (pa_cons (pv 0) pa_nil)) (nomark _)))))), ?_⟩
    have len : (ts.map V.ref).length = ts.length := List.length_map _
    repeat array_get_dec
    refine ⟨⟨_, SqL.of hp⟩, for_list (K := K) (a := p) (xs := ts.map V.ref) (fun i σ' H' => (∃ y1 y2 y3, σ' = [some (.ref p), y1, y2, y3]) ∧ H' = H) ⟨⟨_, _, _, rfl⟩, rfl⟩ (fun i σ' H' _ z => by rw [z.2]; exact SqL.of hp) (fun i x σ' H' hx z => ?_) fun σ' H' z => ?_⟩
    · obtain ⟨⟨y1, y2, y3, rfl⟩, rfl⟩ := z
      obtain ⟨t, _, rfl, mt⟩ := ref_at hx
      have st := (hs t mt).1
      obtain ⟨b1, b2, b3, b4⟩ := (hs t mt).2
      repeat array_get_dec
      exact ⟨⟨_, _, _, rfl⟩, rfl⟩
    · obtain ⟨⟨y1, y2, y3, rfl⟩, rfl⟩ := z
      refine ⟨_, rfl, p, ts.map fun t => (t, [(g t).1, (g t).2]), rfl, ?_, fun u m => ?_, by rw [List.length_map]; exact l1, fun S LS nS sub cov => ?_⟩
      · rw [List.map_map]
        exact SqL.of hp
      · obtain ⟨t, mt, rfl⟩ := List.mem_map.mp m
        exact SqT.of (hs t mt).1
      · refine ⟨S, LS, rfl, upd_same, fun nd' => ?_⟩
        have inj : ((ts.map fun t => (t, [(g t).1, (g t).2])).map (·.2)).Nodup := by
          rw [List.map_map, show ((fun x : Addr × List Int => x.2) ∘ fun t => (t, [(g t).1, (g t).2])) = (fun q : Int × Int => [q.1, q.2]) ∘ g from rfl, ← List.map_map]
          refine List.Pairwise.map _ (fun a b h e => h ?_) nod
          have e1 : a.1 = b.1 := (List.cons.inj e).1
          have e2 : a.2 = b.2 := (List.cons.inj (List.cons.inj e).2).1
          exact Prod.ext e1 e2
        have c1 : LS.length ≤ ts.length := by
          have z := len_le_of_sub nd' (m := (ts.map fun t => (t, [(g t).1, (g t).2])).map (·.2)) fun x hx => by
            obtain ⟨u, mu, rfl⟩ := List.mem_map.mp hx
            exact List.mem_map.mpr ⟨u, sub u mu, rfl⟩
          simpa using z
        have c2 : ts.length ≤ LS.length := by
          have z := len_le_of_sub inj (m := LS.map (·.2)) fun x hx => by
            obtain ⟨u, mu, rfl⟩ := List.mem_map.mp hx
            exact cov u mu
          simpa using z
        have hp' := (Same.upd nS (o := SetTO P w S LS)) _ _ hp
        have eq : LS.length = ts.length := Nat.le_antisymm c1 c2
        repeat array_get_dec
        show Q (.bl (decide (V.int (LS.length : Nat) = V.int ((ts.map V.ref).length : Nat)))) _
        rw [eq, len, decide_eq_true rfl]
        exact q _ (Same.upd nS)
abbrev s_ascending : Stmt := topS 14
abbrev n_ascending : List Str := ["sites"]
theorem c_ascending : FnScope n_ascending ["sites"] (defScope s_ascending) := ⟨rfl, rfl, rfl, by decide +kernel, rfl, by decide +kernel, by decide +kernel⟩
theorem lt2_of {p q : Int × Int} (h : lexLe p q) (n : p ≠ q) : lt2 p q := by
  unfold lexLe at h
  rcases h with h | ⟨h, k⟩
  · exact .inl h
  · refine .inr ⟨h, Int.lt_iff_le_and_ne.mpr ⟨k, fun e => n (Prod.ext h e)⟩⟩
def p_ascending : Sp := fun vs H Q _ => ∃ (p : Addr) (ts : List Addr) (f : Addr → Int × Int), vs = [.ref p] ∧ Lot f H p ts ∧ ∀ us p' H', us.Perm ts → (us.map f).Pairwise lt2 → Same H H' → H p' = none → Lot f H' p' us → Q (.ref p') H'
set_option pp.maxSteps 300 in
theorem ok_ascending  (D : Df K mg "ascending" s_ascending ["sites"]) (C_are_sites : Cl P w K mg base CX0 "are_sites" 1 ["value"] (p_are_sites)) (msorted : mg "sorted" = none) : Cl P w K mg base CX0 "ascending" 2 ["sites"] (p_ascending) := by
  refine D.cl fun f fd F => F.ok c_ascending (fun vs H Q E h => ?_) (fun cdv A outer s H vs Q E hr h => ?_)
  · obtain ⟨p, ts, g, rfl, hl, q⟩ := h
    rfl
  · obtain ⟨p, ts, g, rfl, hl, q⟩ := h
    have nd := c_ascending.nd
    have hu : _ := hu_of hr
    refine ⟨_, (pss_cons (ps_if (pt_not (pt_val (pe_cl C_are_sites (hr.mono (by decide)) (by rfl) pass0 (pa_cons (pv 0) pa_nil)))) (pss_one ps_never) pss_nil) (pss_one (ps_ret (pe_callB cr_sortS (by rfl) msorted (by decide +kernel) (pa_cons (pv 0) pa_nil))))), ?_⟩
    repeat array_get_dec
    refine ⟨p, ts, g, rfl, hl, fun H1 s1 => ?_⟩
    repeat array_get_dec
    have hl1 := hl.same s1
    refine ⟨p, ts, g, rfl, SqL.of hl1.at_, fun t m => (hl1.sit t m).1, fun us p' H2 pm so s2 n2 e2 => ?_⟩
    have nod' : (us.map g).Nodup := (pm.map g).nodup_iff.mpr hl.nod
    refine q us p' H2 pm ?_ (s1.trans s2) ?_ ⟨e2, by rw [pm.length_eq]; exact hl.pos, by rw [pm.length_eq]; exact hl.few, (hl1.sit.same s2).sub fun u m => pm.mem_iff.mp m, nod'⟩
    · rw [List.pairwise_map]
      have := List.pairwise_map.mp nod'
      exact (so.and this).imp fun h => lt2_of h.1 h.2
    · cases e : H p' with
      | none => rfl
      | some o => rw [s1 _ _ e] at n2; cases n2
end
/-! ### the class -/
section
variable {P : Program} {w : World} {K : PySem.W.Frag} {mg : Str → Option Value} {base : Heap}
/-- what is asked of the class -/
structure SubT (K : PySem.W.Frag) (C : Addr) : Prop where
  cl : Cls K C
  rows : NoAttr K C "rows"
  links : NoAttr K C "links"
  lines : NoAttr K C "lines"
  parts : NoAttr K C "parts"
def sf (R p li pa : V) : List (Str × V) := [("rows", R), ("links", p), ("lines", li), ("parts", pa)]
theorem sf_made (R p : V) : L2.putF "parts" .non (L2.putF "lines" .non (L2.putF "links" p (L2.putF "rows" R []))) = sf R p .non .non := by
  have h1 : ¬ (("rows" : Str) = "links") := by decide +kernel
  have h2 : ¬ (("rows" : Str) = "lines") := by decide +kernel
  have h3 : ¬ (("rows" : Str) = "parts") := by decide +kernel
  have h4 : ¬ (("links" : Str) = "lines") := by decide +kernel
  have h5 : ¬ (("links" : Str) = "parts") := by decide +kernel
  have h6 : ¬ (("lines" : Str) = "parts") := by decide +kernel
  simp only [L2.putF, if_neg h1, if_neg h2, if_neg h3, if_neg h4, if_neg h5, if_neg h6, sf]
theorem sf_lines (R p li pa y : V) : L2.putF "lines" y (sf R p li pa) = sf R p y pa := by
  have h2 : ¬ (("rows" : Str) = "lines") := by decide +kernel
  have h4 : ¬ (("links" : Str) = "lines") := by decide +kernel
  simp only [L2.putF, if_neg h2, if_neg h4, sf, if_true]
theorem sf_at (R p li pa : V) : (sf R p li pa).lookup ("rows" : Str) = some R ∧ (sf R p li pa).lookup ("links" : Str) = some p ∧ (sf R p li pa).lookup ("lines" : Str) = some li ∧ (sf R p li pa).lookup ("parts" : Str) = some pa := by
  refine ⟨rfl, rfl, rfl, rfl⟩
/-- a subdivision at x of sites that are known -/
structure SubAt (C : Addr) (H : Hp) (x R p : Addr) (rs A : List Addr) (pt : Nat → Pt) (D : Nat → List (Nat × Int)) (li pa : V) : Prop where
  ob : ∃ dx, H x = some (.ins C dx (sf (.ref R) (.ref p) li pa))
  rows : RowsAt H R rs pt
  len : rs.length = A.length
  few : A.length < 64
  pos : 0 < A.length
  lk : Lk H p A D
  srt : Srt pt A.length
  ld : LinkD pt A.length D
def KeepX (x : Addr) (H H' : Hp) : Prop := ∀ b o, H b = some o → b ≠ x → H' b = some o
abbrev s___init__ : Stmt := inClass (topS 29) 0
abbrev n___init__ : List Str := ["self", "sites"]
theorem c___init__ : FnScope n___init__ ["self", "sites"] (defScope s___init__) := ⟨rfl, rfl, rfl, by decide +kernel, rfl, by decide +kernel, by decide +kernel⟩
def p___init__ (C : Addr) : Sp := fun vs H Q _ => ∃ (x dx S : Addr) (ts : List Addr) (g : Addr → Int × Int), vs = [.ref x, .ref S] ∧ H x = some (.ins C dx []) ∧ Lot g H S ts ∧
  ∀ (R p : Addr) (rs A : List Addr) (D : Nat → List (Nat × Int)) H', KeepX x H H' → H R = none → H p = none → (∀ a ∈ A, H a = none) → rs.Perm ts → SubAt C H' x R p rs A (fun i => g (rs.getD i R)) D .non .non → Q .non H'
set_option pp.maxSteps 300 in
theorem ok___init__  {f : Addr} {fd : FuncData} (F : Fun K "__init__" "Subdivision.__init__" s___init__ f fd) (C_linked : Cl P w K mg base CX0 "linked" 3 ["rows"] (p_linked)) (C_ascending : Cl P w K mg base CX0 "ascending" 2 ["sites"] (p_ascending)) {C : Addr} (T : SubT K C) : FnOk P w K mg base CX0 4 f fd ["self", "sites"] (p___init__ C) := by
  refine F.ok c___init__ (fun vs H Q E h => ?_) (fun cdv A outer s H vs Q E hr h => ?_)
  · obtain ⟨x, dx, S, ts, g, rfl, hx, hl, q⟩ := h
    rfl
  · obtain ⟨x, dx, S, ts, g, rfl, hx, hl, q⟩ := h
    have nd := c___init__.nd
    have hu : _ := hu_of hr
    refine ⟨_, (pss_cons (ps_fld (pv 0) (pe_cl C_ascending (hr.mono (by decide)) (by rfl) pass0 (pa_cons (pv 1) pa_nil)) rfl) (pss_cons (ps_fld (pv 0) (pe_cl C_linked (hr.mono (by decide)) (by rfl) pass0 (pa_cons (pe_fld (pv 0) rfl) pa_nil)) rfl) (pss_cons (ps_fld (pv 0) pe_non rfl) (pss_one (ps_fld (pv 0) pe_non rfl))))), ?_⟩
    have few0 : (0 : Nat) < 1000 := by decide
    repeat array_get_dec
    refine ⟨S, ts, g, rfl, hl, fun us R H1 pm so s1 n1 l1 => ?_⟩
    repeat array_get_dec
    refine ⟨x, C, dx, _, rfl, s1 _ _ hx, T.cl, T.rows, few0, ?_⟩
    have k2 : KeepX x H (upd H1 x (.ins C dx (L2.putF "rows" (.ref R) []))) := fun b o e n => by
      rw [upd_ne n]
      exact s1 _ _ e
    have hx2 : upd H1 x (.ins C dx (L2.putF "rows" (.ref R) [])) x = some (.ins C dx (L2.putF "rows" (.ref R) [])) := upd_same
    have hx1 := s1 _ _ hx
    have lot2 : Lot g (upd H1 x (.ins C dx (L2.putF "rows" (.ref R) []))) R us := ⟨upd_o hx1 l1.at_ nofun, l1.pos, l1.few, fun t m => ⟨upd_o hx1 (l1.sit t m).1 nofun, (l1.sit t m).2⟩, l1.nod⟩
    generalize upd H1 x (.ins C dx (L2.putF "rows" (.ref R) [])) = H2 at k2 hx2 lot2 ⊢
    have rows2 : RowsAt H2 R us (fun i => g (us.getD i R)) := ⟨lot2.at_, fun i t e => by
      have z := lot2.sit t (List.mem_of_getElem? e)
      simp only [List.getD_eq_getElem?_getD, e, Option.getD_some]
      exact z⟩
    have srt2 : Srt (fun i => g (us.getD i R)) us.length := fun i j h1 h2 => by
      have z := List.pairwise_iff_getElem.mp so i j (by rw [List.length_map]; omega) (by rw [List.length_map]; omega) h1
      rw [List.getElem_map, List.getElem_map] at z
      simp only [List.getD_eq_getElem?_getD, List.getElem?_eq_getElem h2, List.getElem?_eq_getElem (show i < us.length by omega), Option.getD_some]
      exact z
    have few1 := lot2.few
    repeat array_get_dec
    refine ⟨x, C, dx, _, .ref R, rfl, hx2, T.cl, T.rows, by rw [L2.lookup_putF, if_pos rfl], ?_⟩
    repeat array_get_dec
    refine ⟨R, us, _, rfl, rows2, lot2.pos, by omega, srt2, fun p A D H3 lenA s3 np nA lk lt full => ?_⟩
    repeat array_get_dec
    have hx3 := s3 _ _ hx2
    refine ⟨x, C, dx, _, rfl, hx3, T.cl, T.links, (by show 1 < 1000; decide), ?_⟩
    repeat array_get_dec
    refine ⟨x, C, dx, _, rfl, upd_same, T.cl, T.lines, (by show 2 < 1000; decide), ?_⟩
    repeat array_get_dec
    refine ⟨x, C, dx, _, rfl, upd_same, T.cl, T.parts, (by show 3 < 1000; decide), ?_⟩
    have kp {b : Addr} {o : HO} (e : H3 b = some o) (n : ∀ c d fs, o ≠ .ins c d fs) (o1 o2 o3 : HO) : upd (upd (upd H3 x o1) x o2) x o3 b = some o := by
      have bx : b ≠ x := fun w => by
        rw [w, hx3] at e
        exact n _ _ _ (Option.some.inj e).symm
      rw [upd_ne bx, upd_ne bx, upd_ne bx]
      exact e
    have back {b : Addr} (e : H2 b = none) : H b = none := by
      cases k : H b with
      | none => rfl
      | some o =>
        by_cases w : b = x
        · rw [w, hx2] at e
          cases e
        · rw [k2 b o k w] at e
          cases e
    refine q R p us A D _ (fun b o e n => ?_) n1 (back np) (fun a m => back (nA a m)) pm ⟨⟨dx, ?_⟩, rows2.of (kp (s3 _ _ rows2.at_) (fun _ _ _ => nofun) _ _ _) (fun u xs e => kp (s3 _ _ e) (fun _ _ _ => nofun) _ _ _), lenA.symm, by omega, by rw [lenA]; exact lot2.pos, lk.of (kp lk.at_ (fun _ _ _ => nofun) _ _ _) (fun a kvs e => kp e (fun _ _ _ => nofun) _ _ _), by rw [lenA]; exact srt2, ⟨by rw [lenA]; exact lt, by rw [lenA]; exact full⟩⟩
    · rw [upd_ne n, upd_ne n, upd_ne n]
      exact s3 _ _ (k2 b o e n)
    · rw [upd_same, sf_made]
end
/-! ### what a subdivision tells -/
section
variable {P : Program} {w : World} {K : PySem.W.Frag} {mg : Str → Option Value} {base : Heap}
theorem SubAt.same {C : Addr} {H H' : Hp} {x R p : Addr} {rs A : List Addr} {pt : Nat → Pt} {D : Nat → List (Nat × Int)} {li pa : V} (h : SubAt C H x R p rs A pt D li pa) (s : Same H H') : SubAt C H' x R p rs A pt D li pa :=
  ⟨let ⟨dx, e⟩ := h.ob; ⟨dx, s _ _ e⟩, h.rows.of (s _ _ h.rows.at_) (fun _ _ e => s _ _ e), h.len, h.few, h.pos, h.lk.same s, h.srt, h.ld⟩
theorem SubAt.put {C : Addr} {H : Hp} {x R p dx : Addr} {rs A : List Addr} {pt : Nat → Pt} {D : Nat → List (Nat × Int)} {li pa li' pa' : V} (h : SubAt C H x R p rs A pt D li pa) (fs : List (Str × V)) (e : fs = sf (.ref R) (.ref p) li' pa') : SubAt C (L2.upd H x (.ins C dx fs)) x R p rs A pt D li' pa' := by
  obtain ⟨d0, ob⟩ := h.ob
  exact ⟨⟨dx, by rw [upd_same, e]⟩, h.rows.of (upd_o ob h.rows.at_ nofun) (fun _ _ k => upd_o ob k nofun), h.len, h.few, h.pos, h.lk.of (upd_o ob h.lk.at_ nofun) (fun _ _ k => upd_o ob k nofun), h.srt, h.ld⟩
theorem KeepX.of {x : Addr} {H H' : Hp} (s : Same H H') : KeepX x H H' := fun b o e _ => s b o e
theorem KeepX.put {x : Addr} {H H' : Hp} {o : HO} (s : KeepX x H H') : KeepX x H (L2.upd H' x o) := fun b z e n => by
  rw [upd_ne n]
  exact s b z e n
theorem KeepX.trans {x : Addr} {H H' H'' : Hp} (s : KeepX x H H') (t : KeepX x H' H'') : KeepX x H H'' := fun b z e n => t b z (s b z e n) n
/-- the faces that are held -/
structure Parts (P : Nat → Pt) (n : Nat) (H : Hp) (R : Addr) (rs : List Addr) (F : Addr) (us : List Addr) (es : List (Nat × Nat)) (fs : List (List Nat)) : Prop where
  at_ : H F = some (.lst (us.map V.ref))
  fcs : FcsAt H rs R us fs
  is : FacesL P n es fs
theorem Parts.same {P : Nat → Pt} {n : Nat} {H H' : Hp} {R F : Addr} {rs us : List Addr} {es : List (Nat × Nat)} {fs : List (List Nat)} (h : Parts P n H R rs F us es fs) (s : Same H H') : Parts P n H' R rs F us es fs := ⟨s _ _ h.at_, h.fcs.same fun _ _ _ _ e => s _ _ e, h.is⟩
abbrev s_edges : Stmt := inClass (topS 29) 3
abbrev n_edges : List Str := ["self"]
theorem c_edges : FnScope n_edges ["self"] (defScope s_edges) := ⟨rfl, rfl, rfl, by decide +kernel, rfl, by decide +kernel, by decide +kernel⟩
def p_edges (C : Addr) : Sp := fun vs H Q _ => ∃ (x R p : Addr) (rs A : List Addr) (pt : Nat → Pt) (D : Nat → List (Nat × Int)) (pa : V), vs = [.ref x] ∧ SubAt C H x R p rs A pt D .non pa ∧
  ∀ (q F : Addr) (us : List Addr) (es : List (Nat × Nat)) H', KeepX x H H' → H q = none → H' q = some (.lst (us.map V.ref)) → PrsAt H' rs R us es → EdgL D A.length es → SubAt C H' x R p rs A pt D (.ref F) pa → Q (.ref q) H'
set_option pp.maxSteps 300 in
theorem ok_edges  {f : Addr} {fd : FuncData} (F : Fun K "edges" "Subdivision.edges" s_edges f fd) (C_edges_of : Cl P w K mg base CX0 "edges_of" 1 ["rows", "links"] (p_edges_of)) (mlist : mg "list" = none) {C : Addr} (T : SubT K C) : FnOk P w K mg base CX0 2 f fd ["self"] (p_edges C) := by
  refine F.ok c_edges (fun vs H Q E h => ?_) (fun cdv A outer s H vs Q E hr h => ?_)
  · obtain ⟨x, R, p, rs, A, pt, D, pa, rfl, hs, q⟩ := h
    rfl
  · obtain ⟨x, R, p, rs, A, pt, D, pa, rfl, hs, q⟩ := h
    have nd := c_edges.nd
    have hu : _ := hu_of hr
    refine ⟨_, (pss_cons (ps_if (pt_cmpR op_isN (pe_fld (pv 0) rfl) pe_non (nomark _)) (pss_one (ps_fld (pv 0) (pe_cl C_edges_of (hr.mono (by decide)) (by rfl) pass0 (pa_cons (pe_fld (pv 0) rfl) (pa_cons (pe_fld (pv 0) rfl) pa_nil))) rfl)) pss_nil) (pss_one (ps_ret (pe_callTy call_list_of (by rfl) mlist (by decide +kernel) (pa_cons (pe_fld (pv 0) rfl) pa_nil))))), ?_⟩
    obtain ⟨dx, ob⟩ := hs.ob
    have eR := hs.rows.at_
    obtain ⟨lR, lp, ll, lpa⟩ := sf_at (.ref R) (.ref p) .non pa
    repeat array_get_dec
    refine ⟨x, C, dx, _, .non, rfl, ob, T.cl, T.lines, ll, ?_⟩
    repeat array_get_dec
    refine ⟨x, C, dx, _, .ref R, rfl, ob, T.cl, T.rows, lR, ?_⟩
    repeat array_get_dec
    refine ⟨x, C, dx, _, .ref p, rfl, ob, T.cl, T.links, lp, ?_⟩
    repeat array_get_dec
    refine ⟨R, p, rs, A, pt, D, rfl, hs.rows, hs.len, hs.few, hs.lk, fun F us es H1 s1 n1 e1 pr ed => ?_⟩
    repeat array_get_dec
    have ob1 := s1 _ _ ob
    refine ⟨x, C, dx, _, rfl, ob1, T.cl, T.lines, (by show 4 < 1000; decide), ?_⟩
    have hs2 := (hs.same s1).put (dx := dx) _ (sf_lines (.ref R) (.ref p) .non pa (.ref F))
    have k2 : KeepX x H (upd H1 x (.ins C dx (L2.putF "lines" (.ref F) (sf (.ref R) (.ref p) .non pa)))) := (KeepX.of s1).put
    have e2 : upd H1 x (.ins C dx (L2.putF "lines" (.ref F) (sf (.ref R) (.ref p) .non pa))) F = some (.lst (us.map V.ref)) := upd_o ob1 e1 nofun
    have pr2 : PrsAt (upd H1 x (.ins C dx (L2.putF "lines" (.ref F) (sf (.ref R) (.ref p) .non pa)))) rs R us es := pr.same fun u xs e => upd_o ob1 e nofun
    have hx2 : upd H1 x (.ins C dx (L2.putF "lines" (.ref F) (sf (.ref R) (.ref p) .non pa))) x = some (.ins C dx (L2.putF "lines" (.ref F) (sf (.ref R) (.ref p) .non pa))) := upd_same
    generalize upd H1 x (.ins C dx (L2.putF "lines" (.ref F) (sf (.ref R) (.ref p) .non pa))) = H2 at hs2 k2 e2 pr2 hx2 ⊢
    repeat array_get_dec
    refine ⟨x, C, dx, _, .ref F, rfl, hx2, T.cl, T.lines, by rw [L2.lookup_putF, if_pos rfl], ?_⟩
    repeat array_get_dec
    refine fun q1 n2 => ?_
    have nq : H q1 = none := by
      cases k : H q1 with
      | none => rfl
      | some o =>
        by_cases w : q1 = x
        · rw [w, hx2] at n2
          cases n2
        · rw [k2 q1 o k w] at n2
          cases n2
    exact q q1 F us es _ (k2.trans (KeepX.of (same_new n2))) nq upd_same (pr2.same fun u xs e => same_new n2 _ _ e) ed (hs2.same (same_new n2))
end
/-! ### signs, sites that are alike -/
section
variable {P : Program} {w : World} {K : PySem.W.Frag} {mg : Str → Option Value} {base : Heap}
def sg (n : Int) : Int := if n = 0 then 0 else if 0 < n then 1 else -1
theorem dpSit {H : Hp} {t : Addr} {x y : Int} (h : Sit H t x y) : Dp K H (.ref t) (.tuple [.int x, .int y]) := .tup (SqT.of h) (.cons (.int x) (.cons (.int y) .nil))
theorem eqv_sit (x y u v : Int) : PyData.eqv (.tuple [.int x, .int y]) (.tuple [.int u, .int v]) = decide (x = u ∧ y = v) := by
  simp [PyData.eqv, PyData.eqvAll, Bool.decide_and, Bool.beq_eq_decide_eq]
theorem at0_ (u v : V) : atI [u, v] 0 = some u := rfl
theorem at1_ (u v : V) : atI [u, v] 1 = some v := rfl
end
/-! ### places, fractions: the mathematics -/
def g3 (x y d : Int) : Nat := Nat.gcd (Nat.gcd x.natAbs y.natAbs) d.natAbs
theorem g3_is (x y d : Int) : Nat.gcd (((Nat.gcd x.natAbs y.natAbs : Nat) : Int)).natAbs d.natAbs = g3 x y d := by
  rw [Int.natAbs_natCast]
  rfl
theorem g3_dx (x y d : Int) : ((g3 x y d : Nat) : Int) ∣ x := Int.ofNat_dvd_left.mpr (Nat.dvd_trans (Nat.gcd_dvd_left _ _) (Nat.gcd_dvd_left _ _))
theorem g3_dy (x y d : Int) : ((g3 x y d : Nat) : Int) ∣ y := Int.ofNat_dvd_left.mpr (Nat.dvd_trans (Nat.gcd_dvd_left _ _) (Nat.gcd_dvd_right _ _))
theorem g3_dd (x y d : Int) : ((g3 x y d : Nat) : Int) ∣ d := Int.ofNat_dvd_left.mpr (Nat.gcd_dvd_right _ _)
theorem g3_pos {x y d : Int} (h : d ≠ 0) : 0 < g3 x y d := Nat.gcd_pos_of_pos_right _ (Int.natAbs_pos.mpr h)
theorem g3_le {x y d : Int} (h : d ≠ 0) : g3 x y d ≤ d.natAbs := Nat.le_of_dvd (Int.natAbs_pos.mpr h) (Nat.gcd_dvd_right _ _)
/-- the divisor that makes the last number one of 1 and more -/
def gs (x y d : Int) : Int := if d < 0 then -((g3 x y d : Nat) : Int) else ((g3 x y d : Nat) : Int)
theorem gs_ne {x y d : Int} (h : d ≠ 0) : gs x y d ≠ 0 := by
  have := g3_pos (x := x) (y := y) h
  unfold gs
  split <;> omega
theorem gs_abs (x y d : Int) : (gs x y d).natAbs = g3 x y d := by
  unfold gs
  split <;> omega
theorem gs_dvd {x y d z : Int} (h : ((g3 x y d : Nat) : Int) ∣ z) : gs x y d ∣ z := by
  unfold gs
  split
  · exact Int.neg_dvd.mpr h
  · exact h
/-- a tuple of three numbers is a place -/
structure PlOk (x y d : Int) : Prop where
  x1 : -(10 ^ 30) < x
  x2 : x < 10 ^ 30
  y1 : -(10 ^ 30) < y
  y2 : y < 10 ^ 30
  d1 : 1 ≤ d
  d2 : d < 10 ^ 30
  g1 : g3 x y d = 1
theorem mul_fdiv {g z : Int} (h : g ∣ z) : g * z.fdiv g = z := by
  rw [Int.fdiv_eq_ediv_of_dvd h]
  exact Int.mul_ediv_cancel' h
theorem abs_le_of_mul {g z x : Int} (e : g * z = x) (h : g ≠ 0) : z.natAbs ≤ x.natAbs := by
  rw [← e, Int.natAbs_mul]
  exact Nat.le_mul_of_pos_left _ (Int.natAbs_pos.mpr h)
theorem place_ok {x y d : Int} (h : d ≠ 0) (hx : x.natAbs < 10 ^ 30) (hy : y.natAbs < 10 ^ 30) (hd : d.natAbs < 10 ^ 30) : PlOk (x.fdiv (gs x y d)) (y.fdiv (gs x y d)) (d.fdiv (gs x y d)) := by
  have ex := mul_fdiv (gs_dvd (g3_dx x y d))
  have ey := mul_fdiv (gs_dvd (g3_dy x y d))
  have ed := mul_fdiv (gs_dvd (g3_dd x y d))
  have hn := gs_ne (x := x) (y := y) h
  have bx := abs_le_of_mul ex hn
  have by' := abs_le_of_mul ey hn
  have bd := abs_le_of_mul ed hn
  have pos : 0 < d.fdiv (gs x y d) := by
    have gp := g3_pos (x := x) (y := y) h
    generalize d.fdiv (gs x y d) = D at ed
    unfold gs at ed
    split at ed
    · rename_i hneg
      rcases Int.lt_trichotomy D 0 with z | z | z
      · exfalso
        have w : 0 < -((g3 x y d : Nat) : Int) * D := Int.mul_pos_of_neg_of_neg (by omega) z
        omega
      · rw [z, Int.mul_zero] at ed
        omega
      · exact z
    · rcases Int.lt_trichotomy D 0 with z | z | z
      · exfalso
        have w : ((g3 x y d : Nat) : Int) * D < 0 := Int.mul_neg_of_pos_of_neg (by omega) z
        omega
      · rw [z, Int.mul_zero] at ed
        omega
      · exact z
  refine ⟨by omega, by omega, by omega, by omega, by omega, by omega, ?_⟩
  have nx : g3 x y d * (x.fdiv (gs x y d)).natAbs = x.natAbs := by rw [← gs_abs, ← Int.natAbs_mul, ex]
  have ny : g3 x y d * (y.fdiv (gs x y d)).natAbs = y.natAbs := by rw [← gs_abs, ← Int.natAbs_mul, ey]
  have nd : g3 x y d * (d.fdiv (gs x y d)).natAbs = d.natAbs := by rw [← gs_abs, ← Int.natAbs_mul, ed]
  have key : g3 x y d * g3 (x.fdiv (gs x y d)) (y.fdiv (gs x y d)) (d.fdiv (gs x y d)) = g3 x y d := by
    generalize hg : g3 x y d = g at nx ny nd
    unfold g3
    rw [← Nat.gcd_mul_left, ← Nat.gcd_mul_left, nx, ny, nd]
    exact hg
  exact Nat.eq_of_mul_eq_mul_left (g3_pos (x := x) (y := y) h) (by rw [key, Nat.mul_one])
theorem nb_add {i j : Int} {a : Nat} (hi : i.natAbs < 2 ^ a) (hj : j.natAbs < 2 ^ a) : (i + j).natAbs < 2 ^ (a + 1) := by
  rw [Nat.pow_succ]
  omega
theorem nb_sub {i j : Int} {a : Nat} (hi : i.natAbs < 2 ^ a) (hj : j.natAbs < 2 ^ a) : (i - j).natAbs < 2 ^ (a + 1) := by
  rw [Nat.pow_succ]
  omega
theorem nb_up {i : Int} {a b : Nat} (hi : i.natAbs < 2 ^ a) (h : a ≤ b) : i.natAbs < 2 ^ b := Nat.lt_of_lt_of_le hi (Nat.pow_le_pow_right (by decide) h)
theorem PlOk.bits {x y d : Int} (h : PlOk x y d) : x.natAbs < 2 ^ 100 ∧ y.natAbs < 2 ^ 100 ∧ d.natAbs < 2 ^ 100 := by
  obtain ⟨h1, h2, h3, h4, h5, h6, _⟩ := h
  refine ⟨by omega, by omega, by omega⟩
/-- the squared distance of a place and a site, times d * d -/
def spread (x y d u v : Int) : Int := (x - d * u) * (x - d * u) + (y - d * v) * (y - d * v)
theorem sq_nn (x : Int) : 0 ≤ x * x := by
  rw [← Int.natAbs_mul_self]
  exact Int.natCast_nonneg _
/-- what lifts from a site are -/
def lz (u v : Int) : Int := u * u + v * v
def vol (ax ay bx by' cx cy dx dy : Int) : Int :=
  (dx - ax) * ((by' - ay) * lz (cx - ax) (cy - ay) - lz (bx - ax) (by' - ay) * (cy - ay)) + (dy - ay) * (lz (bx - ax) (by' - ay) * (cx - ax) - (bx - ax) * lz (cx - ax) (cy - ay)) + lz (dx - ax) (dy - ay) * ((bx - ax) * (cy - ay) - (by' - ay) * (cx - ax))
/-! ### fractions, places, circles, lifts -/
abbrev sFrac : Stmt := topS 7
theorem scFrac : FnScope ["top", "bottom", "common"] ["top", "bottom"] (defScope sFrac) := ⟨rfl, rfl, rfl, by decide +kernel, rfl, by decide +kernel, by decide +kernel⟩
section
variable {P : Program} {w : World} {K : PySem.W.Frag} {mg : Str → Option Value} {base : Heap}
theorem three_line : 3 ≤ sizeLine := by decide
/-- a new thing is handed back, all else stands -/
def newRes (H : Hp) (Q : VK) (o : HO) : Prop := ∀ (p : Addr) H', Same H H' → H p = none → H' p = some o → Q (.ref p) H'
/-! fraction -/
def gcf (t b : Int) : Int := ((Nat.gcd t.natAbs b.natAbs : Nat) : Int)
def spFrac : Sp := fun vs H Q _ => ∃ t b : Int, vs = [.int t, .int b] ∧ 0 < b ∧ b.natAbs < 2 ^ 8000 ∧ newRes H Q (.tup [.int (t / gcf t b), .int (b / gcf t b)])
theorem gcf_pos {t b : Int} (h : 0 < b) : 0 < gcf t b := Int.natCast_pos.mpr (Nat.gcd_pos_of_pos_right _ (by omega))
theorem gcf_le {t b : Int} (h : 0 < b) : (gcf t b).natAbs ≤ b.natAbs := by
  unfold gcf
  rw [Int.natAbs_natCast]
  exact Nat.le_of_dvd (by omega) (Nat.gcd_dvd_right _ _)
theorem ok_frac {f : Addr} {fd : FuncData} {k : Nat} (F : Fun K "fraction" "fraction" sFrac f fd) (mgcd : mg "gcd" = some (.builtin "math.gcd")) : FnOk P w K mg base CX0 (k + 1) f fd ["top", "bottom"] spFrac := by
  refine F.ok scFrac (fun vs H Q E h => ?_) (fun cdv A outer s H vs Q E hr h => ?_)
  · obtain ⟨t, b, rfl, _⟩ := h
    rfl
  · obtain ⟨t, b, rfl, hb, hw, q⟩ := h
    have c1 : CDivE t (gcf t b) := ⟨Int.ne_of_gt (gcf_pos hb), Nat.lt_of_le_of_lt (gcf_le hb) hw⟩
    have c2 : CDivE b (gcf t b) := ⟨Int.ne_of_gt (gcf_pos hb), Nat.lt_of_le_of_lt (gcf_le hb) hw⟩
    have e1 : t.fdiv (gcf t b) = t / gcf t b := Int.fdiv_eq_ediv_of_nonneg _ (Int.le_of_lt (gcf_pos hb))
    have e2 : b.fdiv (gcf t b) = b / gcf t b := Int.fdiv_eq_ediv_of_nonneg _ (Int.le_of_lt (gcf_pos hb))
    refine ⟨_, (pss_cons (ps_set (i := 2) scFrac.nd rfl (.inl rfl) (pe_callBfun cr_gcd (by rfl) mgcd (pa_cons (pv 0) (pa_cons (pv 1) pa_nil)))) (pss_one (ps_ret (pe_tup (pa_cons (pe_op op_fdivE (pv 0) (pv 2)) (pa_cons (pe_op op_fdivE (pv 1) (pv 2)) pa_nil)))))), ?_⟩
    refine ⟨_, rfl, _, rfl, _, _, rfl, ?_⟩
    refine ⟨_, rfl, _, rfl, _, _, rfl, rfl, c1, _, rfl, _, rfl, _, _, rfl, rfl, c2, two_line, fun p np => q p _ (Same.upd np) np ?_⟩
    rw [← e1, ← e2]
    exact upd_same
/-! places -/
end
/-! ### circles: the mathematics -/
def cX1 (ax ay bx by' cx cy : Int) : Int := lz (bx - ax) (by' - ay) * (cy - ay) - lz (cx - ax) (cy - ay) * (by' - ay)
def cY1 (ax ay bx by' cx cy : Int) : Int := lz (cx - ax) (cy - ay) * (bx - ax) - lz (bx - ax) (by' - ay) * (cx - ax)
def cXn (ax ay bx by' cx cy : Int) : Int := ax * (2 * tri ax ay bx by' cx cy) + cX1 ax ay bx by' cx cy
def cYn (ax ay bx by' cx cy : Int) : Int := ay * (2 * tri ax ay bx by' cx cy) + cY1 ax ay bx by' cx cy
def cDn (ax ay bx by' cx cy : Int) : Int := 2 * tri ax ay bx by' cx cy
def cTop (ax ay bx by' cx cy : Int) : Int := cX1 ax ay bx by' cx cy * cX1 ax ay bx by' cx cy + cY1 ax ay bx by' cx cy * cY1 ax ay bx by' cx cy
/-- the centre's numbers -/
def ctx (ax ay bx by' cx cy : Int) : Int := (cXn ax ay bx by' cx cy).fdiv (gs (cXn ax ay bx by' cx cy) (cYn ax ay bx by' cx cy) (cDn ax ay bx by' cx cy))
def cty (ax ay bx by' cx cy : Int) : Int := (cYn ax ay bx by' cx cy).fdiv (gs (cXn ax ay bx by' cx cy) (cYn ax ay bx by' cx cy) (cDn ax ay bx by' cx cy))
def ctd (ax ay bx by' cx cy : Int) : Int := (cDn ax ay bx by' cx cy).fdiv (gs (cXn ax ay bx by' cx cy) (cYn ax ay bx by' cx cy) (cDn ax ay bx by' cx cy))
theorem cmL {i j : Int} (h : i.natAbs < 2 ^ 63) : CMul i j := .inl ⟨by omega, by omega⟩
theorem cmR {i j : Int} (h : j.natAbs < 2 ^ 63) : CMul i j := .inr ⟨by omega, by omega⟩
theorem df_bits {a b : Int} (ha : -1000000 ≤ a ∧ a ≤ 1000000) (hb : -1000000 ≤ b ∧ b ≤ 1000000) : (b - a).natAbs < 2 ^ 21 := by omega
theorem lz_bits {u v : Int} (hu : u.natAbs < 2 ^ 21) (hv : v.natAbs < 2 ^ 21) : (lz u v).natAbs < 2 ^ 43 := nb_add (wide_lt hu hu) (wide_lt hv hv)
structure Six (ax ay bx by' cx cy : Int) : Prop where
  a : Bd 1000000 ax ay
  b : Bd 1000000 bx by'
  c : Bd 1000000 cx cy
section
variable {ax ay bx by' cx cy : Int}
theorem Six.u1 (h : Six ax ay bx by' cx cy) : (bx - ax).natAbs < 2 ^ 21 := df_bits ⟨h.a.1, h.a.2.1⟩ ⟨h.b.1, h.b.2.1⟩
theorem Six.v1 (h : Six ax ay bx by' cx cy) : (by' - ay).natAbs < 2 ^ 21 := df_bits h.a.2.2 h.b.2.2
theorem Six.u2 (h : Six ax ay bx by' cx cy) : (cx - ax).natAbs < 2 ^ 21 := df_bits ⟨h.a.1, h.a.2.1⟩ ⟨h.c.1, h.c.2.1⟩
theorem Six.v2 (h : Six ax ay bx by' cx cy) : (cy - ay).natAbs < 2 ^ 21 := df_bits h.a.2.2 h.c.2.2
theorem Six.l1 (h : Six ax ay bx by' cx cy) : (lz (bx - ax) (by' - ay)).natAbs < 2 ^ 43 := lz_bits h.u1 h.v1
theorem Six.l2 (h : Six ax ay bx by' cx cy) : (lz (cx - ax) (cy - ay)).natAbs < 2 ^ 43 := lz_bits h.u2 h.v2
theorem Six.t (h : Six ax ay bx by' cx cy) : (tri ax ay bx by' cx cy).natAbs < 2 ^ 43 := nb_sub (wide_lt h.u1 h.v2) (wide_lt h.v1 h.u2)
theorem Six.t2 (h : Six ax ay bx by' cx cy) : (2 * tri ax ay bx by' cx cy).natAbs < 2 ^ 44 := by
  have := h.t
  omega
theorem Six.x1 (h : Six ax ay bx by' cx cy) : (cX1 ax ay bx by' cx cy).natAbs < 2 ^ 65 := nb_sub (wide_lt h.l1 h.v2) (wide_lt h.l2 h.v1)
theorem Six.y1 (h : Six ax ay bx by' cx cy) : (cY1 ax ay bx by' cx cy).natAbs < 2 ^ 65 := nb_sub (wide_lt h.l2 h.u1) (wide_lt h.l1 h.u2)
theorem Six.xn (h : Six ax ay bx by' cx cy) : (cXn ax ay bx by' cx cy).natAbs < 2 ^ 66 := nb_add (wide_lt (a := 21) (by have := h.a.1; have := h.a.2.1; omega) h.t2) h.x1
theorem Six.yn (h : Six ax ay bx by' cx cy) : (cYn ax ay bx by' cx cy).natAbs < 2 ^ 66 := nb_add (wide_lt (a := 21) (by have := h.a.2.2; omega) h.t2) h.y1
theorem Six.place (h : Six ax ay bx by' cx cy) (t : tri ax ay bx by' cx cy ≠ 0) : PlOk (ctx ax ay bx by' cx cy) (cty ax ay bx by' cx cy) (ctd ax ay bx by' cx cy) := by
  have h1 := h.xn
  have h2 := h.yn
  have h3 := h.t2
  exact place_ok (show cDn ax ay bx by' cx cy ≠ 0 by unfold cDn; omega) (by omega) (by omega) (by unfold cDn; omega)
/-- the centre is as far from all three, times its last number's square -/
theorem centre_far (t : tri ax ay bx by' cx cy ≠ 0) : ∃ g : Int, g ≠ 0 ∧ g * ctx ax ay bx by' cx cy = cXn ax ay bx by' cx cy ∧ g * cty ax ay bx by' cx cy = cYn ax ay bx by' cx cy ∧ g * ctd ax ay bx by' cx cy = cDn ax ay bx by' cx cy := by
  have hd : cDn ax ay bx by' cx cy ≠ 0 := by unfold cDn; omega
  exact ⟨_, gs_ne hd, mul_fdiv (gs_dvd (g3_dx _ _ _)), mul_fdiv (gs_dvd (g3_dy _ _ _)), mul_fdiv (gs_dvd (g3_dd _ _ _))⟩
theorem spread_scale (g x y d u v : Int) : g * g * spread x y d u v = spread (g * x) (g * y) (g * d) u v := by
  unfold spread
  grind
theorem far_a : spread (cXn ax ay bx by' cx cy) (cYn ax ay bx by' cx cy) (cDn ax ay bx by' cx cy) ax ay = cTop ax ay bx by' cx cy := by
  unfold spread cXn cYn cDn cTop
  grind
end
section
variable {P : Program} {w : World} {K : PySem.W.Frag} {mg : Str → Option Value} {base : Heap}
def spPlOf : Sp := fun vs H Q _ => ∃ x y d : Int, vs = [.int x, .int y, .int d] ∧ d ≠ 0 ∧ d.natAbs < 2 ^ 8000 ∧ newRes H Q (.tup [.int (x.fdiv (gs x y d)), .int (y.fdiv (gs x y d)), .int (d.fdiv (gs x y d))])
theorem gs_div {x y d : Int} (h : d ≠ 0) (hd : d.natAbs < 2 ^ 8000) (z : Int) : CDivE z (gs x y d) := ⟨gs_ne h, by rw [gs_abs]; exact Nat.lt_of_le_of_lt (g3_le h) hd⟩
theorem cgcf_scale {s t b : Int} (h : 0 < s) : gcf (s * t) (s * b) = s * gcf t b := by
  unfold gcf
  rw [Int.natAbs_mul, Int.natAbs_mul, Nat.gcd_mul_left, Int.natCast_mul, Int.natAbs_of_nonneg (Int.le_of_lt h)]
theorem cfrac_scale {s t b z : Int} (h : 0 < s) : s * z / gcf (s * t) (s * b) = z / gcf t b := by
  rw [cgcf_scale h]
  exact Int.mul_ediv_mul_of_pos _ _ h
end
/-! ### the law's own reckoning -/
abbrev sLTurn : Stmt := topS 42
abbrev sLCom : Stmt := topS 43
abbrev sLPl : Stmt := topS 44
theorem scLTurn : FnScope ["_law_aa", "_law_bb", "_law_c"] ["_law_aa", "_law_bb", "_law_c"] (defScope sLTurn) := ⟨rfl, rfl, rfl, by decide +kernel, rfl, by decide +kernel, by decide +kernel⟩
theorem scLCom : FnScope ["_law_aa", "_law_bb"] ["_law_aa", "_law_bb"] (defScope sLCom) := ⟨rfl, rfl, rfl, by decide +kernel, rfl, by decide +kernel, by decide +kernel⟩
theorem scLPl : FnScope ["_law_x", "_law_y", "_law_d", "_law_great"] ["_law_x", "_law_y", "_law_d"] (defScope sLPl) := ⟨rfl, rfl, rfl, by decide +kernel, rfl, by decide +kernel, by decide +kernel⟩
section
variable {P : Program} {w : World} {K : PySem.W.Frag} {mg : Str → Option Value} {base : Heap}
theorem ok_lturn {f : Addr} {fd : FuncData} {k : Nat} (F : Fun K "_law_turn" "_law_turn" sLTurn f fd) : FnOk P w K mg base CX0 (k + 1) f fd ["_law_aa", "_law_bb", "_law_c"] (sp3 K fun ax ay bx by' cx cy => .int (tri ax ay bx by' cx cy)) := by
  refine F.ok scLTurn (fun vs H Q E h => ?_) (fun cdv A outer s H vs Q E hr h => ?_)
  · obtain ⟨a, b, c, ax, ay, bx, by', cx, cy, rfl, _⟩ := h
    rfl
  · obtain ⟨a, b, c, ax, ay, bx, by', cx, cy, rfl, ha, hb, hc, da, db, dc, q⟩ := h
    have six : Six ax ay bx by' cx cy := ⟨da, db, dc⟩
    have q : Q (.int (tri ax ay bx by' cx cy)) H := q
    refine ⟨_, pss_one (ps_ret (pe_op op_sub (pe_op op_mul (pe_op op_sub (pe_ix ix_tup (pv 1) pe_int (fun _ _ => rfl)) (pe_ix ix_tup (pv 0) pe_int (fun _ _ => rfl))) (pe_op op_sub (pe_ix ix_tup (pv 2) pe_int (fun _ _ => rfl)) (pe_ix ix_tup (pv 0) pe_int (fun _ _ => rfl)))) (pe_op op_mul (pe_op op_sub (pe_ix ix_tup (pv 2) pe_int (fun _ _ => rfl)) (pe_ix ix_tup (pv 0) pe_int (fun _ _ => rfl))) (pe_op op_sub (pe_ix ix_tup (pv 1) pe_int (fun _ _ => rfl)) (pe_ix ix_tup (pv 0) pe_int (fun _ _ => rfl)))))), ?_⟩
    unfold tri at q
    rw [Int.mul_comm (by' - ay) (cx - ax)] at q
    exact ⟨_, rfl, _, _, _, _, rfl, rfl, SqT.of hb, at0_ _ _, _, rfl, _, _, _, _, rfl, rfl, SqT.of ha, at0_ _ _, _, _, rfl, rfl, _, rfl, _, _, _, _, rfl, rfl, SqT.of hc, at1_ _ _, _, rfl, _, _, _, _, rfl, rfl, SqT.of ha, at1_ _ _, _, _, rfl, rfl, _, _, rfl, rfl, cmL (nb_up six.u1 (by decide)), _, rfl, _, _, _, _, rfl, rfl, SqT.of hc, at0_ _ _, _, rfl, _, _, _, _, rfl, rfl, SqT.of ha, at0_ _ _, _, _, rfl, rfl, _, rfl, _, _, _, _, rfl, rfl, SqT.of hb, at1_ _ _, _, rfl, _, _, _, _, rfl, rfl, SqT.of ha, at1_ _ _, _, _, rfl, rfl, _, _, rfl, rfl, cmL (nb_up six.u2 (by decide)), _, _, rfl, rfl, q⟩
/-! the greatest common divisor, by rests -/
def spCom : Sp := fun vs H Q _ => ∃ a b : Int, vs = [.int a, .int b] ∧ Q (.int ((Nat.gcd a.natAbs b.natAbs : Nat) : Int)) H
theorem ok_com {f : Addr} {fd : FuncData} {k : Nat} (F : Fun K "_law_common" "_law_common" sLCom f fd) (mi : mg "int" = none) (ma : mg "abs" = none) : FnOk P w K mg base CX0 (k + 1) f fd ["_law_aa", "_law_bb"] spCom := by
  refine F.ok scLCom (fun vs H Q E h => ?_) (fun cdv A outer s H vs Q E hr h => ?_)
  · obtain ⟨a, b, rfl, _⟩ := h
    rfl
  · obtain ⟨a, b, rfl, q⟩ := h
    have nd := scLCom.nd
    refine ⟨_, pss_cons (ps_par (i := 0) (j := 1) rfl nd rfl rfl (by decide) rfl rfl (pa_cons (pe_callB call_abs (by rfl) ma (by decide +kernel) (pa_cons (pv 0) pa_nil)) (pa_cons (pe_callB call_abs (by rfl) ma (by decide +kernel) (pa_cons (pv 1) pa_nil)) pa_nil)) rfl)
      (pss_cons (ps_while PassesOwn.never (pt_cmpR op_gt (pv 1) pe_int (nomark _)) (pss_one (ps_par (i := 0) (j := 1) rfl nd rfl rfl (by decide) rfl rfl (pa_cons (pv 1) (pa_cons (pe_op op_mod (pe_callTy call_int1 (by rfl) mi (by decide +kernel) (pa_cons (pv 0) pa_nil)) (pv 1)) pa_nil)) rfl)))
      (pss_one (ps_ret (pv 0)))), ?_⟩
    refine ⟨_, rfl, _, rfl, _, rfl, _, rfl, _, _, rfl, ?_⟩
    have ab : ∀ z : Int, (if z < 0 then -z else z) = (z.natAbs : Int) := fun z => by split <;> omega
    show tWhile _ _ _ [some (V.int (if a < 0 then -a else a)), some (V.int (if b < 0 then -b else b))] H
    rw [ab, ab]
    refine while_by (fun σ' H' => (∃ m n : Nat, σ' = [some (.int (m : Int)), some (.int (n : Int))] ∧ Nat.gcd m n = Nat.gcd a.natAbs b.natAbs) ∧ H = H') (fun σ' _ => match σ' with
      | [_, some (.int n)] => n.toNat
      | _ => 0) ⟨⟨_, _, rfl, rfl⟩, rfl⟩ ?_ ?_
    · rintro _ _ ⟨⟨m, n, rfl, e⟩, rfl⟩
      refine ⟨_, rfl, _, _, rfl, rfl, _, rfl, ite2 (fun c => ?_) fun c => ?_⟩
      · have c : (0 : Int) < (n : Int) := of_decide_eq_true c
        have hm : (m : Int) % (n : Int) = ((m % n : Nat) : Int) := rfl
        refine ⟨_, rfl, _, rfl, .inl ⟨_, rfl, _, rfl, _, _, rfl, rfl, c, _, _, rfl, ?_⟩⟩
        refine ⟨⟨⟨n, m % n, ?_, ?_⟩, rfl⟩, ?_⟩
        · show [some (V.int (n : Int)), some (V.int ((m : Int) % (n : Int)))] = _
          rw [hm]
        · rw [← e, Nat.gcd_comm m n, Nat.gcd_rec n m, Nat.gcd_comm]
        · show ((m : Int) % (n : Int)).toNat < ((n : Int)).toNat
          rw [hm, Int.toNat_natCast, Int.toNat_natCast]
          exact Nat.mod_lt _ (by omega)
      · have c : ¬ (0 : Int) < (n : Int) := fun z => c (decide_eq_true z)
        have n0 : n = 0 := by omega
        subst n0
        rw [Nat.gcd_zero_right] at e
        refine ⟨_, rfl, ?_⟩
        rw [e]
        exact q
    · rintro σ' H' Q1 Q2 hq ⟨v, e1, i, j, e2, e3, k, e4, r⟩
      exact ⟨v, e1, i, j, e2, e3, k, e4, hq _ _ r⟩
theorem ok_lpl {f fCo : Addr} {fd fdCo : FuncData} {k : Nat} (F : Fun K "_law_place" "_law_place" sLPl f fd) (GCo : FnOk P w K mg base CX0 (k + 1) fCo fdCo ["_law_aa", "_law_bb"] spCom) (gCo : mg "_law_common" = some (.ref fCo)) (kCo : PySem.W.keepIn K (.ref fCo) = true) (bCo : Binds K fdCo ["_law_aa", "_law_bb"] []) : FnOk P w K mg base CX0 (k + 2) f fd ["_law_x", "_law_y", "_law_d"] spPlOf := by
  refine F.ok scLPl (fun vs H Q E h => ?_) (fun cdv A outer s H vs Q E hr h => ?_)
  · obtain ⟨x, y, d, rfl, _⟩ := h
    rfl
  · obtain ⟨x, y, d, rfl, hn, hw, q⟩ := h
    refine ⟨_, C8.pss_cut (ps_set (i := 3) scLPl.nd rfl (.inl rfl) (pe_op op_mul (pe_call GCo hr (by rfl) gCo kCo bCo .nil pass0 (pa_cons (pe_call GCo hr (by rfl) gCo kCo bCo .nil pass0 (pa_cons (pv 0) (pa_cons (pv 1) pa_nil))) (pa_cons (pv 2) pa_nil))) (pe_ifExp (pt_cmpR op_gt (pv 2) pe_int (nomark _)) pe_int pe_neg))) (pss_one (ps_ret (pe_tup (pa_cons (pe_op op_fdivE (pv 0) (pv 3)) (pa_cons (pe_op op_fdivE (pv 1) (pv 3)) (pa_cons (pe_op op_fdivE (pv 2) (pv 3)) pa_nil)))))), ?_⟩
    refine ⟨fun σ' H' => σ' = [some (.int x), some (.int y), some (.int d), some (.int (gs x y d))] ∧ H = H', ?_, ?_⟩
    · have e := g3_is x y d
      refine ⟨_, rfl, _, rfl, _, _, rfl, _, rfl, _, _, rfl, _, rfl, _, _, rfl, rfl, _, rfl, ite2 (fun c => ?_) fun c => ?_⟩
      · have c : 0 < d := of_decide_eq_true c
        refine ⟨_, _, rfl, rfl, .inr ⟨by decide, by decide⟩, ?_, rfl⟩
        show [_, _, _, some (V.int (((Nat.gcd (((Nat.gcd x.natAbs y.natAbs : Nat) : Int)).natAbs d.natAbs : Nat) : Int) * 1))] = _
        unfold gs
        rw [e, if_neg (by omega), Int.mul_one]
      · have c : ¬ 0 < d := fun z => c (decide_eq_true z)
        refine ⟨_, _, rfl, rfl, .inr ⟨by decide, by decide⟩, ?_, rfl⟩
        show [_, _, _, some (V.int (((Nat.gcd (((Nat.gcd x.natAbs y.natAbs : Nat) : Int)).natAbs d.natAbs : Nat) : Int) * -1))] = _
        unfold gs
        rw [e, if_pos (by omega), Int.mul_neg, Int.mul_one]
    · rintro _ _ ⟨rfl, rfl⟩
      have c := gs_div (x := x) (y := y) hn hw
      exact ⟨_, rfl, _, rfl, _, _, rfl, rfl, c _, _, rfl, _, rfl, _, _, rfl, rfl, c _, _, rfl, _, rfl, _, _, rfl, rfl, c _, three_line, fun p np => q p _ (Same.upd np) np upd_same⟩
/-! calls by keywords, from the last one on -/
def gRev {α : Type} (us ws : List α) : List α := match us with
  | [] => ws.reverse
  | _ :: _ => []
theorem Vals.rev : ∀ {xs : List V} {us : List Value}, Vals xs us → Vals xs.reverse us.reverse
  | _, _, .nil => .nil
  | _, _, .cons r t => by
    rw [List.reverse_cons, List.reverse_cons]
    exact Vals.append (Vals.rev t) (.cons r .nil)
theorem kb_rev {x q : Str} {st : Stmt} {f : Addr} {fd : FuncData} {ps ks : List Str} (F : Fun K x q st f fd) (h0 : 0 < ps.length)
    (h : ∀ (kV doc pm : Value) (an : Option Addr) (cdv ct : Value) (ws : List Value), ws.length = ps.length → bindArgs (PySem.W.fnOf x q (defArgs st) (defBody st) (defScope st) .none kV doc pm an cdv ct) ⟨[], ks.zip ws⟩ = (pure (ps.zip ws.reverse) : Sem (List (Str × Value)))) :
    KBinds K fd ps ks gRev gRev := by
  obtain ⟨oc, od, kV, doc, pm, an, cdv, ct, osl, rfl, lk, hcd⟩ := F.ex
  refine ⟨fun s us ws _ hl => ?_, fun {vs us zs ws} r rz => ?_⟩
  · cases us with
    | nil =>
      have hl : ws.reverse.length = ps.length := hl
      rw [List.length_reverse] at hl
      exact .of_eq (h kV doc pm an cdv ct ws hl)
    | cons a r =>
      have hl : 0 = ps.length := hl
      omega
  · cases r with
    | nil => exact Vals.rev rz
    | cons _ _ => exact .nil
end
/-! ### the circle of three sites, told otherwise -/
section
variable {ax ay bx by' cx cy : Int}
theorem g3_two (x y d : Int) : g3 (2 * x) (2 * y) (2 * d) = 2 * g3 x y d := by
  unfold g3
  rw [Int.natAbs_mul, Int.natAbs_mul, Int.natAbs_mul]
  show Nat.gcd (Nat.gcd (2 * _) (2 * _)) (2 * _) = _
  rw [Nat.gcd_mul_left, Nat.gcd_mul_left]
theorem gs_two (x y d : Int) : gs (2 * x) (2 * y) (2 * d) = 2 * gs x y d := by
  unfold gs
  rw [g3_two]
  split <;> split <;> omega
theorem fdiv_two (x g : Int) : (2 * x).fdiv (2 * g) = x.fdiv g := Int.mul_fdiv_mul_of_pos _ _ (by decide)
def lX (ax ay bx by' cx cy : Int) : Int := (bx * bx + by' * by' - ax * ax - ay * ay) * (2 * (cy - ay)) - (cx * cx + cy * cy - ax * ax - ay * ay) * (2 * (by' - ay))
def lY (ax ay bx by' cx cy : Int) : Int := 2 * (bx - ax) * (cx * cx + cy * cy - ax * ax - ay * ay) - 2 * (cx - ax) * (bx * bx + by' * by' - ax * ax - ay * ay)
def lD (ax ay bx by' cx cy : Int) : Int := 2 * (bx - ax) * (2 * (cy - ay)) - 2 * (cx - ax) * (2 * (by' - ay))
theorem lX_is : lX ax ay bx by' cx cy = 2 * cXn ax ay bx by' cx cy := by
  unfold lX cXn cX1 tri lz
  grind
theorem lY_is : lY ax ay bx by' cx cy = 2 * cYn ax ay bx by' cx cy := by
  unfold lY cYn cY1 tri lz
  grind
theorem lD_is : lD ax ay bx by' cx cy = 2 * cDn ax ay bx by' cx cy := by
  unfold lD cDn tri
  grind
theorem lctx : (lX ax ay bx by' cx cy).fdiv (gs (lX ax ay bx by' cx cy) (lY ax ay bx by' cx cy) (lD ax ay bx by' cx cy)) = ctx ax ay bx by' cx cy := by
  rw [lX_is, lY_is, lD_is, gs_two, fdiv_two]
  rfl
theorem lcty : (lY ax ay bx by' cx cy).fdiv (gs (lX ax ay bx by' cx cy) (lY ax ay bx by' cx cy) (lD ax ay bx by' cx cy)) = cty ax ay bx by' cx cy := by
  rw [lX_is, lY_is, lD_is, gs_two, fdiv_two]
  rfl
theorem lctd : (lD ax ay bx by' cx cy).fdiv (gs (lX ax ay bx by' cx cy) (lY ax ay bx by' cx cy) (lD ax ay bx by' cx cy)) = ctd ax ay bx by' cx cy := by
  rw [lX_is, lY_is, lD_is, gs_two, fdiv_two]
  rfl
/-! the first two the other way round -/
theorem cD_ne (t : tri ax ay bx by' cx cy ≠ 0) : cDn ax ay bx by' cx cy ≠ 0 := by
  unfold cDn
  omega
/-! how far the sites are from the centre, told by the place -/
theorem far_vol (dx dy : Int) : spread (cXn ax ay bx by' cx cy) (cYn ax ay bx by' cx cy) (cDn ax ay bx by' cx cy) dx dy - cTop ax ay bx by' cx cy = 4 * (tri ax ay bx by' cx cy * vol ax ay bx by' cx cy dx dy) := by
  unfold spread cXn cYn cDn cTop cX1 cY1 vol tri lz
  grind
end
abbrev sLCen : Stmt := topS 45
theorem scLCen : FnScope ["_law_aa", "_law_bb", "_law_c", "_law_u", "_law_v", "_law_w", "_law_z", "_law_first", "_law_second"] ["_law_aa", "_law_bb", "_law_c"] (defScope sLCen) := ⟨rfl, rfl, rfl, by decide +kernel, rfl, by decide +kernel, by decide +kernel⟩
section
variable {P : Program} {w : World} {K : PySem.W.Frag} {mg : Str → Option Value} {base : Heap}
section
variable {ax ay bx by' cx cy : Int}
theorem Six.n1 (h : Six ax ay bx by' cx cy) : ax.natAbs < 2 ^ 20 := by have := h.a.1; have := h.a.2.1; omega
theorem Six.n2 (h : Six ax ay bx by' cx cy) : ay.natAbs < 2 ^ 20 := by have := h.a.2.2; omega
theorem Six.n3 (h : Six ax ay bx by' cx cy) : bx.natAbs < 2 ^ 20 := by have := h.b.1; have := h.b.2.1; omega
theorem Six.n4 (h : Six ax ay bx by' cx cy) : by'.natAbs < 2 ^ 20 := by have := h.b.2.2; omega
theorem Six.n5 (h : Six ax ay bx by' cx cy) : cx.natAbs < 2 ^ 20 := by have := h.c.1; have := h.c.2.1; omega
theorem Six.n6 (h : Six ax ay bx by' cx cy) : cy.natAbs < 2 ^ 20 := by have := h.c.2.2; omega
end
def spLCen : Sp := fun vs H Q _ => ∃ (a b c : Addr) (ax ay bx by' cx cy : Int), vs = [.ref a, .ref b, .ref c] ∧ Sit H a ax ay ∧ Sit H b bx by' ∧ Sit H c cx cy ∧ Six ax ay bx by' cx cy ∧ tri ax ay bx by' cx cy ≠ 0 ∧ newRes H Q (.tup [.int (ctx ax ay bx by' cx cy), .int (cty ax ay bx by' cx cy), .int (ctd ax ay bx by' cx cy)])
theorem ok_lcen {f fP : Addr} {fd fdP : FuncData} {k : Nat} (F : Fun K "_law_centre" "_law_centre" sLCen f fd) (GP : FnOk P w K mg base CX0 (k + 1) fP fdP ["_law_x", "_law_y", "_law_d"] spPlOf) (gP : mg "_law_place" = some (.ref fP)) (kP : PySem.W.keepIn K (.ref fP) = true) (bP : Binds K fdP ["_law_x", "_law_y", "_law_d"] []) : FnOk P w K mg base CX0 (k + 2) f fd ["_law_aa", "_law_bb", "_law_c"] spLCen := by
  refine F.ok scLCen (fun vs H Q E h => ?_) (fun cdv A outer s H vs Q E hr h => ?_)
  · obtain ⟨a, b, c, ax, ay, bx, by', cx, cy, rfl, _⟩ := h
    rfl
  · obtain ⟨a, b, c, ax, ay, bx, by', cx, cy, rfl, ha, hb, hc, six, t, q⟩ := h
    have nd := scLCen.nd
    have hn1 := six.n1
    have hn2 := six.n2
    have hn3 := six.n3
    have hn4 := six.n4
    have hn5 := six.n5
    have hn6 := six.n6
    refine ⟨_, (pss_cons (ps_par (i := 3) (j := 4) rfl nd rfl rfl (by decide) rfl rfl (pa_cons (pe_op op_mul pe_int (pe_op op_sub (pe_ix ix_tup (pv 1) pe_int (fun _ _ => rfl)) (pe_ix ix_tup (pv 0) pe_int (fun _ _ => rfl)))) (pa_cons (pe_op op_mul pe_int (pe_op op_sub (pe_ix ix_tup (pv 1) pe_int (fun _ _ => rfl)) (pe_ix ix_tup (pv 0) pe_int (fun _ _ => rfl)))) pa_nil)) rfl) (pss_cons (ps_par (i := 5) (j := 6) rfl nd rfl rfl (by decide) rfl rfl (pa_cons (pe_op op_mul pe_int (pe_op op_sub (pe_ix ix_tup (pv 2) pe_int (fun _ _ => rfl)) (pe_ix ix_tup (pv 0) pe_int (fun _ _ => rfl)))) (pa_cons (pe_op op_mul pe_int (pe_op op_sub (pe_ix ix_tup (pv 2) pe_int (fun _ _ => rfl)) (pe_ix ix_tup (pv 0) pe_int (fun _ _ => rfl)))) pa_nil)) rfl) (pss_cons (ps_set (i := 7) scLCen.nd rfl (.inl rfl) (pe_op op_sub (pe_op op_sub (pe_op op_add (pe_op op_mul (pe_ix ix_tup (pv 1) pe_int (fun _ _ => rfl)) (pe_ix ix_tup (pv 1) pe_int (fun _ _ => rfl))) (pe_op op_mul (pe_ix ix_tup (pv 1) pe_int (fun _ _ => rfl)) (pe_ix ix_tup (pv 1) pe_int (fun _ _ => rfl)))) (pe_op op_mul (pe_ix ix_tup (pv 0) pe_int (fun _ _ => rfl)) (pe_ix ix_tup (pv 0) pe_int (fun _ _ => rfl)))) (pe_op op_mul (pe_ix ix_tup (pv 0) pe_int (fun _ _ => rfl)) (pe_ix ix_tup (pv 0) pe_int (fun _ _ => rfl))))) (pss_cons (ps_set (i := 8) scLCen.nd rfl (.inl rfl) (pe_op op_sub (pe_op op_sub (pe_op op_add (pe_op op_mul (pe_ix ix_tup (pv 2) pe_int (fun _ _ => rfl)) (pe_ix ix_tup (pv 2) pe_int (fun _ _ => rfl))) (pe_op op_mul (pe_ix ix_tup (pv 2) pe_int (fun _ _ => rfl)) (pe_ix ix_tup (pv 2) pe_int (fun _ _ => rfl)))) (pe_op op_mul (pe_ix ix_tup (pv 0) pe_int (fun _ _ => rfl)) (pe_ix ix_tup (pv 0) pe_int (fun _ _ => rfl)))) (pe_op op_mul (pe_ix ix_tup (pv 0) pe_int (fun _ _ => rfl)) (pe_ix ix_tup (pv 0) pe_int (fun _ _ => rfl))))) (pss_one (ps_ret (pe_call GP hr (by rfl) gP kP bP .nil pass0 (pa_cons (pe_op op_sub (pe_op op_mul (pv 7) (pv 6)) (pe_op op_mul (pv 8) (pv 4))) (pa_cons (pe_op op_sub (pe_op op_mul (pv 3) (pv 8)) (pe_op op_mul (pv 5) (pv 7))) (pa_cons (pe_op op_sub (pe_op op_mul (pv 3) (pv 6)) (pe_op op_mul (pv 5) (pv 4))) pa_nil)))))))))), ?_⟩
    refine ⟨_, rfl, _, _, _, _, rfl, rfl, SqT.of hb, at0_ _ _, _, rfl, _, _, _, _, rfl, rfl, SqT.of ha, at0_ _ _, _, _, rfl, rfl, _, _, rfl, rfl, .inl ⟨by decide, by decide⟩, _, rfl, _, _, _, _, rfl, rfl, SqT.of hb, at1_ _ _, _, rfl, _, _, _, _, rfl, rfl, SqT.of ha, at1_ _ _, _, _, rfl, rfl, _, _, rfl, rfl, .inl ⟨by decide, by decide⟩, _, _, rfl, ?_⟩
    refine ⟨_, rfl, _, _, _, _, rfl, rfl, SqT.of hc, at0_ _ _, _, rfl, _, _, _, _, rfl, rfl, SqT.of ha, at0_ _ _, _, _, rfl, rfl, _, _, rfl, rfl, .inl ⟨by decide, by decide⟩, _, rfl, _, _, _, _, rfl, rfl, SqT.of hc, at1_ _ _, _, rfl, _, _, _, _, rfl, rfl, SqT.of ha, at1_ _ _, _, _, rfl, rfl, _, _, rfl, rfl, .inl ⟨by decide, by decide⟩, _, _, rfl, ?_⟩
    refine ⟨_, rfl, _, _, _, _, rfl, rfl, SqT.of hb, at0_ _ _, _, rfl, _, _, _, _, rfl, rfl, SqT.of hb, at0_ _ _, _, _, rfl, rfl, cmL (nb_up six.n3 (by decide)), _, rfl, _, _, _, _, rfl, rfl, SqT.of hb, at1_ _ _, _, rfl, _, _, _, _, rfl, rfl, SqT.of hb, at1_ _ _, _, _, rfl, rfl, cmL (nb_up six.n4 (by decide)), _, _, rfl, rfl, _, rfl, _, _, _, _, rfl, rfl, SqT.of ha, at0_ _ _, _, rfl, _, _, _, _, rfl, rfl, SqT.of ha, at0_ _ _, _, _, rfl, rfl, cmL (nb_up six.n1 (by decide)), _, _, rfl, rfl, _, rfl, _, _, _, _, rfl, rfl, SqT.of ha, at1_ _ _, _, rfl, _, _, _, _, rfl, rfl, SqT.of ha, at1_ _ _, _, _, rfl, rfl, cmL (nb_up six.n2 (by decide)), _, _, rfl, rfl, ?_⟩
    refine ⟨_, rfl, _, _, _, _, rfl, rfl, SqT.of hc, at0_ _ _, _, rfl, _, _, _, _, rfl, rfl, SqT.of hc, at0_ _ _, _, _, rfl, rfl, cmL (nb_up six.n5 (by decide)), _, rfl, _, _, _, _, rfl, rfl, SqT.of hc, at1_ _ _, _, rfl, _, _, _, _, rfl, rfl, SqT.of hc, at1_ _ _, _, _, rfl, rfl, cmL (nb_up six.n6 (by decide)), _, _, rfl, rfl, _, rfl, _, _, _, _, rfl, rfl, SqT.of ha, at0_ _ _, _, rfl, _, _, _, _, rfl, rfl, SqT.of ha, at0_ _ _, _, _, rfl, rfl, cmL (nb_up six.n1 (by decide)), _, _, rfl, rfl, _, rfl, _, _, _, _, rfl, rfl, SqT.of ha, at1_ _ _, _, rfl, _, _, _, _, rfl, rfl, SqT.of ha, at1_ _ _, _, _, rfl, rfl, cmL (nb_up six.n2 (by decide)), _, _, rfl, rfl, ?_⟩
    have dn : lD ax ay bx by' cx cy ≠ 0 := by
      rw [lD_is]
      have := cD_ne t
      omega
    have db : (lD ax ay bx by' cx cy).natAbs < 2 ^ 8000 := by
      rw [lD_is]
      have z : (2 * cDn ax ay bx by' cx cy).natAbs < 2 ^ 46 := by
        have := six.t2
        unfold cDn
        omega
      exact nb_up z (by decide)
    refine ⟨_, rfl, _, rfl, _, _, rfl, rfl, cmR (nb_up (a := 23) (by omega) (by decide)), _, rfl, _, rfl, _, _, rfl, rfl, cmR (nb_up (a := 23) (by omega) (by decide)), _, _, rfl, rfl, _, rfl, _, rfl, _, _, rfl, rfl, cmL (nb_up (a := 23) (by omega) (by decide)), _, rfl, _, rfl, _, _, rfl, rfl, cmL (nb_up (a := 23) (by omega) (by decide)), _, _, rfl, rfl, _, rfl, _, rfl, _, _, rfl, rfl, cmL (nb_up (a := 23) (by omega) (by decide)), _, rfl, _, rfl, _, _, rfl, rfl, cmL (nb_up (a := 23) (by omega) (by decide)), _, _, rfl, rfl, lX ax ay bx by' cx cy, lY ax ay bx by' cx cy, lD ax ay bx by' cx cy, rfl, dn, db, fun p H' sm np ep => q p H' sm np ?_⟩
    rw [lctx, lcty, lctd] at ep
    exact ep
end
/-! ### corners on one circle turn left -/
theorem conv4 {a x y z : Pt} (c : ic a x y z = 0) (h1 : 0 < tn a x y) (h2 : 0 < tn a y z) (h3 : 0 < tn a x z) : 0 < tn x y z := by
  obtain ⟨a1, a2⟩ := a
  obtain ⟨x1, x2⟩ := x
  obtain ⟨y1, y2⟩ := y
  obtain ⟨z1, z2⟩ := z
  unfold ic dia tn at c
  unfold tn at h1 h2 h3 ⊢
  simp only at *
  have e1 : x1 = a1 + (x1 - a1) := by omega
  have e2 : x2 = a2 + (x2 - a2) := by omega
  have e3 : y1 = a1 + (y1 - a1) := by omega
  have e4 : y2 = a2 + (y2 - a2) := by omega
  have e5 : z1 = a1 + (z1 - a1) := by omega
  have e6 : z2 = a2 + (z2 - a2) := by omega
  generalize x1 - a1 = p at *
  generalize x2 - a2 = q at *
  generalize y1 - a1 = r at *
  generalize y2 - a2 = s at *
  generalize z1 - a1 = u at *
  generalize z2 - a2 = v at *
  subst e1 e2 e3 e4 e5 e6
  have hA : 0 < p * s - q * r := by grind
  have hB : 0 < r * v - s * u := by grind
  have hC : 0 < p * v - q * u := by grind
  have k : (u * u + v * v) * (p * s - q * r) + (p * p + q * q) * (r * v - s * u) = (r * r + s * s) * (p * v - q * u) := by grind
  have g : ((a1 + r - (a1 + p)) * (a2 + v - (a2 + q)) - (a2 + s - (a2 + q)) * (a1 + u - (a1 + p))) = (p * s - q * r) + (r * v - s * u) - (p * v - q * u) := by grind
  rw [g]
  generalize hA' : p * s - q * r = A at *
  generalize hB' : r * v - s * u = B at *
  generalize hC' : p * v - q * u = C at *
  -- y C = x B + z A
  have l1 : r * C = p * B + u * A := by rw [← hA', ← hB', ← hC']; grind
  have l2 : s * C = q * B + v * A := by rw [← hA', ← hB', ← hC']; grind
  have m : C * ((u * u + v * v) * A + (p * p + q * q) * B) = (p * B + u * A) * (p * B + u * A) + (q * B + v * A) * (q * B + v * A) := by
    rw [k, ← l1, ← l2]
    grind
  rcases ltge 0 (A + B - C) with w | w
  · exact w
  · exfalso
    have c2 : A + B ≤ C := by omega
    have n : 0 ≤ (u * u + v * v) * A + (p * p + q * q) * B := Int.add_nonneg (Int.mul_nonneg (Int.add_nonneg (sq_nn' u) (sq_nn' v)) (by omega)) (Int.mul_nonneg (Int.add_nonneg (sq_nn' p) (sq_nn' q)) (by omega))
    have o := Int.mul_le_mul_of_nonneg_right c2 n
    rw [m] at o
    have e : (p * B + u * A) * (p * B + u * A) + (q * B + v * A) * (q * B + v * A) - (A + B) * ((u * u + v * v) * A + (p * p + q * q) * B) = -(A * B) * ((p - u) * (p - u) + (q - v) * (q - v)) := by grind
    have ab : 0 < A * B := Int.mul_pos hA hB
    have sq := Int.add_nonneg (sq_nn' (p - u)) (sq_nn' (q - v))
    have z0 : (p - u) * (p - u) + (q - v) * (q - v) = 0 := by
      rcases ltge 0 ((p - u) * (p - u) + (q - v) * (q - v)) with t | t
      · have := Int.mul_pos ab t
        rw [Int.neg_mul] at e
        omega
      · omega
    have y1 := sq_nn' (p - u)
    have y2 := sq_nn' (q - v)
    have w1 : (p - u) * (p - u) = 0 := by omega
    have w2 : (q - v) * (q - v) = 0 := by omega
    have w1 : p - u = 0 := (Int.mul_eq_zero.mp w1).elim id id
    have w2 : q - v = 0 := (Int.mul_eq_zero.mp w2).elim id id
    have hu : p = u := by omega
    have hv : q = v := by omega
    rw [← hC', ← hu, ← hv] at hC
    have : p * q - q * p = 0 := by grind
    omega
/-- all of them turn left, in their order -/
def Turns (l : List Pt) : Prop := ∀ (i j k : Nat) (x y z : Pt), i < j → j < k → l[i]? = some x → l[j]? = some y → l[k]? = some z → 0 < tn x y z
theorem ic_c4 {P : Nat → Pt} {n a b c x y z : Nat} (so : Srt P n) (ra : a < n) (rb : b < n) (rx : x < n) (xa : x ≠ a) (t : tn (P a) (P b) (P c) ≠ 0) (h1 : ic (P a) (P b) (P c) (P x) = 0) (h2 : ic (P a) (P b) (P c) (P y) = 0) (h3 : ic (P a) (P b) (P c) (P z) = 0) : ic (P a) (P x) (P y) (P z) = 0 := by
  have hy := circ_tr t h1 h2
  have hz := circ_tr t h1 h3
  rcases Int.decEq (tn (P a) (P b) (P x)) 0 with g | g
  · refine circ_tr (c := P b) (by rw [tn_neg]; omega) ?_ ?_
    · rw [circ_sw, hy]
      rfl
    · rw [circ_sw, hz]
      rfl
  · rcases on_both so ra rb rx t g h1 with w | w
    · exact absurd w xa
    · rw [w]
      exact circ_tr t h2 h3
/-- the corners of a face, from the least one on -/
theorem face_turns {P : Nat → Pt} {n a b c : Nat} {l : List Nat} (so : Srt P n) (o : OnE P n a b c) (f : FaceL P n a b c l) : Turns ((a :: l).map P) := by
  have srt : ∀ (i j : Nat) (x y : Nat), i < j → l[i]? = some x → l[j]? = some y → 0 < tn (P a) (P x) (P y) := fun i j x y h hx hy => by
    have z := List.pairwise_iff_getElem.mp f.srt i j (List.getElem?_eq_some_iff.mp hx).1 (List.getElem?_eq_some_iff.mp hy).1 h
    rw [(List.getElem?_eq_some_iff.mp hx).2, (List.getElem?_eq_some_iff.mp hy).2] at z
    exact z
  have on {i x : Nat} (h : l[i]? = some x) : ic (P a) (P b) (P c) (P x) = 0 := ((f.mem x).mp (List.mem_of_getElem? h)).2.2
  intro i j k x y z ij jk hx0 hy0 hz0
  rw [List.getElem?_map] at hx0 hy0 hz0
  obtain ⟨x, hx, rfl⟩ := Option.map_eq_some_iff.mp hx0
  obtain ⟨y, hy, rfl⟩ := Option.map_eq_some_iff.mp hy0
  obtain ⟨z, hz, rfl⟩ := Option.map_eq_some_iff.mp hz0
  obtain ⟨j, rfl⟩ : ∃ j', j = j' + 1 := ⟨j - 1, by omega⟩
  obtain ⟨k, rfl⟩ : ∃ k', k = k' + 1 := ⟨k - 1, by omega⟩
  rw [List.getElem?_cons_succ] at hy hz
  have h2 := srt j k y z (by omega) hy hz
  cases i with
  | zero =>
    have : a = x := Option.some.inj hx
    rw [← this]
    exact h2
  | succ i =>
    rw [List.getElem?_cons_succ] at hx
    have h1 := srt i j x y (by omega) hx hy
    have h3 := srt i k x z (by omega) hx hz
    have mx := (f.mem x).mp (List.mem_of_getElem? hx)
    exact conv4 (ic_c4 so o.ra o.rb mx.1 mx.2.1 (by have := o.pos; omega) (on hx) (on hy) (on hz)) h1 h2 h3
/-! ### all empty circles, by their first three sites -/
section
variable {P : Nat → Pt} {n : Nat}
/-- three sites that are no row, their circle has no site inside, i is the least one on it -/
structure Cir3 (P : Nat → Pt) (n i j k : Nat) : Prop where
  ri : i < n
  rj : j < n
  rk : k < n
  nz : tn (P i) (P j) (P k) ≠ 0
  emp : ∀ s, s < n → tn (P i) (P j) (P k) * ic (P i) (P j) (P k) (P s) ≤ 0
  first : ∀ s, s < n → ic (P i) (P j) (P k) (P s) = 0 → i ≤ s
theorem Cir3.conc (so : Srt P n) {i j k x y z : Nat} (h : Cir3 P n i j k) (rx : x < n) (xi : x ≠ i) (h1 : ic (P i) (P j) (P k) (P x) = 0) (h2 : ic (P i) (P j) (P k) (P y) = 0) (h3 : ic (P i) (P j) (P k) (P z) = 0) : ic (P i) (P x) (P y) (P z) = 0 := by
  exact ic_c4 so h.ri h.rj rx xi h.nz h1 h2 h3
/-- no three on one line -/
theorem Cir3.no_row (so : Srt P n) {i j k x y : Nat} (h : Cir3 P n i j k) (rx : x < n) (ry : y < n) (xi : x ≠ i) (yi : y ≠ i) (xy : x ≠ y) (h1 : ic (P i) (P j) (P k) (P x) = 0) (h2 : ic (P i) (P j) (P k) (P y) = 0) : tn (P i) (P x) (P y) ≠ 0 := fun g => by
  have oj : ic (P i) (P j) (P k) (P j) = 0 := ic_b _ _ _
  have ok : ic (P i) (P j) (P k) (P k) = 0 := ic_c _ _ _
  obtain ⟨z, oz, nz⟩ : ∃ z, ic (P i) (P j) (P k) (P z) = 0 ∧ tn (P i) (P x) (P z) ≠ 0 := by
    by_cases w : x = j
    · subst w
      exact ⟨k, ok, h.nz⟩
    · refine ⟨j, oj, fun w2 => ?_⟩
      rcases on_both so h.ri h.rj rx h.nz (by rw [tn_neg, w2]; rfl) h1 with v | v
      · exact xi v
      · exact w v
  rcases on_both so h.ri rx ry nz g (h.conc so rx xi h1 oz h2) with v | v
  · exact yi v
  · exact xy v.symm
/-- its corners in their order about the least one -/
theorem Cir3.list (so : Srt P n) {i j k : Nat} (h : Cir3 P n i j k) : ∃ l : List Nat, l.Pairwise (fun x y => 0 < tn (P i) (P x) (P y)) ∧ ∀ s, s ∈ l ↔ s < n ∧ s ≠ i ∧ ic (P i) (P j) (P k) (P s) = 0 := by
  let S := { x : Nat // i < x ∧ x < n }
  let le : S → S → Bool := fun x y => decide (0 ≤ tn (P i) (P x.1) (P y.1))
  have e (u v : Nat) : (tn (P i) (P u) (P v)) = crs (vec (P i) (P u)) (vec (P i) (P v)) := by
    unfold tn crs vec
    rfl
  have fw (x : S) : fwd (vec (P i) (P x.1)) := fwd_vec.mpr (so i x.1 x.2.1 x.2.2)
  have tr : ∀ a b c : S, le a b = true → le b c = true → le a c = true := fun a b c h1 h2 => by
    have h1 := of_decide_eq_true h1
    have h2 := of_decide_eq_true h2
    refine decide_eq_true ?_
    rw [e] at *
    exact crs_tr (fw a) (fw b) (fw c) h1 h2
  have tot : ∀ a b : S, (le a b || le b a) = true := fun a b => by
    rw [Bool.or_eq_true]
    rcases ltge (tn (P i) (P a.1) (P b.1)) 0 with w | w
    · refine .inr (decide_eq_true ?_)
      rw [tn_neg]
      omega
    · exact .inl (decide_eq_true w)
  let m : List Nat := (List.range n).filter fun s => decide (s ≠ i ∧ ic (P i) (P j) (P k) (P s) = 0)
  have mm : ∀ s, s ∈ m ↔ s < n ∧ s ≠ i ∧ ic (P i) (P j) (P k) (P s) = 0 := fun s => by
    show s ∈ (List.range n).filter _ ↔ _
    rw [List.mem_filter, List.mem_range, decide_eq_true_iff]
  have mS : ∀ s ∈ m, i < s ∧ s < n := fun s hs => by
    have := (mm s).mp hs
    have := h.first s this.1 this.2.2
    omega
  let m2 : List S := m.attachWith (fun x => i < x ∧ x < n) mS
  have back : m2.map Subtype.val = m := (List.attachWith_map_val (f := id) mS).trans (List.map_id _)
  have pm := (List.mergeSort_perm m2 le).map Subtype.val
  rw [back] at pm
  have nodm : m.Nodup := List.Nodup.sublist List.filter_sublist List.nodup_range
  have srt := List.pairwise_mergeSort tr tot m2
  refine ⟨(m2.mergeSort le).map Subtype.val, ?_, fun s => (pm.mem_iff).trans (mm s)⟩
  have nodl : ((m2.mergeSort le).map Subtype.val).Nodup := pm.nodup_iff.mpr nodm
  have s2 : ((m2.mergeSort le).map Subtype.val).Pairwise fun x y => 0 ≤ tn (P i) (P x) (P y) := List.pairwise_map.mpr (srt.imp fun w => of_decide_eq_true w)
  refine (s2.and nodl).imp_of_mem fun {a b} ha hb w => ?_
  have a1 := (mm a).mp (pm.mem_iff.mp ha)
  have b1 := (mm b).mp (pm.mem_iff.mp hb)
  have := h.no_row so a1.1 b1.1 a1.2.1 b1.2.1 w.2 a1.2.2 b1.2.2
  have := w.1
  omega
theorem tn_cy3 (a b c : Pt) : tn c a b = tn a b c := by
  unfold tn
  grind
/-- one circle, told by two pairs of sites -/
theorem same_two {a b c x y s : Pt} (hc : tn a b c ≠ 0) (ab : tn a b x = 0 → x = b) (hx : ic a b c x = 0) (hy : ic a b c y = 0) : ic a b c s * tn a x y = ic a x y s * tn a b c := by
  rcases Int.decEq (tn a b x) 0 with g | g
  · have h1 := same_circ (s := s) hx hc
    have k := circ_tr hc hx hy
    have h2 := same_circ (a := a) (b := x) (c := b) (d := y) (s := s) (by rw [circ_sw, k]; rfl) (by rw [tn_neg]; omega)
    rw [circ_sw, tn_neg a b x] at h2
    have h3 : tn a b x * (ic a b c s * tn a x y - ic a x y s * tn a b c) = 0 := by grind
    rcases Int.mul_eq_zero.mp h3 with w | w
    · exact absurd w g
    · omega
  · rw [ab g]
    exact same_circ hy hc
end
/-! ### joined sites -/
section
variable {P : Nat → Pt} {n : Nat}
theorem OnE.btw {a b c : Nat} (o : OnE P n a b c) {s : Nat} (rs : s < n) (z : tn (P a) (P b) (P s) = 0) : 0 ≤ dia (P a) (P b) (P s) := by
  have e := o.emp s rs
  rw [on_line z] at e
  rcases ltge (dia (P a) (P b) (P s)) 0 with w | w
  · have := Int.mul_pos (show 0 < -dia (P a) (P b) (P s) by omega) o.pos
    rw [Int.neg_mul] at this
    omega
  · exact w
/-- the empty circle at a side with sites on its left -/
theorem left_one {a b s0 : Nat} (ra : a < n) (rb : b < n) (r0 : s0 < n) (h0 : 0 < tn (P a) (P b) (P s0)) (bt : ∀ s, s < n → tn (P a) (P b) (P s) = 0 → 0 ≤ dia (P a) (P b) (P s)) : ∃ c, c < n ∧ 0 < tn (P a) (P b) (P c) ∧ ∀ s, s < n → 0 ≤ tn (P a) (P b) (P s) → ic (P a) (P b) (P c) (P s) ≤ 0 := by
  obtain ⟨c, rc, pc, k⟩ := least_of (n := n) (fun s => 0 < tn (P a) (P b) (P s)) (fun s => dia (P a) (P b) (P s)) (fun s => tn (P a) (P b) (P s)) (fun _ _ h => h) ⟨s0, r0, h0⟩
  refine ⟨c, rc, pc, fun s rs hs => ?_⟩
  rcases Int.lt_or_eq_of_le hs with w | w
  · have := k s rs w
    unfold ic
    omega
  · rw [on_line w.symm]
    have := Int.mul_nonneg (bt s rs w.symm) (Int.le_of_lt pc)
    omega
theorem HullE.one {a b : Nat} (h : HullE P n a b) {s : Nat} (rs : s < n) (k : tn (P a) (P b) (P s) ≠ 0) : ∃ c, OnE P n a b c := by
  have h0 := h.left s rs
  obtain ⟨c, rc, pc, e⟩ := left_one h.rx h.ry rs (by omega) h.btw
  exact ⟨c, h.rx, h.ry, rc, pc, fun s rs => e s rs (h.left s rs), fun s rs q => by
    have := h.left s rs
    omega⟩
theorem OnE.other {a b c : Nat} (o : OnE P n a b c) : (∃ d, OnE P n b a d) ∨ HullE P n a b := by
  by_cases ex : ∃ s, s < n ∧ tn (P a) (P b) (P s) < 0
  · obtain ⟨s0, r0, h0⟩ := ex
    obtain ⟨d, rd, pd, e⟩ := left_one (P := P) (a := b) (b := a) o.rb o.ra r0 (by rw [tns]; omega) (fun s rs z => by
      rw [dia_sw]
      exact o.btw rs (by rw [tns] at z; omega))
    have dn : tn (P a) (P b) (P d) < 0 := by rw [tns] at pd; omega
    have far : ∀ s, s < n → 0 < tn (P a) (P b) (P s) → ic (P b) (P a) (P d) (P s) < 0 := fun s rs hs => by
      have h1 := o.nxt d rd dn
      have h2 := o.emp s rs
      have h3 := o.pos
      have a1 := Int.mul_pos (show 0 < -ic (P a) (P b) (P c) (P d) by omega) hs
      have a2 := Int.mul_nonneg (show 0 ≤ -ic (P a) (P b) (P c) (P s) by omega) (show 0 ≤ -tn (P a) (P b) (P d) by omega)
      have e2 : ic (P a) (P b) (P d) (P s) * tn (P a) (P b) (P c) = -ic (P a) (P b) (P c) (P d) * tn (P a) (P b) (P s) + -ic (P a) (P b) (P c) (P s) * -tn (P a) (P b) (P d) := by
        unfold ic
        grind
      have := of_mul_pos (a := ic (P a) (P b) (P d) (P s)) (b := tn (P a) (P b) (P c)) (by omega) h3
      rw [ic_sw]
      omega
    refine .inl ⟨d, o.rb, o.ra, rd, pd, fun s rs => ?_, fun s rs q => ?_⟩
    · rcases ltge 0 (tn (P a) (P b) (P s)) with w | w
      · exact Int.le_of_lt (far s rs w)
      · exact e s rs (by rw [tns]; omega)
    · exact far s rs (by rw [tns] at q; omega)
  · exact .inr ⟨o.ra, o.rb, o.ne.1, fun s rs => by
      rcases ltge (tn (P a) (P b) (P s)) 0 with w | w
      · exact absurd ⟨s, rs, w⟩ ex
      · exact w, fun s rs z => o.btw rs z⟩
/-- a and b are joined -/
def Jn (P : Nat → Pt) (n a b : Nat) : Prop := (∃ c, OnE P n a b c) ∨ HullE P n b a
theorem Jn.sw {a b : Nat} (h : Jn P n a b) : Jn P n b a := by
  rcases h with ⟨c, o⟩ | h
  · exact o.other
  · by_cases ex : ∃ s, s < n ∧ tn (P b) (P a) (P s) ≠ 0
    · obtain ⟨s, rs, k⟩ := ex
      exact .inl (h.one rs k)
    · have z : ∀ s, s < n → tn (P b) (P a) (P s) = 0 := fun s rs => Classical.byContradiction fun k => ex ⟨s, rs, k⟩
      have z2 : ∀ s, s < n → tn (P a) (P b) (P s) = 0 := fun s rs => by
        rw [tns, z s rs]
        rfl
      exact .inr ⟨h.ry, h.rx, Ne.symm h.ne, fun s rs => by rw [z2 s rs]; decide, fun s rs _ => by
        rw [dia_sw]
        exact h.btw s rs (z s rs)⟩
theorem Jn.lt {a b : Nat} (h : Jn P n a b) : a < n ∧ b < n ∧ a ≠ b := by
  rcases h with ⟨c, o⟩ | h
  · exact ⟨o.ra, o.rb, o.ne.1⟩
  · exact ⟨h.ry, h.rx, Ne.symm h.ne⟩
end
/-! ### sides of faces -/
section
variable {P : Nat → Pt} {n : Nat}
/-- the place ahead of the k-th of a ring of m -/
def prv (m k : Nat) : Nat := if k = 0 then m - 1 else k - 1
theorem FaceL.side (so : Srt P n) {a b c : Nat} {l : List Nat} (o : OnE P n a b c) (o' : OnE P n c a b) (f : FaceL P n a b c l) {k x y : Nat} (hy : (a :: l)[k]? = some y) (hx : (a :: l)[prv (a :: l).length k]? = some x) :
    (∃ w, OnE P n x y w) ∧ ∀ s, s ∈ a :: l → s = x ∨ s = y ∨ 0 < tn (P x) (P y) (P s) := by
  have tu := face_turns so o f
  have mem : ∀ s, s ∈ a :: l ↔ s < n ∧ ic (P a) (P b) (P c) (P s) = 0 := fun s => by
    rw [List.mem_cons, f.mem]
    constructor
    · rintro (rfl | ⟨h1, _, h3⟩)
      · exact ⟨o.ra, ic_a _ _ _⟩
      · exact ⟨h1, h3⟩
    · rintro ⟨h1, h2⟩
      by_cases e : s = a
      · exact .inl e
      · exact .inr ⟨h1, e, h2⟩
  have three {i j k u v w : Nat} (ij : i < j) (jk : j < k) (hu : (a :: l)[i]? = some u) (hv : (a :: l)[j]? = some v) (hw : (a :: l)[k]? = some w) : 0 < tn (P u) (P v) (P w) :=
    tu i j k _ _ _ ij jk (by rw [List.getElem?_map, hu]; rfl) (by rw [List.getElem?_map, hv]; rfl) (by rw [List.getElem?_map, hw]; rfl)
  have ly : k < (a :: l).length := (List.getElem?_eq_some_iff.mp hy).1
  have rest : ∀ s, s ∈ a :: l → s = x ∨ s = y ∨ 0 < tn (P x) (P y) (P s) := fun s hs => by
    obtain ⟨j, hj, ej⟩ := List.getElem_of_mem hs
    have es : (a :: l)[j]? = some s := by rw [List.getElem?_eq_getElem hj, ej]
    unfold prv at hx
    by_cases k0 : k = 0
    · rw [if_pos k0] at hx
      subst k0
      by_cases j0 : j = 0
      · subst j0
        rw [es] at hy
        exact .inr (.inl (Option.some.inj hy))
      by_cases j1 : j = (a :: l).length - 1
      · rw [← j1, es] at hx
        exact .inl (Option.some.inj hx)
      have := three (i := 0) (j := j) (k := (a :: l).length - 1) (by omega) (by omega) hy es hx
      rw [← tnc, ← tnc] at this
      rw [← tnc, ← tnc]
      exact .inr (.inr (by rw [← tnc]; exact this))
    · rw [if_neg k0] at hx
      rcases Nat.lt_trichotomy j k with q | q | q
      · by_cases jk : j = k - 1
        · rw [← jk, es] at hx
          exact .inl (Option.some.inj hx)
        · have := three (i := j) (j := k - 1) (k := k) (by omega) (by omega) es hx hy
          exact .inr (.inr (by rw [tnc]; exact this))
      · rw [q, hy] at es
        exact .inr (.inl (Option.some.inj es).symm)
      · exact .inr (.inr (three (i := k - 1) (j := k) (k := j) (by omega) (by omega) hx hy es))
  refine ⟨?_, rest⟩
  have mx := List.mem_of_getElem? hx
  have my := List.mem_of_getElem? hy
  have cx := (mem x).mp mx
  have cy := (mem y).mp my
  have ma : a ∈ a :: l := List.mem_cons_self
  have mb : b ∈ a :: l := (mem b).mpr ⟨o.rb, ic_b _ _ _⟩
  have mc : c ∈ a :: l := (mem c).mpr ⟨o.rc, ic_c _ _ _⟩
  have ab := o.ne
  have on_out {s : Nat} (hs : s < n) (z : ic (P a) (P b) (P c) (P s) = 0) (q : tn (P x) (P y) (P s) < 0) : False := by
    rcases rest s ((mem s).mpr ⟨hs, z⟩) with w | w | w
    · rw [w, tn_aba] at q
      omega
    · rw [w, tn_abb] at q
      omega
    · omega
  by_cases xa : x = a
  · subst xa
    have yb : y = b := by
      rcases rest b mb with w | w | w
      · exact absurd w.symm ab.1
      · exact w.symm
      · exfalso
        by_cases yx : y = x
        · rw [yx, tn_aab] at w
          omega
        rcases o.left so cy.1 cy.2 with v | v | v
        · exact yx v
        · rw [v, tn_abb] at w
          omega
        · rw [tn_neg] at v
          omega
    exact ⟨c, yb ▸ o⟩
  by_cases ya : y = a
  · subst ya
    have xc : x = c := by
      rcases rest c mc with w | w | w
      · exact w.symm
      · exact absurd w.symm ab.2.2
      · exfalso
        rcases o'.left so cx.1 (by rw [← ic_cyc]; exact cx.2) with v | v | v
        · rw [v, tn_aba] at w
          omega
        · exact xa v
        · rw [tnc, tn_neg, ← tnc, ← tnc] at w
          rw [tnc, tnc] at w
          rw [tn_cy3] at v
          rw [tns] at v
          have e1 := tnc (P x) (P y) (P c)
          have e2 := tnc (P y) (P c) (P x)
          have e3 := tns (P x) (P y) (P c)
          have e4 := tns (P c) (P y) (P x)
          have e5 := tn_neg (P x) (P y) (P c)
          have e6 := tn_neg (P y) (P c) (P x)
          omega
    exact ⟨b, xc ▸ o'⟩
  · have pa : 0 < tn (P x) (P y) (P a) := by
      rcases rest a ma with w | w | w
      · exact absurd w.symm xa
      · exact absurd w.symm ya
      · exact w
    have p2 : 0 < tn (P a) (P x) (P y) := by rw [← tnc]; exact pa
    have sg (s : Nat) : ic (P a) (P b) (P c) (P s) * tn (P a) (P x) (P y) = ic (P a) (P x) (P y) (P s) * tn (P a) (P b) (P c) := same_two (by have := o.pos; omega) (fun g => by
      rcases on_both so o.ra o.rb cx.1 (by have := o.pos; omega) g cx.2 with w | w
      · exact absurd w xa
      · rw [w]) cx.2 cy.2
    have em (s : Nat) (hs : s < n) : ic (P x) (P y) (P a) (P s) ≤ 0 ∧ (ic (P x) (P y) (P a) (P s) = 0 → ic (P a) (P b) (P c) (P s) = 0) := by
      rw [ic_cyc]
      have e1 := o.emp s hs
      have e2 := sg s
      have e3 := o.pos
      constructor
      · rcases ltge 0 (ic (P a) (P x) (P y) (P s)) with w | w
        · exfalso
          have m1 := Int.mul_pos w e3
          have m2 := Int.mul_nonneg (show 0 ≤ -ic (P a) (P b) (P c) (P s) by omega) (Int.le_of_lt p2)
          rw [Int.neg_mul] at m2
          omega
        · exact w
      · intro z
        rw [z, Int.zero_mul] at e2
        exact (Int.mul_eq_zero.mp e2).elim id fun w => absurd w (by omega)
    refine ⟨a, cx.1, cy.1, o.ra, pa, fun s hs => (em s hs).1, fun s hs q => ?_⟩
    rcases Int.lt_or_eq_of_le (em s hs).1 with w | w
    · exact w
    · exact (on_out hs ((em s hs).2 w) q).elim
end
/-! ### each side of an empty circle is one of a face; all sites in a row -/
section
variable {P : Nat → Pt} {n : Nat}
theorem line_all {p q a b c : Pt} (ne : p ≠ q) (h1 : tn p q a = 0) (h2 : tn p q b = 0) (h3 : tn p q c = 0) : tn a b c = 0 := by
  have e1 : (q.1 - p.1) * tn a b c = 0 := by
    unfold tn at *
    grind
  have e2 : (q.2 - p.2) * tn a b c = 0 := by
    unfold tn at *
    grind
  rcases Int.mul_eq_zero.mp e1 with u | u
  · rcases Int.mul_eq_zero.mp e2 with v | v
    · exact absurd (Prod.ext (by omega) (by omega)) ne
    · exact v
  · exact u
theorem row_all (so : Srt P n) (h : ∀ a b c, ¬ OnE P n a b c) {i j k : Nat} (ri : i < n) (rj : j < n) (rk : k < n) : tn (P i) (P j) (P k) = 0 := by
  by_cases n1 : n ≤ 1
  · have : i = 0 := by omega
    have : j = 0 := by omega
    subst i j
    exact tn_aab _ _
  have e (u v : Nat) : (tn (P 0) (P u) (P v)) = crs (vec (P 0) (P u)) (vec (P 0) (P v)) := by
    unfold tn crs vec
    rfl
  have fw {x : Nat} (h1 : 0 < x) (h2 : x < n) : fwd (vec (P 0) (P x)) := fwd_vec.mpr (so 0 x h1 h2)
  have tr {a b c : Nat} (ra : 0 < a ∧ a < n) (rb : 0 < b ∧ b < n) (rc : 0 < c ∧ c < n) (h1 : 0 ≤ tn (P 0) (P a) (P b)) (h2 : 0 ≤ tn (P 0) (P b) (P c)) : 0 ≤ tn (P 0) (P a) (P c) := by
    rw [e] at *
    exact crs_tr (fw ra.1 ra.2) (fw rb.1 rb.2) (fw rc.1 rc.2) h1 h2
  have mem (s : Nat) : s ∈ (List.range n).filter (fun s => decide (0 < s)) ↔ s < n ∧ 0 < s := by
    rw [List.mem_filter, List.mem_range, decide_eq_true_iff]
  obtain ⟨y, hy, ky⟩ := best (fun a b : Nat => 0 ≤ tn (P 0) (P a) (P b)) ((List.range n).filter (fun s => decide (0 < s))) (List.ne_nil_of_mem ((mem 1).mpr ⟨by omega, by omega⟩)) (fun a _ b _ => by
    have := tn_neg (P 0) (P a) (P b)
    omega) (fun a ha b hb c hc h1 h2 => tr ((mem a).mp ha).symm ((mem b).mp hb).symm ((mem c).mp hc).symm h1 h2)
  have ry := (mem y).mp hy
  have mem2 (s : Nat) : s ∈ (List.range n).filter (fun s => decide (0 < s ∧ tn (P 0) (P y) (P s) = 0)) ↔ s < n ∧ 0 < s ∧ tn (P 0) (P y) (P s) = 0 := by
    rw [List.mem_filter, List.mem_range, decide_eq_true_iff]
  obtain ⟨z, hz, kz⟩ := best (fun a b : Nat => a ≤ b) ((List.range n).filter (fun s => decide (0 < s ∧ tn (P 0) (P y) (P s) = 0))) (List.ne_nil_of_mem ((mem2 y).mpr ⟨ry.1, ry.2, tn_abb _ _⟩)) (fun a _ b _ => by omega) (fun a _ b _ c _ h1 h2 => by omega)
  have rz := (mem2 z).mp hz
  have zy : 0 ≤ tn (P 0) (P z) (P y) := by
    rw [tn_neg, rz.2.2]
    decide
  have left : ∀ s, s < n → 0 ≤ tn (P 0) (P z) (P s) := fun s hs => by
    by_cases s0 : s = 0
    · rw [s0, tn_aba]
      decide
    · exact tr ⟨rz.2.1, rz.1⟩ ry.symm ⟨by omega, hs⟩ zy (ky s ((mem s).mpr ⟨hs, by omega⟩))
  have zne : (0 : Nat) ≠ z := by omega
  have H : HullE P n 0 z := ⟨by omega, rz.1, zne, left, fun s hs q => dia_out (so 0 z rz.2.1 rz.1) q fun ⟨w1, w2⟩ => by
    have s0 : 0 < s := by
      rcases Nat.eq_zero_or_pos s with w | w
      · subst w
        unfold lt2 at w1
        omega
      · exact w
    have t1 := tr ⟨s0, hs⟩ ⟨rz.2.1, rz.1⟩ ry.symm (by rw [tn_neg, q]; decide) zy
    have t2 := ky s ((mem s).mpr ⟨hs, s0⟩)
    have t3 := tn_neg (P 0) (P y) (P s)
    have := kz s ((mem2 s).mpr ⟨hs, s0, by omega⟩)
    rcases Nat.lt_or_eq_of_le this with v | v
    · have := so z s v hs
      unfold lt2 at this w2
      omega
    · subst v
      unfold lt2 at w2
      omega⟩
  have all (s : Nat) (hs : s < n) : tn (P 0) (P z) (P s) = 0 := Classical.byContradiction fun w => by
    obtain ⟨c, o⟩ := H.one hs w
    exact h _ _ _ o
  exact line_all (fun w => zne (so.ne (by omega) rz.1 w)) (all i ri) (all j rj) (all k rk)
theorem Jn.row (so : Srt P n) (h : ∀ a b c, ¬ OnE P n a b c) {a b : Nat} (ab : a < b) : Jn P n a b ↔ b < n ∧ b = a + 1 := by
  constructor
  · rintro (⟨c, o⟩ | g)
    · exact (h _ _ _ o).elim
    · refine ⟨g.rx, Classical.byContradiction fun w => ?_⟩
      have rx := g.rx
      have d := dia_between (so a (a + 1) (by omega) (by omega)) (so (a + 1) b (by omega) rx) (row_all so h (by omega) rx (by omega))
      have := g.btw (a + 1) (by omega) (row_all so h rx (by omega) (by omega))
      rw [dia_sw] at this
      omega
  · rintro ⟨hb, rfl⟩
    refine .inr ⟨hb, by omega, by omega, fun s hs => by rw [row_all so h hb (by omega) hs]; decide, fun s hs _ => ?_⟩
    rw [dia_sw]
    refine dia_out (so a (a + 1) ab hb) (row_all so h (by omega) hb hs) fun ⟨w1, w2⟩ => ?_
    rcases Nat.lt_trichotomy s a with v | v | v
    · have := so s a v (by omega)
      unfold lt2 at this w1
      omega
    · subst v
      unfold lt2 at w1
      omega
    · rcases Nat.lt_or_eq_of_le (show a + 1 ≤ s by omega) with v | v
      · have := so (a + 1) s v hs
        unfold lt2 at this w2
        omega
      · subst v
        unfold lt2 at w2
        omega
end
/-! ### room for a circle through two sites alone -/
section
variable {P : Nat → Pt} {n : Nat}
/-- a and b have room: no site between them, and no two on both sides leave none -/
structure Rm (P : Nat → Pt) (n a b : Nat) : Prop where
  btw : ∀ s, s < n → tn (P a) (P b) (P s) = 0 → 0 ≤ dia (P a) (P b) (P s)
  two : ∀ l r, l < n → r < n → 0 < tn (P a) (P b) (P l) → tn (P a) (P b) (P r) < 0 → ic (P a) (P b) (P l) (P r) < 0
theorem pen_n {X Y Z p q r : Int} (hp : 0 < p) (hq : 0 < q) (hr : r < 0) (h1 : X * q - Y * p ≤ 0) (h2 : X * r - Z * p < 0) : Y * r - Z * q < 0 := by
  rcases ltge (Y * r - Z * q) 0 with w | w
  · exact w
  · have a := Int.mul_nonneg (show 0 ≤ Y * p - X * q by omega) (show 0 ≤ -r by omega)
    have b := Int.mul_pos hq (show 0 < Z * p - X * r by omega)
    have c := Int.mul_nonneg w (Int.le_of_lt hp)
    have e : (Y * p - X * q) * -r + q * (Z * p - X * r) + (Y * r - Z * q) * p = 0 := by grind
    omega
theorem Jn.room {a b : Nat} (ra : a < n) (rb : b < n) (ab : a ≠ b) : Jn P n a b ↔ Rm P n a b := by
  constructor
  · rintro (⟨c, o⟩ | h)
    · refine ⟨fun s rs z => o.btw rs z, fun l r rl rr hl hr => ?_⟩
      have h1 := o.emp l rl
      have h2 := o.nxt r rr hr
      unfold ic at h1 h2 ⊢
      exact pen_n o.pos hl hr h1 h2
    · refine ⟨fun s rs z => ?_, fun l r rl rr hl hr => ?_⟩
      · rw [dia_sw]
        exact h.btw s rs (by rw [tns]; omega)
      · have := h.left l rl
        rw [tns] at this
        omega
  · intro h
    by_cases ex : ∃ l, l < n ∧ 0 < tn (P a) (P b) (P l)
    · obtain ⟨l, rl, hl⟩ := ex
      obtain ⟨c, rc, pc, e⟩ := left_one ra rb rl hl h.btw
      refine .inl ⟨c, ra, rb, rc, pc, fun s rs => ?_, fun s rs q => h.two c s rc rs pc q⟩
      rcases ltge (tn (P a) (P b) (P s)) 0 with w | w
      · exact Int.le_of_lt (h.two c s rc rs pc w)
      · exact e s rs w
    · refine .inr ⟨rb, ra, Ne.symm ab, fun s rs => ?_, fun s rs z => ?_⟩
      · rcases ltge 0 (tn (P a) (P b) (P s)) with w | w
        · exact absurd ⟨s, rs, w⟩ ex
        · rw [tns]
          omega
      · rw [dia_sw]
        exact h.btw s rs (by rw [tns] at z; omega)
end
/-! ### k14: the papers for an edge -/
section
variable {P : Program} {w : World} {K : PySem.W.Frag} {mg : Str → Option Value} {base : Heap}
/-! lists of sites, by value -/
def dS (p : Int × Int) : PyData := .tuple [.int p.1, .int p.2]
theorem dS_eqv (p q : Int × Int) : PyData.eqv (dS p) (dS q) = decide (p = q) := by
  unfold dS
  rw [eqv_sit, Bool.eq_iff_iff, decide_eq_true_eq, decide_eq_true_eq]
  exact ⟨fun h => Prod.ext h.1 h.2, fun h => by rw [h]; exact ⟨rfl, rfl⟩⟩
theorem dS_all (ps : List (Int × Int)) : PyData.canLayAll0 (ps.map dS) = true ∧ PyData.depthAll (ps.map dS) ≤ 10 := by
  induction ps with
  | nil => exact ⟨rfl, Nat.zero_le _⟩
  | cons p ps ih =>
    obtain ⟨h1, h2⟩ := ih
    refine ⟨?_, ?_⟩
    · rw [List.map_cons]
      show (PyData.canLay0 (dS p) && _) = true
      rw [h1]
      simp [dS, PyData.canLay0, PyData.canLayAll0]
    · simp only [List.map_cons, PyData.depthAll]
      have : (dS p).depth ≤ 10 := by simp [dS, PyData.depth, PyData.depthAll]
      omega
theorem dS_shaped (ps : List (Int × Int)) : SeqAt.shaped (.list (ps.map dS)) = true := by
  obtain ⟨h1, h2⟩ := dS_all ps
  unfold SeqAt.shaped
  rw [Bool.and_eq_true]
  refine ⟨by simp [PyData.canLay0, h1], decide_eq_true ?_⟩
  simp only [PyData.depth]
  omega
theorem u65 {k : Nat} {A : Around} (r : Room k A) : A.units + 65 < cLine := by
  have := r.un
  omega
theorem dS_shaped1 (p : Int × Int) : SeqAt.shaped (dS p) = true := rfl
theorem dS_eqvA : ∀ ps qs : List (Int × Int), PyData.eqvAll (ps.map dS) (qs.map dS) = decide (ps = qs)
  | [], [] => rfl
  | [], _ :: _ => rfl
  | _ :: _, [] => rfl
  | p :: ps, q :: qs => by
    rw [List.map_cons, List.map_cons, PyData.eqvAll, dS_eqv, dS_eqvA ps qs]
    by_cases h : p = q <;> by_cases k : ps = qs <;> simp [h, k]
theorem dS_eqvL (ps qs : List (Int × Int)) : PyData.eqv (.list (ps.map dS)) (.list (qs.map dS)) = decide (ps = qs) := by
  rw [← dS_eqvA]
  simp only [PyData.eqv]
theorem dS_any (p : Int × Int) (qs : List (Int × Int)) : ((qs.map dS).any fun z => PyData.eqv z (dS p)) = decide (p ∈ qs) := by
  induction qs with
  | nil => rfl
  | cons q qs ih =>
    rw [List.map_cons, List.any_cons, ih, dS_eqv]
    by_cases h : q = p
    · simp [h]
    · have h2 : ¬ p = q := fun e => h e.symm
      by_cases k : p ∈ qs <;> simp [h, h2, k]
theorem dpS {H : Hp} {t : Addr} {p : Int × Int} (h : Sit H t p.1 p.2) : Dp K H (.ref t) (dS p) := dpSit h
theorem dpS_all {H : Hp} {f : Addr → Int × Int} : ∀ {ts : List Addr}, (∀ t ∈ ts, Sit H t (f t).1 (f t).2) → DpAll K H (ts.map V.ref) ((ts.map f).map dS)
  | [], _ => .nil
  | t :: ts, h => .cons (dpS (h t List.mem_cons_self)) (dpS_all fun u m => h u (List.mem_cons_of_mem _ m))
theorem dpS_list {H : Hp} {a : Addr} {f : Addr → Int × Int} {ts : List Addr} (e : H a = some (.lst (ts.map V.ref))) (h : ∀ t ∈ ts, Sit H t (f t).1 (f t).2) : Dp K H (.ref a) (.list ((ts.map f).map dS)) := .lst (SqL.of e) (dpS_all h)
section
variable {H : Hp} {Q : VK} {a b t : Addr} {f g : Addr → Int × Int} {ts us : List Addr} {p q : Int × Int}
theorem w_ninS (hp : Sit H t p.1 p.2) (e : H a = some (.lst (ts.map V.ref))) (h : ∀ t ∈ ts, Sit H t (f t).1 (f t).2) (z : Q (.bl (!decide (p ∈ ts.map f))) H) : rNotInD K (.ref t) (.ref a) H Q := ⟨_, _, dpS hp, dpS_list e h, dS_shaped1 _, dS_shaped _, by rw [dS_any]; exact z⟩
theorem w_eqS (hp : Sit H a p.1 p.2) (hq : Sit H b q.1 q.2) (z : Q (.bl (decide (p = q))) H) : rEqD K (.ref a) (.ref b) H Q := ⟨_, _, dpS hp, dpS hq, dS_shaped1 _, dS_shaped1 _, by rw [dS_eqv]; exact z⟩
theorem w_neS (hp : Sit H a p.1 p.2) (hq : Sit H b q.1 q.2) (z : Q (.bl (!decide (p = q))) H) : rNeD K (.ref a) (.ref b) H Q := ⟨_, _, dpS hp, dpS hq, dS_shaped1 _, dS_shaped1 _, by rw [dS_eqv]; exact z⟩
theorem w_eqSs (e : H a = some (.lst (ts.map V.ref))) (h : ∀ t ∈ ts, Sit H t (f t).1 (f t).2) (e2 : H b = some (.lst (us.map V.ref))) (h2 : ∀ t ∈ us, Sit H t (g t).1 (g t).2) (z : Q (.bl (decide (ts.map f = us.map g))) H) : rEqD K (.ref a) (.ref b) H Q := ⟨_, _, dpS_list e h, dpS_list e2 h2, dS_shaped _, dS_shaped _, by rw [dS_eqvL]; exact z⟩
theorem w_neSs (e : H a = some (.lst (ts.map V.ref))) (h : ∀ t ∈ ts, Sit H t (f t).1 (f t).2) (e2 : H b = some (.lst (us.map V.ref))) (h2 : ∀ t ∈ us, Sit H t (g t).1 (g t).2) (z : Q (.bl (!decide (ts.map f = us.map g))) H) : rNeD K (.ref a) (.ref b) H Q := ⟨_, _, dpS_list e h, dpS_list e2 h2, dS_shaped _, dS_shaped _, by rw [dS_eqvL]; exact z⟩
end
abbrev s_is_site : Stmt := topS 10
abbrev n_is_site : List Str := ["value", "x", "y"]
theorem c_is_site : FnScope n_is_site ["value"] (defScope s_is_site) := ⟨rfl, rfl, rfl, by decide +kernel, rfl, by decide +kernel, by decide +kernel⟩
def p_is_site : Sp := spIsSite
abbrev s_check_sites : Stmt := topS 12
abbrev n_check_sites : List Str := ["value"]
theorem c_check_sites : FnScope n_check_sites ["value"] (defScope s_check_sites) := ⟨rfl, rfl, rfl, by decide +kernel, rfl, by decide +kernel, by decide +kernel⟩
def p_check_sites : Sp := fun vs H Q _ => ∃ (p : Addr) (ts : List Addr) (f : Addr → Int × Int), vs = [.ref p] ∧ Lot f H p ts ∧ ∀ H', Same H H' → Q .non H'
set_option pp.maxSteps 300 in
theorem ok_check_sites  (D : Df K mg "check_sites" s_check_sites ["value"]) (C_are_sites : Cl P w K mg base CX0 "are_sites" 1 ["value"] (p_are_sites)) : Cl P w K mg base CX0 "check_sites" 2 ["value"] (p_check_sites) := by
  refine D.cl fun f fd F => F.ok c_check_sites (fun vs H Q E h => ?_) (fun cdv A outer s H vs Q E hr h => ?_)
  · obtain ⟨p, ts, g, rfl, hl, q⟩ := h
    rfl
  · obtain ⟨p, ts, g, rfl, hl, q⟩ := h
    have nd := c_check_sites.nd
    have hu : _ := hu_of hr
    refine ⟨_, (pss_one (ps_if (pt_not (pt_val (pe_cl C_are_sites (hr.mono (by decide)) (by rfl) pass0 (pa_cons (pv 0) pa_nil)))) (pss_one ps_never) pss_nil)), ?_⟩
    repeat array_get_dec
    refine ⟨p, ts, g, rfl, hl, fun H1 s1 => ?_⟩
    repeat array_get_dec
    exact q _ s1
abbrev s_check_member : Stmt := topS 15
abbrev n_check_member : List Str := ["value", "sites", "name"]
theorem c_check_member : FnScope n_check_member ["value", "sites", "name"] (defScope s_check_member) := ⟨rfl, rfl, rfl, by decide +kernel, rfl, by decide +kernel, by decide +kernel⟩
def p_check_member : Sp := fun vs H Q _ => ∃ (t p : Addr) (x y : Int) (z : Str) (ts : List Addr) (f : Addr → Pt), vs = [.ref t, .ref p, .str z] ∧ Sit H t x y ∧ Bd 1000000 x y ∧ H p = some (.lst (ts.map V.ref)) ∧ SitF f H ts ∧ (x, y) ∈ ts.map f ∧ Q .non H
set_option pp.maxSteps 300 in
theorem ok_check_member  (D : Df K mg "check_member" s_check_member ["value", "sites", "name"]) (C_is_site : Cl P w K mg base CX0 "is_site" 1 ["value"] (p_is_site)) : Cl P w K mg base CX0 "check_member" 2 ["value", "sites", "name"] (p_check_member) := by
  refine D.cl fun f fd F => F.ok c_check_member (fun vs H Q E h => ?_) (fun cdv A outer s H vs Q E hr h => ?_)
  · obtain ⟨t, p, x, y, z, ts, g, rfl, st, hb, hp, hs, mem, q⟩ := h
    rfl
  · obtain ⟨t, p, x, y, z, ts, g, rfl, st, hb, hp, hs, mem, q⟩ := h
    have nd := c_check_member.nd
    have hu : _ := hu_of hr
    refine ⟨_, (pss_one (ps_if (PW.pt (pw_or (pt_not (pt_val (pe_cl C_is_site (hr.mono (by decide)) (by rfl) pass0 (pa_cons (pv 0) pa_nil)))) (pw_or1 (pt_cmpR (op_notInD (u65 hr)) (pv 0) (pv 1) rfl)))) (pss_one ps_never) pss_nil)), ?_⟩
    repeat array_get_dec
    refine ⟨t, x, y, rfl, st, hb, ?_⟩
    repeat array_get_dec
    refine w_ninS (p := (x, y)) st hp (fun t m => (hs t m).1) ?_
    rw [decide_eq_true mem]
    repeat array_get_dec
    exact q
abbrev s_check_two : Stmt := topS 16
abbrev n_check_two : List Str := ["a", "b", "sites"]
theorem c_check_two : FnScope n_check_two ["a", "b", "sites"] (defScope s_check_two) := ⟨rfl, rfl, rfl, by decide +kernel, rfl, by decide +kernel, by decide +kernel⟩
/-- two unlike ones of the sites at p -/
structure Two (f : Addr → Pt) (H : Hp) (s t p : Addr) (ts : List Addr) (A B : Pt) : Prop where
  sa : Sit H s A.1 A.2
  sb : Sit H t B.1 B.2
  at_ : H p = some (.lst (ts.map V.ref))
  sit : SitF f H ts
  ma : A ∈ ts.map f
  mb : B ∈ ts.map f
  ne : A ≠ B
theorem Two.same {f : Addr → Pt} {H H' : Hp} {s t p : Addr} {ts : List Addr} {A B : Pt} (h : Two f H s t p ts A B) (a : Same H H') : Two f H' s t p ts A B := ⟨a _ _ h.sa, a _ _ h.sb, a _ _ h.at_, h.sit.same a, h.ma, h.mb, h.ne⟩
theorem SitF.bd {f : Addr → Pt} {H : Hp} {ts : List Addr} (h : SitF f H ts) {A : Pt} (m : A ∈ ts.map f) : Bd 1000000 A.1 A.2 := by
  obtain ⟨t, mt, rfl⟩ := List.mem_map.mp m
  exact (h t mt).2
def p_check_two : Sp := fun vs H Q _ => ∃ (s t p : Addr) (ts : List Addr) (f : Addr → Pt) (A B : Pt), vs = [.ref s, .ref t, .ref p] ∧ Two f H s t p ts A B ∧ Q .non H
set_option pp.maxSteps 300 in
theorem ok_check_two  (D : Df K mg "check_two" s_check_two ["a", "b", "sites"]) (C_check_member : Cl P w K mg base CX0 "check_member" 2 ["value", "sites", "name"] (p_check_member)) : Cl P w K mg base CX0 "check_two" 3 ["a", "b", "sites"] (p_check_two) := by
  refine D.cl fun f fd F => F.ok c_check_two (fun vs H Q E h => ?_) (fun cdv A outer s H vs Q E hr h => ?_)
  · obtain ⟨s, t, p, ts, f, A, B, rfl, tw, q⟩ := h
    rfl
  · obtain ⟨s, t, p, ts, f, A, B, rfl, tw, q⟩ := h
    have nd := c_check_two.nd
    have hu : _ := hu_of hr
    refine ⟨_, (pss_cons (ps_expr (pe_cl C_check_member (hr.mono (by decide)) (by rfl) pass0 (pa_cons (pv 0) (pa_cons (pv 2) (pa_cons pe_str pa_nil))))) (pss_cons (ps_expr (pe_cl C_check_member (hr.mono (by decide)) (by rfl) pass0 (pa_cons (pv 1) (pa_cons (pv 2) (pa_cons pe_str pa_nil))))) (pss_one (ps_if (pt_cmpR (op_eqD hr.units) (pv 0) (pv 1) (nomark _)) (pss_one ps_never) pss_nil)))), ?_⟩
    repeat array_get_dec
    refine ⟨s, p, A.1, A.2, _, ts, f, rfl, tw.sa, tw.sit.bd tw.ma, tw.at_, tw.sit, tw.ma, ?_⟩
    repeat array_get_dec
    refine ⟨t, p, B.1, B.2, _, ts, f, rfl, tw.sb, tw.sit.bd tw.mb, tw.at_, tw.sit, tw.mb, ?_⟩
    repeat array_get_dec
    refine w_eqS tw.sa tw.sb ?_
    rw [decide_eq_false tw.ne]
    repeat array_get_dec
    exact q
abbrev s_beside : Stmt := topS 31
abbrev n_beside : List Str := ["sites", "a", "b", "ax", "ay", "bx", "by", "ux", "uy", "start", "between", "left", "right", "site", "x", "y", "area", "top"]
theorem c_beside : FnScope n_beside ["sites", "a", "b"] (defScope s_beside) := ⟨rfl, rfl, rfl, by decide +kernel, rfl, by decide +kernel, by decide +kernel⟩
/-- what is told of the sites on one side: (top, area, site) for each of ws -/
def ShA (f : Addr → Pt) (A B : Pt) (e : Int) (H : Hp) (us ws : List Addr) : Prop := us.length = ws.length ∧ ∀ (i : Nat) (u t : Addr), us[i]? = some u → ws[i]? = some t → H u = some (.tup [.int (dia A B (f t)), .int (e * tn A B (f t)), .ref t])
theorem ShA.same {f : Addr → Pt} {A B : Pt} {e : Int} {H H' : Hp} {us ws : List Addr} (h : ShA f A B e H us ws) (s : ∀ u o, u ∈ us → H u = some o → H' u = some o) : ShA f A B e H' us ws := ⟨h.1, fun i u t hu ht => s _ _ (List.mem_of_getElem? hu) (h.2 i u t hu ht)⟩
theorem ShA.snoc {f : Addr → Pt} {A B : Pt} {e : Int} {H : Hp} {us ws : List Addr} {u t : Addr} (h : ShA f A B e H us ws) (k : H u = some (.tup [.int (dia A B (f t)), .int (e * tn A B (f t)), .ref t])) : ShA f A B e H (us ++ [u]) (ws ++ [t]) := by
  refine ⟨by rw [List.length_append, List.length_append, h.1]; rfl, fun i v w hv hw => ?_⟩
  have l0 := h.1
  rcases snoc_at hv with ⟨q, ev⟩ | ⟨q, ev⟩
  · rcases snoc_at hw with ⟨q2, ew⟩ | ⟨q2, ew⟩
    · exact h.2 i v w ev ew
    · omega
  · rcases snoc_at hw with ⟨q2, ew⟩ | ⟨q2, ew⟩
    · omega
    · subst ev
      subst ew
      exact k
/-- the least one between, or none -/
def BwA (f : Addr → Pt) (A B : Pt) (ws : List Addr) (v : V) : Prop := (v = .non ∧ ∀ t ∈ ws, tn A B (f t) = 0 → 0 ≤ dia A B (f t)) ∨ ∃ r, v = .ref r ∧ r ∈ ws ∧ tn A B (f r) = 0 ∧ dia A B (f r) < 0 ∧ ∀ t ∈ ws, tn A B (f t) = 0 → dia A B (f t) < 0 → lexLe (f r) (f t)
def lfA (f : Addr → Pt) (A B : Pt) (ts : List Addr) : List Addr := ts.filter fun t => decide (0 < tn A B (f t))
def rtA (f : Addr → Pt) (A B : Pt) (ts : List Addr) : List Addr := ts.filter fun t => decide (tn A B (f t) < 0)
theorem lfA_yes {f : Addr → Pt} {A B : Pt} {L : List Addr} {c : Addr} (h : 0 < tn A B (f c)) : lfA f A B (L ++ [c]) = lfA f A B L ++ [c] := by
  unfold lfA
  rw [List.filter_append]
  simp [h]
theorem lfA_no {f : Addr → Pt} {A B : Pt} {L : List Addr} {c : Addr} (h : ¬ 0 < tn A B (f c)) : lfA f A B (L ++ [c]) = lfA f A B L := by
  unfold lfA
  rw [List.filter_append]
  simp [h]
theorem rtA_yes {f : Addr → Pt} {A B : Pt} {L : List Addr} {c : Addr} (h : tn A B (f c) < 0) : rtA f A B (L ++ [c]) = rtA f A B L ++ [c] := by
  unfold rtA
  rw [List.filter_append]
  simp [h]
theorem rtA_no {f : Addr → Pt} {A B : Pt} {L : List Addr} {c : Addr} (h : ¬ tn A B (f c) < 0) : rtA f A B (L ++ [c]) = rtA f A B L := by
  unfold rtA
  rw [List.filter_append]
  simp [h]
theorem BwA.skip {f : Addr → Pt} {A B : Pt} {L : List Addr} {c : Addr} {v : V} (h : BwA f A B L v) (n : tn A B (f c) = 0 → 0 ≤ dia A B (f c)) : BwA f A B (L ++ [c]) v := by
  rcases h with ⟨rfl, h⟩ | ⟨r, rfl, m, h1, h2, h3⟩
  · refine .inl ⟨rfl, fun t m z => ?_⟩
    rcases List.mem_append.mp m with m | m
    · exact h t m z
    · rw [List.mem_singleton.mp m] at z ⊢
      exact n z
  · refine .inr ⟨r, rfl, List.mem_append_left _ m, h1, h2, fun t m z k => ?_⟩
    rcases List.mem_append.mp m with m | m
    · exact h3 t m z k
    · rw [List.mem_singleton.mp m] at z k
      have := n z
      omega
theorem BwA.first {f : Addr → Pt} {A B : Pt} {L : List Addr} {c : Addr} (h : BwA f A B L .non) (z : tn A B (f c) = 0) (k : dia A B (f c) < 0) : BwA f A B (L ++ [c]) (.ref c) := by
  rcases h with ⟨_, h⟩ | ⟨r, e, _⟩
  · refine .inr ⟨c, rfl, by simp, z, k, fun t m z2 k2 => ?_⟩
    rcases List.mem_append.mp m with m | m
    · have := h t m z2
      omega
    · rw [List.mem_singleton.mp m]
      exact lexLe.refl _
  · cases e
theorem BwA.less {f : Addr → Pt} {A B : Pt} {L : List Addr} {c r : Addr} (h : BwA f A B L (.ref r)) (z : tn A B (f c) = 0) (k : dia A B (f c) < 0) (l : lexLe (f c) (f r)) : BwA f A B (L ++ [c]) (.ref c) := by
  rcases h with ⟨e, _⟩ | ⟨r', e, m, h1, h2, h3⟩
  · cases e
  · cases e
    refine .inr ⟨c, rfl, by simp, z, k, fun t m z2 k2 => ?_⟩
    rcases List.mem_append.mp m with m | m
    · exact l.trans (h3 t m z2 k2)
    · rw [List.mem_singleton.mp m]
      exact lexLe.refl _
theorem BwA.more {f : Addr → Pt} {A B : Pt} {L : List Addr} {c r : Addr} (h : BwA f A B L (.ref r)) (l : lexLe (f r) (f c)) : BwA f A B (L ++ [c]) (.ref r) := by
  rcases h with ⟨e, _⟩ | ⟨r', e, m, h1, h2, h3⟩
  · cases e
  · cases e
    refine .inr ⟨r, rfl, List.mem_append_left _ m, h1, h2, fun t m z2 k2 => ?_⟩
    rcases List.mem_append.mp m with m | m
    · exact h3 t m z2 k2
    · rw [List.mem_singleton.mp m]
      exact l
theorem lex_two (p q : Pt) : HT.lexLt [p.1, p.2] [q.1, q.2] = !decide (lexLe q p) := by
  rw [HT.lexLt_cons, HT.lexLt_cons, HT.lexLt_nil_nil]
  by_cases l : lexLe q p
  · rw [decide_eq_true l]
    unfold lexLe at l
    split
    · split
      · rfl
      · exact decide_eq_false (by omega)
    · exact decide_eq_false (by omega)
  · rw [decide_eq_false l]
    unfold lexLe at l
    split
    · split
      · omega
      · exact decide_eq_true (by omega)
    · exact decide_eq_true (by omega)
def p_beside : Sp := fun vs H Q _ => ∃ (p s t : Addr) (ts : List Addr) (f : Addr → Pt) (A B : Pt), vs = [.ref p, .ref s, .ref t] ∧ Two f H s t p ts A B ∧ ts.length < 64 ∧
  ∀ (q l r : Addr) (v : V) (us ws : List Addr) H', Same H H' → H q = none → H' q = some (.tup [v, .ref l, .ref r]) → BwA f A B ts v → H' l = some (.lst (us.map V.ref)) → H' r = some (.lst (ws.map V.ref)) → ShA f A B 1 H' us (lfA f A B ts) → ShA f A B (-1) H' ws (rtA f A B ts) → Q (.ref q) H'
set_option pp.maxSteps 300 in
theorem ok_beside  (D : Df K mg "beside" s_beside ["sites", "a", "b"]) : Cl P w K mg base CX0 "beside" 1 ["sites", "a", "b"] (p_beside) := by
  refine D.cl fun f fd F => F.ok c_beside (fun vs H Q E h => ?_) (fun cdv A outer s H vs Q E hr h => ?_)
  · obtain ⟨p, s, t, ts, f, A, B, rfl, tw, few, q⟩ := h
    rfl
  · obtain ⟨p, s, t, ts, f, A, B, rfl, tw, few, q⟩ := h
    have nd := c_beside.nd
    have hu : _ := hu_of hr
    refine ⟨_, (pss_cons (ps_asg (pv 1) (pg_tup (by rfl) (pgs_cons (pg_name (i := 3) nd rfl (.inl rfl)) (pgs_cons (pg_name (i := 4) nd rfl (.inl rfl)) pgs_nil)))) (pss_cons (ps_asg (pv 2) (pg_tup (by rfl) (pgs_cons (pg_name (i := 5) nd rfl (.inl rfl)) (pgs_cons (pg_name (i := 6) nd rfl (.inl rfl)) pgs_nil)))) (pss_cons (ps_par (i := 7) (j := 8) (by rfl) nd rfl rfl (by decide) rfl rfl (pa_cons (pe_op op_sub (pv 5) (pv 3)) (pa_cons (pe_op op_sub (pv 6) (pv 4)) pa_nil)) (by rfl)) (pss_cons (ps_set (i := 9) nd rfl (.inl rfl) (pe_op op_sub (pe_op op_mulW (pv 7) (pv 4)) (pe_op op_mulW (pv 8) (pv 3)))) (pss_cons (ps_par3 (i := 10) (j := 11) (l := 12) (by rfl) nd rfl rfl rfl (by decide) (by decide) (by decide) rfl rfl rfl (pa_cons pe_non (pa_cons (pe_lstG pa_nil) (pa_cons (pe_lstG pa_nil) pa_nil))) (by rfl)) (pss_cons (ps_for PassesOwn.never rfl (pi_list (pv 0)) (pg_name (i := 13) nd rfl (.inl rfl)) (pss_cons (ps_asg (pv 13) (pg_tup (by rfl) (pgs_cons (pg_name (i := 14) nd rfl (.inl rfl)) (pgs_cons (pg_name (i := 15) nd rfl (.inl rfl)) pgs_nil)))) (pss_cons (ps_set (i := 16) nd rfl (.inl rfl) (pe_op op_sub (pe_op op_sub (pe_op op_mulW (pv 7) (pv 15)) (pe_op op_mulW (pv 8) (pv 14))) (pv 9))) (pss_cons (ps_set (i := 17) nd rfl (.inl rfl) (pe_op op_add (pe_op op_mulW (pe_op op_sub (pv 14) (pv 3)) (pe_op op_sub (pv 14) (pv 5))) (pe_op op_mulW (pe_op op_sub (pv 15) (pv 4)) (pe_op op_sub (pv 15) (pv 6))))) (pss_one (ps_if (pt_cmpR op_gt (pv 16) pe_int (nomark _)) (pss_one (ps_expr (pe_bm PySem.F.plainAttrs_list PySem.F.slot_list_append PySem.F.type_list_append mt_append (pv 11) (pa_cons (pe_tupG (pa_cons (pv 17) (pa_cons (pv 16) (pa_cons (pv 13) pa_nil)))) pa_nil)))) (pss_one (ps_if (pt_cmpR op_lt (pv 16) pe_int (nomark _)) (pss_one (ps_expr (pe_bm PySem.F.plainAttrs_list PySem.F.slot_list_append PySem.F.type_list_append mt_append (pv 12) (pa_cons (pe_tupG (pa_cons (pv 17) (pa_cons (pe_un un_neg (pv 16)) (pa_cons (pv 13) pa_nil)))) pa_nil)))) (pss_one (ps_if (PW.pt (pw_and (pt_cmpR op_lt (pv 17) pe_int (nomark _)) (pw_and1 (PW.pt (pw_or (pt_cmpR op_isN (pv 10) pe_non (nomark _)) (pw_or1 (pt_cmpR (op_ltT hr.units0) (pv 13) (pv 10) (nomark _)))))))) (pss_one (ps_set (i := 10) nd rfl (.inl rfl) (pv 13))) pss_nil)))))))))) (pss_one (ps_ret (pe_tupG (pa_cons (pv 10) (pa_cons (pv 11) (pa_cons (pv 12) pa_nil)))))))))))), ?_⟩
    have sa := tw.sa
    have sb := tw.sb
    obtain ⟨a1, a2, a3, a4⟩ := tw.sit.bd tw.ma
    obtain ⟨b1, b2, b3, b4⟩ := tw.sit.bd tw.mb
    repeat array_get_dec
    refine fun l H1 s1 n1 e1 => ?_
    repeat array_get_dec
    refine fun r H2 s2 n2 e2 => ?_
    have lr : l ≠ r := ne_of_none e1 n2
    have nl : H l = none := n1
    have nr : H r = none := s1.free n2
    have s12 := s1.trans s2
    repeat array_get_dec
    refine ⟨⟨_, SqL.of (s12 _ _ tw.at_)⟩, for_list (K := K) (a := p) (xs := ts.map V.ref) (fun i σ' H' => ∃ (y13 y14 y15 y16 y17 : Option L2.V) (v : V) (us ws : List Addr), σ' = [some (.ref p), some (.ref s), some (.ref t), some (.int A.1), some (.int A.2), some (.int B.1), some (.int B.2), some (.int (B.1 - A.1)), some (.int (B.2 - A.2)), some (.int ((B.1 - A.1) * A.2 - (B.2 - A.2) * A.1)), some v, some (.ref l), some (.ref r), y13, y14, y15, y16, y17] ∧ Same H H' ∧ H' l = some (.lst (us.map V.ref)) ∧ H' r = some (.lst (ws.map V.ref)) ∧ BwA f A B (ts.take i) v ∧ ShA f A B 1 H' us (lfA f A B (ts.take i)) ∧ ShA f A B (-1) H' ws (rtA f A B (ts.take i))) ⟨_, _, _, _, _, .non, [], [], rfl, s12, s2 _ _ e1, e2, .inl ⟨rfl, fun _ m => nomatch m⟩, ⟨rfl, fun _ _ _ h => nomatch h⟩, ⟨rfl, fun _ _ _ h => nomatch h⟩⟩ (fun i σ' H' _ z => ?_) (fun i x σ' H' hx z => ?_) fun σ' H' z => ?_⟩
    · obtain ⟨_, _, _, _, _, _, _, _, _, sm, _⟩ := z
      exact SqL.of (sm _ _ tw.at_)
    · obtain ⟨y13, y14, y15, y16, y17, v, us, ws, rfl, sm, el, er, bw, shl, shr⟩ := z
      obtain ⟨c, ec, rfl, mc⟩ := ref_at hx
      have sc := (tw.sit c mc).1.same sm
      obtain ⟨c1, c2, c3, c4⟩ := (tw.sit c mc).2
      have tk : ts.take (i + 1) = ts.take i ++ [c] := by
        rw [List.take_add_one, ec]
        rfl
      have ar : (B.1 - A.1) * (f c).2 - (B.2 - A.2) * (f c).1 - ((B.1 - A.1) * A.2 - (B.2 - A.2) * A.1) = tn A B (f c) := by
        unfold tn
        grind
      repeat array_get_dec
      have lu : us.length ≤ ts.length := by
        rw [shl.1]
        exact Nat.le_trans (List.length_filter_le _ _) (by rw [List.length_take]; exact Nat.min_le_right _ _)
      have lw : ws.length ≤ ts.length := by
        rw [shr.1]
        exact Nat.le_trans (List.length_filter_le _ _) (by rw [List.length_take]; exact Nat.min_le_right _ _)
      have lim : ∀ m : Nat, m ≤ ts.length → m < sizeLine := fun m h => Nat.lt_of_lt_of_le (show m < 64 by omega) (by decide)
      rw [tk]
      refine w_ifd (fun hp => ?_) fun hn => ?_
      · have hp : 0 < tn A B (f c) := by rw [← ar]; exact hp
        repeat array_get_dec
        refine ⟨.inl ⟨rfl, _, SqL.of el⟩, ?_⟩
        repeat array_get_dec
        refine fun u H6 s6 n6 e6 => ?_
        have el6 := s6 _ _ el
        have er6 := s6 _ _ er
        refine ⟨l, us.map V.ref, .ref u, rfl, rfl, el6, by rw [List.length_map]; exact lim _ lu, ?_⟩
        have s7 : Same H (upd H6 l (.lst (us.map V.ref ++ [.ref u]))) := same_put (sm.trans s6) nl
        have er7 : upd H6 l (.lst (us.map V.ref ++ [.ref u])) r = some (.lst (ws.map V.ref)) := by rw [upd_ne lr.symm]; exact er6
        have k7 : ∀ (w : Addr) (xs : List V), H6 w = some (.tup xs) → upd H6 l (.lst (us.map V.ref ++ [.ref u])) w = some (.tup xs) := fun w xs h => by rw [upd_ne (ne_of h el6 nofun)]; exact h
        have el7 : upd H6 l (.lst (us.map V.ref ++ [.ref u])) l = some (.lst ((us ++ [u]).map V.ref)) := by rw [upd_same, List.map_append]; rfl
        refine ⟨_, _, _, _, _, v, us ++ [u], ws, rfl, s7, el7, er7, bw.skip (fun z => by omega), ?_, ?_⟩
        · rw [lfA_yes hp]
          refine ShA.snoc ⟨shl.1, fun j a b ha hb => k7 _ _ (s6 _ _ (shl.2 j a b ha hb))⟩ (k7 _ _ ?_)
          rw [e6, ← ar, Int.one_mul]
          rfl
        · rw [rtA_no (by omega)]
          exact ⟨shr.1, fun j a b ha hb => k7 _ _ (s6 _ _ (shr.2 j a b ha hb))⟩
      repeat array_get_dec
      refine w_ifd (fun hp => ?_) fun hn2 => ?_
      · have hp : tn A B (f c) < 0 := by rw [← ar]; exact hp
        repeat array_get_dec
        refine ⟨.inl ⟨rfl, _, SqL.of er⟩, ?_⟩
        repeat array_get_dec
        refine fun u H6 s6 n6 e6 => ?_
        have el6 := s6 _ _ el
        have er6 := s6 _ _ er
        refine ⟨r, ws.map V.ref, .ref u, rfl, rfl, er6, by rw [List.length_map]; exact lim _ lw, ?_⟩
        have s7 : Same H (upd H6 r (.lst (ws.map V.ref ++ [.ref u]))) := same_put (sm.trans s6) nr
        have el7 : upd H6 r (.lst (ws.map V.ref ++ [.ref u])) l = some (.lst (us.map V.ref)) := by rw [upd_ne lr]; exact el6
        have k7 : ∀ (w : Addr) (xs : List V), H6 w = some (.tup xs) → upd H6 r (.lst (ws.map V.ref ++ [.ref u])) w = some (.tup xs) := fun w xs h => by rw [upd_ne (ne_of h er6 nofun)]; exact h
        have er7 : upd H6 r (.lst (ws.map V.ref ++ [.ref u])) r = some (.lst ((ws ++ [u]).map V.ref)) := by rw [upd_same, List.map_append]; rfl
        refine ⟨_, _, _, _, _, v, us, ws ++ [u], rfl, s7, el7, er7, bw.skip (fun z => by omega), ?_, ?_⟩
        · rw [lfA_no (by omega)]
          exact ⟨shl.1, fun j a b ha hb => k7 _ _ (s6 _ _ (shl.2 j a b ha hb))⟩
        · rw [rtA_yes hp]
          refine ShA.snoc ⟨shr.1, fun j a b ha hb => k7 _ _ (s6 _ _ (shr.2 j a b ha hb))⟩ (k7 _ _ ?_)
          rw [e6, ← ar, Int.neg_mul, Int.one_mul]
          rfl
      have z0 : tn A B (f c) = 0 := by
        have h1 : ¬ 0 < tn A B (f c) := by rw [← ar]; exact hn
        have h2 : ¬ tn A B (f c) < 0 := by rw [← ar]; exact hn2
        omega
      rw [lfA_no (by omega), rtA_no (by omega)]
      repeat array_get_dec
      refine w_ifd (fun hd => ?_) fun hd => ?_
      · have hd : dia A B (f c) < 0 := hd
        rcases id bw with ⟨rfl, bz⟩ | ⟨r0, rfl, mr, b1', b2', b3'⟩
        · repeat array_get_dec
          exact ⟨_, _, _, _, _, .ref c, us, ws, rfl, sm, el, er, bw.first z0 hd, shl, shr⟩
        · have sr := (tw.sit r0 (List.mem_of_mem_take mr)).1.same sm
          repeat array_get_dec
          refine ⟨c, r0, [(f c).1, (f c).2], [(f r0).1, (f r0).2], rfl, rfl, SqT.of sc, SqT.of sr, ?_⟩
          rw [lex_two]
          repeat array_get_dec
          by_cases le : lexLe (f r0) (f c)
          · rw [decide_eq_true le]
            refine if_f rfl ?_
            exact ⟨_, _, _, _, _, .ref r0, us, ws, rfl, sm, el, er, bw.more le, shl, shr⟩
          · rw [decide_eq_false le]
            refine if_t rfl ?_
            repeat array_get_dec
            exact ⟨_, _, _, _, _, .ref c, us, ws, rfl, sm, el, er, bw.less z0 hd (by unfold lexLe at le ⊢; omega), shl, shr⟩
      · refine if_f rfl ?_
        exact ⟨_, _, _, _, _, v, us, ws, rfl, sm, el, er, bw.skip (fun _ => by
          have : ¬ dia A B (f c) < 0 := hd
          omega), shl, shr⟩
    · obtain ⟨y13, y14, y15, y16, y17, v, us, ws, rfl, sm, el, er, bw, shl, shr⟩ := z
      rw [List.take_of_length_le (by rw [List.length_map]; exact Nat.le_refl _)] at bw shl shr
      repeat array_get_dec
      refine fun q1 H5 s5 n5 e5 => ?_
      exact q q1 l r v us ws H5 (sm.trans s5) (sm.free n5) e5 bw (s5 _ _ el) (s5 _ _ er) (shl.same fun _ _ _ k => s5 _ _ k) (shr.same fun _ _ _ k => s5 _ _ k)
end
/-! ### k14: the least of the shares, the papers -/
section
variable {P : Program} {w : World} {K : PySem.W.Frag} {mg : Str → Option Value} {base : Heap}
abbrev s_lowest : Stmt := topS 32
abbrev n_lowest : List Str := ["shares", "least", "share"]
theorem c_lowest : FnScope n_lowest ["shares"] (defScope s_lowest) := ⟨rfl, rfl, rfl, by decide +kernel, rfl, by decide +kernel, by decide +kernel⟩
/-- shares that are positive and small -/
def ShB (f : Addr → Pt) (A B : Pt) (e : Int) (ws : List Addr) : Prop := ∀ t ∈ ws, 0 < e * tn A B (f t) ∧ (e * tn A B (f t)).natAbs < 2 ^ 64 ∧ (dia A B (f t)).natAbs < 2 ^ 64
/-- t has the least share -/
def LeastA (f : Addr → Pt) (A B : Pt) (e : Int) (ws : List Addr) (t : Addr) : Prop := t ∈ ws ∧ ∀ s ∈ ws, dia A B (f t) * (e * tn A B (f s)) ≤ dia A B (f s) * (e * tn A B (f t))
def LowA (f : Addr → Pt) (A B : Pt) (e : Int) (us ws : List Addr) (v : V) : Prop := (v = .non ∧ ws = []) ∨ ∃ (i : Nat) (u t : Addr), v = .ref u ∧ us[i]? = some u ∧ ws[i]? = some t ∧ LeastA f A B e ws t
def p_lowest : Sp := fun vs H Q _ => ∃ (p : Addr) (f : Addr → Pt) (A B : Pt) (e : Int) (us ws : List Addr), vs = [.ref p] ∧ H p = some (.lst (us.map V.ref)) ∧ ShA f A B e H us ws ∧ ShB f A B e ws ∧ ∀ v, LowA f A B e us ws v → Q v H
theorem LowA.first {f : Addr → Pt} {A B : Pt} {e : Int} {u t : Addr} : LowA f A B e [u] [t] (.ref u) := .inr ⟨0, u, t, rfl, rfl, rfl, List.mem_singleton.mpr rfl, fun s m => by
  rw [List.mem_singleton.mp m]
  exact Int.le_refl _⟩
set_option pp.maxSteps 300 in
theorem ok_lowest  (D : Df K mg "lowest" s_lowest ["shares"]) : Cl P w K mg base CX0 "lowest" 1 ["shares"] (p_lowest) := by
  refine D.cl fun f fd F => F.ok c_lowest (fun vs H Q E h => ?_) (fun cdv A outer s H vs Q E hr h => ?_)
  · obtain ⟨p, f, A, B, e, us, ws, rfl, hp, sh, sb, q⟩ := h
    rfl
  · obtain ⟨p, f, A, B, e, us, ws, rfl, hp, sh, sb, q⟩ := h
    have nd := c_lowest.nd
    have hu : _ := hu_of hr
    refine ⟨_, (pss_cons (ps_set (i := 1) nd rfl (.inl rfl) pe_non) (pss_cons (ps_for PassesOwn.never rfl (pi_list (pv 0)) (pg_name (i := 2) nd rfl (.inl rfl)) (pss_one (ps_if (PW.pt (pw_or (pt_cmpR op_isN (pv 1) pe_non (nomark _)) (pw_or1 (pt_cmpR op_lt (pe_op op_mulW (pe_ix ix_tup (pv 2) pe_int (fun _ _ => rfl)) (pe_ix ix_tup (pv 1) pe_int (fun _ _ => rfl))) (pe_op op_mulW (pe_ix ix_tup (pv 1) pe_int (fun _ _ => rfl)) (pe_ix ix_tup (pv 2) pe_int (fun _ _ => rfl))) (nomark _))))) (pss_one (ps_set (i := 1) nd rfl (.inl rfl) (pv 2))) pss_nil))) (pss_one (ps_ret (pv 1))))), ?_⟩
    repeat array_get_dec
    refine ⟨⟨_, SqL.of hp⟩, for_list (K := K) (a := p) (xs := us.map V.ref) (fun i σ' H' => ∃ (y2 : Option L2.V) (v : V), σ' = [some (.ref p), some v, y2] ∧ H' = H ∧ LowA f A B e (us.take i) (ws.take i) v) ⟨_, .non, rfl, rfl, .inl ⟨rfl, rfl⟩⟩ (fun i σ' H' _ z => ?_) (fun i x σ' H' hx z => ?_) fun σ' H' z => ?_⟩
    · obtain ⟨_, _, _, rfl, _⟩ := z
      exact SqL.of hp
    · obtain ⟨y2, v, rfl, rfl, lo⟩ := z
      obtain ⟨u, eu, rfl, mu⟩ := ref_at hx
      have iu := (List.getElem?_eq_some_iff.mp eu).1
      have iw : i < ws.length := by rw [← sh.1]; exact iu
      obtain ⟨t, et⟩ : ∃ t, ws[i]? = some t := ⟨_, List.getElem?_eq_getElem iw⟩
      have hu2 := sh.2 i u t eu et
      have mt := List.mem_of_getElem? et
      obtain ⟨b1, b2, b3⟩ := sb t mt
      have tu : us.take (i + 1) = us.take i ++ [u] := by rw [List.take_add_one, eu]; rfl
      have tw : ws.take (i + 1) = ws.take i ++ [t] := by rw [List.take_add_one, et]; rfl
      repeat array_get_dec
      rcases lo with ⟨rfl, nil⟩ | ⟨j, u0, t0, rfl, ej, ej2, lst⟩
      · have i0 : i = 0 := by
          have := congrArg List.length nil
          rw [List.length_take, List.length_nil] at this
          omega
        subst i0
        repeat array_get_dec
        rw [tu, tw]
        exact .first
      · have m0 := List.mem_of_mem_take lst.1
        obtain ⟨c1, c2, c3⟩ := sb t0 m0
        have jj : us[j]? = some u0 ∧ ws[j]? = some t0 := by
          rw [List.getElem?_take] at ej ej2
          split at ej
          · rename_i w
            rw [if_pos w] at ej2
            exact ⟨ej, ej2⟩
          · cases ej
        have h0 := sh.2 j u0 t0 jj.1 jj.2
        have jl : j < (us.take i).length := (List.getElem?_eq_some_iff.mp ej).1
        have jl2 : j < (ws.take i).length := (List.getElem?_eq_some_iff.mp ej2).1
        have li : (us.take i).length = i := by rw [List.length_take]; omega
        have li2 : (ws.take i).length = i := by rw [List.length_take]; omega
        repeat array_get_dec
        refine w_ifd (fun hl => ?_) fun hl => ?_
        · repeat array_get_dec
          refine .inr ⟨i, u, t, rfl, ?_, ?_, ?_, fun s m => ?_⟩
          · rw [tu, List.getElem?_append_right (by omega), li, Nat.sub_self]; rfl
          · rw [tw, List.getElem?_append_right (by omega), li2, Nat.sub_self]; rfl
          · rw [tw]; simp
          · rw [tw] at m
            rcases List.mem_append.mp m with m | m
            · have h1 := lst.2 s m
              obtain ⟨d1, d2, d3⟩ := sb s (List.mem_of_mem_take m)
              have := pen0 (f1 := dia A B (f s)) (f2 := dia A B (f t0)) (f3 := dia A B (f t)) c1 d1 b1 (by omega) (by omega)
              omega
            · rw [List.mem_singleton.mp m]
              exact Int.le_refl _
        · repeat array_get_dec
          refine .inr ⟨j, u0, t0, rfl, ?_, ?_, ?_, fun s m => ?_⟩
          · rw [tu, List.getElem?_append_left jl, ej]
          · rw [tw, List.getElem?_append_left jl2, ej2]
          · rw [tw]; exact List.mem_append_left _ lst.1
          · rw [tw] at m
            rcases List.mem_append.mp m with m | m
            · exact lst.2 s m
            · rw [List.mem_singleton.mp m]
              omega
    · obtain ⟨y2, v, rfl, rfl, lo⟩ := z
      have l0 := sh.1
      rw [List.take_of_length_le (by rw [List.length_map]; omega), List.take_of_length_le (by rw [List.length_map]; omega)] at lo
      repeat array_get_dec
      exact q v lo
abbrev s_first_against : Stmt := topS 34
abbrev n_first_against : List Str := ["shares", "share", "top", "area", "_", "one", "other", "site"]
theorem c_first_against : FnScope n_first_against ["shares", "share"] (defScope s_first_against) := ⟨rfl, rfl, rfl, by decide +kernel, rfl, by decide +kernel, by decide +kernel⟩
/-- the one on the left leaves no room together with the share (T, R) -/
def vioA (f : Addr → Pt) (A B : Pt) (T R : Int) (d : Addr) : Bool := decide (dia A B (f d) * R + T * (1 * tn A B (f d)) ≤ 0)
def p_first_against : Sp := fun vs H Q _ => ∃ (p u0 c : Addr) (f : Addr → Pt) (A B : Pt) (T R : Int) (us ws : List Addr), vs = [.ref p, .ref u0] ∧ H p = some (.lst (us.map V.ref)) ∧ ShA f A B 1 H us ws ∧ ShB f A B 1 ws ∧ us.length < 64 ∧ H u0 = some (.tup [.int T, .int R, .ref c]) ∧ T.natAbs < 2 ^ 64 ∧ R.natAbs < 2 ^ 64 ∧ (∃ d ∈ ws, vioA f A B T R d = true) ∧
  ∀ d H', Same H H' → (ws.filter (vioA f A B T R)).head? = some d → Q (.ref d) H'
theorem range_filter {α : Type} (ws : List α) (z : α) (b : α → Bool) : ((List.range ws.length).filter fun i => b (ws.getD i z)).map (fun i => ws.getD i z) = ws.filter b := by
  have e : ws = (List.range ws.length).map fun i => ws.getD i z := by
    refine List.ext_getElem (by simp) fun i h1 h2 => ?_
    simp [List.getD_eq_getElem?_getD, List.getElem?_eq_getElem h1]
  conv => rhs; rw [e, List.filter_map]
  rfl
set_option pp.maxSteps 300 in
theorem ok_first_against  (D : Df K mg "first_against" s_first_against ["shares", "share"]) : Cl P w K mg base CX0 "first_against" 1 ["shares", "share"] (p_first_against) := by
  refine D.cl fun f fd F => F.ok c_first_against (fun vs H Q E h => ?_) (fun cdv A outer s H vs Q E hr h => ?_)
  · obtain ⟨p, u0, c, f, A, B, T, R, us, ws, rfl, hp, sh, sb, few, hu0, bT, bR, ex, q⟩ := h
    rfl
  · obtain ⟨p, u0, c, f, A, B, T, R, us, ws, rfl, hp, sh, sb, few, hu0, bT, bR, ex, q⟩ := h
    have nd := c_first_against.nd
    have hu : _ := hu_of hr
    refine ⟨_, (pss_cons (ps_asg (pv 1) (pg_tup (by rfl) (pgs_cons (pg_name (i := 2) nd rfl (.inr rfl)) (pgs_cons (pg_name (i := 3) nd rfl (.inr rfl)) (pgs_cons (pg_name (i := 4) nd rfl (.inl rfl)) pgs_nil))))) (pss_one (ps_ret (pe_ix ix_list (pe_lc (own := [("one", 5), ("other", 6), ("site", 7)]) (g := (gTup K 3 (gCons (gName 5) (gCons (gName 6) (gCons (gName 7) gNil)))))  rfl nd (pi_list (pv 0)) (blkOk_by (own := [("one", 5), ("other", 6), ("site", 7)]) (N := n_first_against) (sc := defScope s_first_against) (by decide +kernel)) (fun _ _ _ _ _ => by exact (pg_tup (by rfl) (pgs_cons (pg_name (i := 5) nd rfl (.inl rfl)) (pgs_cons (pg_name (i := 6) nd rfl (.inl rfl)) (pgs_cons (pg_name (i := 7) nd rfl (.inl rfl)) pgs_nil))))) (fun _ _ _ _ _ => by exact (pts_one (pt_cmpR op_le (pe_op op_add (pe_op op_mulW (pv 5) (pv 3)) (pe_op op_mulW (pv 2) (pv 6))) pe_int (nomark _)))) (fun _ _ _ _ _ => by exact (pv 7))) pe_int (fun _ _ => rfl))))), ?_⟩
    have l0 := sh.1
    repeat array_get_dec
    refine ⟨⟨_, SqL.of hp⟩, fun D nD => ?_⟩
    refine lc_fil (walk_list (xs := us.map V.ref)) nD (by rw [List.length_map]; omega) (fun H1 s1 => SqL.of (s1 _ _ hp)) (fun i => vioA f A B T R (ws.getD i p)) (fun i => V.ref (ws.getD i p)) (fun i x H1 H2 Kp Kn hi s1 eD yi fin finN => ?_) fun H1 s1 eD => ?_
    · obtain ⟨rfl, ex⟩ := yi
      rw [List.length_map] at hi
      have exx : x = V.ref us[i] := by
        rw [List.getElem?_map, List.getElem?_eq_getElem hi] at ex
        exact (Option.some.inj ex).symm
      subst exx
      have iw : i < ws.length := by omega
      have gw : ws.getD i p = ws[i] := by rw [List.getD_eq_getElem?_getD, List.getElem?_eq_getElem iw]; rfl
      have hu2 := s1 _ _ (sh.2 i us[i] ws[i] (List.getElem?_eq_getElem hi) (List.getElem?_eq_getElem iw))
      obtain ⟨b1, b2, b3⟩ := sb ws[i] (List.getElem_mem iw)
      repeat array_get_dec
      by_cases w : dia A B (f ws[i]) * R + T * (1 * tn A B (f ws[i])) ≤ 0
      · rw [decide_eq_true w]
        refine if_t rfl ?_
        have := fin _ (by rw [gw]; exact decide_eq_true w) (Same.refl _)
        rw [gw] at this
        exact ⟨_, rfl, this⟩
      · rw [decide_eq_false w]
        refine if_f rfl ?_
        exact finN _ (by rw [gw]; exact decide_eq_false w) (Same.refl _)
    · rw [List.length_map, l0, show (fun i => V.ref (ws.getD i p)) = V.ref ∘ fun i => ws.getD i p from rfl, ← List.map_map, range_filter] at eD
      obtain ⟨d, ed⟩ : ∃ d, (ws.filter (vioA f A B T R)).head? = some d := by
        obtain ⟨d, md, vd⟩ := ex
        cases e : ws.filter (vioA f A B T R) with
        | nil => 
          have := List.mem_filter.mpr ⟨md, vd⟩
          rw [e] at this
          exact nomatch this
        | cons a r => exact ⟨a, rfl⟩
      refine ⟨D, _, 0, .ref d, rfl, rfl, SqL.of eD, atI_nat (j := 0) (by
        rw [List.getElem?_map]
        rw [List.head?_eq_getElem?] at ed
        rw [ed]
        rfl), ?_⟩
      exact q d H1 s1 ed
end
/-! ### k14: the first paper -/
section
variable {P : Program} {w : World} {K : PySem.W.Frag} {mg : Str → Option Value} {base : Heap}
theorem srt_one {g : Addr → Int × Int} {ts rs us : List Addr} (nod : (ts.map g).Nodup) (h1 : rs.Perm ts) (h2 : us.Perm ts) (s1 : (rs.map g).Pairwise lt2) (s2 : us.Pairwise fun a b => lexLe (g a) (g b)) : us = rs := by
  refine List.Perm.eq_of_pairwise (le := fun a b => lexLe (g a) (g b)) (fun a b ma mb x y => ?_) s2 ((List.pairwise_map.mp s1).imp fun w => ?_) (h2.trans h1.symm)
  · have e := lexLe.anti x y
    have m1 := h2.mem_iff.mp ma
    have m2 := h1.mem_iff.mp mb
    obtain ⟨i, hi, ei⟩ := List.getElem_of_mem m1
    obtain ⟨j, hj, ej⟩ := List.getElem_of_mem m2
    have := (List.getElem?_inj (by rw [List.length_map]; exact hi) nod (j := j)).mp (by rw [List.getElem?_map, List.getElem?_map, List.getElem?_eq_getElem hi, List.getElem?_eq_getElem hj, ei, ej, Option.map_some, Option.map_some, e])
    subst this
    rw [← ei, ← ej]
  · unfold lt2 at w
    unfold lexLe
    omega
theorem srt_two {g : Addr → Int × Int} {ts rs us : List Addr} (nod : (ts.map g).Nodup) (h1 : rs.Perm ts) (h2 : us.Perm ts) (s1 : (rs.map g).Pairwise lt2) (s2 : (us.map g).Pairwise lt2) : us = rs := srt_one nod h1 h2 s1 ((List.pairwise_map.mp s2).imp fun w => by
  unfold lt2 at w
  unfold lexLe
  omega)
theorem dia_lt {a b x : Pt} (ha : Bd 1000000 a.1 a.2) (hb : Bd 1000000 b.1 b.2) (hx : Bd 1000000 x.1 x.2) : (dia a b x).natAbs < 2 ^ 64 := by
  obtain ⟨a1, a2, a3, a4⟩ := ha
  obtain ⟨b1, b2, b3, b4⟩ := hb
  obtain ⟨x1, x2, x3, x4⟩ := hx
  unfold dia
  exact nba (by decide) (nbm (k := 63) (Nat.lt_of_lt_of_le (show _ < 2000001 by omega) (by decide)) (Nat.lt_of_lt_of_le (show _ < 2000001 by omega) (by decide))) (nbm (k := 63) (Nat.lt_of_lt_of_le (show _ < 2000001 by omega) (by decide)) (Nat.lt_of_lt_of_le (show _ < 2000001 by omega) (by decide)))
theorem tn_lt {a b x : Pt} (ha : Bd 1000000 a.1 a.2) (hb : Bd 1000000 b.1 b.2) (hx : Bd 1000000 x.1 x.2) : (tn a b x).natAbs < 2 ^ 64 := by
  obtain ⟨a1, a2, a3, a4⟩ := ha
  obtain ⟨b1, b2, b3, b4⟩ := hb
  obtain ⟨x1, x2, x3, x4⟩ := hx
  unfold tn
  exact nbs (by decide) (nbm (k := 63) (Nat.lt_of_lt_of_le (show _ < 2000001 by omega) (by decide)) (Nat.lt_of_lt_of_le (show _ < 2000001 by omega) (by decide))) (nbm (k := 63) (Nat.lt_of_lt_of_le (show _ < 2000001 by omega) (by decide)) (Nat.lt_of_lt_of_le (show _ < 2000001 by omega) (by decide)))
theorem shb_l {f : Addr → Pt} {H : Hp} {ts : List Addr} {A B : Pt} (s : SitF f H ts) (ha : A ∈ ts.map f) (hb : B ∈ ts.map f) : ShB f A B 1 (lfA f A B ts) := fun t m => by
  have m1 := (List.mem_filter.mp m).1
  have m2 := of_decide_eq_true (List.mem_filter.mp m).2
  have b := (s t m1).2
  rw [Int.one_mul]
  exact ⟨m2, tn_lt (s.bd ha) (s.bd hb) b, dia_lt (s.bd ha) (s.bd hb) b⟩
theorem shb_r {f : Addr → Pt} {H : Hp} {ts : List Addr} {A B : Pt} (s : SitF f H ts) (ha : A ∈ ts.map f) (hb : B ∈ ts.map f) : ShB f A B (-1) (rtA f A B ts) := fun t m => by
  have m1 := (List.mem_filter.mp m).1
  have m2 := of_decide_eq_true (List.mem_filter.mp m).2
  have b := (s t m1).2
  rw [Int.neg_mul, Int.one_mul, Int.natAbs_neg]
  exact ⟨by omega, tn_lt (s.bd ha) (s.bd hb) b, dia_lt (s.bd ha) (s.bd hb) b⟩
/-- the site lies between -/
def btwA (f : Addr → Pt) (A B : Pt) (t : Addr) : Bool := decide (tn A B (f t) = 0 ∧ dia A B (f t) < 0)
/-- c on the right and d on the left leave no room -/
def vio2 (f : Addr → Pt) (A B : Pt) (c d : Addr) : Bool := vioA f A B (dia A B (f c)) (-1 * tn A B (f c)) d
/-- the first paper against an edge between A and B, L ascending -/
def papF (f : Addr → Pt) (A B : Pt) (L : List Addr) : Option (List Addr) :=
  match (L.filter (btwA f A B)).head? with
  | some r => some [r]
  | none => match (rtA f A B L).find? fun c => (lfA f A B L).any (vio2 f A B c) with
    | none => none
    | some c => ((lfA f A B L).filter (vio2 f A B c)).head?.map fun d => [c, d]
def PapV (H : Hp) (v : V) : Option (List Addr) → Prop
  | none => v = .non
  | some zs => ∃ q, v = .ref q ∧ H q = some (.tup (zs.map V.ref))
theorem BwA.head {f : Addr → Pt} {A B : Pt} {L : List Addr} {v : V} (h : BwA f A B L v) (so : (L.map f).Pairwise lt2) : match (L.filter (btwA f A B)).head? with
  | none => v = .non
  | some r => v = .ref r := by
  rcases h with ⟨rfl, h⟩ | ⟨r, rfl, m, h1, h2, h3⟩
  · have e : L.filter (btwA f A B) = [] := List.filter_eq_nil_iff.mpr fun t m w => by
      obtain ⟨w1, w2⟩ := of_decide_eq_true w
      have := h t m w1
      omega
    rw [e]
    rfl
  · have mr : r ∈ L.filter (btwA f A B) := List.mem_filter.mpr ⟨m, decide_eq_true ⟨h1, h2⟩⟩
    have so2 : (L.filter (btwA f A B)).Pairwise fun a b => lt2 (f a) (f b) := (List.pairwise_map.mp so).filter _
    cases e : L.filter (btwA f A B) with
    | nil =>
      rw [e] at mr
      exact nomatch mr
    | cons a l =>
      rw [e] at mr so2
      have ma : a ∈ L.filter (btwA f A B) := by rw [e]; exact List.mem_cons_self
      obtain ⟨ma1, ma2⟩ := List.mem_filter.mp ma
      obtain ⟨w1, w2⟩ := of_decide_eq_true ma2
      rcases List.mem_cons.mp mr with rfl | mr
      · rfl
      · have k1 := (List.pairwise_cons.mp so2).1 r mr
        have k2 := h3 a ma1 w1 w2
        unfold lt2 at k1
        unfold lexLe at k2
        omega
theorem any_least {f : Addr → Pt} {A B : Pt} {T R : Int} {ws : List Addr} {d0 : Addr} (hR : 0 < R) (sb : ShB f A B 1 ws) (l : LeastA f A B 1 ws d0) : ws.any (vioA f A B T R) = decide (T * (1 * tn A B (f d0)) + dia A B (f d0) * R ≤ 0) := by
  by_cases w : T * (1 * tn A B (f d0)) + dia A B (f d0) * R ≤ 0
  · rw [decide_eq_true w]
    exact List.any_eq_true.mpr ⟨d0, l.1, decide_eq_true (by omega)⟩
  · rw [decide_eq_false w]
    refine List.any_eq_false.mpr fun d m => ?_
    intro v
    have v := of_decide_eq_true v
    refine w ?_
    have k := l.2 d m
    have p1 := (sb d m).1
    have p0 := (sb d0 l.1).1
    generalize dia A B (f d) = X at v k
    generalize 1 * tn A B (f d) = p at v k p1
    generalize dia A B (f d0) = Y at k ⊢
    generalize 1 * tn A B (f d0) = q at k p0 ⊢
    rcases ltge 0 (T * q + Y * R) with z | z
    · exfalso
      have a1 := Int.mul_pos z p1
      have a2 := Int.mul_nonneg (show 0 ≤ -(X * R + T * p) by omega) (Int.le_of_lt p0)
      have a3 := Int.mul_nonneg (show 0 ≤ X * q - Y * p by omega) (Int.le_of_lt hR)
      have e : (T * q + Y * R) * p + -(X * R + T * p) * q + (X * q - Y * p) * R = 0 := by grind
      omega
    · exact z
abbrev s_avoided : Stmt := topS 33
abbrev n_avoided : List Str := ["sites", "a", "b", "rows", "between", "left", "right", "high", "top", "area", "_", "share"]
theorem c_avoided : FnScope n_avoided ["sites", "a", "b"] (defScope s_avoided) := ⟨rfl, rfl, rfl, by decide +kernel, rfl, by decide +kernel, by decide +kernel⟩
def p_avoided : Sp := fun vs H Q _ => ∃ (p s t : Addr) (ts L : List Addr) (f : Addr → Pt) (A B : Pt), vs = [.ref p, .ref s, .ref t] ∧ Lot f H p ts ∧ Sit H s A.1 A.2 ∧ Sit H t B.1 B.2 ∧ A ∈ ts.map f ∧ B ∈ ts.map f ∧ A ≠ B ∧ L.Perm ts ∧ (L.map f).Pairwise lt2 ∧
  ∀ v H', Same H H' → PapV H' v (papF f A B L) → Q v H'
set_option pp.maxSteps 300 in
theorem ok_avoided  {f : Addr} {fd : FuncData} (F : Fun K "avoided" "avoided" s_avoided f fd) (C_ascending : Cl P w K mg base CX0 "ascending" 2 ["sites"] (p_ascending)) (C_check_two : Cl P w K mg base CX0 "check_two" 3 ["a", "b", "sites"] (p_check_two)) (C_beside : Cl P w K mg base CX0 "beside" 1 ["sites", "a", "b"] (p_beside)) (C_lowest : Cl P w K mg base CX0 "lowest" 1 ["shares"] (p_lowest)) (C_first_against : Cl P w K mg base CX0 "first_against" 1 ["shares", "share"] (p_first_against)) : FnOk P w K mg base CX0 4 f fd ["sites", "a", "b"] (p_avoided) := by
  refine F.ok c_avoided (fun vs H Q E h => ?_) (fun cdv A outer s H vs Q E hr h => ?_)
  · obtain ⟨p, s, t, ts, L, f, A, B, rfl, hl, sa, sb, ma, mb, ne, pm, so, q⟩ := h
    rfl
  · obtain ⟨p, s, t, ts, L, f, A, B, rfl, hl, sa, sb, ma, mb, ne, pm, so, q⟩ := h
    have nd := c_avoided.nd
    have hu : _ := hu_of hr
    refine ⟨_, (pss_cons (ps_set (i := 3) nd rfl (.inl rfl) (pe_cl C_ascending (hr.mono (by decide)) (by rfl) pass0 (pa_cons (pv 0) pa_nil))) (pss_cons (ps_expr (pe_cl C_check_two (hr.mono (by decide)) (by rfl) pass0 (pa_cons (pv 1) (pa_cons (pv 2) (pa_cons (pv 3) pa_nil))))) (pss_cons (ps_asg (pe_cl C_beside (hr.mono (by decide)) (by rfl) pass0 (pa_cons (pv 3) (pa_cons (pv 1) (pa_cons (pv 2) pa_nil)))) (pg_tup (by rfl) (pgs_cons (pg_name (i := 4) nd rfl (.inl rfl)) (pgs_cons (pg_name (i := 5) nd rfl (.inl rfl)) (pgs_cons (pg_name (i := 6) nd rfl (.inl rfl)) pgs_nil))))) (pss_cons (ps_if (pt_cmpR op_notN (pv 4) pe_non (nomark _)) (pss_one (ps_ret (pe_tupG (pa_cons (pv 4) pa_nil)))) pss_nil) (pss_cons (ps_set (i := 7) nd rfl (.inl rfl) (pe_cl C_lowest (hr.mono (by decide)) (by rfl) pass0 (pa_cons (pv 5) pa_nil))) (pss_cons (ps_if (pt_cmpR op_isN (pv 7) pe_non (nomark _)) (pss_one (ps_ret pe_non)) pss_nil) (pss_cons (ps_asg (pv 7) (pg_tup (by rfl) (pgs_cons (pg_name (i := 8) nd rfl (.inl rfl)) (pgs_cons (pg_name (i := 9) nd rfl (.inl rfl)) (pgs_cons (pg_name (i := 10) nd rfl (.inl rfl)) pgs_nil))))) (pss_cons (ps_for PassesOwn.never rfl (pi_list (pv 6)) (pg_name (i := 11) nd rfl (.inl rfl)) (pss_one (ps_if (pt_cmpR op_le (pe_op op_add (pe_op op_mulW (pe_ix ix_tup (pv 11) pe_int (fun _ _ => rfl)) (pv 9)) (pe_op op_mulW (pv 8) (pe_ix ix_tup (pv 11) pe_int (fun _ _ => rfl)))) pe_int (nomark _)) (pss_one (ps_ret (pe_tupG (pa_cons (pe_ix ix_tup (pv 11) pe_int (fun _ _ => rfl)) (pa_cons (pe_cl C_first_against (hr.mono (by decide)) (by rfl) pass0 (pa_cons (pv 5) (pa_cons (pv 11) pa_nil))) pa_nil))))) pss_nil))) (pss_one (ps_ret pe_non)))))))))), ?_⟩
    repeat array_get_dec
    refine ⟨p, ts, f, rfl, hl, fun us R H1 pu su s1 nR hl1 => ?_⟩
    have eL : us = L := srt_two hl.nod pm pu so su
    subst eL
    have ma1 : A ∈ us.map f := (pm.map f).mem_iff.mpr ma
    have mb1 : B ∈ us.map f := (pm.map f).mem_iff.mpr mb
    have tw : Two f H1 s t R us A B := ⟨s1 _ _ sa, s1 _ _ sb, hl1.at_, hl1.sit, ma1, mb1, ne⟩
    repeat array_get_dec
    refine ⟨s, t, R, us, f, A, B, rfl, tw, ?_⟩
    repeat array_get_dec
    refine ⟨R, s, t, us, f, A, B, rfl, tw, hl1.few, fun q0 l r v ul ur H2 s2 n2 e2 bw el er shl shr => ?_⟩
    have S2 := s1.trans s2
    have bh := bw.head so
    have sbl := shb_l hl1.sit ma1 mb1
    have sbr := shb_r hl1.sit ma1 mb1
    rcases hb : (us.filter (btwA f A B)).head? with _ | r0
    · rw [hb] at bh
      have bh : v = .non := bh
      subst bh
      have pf : papF f A B us = match (rtA f A B us).find? fun c => (lfA f A B us).any (vio2 f A B c) with
        | none => none
        | some c => ((lfA f A B us).filter (vio2 f A B c)).head?.map fun d => [c, d] := by
        unfold papF
        rw [hb]
      repeat array_get_dec
      refine ⟨l, f, A, B, 1, ul, _, rfl, el, shl, sbl, fun v2 lo => ?_⟩
      rcases lo with ⟨rfl, nil⟩ | ⟨i0, u0, d0, rfl, ei, ei2, lst⟩
      · repeat array_get_dec
        refine q _ _ S2 ?_
        rw [pf, nil, List.find?_eq_none.mpr fun c _ => by simp]
        rfl
      · have hu0 := shl.2 i0 u0 d0 ei ei2
        obtain ⟨g1, g2, g3⟩ := sbl d0 lst.1
        repeat array_get_dec
        have lu2 : ul.length < 64 := by
          have h1 := shl.1
          have h2 : (lfA f A B us).length ≤ us.length := List.length_filter_le _ _
          have := hl1.few
          omega
        have l0 := shr.1
        have an (c : Addr) (mc : c ∈ rtA f A B us) : (lfA f A B us).any (vio2 f A B c) = decide (dia A B (f c) * (1 * tn A B (f d0)) + dia A B (f d0) * (-1 * tn A B (f c)) ≤ 0) := any_least (sbr c mc).1 sbl lst
        refine ⟨⟨_, SqL.of er⟩, for_list (K := K) (a := r) (xs := ur.map V.ref) (fun i σ' H' => ∃ (y11 : Option L2.V), σ' = [some (.ref p), some (.ref s), some (.ref t), some (.ref R), some .non, some (.ref l), some (.ref r), some (.ref u0), some (.int (dia A B (f d0))), some (.int (1 * tn A B (f d0))), some (.ref d0), y11] ∧ H' = H2 ∧ ∀ c ∈ (rtA f A B us).take i, (lfA f A B us).any (vio2 f A B c) = false) ⟨_, rfl, rfl, fun c m => nomatch m⟩ (fun i σ' H' _ z => ?_) (fun i x σ' H' hx z => ?_) fun σ' H' z => ?_⟩
        · obtain ⟨_, _, rfl, _⟩ := z
          exact SqL.of er
        · obtain ⟨y11, rfl, rfl, no⟩ := z
          obtain ⟨u, eu, rfl, mu⟩ := ref_at hx
          have iu := (List.getElem?_eq_some_iff.mp eu).1
          obtain ⟨c, ec⟩ : ∃ c, (rtA f A B us)[i]? = some c := ⟨_, List.getElem?_eq_getElem (by omega)⟩
          have mc := List.mem_of_getElem? ec
          have huc := shr.2 i u c eu ec
          obtain ⟨b1, b2, b3⟩ := sbr c mc
          repeat array_get_dec
          refine w_ifd (fun hv => ?_) fun hv => ?_
          · have av := an c mc
            rw [decide_eq_true hv] at av
            have fnd : ((rtA f A B us).find? fun c => (lfA f A B us).any (vio2 f A B c)) = some c := by
              have e : rtA f A B us = (rtA f A B us).take i ++ c :: (rtA f A B us).drop (i + 1) := by
                have ei := (List.getElem?_eq_some_iff.mp ec)
                rw [← ei.2, List.getElem_cons_drop, List.take_append_drop]
              rw [e, List.find?_append, List.find?_eq_none.mpr fun c m => by rw [no c m]; decide, List.find?_cons, av]
              rfl
            repeat array_get_dec
            refine ⟨l, u, c, f, A, B, dia A B (f c), -1 * tn A B (f c), ul, lfA f A B us, rfl, el, shl, sbl, lu2, huc, b3, b2, List.any_eq_true.mp av, fun d H3 s3 hd => ?_⟩
            repeat array_get_dec
            refine fun q1 H4 s4 n4 e4 => ?_
            refine q _ H4 (S2.trans (s3.trans s4)) ?_
            rw [pf, fnd]
            show PapV H4 _ (((lfA f A B us).filter (vio2 f A B c)).head?.map fun d => [c, d])
            rw [show ((lfA f A B us).filter (vio2 f A B c)).head? = some d from hd]
            exact ⟨q1, rfl, e4⟩
          · have av := an c mc
            rw [decide_eq_false hv] at av
            repeat array_get_dec
            intro c2 m2
            rw [List.take_add_one, ec] at m2
            rcases List.mem_append.mp m2 with m2 | m2
            · exact no c2 m2
            · rw [List.mem_singleton.mp m2]
              exact av
        · obtain ⟨y11, rfl, rfl, no⟩ := z
          rw [List.take_of_length_le (by rw [List.length_map]; omega)] at no
          repeat array_get_dec
          refine q _ _ S2 ?_
          rw [pf, List.find?_eq_none.mpr fun c m => by rw [no c m]; decide]
          rfl
    · rw [hb] at bh
      have bh : v = .ref r0 := bh
      subst bh
      have pf : papF f A B us = some [r0] := by
        unfold papF
        rw [hb]
      repeat array_get_dec
      refine fun q1 H3 s3 n3 e3 => ?_
      exact q _ H3 (S2.trans s3) (by rw [pf]; exact ⟨q1, rfl, e3⟩)
end
/-! ### k14: the bounds of the centres -/
section
variable {P : Program} {w : World} {K : PySem.W.Frag} {mg : Str → Option Value} {base : Heap}
abbrev s_centres : Stmt := topS 30
abbrev n_centres : List Str := ["sites", "a", "b", "between", "left", "right", "low", "high"]
theorem c_centres : FnScope n_centres ["sites", "a", "b"] (defScope s_centres) := ⟨rfl, rfl, rfl, by decide +kernel, rfl, by decide +kernel, by decide +kernel⟩
/-- a bound: none, or the least share as a fraction in lowest terms -/
def FrV (H : Hp) (f : Addr → Pt) (A B : Pt) (e sg : Int) (ws : List Addr) (v : V) : Prop := (v = .non ∧ ws = []) ∨ ∃ t q, LeastA f A B e ws t ∧ v = .ref q ∧ H q = some (.tup [.int (sg * dia A B (f t) / gcf (sg * dia A B (f t)) (2 * (e * tn A B (f t)))), .int (2 * (e * tn A B (f t)) / gcf (sg * dia A B (f t)) (2 * (e * tn A B (f t))))])
theorem FrV.same {H H' : Hp} {f : Addr → Pt} {A B : Pt} {e sg : Int} {ws : List Addr} {v : V} (h : FrV H f A B e sg ws v) (s : Same H H') : FrV H' f A B e sg ws v := by
  rcases h with h | ⟨t, q, l, e1, e2⟩
  · exact .inl h
  · exact .inr ⟨t, q, l, e1, s _ _ e2⟩
def p_centres : Sp := fun vs H Q _ => ∃ (p s t : Addr) (ts : List Addr) (f : Addr → Pt) (A B : Pt), vs = [.ref p, .ref s, .ref t] ∧ Lot f H p ts ∧ Sit H s A.1 A.2 ∧ Sit H t B.1 B.2 ∧ A ∈ ts.map f ∧ B ∈ ts.map f ∧ A ≠ B ∧
  (∀ H', Same H H' → (∃ x ∈ ts, btwA f A B x = true) → Q .non H') ∧ ∀ q lo hi H', Same H H' → H q = none → (∀ x ∈ ts, btwA f A B x = false) → H' q = some (.tup [lo, hi]) → FrV H' f A B (-1) (-1) (rtA f A B ts) lo → FrV H' f A B 1 1 (lfA f A B ts) hi → Q (.ref q) H'
theorem BwA.any {f : Addr → Pt} {A B : Pt} {L : List Addr} {v : V} (h : BwA f A B L v) : (v = .non ∧ ∀ x ∈ L, btwA f A B x = false) ∨ ∃ r, v = .ref r ∧ ∃ x ∈ L, btwA f A B x = true := by
  rcases h with ⟨rfl, h⟩ | ⟨r, rfl, m, h1, h2, h3⟩
  · exact .inl ⟨rfl, fun x m => decide_eq_false fun w => by
      have := h x m w.1
      omega⟩
  · exact .inr ⟨r, rfl, r, m, decide_eq_true ⟨h1, h2⟩⟩
set_option pp.maxSteps 300 in
theorem ok_centres  {f : Addr} {fd : FuncData} (F : Fun K "centres" "centres" s_centres f fd) (C_check_sites : Cl P w K mg base CX0 "check_sites" 2 ["value"] (p_check_sites)) (C_check_two : Cl P w K mg base CX0 "check_two" 3 ["a", "b", "sites"] (p_check_two)) (C_beside : Cl P w K mg base CX0 "beside" 1 ["sites", "a", "b"] (p_beside)) (C_lowest : Cl P w K mg base CX0 "lowest" 1 ["shares"] (p_lowest)) (C_fraction : Cl P w K mg base CX0 "fraction" 1 ["top", "bottom"] (spFrac)) : FnOk P w K mg base CX0 4 f fd ["sites", "a", "b"] (p_centres) := by
  refine F.ok c_centres (fun vs H Q E h => ?_) (fun cdv A outer s H vs Q E hr h => ?_)
  · obtain ⟨p, s, t, ts, f, A, B, rfl, hl, sa, sb, ma, mb, ne, qn, q⟩ := h
    rfl
  · obtain ⟨p, s, t, ts, f, A, B, rfl, hl, sa, sb, ma, mb, ne, qn, q⟩ := h
    have nd := c_centres.nd
    have hu : _ := hu_of hr
    refine ⟨_, (pss_cons (ps_expr (pe_cl C_check_sites (hr.mono (by decide)) (by rfl) pass0 (pa_cons (pv 0) pa_nil))) (pss_cons (ps_expr (pe_cl C_check_two (hr.mono (by decide)) (by rfl) pass0 (pa_cons (pv 1) (pa_cons (pv 2) (pa_cons (pv 0) pa_nil))))) (pss_cons (ps_asg (pe_cl C_beside (hr.mono (by decide)) (by rfl) pass0 (pa_cons (pv 0) (pa_cons (pv 1) (pa_cons (pv 2) pa_nil)))) (pg_tup (by rfl) (pgs_cons (pg_name (i := 3) nd rfl (.inl rfl)) (pgs_cons (pg_name (i := 4) nd rfl (.inl rfl)) (pgs_cons (pg_name (i := 5) nd rfl (.inl rfl)) pgs_nil))))) (pss_cons (ps_if (pt_cmpR op_notN (pv 3) pe_non (nomark _)) (pss_one (ps_ret pe_non)) pss_nil) (pss_cons (ps_par (i := 6) (j := 7) (by rfl) nd rfl rfl (by decide) rfl rfl (pa_cons (pe_cl C_lowest (hr.mono (by decide)) (by rfl) pass0 (pa_cons (pv 5) pa_nil)) (pa_cons (pe_cl C_lowest (hr.mono (by decide)) (by rfl) pass0 (pa_cons (pv 4) pa_nil)) pa_nil)) (by rfl)) (C8.pss_cut (ps_set (i := 6) nd rfl (.inl rfl) (pe_ifExp (pt_cmpR op_isN (pv 6) pe_non (nomark _)) pe_non (pe_cl C_fraction (hr.mono (by decide)) (by rfl) pass0 (pa_cons (pe_un un_neg (pe_ix ix_tup (pv 6) pe_int (fun _ _ => rfl))) (pa_cons (pe_op op_mulW pe_int (pe_ix ix_tup (pv 6) pe_int (fun _ _ => rfl))) pa_nil))))) (pss_one (ps_ret (pe_tupG (pa_cons (pv 6) (pa_cons (pe_ifExp (pt_cmpR op_isN (pv 7) pe_non (nomark _)) pe_non (pe_cl C_fraction (hr.mono (by decide)) (by rfl) pass0 (pa_cons (pe_ix ix_tup (pv 7) pe_int (fun _ _ => rfl)) (pa_cons (pe_op op_mulW pe_int (pe_ix ix_tup (pv 7) pe_int (fun _ _ => rfl))) pa_nil)))) pa_nil))))))))))), ?_⟩
    have tw : Two f H s t p ts A B := ⟨sa, sb, hl.at_, hl.sit, ma, mb, ne⟩
    repeat array_get_dec
    refine ⟨p, ts, f, rfl, hl, fun H1 s1 => ?_⟩
    have tw1 := tw.same s1
    have hl1 := hl.same s1
    repeat array_get_dec
    refine ⟨s, t, p, ts, f, A, B, rfl, tw1, ?_⟩
    repeat array_get_dec
    refine ⟨p, s, t, ts, f, A, B, rfl, tw1, hl1.few, fun q0 l r v ul ur H2 s2 n2 e2 bw el er shl shr => ?_⟩
    have S2 := s1.trans s2
    have sbl := shb_l hl1.sit ma mb
    have sbr := shb_r hl1.sit ma mb
    rcases bw.any with ⟨rfl, no⟩ | ⟨r0, rfl, ex⟩
    · repeat array_get_dec
      refine ⟨r, f, A, B, -1, ur, _, rfl, er, shr, sbr, fun vlo lo => ?_⟩
      repeat array_get_dec
      refine ⟨l, f, A, B, 1, ul, _, rfl, el, shl, sbl, fun vhi hi => ?_⟩
      repeat array_get_dec
      refine ⟨fun σ' H' => ∃ lo2, σ' = [some (.ref p), some (.ref s), some (.ref t), some .non, some (.ref l), some (.ref r), some lo2, some vhi] ∧ Same H2 H' ∧ FrV H' f A B (-1) (-1) (rtA f A B ts) lo2, ?_, ?_⟩
      · rcases lo with ⟨rfl, nil⟩ | ⟨i, u, c, rfl, eu, ec, lst⟩
        · repeat array_get_dec
          exact ⟨Same.refl _, .inl ⟨rfl, nil⟩⟩
        · have hu1 := shr.2 i u c eu ec
          obtain ⟨b1, b2, b3⟩ := sbr c lst.1
          have w8 : (2 * (-1 * tn A B (f c))).natAbs < 2 ^ 8000 := by array_mem_dec
          have eg : (-1 : Int) * dia A B (f c) = -dia A B (f c) := Int.neg_one_mul _
          repeat array_get_dec
          refine ⟨by omega, w8, fun q1 H4 s4 n4 e4 => ?_⟩
          exact ⟨.ref q1, rfl, s4, .inr ⟨c, q1, lst, rfl, by rw [eg]; exact e4⟩⟩
      rintro σ' H3 ⟨lo2, rfl, s3, flo⟩
      rcases hi with ⟨rfl, nil⟩ | ⟨i, u, c, rfl, eu, ec, lst⟩
      · repeat array_get_dec
        refine fun q1 H4 s4 n4 e4 => ?_
        exact q q1 lo2 .non H4 (S2.trans (s3.trans s4)) ((S2.trans s3).free n4) no e4 (flo.same s4) (.inl ⟨rfl, nil⟩)
      · have hu1 := s3 _ _ (shl.2 i u c eu ec)
        obtain ⟨b1, b2, b3⟩ := sbl c lst.1
        have w8 : (2 * (1 * tn A B (f c))).natAbs < 2 ^ 8000 := by array_mem_dec
        have eg : (1 : Int) * dia A B (f c) = dia A B (f c) := Int.one_mul _
        repeat array_get_dec
        refine ⟨by omega, w8, fun q1 H4 s4 n4 e4 => ?_⟩
        repeat array_get_dec
        refine fun q2 H5 s5 n5 e5 => ?_
        have S5 := s3.trans (s4.trans s5)
        exact q q2 lo2 (.ref q1) H5 (S2.trans S5) ((S2.trans (s3.trans s4)).free n5) no e5 (flo.same (s4.trans s5)) (.inr ⟨c, q1, lst, rfl, by rw [eg]; exact s5 _ _ e4⟩)
    · repeat array_get_dec
      exact qn _ S2 ex
end
/-! ### k14: the law's own reckoning -/
section
variable {P : Program} {w : World} {K : PySem.W.Frag} {mg : Str → Option Value} {base : Heap}
abbrev s__law_square : Stmt := topS 41
abbrev n__law_square : List Str := ["_law_place_here", "_law_site"]
theorem c__law_square : FnScope n__law_square ["_law_place_here", "_law_site"] (defScope s__law_square) := ⟨rfl, rfl, rfl, by decide +kernel, rfl, by decide +kernel, by decide +kernel⟩
theorem sq_bits {X u D : Int} (hX : X.natAbs < 2 ^ 800) (hD : D.natAbs < 2 ^ 800) (h1 : -1000000 ≤ u) (h2 : u ≤ 1000000) : (X - u * D).natAbs < 2 ^ 1000 := by
  have hu : u.natAbs < 2 ^ 20 := Nat.lt_of_le_of_lt (show u.natAbs ≤ 1000000 by omega) (by decide)
  have hm : (u * D).natAbs < 2 ^ 820 := by
    rw [Int.natAbs_mul, show (2 : Nat) ^ 820 = 2 ^ 20 * 2 ^ 800 by rw [← Nat.pow_add]]
    exact Nat.mul_lt_mul'' hu hD
  exact nbs (by decide) (nbu hX (by decide)) (nbu hm (by decide))
def p__law_square : Sp := fun vs H Q _ => ∃ (p s : Addr) (X Y D : Int) (A : Pt), vs = [.ref p, .ref s] ∧ H p = some (.tup [.int X, .int Y, .int D]) ∧ X.natAbs < 2 ^ 800 ∧ Y.natAbs < 2 ^ 800 ∧ D.natAbs < 2 ^ 800 ∧ Sit H s A.1 A.2 ∧ Bd 1000000 A.1 A.2 ∧ Q (.int (spread X Y D A.1 A.2)) H
set_option pp.maxSteps 300 in
theorem ok__law_square  (D : Df K mg "_law_square" s__law_square ["_law_place_here", "_law_site"]) : Cl P w K mg base CX0 "_law_square" 1 ["_law_place_here", "_law_site"] (p__law_square) := by
  refine D.cl fun f fd F => F.ok c__law_square (fun vs H Q E h => ?_) (fun cdv A outer s H vs Q E hr h => ?_)
  · obtain ⟨p, s, X, Y, D, A, rfl, hp, bX, bY, bD, hs, ⟨a1, a2, a3, a4⟩, q⟩ := h
    rfl
  · obtain ⟨p, s, X, Y, D, A, rfl, hp, bX, bY, bD, hs, ⟨a1, a2, a3, a4⟩, q⟩ := h
    have nd := c__law_square.nd
    have hu : _ := hu_of hr
    refine ⟨_, (pss_one (ps_ret (pe_op op_add (pe_op op_sq (pe_op op_sub (pe_ix ix_tup (pv 0) pe_int (fun _ _ => rfl)) (pe_op op_mulW (pe_ix ix_tup (pv 1) pe_int (fun _ _ => rfl)) (pe_ix ix_tup (pv 0) pe_int (fun _ _ => rfl)))) pe_int) (pe_op op_sq (pe_op op_sub (pe_ix ix_tup (pv 0) pe_int (fun _ _ => rfl)) (pe_op op_mulW (pe_ix ix_tup (pv 1) pe_int (fun _ _ => rfl)) (pe_ix ix_tup (pv 0) pe_int (fun _ _ => rfl)))) pe_int)))), ?_⟩
    unfold spread at q
    rw [Int.mul_comm D A.1, Int.mul_comm D A.2] at q
    repeat array_get_dec
    refine ⟨⟨rfl, sq_bits bX bD a1 a2⟩, ?_⟩
    repeat array_get_dec
    refine ⟨⟨rfl, sq_bits bY bD a3 a4⟩, ?_⟩
    repeat array_get_dec
    exact q
abbrev s__law_at : Stmt := topS 46
abbrev n__law_at : List Str := ["_law_aa", "_law_bb", "_law_n", "_law_d", "_law_x", "_law_y"]
theorem c__law_at : FnScope n__law_at ["_law_aa", "_law_bb", "_law_n", "_law_d"] (defScope s__law_at) := ⟨rfl, rfl, rfl, by decide +kernel, rfl, by decide +kernel, by decide +kernel⟩
/-- a place of the line in the middle of A and B: X / D, Y / D, scaled -/
structure OnMid (A B : Pt) (n d X Y D : Int) : Prop where
  ex : ∃ g : Int, 0 < g ∧ g * X = (A.1 + B.1) * d - 2 * n * (B.2 - A.2) ∧ g * Y = (A.2 + B.2) * d + 2 * n * (B.1 - A.1) ∧ g * D = 2 * d
  bX : X.natAbs < 2 ^ 800
  bY : Y.natAbs < 2 ^ 800
  bD : D.natAbs < 2 ^ 800
def p__law_at : Sp := fun vs H Q _ => ∃ (s t : Addr) (A B : Pt) (n d : Int), vs = [.ref s, .ref t, .int n, .int d] ∧ Sit H s A.1 A.2 ∧ Sit H t B.1 B.2 ∧ Bd 1000000 A.1 A.2 ∧ Bd 1000000 B.1 B.2 ∧ n.natAbs < 2 ^ 180 ∧ d.natAbs < 2 ^ 180 ∧ 0 < d ∧
  ∀ q X Y D H', Same H H' → H q = none → H' q = some (.tup [.int X, .int Y, .int D]) → OnMid A B n d X Y D → Q (.ref q) H'
theorem gs_pos {x y d : Int} (h : 0 < d) : 0 < gs x y d := by
  have := g3_pos (x := x) (y := y) (d := d) (by omega)
  unfold gs
  rw [if_neg (by omega)]
  omega
theorem fdiv_bits {x g : Int} (hg : 0 < g) (h : g ∣ x) (b : x.natAbs < 2 ^ 800) : (x.fdiv g).natAbs < 2 ^ 800 ∧ g * x.fdiv g = x := by
  have e : g * x.fdiv g = x := by
    rw [Int.fdiv_eq_ediv_of_nonneg _ (Int.le_of_lt hg)]
    exact Int.mul_ediv_cancel' h
  refine ⟨Nat.lt_of_le_of_lt ?_ b, e⟩
  have : (g * x.fdiv g).natAbs = x.natAbs := by rw [e]
  rw [Int.natAbs_mul] at this
  rw [← this]
  exact Nat.le_mul_of_pos_left _ (Int.natAbs_pos.mpr (by omega))
/-- which side of the circle about a place of the line in the middle -/
theorem mid_far {A B : Pt} {n d X Y D : Int} (hd : 0 < d) (h : OnMid A B n d X Y D) (c : Pt) : ∃ k m : Int, 0 < k ∧ 0 < m ∧ k * (spread X Y D c.1 c.2 - spread X Y D A.1 A.2) = m * (d * dia A B c - 2 * n * tn A B c) := by
  obtain ⟨g, g0, e1, e2, e3⟩ := h.ex
  refine ⟨g * g, 4 * d, Int.mul_pos g0 g0, by omega, ?_⟩
  rw [Int.mul_sub, spread_scale, spread_scale, e1, e2, e3]
  unfold spread dia tn
  grind
theorem mid_le {A B : Pt} {n d X Y D : Int} (hd : 0 < d) (h : OnMid A B n d X Y D) (c : Pt) : spread X Y D c.1 c.2 ≤ spread X Y D A.1 A.2 ↔ d * dia A B c - 2 * n * tn A B c ≤ 0 := by
  obtain ⟨k, m, k0, m0, e⟩ := mid_far hd h c
  generalize d * dia A B c - 2 * n * tn A B c = y at e ⊢
  constructor
  · intro w
    have a1 := Int.mul_nonneg (Int.le_of_lt k0) (show 0 ≤ -(spread X Y D c.1 c.2 - spread X Y D A.1 A.2) by omega)
    rw [Int.mul_neg, e] at a1
    rcases ltge 0 y with z | z
    · have := Int.mul_pos m0 z
      omega
    · exact z
  · intro w
    have a1 := Int.mul_nonneg (Int.le_of_lt m0) (show 0 ≤ -y by omega)
    rw [Int.mul_neg, ← e] at a1
    rcases ltge (spread X Y D A.1 A.2) (spread X Y D c.1 c.2) with z | z
    · have := Int.mul_pos k0 (show 0 < spread X Y D c.1 c.2 - spread X Y D A.1 A.2 by omega)
      omega
    · exact z
theorem mid_ge {A B : Pt} {n d X Y D : Int} (hd : 0 < d) (h : OnMid A B n d X Y D) (c : Pt) : spread X Y D A.1 A.2 ≤ spread X Y D c.1 c.2 ↔ 0 ≤ d * dia A B c - 2 * n * tn A B c := by
  obtain ⟨k, m, k0, m0, e⟩ := mid_far hd h c
  generalize d * dia A B c - 2 * n * tn A B c = y at e ⊢
  constructor
  · intro w
    have a1 := Int.mul_nonneg (Int.le_of_lt k0) (show 0 ≤ spread X Y D c.1 c.2 - spread X Y D A.1 A.2 by omega)
    rw [e] at a1
    rcases ltge y 0 with z | z
    · have := Int.mul_pos m0 (show 0 < -y by omega)
      rw [Int.mul_neg] at this
      omega
    · exact z
  · intro w
    have a1 := Int.mul_nonneg (Int.le_of_lt m0) w
    rw [← e] at a1
    rcases ltge (spread X Y D c.1 c.2) (spread X Y D A.1 A.2) with z | z
    · have := Int.mul_pos k0 (show 0 < -(spread X Y D c.1 c.2 - spread X Y D A.1 A.2) by omega)
      rw [Int.mul_neg] at this
      omega
    · exact z
set_option pp.maxSteps 300 in
theorem ok__law_at  (D : Df K mg "_law_at" s__law_at ["_law_aa", "_law_bb", "_law_n", "_law_d"]) (C__law_place : Cl P w K mg base CX0 "_law_place" 2 ["_law_x", "_law_y", "_law_d"] (spPlOf)) : Cl P w K mg base CX0 "_law_at" 3 ["_law_aa", "_law_bb", "_law_n", "_law_d"] (p__law_at) := by
  refine D.cl fun f fd F => F.ok c__law_at (fun vs H Q E h => ?_) (fun cdv A outer s H vs Q E hr h => ?_)
  · obtain ⟨s, t, A, B, n, d, rfl, sa, sb, ⟨a1, a2, a3, a4⟩, ⟨b1, b2, b3, b4⟩, bn, bd, hd, q⟩ := h
    rfl
  · obtain ⟨s, t, A, B, n, d, rfl, sa, sb, ⟨a1, a2, a3, a4⟩, ⟨b1, b2, b3, b4⟩, bn, bd, hd, q⟩ := h
    have nd := c__law_at.nd
    have hu : _ := hu_of hr
    refine ⟨_, (pss_cons (ps_set (i := 4) nd rfl (.inl rfl) (pe_op op_sub (pe_op op_mulW (pe_op op_add (pe_ix ix_tup (pv 0) pe_int (fun _ _ => rfl)) (pe_ix ix_tup (pv 1) pe_int (fun _ _ => rfl))) (pv 3)) (pe_op op_mulW (pe_op op_mulW pe_int (pv 2)) (pe_op op_sub (pe_ix ix_tup (pv 1) pe_int (fun _ _ => rfl)) (pe_ix ix_tup (pv 0) pe_int (fun _ _ => rfl)))))) (pss_cons (ps_set (i := 5) nd rfl (.inl rfl) (pe_op op_add (pe_op op_mulW (pe_op op_add (pe_ix ix_tup (pv 0) pe_int (fun _ _ => rfl)) (pe_ix ix_tup (pv 1) pe_int (fun _ _ => rfl))) (pv 3)) (pe_op op_mulW (pe_op op_mulW pe_int (pv 2)) (pe_op op_sub (pe_ix ix_tup (pv 1) pe_int (fun _ _ => rfl)) (pe_ix ix_tup (pv 0) pe_int (fun _ _ => rfl)))))) (pss_one (ps_ret (pe_cl C__law_place (hr.mono (by decide)) (by rfl) pass0 (pa_cons (pv 4) (pa_cons (pv 5) (pa_cons (pe_op op_mulW pe_int (pv 3)) pa_nil)))))))), ?_⟩
    repeat array_get_dec
    have dx : ((g3 ((A.1 + B.1) * d - 2 * n * (B.2 - A.2)) ((A.2 + B.2) * d + 2 * n * (B.1 - A.1)) (2 * d) : Nat) : Int) ∣ (A.1 + B.1) * d - 2 * n * (B.2 - A.2) := g3_dx _ _ _
    have bx : ((A.1 + B.1) * d - 2 * n * (B.2 - A.2)).natAbs < 2 ^ 800 := by array_mem_dec
    have bY : ((A.2 + B.2) * d + 2 * n * (B.1 - A.1)).natAbs < 2 ^ 800 := by array_mem_dec
    have bD : (2 * d).natAbs < 2 ^ 800 := by array_mem_dec
    have gp := gs_pos (x := (A.1 + B.1) * d - 2 * n * (B.2 - A.2)) (y := (A.2 + B.2) * d + 2 * n * (B.1 - A.1)) (show 0 < 2 * d by omega)
    have f1 := fdiv_bits gp (gs_dvd (g3_dx _ _ _)) bx
    have f2 := fdiv_bits gp (gs_dvd (g3_dy _ _ _)) bY
    have f3 := fdiv_bits gp (gs_dvd (g3_dd _ _ _)) bD
    refine ⟨by omega, by array_mem_dec, fun q1 H1 s1 n1 e1 => ?_⟩
    exact q q1 _ _ _ H1 s1 n1 e1 ⟨⟨_, gp, f1.2, f2.2, f3.2⟩, f1.1, f2.1, f3.1⟩
abbrev s__law_is_on : Stmt := topS 47
abbrev n__law_is_on : List Str := ["_law_aa", "_law_bb", "_law_c", "_law_dots"]
theorem c__law_is_on : FnScope n__law_is_on ["_law_aa", "_law_bb", "_law_c"] (defScope s__law_is_on) := ⟨rfl, rfl, rfl, by decide +kernel, rfl, by decide +kernel, by decide +kernel⟩
theorem w_ninT2 {K : PySem.W.Frag} {H : Hp} {Q : VK} {a s t u : Addr} {A B C : Pt} (hc : Sit H u C.1 C.2) (e : H a = some (.tup [.ref s, .ref t])) (sa : Sit H s A.1 A.2) (sb : Sit H t B.1 B.2) (z : Q (.bl (!decide (C = A ∨ C = B))) H) : rNotInTD K (.ref u) (.ref a) H Q := ⟨dS C, [dS A, dS B], dpS hc, .tup (SqT.of e) (.cons (dpS sa) (.cons (dpS sb) .nil)), rfl, rfl, by
  rw [show [dS A, dS B] = [A, B].map dS from rfl, dS_any, show decide (C ∈ [A, B]) = decide (C = A ∨ C = B) from decide_eq_decide.mpr (by simp)]
  exact z⟩
def p__law_is_on : Sp := fun vs H Q _ => ∃ (s t u : Addr) (A B C : Pt), vs = [.ref s, .ref t, .ref u] ∧ Sit H s A.1 A.2 ∧ Sit H t B.1 B.2 ∧ Sit H u C.1 C.2 ∧ Bd 1000000 A.1 A.2 ∧ Bd 1000000 B.1 B.2 ∧ Bd 1000000 C.1 C.2 ∧ ∀ H', Same H H' → Q (.bl (decide (tn A B C = 0 ∧ dia A B C < 0))) H'
set_option pp.maxSteps 300 in
theorem ok__law_is_on  (D : Df K mg "_law_is_on" s__law_is_on ["_law_aa", "_law_bb", "_law_c"]) (C__law_turn : Cl P w K mg base CX0 "_law_turn" 1 ["_law_aa", "_law_bb", "_law_c"] ((sp3 K fun ax ay bx by' cx cy => .int (tri ax ay bx by' cx cy)))) : Cl P w K mg base CX0 "_law_is_on" 2 ["_law_aa", "_law_bb", "_law_c"] (p__law_is_on) := by
  refine D.cl fun f fd F => F.ok c__law_is_on (fun vs H Q E h => ?_) (fun cdv A outer s H vs Q E hr h => ?_)
  · obtain ⟨s, t, u, A, B, C, rfl, sa, sb, sc, ba, bb, bc, q⟩ := h
    rfl
  · obtain ⟨s, t, u, A, B, C, rfl, sa, sb, sc, ba, bb, bc, q⟩ := h
    have nd := c__law_is_on.nd
    have hu : _ := hu_of hr
    refine ⟨_, (pss_cons (ps_set (i := 3) nd rfl (.inl rfl) (pe_op op_add (pe_op op_mulW (pe_op op_sub (pe_ix ix_tup (pv 2) pe_int (fun _ _ => rfl)) (pe_ix ix_tup (pv 0) pe_int (fun _ _ => rfl))) (pe_op op_sub (pe_ix ix_tup (pv 2) pe_int (fun _ _ => rfl)) (pe_ix ix_tup (pv 1) pe_int (fun _ _ => rfl)))) (pe_op op_mulW (pe_op op_sub (pe_ix ix_tup (pv 2) pe_int (fun _ _ => rfl)) (pe_ix ix_tup (pv 0) pe_int (fun _ _ => rfl))) (pe_op op_sub (pe_ix ix_tup (pv 2) pe_int (fun _ _ => rfl)) (pe_ix ix_tup (pv 1) pe_int (fun _ _ => rfl)))))) (pss_one (ps_ret (pe_and (pe_cmpR (op_notInTD (u65 hr)) (pv 2) (pe_tupG (pa_cons (pv 0) (pa_cons (pv 1) pa_nil))) rfl) (pe_and (pe_cmpR op_eq (pe_cl C__law_turn (hr.mono (by decide)) (by rfl) pass0 (pa_cons (pv 0) (pa_cons (pv 1) (pa_cons (pv 2) pa_nil)))) pe_int (nomark _)) (pe_one (pe_cmpR op_lt (pv 3) pe_int (nomark _)))))))), ?_⟩
    obtain ⟨a1, a2, a3, a4⟩ := id ba
    obtain ⟨b1, b2, b3, b4⟩ := id bb
    obtain ⟨c1, c2, c3, c4⟩ := id bc
    repeat array_get_dec
    refine fun w H1 s1 n1 e1 => ?_
    refine w_ninT2 (s1 _ _ sc) e1 (s1 _ _ sa) (s1 _ _ sb) ?_
    have sa1 := s1 _ _ sa
    have sb1 := s1 _ _ sb
    have sc1 := s1 _ _ sc
    by_cases same : C = A ∨ C = B
    · rw [decide_eq_true same]
      refine ⟨false, rfl, if_f rfl ?_⟩
      have no : ¬ (tn A B C = 0 ∧ dia A B C < 0) := by
        rcases same with rfl | rfl
        · intro w
          have : dia C B C = 0 := by unfold dia; grind
          omega
        · intro w
          have : dia A C C = 0 := by unfold dia; grind
          omega
      have := q H1 s1
      rw [decide_eq_false no] at this
      exact this
    · rw [decide_eq_false same]
      refine ⟨true, rfl, if_t rfl ?_⟩
      repeat array_get_dec
      refine ⟨s, t, u, A.1, A.2, B.1, B.2, C.1, C.2, rfl, sa1, sb1, sc1, ba, bb, bc, ?_⟩
      repeat array_get_dec
      by_cases z : tn A B C = 0
      · refine w_itt (congrArg V.int z) ?_
        repeat array_get_dec
        have := q H1 s1
        rw [show decide (tn A B C = 0 ∧ dia A B C < 0) = decide (dia A B C < 0) from decide_eq_decide.mpr ⟨fun w => w.2, fun w => ⟨z, w⟩⟩] at this
        exact this
      · refine w_itf (fun e => z (V.int.inj e)) ?_
        have := q H1 s1
        rw [decide_eq_false (fun w => z w.1)] at this
        exact this
end
/-! ### k14: the law's paper -/
section
variable {P : Program} {w : World} {K : PySem.W.Frag} {mg : Str → Option Value} {base : Heap}
theorem sub_far {a b c s : Pt} (t : tri a.1 a.2 b.1 b.2 c.1 c.2 ≠ 0) : ∃ g : Int, 0 < g ∧ g * (spread (ctx a.1 a.2 b.1 b.2 c.1 c.2) (cty a.1 a.2 b.1 b.2 c.1 c.2) (ctd a.1 a.2 b.1 b.2 c.1 c.2) s.1 s.2 - spread (ctx a.1 a.2 b.1 b.2 c.1 c.2) (cty a.1 a.2 b.1 b.2 c.1 c.2) (ctd a.1 a.2 b.1 b.2 c.1 c.2) a.1 a.2) = -(4 * (tn a b c * ic a b c s)) := by
  obtain ⟨g, hg, e1, e2, e3⟩ := centre_far t
  have g2 : 0 < g * g := by
    have z := sq_nn g
    have w : g * g ≠ 0 := Int.mul_ne_zero hg hg
    omega
  refine ⟨g * g, g2, ?_⟩
  have v : vol a.1 a.2 b.1 b.2 c.1 c.2 s.1 s.2 = -ic a b c s := by
    unfold vol lz ic dia tn
    grind
  rw [Int.mul_sub, spread_scale, spread_scale, e1, e2, e3, far_a, far_vol, v]
  unfold tri tn
  grind
abbrev s__law_paper : Stmt := topS 48
abbrev n__law_paper : List Str := ["_law_row", "_law_aa", "_law_bb", "_law_between", "_law_right", "_law_left", "_law_c", "_law_place_here", "_law_d"]
theorem c__law_paper : FnScope n__law_paper ["_law_row", "_law_aa", "_law_bb"] (defScope s__law_paper) := ⟨rfl, rfl, rfl, by decide +kernel, rfl, by decide +kernel, by decide +kernel⟩
theorem far_vio {f : Addr → Pt} {A B : Pt} {c d : Addr} (t : tn A B (f c) < 0) : spread (ctx A.1 A.2 B.1 B.2 (f c).1 (f c).2) (cty A.1 A.2 B.1 B.2 (f c).1 (f c).2) (ctd A.1 A.2 B.1 B.2 (f c).1 (f c).2) (f d).1 (f d).2 ≤ spread (ctx A.1 A.2 B.1 B.2 (f c).1 (f c).2) (cty A.1 A.2 B.1 B.2 (f c).1 (f c).2) (ctd A.1 A.2 B.1 B.2 (f c).1 (f c).2) A.1 A.2 ↔ vio2 f A B c d = true := by
  obtain ⟨g, g0, e⟩ := sub_far (a := A) (b := B) (c := f c) (s := f d) (show tn A B (f c) ≠ 0 by omega)
  have ev : vio2 f A B c d = decide (ic A B (f c) (f d) ≤ 0) := by
    unfold vio2 vioA ic
    refine decide_eq_decide.mpr ?_
    rw [Int.one_mul, Int.neg_mul, Int.one_mul, Int.mul_neg]
    omega
  rw [ev, decide_eq_true_eq]
  generalize spread _ _ _ (f d).1 (f d).2 = x at e ⊢
  generalize spread _ _ _ A.1 A.2 = y at e ⊢
  generalize ic A B (f c) (f d) = z at e ⊢
  generalize tn A B (f c) = u at e t
  constructor
  · intro h
    have a1 := Int.mul_nonneg (Int.le_of_lt g0) (show 0 ≤ -(x - y) by omega)
    rw [Int.mul_neg, e] at a1
    rcases ltge 0 z with w | w
    · have := Int.mul_neg_of_neg_of_pos t w
      omega
    · exact w
  · intro h
    rcases ltge y x with w | w
    · have a1 := Int.mul_pos g0 (show 0 < x - y by omega)
      have a2 := Int.mul_nonneg (show 0 ≤ -u by omega) (show 0 ≤ -z by omega)
      rw [Int.neg_mul_neg] at a2
      omega
    · exact w
/-- what a comprehension with a test makes of a list -/
theorem range_fil (ws : List Addr) (z : Addr) (b : Addr → Bool) : (((List.range ws.length).filter fun i => b (ws.getD i z)).map fun i => V.ref (ws.getD i z)) = (ws.filter b).map V.ref := by
  rw [← range_filter ws z b, List.map_map]
  rfl
theorem w_dt {p A B : Prop} [Decidable p] (h : p) (a : A) : if decide p = true then A else B := by
  rw [decide_eq_true h, if_pos rfl]
  exact a
theorem w_df {p A B : Prop} [Decidable p] (h : ¬ p) (b : B) : if decide p = true then A else B := by
  rw [decide_eq_false h, if_neg (by decide)]
  exact b
def p__law_paper : Sp := fun vs H Q _ => ∃ (p s t : Addr) (L : List Addr) (f : Addr → Pt) (A B : Pt), vs = [.ref p, .ref s, .ref t] ∧ H p = some (.lst (L.map V.ref)) ∧ SitF f H L ∧ L.length < 64 ∧ Sit H s A.1 A.2 ∧ Sit H t B.1 B.2 ∧ Bd 1000000 A.1 A.2 ∧ Bd 1000000 B.1 B.2 ∧
  ∀ v H', Same H H' → PapV H' v (papF f A B L) → Q v H'
set_option pp.maxSteps 300 in
theorem ok__law_paper  (D : Df K mg "_law_paper" s__law_paper ["_law_row", "_law_aa", "_law_bb"]) (C__law_turn : Cl P w K mg base CX0 "_law_turn" 1 ["_law_aa", "_law_bb", "_law_c"] ((sp3 K fun ax ay bx by' cx cy => .int (tri ax ay bx by' cx cy)))) (C__law_centre : Cl P w K mg base CX0 "_law_centre" 3 ["_law_aa", "_law_bb", "_law_c"] (spLCen)) (C__law_square : Cl P w K mg base CX0 "_law_square" 1 ["_law_place_here", "_law_site"] (p__law_square)) (C__law_is_on : Cl P w K mg base CX0 "_law_is_on" 2 ["_law_aa", "_law_bb", "_law_c"] (p__law_is_on)) : Cl P w K mg base CX0 "_law_paper" 4 ["_law_row", "_law_aa", "_law_bb"] (p__law_paper) := by
  refine D.cl fun f fd F => F.ok c__law_paper (fun vs H Q E h => ?_) (fun cdv A outer s H vs Q E hr h => ?_)
  · obtain ⟨p, s, t, L, f, A, B, rfl, hp, hs, few, sa, sb, ba, bb, q⟩ := h
    rfl
  · obtain ⟨p, s, t, L, f, A, B, rfl, hp, hs, few, sa, sb, ba, bb, q⟩ := h
    have nd := c__law_paper.nd
    have hu : _ := hu_of hr
    refine ⟨_, (pss_cons (ps_setLc (i := 3) (own := [("_law_c", 6)]) (g := (gName 6))  rfl nd rfl rfl (sw_true rfl rfl rfl (by decide +kernel)) (pi_list (pv 0)) (blkOk_by (own := [("_law_c", 6)]) (N := n__law_paper) (sc := defScope s__law_paper) (by decide +kernel)) (fun _ _ _ _ _ => by exact (pg_name (i := 6) nd rfl (.inl rfl))) (fun _ _ _ _ _ => by exact (pts_one (pt_val (pe_cl C__law_is_on (hr.mono (by decide)) (by rfl) pass0 (pa_cons (pv 1) (pa_cons (pv 2) (pa_cons (pv 6) pa_nil))))))) (fun _ _ _ _ _ => by exact (pv 6))) (pss_cons (ps_if (pt_cmpR (op_neD hr.units) (pv 3) (pe_lstG pa_nil) (nomark _)) (pss_one (ps_ret (pe_tupG (pa_cons (pe_ix ix_list (pv 3) pe_int (fun _ _ => rfl)) pa_nil)))) pss_nil) (pss_cons (ps_par (i := 4) (j := 5) (by rfl) nd rfl rfl (by decide) rfl rfl (pa_cons (pe_lc (own := [("_law_c", 6)]) (g := (gName 6))  rfl nd (pi_list (pv 0)) (blkOk_by (own := [("_law_c", 6)]) (N := n__law_paper) (sc := defScope s__law_paper) (by decide +kernel)) (fun _ _ _ _ _ => by exact (pg_name (i := 6) nd rfl (.inl rfl))) (fun _ _ _ _ _ => by exact (pts_one (pt_cmpR op_lt (pe_cl C__law_turn (hr.mono (by decide)) (by rfl) pass0 (pa_cons (pv 1) (pa_cons (pv 2) (pa_cons (pv 6) pa_nil)))) pe_int (nomark _)))) (fun _ _ _ _ _ => by exact (pv 6))) (pa_cons (pe_lc (own := [("_law_c", 6)]) (g := (gName 6))  rfl nd (pi_list (pv 0)) (blkOk_by (own := [("_law_c", 6)]) (N := n__law_paper) (sc := defScope s__law_paper) (by decide +kernel)) (fun _ _ _ _ _ => by exact (pg_name (i := 6) nd rfl (.inl rfl))) (fun _ _ _ _ _ => by exact (pts_one (pt_cmpR op_gt (pe_cl C__law_turn (hr.mono (by decide)) (by rfl) pass0 (pa_cons (pv 1) (pa_cons (pv 2) (pa_cons (pv 6) pa_nil)))) pe_int (nomark _)))) (fun _ _ _ _ _ => by exact (pv 6))) pa_nil)) (by rfl)) (pss_cons (ps_for PassesOwn.never rfl (pi_list (pv 4)) (pg_name (i := 6) nd rfl (.inl rfl)) (pss_cons (ps_set (i := 7) nd rfl (.inl rfl) (pe_cl C__law_centre (hr.mono (by decide)) (by rfl) pass0 (pa_cons (pv 1) (pa_cons (pv 2) (pa_cons (pv 6) pa_nil))))) (pss_one (ps_for PassesOwn.never rfl (pi_list (pv 5)) (pg_name (i := 8) nd rfl (.inl rfl)) (pss_one (ps_if (pt_cmpR op_le (pe_cl C__law_square (hr.mono (by decide)) (by rfl) pass0 (pa_cons (pv 7) (pa_cons (pv 8) pa_nil))) (pe_cl C__law_square (hr.mono (by decide)) (by rfl) pass0 (pa_cons (pv 7) (pa_cons (pv 1) pa_nil))) (nomark _)) (pss_one (ps_ret (pe_tupG (pa_cons (pv 6) (pa_cons (pv 8) pa_nil))))) pss_nil)))))) (pss_one (ps_ret pe_non)))))), ?_⟩
    repeat array_get_dec
    refine ⟨⟨_, SqL.of hp⟩, fun D nD => ?_⟩
    refine lc_fil (walk_list (xs := L.map V.ref)) nD (by rw [List.length_map]; omega) (fun H1 s1 => SqL.of (s1 _ _ hp)) (fun i => btwA f A B (L.getD i p)) (fun i => V.ref (L.getD i p)) (fun i x H1 H2 Kp Kn hi s1 eD yi fin finN => ?_) fun H1 s1 eD => ?_
    · obtain ⟨rfl, ex⟩ := yi
      rw [List.length_map] at hi
      have mi : L.getD i p ∈ L := by
        rw [List.getD_eq_getElem?_getD, List.getElem?_eq_getElem hi]
        exact List.getElem_mem hi
      have exx : x = V.ref (L.getD i p) := by
        rw [List.getElem?_map, List.getElem?_eq_getElem hi] at ex
        rw [List.getD_eq_getElem?_getD, List.getElem?_eq_getElem hi]
        exact (Option.some.inj ex).symm
      subst exx
      obtain ⟨hc, bc⟩ := hs _ mi
      repeat array_get_dec
      refine ⟨s, t, L.getD i p, A, B, f (L.getD i p), rfl, s1 _ _ sa, s1 _ _ sb, s1 _ _ hc, ba, bb, bc, fun H3 s3 => ?_⟩
      repeat array_get_dec
      cases w : btwA f A B (L.getD i p)
      · have w2 : decide (tn A B (f (L.getD i p)) = 0 ∧ dia A B (f (L.getD i p)) < 0) = false := w
        rw [w2]
        refine if_f rfl ?_
        exact finN _ w s3
      · have w2 : decide (tn A B (f (L.getD i p)) = 0 ∧ dia A B (f (L.getD i p)) < 0) = true := w
        rw [w2]
        refine if_t rfl ?_
        exact ⟨_, rfl, fin _ w s3⟩
    rw [List.length_map, range_fil] at eD
    have hp1 := s1 _ _ hp
    have hs1 := hs.same s1
    have sa1 := s1 _ _ sa
    have sb1 := s1 _ _ sb
    repeat array_get_dec
    refine fun E0' H2 s2 n2 e2 => ?_
    have S2 := s1.trans s2
    have hp2 := s2 _ _ hp1
    have hs2 := hs.same S2
    have sa2 := s2 _ _ sa1
    have sb2 := s2 _ _ sb1
    have eD2 := s2 _ _ eD
    refine w_neSs (f := f) (g := f) (us := []) eD2 (fun t m => (hs2 t (List.mem_filter.mp m).1).1) e2 (fun t m => nomatch m) ?_
    rcases hb : (L.filter (btwA f A B)).head? with _ | r0
    · have nil : L.filter (btwA f A B) = [] := List.head?_eq_none_iff.mp hb
      have pf : papF f A B L = match (rtA f A B L).find? fun c => (lfA f A B L).any (vio2 f A B c) with
        | none => none
        | some c => ((lfA f A B L).filter (vio2 f A B c)).head?.map fun d => [c, d] := by
        unfold papF
        rw [hb] <;> rfl
      rw [nil, decide_eq_true rfl]
      repeat array_get_dec
      refine ⟨⟨_, SqL.of hp2⟩, fun D2 nD2 => ?_⟩
      refine lc_fil (walk_list (xs := L.map V.ref)) nD2 (by rw [List.length_map]; omega) (fun H3 s3 => SqL.of (s3 _ _ hp2)) (fun i => decide (tn A B (f (L.getD i p)) < 0)) (fun i => V.ref (L.getD i p)) (fun i x H3 H4 Kp Kn hi s3 eD3 yi fin finN => ?_) fun H3 s3 eR => ?_
      · obtain ⟨rfl, ex⟩ := yi
        rw [List.length_map] at hi
        have mi : L.getD i p ∈ L := by
          rw [List.getD_eq_getElem?_getD, List.getElem?_eq_getElem hi]
          exact List.getElem_mem hi
        have exx : x = V.ref (L.getD i p) := by
          rw [List.getElem?_map, List.getElem?_eq_getElem hi] at ex
          rw [List.getD_eq_getElem?_getD, List.getElem?_eq_getElem hi]
          exact (Option.some.inj ex).symm
        subst exx
        obtain ⟨hc, bc⟩ := hs2 _ mi
        repeat array_get_dec
        refine ⟨s, t, L.getD i p, A.1, A.2, B.1, B.2, _, _, rfl, s3 _ _ sa2, s3 _ _ sb2, s3 _ _ hc, ba, bb, bc, ?_⟩
        repeat array_get_dec
        by_cases w : tn A B (f (L.getD i p)) < 0
        · refine w_dt w ?_
          exact ⟨_, rfl, fin _ (decide_eq_true w) (Same.refl _)⟩
        · refine w_df w ?_
          exact finN _ (decide_eq_false w) (Same.refl _)
      rw [List.length_map, range_fil L p fun c => decide (tn A B (f c) < 0)] at eR
      have eR : H3 D2 = some (.lst ((rtA f A B L).map V.ref)) := eR
      have hp3 := s3 _ _ hp2
      have hs3 := hs2.same s3
      have sa3 := s3 _ _ sa2
      have sb3 := s3 _ _ sb2
      repeat array_get_dec
      refine ⟨⟨_, SqL.of hp3⟩, fun D3 nD3 => ?_⟩
      refine lc_fil (walk_list (xs := L.map V.ref)) nD3 (by rw [List.length_map]; omega) (fun H4 s4 => SqL.of (s4 _ _ hp3)) (fun i => decide (0 < tn A B (f (L.getD i p)))) (fun i => V.ref (L.getD i p)) (fun i x H4 H5 Kp Kn hi s4 eD4 yi fin finN => ?_) fun H4 s4 eLf => ?_
      · obtain ⟨rfl, ex⟩ := yi
        rw [List.length_map] at hi
        have mi : L.getD i p ∈ L := by
          rw [List.getD_eq_getElem?_getD, List.getElem?_eq_getElem hi]
          exact List.getElem_mem hi
        have exx : x = V.ref (L.getD i p) := by
          rw [List.getElem?_map, List.getElem?_eq_getElem hi] at ex
          rw [List.getD_eq_getElem?_getD, List.getElem?_eq_getElem hi]
          exact (Option.some.inj ex).symm
        subst exx
        obtain ⟨hc, bc⟩ := hs3 _ mi
        repeat array_get_dec
        refine ⟨s, t, L.getD i p, A.1, A.2, B.1, B.2, _, _, rfl, s4 _ _ sa3, s4 _ _ sb3, s4 _ _ hc, ba, bb, bc, ?_⟩
        repeat array_get_dec
        by_cases w : 0 < tn A B (f (L.getD i p))
        · refine w_dt w ?_
          exact ⟨_, rfl, fin _ (decide_eq_true w) (Same.refl _)⟩
        · refine w_df w ?_
          exact finN _ (decide_eq_false w) (Same.refl _)
      rw [List.length_map, range_fil L p fun c => decide (0 < tn A B (f c))] at eLf
      have eLf : H4 D3 = some (.lst ((lfA f A B L).map V.ref)) := eLf
      have S4 := S2.trans (s3.trans s4)
      have hs4 := hs3.same s4
      have sa4 := s4 _ _ sa3
      have sb4 := s4 _ _ sb3
      have eR4 := s4 _ _ eR
      repeat array_get_dec
      refine ⟨⟨_, SqL.of eR4⟩, for_list (K := K) (a := D2) (xs := (rtA f A B L).map V.ref) (fun i σ' H' => ∃ (y6 y7 y8 : Option L2.V), σ' = [some (.ref p), some (.ref s), some (.ref t), some (.ref D), some (.ref D2), some (.ref D3), y6, y7, y8] ∧ Same H4 H' ∧ ∀ c ∈ (rtA f A B L).take i, (lfA f A B L).any (vio2 f A B c) = false) ⟨_, _, _, rfl, Same.refl _, fun c m => nomatch m⟩ (fun i σ' H' _ z => ?_) (fun i x σ' H' hx z => ?_) fun σ' H' z => ?_⟩
      · obtain ⟨_, _, _, _, sm, _⟩ := z
        exact SqL.of (sm _ _ eR4)
      · obtain ⟨y6, y7, y8, rfl, sm, no⟩ := z
        obtain ⟨c, ec, rfl, mc⟩ := ref_at hx
        have mcL : c ∈ L := (List.mem_filter.mp mc).1
        have tc : tn A B (f c) < 0 := of_decide_eq_true (List.mem_filter.mp mc).2
        obtain ⟨hc, bc⟩ := hs4 c mcL
        have tri0 : tri A.1 A.2 B.1 B.2 (f c).1 (f c).2 ≠ 0 := by
          show tn A B (f c) ≠ 0
          omega
        have six : Six A.1 A.2 B.1 B.2 (f c).1 (f c).2 := ⟨ba, bb, bc⟩
        obtain ⟨bX, bY, bD⟩ := (six.place tri0).bits
        repeat array_get_dec
        refine ⟨s, t, c, A.1, A.2, B.1, B.2, (f c).1, (f c).2, rfl, sm _ _ sa4, sm _ _ sb4, sm _ _ hc, six, tri0, fun q1 H5 s5 n5 e5 => ?_⟩
        have S5 := sm.trans s5
        have eL5 := S5 _ _ eLf
        repeat array_get_dec
        refine ⟨⟨_, SqL.of eL5⟩, for_list (K := K) (a := D3) (xs := (lfA f A B L).map V.ref) (fun j σ' H' => ∃ (y8 : Option L2.V), σ' = [some (.ref p), some (.ref s), some (.ref t), some (.ref D), some (.ref D2), some (.ref D3), some (.ref c), some (.ref q1), y8] ∧ H' = H5 ∧ ∀ d ∈ (lfA f A B L).take j, vio2 f A B c d = false) ⟨_, rfl, rfl, fun c m => nomatch m⟩ (fun j σ' H' _ z => ?_) (fun j x σ' H' hx2 z => ?_) fun σ' H' z => ?_⟩
        · obtain ⟨_, _, rfl, _⟩ := z
          exact SqL.of eL5
        · obtain ⟨y8, rfl, rfl, no2⟩ := z
          obtain ⟨d, ed, rfl, md⟩ := ref_at hx2
          have mdL : d ∈ L := (List.mem_filter.mp md).1
          obtain ⟨hd, bd⟩ := hs4 d mdL
          repeat array_get_dec
          refine ⟨q1, d, _, _, _, f d, rfl, e5, nbu bX (by decide), nbu bY (by decide), nbu bD (by decide), S5 _ _ hd, bd, ?_⟩
          repeat array_get_dec
          refine ⟨q1, s, _, _, _, A, rfl, e5, nbu bX (by decide), nbu bY (by decide), nbu bD (by decide), S5 _ _ sa4, ba, ?_⟩
          repeat array_get_dec
          have fv := far_vio (f := f) (A := A) (B := B) (c := c) (d := d) tc
          by_cases w : vio2 f A B c d = true
          · refine w_dt (fv.mpr w) ?_
            have ha : (lfA f A B L).any (vio2 f A B c) = true := List.any_eq_true.mpr ⟨d, md, w⟩
            have split {l : List Addr} {m : Nat} {x : Addr} (e : l[m]? = some x) : l = l.take m ++ x :: l.drop (m + 1) := by
              have ei := (List.getElem?_eq_some_iff.mp e)
              rw [← ei.2, List.getElem_cons_drop, List.take_append_drop]
            have fnd : ((rtA f A B L).find? fun c => (lfA f A B L).any (vio2 f A B c)) = some c := by
              rw [split ec, List.find?_append, List.find?_eq_none.mpr fun c m => by rw [no c m]; decide, List.find?_cons, ha]
              rfl
            have fil : ((lfA f A B L).filter (vio2 f A B c)).head? = some d := by
              rw [split ed, List.filter_append, List.filter_eq_nil_iff.mpr fun d m => by rw [no2 d m]; decide, List.nil_append, List.filter_cons_of_pos w]
              rfl
            repeat array_get_dec
            refine fun q2 H6 s6 n6 e6 => ?_
            refine q _ H6 (S4.trans (S5.trans s6)) ?_
            rw [pf, fnd]
            show PapV H6 _ (((lfA f A B L).filter (vio2 f A B c)).head?.map fun d => [c, d])
            rw [fil]
            exact ⟨q2, rfl, e6⟩
          · refine w_df (fun x => w (fv.mp x)) ?_
            repeat array_get_dec
            intro d2 m2
            rw [List.take_add_one, ed] at m2
            rcases List.mem_append.mp m2 with m2 | m2
            · exact no2 d2 m2
            · rw [List.mem_singleton.mp m2]
              exact Bool.eq_false_iff.mpr w
        · obtain ⟨y8, rfl, rfl, no2⟩ := z
          rw [List.take_of_length_le (by rw [List.length_map]; exact Nat.le_refl _)] at no2
          refine ⟨_, _, _, rfl, S5, fun c2 m2 => ?_⟩
          rw [List.take_add_one, ec] at m2
          rcases List.mem_append.mp m2 with m2 | m2
          · exact no c2 m2
          · rw [List.mem_singleton.mp m2]
            exact List.any_eq_false.mpr fun d m => by rw [no2 d m]; decide
      · obtain ⟨y6, y7, y8, rfl, sm, no⟩ := z
        rw [List.take_of_length_le (by rw [List.length_map]; exact Nat.le_refl _)] at no
        repeat array_get_dec
        refine q _ _ (S4.trans sm) ?_
        rw [pf, List.find?_eq_none.mpr fun c m => by rw [no c m]; decide]
        rfl
    · have nn : ¬ (L.filter (btwA f A B)).map f = ([] : List Addr).map f := fun w => by
        rw [List.map_nil, List.map_eq_nil_iff] at w
        rw [w] at hb
        cases hb
      have pf : papF f A B L = some [r0] := by
        unfold papF
        rw [hb]
      rw [decide_eq_false nn]
      repeat array_get_dec
      rw [List.head?_eq_getElem?] at hb
      refine ⟨D, _, 0, .ref r0, rfl, rfl, SqL.of eD2, atI_nat (j := 0) (by
        rw [List.getElem?_map, hb]
        rfl), ?_⟩
      repeat array_get_dec
      refine fun q1 H3 s3 n3 e3 => ?_
      exact q _ H3 (S2.trans s3) (by rw [pf]; exact ⟨q1, rfl, e3⟩)
end
/-! ### bounds as fractions in lowest terms -/
/-- n / d is T / M in lowest terms -/
structure Fra (T M n d : Int) : Prop where
  ex : ∃ g : Int, 0 < g ∧ g * n = T ∧ g * d = M
  low : Nat.gcd n.natAbs d.natAbs = 1
  pos : 0 < d
  bn : n.natAbs < 2 ^ 66
  bd : d.natAbs < 2 ^ 66
theorem fra_of {T M : Int} (hM : 0 < M) (bT : T.natAbs < 2 ^ 66) (bM : M.natAbs < 2 ^ 66) : Fra T M (T / gcf T M) (M / gcf T M) := by
  have g0 := gcf_pos (t := T) hM
  have gT : gcf T M ∣ T := Int.ofNat_dvd_left.mpr (Nat.gcd_dvd_left _ _)
  have gM : gcf T M ∣ M := Int.ofNat_dvd_left.mpr (Nat.gcd_dvd_right _ _)
  have eT := Int.mul_ediv_cancel' gT
  have eM := Int.mul_ediv_cancel' gM
  have ga : (gcf T M).natAbs = Nat.gcd T.natAbs M.natAbs := by
    unfold gcf
    exact Int.natAbs_natCast _
  generalize T / gcf T M = n at *
  generalize M / gcf T M = d at *
  generalize gcf T M = g at *
  have le (x y : Int) (e : g * x = y) : x.natAbs ≤ y.natAbs := by
    rw [← e, Int.natAbs_mul]
    exact Nat.le_mul_of_pos_left _ (by omega)
  refine ⟨⟨g, g0, eT, eM⟩, ?_, ?_, Nat.lt_of_le_of_lt (le _ _ eT) bT, Nat.lt_of_le_of_lt (le _ _ eM) bM⟩
  · have e : Nat.gcd T.natAbs M.natAbs = g.natAbs * Nat.gcd n.natAbs d.natAbs := by
      rw [← eT, ← eM, Int.natAbs_mul, Int.natAbs_mul, Nat.gcd_mul_left]
    rw [← ga] at e
    exact Nat.eq_of_mul_eq_mul_left (show 0 < g.natAbs by omega) (by omega)
  · rcases ltge 0 d with w | w
    · exact w
    · have := Int.mul_nonneg (Int.le_of_lt g0) (show 0 ≤ -d by omega)
      rw [Int.mul_neg] at this
      omega
section
variable {f : Addr → Pt} {A B : Pt} {ts : List Addr}
/-- the sites on one side -/
def sidA (f : Addr → Pt) (A B : Pt) (e : Int) (ts : List Addr) : List Addr := ts.filter fun t => decide (0 < tn A B (f t) * e)
theorem sidA_r : sidA f A B (-1) ts = rtA f A B ts := List.filter_congr fun t _ => decide_eq_decide.mpr (by rw [Int.mul_neg, Int.mul_one]; omega)
theorem sidA_l : sidA f A B 1 ts = lfA f A B ts := List.filter_congr fun t _ => decide_eq_decide.mpr (by rw [Int.mul_one])
/-- what a bound says of the sites on its side -/
theorem Fra.side {e n d : Int} {t c : Addr} {ws : List Addr} (l : LeastA f A B e ws t) (mc : c ∈ ws) (sg : e = 1 ∨ e = -1) (h : Fra (e * dia A B (f t)) (2 * (e * tn A B (f t))) n d) : 0 ≤ d * dia A B (f c) - 2 * n * tn A B (f c) ∧ d * dia A B (f t) - 2 * n * tn A B (f t) = 0 := by
  obtain ⟨g, g0, e1, e2⟩ := h.ex
  have k := l.2 c mc
  have z1 : g * (d * dia A B (f c) - 2 * n * tn A B (f c)) = 2 * (dia A B (f c) * (e * tn A B (f t)) - dia A B (f t) * (e * tn A B (f c))) := by
    have : g * (d * dia A B (f c) - 2 * n * tn A B (f c)) = (g * d) * dia A B (f c) - 2 * (g * n) * tn A B (f c) := by grind
    rw [this, e1, e2]
    grind
  have z2 : g * (d * dia A B (f t) - 2 * n * tn A B (f t)) = 0 := by
    have : g * (d * dia A B (f t) - 2 * n * tn A B (f t)) = (g * d) * dia A B (f t) - 2 * (g * n) * tn A B (f t) := by grind
    rw [this, e1, e2]
    grind
  refine ⟨?_, ?_⟩
  · rcases ltge (d * dia A B (f c) - 2 * n * tn A B (f c)) 0 with w | w
    · have := Int.mul_pos g0 (show 0 < -(d * dia A B (f c) - 2 * n * tn A B (f c)) by omega)
      rw [Int.mul_neg] at this
      omega
    · exact w
  · rcases Int.mul_eq_zero.mp z2 with w | w
    · omega
    · exact w
theorem two_least {R X L Y ar ax bl by' : Int} (h1 : 0 < ar) (h2 : 0 < ax) (h3 : 0 < bl) (h4 : 0 < by') (w : 0 < R * bl + L * ar) (kr : R * ax ≤ X * ar) (kl : L * by' ≤ Y * bl) : 0 < X * by' + Y * ax := by
  have m1 := Int.mul_pos (Int.mul_pos h2 h4) w
  have m2 := Int.mul_nonneg (show 0 ≤ X * ar - R * ax by omega) (Int.le_of_lt (Int.mul_pos h4 h3))
  have m3 := Int.mul_nonneg (show 0 ≤ Y * bl - L * by' by omega) (Int.le_of_lt (Int.mul_pos h2 h1))
  have e : (X * by' + Y * ax) * (ar * bl) = ax * by' * (R * bl + L * ar) + (X * ar - R * ax) * (by' * bl) + (Y * bl - L * by') * (ax * ar) := by grind
  exact of_mul_pos (by omega) (Int.mul_pos h1 h3)
/-- the middle of two bounds with room is off all circles -/
theorem mid_two {a b c d D N : Int} (hb : 0 < b) (hd : 0 < d) (lt : a * d < c * b) (N0 : N ≠ 0) (h1 : N < 0 → 0 ≤ b * D - 2 * a * N) (h2 : 0 < N → 0 ≤ d * D - 2 * c * N) : 0 < 2 * b * d * D - 2 * (a * d + c * b) * N := by
  have e : 2 * b * d * D - 2 * (a * d + c * b) * N = b * (d * D - 2 * c * N) + d * (b * D - 2 * a * N) := by grind
  have e2 : d * (b * D - 2 * a * N) - b * (d * D - 2 * c * N) = 2 * ((c * b - a * d) * N) := by grind
  rw [e]
  rcases ltge N 0 with w | w
  · have m1 := Int.mul_nonneg (Int.le_of_lt hd) (h1 w)
    have m2 := Int.mul_neg_of_pos_of_neg (show 0 < c * b - a * d by omega) w
    omega
  · have m1 := Int.mul_nonneg (Int.le_of_lt hb) (h2 (by omega))
    have m2 := Int.mul_pos (show 0 < c * b - a * d by omega) (show 0 < N by omega)
    omega
/-- two bounds leave room just if no two of both sides leave none -/
theorem room_two {r l : Addr} {a b c d : Int} (sr : ShB f A B (-1) (rtA f A B ts)) (sl : ShB f A B 1 (lfA f A B ts)) (hr : LeastA f A B (-1) (rtA f A B ts) r) (hl : LeastA f A B 1 (lfA f A B ts) l) (h1 : Fra (-1 * dia A B (f r)) (2 * (-1 * tn A B (f r))) a b) (h2 : Fra (1 * dia A B (f l)) (2 * (1 * tn A B (f l))) c d) :
    a * d < c * b ↔ ∀ x ∈ rtA f A B ts, ∀ y ∈ lfA f A B ts, vio2 f A B x y = false := by
  obtain ⟨g, g0, e1, e2⟩ := h1.ex
  obtain ⟨k, k0, e3, e4⟩ := h2.ex
  have one : (a * d < c * b) ↔ 0 < dia A B (f r) * tn A B (f l) - dia A B (f l) * tn A B (f r) := by
    have e5 : g * k * (c * b - a * d) = 2 * (dia A B (f r) * tn A B (f l) - dia A B (f l) * tn A B (f r)) := by
      have : g * k * (c * b - a * d) = (k * c) * (g * b) - (g * a) * (k * d) := by grind
      rw [this, e1, e2, e3, e4]
      grind
    have gk := Int.mul_pos g0 k0
    constructor
    · intro w
      have := Int.mul_pos gk (show 0 < c * b - a * d by omega)
      omega
    · intro w
      rcases ltge (a * d) (c * b) with z | z
      · exact z
      · have := Int.mul_nonneg (Int.le_of_lt gk) (show 0 ≤ -(c * b - a * d) by omega)
        rw [Int.mul_neg] at this
        omega
  rw [one]
  have ev (x y : Addr) : vio2 f A B x y = false ↔ 0 < dia A B (f x) * tn A B (f y) - dia A B (f y) * tn A B (f x) := by
    unfold vio2 vioA
    rw [decide_eq_false_iff_not, Int.one_mul, Int.neg_mul, Int.one_mul, Int.mul_neg]
    omega
  constructor
  · intro w x mx y my
    rw [ev]
    have kr := hr.2 x mx
    have kl := hl.2 y my
    have pr := (sr r hr.1).1
    have pl := (sl l hl.1).1
    have px := (sr x mx).1
    have py := (sl y my).1
    rw [Int.neg_mul, Int.one_mul] at pr px
    rw [Int.one_mul] at pl py
    rw [Int.neg_mul, Int.one_mul, Int.neg_mul, Int.one_mul] at kr
    rw [Int.one_mul, Int.one_mul] at kl
    have := two_least pr px pl py (by rw [Int.mul_neg]; omega) kr kl
    rw [Int.mul_neg] at this
    omega
  · intro h
    exact (ev r l).mp (h r hr.1 l hl.1)
end
/-! ### k14: the room -/
section
variable {P : Program} {w : World} {K : PySem.W.Frag} {mg : Str → Option Value} {base : Heap}
abbrev s__law_room_right : Stmt := topS 49
abbrev n__law_room_right : List Str := ["_law_sites_here", "_law_aa", "_law_bb", "_law_is_edge", "_law_heard", "_law_between", "_law_sides", "_law_k", "_law_bound", "_law_third", "_law_place_here", "_law_far", "_law_low", "_law_high", "_law_has_room", "_law_middle", "_law_reach", "_law_is_free", "_law_c"]
theorem c__law_room_right : FnScope n__law_room_right ["_law_sites_here", "_law_aa", "_law_bb", "_law_is_edge"] (defScope s__law_room_right) := ⟨rfl, rfl, rfl, by decide +kernel, rfl, by decide +kernel, by decide +kernel⟩
/-- there is room: no site between, no two leave none -/
def RmA (f : Addr → Pt) (A B : Pt) (ts : List Addr) : Prop := (∀ x ∈ ts, btwA f A B x = false) ∧ ∀ c ∈ rtA f A B ts, ∀ d ∈ lfA f A B ts, vio2 f A B c d = false
/-- a place of the line in the middle, off all circles if there is room -/
structure MidP (f : Addr → Pt) (A B : Pt) (ts : List Addr) (N D : Int) : Prop where
  pos : 0 < D
  bN : N.natAbs < 2 ^ 180
  bD : D.natAbs < 2 ^ 180
  off : (∀ c ∈ rtA f A B ts, ∀ d ∈ lfA f A B ts, vio2 f A B c d = false) → ∀ c ∈ ts, tn A B (f c) ≠ 0 → 0 < D * dia A B (f c) - 2 * N * tn A B (f c)
theorem FrV.fra {H : Hp} {f : Addr → Pt} {A B : Pt} {e : Int} {ws : List Addr} {v : V} (h : FrV H f A B e e ws v) (shb : ShB f A B e ws) (sg : e = 1 ∨ e = -1) : (v = .non ∧ ws = []) ∨ ∃ t q n d, LeastA f A B e ws t ∧ v = .ref q ∧ H q = some (.tup [.int n, .int d]) ∧ Fra (e * dia A B (f t)) (2 * (e * tn A B (f t))) n d := by
  rcases h with h | ⟨t, q, l, e1, e2⟩
  · exact .inl h
  · have pw := shb t l.1
    have bT : (e * dia A B (f t)).natAbs < 2 ^ 66 := by
      rcases sg with rfl | rfl
      · rw [Int.one_mul]; exact nbu pw.2.2 (by decide)
      · rw [Int.neg_mul, Int.one_mul, Int.natAbs_neg]; exact nbu pw.2.2 (by decide)
    have bM : (2 * (e * tn A B (f t))).natAbs < 2 ^ 66 := by
      have := pw.2.1
      omega
    exact .inr ⟨t, q, _, _, l, e1, e2, fra_of (by omega) bT bM⟩
/-- on the line and on the circle about the stretch: one of the two ends -/
theorem dia_zero {A B c : Pt} (z : tn A B c = 0) (k : dia A B c = 0) : c = A ∨ c = B := by
  have e : nrm A c * nrm c B = dia A B c * dia A B c + tn A B c * tn A B c := by
    unfold nrm dia tn
    grind
  rw [z, k] at e
  by_cases h1 : c = A
  · exact .inl h1
  by_cases h2 : c = B
  · exact .inr h2
  have := Int.mul_pos (nrm_pos (Ne.symm h1)) (nrm_pos h2)
  omega
theorem in_rt {f : Addr → Pt} {A B : Pt} {ts : List Addr} {c : Addr} (m : c ∈ ts) (h : tn A B (f c) < 0) : c ∈ rtA f A B ts := List.mem_filter.mpr ⟨m, decide_eq_true h⟩
theorem in_lf {f : Addr → Pt} {A B : Pt} {ts : List Addr} {c : Addr} (m : c ∈ ts) (h : 0 < tn A B (f c)) : c ∈ lfA f A B ts := List.mem_filter.mpr ⟨m, decide_eq_true h⟩
def p__law_room_right : Sp := fun vs H Q _ => ∃ (p s t : Addr) (ts : List Addr) (f : Addr → Pt) (A B : Pt) (e : Bool), vs = [.ref p, .ref s, .ref t, .bl e] ∧ Lot f H p ts ∧ Sit H s A.1 A.2 ∧ Sit H t B.1 B.2 ∧ A ∈ ts.map f ∧ B ∈ ts.map f ∧ A ≠ B ∧ (e = true ↔ RmA f A B ts) ∧ ∀ H', Same H H' → Q (.bl true) H'
set_option pp.maxSteps 300 in
theorem ok__law_room_right  (D : Df K mg "_law_room_right" s__law_room_right ["_law_sites_here", "_law_aa", "_law_bb", "_law_is_edge"]) (C_centres : Cl P w K mg base CX0 "centres" 4 ["sites", "a", "b"] (p_centres)) (C__law_turn : Cl P w K mg base CX0 "_law_turn" 1 ["_law_aa", "_law_bb", "_law_c"] ((sp3 K fun ax ay bx by' cx cy => .int (tri ax ay bx by' cx cy)))) (C__law_common : Cl P w K mg base CX0 "_law_common" 1 ["_law_aa", "_law_bb"] (spCom)) (C__law_square : Cl P w K mg base CX0 "_law_square" 1 ["_law_place_here", "_law_site"] (p__law_square)) (C__law_at : Cl P w K mg base CX0 "_law_at" 3 ["_law_aa", "_law_bb", "_law_n", "_law_d"] (p__law_at)) (C__law_is_on : Cl P w K mg base CX0 "_law_is_on" 2 ["_law_aa", "_law_bb", "_law_c"] (p__law_is_on)) (menumerate : mg "enumerate" = none) (mmin : mg "min" = none) : Cl P w K mg base CX0 "_law_room_right" 5 ["_law_sites_here", "_law_aa", "_law_bb", "_law_is_edge"] (p__law_room_right) := by
  refine D.cl fun f fd F => F.ok c__law_room_right (fun vs H Q E h => ?_) (fun cdv A outer s H vs Q E hr h => ?_)
  · obtain ⟨p, s, t, ts, f, A, B, e, rfl, hl, sa, sb, ma, mb, ne, rm, q⟩ := h
    rfl
  · obtain ⟨p, s, t, ts, f, A, B, e, rfl, hl, sa, sb, ma, mb, ne, rm, q⟩ := h
    have nd := c__law_room_right.nd
    have hu : _ := hu_of hr
    refine ⟨_, (pss_cons (ps_par (i := 4) (j := 5) (by rfl) nd rfl rfl (by decide) rfl rfl (pa_cons (pe_cl C_centres (hr.mono (by decide)) (by rfl) pass0 (pa_cons (pv 0) (pa_cons (pv 1) (pa_cons (pv 2) pa_nil)))) (pa_cons (pe_lc (own := [("_law_c", 18)]) (g := (gName 18))  rfl nd (pi_list (pv 0)) (blkOk_by (own := [("_law_c", 18)]) (N := n__law_room_right) (sc := defScope s__law_room_right) (by decide +kernel)) (fun _ _ _ _ _ => by exact (pg_name (i := 18) nd rfl (.inl rfl))) (fun _ _ _ _ _ => by exact (pts_one (pt_val (pe_cl C__law_is_on (hr.mono (by decide)) (by rfl) pass0 (pa_cons (pv 1) (pa_cons (pv 2) (pa_cons (pv 18) pa_nil))))))) (fun _ _ _ _ _ => by exact (pv 18))) pa_nil)) (by rfl)) (pss_cons (ps_if (pt_cmpR op_ne (pe_cmpR op_isN (pv 4) pe_non (nomark _)) (pe_cmpR (op_neD hr.units) (pv 5) (pe_lstG pa_nil) (nomark _)) (nomark _)) (pss_one (ps_ret pe_bl)) pss_nil) (pss_cons (ps_if (pt_cmpR op_isN (pv 4) pe_non (nomark _)) (pss_one (ps_ret pe_bl)) pss_nil) (pss_cons (ps_set (i := 6) nd rfl (.inr rfl) (pe_lstG (pa_cons pe_neg (pa_cons pe_int pa_nil)))) (pss_cons (ps_for PassesOwn.never rfl (pi_enT (by rfl) menumerate (pa_cons (pv 4) pa_nil)) (pg_tup (by rfl) (pgs_cons (pg_name (i := 7) nd rfl (.inr rfl)) (pgs_cons (pg_name (i := 8) nd rfl (.inl rfl)) pgs_nil))) (pss_cons (ps_setLc (i := 9) (own := [("_law_c", 18)]) (g := (gName 18))  rfl nd rfl rfl (sw_true rfl rfl rfl (by decide +kernel)) (pi_list (pv 0)) (blkOk_by (own := [("_law_c", 18)]) (N := n__law_room_right) (sc := defScope s__law_room_right) (by decide +kernel)) (fun _ _ _ _ _ => by exact (pg_name (i := 18) nd rfl (.inl rfl))) (fun _ _ _ _ _ => by exact (pts_one (pt_cmpR op_gt (pe_op op_mulW (pe_cl C__law_turn (hr.mono (by decide)) (by rfl) pass0 (pa_cons (pv 1) (pa_cons (pv 2) (pa_cons (pv 18) pa_nil)))) (pe_ix (r := rIxL K) (by exact ix_list) (pv 6) (pv 7) (fun _ _ => rfl))) pe_int (nomark _)))) (fun _ _ _ _ _ => by exact (pv 18))) (pss_cons (ps_if (PW.pt (pw_or (PW.pt (pw_and (pt_cmpR op_isN (pv 8) pe_non (nomark _)) (pw_and1 (pt_cmpR (op_neD hr.units) (pv 9) (pe_lstG pa_nil) (nomark _))))) (pw_or1 (PW.pt (pw_and (pt_cmpR op_notN (pv 8) pe_non (nomark _)) (pw_and1 (pt_cmpR (op_eqD hr.units) (pv 9) (pe_lstG pa_nil) (nomark _)))))))) (pss_one (ps_ret pe_bl)) pss_nil) (pss_one (ps_if (pt_cmpR op_notN (pv 8) pe_non (nomark _)) (pss_cons (ps_set (i := 10) nd rfl (.inr rfl) (pe_cl C__law_at (hr.mono (by decide)) (by rfl) pass0 (pa_cons (pv 1) (pa_cons (pv 2) (pa_cons (pe_ix ix_tup (pv 8) pe_int (fun _ _ => rfl)) (pa_cons (pe_ix ix_tup (pv 8) pe_int (fun _ _ => rfl)) pa_nil)))))) (pss_cons (ps_set (i := 11) nd rfl (.inl rfl) (pe_callB (id := "min") (r := rMin K) (by exact (cr_min rfl)) (by rfl) mmin (by decide +kernel) (pa_cons (pe_lc (own := [("_law_c", 18)]) (g := (gName 18)) (tt := tYes)  rfl nd (pi_list (pv 9)) (blkOk_by (own := [("_law_c", 18)]) (N := n__law_room_right) (sc := defScope s__law_room_right) (by decide +kernel)) (fun _ _ _ _ _ => by exact (pg_name (i := 18) nd rfl (.inl rfl))) (fun _ _ _ _ _ => by exact pts_nil) (fun _ _ _ _ _ => by exact (pe_cl C__law_square (hr.mono (by decide)) (by rfl) pass0 (pa_cons (pv 10) (pa_cons (pv 18) pa_nil))))) pa_nil))) (pss_one (ps_if (PW.pt (pw_or (pt_cmpR op_lt (pe_ix ix_tup (pv 8) pe_int (fun _ _ => rfl)) pe_int (nomark _)) (pw_or (pt_cmpR op_ne (pe_cl C__law_common (hr.mono (by decide)) (by rfl) pass0 (pa_cons (pe_ix ix_tup (pv 8) pe_int (fun _ _ => rfl)) (pa_cons (pe_ix ix_tup (pv 8) pe_int (fun _ _ => rfl)) pa_nil))) pe_int (nomark _)) (pw_or1 (pt_cmpR op_ne (pv 11) (pe_cl C__law_square (hr.mono (by decide)) (by rfl) pass0 (pa_cons (pv 10) (pa_cons (pv 1) pa_nil))) (nomark _)))))) (pss_one (ps_ret pe_bl)) pss_nil)))) pss_nil))))) (pss_cons (ps_asg (pv 4) (pg_tup (by rfl) (pgs_cons (pg_name (i := 12) nd rfl (.inl rfl)) (pgs_cons (pg_name (i := 13) nd rfl (.inl rfl)) pgs_nil)))) (C8.pss_cut (ps_if (PW.pt (pw_or (pt_cmpR op_isN (pv 12) pe_non (nomark _)) (pw_or1 (pt_cmpR op_isN (pv 13) pe_non (nomark _))))) (pss_one (ps_asg (pe_tupG (pa_cons pe_bl (pa_cons pe_non pa_nil))) (pg_tup (by rfl) (pgs_cons (pg_name (i := 14) nd rfl (.inl rfl)) (pgs_cons (pg_name (i := 15) nd rfl (.inl rfl)) pgs_nil))))) (pss_cons (ps_set (i := 14) nd rfl (.inl rfl) (pe_cmpR op_lt (pe_op op_mulW (pe_ix ix_tup (pv 12) pe_int (fun _ _ => rfl)) (pe_ix ix_tup (pv 13) pe_int (fun _ _ => rfl))) (pe_op op_mulW (pe_ix ix_tup (pv 13) pe_int (fun _ _ => rfl)) (pe_ix ix_tup (pv 12) pe_int (fun _ _ => rfl))) (nomark _))) (pss_one (ps_set (i := 15) nd rfl (.inl rfl) (pe_tupG (pa_cons (pe_op op_add (pe_op op_mulW (pe_ix ix_tup (pv 12) pe_int (fun _ _ => rfl)) (pe_ix ix_tup (pv 13) pe_int (fun _ _ => rfl))) (pe_op op_mulW (pe_ix ix_tup (pv 13) pe_int (fun _ _ => rfl)) (pe_ix ix_tup (pv 12) pe_int (fun _ _ => rfl)))) (pa_cons (pe_op op_mulW (pe_op op_mulW pe_int (pe_ix ix_tup (pv 12) pe_int (fun _ _ => rfl))) (pe_ix ix_tup (pv 13) pe_int (fun _ _ => rfl))) pa_nil))))))) (C8.pss_cut (ps_if (pt_cmpR op_isN (pv 15) pe_non (nomark _)) (pss_cons (ps_set (i := 15) nd rfl (.inl rfl) (pe_tupG (pa_cons pe_int (pa_cons pe_int pa_nil)))) (pss_cons (ps_set (i := 15) nd rfl (.inl rfl) (pe_ifExp (pt_cmpR op_notN (pv 12) pe_non (nomark _)) (pe_tupG (pa_cons (pe_op op_add (pe_ix ix_tup (pv 12) pe_int (fun _ _ => rfl)) (pe_ix ix_tup (pv 12) pe_int (fun _ _ => rfl))) (pa_cons (pe_ix ix_tup (pv 12) pe_int (fun _ _ => rfl)) pa_nil))) (pv 15))) (pss_one (ps_set (i := 15) nd rfl (.inl rfl) (pe_ifExp (pt_cmpR op_notN (pv 13) pe_non (nomark _)) (pe_tupG (pa_cons (pe_op op_sub (pe_ix ix_tup (pv 13) pe_int (fun _ _ => rfl)) (pe_ix ix_tup (pv 13) pe_int (fun _ _ => rfl))) (pa_cons (pe_ix ix_tup (pv 13) pe_int (fun _ _ => rfl)) pa_nil))) (pv 15)))))) pss_nil) (pss_cons (ps_set (i := 10) nd rfl (.inr rfl) (pe_cl C__law_at (hr.mono (by decide)) (by rfl) pass0 (pa_cons (pv 1) (pa_cons (pv 2) (pa_cons (pe_ix ix_tup (pv 15) pe_int (fun _ _ => rfl)) (pa_cons (pe_ix ix_tup (pv 15) pe_int (fun _ _ => rfl)) pa_nil)))))) (pss_cons (ps_set (i := 16) nd rfl (.inr rfl) (pe_cl C__law_square (hr.mono (by decide)) (by rfl) pass0 (pa_cons (pv 10) (pa_cons (pv 1) pa_nil)))) (pss_cons (ps_set (i := 17) nd rfl (.inl rfl) (pe_cmpR (op_eqD hr.units) (pe_lc (own := [("_law_c", 18)]) (g := (gName 18))  rfl nd (pi_list (pv 0)) (blkOk_by (own := [("_law_c", 18)]) (N := n__law_room_right) (sc := defScope s__law_room_right) (by decide +kernel)) (fun _ _ _ _ _ => by exact (pg_name (i := 18) nd rfl (.inl rfl))) (fun _ _ _ _ _ => by exact (pts_one (PW.pt (pw_and (by exact (pt_cmpR (r := rNotInTD K) (by exact op_notInTD (u65 hr)) (pv 18) (pe_tupG (pa_cons (pv 1) (pa_cons (pv 2) pa_nil))) rfl)) (pw_and1 (by exact (pt_cmpR op_le (pe_cl C__law_square (hr.mono (by decide)) (by rfl) pass0 (pa_cons (pv 10) (pa_cons (pv 18) pa_nil))) (pv 16) (nomark _)))))))) (fun _ _ _ _ _ => by exact (pv 18))) (pe_lstG pa_nil) (nomark _))) (pss_one (ps_ret (pe_and (pe_cmpR op_eq (pv 14) (pv 3) (nomark _)) (pe_one (pe_or (pv 17) (pe_one (pe_not (pv 3))))))))))))))))))), ?_⟩
    have few := hl.few
    have ba := hl.sit.bd ma
    have bb := hl.sit.bd mb
    repeat array_get_dec
    refine ⟨p, s, t, ts, f, A, B, rfl, hl, sa, sb, ma, mb, ne, fun H1 s1 ex => ?_, fun q1 lo hi H1 s1 n1 no e1 flo fhi => ?_⟩
    · have hl1 := hl.same s1
      have sa1 := s1 _ _ sa
      have sb1 := s1 _ _ sb
      repeat array_get_dec
      refine ⟨⟨_, SqL.of hl1.at_⟩, fun D nD => ?_⟩
      refine lc_fil (walk_list (xs := ts.map V.ref)) nD (by rw [List.length_map]; omega) (fun Hx sx => SqL.of (sx _ _ hl1.at_)) (fun jx => (btwA f A B) (ts.getD jx p)) (fun jx => V.ref (ts.getD jx p)) (fun jx x Hx Hy Kp Kn hij sx eDx yi fin finN => ?_) fun Hc sc eD => ?_
      · obtain ⟨rfl, exj⟩ := yi
        rw [List.length_map] at hij
        have mi : ts.getD jx p ∈ ts := by
          rw [List.getD_eq_getElem?_getD, List.getElem?_eq_getElem hij]
          exact List.getElem_mem hij
        have exx : x = V.ref (ts.getD jx p) := by
          rw [List.getElem?_map, List.getElem?_eq_getElem hij] at exj
          rw [List.getD_eq_getElem?_getD, List.getElem?_eq_getElem hij]
          exact (Option.some.inj exj).symm
        subst exx
        have hlx := hl1.same sx
        obtain ⟨hc, bc⟩ := hlx.sit _ mi
        have sax := sx _ _ sa1
        have sbx := sx _ _ sb1
        repeat array_get_dec
        refine ⟨s, t, ts.getD jx p, A, B, f (ts.getD jx p), rfl, sax, sbx, hc, ba, bb, bc, fun H3 s3 => ?_⟩
        repeat array_get_dec
        cases w : btwA f A B (ts.getD jx p)
        · have w2 : decide (tn A B (f (ts.getD jx p)) = 0 ∧ dia A B (f (ts.getD jx p)) < 0) = false := w
          rw [w2]
          refine if_f rfl ?_
          exact finN _ w s3
        · have w2 : decide (tn A B (f (ts.getD jx p)) = 0 ∧ dia A B (f (ts.getD jx p)) < 0) = true := w
          rw [w2]
          refine if_t rfl ?_
          exact ⟨_, rfl, fin _ w s3⟩
      rw [List.length_map, range_fil ts p (btwA f A B)] at eD
      have hlc := hl1.same sc
      repeat array_get_dec
      refine fun E0' H2 s2 n2 e2 => ?_
      have hl2 := hlc.same s2
      refine w_neSs (f := f) (g := f) (us := []) (s2 _ _ eD) (fun t m => (hl2.sit t (List.mem_filter.mp m).1).1) e2 (fun t m => nomatch m) ?_
      have nn : ¬ (ts.filter (btwA f A B)).map f = ([] : List Addr).map f := fun w => by
        rw [List.map_nil, List.map_eq_nil_iff] at w
        obtain ⟨x, mx, hx⟩ := ex
        exact absurd (List.mem_filter.mpr ⟨mx, hx⟩) (by rw [w]; exact List.not_mem_nil)
      rw [decide_eq_false nn]
      repeat array_get_dec
      refine if_t (B := True) rfl ?_
      exact q _ (s1.trans (sc.trans s2))
    have hl1 := hl.same s1
    have sa1 := s1 _ _ sa
    have sb1 := s1 _ _ sb
    repeat array_get_dec
    refine ⟨⟨_, SqL.of hl1.at_⟩, fun D nD => ?_⟩
    refine lc_fil (walk_list (xs := ts.map V.ref)) nD (by rw [List.length_map]; omega) (fun Hx sx => SqL.of (sx _ _ hl1.at_)) (fun jx => (btwA f A B) (ts.getD jx p)) (fun jx => V.ref (ts.getD jx p)) (fun jx x Hx Hy Kp Kn hij sx eDx yi fin finN => ?_) fun Hc sc eD => ?_
    · obtain ⟨rfl, exj⟩ := yi
      rw [List.length_map] at hij
      have mi : ts.getD jx p ∈ ts := by
        rw [List.getD_eq_getElem?_getD, List.getElem?_eq_getElem hij]
        exact List.getElem_mem hij
      have exx : x = V.ref (ts.getD jx p) := by
        rw [List.getElem?_map, List.getElem?_eq_getElem hij] at exj
        rw [List.getD_eq_getElem?_getD, List.getElem?_eq_getElem hij]
        exact (Option.some.inj exj).symm
      subst exx
      have hlx := hl1.same sx
      obtain ⟨hc, bc⟩ := hlx.sit _ mi
      have sax := sx _ _ sa1
      have sbx := sx _ _ sb1
      repeat array_get_dec
      refine ⟨s, t, ts.getD jx p, A, B, f (ts.getD jx p), rfl, sax, sbx, hc, ba, bb, bc, fun H3 s3 => ?_⟩
      repeat array_get_dec
      cases w : btwA f A B (ts.getD jx p)
      · have w2 : decide (tn A B (f (ts.getD jx p)) = 0 ∧ dia A B (f (ts.getD jx p)) < 0) = false := w
        rw [w2]
        refine if_f rfl ?_
        exact finN _ w s3
      · have w2 : decide (tn A B (f (ts.getD jx p)) = 0 ∧ dia A B (f (ts.getD jx p)) < 0) = true := w
        rw [w2]
        refine if_t rfl ?_
        exact ⟨_, rfl, fin _ w s3⟩
    rw [List.length_map, range_fil ts p (btwA f A B)] at eD
    have hlc := hl1.same sc
    repeat array_get_dec
    refine fun E0' H2 s2 n2 e2 => ?_
    have hl2 := hlc.same s2
    have nil : ts.filter (btwA f A B) = [] := List.filter_eq_nil_iff.mpr fun x m => by rw [no x m]; decide
    rw [nil] at eD
    refine w_neSs (f := f) (g := f) (ts := []) (us := []) (s2 _ _ eD) (fun t m => nomatch m) e2 (fun t m => nomatch m) ?_
    rw [decide_eq_true rfl]
    repeat array_get_dec
    refine fun sd H3 s3 n3 e3 => ?_
    have hl3 := hl2.same s3
    have S13 := sc.trans (s2.trans s3)
    have sa3 := S13 _ _ sa1
    have sb3 := S13 _ _ sb1
    have eq3 := S13 _ _ e1
    have flo3 := flo.same S13
    have fhi3 := fhi.same S13
    have sbl := shb_l hl.sit ma mb
    have sbr := shb_r hl.sit ma mb
    repeat array_get_dec
    refine ⟨q1, [lo, hi], rfl, SqT.of eq3, for_it (walk_enT (xs := [lo, hi])) (fun i σ' H' => (∃ y7 y8 y9 y10 y11 : Option L2.V, σ' = [some (.ref p), some (.ref s), some (.ref t), some (.bl e), some (.ref q1), some (.ref D), some (.ref sd), y7, y8, y9, y10, y11, none, none, none, none, none, none, none]) ∧ Same H3 H') ⟨⟨_, _, _, _, _, rfl⟩, Same.refl _⟩ (fun i σ' H' _ z => SqT.of (z.2 _ _ eq3)) (fun i x σ' H' H5 hi2 z y => ?_) fun σ' H' z => ?_⟩
    · obtain ⟨⟨y7, y8, y9, y10, y11, rfl⟩, s4⟩ := z
      obtain ⟨T, x1, x2, rfl, nT, rfl, hx1, hx2⟩ := y
      cases hx1
      obtain ⟨es, sg, ats, frv, shb⟩ : ∃ es : Int, (es = 1 ∨ es = -1) ∧ atI [V.int (-1), V.int 1] (i : Int) = some (.int es) ∧ FrV H3 f A B es es (sidA f A B es ts) x2 ∧ ShB f A B es (sidA f A B es ts) := by
        have i2 : i < 2 := hi2
        rcases (show i = 0 ∨ i = 1 by omega) with rfl | rfl
        · cases hx2
          exact ⟨-1, .inr rfl, rfl, by rw [sidA_r]; exact flo3, by rw [sidA_r]; exact sbr⟩
        · cases hx2
          exact ⟨1, .inl rfl, rfl, by rw [sidA_l]; exact fhi3, by rw [sidA_l]; exact sbl⟩
      have bes : es.natAbs < 2 ^ 64 := by
        rcases sg with rfl | rfl <;> decide
      have sT : Same H' (upd H' T (.tup [.int (i : Nat), x2])) := same_new nT
      have eT : upd H' T (.tup [.int (i : Nat), x2]) T = some (.tup [.int (i : Nat), x2]) := upd_same
      generalize upd H' T (.tup [.int (i : Nat), x2]) = H5 at sT eT ⊢
      have s5 := s4.trans sT
      have hl5 := hl3.same s5
      have sa5 := s5 _ _ sa3
      have sb5 := s5 _ _ sb3
      have e5 := s5 _ _ e3
      have frv5 := frv.same s5
      refine ⟨T, _, rfl, SqT.of eT, rfl, ?_⟩
      repeat array_get_dec
      refine ⟨⟨_, SqL.of hl5.at_⟩, fun D3 nD3 => ?_⟩
      refine lc_fil (walk_list (xs := ts.map V.ref)) nD3 (by rw [List.length_map]; omega) (fun Hx sx => SqL.of (sx _ _ hl5.at_)) (fun jx => (fun c => decide (0 < tn A B (f c) * es)) (ts.getD jx p)) (fun jx => V.ref (ts.getD jx p)) (fun jx x Hx Hy Kp Kn hij sx eDx yi fin finN => ?_) fun Hc sc eD => ?_
      · obtain ⟨rfl, exj⟩ := yi
        rw [List.length_map] at hij
        have mi : ts.getD jx p ∈ ts := by
          rw [List.getD_eq_getElem?_getD, List.getElem?_eq_getElem hij]
          exact List.getElem_mem hij
        have exx : x = V.ref (ts.getD jx p) := by
          rw [List.getElem?_map, List.getElem?_eq_getElem hij] at exj
          rw [List.getD_eq_getElem?_getD, List.getElem?_eq_getElem hij]
          exact (Option.some.inj exj).symm
        subst exx
        have hlx := hl5.same sx
        obtain ⟨hc, bc⟩ := hlx.sit _ mi
        have sax := sx _ _ sa5
        have sbx := sx _ _ sb5
        repeat array_get_dec
        refine ⟨s, t, ts.getD jx p, A.1, A.2, B.1, B.2, _, _, rfl, sax, sbx, hc, ba, bb, bc, ?_⟩
        repeat array_get_dec
        have bt : (tri A.1 A.2 B.1 B.2 (f (ts.getD jx p)).1 (f (ts.getD jx p)).2).natAbs < 2 ^ 64 := tn_lt ba bb bc
        refine ⟨sd, _, _, _, rfl, rfl, SqL.of (sx _ _ e5), ats, ?_⟩
        repeat array_get_dec
        by_cases w : 0 < tn A B (f (ts.getD jx p)) * es
        · refine w_dt w ?_
          exact ⟨_, rfl, fin _ (decide_eq_true w) (Same.refl _)⟩
        · refine w_df w ?_
          exact finN _ (decide_eq_false w) (Same.refl _)
      rw [List.length_map, range_fil ts p (fun c => decide (0 < tn A B (f c) * es))] at eD
      have eD : Hc D3 = some (.lst ((sidA f A B es ts).map V.ref)) := eD
      have hlc := hl5.same sc
      have sac := sc _ _ sa5
      have sbc := sc _ _ sb5
      have mem3 : ∀ c ∈ sidA f A B es ts, c ∈ ts := fun c m => (List.mem_filter.mp m).1
      rcases frv5.same sc with ⟨rfl, nil⟩ | ⟨t0, q2, lst, rfl, eq2⟩
      · rw [nil] at eD
        repeat array_get_dec
        refine fun E1 H6 s6 n6 e6 => ?_
        refine w_neSs (f := f) (g := f) (ts := []) (us := []) (s6 _ _ eD) (fun _ m => nomatch m) e6 (fun _ m => nomatch m) ?_
        rw [decide_eq_true rfl]
        repeat array_get_dec
        refine if_f (A := True) rfl ?_
        exact ⟨⟨_, _, _, _, _, rfl⟩, (s5.trans sc).trans s6⟩
      · have S3c : Same H3 Hc := s5.trans sc
        have pw := shb t0 lst.1
        have bT : (es * dia A B (f t0)).natAbs < 2 ^ 66 := by
          rcases sg with rfl | rfl
          · rw [Int.one_mul]; exact nbu pw.2.2 (by decide)
          · rw [Int.neg_mul, Int.one_mul, Int.natAbs_neg]; exact nbu pw.2.2 (by decide)
        have bM : (2 * (es * tn A B (f t0))).natAbs < 2 ^ 66 := by
          have := pw.2.1
          omega
        have fr := fra_of (T := es * dia A B (f t0)) (M := 2 * (es * tn A B (f t0))) (by omega) bT bM
        generalize es * dia A B (f t0) / gcf (es * dia A B (f t0)) (2 * (es * tn A B (f t0))) = n at eq2 fr
        generalize 2 * (es * tn A B (f t0)) / gcf (es * dia A B (f t0)) (2 * (es * tn A B (f t0))) = d at eq2 fr
        repeat array_get_dec
        refine fun E1 H6 s6 n6 e6 => ?_
        have hl6 := hlc.same s6
        have sa6 := s6 _ _ sac
        have sb6 := s6 _ _ sbc
        have eq6 := s6 _ _ eq2
        have eD6 := s6 _ _ eD
        have nn : ¬ (sidA f A B es ts).map f = ([] : List Addr).map f := fun w => by
          rw [List.map_nil, List.map_eq_nil_iff] at w
          have := lst.1
          rw [w] at this
          exact nomatch this
        refine w_eqSs (f := f) (g := f) (us := []) eD6 (fun c m => (hl6.sit c (mem3 c m)).1) e6 (fun _ m => nomatch m) ?_
        rw [decide_eq_false nn]
        repeat array_get_dec
        refine ⟨s, t, A, B, n, d, rfl, sa6, sb6, ba, bb, nbu fr.bn (by decide), nbu fr.bd (by decide), fr.pos, fun q3 X Y D' H7 s7 n7 e7 om => ?_⟩
        have eD7 := s7 _ _ eD6
        have hl7 := hl6.same s7
        have eq7 := s7 _ _ eq6
        repeat array_get_dec
        refine ⟨⟨_, SqL.of eD7⟩, fun D4 nD4 => ?_⟩
        refine lc_val (walk_list (xs := (sidA f A B es ts).map V.ref)) nD4 (by
          rw [List.length_map]
          have : (sidA f A B es ts).length ≤ ts.length := List.length_filter_le _ _
          omega) (fun H8 s8 => SqL.of (s8 _ _ eD7)) ((sidA f A B es ts).map fun c => V.int (spread X Y D' (f c).1 (f c).2)) (by rw [List.length_map, List.length_map]) (fun k x y H8 H9 Kp ey s8 eDx yi fin => ?_) fun H8 s8 e8 => ?_
        · obtain ⟨rfl, exj⟩ := yi
          rw [List.getElem?_map] at ey exj
          obtain ⟨c, ec, rfl⟩ := Option.map_eq_some_iff.mp ey
          rw [ec] at exj
          cases exj
          have mc := mem3 c (List.mem_of_getElem? ec)
          obtain ⟨hc, bc⟩ := hl7.sit c mc
          refine ⟨rfl, ?_⟩
          repeat array_get_dec
          refine ⟨q3, c, X, Y, D', f c, rfl, s8 _ _ e7, om.bX, om.bY, om.bD, s8 _ _ hc, bc, ?_⟩
          exact fin _ (Same.refl _)
        have sa8 := s8 _ _ (s7 _ _ sa6)
        have e78 := s8 _ _ e7
        have eq8 := s8 _ _ eq7
        repeat array_get_dec
        refine ⟨D4, (sidA f A B es ts).map fun c => spread X Y D' (f c).1 (f c).2, rfl, SqL.of (by rw [List.map_map]; exact e8), by rw [List.length_map]; exact List.length_pos_of_mem lst.1, fun m mm mle => ?_⟩
        have em : m = spread X Y D' A.1 A.2 := by
          obtain ⟨c, mc, rfl⟩ := List.mem_map.mp mm
          have h1 := (mid_ge fr.pos om (f c)).mpr (fr.side lst mc sg).1
          have h2 := (mid_le fr.pos om (f t0)).mpr (by have := (fr.side lst lst.1 sg).2; omega)
          have h3 := mle _ (List.mem_map.mpr ⟨t0, lst.1, rfl⟩)
          omega
        have dpos := fr.pos
        have dlow := fr.low
        repeat array_get_dec
        refine ⟨q3, s, X, Y, D', A, rfl, e78, om.bX, om.bY, om.bD, sa8, ba, ?_⟩
        rw [← em]
        repeat array_get_dec
        exact ⟨⟨_, _, _, _, _, rfl⟩, S3c.trans (s6.trans (s7.trans s8))⟩
    · obtain ⟨⟨y7, y8, y9, y10, y11, rfl⟩, s4⟩ := z
      have eq4 := s4 _ _ eq3
      have hl4 := hl3.same s4
      have sa4 := s4 _ _ sa3
      have sb4 := s4 _ _ sb3
      have frl := (flo3.same s4).fra sbr (.inr rfl)
      have frh := (fhi3.same s4).fra sbl (.inl rfl)
      repeat array_get_dec
      refine ⟨fun σ' Hc => ∃ (hb : Bool) (md : V), σ' = [some (.ref p), some (.ref s), some (.ref t), some (.bl e), some (.ref q1), some (.ref D), some (.ref sd), y7, y8, y9, y10, y11, some lo, some hi, some (.bl hb), some md, none, none, none] ∧ Same H' Hc ∧ (hb = true ↔ ∀ c ∈ rtA f A B ts, ∀ d ∈ lfA f A B ts, vio2 f A B c d = false) ∧ ((md = .non ∧ (lo = .non ∨ hi = .non)) ∨ ∃ m N Dd, md = .ref m ∧ Hc m = some (.tup [.int N, .int Dd]) ∧ MidP f A B ts N Dd), ?_, ?_⟩
      · rcases frl with ⟨rfl, nl⟩ | ⟨r0, ql, n1', d1, lr, rfl, el, fl⟩
        · repeat array_get_dec
          refine fun u H6 s6 n6 e6 => ?_
          repeat array_get_dec
          exact ⟨s6, ⟨fun _ c m => by rw [nl] at m; exact (nomatch m), fun _ => rfl⟩, .inl ⟨rfl, .inl rfl⟩⟩
        · rcases frh with ⟨rfl, nh⟩ | ⟨l0, qh, n2', d2, ll, rfl, eh, fh⟩
          · repeat array_get_dec
            refine fun u H6 s6 n6 e6 => ?_
            repeat array_get_dec
            exact ⟨s6, ⟨fun _ c m d m2 => by rw [nh] at m2; exact (nomatch m2), fun _ => rfl⟩, .inl ⟨rfl, .inr rfl⟩⟩
          · have b1 := nbu (k := 180) fl.bn (by decide)
            have b2 := nbu (k := 180) fl.bd (by decide)
            have b3 := nbu (k := 180) fh.bn (by decide)
            have b4 := nbu (k := 180) fh.bd (by decide)
            have c1 := fl.bn
            have c2 := fl.bd
            have c3 := fh.bn
            have c4 := fh.bd
            have two := room_two sbr sbl lr ll fl fh
            repeat array_get_dec
            refine fun u H6 s6 n6 e6 => ?_
            repeat array_get_dec
            refine ⟨s6, by rw [decide_eq_true_eq]; exact two, .inr ⟨u, n1' * d2 + n2' * d1, 2 * d1 * d2, rfl, e6, Int.mul_pos (by have := fl.pos; omega) fh.pos, by array_mem_dec, nbm (k := 180) (nbu (show (2 * d1).natAbs < 2 ^ 67 by omega) (by decide)) (nbu c4 (by decide)), fun R c mc ne0 => ?_⟩⟩
            exact mid_two fl.pos fh.pos (two.mpr R) ne0 (fun h => (fl.side lr (in_rt mc h) (.inr rfl)).1) (fun h => (fh.side ll (in_lf mc h) (.inl rfl)).1)
      rintro σ' H4 ⟨hb, md, rfl, s44, hbr, mds⟩
      have frl4 := frl
      refine ⟨fun σ' Hc => ∃ m N Dd, σ' = [some (.ref p), some (.ref s), some (.ref t), some (.bl e), some (.ref q1), some (.ref D), some (.ref sd), y7, y8, y9, y10, y11, some lo, some hi, some (.bl hb), some (.ref m), none, none, none] ∧ Same H' Hc ∧ Hc m = some (.tup [.int N, .int Dd]) ∧ MidP f A B ts N Dd, ?_, ?_⟩
      · rcases mds with ⟨rfl, ln⟩ | ⟨m, N, Dd, rfl, em, mp⟩
        · repeat array_get_dec
          refine fun u H6 s6 n6 e6 => ?_
          have S6 := s44.trans s6
          repeat array_get_dec
          rcases frl with ⟨rfl, nl⟩ | ⟨r0, ql, n1', d1, lr, rfl, el, fl⟩
          · repeat array_get_dec
            rcases frh with ⟨rfl, nh⟩ | ⟨l0, qh, n2', d2, ll, rfl, eh, fh⟩
            · repeat array_get_dec
              refine ⟨u, 0, 1, rfl, S6, e6, by decide, by decide, by decide, fun _ c mc ne0 => ?_⟩
              exfalso
              rcases ltge (tn A B (f c)) 0 with w | w
              · have := in_rt mc w
                rw [nl] at this
                exact nomatch this
              · have := in_lf (A := A) (B := B) (f := f) mc (by omega)
                rw [nh] at this
                exact nomatch this
            · have eh6 := S6 _ _ eh
              have c3 := fh.bn
              have c4 := fh.bd
              repeat array_get_dec
              refine fun u2 H7 s7 n7 e7 => ?_
              refine ⟨u2, n2' - d2, d2, rfl, S6.trans s7, e7, fh.pos, by array_mem_dec, by array_mem_dec, fun _ c mc ne0 => ?_⟩
              rcases ltge (tn A B (f c)) 0 with w | w
              · have := in_rt mc w
                rw [nl] at this
                exact nomatch this
              · have a1 := (fh.side ll (in_lf mc (by omega)) (.inl rfl)).1
                have a2 := Int.mul_pos fh.pos (show 0 < tn A B (f c) by omega)
                have e : d2 * dia A B (f c) - 2 * (n2' - d2) * tn A B (f c) = d2 * dia A B (f c) - 2 * n2' * tn A B (f c) + 2 * (d2 * tn A B (f c)) := by grind
                omega
          · have el6 := S6 _ _ el
            have c3 := fl.bn
            have c4 := fl.bd
            rcases ln with ln | rfl
            · cases ln
            have nh : lfA f A B ts = [] := by
              rcases frh with ⟨_, nh⟩ | ⟨_, _, _, _, _, w, _⟩
              · exact nh
              · cases w
            repeat array_get_dec
            refine fun u2 H7 s7 n7 e7 => ?_
            repeat array_get_dec
            refine ⟨u2, n1' + d1, d1, rfl, S6.trans s7, e7, fl.pos, by array_mem_dec, by array_mem_dec, fun _ c mc ne0 => ?_⟩
            rcases ltge (tn A B (f c)) 0 with w | w
            · have a1 := (fl.side lr (in_rt mc w) (.inr rfl)).1
              have a2 := Int.mul_neg_of_pos_of_neg fl.pos w
              have e : d1 * dia A B (f c) - 2 * (n1' + d1) * tn A B (f c) = d1 * dia A B (f c) - 2 * n1' * tn A B (f c) - 2 * (d1 * tn A B (f c)) := by grind
              omega
            · have := in_lf (A := A) (B := B) (f := f) mc (by omega)
              rw [nh] at this
              exact nomatch this
        · repeat array_get_dec
          exact ⟨m, N, Dd, rfl, s44, em, mp⟩
      rintro σ' H5 ⟨m, N, Dd, rfl, s45, em, mp⟩
      have hl5 := hl4.same s45
      have sa5 := s45 _ _ sa4
      have sb5 := s45 _ _ sb4
      have ehb : hb = e := by
        rw [Bool.eq_iff_iff, hbr, rm]
        exact ⟨fun h => ⟨no, h⟩, fun h => h.2⟩
      subst ehb
      repeat array_get_dec
      refine ⟨s, t, A, B, N, Dd, rfl, sa5, sb5, ba, bb, mp.bN, mp.bD, mp.pos, fun q4 X Y D5 H6 s6 n6 e6 om => ?_⟩
      have hl6 := hl5.same s6
      have sa6 := s6 _ _ sa5
      have sb6 := s6 _ _ sb5
      repeat array_get_dec
      refine ⟨q4, s, X, Y, D5, A, rfl, e6, om.bX, om.bY, om.bD, sa6, ba, ?_⟩
      repeat array_get_dec
      refine ⟨⟨_, SqL.of hl6.at_⟩, fun D6 nD6 => ?_⟩
      refine lc_fil (walk_list (xs := ts.map V.ref)) nD6 (by rw [List.length_map]; omega) (fun Hx sx => SqL.of (sx _ _ hl6.at_)) (fun jx => (fun c => decide (¬ (f c = A ∨ f c = B) ∧ spread X Y D5 (f c).1 (f c).2 ≤ spread X Y D5 A.1 A.2)) (ts.getD jx p)) (fun jx => V.ref (ts.getD jx p)) (fun jx x Hx Hy Kp Kn hij sx eDx yi fin finN => ?_) fun Hc sc eD => ?_
      · obtain ⟨rfl, exj⟩ := yi
        rw [List.length_map] at hij
        have mi : ts.getD jx p ∈ ts := by
          rw [List.getD_eq_getElem?_getD, List.getElem?_eq_getElem hij]
          exact List.getElem_mem hij
        have exx : x = V.ref (ts.getD jx p) := by
          rw [List.getElem?_map, List.getElem?_eq_getElem hij] at exj
          rw [List.getD_eq_getElem?_getD, List.getElem?_eq_getElem hij]
          exact (Option.some.inj exj).symm
        subst exx
        have hlx := hl6.same sx
        obtain ⟨hc, bc⟩ := hlx.sit _ mi
        have sax := sx _ _ sa6
        have sbx := sx _ _ sb6
        repeat array_get_dec
        refine fun w0 Hw sw nw ew => ?_
        refine w_ninT2 (sw _ _ hc) ew (sw _ _ sax) (sw _ _ sbx) ?_
        have e6w := sw _ _ (sx _ _ e6)
        by_cases same : f (ts.getD jx p) = A ∨ f (ts.getD jx p) = B
        · rw [decide_eq_true same]
          repeat array_get_dec
          refine if_f (A := True) rfl ?_
          refine if_f (A := True) rfl ?_
          exact finN _ (decide_eq_false fun w => w.1 same) sw
        · rw [decide_eq_false same]
          repeat array_get_dec
          refine ⟨q4, ts.getD jx p, X, Y, D5, f (ts.getD jx p), rfl, e6w, om.bX, om.bY, om.bD, sw _ _ hc, bc, ?_⟩
          repeat array_get_dec
          by_cases w : spread X Y D5 (f (ts.getD jx p)).1 (f (ts.getD jx p)).2 ≤ spread X Y D5 A.1 A.2
          · refine w_dt w ?_
            exact ⟨_, rfl, fin _ (decide_eq_true ⟨same, w⟩) sw⟩
          · refine w_df w ?_
            exact finN _ (decide_eq_false fun x => w x.2) sw
      rw [List.length_map, range_fil ts p (fun c => decide (¬ (f c = A ∨ f c = B) ∧ spread X Y D5 (f c).1 (f c).2 ≤ spread X Y D5 A.1 A.2))] at eD
      have hlc := hl6.same sc
      repeat array_get_dec
      refine fun E1 H7 s7 n7 e7 => ?_
      have hl7 := hlc.same s7
      refine w_eqSs (f := f) (g := f) (us := []) (s7 _ _ eD) (fun c m => (hl7.sit c (List.mem_filter.mp m).1).1) e7 (fun _ m => nomatch m) ?_
      have last : hb = true → (ts.filter fun c => decide (¬ (f c = A ∨ f c = B) ∧ spread X Y D5 (f c).1 (f c).2 ≤ spread X Y D5 A.1 A.2)) = [] := fun h => by
        have R := hbr.mp h
        refine List.filter_eq_nil_iff.mpr fun c mc w => ?_
        obtain ⟨w1, w2⟩ := of_decide_eq_true w
        have w3 := (mid_le mp.pos om (f c)).mp w2
        by_cases z : tn A B (f c) = 0
        · have hd : 0 ≤ dia A B (f c) := by
            have := no c mc
            unfold btwA at this
            have := of_decide_eq_false this
            omega
          have hd2 : dia A B (f c) ≠ 0 := fun k => w1 (dia_zero z k)
          rw [z, Int.mul_zero, Int.sub_zero] at w3
          have := Int.mul_pos mp.pos (show 0 < dia A B (f c) by omega)
          omega
        · have := mp.off R c mc z
          omega
      repeat array_get_dec
      have S7 := s1.trans (S13.trans (s4.trans (s45.trans (s6.trans (sc.trans s7)))))
      refine w_dt rfl ?_
      cases hb with
      | true =>
        rw [last rfl, decide_eq_true rfl]
        repeat array_get_dec
        refine if_t rfl ?_
        exact q H7 S7
      | false =>
        generalize decide ((ts.filter fun c => decide (¬ (f c = A ∨ f c = B) ∧ spread X Y D5 (f c).1 (f c).2 ≤ spread X Y D5 A.1 A.2)).map f = ([] : List Addr).map f) = fb
        cases fb
        · repeat array_get_dec
          refine if_f (A := True) rfl ?_
          exact q H7 S7
        · repeat array_get_dec
          refine if_t (B := True) rfl ?_
          exact q H7 S7
end
/-! ### k14: the law -/
section
variable {P : Program} {w : World} {K : PySem.W.Frag} {mg : Str → Option Value} {base : Heap}
section
variable {P : Nat → Pt} {n : Nat}
/-- all joined pairs, ascending -/
structure EdgJ (P : Nat → Pt) (n : Nat) (ds : List (Nat × Nat)) : Prop where
  mem : ∀ a b, (a, b) ∈ ds ↔ a < b ∧ Jn P n a b
  ord : ds.Pairwise lexN
theorem LinkD.jn {D : Nat → List (Nat × Int)} (h : LinkD P n D) {a b : Nat} (ha : a < n) : (look (D a) b).isSome = true ↔ Jn P n a b := by
  constructor
  · intro w
    obtain ⟨v, e⟩ := Option.isSome_iff_exists.mp w
    rcases (h.lt a b v).mp (by show (if a < n then look (D a) b else none) = some v; rw [if_pos ha]; exact e) with ⟨c, _, o, _⟩ | ⟨_, g⟩
    · exact .inl ⟨c, o⟩
    · exact .inr g
  · rintro (⟨c, o⟩ | g)
    · obtain ⟨d, e, _⟩ := h.next o
      rw [e]
      rfl
    · have z : (if a < n then look (D a) b else none) = some (-1) := (h.lt a b (-1)).mpr (.inr ⟨rfl, g⟩)
      rw [if_pos ha] at z
      rw [z]
      rfl
theorem EdgL.jn {D : Nat → List (Nat × Int)} {es : List (Nat × Nat)} (l : LinkD P n D) (h : EdgL D n es) : EdgJ P n es := ⟨fun a b => by
  rw [h.mem]
  constructor
  · rintro ⟨h1, h2, h3⟩
    exact ⟨h2, (l.jn h1).mp h3⟩
  · rintro ⟨h1, h2⟩
    exact ⟨h2.lt.1, h1, (l.jn h2.lt.1).mpr h2⟩, h.ord⟩
end
theorem cut_ints {ns : List Int} {lo hi : Option Int} {x : V} (h : x ∈ cutV (ns.map V.int) lo hi) : ∃ n : Int, x = .int n := by
  have m := List.mem_of_mem_drop (List.mem_of_mem_take h)
  obtain ⟨n, _, e⟩ := List.mem_map.mp m
  exact ⟨n, e.symm⟩
theorem stp_same {s : Addr} {H0 H H' : Hp} (n : H0 s = none) (a : Same H0 H) (b : Stp s H H') : Same H0 H' := fun c o e => b.keep c o (ne_of_none e n) (a c o e)
theorem sub_srt {C x R p : Addr} {H : Hp} {rs A : List Addr} {g : Addr → Int × Int} {D : Nat → List (Nat × Int)} {li pa : V} (hs : SubAt C H x R p rs A (fun i => g (rs.getD i R)) D li pa) : (rs.map g).Pairwise lt2 := List.pairwise_iff_getElem.mpr fun i j h1 h2 h3 => by
  rw [List.length_map] at h1 h2
  have l := hs.len
  have w := hs.srt i j h3 (by omega)
  simp only [List.getD_eq_getElem?_getD, List.getElem?_eq_getElem h1, List.getElem?_eq_getElem h2, Option.getD_some] at w
  rw [List.getElem_map, List.getElem_map]
  exact w
theorem lot_rev {g : Addr → Int × Int} {H H' : Hp} {c d : Addr} {ts : List Addr} (h : Lot g H c ts) (s : Same H H') (e : H' d = some (.lst (ts.map V.ref).reverse)) : Lot g H' d ts.reverse := ⟨by rw [e, List.map_reverse], by rw [List.length_reverse]; exact h.pos, by rw [List.length_reverse]; exact h.few, fun t m => ⟨s _ _ (h.sit t (List.mem_reverse.mp m)).1, (h.sit t (List.mem_reverse.mp m)).2⟩, by
  rw [List.map_reverse]
  exact (List.reverse_perm _).nodup_iff.mpr h.nod⟩
abbrev s_law : Stmt := topS 50
abbrev n_law : List Str := ["_law_script", "_law_number_here", "_law_source", "_law_lap", "_law_sites_here", "_law_row", "_law_edges", "_law_aa", "_law_bb", "_law_is_edge", "_law_paper_here"]
theorem c_law : FnScope n_law ["_law_script"] (defScope s_law) := ⟨rfl, rfl, rfl, by decide +kernel, rfl, by decide +kernel, by decide +kernel⟩
def p_law (K : PySem.W.Frag) : Sp := fun vs H Q _ => ∃ (a : Addr) (ns : List Int), vs = [.ref a] ∧ SqL K H a (ns.map V.int) ∧ ns.length ≤ 63 ∧ ∀ H', Q (.bl true) H'
theorem vio_ic {f : Addr → Pt} {A B : Pt} {c d : Addr} : vio2 f A B c d = false ↔ ic A B (f d) (f c) < 0 := by
  unfold vio2 vioA ic
  rw [decide_eq_false_iff_not, Int.one_mul, Int.neg_mul, Int.one_mul, Int.mul_neg]
  omega
/-- no paper: there is room -/
theorem pap_none {f : Addr → Pt} {A B : Pt} {L : List Addr} : papF f A B L = none ↔ RmA f A B L := by
  unfold papF RmA
  constructor
  · intro h
    rcases hb : (L.filter (btwA f A B)).head? with _ | r0
    · have nil := List.head?_eq_none_iff.mp hb
      refine ⟨fun x m => ?_, fun c mc d md => ?_⟩
      · cases w : btwA f A B x with
        | false => rfl
        | true => exact absurd (List.mem_filter.mpr ⟨m, w⟩) (by rw [nil]; exact List.not_mem_nil)
      · rw [hb] at h
        rcases hf : (rtA f A B L).find? (fun c => (lfA f A B L).any (vio2 f A B c)) with _ | c0
        · have := List.find?_eq_none.mp hf c mc
          cases w : vio2 f A B c d with
          | false => rfl
          | true => exact absurd (List.any_eq_true.mpr ⟨d, md, w⟩) this
        · have ha := List.find?_some hf
          obtain ⟨d0, m0, v0⟩ := List.any_eq_true.mp ha
          rw [hf] at h
          have h : ((lfA f A B L).filter (vio2 f A B c0)).head?.map (fun d => [c0, d]) = none := h
          rw [Option.map_eq_none_iff, List.head?_eq_none_iff] at h
          exact absurd (List.mem_filter.mpr ⟨m0, v0⟩) (by rw [h]; exact List.not_mem_nil)
    · rw [hb] at h
      cases h
  · rintro ⟨h1, h2⟩
    have nil : L.filter (btwA f A B) = [] := List.filter_eq_nil_iff.mpr fun x m => by rw [h1 x m]; decide
    rw [nil]
    have nf : (rtA f A B L).find? (fun c => (lfA f A B L).any (vio2 f A B c)) = none := List.find?_eq_none.mpr fun c mc w => by
      obtain ⟨d, md, v⟩ := List.any_eq_true.mp w
      rw [h2 c mc d md] at v
      cases v
    show (match (rtA f A B L).find? (fun c => (lfA f A B L).any (vio2 f A B c)) with
      | none => none
      | some c => _) = none
    rw [nf]
theorem RmA.perm {f : Addr → Pt} {A B : Pt} {L M : List Addr} (h : ∀ x, x ∈ L ↔ x ∈ M) : RmA f A B L ↔ RmA f A B M := by
  have e1 : ∀ x, x ∈ rtA f A B L ↔ x ∈ rtA f A B M := fun x => by unfold rtA; rw [List.mem_filter, List.mem_filter, h]
  have e2 : ∀ x, x ∈ lfA f A B L ↔ x ∈ lfA f A B M := fun x => by unfold lfA; rw [List.mem_filter, List.mem_filter, h]
  constructor
  · exact fun ⟨a, b⟩ => ⟨fun x m => a x ((h x).mpr m), fun c mc d md => b c ((e1 c).mpr mc) d ((e2 d).mpr md)⟩
  · exact fun ⟨a, b⟩ => ⟨fun x m => a x ((h x).mp m), fun c mc d md => b c ((e1 c).mp mc) d ((e2 d).mp md)⟩
/-- room by addresses is room by numbers -/
theorem RmA.rm {f : Addr → Pt} {rs : List Addr} {z : Addr} {i j : Nat} : RmA f (f (rs.getD i z)) (f (rs.getD j z)) rs ↔ Rm (fun i => f (rs.getD i z)) rs.length i j := by
  have at_ {x : Addr} (m : x ∈ rs) : ∃ s, s < rs.length ∧ rs.getD s z = x := by
    obtain ⟨s, hs, e⟩ := List.getElem_of_mem m
    exact ⟨s, hs, by rw [List.getD_eq_getElem?_getD, List.getElem?_eq_getElem hs]; exact e⟩
  have mem {s : Nat} (hs : s < rs.length) : rs.getD s z ∈ rs := by
    rw [List.getD_eq_getElem?_getD, List.getElem?_eq_getElem hs]
    exact List.getElem_mem hs
  constructor
  · rintro ⟨a, b⟩
    refine ⟨fun s hs t => ?_, fun l r hl hr h1 h2 => ?_⟩
    · have := of_decide_eq_false (a _ (mem hs))
      have t : tn (f (rs.getD i z)) (f (rs.getD j z)) (f (rs.getD s z)) = 0 := t
      show 0 ≤ dia (f (rs.getD i z)) (f (rs.getD j z)) (f (rs.getD s z))
      omega
    · exact vio_ic.mp (b _ (List.mem_filter.mpr ⟨mem hr, decide_eq_true h2⟩) _ (List.mem_filter.mpr ⟨mem hl, decide_eq_true h1⟩))
  · rintro ⟨a, b⟩
    refine ⟨fun x m => ?_, fun c mc d md => ?_⟩
    · obtain ⟨s, hs, rfl⟩ := at_ m
      refine decide_eq_false fun w => ?_
      have : 0 ≤ dia (f (rs.getD i z)) (f (rs.getD j z)) (f (rs.getD s z)) := a s hs w.1
      omega
    · obtain ⟨m1, t1⟩ := List.mem_filter.mp mc
      obtain ⟨m2, t2⟩ := List.mem_filter.mp md
      obtain ⟨r, hr, rfl⟩ := at_ m1
      obtain ⟨l, hl, rfl⟩ := at_ m2
      exact vio_ic.mpr (b l r hl hr (of_decide_eq_true t2) (of_decide_eq_true t1))
/-- what a paper is as data -/
def papD (f : Addr → Pt) : Option (List Addr) → PyData
  | none => .none
  | some zs => .tuple (zs.map fun t => dS (f t))
theorem PapV.same {H H' : Hp} {v : V} {o : Option (List Addr)} (h : PapV H v o) (s : Same H H') : PapV H' v o := by
  cases o with
  | none => exact h
  | some zs =>
    obtain ⟨q, e1, e2⟩ := h
    exact ⟨q, e1, s _ _ e2⟩
theorem pap_dp {K : PySem.W.Frag} {H : Hp} {f : Addr → Pt} {v : V} {o : Option (List Addr)} (h : PapV H v o) (s : ∀ zs, o = some zs → ∀ t ∈ zs, Sit H t (f t).1 (f t).2) : Dp K H v (papD f o) := by
  cases o with
  | none =>
    have h : v = .non := h
    rw [h]
    exact .non
  | some zs =>
    obtain ⟨q, rfl, e⟩ := h
    refine .tup (SqT.of e) ?_
    have z := dpS_all (K := K) (f := f) (s zs rfl)
    rwa [List.map_map] at z
theorem pap_mem {f : Addr → Pt} {A B : Pt} {L : List Addr} : ∀ zs, papF f A B L = some zs → zs.length ≤ 2 ∧ ∀ t ∈ zs, t ∈ L := by
  intro zs h
  unfold papF at h
  rcases hb : (L.filter (btwA f A B)).head? with _ | r0
  · rw [hb] at h
    rcases hf : (rtA f A B L).find? (fun c => (lfA f A B L).any (vio2 f A B c)) with _ | c0
    · rw [hf] at h
      cases h
    · rw [hf] at h
      have h : ((lfA f A B L).filter (vio2 f A B c0)).head?.map (fun d => [c0, d]) = some zs := h
      obtain ⟨d, hd, rfl⟩ := Option.map_eq_some_iff.mp h
      refine ⟨Nat.le_refl _, fun t m => ?_⟩
      rcases List.mem_cons.mp m with rfl | m
      · exact (List.mem_filter.mp (List.mem_of_find?_eq_some hf)).1
      · rw [List.mem_singleton.mp m]
        have := List.mem_of_mem_head? (show d ∈ ((lfA f A B L).filter (vio2 f A B c0)).head? from hd)
        exact (List.mem_filter.mp (List.mem_filter.mp this).1).1
  · rw [hb] at h
    cases h
    refine ⟨by show 1 ≤ 2; decide, fun t m => ?_⟩
    rw [List.mem_singleton.mp m]
    have := List.mem_of_mem_head? (show r0 ∈ (L.filter (btwA f A B)).head? from hb)
    exact (List.mem_filter.mp this).1
theorem tup_shaped (ps : List Pt) (h : ps.length ≤ 2) : SeqAt.shaped (.tuple (ps.map dS)) = true := by
  obtain ⟨h1, h2⟩ := dS_all ps
  unfold SeqAt.shaped
  rw [Bool.and_eq_true]
  refine ⟨by simp [PyData.canLay0, h1], decide_eq_true ?_⟩
  simp only [PyData.depth]
  omega
theorem papD_shaped (f : Addr → Pt) (o : Option (List Addr)) (h : ∀ zs, o = some zs → zs.length ≤ 2) : SeqAt.shaped (papD f o) = true := by
  cases o with
  | none => rfl
  | some zs =>
    have := tup_shaped (zs.map f) (by rw [List.length_map]; exact h zs rfl)
    rwa [List.map_map] at this
/-- a bound by value -/
def FrO (H : Hp) (v : V) : Option Pt → Prop
  | none => v = .non
  | some x => ∃ q, v = .ref q ∧ H q = some (.tup [.int x.1, .int x.2])
def frD : Option Pt → PyData
  | none => .none
  | some x => dS x
theorem fr_dp {K : PySem.W.Frag} {H : Hp} {v : V} {o : Option Pt} (h : FrO H v o) : Dp K H v (frD o) := by
  cases o with
  | none =>
    have h : v = .non := h
    rw [h]
    exact .non
  | some x =>
    obtain ⟨q, rfl, e⟩ := h
    exact dpS e
theorem fr_shaped (o o' : Option Pt) : SeqAt.shaped (.tuple [frD o, frD o']) = true := by
  cases o <;> cases o' <;> rfl
theorem fr_same {H H' : Hp} {f : Addr → Pt} {A B : Pt} {e : Int} {ws ws' : List Addr} {v v' : V} (hm : ∀ x, x ∈ ws ↔ x ∈ ws') (sb : ShB f A B e ws) (h : FrV H f A B e e ws v) (h' : FrV H' f A B e e ws' v') : ∃ o, FrO H v o ∧ FrO H' v' o := by
  rcases h with ⟨rfl, nil⟩ | ⟨t, q, l, rfl, eq⟩
  · rcases h' with ⟨rfl, _⟩ | ⟨t', q', l', rfl, eq'⟩
    · exact ⟨none, rfl, rfl⟩
    · have := (hm t').mpr l'.1
      rw [nil] at this
      exact nomatch this
  · rcases h' with ⟨rfl, nil⟩ | ⟨t', q', l', rfl, eq'⟩
    · have := (hm t).mp l.1
      rw [nil] at this
      exact nomatch this
    · have m1 := (hm t').mpr l'.1
      have p1 := (sb t l.1).1
      have p2 := (sb t' m1).1
      have k1 := l.2 t' m1
      have k2 := l'.2 t ((hm t).mp l.1)
      have e0 : dia A B (f t) * (e * tn A B (f t')) = dia A B (f t') * (e * tn A B (f t)) := by omega
      have s1 := cfrac_scale (s := 2 * (e * tn A B (f t'))) (t := e * dia A B (f t)) (b := 2 * (e * tn A B (f t))) (z := e * dia A B (f t)) (by omega)
      have s2 := cfrac_scale (s := 2 * (e * tn A B (f t))) (t := e * dia A B (f t')) (b := 2 * (e * tn A B (f t'))) (z := e * dia A B (f t')) (by omega)
      have s3 := cfrac_scale (s := 2 * (e * tn A B (f t'))) (t := e * dia A B (f t)) (b := 2 * (e * tn A B (f t))) (z := 2 * (e * tn A B (f t))) (by omega)
      have s4 := cfrac_scale (s := 2 * (e * tn A B (f t))) (t := e * dia A B (f t')) (b := 2 * (e * tn A B (f t'))) (z := 2 * (e * tn A B (f t'))) (by omega)
      have e1 : 2 * (e * tn A B (f t')) * (e * dia A B (f t)) = 2 * (e * tn A B (f t)) * (e * dia A B (f t')) := by
        have : 2 * (e * tn A B (f t')) * (e * dia A B (f t)) = 2 * e * (dia A B (f t) * (e * tn A B (f t'))) := by grind
        rw [this, e0]
        grind
      have e2 : 2 * (e * tn A B (f t')) * (2 * (e * tn A B (f t))) = 2 * (e * tn A B (f t)) * (2 * (e * tn A B (f t'))) := Int.mul_comm _ _
      rw [e1, e2] at s1 s3
      refine ⟨some (_, _), ⟨q, rfl, eq⟩, q', rfl, ?_⟩
      rw [eq', ← s1, ← s3, s2, s4]
/-- the edges as data -/
def eP (P : Nat → Pt) (e : Nat × Nat) : PyData := .tuple [dS (P e.1), dS (P e.2)]
theorem eP_shaped (x y : Pt) : SeqAt.shaped (.tuple [dS x, dS y]) = true := rfl
theorem eP_all (P : Nat → Pt) (es : List (Nat × Nat)) : PyData.canLayAll0 (es.map (eP P)) = true ∧ PyData.depthAll (es.map (eP P)) ≤ 10 := by
  induction es with
  | nil => exact ⟨rfl, Nat.zero_le _⟩
  | cons e es ih =>
    refine ⟨?_, ?_⟩
    · rw [List.map_cons, PyData.canLayAll0, ih.1]
      simp [eP, dS, PyData.canLay0, PyData.canLayAll0]
    · simp only [List.map_cons, PyData.depthAll]
      have : (eP P e).depth ≤ 10 := by simp [eP, dS, PyData.depth, PyData.depthAll]
      have := ih.2
      omega
theorem eP_list (P : Nat → Pt) (es : List (Nat × Nat)) : SeqAt.shaped (.list (es.map (eP P))) = true := by
  obtain ⟨h1, h2⟩ := eP_all P es
  unfold SeqAt.shaped
  rw [Bool.and_eq_true]
  refine ⟨by simp [PyData.canLay0, h1], decide_eq_true ?_⟩
  simp only [PyData.depth]
  omega
theorem eP_eqv (P : Nat → Pt) (e : Nat × Nat) (x y : Pt) : PyData.eqv (eP P e) (.tuple [dS x, dS y]) = decide (P e.1 = x ∧ P e.2 = y) := by
  unfold eP
  simp only [PyData.eqv, PyData.eqvAll, dS_eqv, Bool.and_true]
  by_cases h : P e.1 = x <;> by_cases k : P e.2 = y <;> simp [h, k]
theorem eP_any {P : Nat → Pt} {n : Nat} (so : Srt P n) {es : List (Nat × Nat)} (rg : ∀ e ∈ es, e.1 < n ∧ e.2 < n) {a b : Nat} (ha : a < n) (hb : b < n) : ((es.map (eP P)).any fun z => PyData.eqv z (.tuple [dS (P a), dS (P b)])) = decide ((a, b) ∈ es) := by
  rw [Bool.eq_iff_iff, List.any_eq_true, decide_eq_true_eq]
  constructor
  · rintro ⟨z, mz, hz⟩
    obtain ⟨e, me, rfl⟩ := List.mem_map.mp mz
    rw [eP_eqv, decide_eq_true_eq] at hz
    have r := rg e me
    have e1 := so.ne r.1 ha hz.1
    have e2 := so.ne r.2 hb hz.2
    rw [← e1, ← e2]
    exact me
  · intro m
    refine ⟨_, List.mem_map.mpr ⟨_, m, rfl⟩, ?_⟩
    rw [eP_eqv, decide_eq_true_eq]
    exact ⟨rfl, rfl⟩
theorem eP_dp {K : PySem.W.Frag} {H : Hp} {z : Addr} {rs : List Addr} {P : Nat → Pt} (s : ∀ k, k < rs.length → Sit H (rs.getD k z) (P k).1 (P k).2) : ∀ {us : List Addr} {es : List (Nat × Nat)}, PrsAt H rs z us es → (∀ e ∈ es, e.1 < rs.length ∧ e.2 < rs.length) → DpAll K H (us.map V.ref) (es.map (eP P))
  | [], [], _, _ => .nil
  | [], _ :: _, t, _ => nomatch t.1
  | _ :: _, [], t, _ => nomatch t.1
  | u :: us, e :: es, t, r => by
    have r0 := r e List.mem_cons_self
    refine .cons (.tup (SqT.of (t.2 0 u e rfl rfl)) (.cons (dpS (s _ r0.1)) (.cons (dpS (s _ r0.2)) .nil))) (eP_dp s ⟨by have := t.1; simpa using this, fun i v w hv hw => t.2 (i + 1) v w hv hw⟩ fun e m => r e (List.mem_cons_of_mem _ m))
set_option pp.maxSteps 300 in
theorem ok_law  {f : Addr} {fd : FuncData} (F : Fun K "law" "law" s_law f fd) (C_avoided : Cl P w K mg base CX0 "avoided" 4 ["sites", "a", "b"] (p_avoided)) (C_centres : Cl P w K mg base CX0 "centres" 4 ["sites", "a", "b"] (p_centres)) (C__law_paper : Cl P w K mg base CX0 "_law_paper" 4 ["_law_row", "_law_aa", "_law_bb"] (p__law_paper)) (C__law_room_right : Cl P w K mg base CX0 "_law_room_right" 5 ["_law_sites_here", "_law_aa", "_law_bb", "_law_is_edge"] (p__law_room_right)) (C__law_source_of : Cl P w K mg base CX0 "_law_source_of" 1 ["_law_number_here"] (spSrc)) (C__law_cell_at : Cl P w K mg base CX0 "_law_cell_at" 1 ["_law_script", "_law_index"] ((spCell K))) (C__law_sites : Cl P w K mg base CX0 "_law_sites" 3 ["_law_source", "_law_most"] (spSitesN)) (mmax : mg "max" = none) (mmin : mg "min" = none) (mrange : mg "range" = none) (msorted : mg "sorted" = none) {C : Addr} (M_sub : C8.Mak P w K mg base 4 "Subdivision" C (p___init__ C) []) (M_edges : C8.Met P w K mg base 2 C "edges" (p_edges C) []) {fAv fCe : Addr} {fdAv fdCe : FuncData} (GAv : FnOk P w K mg base CX0 4 fAv fdAv ["sites", "a", "b"] p_avoided) (gAv : mg "avoided" = some (.ref fAv)) (kAv : PySem.W.keepIn K (.ref fAv) = true) (kbAv : KBinds K fdAv ["sites", "a", "b"] ["b", "a", "sites"] gRev gRev) (GCe : FnOk P w K mg base CX0 4 fCe fdCe ["sites", "a", "b"] p_centres) (gCe : mg "centres" = some (.ref fCe)) (kCe : PySem.W.keepIn K (.ref fCe) = true) (kbCe : KBinds K fdCe ["sites", "a", "b"] ["b", "a", "sites"] gRev gRev) : FnOk P w K mg base CX0 8 f fd ["_law_script"] (p_law K) := by
  refine F.ok c_law (fun vs H Q E h => ?_) (fun cdv A outer s H vs Q E hr h => ?_)
  · obtain ⟨a, ns, rfl, hS, hlen, q⟩ := h
    rfl
  · obtain ⟨a, ns, rfl, hS, hlen, q⟩ := h
    have nd := c_law.nd
    have hu : _ := hu_of hr
    refine ⟨_, (pss_cons (ps_for PassesOwn.never rfl (pi_list (pe_op op_catG (pe_lstG (pa_cons (pe_cl C__law_cell_at (hr.mono (by decide)) (by rfl) pass0 (pa_cons (pv 0) (pa_cons pe_int pa_nil))) pa_nil)) (pe_slice sl_listG (pv 0) (po_some pe_int) (po_some pe_int)))) (pg_name (i := 1) nd rfl (.inl rfl)) (pss_cons (ps_set (i := 2) nd rfl (.inl rfl) (pe_cl C__law_source_of (hr.mono (by decide)) (by rfl) pass0 (pa_cons (pv 1) pa_nil))) (pss_one (ps_for PassesOwn.never rfl (pi_range1 (by rfl) mrange (pa_cons pe_int pa_nil)) (pg_name (i := 3) nd rfl (.inl rfl)) (pss_cons (ps_set (i := 4) nd rfl (.inl rfl) (pe_cl C__law_sites (hr.mono (by decide)) (by rfl) pass0 (pa_cons (pv 2) (pa_cons pe_int pa_nil)))) (pss_cons (ps_par (i := 5) (j := 6) (by rfl) nd rfl rfl (by decide) rfl rfl (pa_cons (pe_callB cr_sortS (by rfl) msorted (by decide +kernel) (pa_cons (pv 4) pa_nil)) (pa_cons (C8.pe_mt0 M_edges hr (by decide) (C8.pe_mk M_sub hr (by decide) (by rfl) (pa_cons (pv 4) pa_nil))) pa_nil)) (by rfl)) (pss_one (ps_for PassesOwn.never rfl (pi_list (pv 5)) (pg_name (i := 7) nd rfl (.inl rfl)) (pss_one (ps_for PassesOwn.never rfl (pi_list (pv 5)) (pg_name (i := 8) nd rfl (.inl rfl)) (pss_one (ps_if (pt_cmpR (op_neD hr.units) (pv 7) (pv 8) (nomark _)) (pss_cons (ps_set (i := 9) nd rfl (.inl rfl) (pe_cmpR (op_inD (u65 hr)) (pe_tupG (pa_cons (pe_callB (cr_min2 (by rfl) hu) (by rfl) mmin (by decide +kernel) (pa_cons (pv 7) (pa_cons (pv 8) pa_nil))) (pa_cons (pe_callB (cr_max2 (by rfl) hu) (by rfl) mmax (by decide +kernel) (pa_cons (pv 7) (pa_cons (pv 8) pa_nil))) pa_nil))) (pv 6) rfl)) (pss_cons (ps_set (i := 10) nd rfl (.inl rfl) (pe_cl C__law_paper (hr.mono (by decide)) (by rfl) pass0 (pa_cons (pv 5) (pa_cons (pv 7) (pa_cons (pv 8) pa_nil))))) (pss_cons (ps_if (PW.pt (pw_or (pt_cmpR op_ne (pe_cmpR op_isN (pv 10) pe_non (nomark _)) (pv 9) (nomark _)) (pw_or1 (pt_cmpR (op_neD hr.units) (pe_cl C_avoided (hr.mono (by decide)) (by rfl) pass0 (pa_cons (pv 4) (pa_cons (pv 7) (pa_cons (pv 8) pa_nil)))) (pv 10) (nomark _))))) (pss_one (ps_ret pe_bl)) pss_nil) (pss_cons (ps_if (pt_cmpR (op_neD hr.units) (pe_callKw GAv (hr.mono (by decide)) (by rfl) gAv kAv kbAv pass0 (pk_cons (pv 8) (pk_cons (pv 7) (pk_cons (pe_revL (pv 4)) pk_nil)))) (pv 10) (nomark _)) (pss_one (ps_ret pe_bl)) pss_nil) (pss_cons (ps_if (pt_cmpR (op_neD hr.units) (pe_callKw GCe (hr.mono (by decide)) (by rfl) gCe kCe kbCe pass0 (pk_cons (pv 8) (pk_cons (pv 7) (pk_cons (pv 4) pk_nil)))) (pe_cl C_centres (hr.mono (by decide)) (by rfl) pass0 (pa_cons (pe_revL (pv 4)) (pa_cons (pv 7) (pa_cons (pv 8) pa_nil)))) (nomark _)) (pss_one (ps_ret pe_bl)) pss_nil) (pss_one (ps_if (pt_not (pt_val (pe_cl C__law_room_right (hr.mono (by decide)) (by rfl) pass0 (pa_cons (pv 4) (pa_cons (pv 7) (pa_cons (pv 8) (pa_cons (pv 9) pa_nil))))))) (pss_one (ps_ret pe_bl)) pss_nil))))))) pss_nil)))))))))))) (pss_one (ps_ret (pe_cmpR (op_eqD hr.units) (pe_cl C_avoided (hr.mono (by decide)) (by rfl) pass0 (pa_cons (pe_lstG (pa_cons (pe_tupG (pa_cons pe_int (pa_cons pe_int pa_nil))) (pa_cons (pe_tupG (pa_cons pe_int (pa_cons pe_int pa_nil))) (pa_cons (pe_tupG (pa_cons pe_int (pa_cons pe_int pa_nil))) (pa_cons (pe_tupG (pa_cons pe_int (pa_cons pe_int pa_nil))) pa_nil))))) (pa_cons (pe_tupG (pa_cons pe_int (pa_cons pe_int pa_nil))) (pa_cons (pe_tupG (pa_cons pe_int (pa_cons pe_int pa_nil))) pa_nil)))) (pe_tupG (pa_cons (pe_tupG (pa_cons pe_int (pa_cons pe_int pa_nil))) (pa_cons (pe_tupG (pa_cons pe_int (pa_cons pe_int pa_nil))) pa_nil))) (nomark _))))), ?_⟩
    repeat array_get_dec
    refine ⟨a, ns, rfl, hS, by omega, fun n0 H2 s2 => ?_⟩
    repeat array_get_dec
    refine fun p1 H3 s3 n3 e3 => ?_
    have S3 := s2.trans s3
    repeat array_get_dec
    refine ⟨a, ns.map V.int, rfl, S3.seq hS, fun p2 H4 s4 n4 e4 => ?_⟩
    have lc : (cutV (ns.map V.int) (some 1) (some 4)).length ≤ ns.length := by
      have z := cutV_length (ns.map V.int) (some 1) (some 4)
      rwa [List.length_map] at z
    refine ⟨p1, p2, _, _, rfl, rfl, s4 _ _ e3, e4, Nat.le_trans (Nat.add_le_add_left (Nat.le_trans lc hlen) _) (show 1 + 63 ≤ sizeLine by decide), fun p3 H5 s5 n5 e5 => ?_⟩
    repeat array_get_dec
    refine ⟨⟨_, SqL.of e5⟩, for_list (K := K) (a := p3) (xs := [V.int n0] ++ cutV (ns.map V.int) (some 1) (some 4)) (fun _ σ' H' => (∃ y1 y2 y3 y4 y5 y6 y7 y8 y9 y10 : Option L2.V, σ' = [some (.ref a), y1, y2, y3, y4, y5, y6, y7, y8, y9, y10]) ∧ Same H5 H') ⟨⟨_, _, _, _, _, _, _, _, _, _, rfl⟩, Same.refl _⟩ (fun _ σ' H' _ z => SqL.of (z.2 _ _ e5)) (fun i x σ' H' hx z => ?_) fun σ' H' z => ?_⟩
    · obtain ⟨⟨y1, y2, y3, y4, y5, y6, y7, y8, y9, y10, rfl⟩, s6⟩ := z
      obtain ⟨n, rfl⟩ : ∃ n : Int, x = .int n := by
        rcases List.mem_append.mp (List.mem_of_getElem? hx) with m | m
        · exact ⟨n0, List.mem_singleton.mp m⟩
        · exact cut_ints m
      repeat array_get_dec
      refine fun s c0 c1 c2 ns' => ?_
      have n5s : H5 s = none := s6.free ns'
      have hs : Src (upd H' s (.lst [.int c0, .int c1, .int c2])) s := ⟨c0, c1, c2, upd_same⟩
      have s7 : Same H5 (upd H' s (.lst [.int c0, .int c1, .int c2])) := s6.trans (Same.upd ns')
      generalize upd H' s (.lst [.int c0, .int c1, .int c2]) = H7 at hs s7 ⊢
      repeat array_get_dec
      refine ⟨by decide, by decide, for_range (lo := 0) (n := 4) (fun i σ' H' => (∃ y3 y4 y5 y6 y7 y8 y9 y10 : Option L2.V, σ' = [some (.ref a), some (.int n), some (.ref s), y3, y4, y5, y6, y7, y8, y9, y10]) ∧ Src H' s ∧ Same H5 H') ⟨⟨_, _, _, _, _, _, _, _, rfl⟩, hs, s7⟩ (fun i σ' H' hi z => ?_) fun σ' H' z => ?_⟩
      · obtain ⟨⟨y3, y4, y5, y6, y7, y8, y9, y10, rfl⟩, src, s5'⟩ := z
        repeat array_get_dec
        refine ⟨src, by decide, by decide, fun p ts f H6 st6 np ep l0 l9 sf nod => ?_⟩
        have lot : Lot f H6 p ts := ⟨ep, l0, by omega, sf, nod⟩
        have s6 := stp_same n5s s5' st6
        have src6 := st6.src
        repeat array_get_dec
        refine ⟨p, ts, f, rfl, SqL.of ep, fun t m => (sf t m).1, fun us R0 H7 pu so7 s7 n7 e7 => ?_⟩
        have lot7 := lot.same s7
        repeat array_get_dec
        intro x dx nx nd nxd
        have e0 : upd (upd H7 dx (HO.own x)) x (HO.ins C dx []) x = some (.ins C dx []) := upd_same
        have s0 : Same H7 (upd (upd H7 dx (HO.own x)) x (HO.ins C dx [])) := Same.made nx nd fun _ _ h _ => h
        refine ⟨x, dx, p, ts, f, rfl, e0, lot7.same s0, fun R pp rs A D H8 k8 nR np' nA pm hsu => ?_⟩
        have s8 : Same H7 H8 := Same.made nx nd k8
        refine ⟨rfl, ?_⟩
        have srt := sub_srt hsu
        have eu : us = rs := srt_one nod pm pu srt so7
        subst eu
        generalize hpt : (fun i => f (us.getD i R)) = pt at hsu
        obtain ⟨dx8, ob8⟩ := hsu.ob
        repeat array_get_dec
        refine ⟨x, dx8, _, rfl, ob8, rfl, ?_⟩
        refine ⟨x, R, pp, us, A, pt, D, .non, rfl, hsu, fun qe Fe ue es H9 k9 n9 e9 prs edl hs9 => ?_⟩
        have kn {Ha Hb : Hp} {x : Addr} (n : H7 x = none) (s : Same H7 Ha) (k : KeepX x Ha Hb) : Same H7 Hb := fun b o e => k b o (s b o e) fun w => by
          rw [w, n] at e
          cases e
        have S79 : Same H7 H9 := kn nx s8 k9
        have edj := edl.jn hs9.ld
        have lot9 := lot7.same S79
        have eR9 := S79 _ _ e7
        have lenu : us.length = A.length := hsu.len
        have so : Srt pt us.length := by
          rw [lenu]
          exact hsu.srt
        rw [← lenu] at edj
        repeat array_get_dec
        have src9 : Src H9 s := (st6.same (s7.trans S79)).src
        have s59 : Same H5 H9 := s6.trans (s7.trans S79)
        have hg (i : Nat) : pt i = f (us.getD i R) := by rw [← hpt]
        have fewu : us.length < 64 := by rw [pu.length_eq]; exact lot.few
        have at_ {k : Nat} {t : Addr} (e : us[k]? = some t) : us.getD k R = t := by
          rw [List.getD_eq_getElem?_getD, e]
          rfl
        have rg : ∀ e ∈ es, e.1 < us.length ∧ e.2 < us.length := fun e m => by
          obtain ⟨a, b⟩ := e
          have j := ((edj.mem a b).mp m).2.lt
          exact ⟨j.1, j.2.1⟩
        have mts : ∀ t, t ∈ us ↔ t ∈ ts := fun t => pu.mem_iff
        refine ⟨⟨_, SqL.of eR9⟩, for_list (K := K) (a := R0) (xs := us.map V.ref) (fun _ σ' H' => (∃ y7 y8 y9 y10 : Option L2.V, σ' = [some (.ref a), some (.int n), some (.ref s), some (.int (0 + (i : Nat))), some (.ref p), some (.ref R0), some (.ref qe), y7, y8, y9, y10]) ∧ Same H9 H') ⟨⟨_, _, _, _, rfl⟩, Same.refl _⟩ (fun _ σ' H' _ z => SqL.of (z.2 _ _ eR9)) (fun i0 x0 σ' H' hx0 z => ?_) fun σ' H' z => ?_⟩
        · obtain ⟨⟨y7, y8, y9, y10, rfl⟩, s10⟩ := z
          obtain ⟨ta, ea, rfl, mta⟩ := ref_at hx0
          have eR10 := s10 _ _ eR9
          repeat array_get_dec
          refine ⟨⟨_, SqL.of eR10⟩, for_list (K := K) (a := R0) (xs := us.map V.ref) (fun _ σ' H' => (∃ y8 y9 y10 : Option L2.V, σ' = [some (.ref a), some (.int n), some (.ref s), some (.int (0 + (i : Nat))), some (.ref p), some (.ref R0), some (.ref qe), some (.ref ta), y8, y9, y10]) ∧ Same H9 H') ⟨⟨_, _, _, rfl⟩, s10⟩ (fun _ σ' H' _ z => SqL.of (z.2 _ _ eR9)) (fun j0 x1 σ' H' hx1 z => ?_) fun σ' H' z => ?_⟩
          · obtain ⟨⟨y8, y9, y10, rfl⟩, s11⟩ := z
            obtain ⟨tb, eb, rfl, mtb⟩ := ref_at hx1
            have i0l := (List.getElem?_eq_some_iff.mp ea).1
            have j0l := (List.getElem?_eq_some_iff.mp eb).1
            have pa : pt i0 = f ta := by rw [hg, at_ ea]
            have pb : pt j0 = f tb := by rw [hg, at_ eb]
            have lotx := lot9.same s11
            obtain ⟨sA, bA⟩ := lotx.sit ta ((mts ta).mp mta)
            obtain ⟨sB, bB⟩ := lotx.sit tb ((mts tb).mp mtb)
            have mA : f ta ∈ ts.map f := List.mem_map.mpr ⟨ta, (mts ta).mp mta, rfl⟩
            have mB : f tb ∈ ts.map f := List.mem_map.mpr ⟨tb, (mts tb).mp mtb, rfl⟩
            repeat array_get_dec
            refine w_neS sA sB ?_
            by_cases eqf : f ta = f tb
            · rw [decide_eq_true eqf]
              repeat array_get_dec
              refine if_f (A := True) rfl ?_
              exact ⟨⟨_, _, _, rfl⟩, s11⟩
            rw [decide_eq_false eqf]
            repeat array_get_dec
            refine if_t (B := True) rfl ?_
            have ij : i0 ≠ j0 := fun w => eqf (by rw [← pa, ← pb, w])
            repeat array_get_dec
            refine ⟨ta, tb, f, rfl, sA, sB, fun v hv v1 v2 => ?_⟩
            repeat array_get_dec
            refine ⟨ta, tb, f, rfl, sA, sB, fun w hw w1 w2 => ?_⟩
            repeat array_get_dec
            refine fun T H11 s12 n12 e12 => ?_
            have S12 := s11.trans s12
            have lot12 := lot9.same S12
            have sv : Sit H11 v (f v).1 (f v).2 := by
              rcases hv with rfl | rfl
              · exact s12 _ _ sA
              · exact s12 _ _ sB
            have sw : Sit H11 w (f w).1 (f w).2 := by
              rcases hw with rfl | rfl
              · exact s12 _ _ sA
              · exact s12 _ _ sB
            have sitR : ∀ k, k < us.length → Sit H11 (us.getD k R) (pt k).1 (pt k).2 := fun k hk => S12 _ _ (hs9.rows.each k (us.getD k R) (by rw [List.getD_eq_getElem?_getD, List.getElem?_eq_getElem hk]; rfl)).1
            obtain ⟨eg, egv, egr⟩ : ∃ eg : Bool, ((es.map (eP pt)).any fun z => PyData.eqv z (.tuple [dS (f v), dS (f w)])) = eg ∧ (eg = true ↔ RmA f (f ta) (f tb) ts) := by
              have jr : Jn pt us.length i0 j0 ↔ RmA f (f ta) (f tb) ts := by
                rw [Jn.room i0l j0l ij, ← RmA.perm mts, ← at_ ea, ← at_ eb, RmA.rm, hpt]
              rcases Nat.lt_or_gt_of_ne ij with lt | gt
              · have l2 := so i0 j0 lt j0l
                rw [pa, pb] at l2
                have ev : v = ta := by
                  rcases hv with h | rfl
                  · exact h
                  · exfalso
                    unfold lt2 at l2
                    unfold lexLe at v1
                    omega
                have ew : w = tb := by
                  rcases hw with rfl | h
                  · exfalso
                    unfold lt2 at l2
                    unfold lexLe at w2
                    omega
                  · exact h
                subst ev
                subst ew
                refine ⟨decide ((i0, j0) ∈ es), by rw [← pa, ← pb]; exact eP_any so rg i0l j0l, ?_⟩
                rw [decide_eq_true_eq, edj.mem, ← jr]
                exact ⟨fun h => h.2, fun h => ⟨lt, h⟩⟩
              · have l2 := so j0 i0 gt i0l
                rw [pa, pb] at l2
                have ev : v = tb := by
                  rcases hv with rfl | h
                  · exfalso
                    unfold lt2 at l2
                    unfold lexLe at v2
                    omega
                  · exact h
                have ew : w = ta := by
                  rcases hw with h | rfl
                  · exact h
                  · exfalso
                    unfold lt2 at l2
                    unfold lexLe at w1
                    omega
                subst ev
                subst ew
                refine ⟨decide ((j0, i0) ∈ es), by rw [← pa, ← pb]; exact eP_any so rg j0l i0l, ?_⟩
                rw [decide_eq_true_eq, edj.mem, ← jr]
                exact ⟨fun h => h.2.sw, fun h => ⟨gt, h.sw⟩⟩
            repeat array_get_dec
            refine ⟨.tuple [dS (f v), dS (f w)], es.map (eP pt), .tup (SqT.of e12) (.cons (dpS sv) (.cons (dpS sw) .nil)), .lst (SqL.of (S12 _ _ e9)) (eP_dp sitR (prs.same fun u xs e => S12 _ _ e) rg), eP_shaped _ _, eP_list _ _, ?_⟩
            rw [egv]
            repeat array_get_dec
            refine ⟨R0, ta, tb, us, f, f ta, f tb, rfl, S12 _ _ eR9, fun t m => lot12.sit t ((mts t).mp m), fewu, s12 _ _ sA, s12 _ _ sB, bA, bB, fun vp H12 s13 pv => ?_⟩
            have S13 := S12.trans s13
            have lot13 := lot9.same S13
            have sA13 := s13 _ _ (s12 _ _ sA)
            have sB13 := s13 _ _ (s12 _ _ sB)
            have hpn : decide (vp = V.non) = eg := by
              rw [Bool.eq_iff_iff, decide_eq_true_eq, egr, ← RmA.perm mts, ← pap_none]
              cases hp : papF f (f ta) (f tb) us with
              | none =>
                rw [hp] at pv
                have pv : vp = .non := pv
                exact ⟨fun _ => rfl, fun _ => pv⟩
              | some zs =>
                rw [hp] at pv
                obtain ⟨q1, e1, _⟩ := pv
                exact ⟨fun h => (by rw [e1] at h; cases h), fun h => nomatch h⟩
            have pl := pap_mem (f := f) (A := f ta) (B := f tb) (L := us)
            have psh := papD_shaped f (papF f (f ta) (f tb) us) fun zs e => (pl zs e).1
            have pdp {Hx : Hp} {v : V} (s : Same H9 Hx) (h : PapV Hx v (papF f (f ta) (f tb) us)) : Dp K Hx v (papD f (papF f (f ta) (f tb) us)) := pap_dp h fun zs e t m => ((lot9.same s).sit t ((mts t).mp ((pl zs e).2 t m))).1
            have pself : PyData.eqv (papD f (papF f (f ta) (f tb) us)) (papD f (papF f (f ta) (f tb) us)) = true := PySem.SeqAt.eqv_refl _ (SeqAt.canLay_of_shaped psh)
            repeat array_get_dec
            rw [hpn, decide_eq_true rfl]
            refine if_f (A := True) rfl ?_
            repeat array_get_dec
            refine ⟨p, ta, tb, ts, us, f, f ta, f tb, rfl, lot13, sA13, sB13, mA, mB, eqf, pu, srt, fun v2 H13 s14 pv2 => ?_⟩
            have S14 := S13.trans s14
            repeat array_get_dec
            refine ⟨_, _, pdp S14 pv2, pdp S14 (pv.same s14), psh, psh, ?_⟩
            rw [pself]
            repeat array_get_dec
            refine if_f (A := True) rfl ?_
            have lot14 := lot9.same S14
            repeat array_get_dec
            refine ⟨p, _, rfl, SqL.of lot14.at_, fun V1 nV1 => ?_⟩
            have sV : Same H13 (upd H13 V1 (.lst (ts.map V.ref).reverse)) := same_new nV1
            have eV : upd H13 V1 (.lst (ts.map V.ref).reverse) V1 = some (.lst (ts.map V.ref).reverse) := upd_same
            generalize upd H13 V1 (.lst (ts.map V.ref).reverse) = H14 at sV eV ⊢
            have lotV := lot_rev lot14 sV eV
            have S15 := S14.trans sV
            have mAr : f ta ∈ ts.reverse.map f := by rw [List.map_reverse]; exact List.mem_reverse.mpr mA
            have mBr : f tb ∈ ts.reverse.map f := by rw [List.map_reverse]; exact List.mem_reverse.mpr mB
            have sA15 := sV _ _ (s14 _ _ sA13)
            have sB15 := sV _ _ (s14 _ _ sB13)
            repeat array_get_dec
            refine ⟨V1, ta, tb, ts.reverse, us, f, f ta, f tb, rfl, lotV, sA15, sB15, mAr, mBr, eqf, pu.trans (List.reverse_perm ts).symm, srt, fun v3 H15 s16 pv3 => ?_⟩
            have S16 := S15.trans s16
            repeat array_get_dec
            refine ⟨_, _, pdp S16 pv3, pdp S16 (((pv.same s14).same sV).same s16), psh, psh, ?_⟩
            rw [pself]
            repeat array_get_dec
            refine if_f (A := True) rfl ?_
            have lot16 := lot9.same S16
            have sA16 := s16 _ _ sA15
            have sB16 := s16 _ _ sB15
            repeat array_get_dec
            refine ⟨p, ta, tb, ts, f, f ta, f tb, rfl, lot16, sA16, sB16, mA, mB, eqf, fun H16 s17 ex => ?_, fun q2 lo hi H16 s17 n17 no e17 flo fhi => ?_⟩
            · skip
              have S17 := S16.trans s17
              have lot17 := lot9.same S17
              repeat array_get_dec
              refine ⟨p, _, rfl, SqL.of lot17.at_, fun V2 nV2 => ?_⟩
              have sV2 : Same H16 (upd H16 V2 (.lst (ts.map V.ref).reverse)) := same_new nV2
              have eV2 : upd H16 V2 (.lst (ts.map V.ref).reverse) V2 = some (.lst (ts.map V.ref).reverse) := upd_same
              generalize upd H16 V2 (.lst (ts.map V.ref).reverse) = H17 at sV2 eV2 ⊢
              have lotV2 := lot_rev lot17 sV2 eV2
              repeat array_get_dec
              refine ⟨V2, ta, tb, ts.reverse, f, f ta, f tb, rfl, lotV2, sV2 _ _ (s17 _ _ sA16), sV2 _ _ (s17 _ _ sB16), mAr, mBr, eqf, fun H18 s19 ex2 => ?_, fun q3 lo2 hi2 H18 s19 n19 no2 e19 flo2 fhi2 => ?_⟩
              · have S19 := S17.trans (sV2.trans s19)
                repeat array_get_dec
                refine ⟨.none, .none, .non, .non, rfl, rfl, ?_⟩
                rw [show PyData.eqv .none .none = true from rfl]
                repeat array_get_dec
                refine if_f (A := True) rfl ?_
                have lot19 := lot9.same S19
                have sA19 := s19 _ _ (sV2 _ _ (s17 _ _ sA16))
                have sB19 := s19 _ _ (sV2 _ _ (s17 _ _ sB16))
                repeat array_get_dec
                refine ⟨p, ta, tb, ts, f, f ta, f tb, eg, rfl, lot19, sA19, sB19, mA, mB, eqf, egr, fun H20 s20 => ?_⟩
                repeat array_get_dec
                refine if_f (A := True) rfl ?_
                exact ⟨⟨_, _, _, rfl⟩, S19.trans s20⟩
              · obtain ⟨x0, mx, hx0⟩ := ex
                have := no2 x0 (List.mem_reverse.mpr mx)
                rw [hx0] at this
                cases this
            · skip
              have S17 := S16.trans s17
              have lot17 := lot9.same S17
              repeat array_get_dec
              refine ⟨p, _, rfl, SqL.of lot17.at_, fun V2 nV2 => ?_⟩
              have sV2 : Same H16 (upd H16 V2 (.lst (ts.map V.ref).reverse)) := same_new nV2
              have eV2 : upd H16 V2 (.lst (ts.map V.ref).reverse) V2 = some (.lst (ts.map V.ref).reverse) := upd_same
              generalize upd H16 V2 (.lst (ts.map V.ref).reverse) = H17 at sV2 eV2 ⊢
              have lotV2 := lot_rev lot17 sV2 eV2
              repeat array_get_dec
              refine ⟨V2, ta, tb, ts.reverse, f, f ta, f tb, rfl, lotV2, sV2 _ _ (s17 _ _ sA16), sV2 _ _ (s17 _ _ sB16), mAr, mBr, eqf, fun H18 s19 ex2 => ?_, fun q3 lo2 hi2 H18 s19 n19 no2 e19 flo2 fhi2 => ?_⟩
              · obtain ⟨x0, mx, hx0⟩ := ex2
                have := no x0 (List.mem_reverse.mp mx)
                rw [hx0] at this
                cases this
              · have S19 := S17.trans (sV2.trans s19)
                have e17' := s19 _ _ (sV2 _ _ e17)
                have mr : ∀ x, x ∈ rtA f (f ta) (f tb) ts ↔ x ∈ rtA f (f ta) (f tb) ts.reverse := fun x => by unfold rtA; rw [List.mem_filter, List.mem_filter, List.mem_reverse]
                have ml : ∀ x, x ∈ lfA f (f ta) (f tb) ts ↔ x ∈ lfA f (f ta) (f tb) ts.reverse := fun x => by unfold lfA; rw [List.mem_filter, List.mem_filter, List.mem_reverse]
                obtain ⟨o1, a1, b1⟩ := fr_same mr (shb_r lot9.sit mA mB) ((flo.same sV2).same s19) flo2
                obtain ⟨o2, a2, b2⟩ := fr_same ml (shb_l lot9.sit mA mB) ((fhi.same sV2).same s19) fhi2
                repeat array_get_dec
                refine ⟨.tuple [frD o1, frD o2], .tuple [frD o1, frD o2], .tup (SqT.of e17') (.cons (fr_dp a1) (.cons (fr_dp a2) .nil)), .tup (SqT.of e19) (.cons (fr_dp b1) (.cons (fr_dp b2) .nil)), fr_shaped _ _, fr_shaped _ _, ?_⟩
                rw [PySem.SeqAt.eqv_refl _ (SeqAt.canLay_of_shaped (fr_shaped o1 o2))]
                repeat array_get_dec
                refine if_f (A := True) rfl ?_
                have lot19 := lot9.same S19
                have sA19 := s19 _ _ (sV2 _ _ (s17 _ _ sA16))
                have sB19 := s19 _ _ (sV2 _ _ (s17 _ _ sB16))
                repeat array_get_dec
                refine ⟨p, ta, tb, ts, f, f ta, f tb, eg, rfl, lot19, sA19, sB19, mA, mB, eqf, egr, fun H20 s20 => ?_⟩
                repeat array_get_dec
                refine if_f (A := True) rfl ?_
                exact ⟨⟨_, _, _, rfl⟩, S19.trans s20⟩
          · obtain ⟨⟨y8, y9, y10, rfl⟩, s11⟩ := z
            exact ⟨⟨_, _, _, _, rfl⟩, s11⟩
        · obtain ⟨⟨y7, y8, y9, y10, rfl⟩, s10⟩ := z
          exact ⟨⟨_, _, _, _, _, _, _, _, rfl⟩, ((Stp.refl src9).same s10).src, s59.trans s10⟩
      · obtain ⟨⟨y3, y4, y5, y6, y7, y8, y9, y10, rfl⟩, src, s5'⟩ := z
        exact ⟨⟨_, _, _, _, _, _, _, _, _, _, rfl⟩, s5'⟩
    · obtain ⟨⟨y1, y2, y3, y4, y5, y6, y7, y8, y9, y10, rfl⟩, s6⟩ := z
      repeat array_get_dec
      refine fun r1 G1 c1 o1 h1 => ?_
      repeat array_get_dec
      refine fun r2 G2 c2 o2 h2 => ?_
      repeat array_get_dec
      refine fun r3 G3 c3 o3 h3 => ?_
      repeat array_get_dec
      refine fun r4 G4 c4 o4 h4 => ?_
      repeat array_get_dec
      refine fun l4 G5 c5 o5 h5 => ?_
      repeat array_get_dec
      refine fun ta G6 c6 o6 h6 => ?_
      repeat array_get_dec
      refine fun tb G7 c7 o7 h7 => ?_
      have c57 := c6.trans c7
      have x1 : Sit G7 r1 0 0 := c57 _ _ (c5 _ _ (c4 _ _ (c3 _ _ (c2 _ _ h1))))
      have x2 : Sit G7 r2 2 0 := c57 _ _ (c5 _ _ (c4 _ _ (c3 _ _ h2)))
      have x3 : Sit G7 r3 0 2 := c57 _ _ (c5 _ _ (c4 _ _ h3))
      have x4 : Sit G7 r4 2 2 := c57 _ _ (c5 _ _ h4)
      have xa : Sit G7 ta 0 0 := c7 _ _ h6
      have xb : Sit G7 tb 2 2 := h7
      obtain ⟨g, hg⟩ : ∃ g, g = hv G7 := ⟨_, rfl⟩
      have v1 : g r1 = (0, 0) := by rw [hg, hv_of x1]
      have v2 : g r2 = (2, 0) := by rw [hg, hv_of x2]
      have v3 : g r3 = (0, 2) := by rw [hg, hv_of x3]
      have v4 : g r4 = (2, 2) := by rw [hg, hv_of x4]
      have lot4 : Lot g G7 l4 [r1, r2, r3, r4] := ⟨c57 _ _ h5, by show 0 < 4; decide, by show 4 < 64; decide, fun t m => by
        simp only [List.mem_cons, List.not_mem_nil, or_false] at m
        rcases m with rfl | rfl | rfl | rfl
        · rw [v1]; exact ⟨x1, by decide, by decide, by decide, by decide⟩
        · rw [v2]; exact ⟨x2, by decide, by decide, by decide, by decide⟩
        · rw [v3]; exact ⟨x3, by decide, by decide, by decide, by decide⟩
        · rw [v4]; exact ⟨x4, by decide, by decide, by decide, by decide⟩, by simp [v1, v2, v3, v4]⟩
      have pf : papF g (0, 0) (2, 2) [r1, r3, r2, r4] = some [r2, r3] := by
        have b1 : btwA g (0, 0) (2, 2) r1 = false := by unfold btwA; rw [v1]; decide
        have b2 : btwA g (0, 0) (2, 2) r2 = false := by unfold btwA; rw [v2]; decide
        have b3 : btwA g (0, 0) (2, 2) r3 = false := by unfold btwA; rw [v3]; decide
        have b4 : btwA g (0, 0) (2, 2) r4 = false := by unfold btwA; rw [v4]; decide
        have t1 : tn (0, 0) (2, 2) (g r1) = 0 := by rw [v1]; decide
        have t2 : tn (0, 0) (2, 2) (g r2) = -4 := by rw [v2]; decide
        have t3 : tn (0, 0) (2, 2) (g r3) = 4 := by rw [v3]; decide
        have t4 : tn (0, 0) (2, 2) (g r4) = 0 := by rw [v4]; decide
        have er : rtA g (0, 0) (2, 2) [r1, r3, r2, r4] = [r2] := by simp [rtA, t1, t2, t3, t4]
        have el : lfA g (0, 0) (2, 2) [r1, r3, r2, r4] = [r3] := by simp [lfA, t1, t2, t3, t4]
        have vi : vio2 g (0, 0) (2, 2) r2 r3 = true := by
          unfold vio2 vioA
          rw [v2, v3]
          decide
        unfold papF
        rw [er, el]
        simp [b1, b2, b3, b4, vi]
      repeat array_get_dec
      refine ⟨l4, ta, tb, [r1, r2, r3, r4], [r1, r3, r2, r4], g, (0, 0), (2, 2), rfl, lot4, xa, xb, List.mem_map.mpr ⟨r1, by simp, v1⟩, List.mem_map.mpr ⟨r4, by simp, v4⟩, by decide, .cons _ (.swap _ _ _), by simp [v1, v2, v3, v4, lt2], fun v G8 c8 pv => ?_⟩
      rw [pf] at pv
      obtain ⟨qv, rfl, eqv⟩ := pv
      repeat array_get_dec
      refine fun w1 J1 d1 m1 j1 => ?_
      repeat array_get_dec
      refine fun w2 J2 d2 m2 j2 => ?_
      repeat array_get_dec
      refine fun w3 J3 d3 m3 j3 => ?_
      have C3 := c8.trans (d1.trans (d2.trans d3))
      repeat array_get_dec
      refine ⟨.tuple [dS (2, 0), dS (0, 2)], .tuple [dS (2, 0), dS (0, 2)], .tup (SqT.of (d3 _ _ (d2 _ _ (d1 _ _ eqv)))) (.cons (dpS (p := (2, 0)) (C3 _ _ x2)) (.cons (dpS (p := (0, 2)) (C3 _ _ x3)) .nil)), .tup (SqT.of j3) (.cons (dpS (p := (2, 0)) (d3 _ _ (d2 _ _ j1))) (.cons (dpS (p := (0, 2)) (d3 _ _ j2)) .nil)), eP_shaped _ _, eP_shaped _ _, ?_⟩
      rw [PySem.SeqAt.eqv_refl _ (SeqAt.canLay_of_shaped (eP_shaped _ _))]
      exact q _
end
/-! ### what the top has written; the law's own head -/
theorem all_mk {l : PySem.W.OpenLaw} {w : World} {K : PySem.W.Frag} {h : Heap} {mg : Str → Option Value} {fa C f_fraction f_is_site f_are_sites f_check_sites f_ascending f_check_member f_check_two f_linked f_settle f_turn_over f_take_out f_merge f_enclose f_edges_of f_centres f_beside f_lowest f_avoided f_first_against f__law_source_of f__law_next f__law_one f__law_cell_at f__law_sites f__law_square f__law_turn f__law_common f__law_place f__law_centre f__law_at f__law_is_on f__law_paper f__law_room_right fL fM__init__ fMedges : Addr} (X : K.In h) (G : h.Ns mainGlobals mg) (hfa : mg "law" = some (.ref fa))
    {od_fraction an_fraction : Option Addr} {sl_fraction : Array (Option Value)} {oc_fraction kV_fraction dc_fraction pm_fraction cd_fraction ct_fraction : Value}
    {od_is_site an_is_site : Option Addr} {sl_is_site : Array (Option Value)} {oc_is_site kV_is_site dc_is_site pm_is_site cd_is_site ct_is_site : Value}
    {od_are_sites an_are_sites : Option Addr} {sl_are_sites : Array (Option Value)} {oc_are_sites kV_are_sites dc_are_sites pm_are_sites cd_are_sites ct_are_sites : Value}
    {od_check_sites an_check_sites : Option Addr} {sl_check_sites : Array (Option Value)} {oc_check_sites kV_check_sites dc_check_sites pm_check_sites cd_check_sites ct_check_sites : Value}
    {od_ascending an_ascending : Option Addr} {sl_ascending : Array (Option Value)} {oc_ascending kV_ascending dc_ascending pm_ascending cd_ascending ct_ascending : Value}
    {od_check_member an_check_member : Option Addr} {sl_check_member : Array (Option Value)} {oc_check_member kV_check_member dc_check_member pm_check_member cd_check_member ct_check_member : Value}
    {od_check_two an_check_two : Option Addr} {sl_check_two : Array (Option Value)} {oc_check_two kV_check_two dc_check_two pm_check_two cd_check_two ct_check_two : Value}
    {od_linked an_linked : Option Addr} {sl_linked : Array (Option Value)} {oc_linked kV_linked dc_linked pm_linked cd_linked ct_linked : Value}
    {od_settle an_settle : Option Addr} {sl_settle : Array (Option Value)} {oc_settle kV_settle dc_settle pm_settle cd_settle ct_settle : Value}
    {od_turn_over an_turn_over : Option Addr} {sl_turn_over : Array (Option Value)} {oc_turn_over kV_turn_over dc_turn_over pm_turn_over cd_turn_over ct_turn_over : Value}
    {od_take_out an_take_out : Option Addr} {sl_take_out : Array (Option Value)} {oc_take_out kV_take_out dc_take_out pm_take_out cd_take_out ct_take_out : Value}
    {od_merge an_merge : Option Addr} {sl_merge : Array (Option Value)} {oc_merge kV_merge dc_merge pm_merge cd_merge ct_merge : Value}
    {od_enclose an_enclose : Option Addr} {sl_enclose : Array (Option Value)} {oc_enclose kV_enclose dc_enclose pm_enclose cd_enclose ct_enclose : Value}
    {od_edges_of an_edges_of : Option Addr} {sl_edges_of : Array (Option Value)} {oc_edges_of kV_edges_of dc_edges_of pm_edges_of cd_edges_of ct_edges_of : Value}
    {od_centres an_centres : Option Addr} {sl_centres : Array (Option Value)} {oc_centres kV_centres dc_centres pm_centres cd_centres ct_centres : Value}
    {od_beside an_beside : Option Addr} {sl_beside : Array (Option Value)} {oc_beside kV_beside dc_beside pm_beside cd_beside ct_beside : Value}
    {od_lowest an_lowest : Option Addr} {sl_lowest : Array (Option Value)} {oc_lowest kV_lowest dc_lowest pm_lowest cd_lowest ct_lowest : Value}
    {od_avoided an_avoided : Option Addr} {sl_avoided : Array (Option Value)} {oc_avoided kV_avoided dc_avoided pm_avoided cd_avoided ct_avoided : Value}
    {od_first_against an_first_against : Option Addr} {sl_first_against : Array (Option Value)} {oc_first_against kV_first_against dc_first_against pm_first_against cd_first_against ct_first_against : Value}
    {od__law_source_of an__law_source_of : Option Addr} {sl__law_source_of : Array (Option Value)} {oc__law_source_of kV__law_source_of dc__law_source_of pm__law_source_of cd__law_source_of ct__law_source_of : Value}
    {od__law_next an__law_next : Option Addr} {sl__law_next : Array (Option Value)} {oc__law_next kV__law_next dc__law_next pm__law_next cd__law_next ct__law_next : Value}
    {od__law_one an__law_one : Option Addr} {sl__law_one : Array (Option Value)} {oc__law_one kV__law_one dc__law_one pm__law_one cd__law_one ct__law_one : Value}
    {od__law_cell_at an__law_cell_at : Option Addr} {sl__law_cell_at : Array (Option Value)} {oc__law_cell_at kV__law_cell_at dc__law_cell_at pm__law_cell_at cd__law_cell_at ct__law_cell_at : Value}
    {od__law_sites an__law_sites : Option Addr} {sl__law_sites : Array (Option Value)} {oc__law_sites kV__law_sites dc__law_sites pm__law_sites cd__law_sites ct__law_sites : Value}
    {od__law_square an__law_square : Option Addr} {sl__law_square : Array (Option Value)} {oc__law_square kV__law_square dc__law_square pm__law_square cd__law_square ct__law_square : Value}
    {od__law_turn an__law_turn : Option Addr} {sl__law_turn : Array (Option Value)} {oc__law_turn kV__law_turn dc__law_turn pm__law_turn cd__law_turn ct__law_turn : Value}
    {od__law_common an__law_common : Option Addr} {sl__law_common : Array (Option Value)} {oc__law_common kV__law_common dc__law_common pm__law_common cd__law_common ct__law_common : Value}
    {od__law_place an__law_place : Option Addr} {sl__law_place : Array (Option Value)} {oc__law_place kV__law_place dc__law_place pm__law_place cd__law_place ct__law_place : Value}
    {od__law_centre an__law_centre : Option Addr} {sl__law_centre : Array (Option Value)} {oc__law_centre kV__law_centre dc__law_centre pm__law_centre cd__law_centre ct__law_centre : Value}
    {od__law_at an__law_at : Option Addr} {sl__law_at : Array (Option Value)} {oc__law_at kV__law_at dc__law_at pm__law_at cd__law_at ct__law_at : Value}
    {od__law_is_on an__law_is_on : Option Addr} {sl__law_is_on : Array (Option Value)} {oc__law_is_on kV__law_is_on dc__law_is_on pm__law_is_on cd__law_is_on ct__law_is_on : Value}
    {od__law_paper an__law_paper : Option Addr} {sl__law_paper : Array (Option Value)} {oc__law_paper kV__law_paper dc__law_paper pm__law_paper cd__law_paper ct__law_paper : Value}
    {od__law_room_right an__law_room_right : Option Addr} {sl__law_room_right : Array (Option Value)} {oc__law_room_right kV__law_room_right dc__law_room_right pm__law_room_right cd__law_room_right ct__law_room_right : Value}
    {odL anL : Option Addr} {slL : Array (Option Value)} {ocL kVL dcL pmL cdL ctL : Value}
    {odM__init__ anM__init__ : Option Addr} {slM__init__ : Array (Option Value)} {ocM__init__ kVM__init__ dcM__init__ pmM__init__ cdM__init__ ctM__init__ : Value}
    {odMedges anMedges : Option Addr} {slMedges : Array (Option Value)} {ocMedges kVMedges dcMedges pmMedges cdMedges ctMedges : Value}
    {tMOST_SITES : Tok}
    (a_fraction : PySem.W.nsIn K mainGlobals "fraction" = some (some (.ref f_fraction))) (l_fraction : K.lookup f_fraction = some ⟨oc_fraction, od_fraction, .func (PySem.W.fnOf "fraction" "fraction" (defArgs sFrac) (defBody sFrac) (defScope sFrac) .none kV_fraction dc_fraction pm_fraction an_fraction cd_fraction ct_fraction), sl_fraction⟩) (c_fraction : PySem.W.codeIn K cd_fraction "fraction" = true) (k_fraction : PySem.W.keepIn K (.ref f_fraction) = true)
    (a_is_site : PySem.W.nsIn K mainGlobals "is_site" = some (some (.ref f_is_site))) (l_is_site : K.lookup f_is_site = some ⟨oc_is_site, od_is_site, .func (PySem.W.fnOf "is_site" "is_site" (defArgs sIsSite) (defBody sIsSite) (defScope sIsSite) .none kV_is_site dc_is_site pm_is_site an_is_site cd_is_site ct_is_site), sl_is_site⟩) (c_is_site : PySem.W.codeIn K cd_is_site "is_site" = true) (k_is_site : PySem.W.keepIn K (.ref f_is_site) = true)
    (a_are_sites : PySem.W.nsIn K mainGlobals "are_sites" = some (some (.ref f_are_sites))) (l_are_sites : K.lookup f_are_sites = some ⟨oc_are_sites, od_are_sites, .func (PySem.W.fnOf "are_sites" "are_sites" (defArgs s_are_sites) (defBody s_are_sites) (defScope s_are_sites) .none kV_are_sites dc_are_sites pm_are_sites an_are_sites cd_are_sites ct_are_sites), sl_are_sites⟩) (c_are_sites : PySem.W.codeIn K cd_are_sites "are_sites" = true) (k_are_sites : PySem.W.keepIn K (.ref f_are_sites) = true)
    (a_check_sites : PySem.W.nsIn K mainGlobals "check_sites" = some (some (.ref f_check_sites))) (l_check_sites : K.lookup f_check_sites = some ⟨oc_check_sites, od_check_sites, .func (PySem.W.fnOf "check_sites" "check_sites" (defArgs s_check_sites) (defBody s_check_sites) (defScope s_check_sites) .none kV_check_sites dc_check_sites pm_check_sites an_check_sites cd_check_sites ct_check_sites), sl_check_sites⟩) (c_check_sites : PySem.W.codeIn K cd_check_sites "check_sites" = true) (k_check_sites : PySem.W.keepIn K (.ref f_check_sites) = true)
    (a_ascending : PySem.W.nsIn K mainGlobals "ascending" = some (some (.ref f_ascending))) (l_ascending : K.lookup f_ascending = some ⟨oc_ascending, od_ascending, .func (PySem.W.fnOf "ascending" "ascending" (defArgs s_ascending) (defBody s_ascending) (defScope s_ascending) .none kV_ascending dc_ascending pm_ascending an_ascending cd_ascending ct_ascending), sl_ascending⟩) (c_ascending : PySem.W.codeIn K cd_ascending "ascending" = true) (k_ascending : PySem.W.keepIn K (.ref f_ascending) = true)
    (a_check_member : PySem.W.nsIn K mainGlobals "check_member" = some (some (.ref f_check_member))) (l_check_member : K.lookup f_check_member = some ⟨oc_check_member, od_check_member, .func (PySem.W.fnOf "check_member" "check_member" (defArgs s_check_member) (defBody s_check_member) (defScope s_check_member) .none kV_check_member dc_check_member pm_check_member an_check_member cd_check_member ct_check_member), sl_check_member⟩) (c_check_member : PySem.W.codeIn K cd_check_member "check_member" = true) (k_check_member : PySem.W.keepIn K (.ref f_check_member) = true)
    (a_check_two : PySem.W.nsIn K mainGlobals "check_two" = some (some (.ref f_check_two))) (l_check_two : K.lookup f_check_two = some ⟨oc_check_two, od_check_two, .func (PySem.W.fnOf "check_two" "check_two" (defArgs s_check_two) (defBody s_check_two) (defScope s_check_two) .none kV_check_two dc_check_two pm_check_two an_check_two cd_check_two ct_check_two), sl_check_two⟩) (c_check_two : PySem.W.codeIn K cd_check_two "check_two" = true) (k_check_two : PySem.W.keepIn K (.ref f_check_two) = true)
    (a_linked : PySem.W.nsIn K mainGlobals "linked" = some (some (.ref f_linked))) (l_linked : K.lookup f_linked = some ⟨oc_linked, od_linked, .func (PySem.W.fnOf "linked" "linked" (defArgs s_linked) (defBody s_linked) (defScope s_linked) .none kV_linked dc_linked pm_linked an_linked cd_linked ct_linked), sl_linked⟩) (c_linked : PySem.W.codeIn K cd_linked "linked" = true) (k_linked : PySem.W.keepIn K (.ref f_linked) = true)
    (a_settle : PySem.W.nsIn K mainGlobals "settle" = some (some (.ref f_settle))) (l_settle : K.lookup f_settle = some ⟨oc_settle, od_settle, .func (PySem.W.fnOf "settle" "settle" (defArgs s_settle) (defBody s_settle) (defScope s_settle) .none kV_settle dc_settle pm_settle an_settle cd_settle ct_settle), sl_settle⟩) (c_settle : PySem.W.codeIn K cd_settle "settle" = true) (k_settle : PySem.W.keepIn K (.ref f_settle) = true)
    (a_turn_over : PySem.W.nsIn K mainGlobals "turn_over" = some (some (.ref f_turn_over))) (l_turn_over : K.lookup f_turn_over = some ⟨oc_turn_over, od_turn_over, .func (PySem.W.fnOf "turn_over" "turn_over" (defArgs s_turn_over) (defBody s_turn_over) (defScope s_turn_over) .none kV_turn_over dc_turn_over pm_turn_over an_turn_over cd_turn_over ct_turn_over), sl_turn_over⟩) (c_turn_over : PySem.W.codeIn K cd_turn_over "turn_over" = true) (k_turn_over : PySem.W.keepIn K (.ref f_turn_over) = true)
    (a_take_out : PySem.W.nsIn K mainGlobals "take_out" = some (some (.ref f_take_out))) (l_take_out : K.lookup f_take_out = some ⟨oc_take_out, od_take_out, .func (PySem.W.fnOf "take_out" "take_out" (defArgs s_take_out) (defBody s_take_out) (defScope s_take_out) .none kV_take_out dc_take_out pm_take_out an_take_out cd_take_out ct_take_out), sl_take_out⟩) (c_take_out : PySem.W.codeIn K cd_take_out "take_out" = true) (k_take_out : PySem.W.keepIn K (.ref f_take_out) = true)
    (a_merge : PySem.W.nsIn K mainGlobals "merge" = some (some (.ref f_merge))) (l_merge : K.lookup f_merge = some ⟨oc_merge, od_merge, .func (PySem.W.fnOf "merge" "merge" (defArgs s_merge) (defBody s_merge) (defScope s_merge) .none kV_merge dc_merge pm_merge an_merge cd_merge ct_merge), sl_merge⟩) (c_merge : PySem.W.codeIn K cd_merge "merge" = true) (k_merge : PySem.W.keepIn K (.ref f_merge) = true)
    (a_enclose : PySem.W.nsIn K mainGlobals "enclose" = some (some (.ref f_enclose))) (l_enclose : K.lookup f_enclose = some ⟨oc_enclose, od_enclose, .func (PySem.W.fnOf "enclose" "enclose" (defArgs s_enclose) (defBody s_enclose) (defScope s_enclose) .none kV_enclose dc_enclose pm_enclose an_enclose cd_enclose ct_enclose), sl_enclose⟩) (c_enclose : PySem.W.codeIn K cd_enclose "enclose" = true) (k_enclose : PySem.W.keepIn K (.ref f_enclose) = true)
    (a_edges_of : PySem.W.nsIn K mainGlobals "edges_of" = some (some (.ref f_edges_of))) (l_edges_of : K.lookup f_edges_of = some ⟨oc_edges_of, od_edges_of, .func (PySem.W.fnOf "edges_of" "edges_of" (defArgs s_edges_of) (defBody s_edges_of) (defScope s_edges_of) .none kV_edges_of dc_edges_of pm_edges_of an_edges_of cd_edges_of ct_edges_of), sl_edges_of⟩) (c_edges_of : PySem.W.codeIn K cd_edges_of "edges_of" = true) (k_edges_of : PySem.W.keepIn K (.ref f_edges_of) = true)
    (a_centres : PySem.W.nsIn K mainGlobals "centres" = some (some (.ref f_centres))) (l_centres : K.lookup f_centres = some ⟨oc_centres, od_centres, .func (PySem.W.fnOf "centres" "centres" (defArgs s_centres) (defBody s_centres) (defScope s_centres) .none kV_centres dc_centres pm_centres an_centres cd_centres ct_centres), sl_centres⟩) (c_centres : PySem.W.codeIn K cd_centres "centres" = true) (k_centres : PySem.W.keepIn K (.ref f_centres) = true)
    (a_beside : PySem.W.nsIn K mainGlobals "beside" = some (some (.ref f_beside))) (l_beside : K.lookup f_beside = some ⟨oc_beside, od_beside, .func (PySem.W.fnOf "beside" "beside" (defArgs s_beside) (defBody s_beside) (defScope s_beside) .none kV_beside dc_beside pm_beside an_beside cd_beside ct_beside), sl_beside⟩) (c_beside : PySem.W.codeIn K cd_beside "beside" = true) (k_beside : PySem.W.keepIn K (.ref f_beside) = true)
    (a_lowest : PySem.W.nsIn K mainGlobals "lowest" = some (some (.ref f_lowest))) (l_lowest : K.lookup f_lowest = some ⟨oc_lowest, od_lowest, .func (PySem.W.fnOf "lowest" "lowest" (defArgs s_lowest) (defBody s_lowest) (defScope s_lowest) .none kV_lowest dc_lowest pm_lowest an_lowest cd_lowest ct_lowest), sl_lowest⟩) (c_lowest : PySem.W.codeIn K cd_lowest "lowest" = true) (k_lowest : PySem.W.keepIn K (.ref f_lowest) = true)
    (a_avoided : PySem.W.nsIn K mainGlobals "avoided" = some (some (.ref f_avoided))) (l_avoided : K.lookup f_avoided = some ⟨oc_avoided, od_avoided, .func (PySem.W.fnOf "avoided" "avoided" (defArgs s_avoided) (defBody s_avoided) (defScope s_avoided) .none kV_avoided dc_avoided pm_avoided an_avoided cd_avoided ct_avoided), sl_avoided⟩) (c_avoided : PySem.W.codeIn K cd_avoided "avoided" = true) (k_avoided : PySem.W.keepIn K (.ref f_avoided) = true)
    (a_first_against : PySem.W.nsIn K mainGlobals "first_against" = some (some (.ref f_first_against))) (l_first_against : K.lookup f_first_against = some ⟨oc_first_against, od_first_against, .func (PySem.W.fnOf "first_against" "first_against" (defArgs s_first_against) (defBody s_first_against) (defScope s_first_against) .none kV_first_against dc_first_against pm_first_against an_first_against cd_first_against ct_first_against), sl_first_against⟩) (c_first_against : PySem.W.codeIn K cd_first_against "first_against" = true) (k_first_against : PySem.W.keepIn K (.ref f_first_against) = true)
    (a__law_source_of : PySem.W.nsIn K mainGlobals "_law_source_of" = some (some (.ref f__law_source_of))) (l__law_source_of : K.lookup f__law_source_of = some ⟨oc__law_source_of, od__law_source_of, .func (PySem.W.fnOf "_law_source_of" "_law_source_of" (defArgs sSrc) (defBody sSrc) (defScope sSrc) .none kV__law_source_of dc__law_source_of pm__law_source_of an__law_source_of cd__law_source_of ct__law_source_of), sl__law_source_of⟩) (c__law_source_of : PySem.W.codeIn K cd__law_source_of "_law_source_of" = true) (k__law_source_of : PySem.W.keepIn K (.ref f__law_source_of) = true)
    (a__law_next : PySem.W.nsIn K mainGlobals "_law_next" = some (some (.ref f__law_next))) (l__law_next : K.lookup f__law_next = some ⟨oc__law_next, od__law_next, .func (PySem.W.fnOf "_law_next" "_law_next" (defArgs sNext) (defBody sNext) (defScope sNext) .none kV__law_next dc__law_next pm__law_next an__law_next cd__law_next ct__law_next), sl__law_next⟩) (c__law_next : PySem.W.codeIn K cd__law_next "_law_next" = true) (k__law_next : PySem.W.keepIn K (.ref f__law_next) = true)
    (a__law_one : PySem.W.nsIn K mainGlobals "_law_one" = some (some (.ref f__law_one))) (l__law_one : K.lookup f__law_one = some ⟨oc__law_one, od__law_one, .func (PySem.W.fnOf "_law_one" "_law_one" (defArgs sOne) (defBody sOne) (defScope sOne) .none kV__law_one dc__law_one pm__law_one an__law_one cd__law_one ct__law_one), sl__law_one⟩) (c__law_one : PySem.W.codeIn K cd__law_one "_law_one" = true) (k__law_one : PySem.W.keepIn K (.ref f__law_one) = true)
    (a__law_cell_at : PySem.W.nsIn K mainGlobals "_law_cell_at" = some (some (.ref f__law_cell_at))) (l__law_cell_at : K.lookup f__law_cell_at = some ⟨oc__law_cell_at, od__law_cell_at, .func (PySem.W.fnOf "_law_cell_at" "_law_cell_at" (defArgs sCell) (defBody sCell) (defScope sCell) .none kV__law_cell_at dc__law_cell_at pm__law_cell_at an__law_cell_at cd__law_cell_at ct__law_cell_at), sl__law_cell_at⟩) (c__law_cell_at : PySem.W.codeIn K cd__law_cell_at "_law_cell_at" = true) (k__law_cell_at : PySem.W.keepIn K (.ref f__law_cell_at) = true)
    (a__law_sites : PySem.W.nsIn K mainGlobals "_law_sites" = some (some (.ref f__law_sites))) (l__law_sites : K.lookup f__law_sites = some ⟨oc__law_sites, od__law_sites, .func (PySem.W.fnOf "_law_sites" "_law_sites" (defArgs sSites) (defBody sSites) (defScope sSites) .none kV__law_sites dc__law_sites pm__law_sites an__law_sites cd__law_sites ct__law_sites), sl__law_sites⟩) (c__law_sites : PySem.W.codeIn K cd__law_sites "_law_sites" = true) (k__law_sites : PySem.W.keepIn K (.ref f__law_sites) = true)
    (a__law_square : PySem.W.nsIn K mainGlobals "_law_square" = some (some (.ref f__law_square))) (l__law_square : K.lookup f__law_square = some ⟨oc__law_square, od__law_square, .func (PySem.W.fnOf "_law_square" "_law_square" (defArgs s__law_square) (defBody s__law_square) (defScope s__law_square) .none kV__law_square dc__law_square pm__law_square an__law_square cd__law_square ct__law_square), sl__law_square⟩) (c__law_square : PySem.W.codeIn K cd__law_square "_law_square" = true) (k__law_square : PySem.W.keepIn K (.ref f__law_square) = true)
    (a__law_turn : PySem.W.nsIn K mainGlobals "_law_turn" = some (some (.ref f__law_turn))) (l__law_turn : K.lookup f__law_turn = some ⟨oc__law_turn, od__law_turn, .func (PySem.W.fnOf "_law_turn" "_law_turn" (defArgs sLTurn) (defBody sLTurn) (defScope sLTurn) .none kV__law_turn dc__law_turn pm__law_turn an__law_turn cd__law_turn ct__law_turn), sl__law_turn⟩) (c__law_turn : PySem.W.codeIn K cd__law_turn "_law_turn" = true) (k__law_turn : PySem.W.keepIn K (.ref f__law_turn) = true)
    (a__law_common : PySem.W.nsIn K mainGlobals "_law_common" = some (some (.ref f__law_common))) (l__law_common : K.lookup f__law_common = some ⟨oc__law_common, od__law_common, .func (PySem.W.fnOf "_law_common" "_law_common" (defArgs sLCom) (defBody sLCom) (defScope sLCom) .none kV__law_common dc__law_common pm__law_common an__law_common cd__law_common ct__law_common), sl__law_common⟩) (c__law_common : PySem.W.codeIn K cd__law_common "_law_common" = true) (k__law_common : PySem.W.keepIn K (.ref f__law_common) = true)
    (a__law_place : PySem.W.nsIn K mainGlobals "_law_place" = some (some (.ref f__law_place))) (l__law_place : K.lookup f__law_place = some ⟨oc__law_place, od__law_place, .func (PySem.W.fnOf "_law_place" "_law_place" (defArgs sLPl) (defBody sLPl) (defScope sLPl) .none kV__law_place dc__law_place pm__law_place an__law_place cd__law_place ct__law_place), sl__law_place⟩) (c__law_place : PySem.W.codeIn K cd__law_place "_law_place" = true) (k__law_place : PySem.W.keepIn K (.ref f__law_place) = true)
    (a__law_centre : PySem.W.nsIn K mainGlobals "_law_centre" = some (some (.ref f__law_centre))) (l__law_centre : K.lookup f__law_centre = some ⟨oc__law_centre, od__law_centre, .func (PySem.W.fnOf "_law_centre" "_law_centre" (defArgs sLCen) (defBody sLCen) (defScope sLCen) .none kV__law_centre dc__law_centre pm__law_centre an__law_centre cd__law_centre ct__law_centre), sl__law_centre⟩) (c__law_centre : PySem.W.codeIn K cd__law_centre "_law_centre" = true) (k__law_centre : PySem.W.keepIn K (.ref f__law_centre) = true)
    (a__law_at : PySem.W.nsIn K mainGlobals "_law_at" = some (some (.ref f__law_at))) (l__law_at : K.lookup f__law_at = some ⟨oc__law_at, od__law_at, .func (PySem.W.fnOf "_law_at" "_law_at" (defArgs s__law_at) (defBody s__law_at) (defScope s__law_at) .none kV__law_at dc__law_at pm__law_at an__law_at cd__law_at ct__law_at), sl__law_at⟩) (c__law_at : PySem.W.codeIn K cd__law_at "_law_at" = true) (k__law_at : PySem.W.keepIn K (.ref f__law_at) = true)
    (a__law_is_on : PySem.W.nsIn K mainGlobals "_law_is_on" = some (some (.ref f__law_is_on))) (l__law_is_on : K.lookup f__law_is_on = some ⟨oc__law_is_on, od__law_is_on, .func (PySem.W.fnOf "_law_is_on" "_law_is_on" (defArgs s__law_is_on) (defBody s__law_is_on) (defScope s__law_is_on) .none kV__law_is_on dc__law_is_on pm__law_is_on an__law_is_on cd__law_is_on ct__law_is_on), sl__law_is_on⟩) (c__law_is_on : PySem.W.codeIn K cd__law_is_on "_law_is_on" = true) (k__law_is_on : PySem.W.keepIn K (.ref f__law_is_on) = true)
    (a__law_paper : PySem.W.nsIn K mainGlobals "_law_paper" = some (some (.ref f__law_paper))) (l__law_paper : K.lookup f__law_paper = some ⟨oc__law_paper, od__law_paper, .func (PySem.W.fnOf "_law_paper" "_law_paper" (defArgs s__law_paper) (defBody s__law_paper) (defScope s__law_paper) .none kV__law_paper dc__law_paper pm__law_paper an__law_paper cd__law_paper ct__law_paper), sl__law_paper⟩) (c__law_paper : PySem.W.codeIn K cd__law_paper "_law_paper" = true) (k__law_paper : PySem.W.keepIn K (.ref f__law_paper) = true)
    (a__law_room_right : PySem.W.nsIn K mainGlobals "_law_room_right" = some (some (.ref f__law_room_right))) (l__law_room_right : K.lookup f__law_room_right = some ⟨oc__law_room_right, od__law_room_right, .func (PySem.W.fnOf "_law_room_right" "_law_room_right" (defArgs s__law_room_right) (defBody s__law_room_right) (defScope s__law_room_right) .none kV__law_room_right dc__law_room_right pm__law_room_right an__law_room_right cd__law_room_right ct__law_room_right), sl__law_room_right⟩) (c__law_room_right : PySem.W.codeIn K cd__law_room_right "_law_room_right" = true) (k__law_room_right : PySem.W.keepIn K (.ref f__law_room_right) = true)
    (aL : PySem.W.nsIn K mainGlobals "law" = some (some (.ref fL))) (lL : K.lookup fL = some ⟨ocL, odL, .func (PySem.W.fnOf "law" "law" (defArgs s_law) (defBody s_law) (defScope s_law) .none kVL dcL pmL anL cdL ctL), slL⟩) (cL : PySem.W.codeIn K cdL "law" = true) (kL : PySem.W.keepIn K (.ref fL) = true)
    (aC : PySem.W.nsIn K mainGlobals "Subdivision" = some (some (.ref C)))
    (aM__init__ : PySem.W.findIn K (.ref C) "__init__" = some (some (.ref fM__init__))) (iM__init__ : PySem.W.isFn K (.ref fM__init__) = true) (lM__init__ : K.lookup fM__init__ = some ⟨ocM__init__, odM__init__, .func (PySem.W.fnOf "__init__" "Subdivision.__init__" (defArgs s___init__) (defBody s___init__) (defScope s___init__) .none kVM__init__ dcM__init__ pmM__init__ anM__init__ cdM__init__ ctM__init__), slM__init__⟩) (cM__init__ : PySem.W.codeIn K cdM__init__ "Subdivision.__init__" = true) (kM__init__ : PySem.W.keepIn K (.ref fM__init__) = true)
    (aMedges : PySem.W.findIn K (.ref C) "edges" = some (some (.ref fMedges))) (iMedges : PySem.W.isFn K (.ref fMedges) = true) (lMedges : K.lookup fMedges = some ⟨ocMedges, odMedges, .func (PySem.W.fnOf "edges" "Subdivision.edges" (defArgs s_edges) (defBody s_edges) (defScope s_edges) .none kVMedges dcMedges pmMedges anMedges cdMedges ctMedges), slMedges⟩) (cMedges : PySem.W.codeIn K cdMedges "Subdivision.edges" = true) (kMedges : PySem.W.keepIn K (.ref fMedges) = true)
    (pgC : PySem.W.plainGet K C Str.empty = true) (hdC : PySem.W.hasDictIn K C = true) (poC : PySem.W.plainOver K C = true) (saC : PySem.W.findIn K (.ref C) "__setattr__" = some (some (.builtin "object.__setattr__"))) (mkC : PySem.W.makesIn K C = true) (kcC : PySem.W.keepIn K (.ref C) = true)
    (nrows : PySem.W.findIn K (.ref C) "rows" = some none)
    (nlinks : PySem.W.findIn K (.ref C) "links" = some none)
    (nlines : PySem.W.findIn K (.ref C) "lines" = some none)
    (nparts : PySem.W.findIn K (.ref C) "parts" = some none)
    (ggcd : PySem.W.nsIn K mainGlobals "gcd" = some (some (.builtin "math.gcd")))
    (zabs : PySem.W.nsIn K mainGlobals "abs" = some none)
    (zenumerate : PySem.W.nsIn K mainGlobals "enumerate" = some none)
    (zint : PySem.W.nsIn K mainGlobals "int" = some none)
    (zisinstance : PySem.W.nsIn K mainGlobals "isinstance" = some none)
    (zlen : PySem.W.nsIn K mainGlobals "len" = some none)
    (zlist : PySem.W.nsIn K mainGlobals "list" = some none)
    (zmax : PySem.W.nsIn K mainGlobals "max" = some none)
    (zmin : PySem.W.nsIn K mainGlobals "min" = some none)
    (zrange : PySem.W.nsIn K mainGlobals "range" = some none)
    (zset : PySem.W.nsIn K mainGlobals "set" = some none)
    (zsorted : PySem.W.nsIn K mainGlobals "sorted" = some none)
    (ztuple : PySem.W.nsIn K mainGlobals "tuple" = some none)
    (zzip : PySem.W.nsIn K mainGlobals "zip" = some none)
    (gMOST_SITES : PySem.W.nsIn K mainGlobals "MOST_SITES" = some (some (.int 200 tMOST_SITES)))
    : ∃ fd : FuncData, (∀ (s : Shared) (v : Value), BindsTo s fd ⟨[v], []⟩ [("_law_script", v)]) ∧ ∀ base : Heap, K.In base → base.Ns mainGlobals mg → FnOk l.prog w K mg base CX0 8 fa fd ["_law_script"] (p_law K) := by
  have e := hfa.symm.trans (PySem.W.mg_of X G aL)
  cases e
  have mcls := PySem.W.mg_of X G aC
  have F_fraction := fun_mk (st := sFrac) l_fraction c_fraction k_fraction
  have b_fraction := F_fraction.binds (ps := ["top", "bottom"]) fun _ _ _ _ _ _ us hl => match us, hl with | [_, _], _ => rfl
  have g_fraction := PySem.W.mg_of X G a_fraction
  have F_is_site := fun_mk (st := sIsSite) l_is_site c_is_site k_is_site
  have b_is_site := F_is_site.binds (ps := ["value"]) fun _ _ _ _ _ _ us hl => match us, hl with | [_], _ => rfl
  have g_is_site := PySem.W.mg_of X G a_is_site
  have F_are_sites := fun_mk (st := s_are_sites) l_are_sites c_are_sites k_are_sites
  have b_are_sites := F_are_sites.binds (ps := ["value"]) fun _ _ _ _ _ _ us hl => match us, hl with | [_], _ => rfl
  have g_are_sites := PySem.W.mg_of X G a_are_sites
  have F_check_sites := fun_mk (st := s_check_sites) l_check_sites c_check_sites k_check_sites
  have b_check_sites := F_check_sites.binds (ps := ["value"]) fun _ _ _ _ _ _ us hl => match us, hl with | [_], _ => rfl
  have g_check_sites := PySem.W.mg_of X G a_check_sites
  have F_ascending := fun_mk (st := s_ascending) l_ascending c_ascending k_ascending
  have b_ascending := F_ascending.binds (ps := ["sites"]) fun _ _ _ _ _ _ us hl => match us, hl with | [_], _ => rfl
  have g_ascending := PySem.W.mg_of X G a_ascending
  have F_check_member := fun_mk (st := s_check_member) l_check_member c_check_member k_check_member
  have b_check_member := F_check_member.binds (ps := ["value", "sites", "name"]) fun _ _ _ _ _ _ us hl => match us, hl with | [_, _, _], _ => rfl
  have g_check_member := PySem.W.mg_of X G a_check_member
  have F_check_two := fun_mk (st := s_check_two) l_check_two c_check_two k_check_two
  have b_check_two := F_check_two.binds (ps := ["a", "b", "sites"]) fun _ _ _ _ _ _ us hl => match us, hl with | [_, _, _], _ => rfl
  have g_check_two := PySem.W.mg_of X G a_check_two
  have F_linked := fun_mk (st := s_linked) l_linked c_linked k_linked
  have b_linked := F_linked.binds (ps := ["rows"]) fun _ _ _ _ _ _ us hl => match us, hl with | [_], _ => rfl
  have g_linked := PySem.W.mg_of X G a_linked
  have F_settle := fun_mk (st := s_settle) l_settle c_settle k_settle
  have b_settle := F_settle.binds (ps := ["rows", "links", "flat", "at", "ahead"]) fun _ _ _ _ _ _ us hl => match us, hl with | [_, _, _, _, _], _ => rfl
  have g_settle := PySem.W.mg_of X G a_settle
  have F_turn_over := fun_mk (st := s_turn_over) l_turn_over c_turn_over k_turn_over
  have b_turn_over := F_turn_over.binds (ps := ["links", "a", "b", "c", "at"]) fun _ _ _ _ _ _ us hl => match us, hl with | [_, _, _, _, _], _ => rfl
  have g_turn_over := PySem.W.mg_of X G a_turn_over
  have F_take_out := fun_mk (st := s_take_out) l_take_out c_take_out k_take_out
  have b_take_out := F_take_out.binds (ps := ["flat", "a", "b"]) fun _ _ _ _ _ _ us hl => match us, hl with | [_, _, _], _ => rfl
  have g_take_out := PySem.W.mg_of X G a_take_out
  have F_merge := fun_mk (st := s_merge) l_merge c_merge k_merge
  have b_merge := F_merge.binds (ps := ["links", "flat"]) fun _ _ _ _ _ _ us hl => match us, hl with | [_, _], _ => rfl
  have g_merge := PySem.W.mg_of X G a_merge
  have F_enclose := fun_mk (st := s_enclose) l_enclose c_enclose k_enclose
  have b_enclose := F_enclose.binds (ps := ["links", "low", "high"]) fun _ _ _ _ _ _ us hl => match us, hl with | [_, _, _], _ => rfl
  have g_enclose := PySem.W.mg_of X G a_enclose
  have F_edges_of := fun_mk (st := s_edges_of) l_edges_of c_edges_of k_edges_of
  have b_edges_of := F_edges_of.binds (ps := ["rows", "links"]) fun _ _ _ _ _ _ us hl => match us, hl with | [_, _], _ => rfl
  have g_edges_of := PySem.W.mg_of X G a_edges_of
  have F_centres := fun_mk (st := s_centres) l_centres c_centres k_centres
  have b_centres := F_centres.binds (ps := ["sites", "a", "b"]) fun _ _ _ _ _ _ us hl => match us, hl with | [_, _, _], _ => rfl
  have g_centres := PySem.W.mg_of X G a_centres
  have F_beside := fun_mk (st := s_beside) l_beside c_beside k_beside
  have b_beside := F_beside.binds (ps := ["sites", "a", "b"]) fun _ _ _ _ _ _ us hl => match us, hl with | [_, _, _], _ => rfl
  have g_beside := PySem.W.mg_of X G a_beside
  have F_lowest := fun_mk (st := s_lowest) l_lowest c_lowest k_lowest
  have b_lowest := F_lowest.binds (ps := ["shares"]) fun _ _ _ _ _ _ us hl => match us, hl with | [_], _ => rfl
  have g_lowest := PySem.W.mg_of X G a_lowest
  have F_avoided := fun_mk (st := s_avoided) l_avoided c_avoided k_avoided
  have b_avoided := F_avoided.binds (ps := ["sites", "a", "b"]) fun _ _ _ _ _ _ us hl => match us, hl with | [_, _, _], _ => rfl
  have g_avoided := PySem.W.mg_of X G a_avoided
  have F_first_against := fun_mk (st := s_first_against) l_first_against c_first_against k_first_against
  have b_first_against := F_first_against.binds (ps := ["shares", "share"]) fun _ _ _ _ _ _ us hl => match us, hl with | [_, _], _ => rfl
  have g_first_against := PySem.W.mg_of X G a_first_against
  have F__law_source_of := fun_mk (st := sSrc) l__law_source_of c__law_source_of k__law_source_of
  have b__law_source_of := F__law_source_of.binds (ps := ["_law_number_here"]) fun _ _ _ _ _ _ us hl => match us, hl with | [_], _ => rfl
  have g__law_source_of := PySem.W.mg_of X G a__law_source_of
  have F__law_next := fun_mk (st := sNext) l__law_next c__law_next k__law_next
  have b__law_next := F__law_next.binds (ps := ["_law_source", "_law_many"]) fun _ _ _ _ _ _ us hl => match us, hl with | [_, _], _ => rfl
  have g__law_next := PySem.W.mg_of X G a__law_next
  have F__law_one := fun_mk (st := sOne) l__law_one c__law_one k__law_one
  have b__law_one := F__law_one.binds (ps := ["_law_source", "_law_some"]) fun _ _ _ _ _ _ us hl => match us, hl with | [_, _], _ => rfl
  have g__law_one := PySem.W.mg_of X G a__law_one
  have F__law_cell_at := fun_mk (st := sCell) l__law_cell_at c__law_cell_at k__law_cell_at
  have b__law_cell_at := F__law_cell_at.binds (ps := ["_law_script", "_law_index"]) fun _ _ _ _ _ _ us hl => match us, hl with | [_, _], _ => rfl
  have g__law_cell_at := PySem.W.mg_of X G a__law_cell_at
  have F__law_sites := fun_mk (st := sSites) l__law_sites c__law_sites k__law_sites
  have b__law_sites := F__law_sites.binds (ps := ["_law_source", "_law_most"]) fun _ _ _ _ _ _ us hl => match us, hl with | [_, _], _ => rfl
  have g__law_sites := PySem.W.mg_of X G a__law_sites
  have F__law_square := fun_mk (st := s__law_square) l__law_square c__law_square k__law_square
  have b__law_square := F__law_square.binds (ps := ["_law_place_here", "_law_site"]) fun _ _ _ _ _ _ us hl => match us, hl with | [_, _], _ => rfl
  have g__law_square := PySem.W.mg_of X G a__law_square
  have F__law_turn := fun_mk (st := sLTurn) l__law_turn c__law_turn k__law_turn
  have b__law_turn := F__law_turn.binds (ps := ["_law_aa", "_law_bb", "_law_c"]) fun _ _ _ _ _ _ us hl => match us, hl with | [_, _, _], _ => rfl
  have g__law_turn := PySem.W.mg_of X G a__law_turn
  have F__law_common := fun_mk (st := sLCom) l__law_common c__law_common k__law_common
  have b__law_common := F__law_common.binds (ps := ["_law_aa", "_law_bb"]) fun _ _ _ _ _ _ us hl => match us, hl with | [_, _], _ => rfl
  have g__law_common := PySem.W.mg_of X G a__law_common
  have F__law_place := fun_mk (st := sLPl) l__law_place c__law_place k__law_place
  have b__law_place := F__law_place.binds (ps := ["_law_x", "_law_y", "_law_d"]) fun _ _ _ _ _ _ us hl => match us, hl with | [_, _, _], _ => rfl
  have g__law_place := PySem.W.mg_of X G a__law_place
  have F__law_centre := fun_mk (st := sLCen) l__law_centre c__law_centre k__law_centre
  have b__law_centre := F__law_centre.binds (ps := ["_law_aa", "_law_bb", "_law_c"]) fun _ _ _ _ _ _ us hl => match us, hl with | [_, _, _], _ => rfl
  have g__law_centre := PySem.W.mg_of X G a__law_centre
  have F__law_at := fun_mk (st := s__law_at) l__law_at c__law_at k__law_at
  have b__law_at := F__law_at.binds (ps := ["_law_aa", "_law_bb", "_law_n", "_law_d"]) fun _ _ _ _ _ _ us hl => match us, hl with | [_, _, _, _], _ => rfl
  have g__law_at := PySem.W.mg_of X G a__law_at
  have F__law_is_on := fun_mk (st := s__law_is_on) l__law_is_on c__law_is_on k__law_is_on
  have b__law_is_on := F__law_is_on.binds (ps := ["_law_aa", "_law_bb", "_law_c"]) fun _ _ _ _ _ _ us hl => match us, hl with | [_, _, _], _ => rfl
  have g__law_is_on := PySem.W.mg_of X G a__law_is_on
  have F__law_paper := fun_mk (st := s__law_paper) l__law_paper c__law_paper k__law_paper
  have b__law_paper := F__law_paper.binds (ps := ["_law_row", "_law_aa", "_law_bb"]) fun _ _ _ _ _ _ us hl => match us, hl with | [_, _, _], _ => rfl
  have g__law_paper := PySem.W.mg_of X G a__law_paper
  have F__law_room_right := fun_mk (st := s__law_room_right) l__law_room_right c__law_room_right k__law_room_right
  have b__law_room_right := F__law_room_right.binds (ps := ["_law_sites_here", "_law_aa", "_law_bb", "_law_is_edge"]) fun _ _ _ _ _ _ us hl => match us, hl with | [_, _, _, _], _ => rfl
  have g__law_room_right := PySem.W.mg_of X G a__law_room_right
  have FL := fun_mk (st := s_law) lL cL kL
  have FM__init__ := fun_mk (st := s___init__) lM__init__ cM__init__ kM__init__
  have bM__init__ := FM__init__.binds (ps := ["self", "sites"]) fun _ _ _ _ _ _ us hl => match us, hl with | [_, _], _ => rfl
  have FMedges := fun_mk (st := s_edges) lMedges cMedges kMedges
  have bMedges := FMedges.binds (ps := ["self"]) fun _ _ _ _ _ _ us hl => match us, hl with | [_], _ => rfl
  have mabs := PySem.W.mg_none_of X G zabs
  have menumerate := PySem.W.mg_none_of X G zenumerate
  have mint := PySem.W.mg_none_of X G zint
  have misinstance := PySem.W.mg_none_of X G zisinstance
  have mlen := PySem.W.mg_none_of X G zlen
  have mlist := PySem.W.mg_none_of X G zlist
  have mmax := PySem.W.mg_none_of X G zmax
  have mmin := PySem.W.mg_none_of X G zmin
  have mrange := PySem.W.mg_none_of X G zrange
  have mset := PySem.W.mg_none_of X G zset
  have msorted := PySem.W.mg_none_of X G zsorted
  have mtuple := PySem.W.mg_none_of X G ztuple
  have mzip := PySem.W.mg_none_of X G zzip
  have mMOST_SITES := PySem.W.mg_of X G gMOST_SITES
  have T : SubT K C := ⟨⟨pgC, hdC, poC, saC⟩, nrows, nlinks, nlines, nparts⟩
  have mgcd := PySem.W.mg_of X G ggcd
  refine ⟨PySem.W.fnOf "law" "law" (defArgs s_law) (defBody s_law) (defScope s_law) .none kVL dcL pmL anL cdL ctL, fun s v => .of_eq rfl, fun base _ _ => ?_⟩
  have D_fraction : Df K mg "fraction" sFrac ["top", "bottom"] := Df.mk' F_fraction g_fraction k_fraction b_fraction
  have D_is_site : Df K mg "is_site" sIsSite ["value"] := Df.mk' F_is_site g_is_site k_is_site b_is_site
  have D_are_sites : Df K mg "are_sites" s_are_sites ["value"] := Df.mk' F_are_sites g_are_sites k_are_sites b_are_sites
  have D_check_sites : Df K mg "check_sites" s_check_sites ["value"] := Df.mk' F_check_sites g_check_sites k_check_sites b_check_sites
  have D_ascending : Df K mg "ascending" s_ascending ["sites"] := Df.mk' F_ascending g_ascending k_ascending b_ascending
  have D_check_member : Df K mg "check_member" s_check_member ["value", "sites", "name"] := Df.mk' F_check_member g_check_member k_check_member b_check_member
  have D_check_two : Df K mg "check_two" s_check_two ["a", "b", "sites"] := Df.mk' F_check_two g_check_two k_check_two b_check_two
  have D_linked : Df K mg "linked" s_linked ["rows"] := Df.mk' F_linked g_linked k_linked b_linked
  have D_settle : Df K mg "settle" s_settle ["rows", "links", "flat", "at", "ahead"] := Df.mk' F_settle g_settle k_settle b_settle
  have D_turn_over : Df K mg "turn_over" s_turn_over ["links", "a", "b", "c", "at"] := Df.mk' F_turn_over g_turn_over k_turn_over b_turn_over
  have D_take_out : Df K mg "take_out" s_take_out ["flat", "a", "b"] := Df.mk' F_take_out g_take_out k_take_out b_take_out
  have D_merge : Df K mg "merge" s_merge ["links", "flat"] := Df.mk' F_merge g_merge k_merge b_merge
  have D_enclose : Df K mg "enclose" s_enclose ["links", "low", "high"] := Df.mk' F_enclose g_enclose k_enclose b_enclose
  have D_edges_of : Df K mg "edges_of" s_edges_of ["rows", "links"] := Df.mk' F_edges_of g_edges_of k_edges_of b_edges_of
  have D_centres : Df K mg "centres" s_centres ["sites", "a", "b"] := Df.mk' F_centres g_centres k_centres b_centres
  have D_beside : Df K mg "beside" s_beside ["sites", "a", "b"] := Df.mk' F_beside g_beside k_beside b_beside
  have D_lowest : Df K mg "lowest" s_lowest ["shares"] := Df.mk' F_lowest g_lowest k_lowest b_lowest
  have D_avoided : Df K mg "avoided" s_avoided ["sites", "a", "b"] := Df.mk' F_avoided g_avoided k_avoided b_avoided
  have D_first_against : Df K mg "first_against" s_first_against ["shares", "share"] := Df.mk' F_first_against g_first_against k_first_against b_first_against
  have D__law_source_of : Df K mg "_law_source_of" sSrc ["_law_number_here"] := Df.mk' F__law_source_of g__law_source_of k__law_source_of b__law_source_of
  have D__law_next : Df K mg "_law_next" sNext ["_law_source", "_law_many"] := Df.mk' F__law_next g__law_next k__law_next b__law_next
  have D__law_one : Df K mg "_law_one" sOne ["_law_source", "_law_some"] := Df.mk' F__law_one g__law_one k__law_one b__law_one
  have D__law_cell_at : Df K mg "_law_cell_at" sCell ["_law_script", "_law_index"] := Df.mk' F__law_cell_at g__law_cell_at k__law_cell_at b__law_cell_at
  have D__law_sites : Df K mg "_law_sites" sSites ["_law_source", "_law_most"] := Df.mk' F__law_sites g__law_sites k__law_sites b__law_sites
  have D__law_square : Df K mg "_law_square" s__law_square ["_law_place_here", "_law_site"] := Df.mk' F__law_square g__law_square k__law_square b__law_square
  have D__law_turn : Df K mg "_law_turn" sLTurn ["_law_aa", "_law_bb", "_law_c"] := Df.mk' F__law_turn g__law_turn k__law_turn b__law_turn
  have D__law_common : Df K mg "_law_common" sLCom ["_law_aa", "_law_bb"] := Df.mk' F__law_common g__law_common k__law_common b__law_common
  have D__law_place : Df K mg "_law_place" sLPl ["_law_x", "_law_y", "_law_d"] := Df.mk' F__law_place g__law_place k__law_place b__law_place
  have D__law_centre : Df K mg "_law_centre" sLCen ["_law_aa", "_law_bb", "_law_c"] := Df.mk' F__law_centre g__law_centre k__law_centre b__law_centre
  have D__law_at : Df K mg "_law_at" s__law_at ["_law_aa", "_law_bb", "_law_n", "_law_d"] := Df.mk' F__law_at g__law_at k__law_at b__law_at
  have D__law_is_on : Df K mg "_law_is_on" s__law_is_on ["_law_aa", "_law_bb", "_law_c"] := Df.mk' F__law_is_on g__law_is_on k__law_is_on b__law_is_on
  have D__law_paper : Df K mg "_law_paper" s__law_paper ["_law_row", "_law_aa", "_law_bb"] := Df.mk' F__law_paper g__law_paper k__law_paper b__law_paper
  have D__law_room_right : Df K mg "_law_room_right" s__law_room_right ["_law_sites_here", "_law_aa", "_law_bb", "_law_is_edge"] := Df.mk' F__law_room_right g__law_room_right k__law_room_right b__law_room_right
  have C__law_source_of := D__law_source_of.cl fun f fd F => ok_src (P := l.prog) (w := w) (base := base) (k := 0) F mint
  have C__law_next := D__law_next.cl fun f fd F => ok_next (P := l.prog) (w := w) (base := base) (k := 0) F mint
  obtain ⟨fN, fdN, GN, gN, kN, bN⟩ := C__law_next.ex
  have C__law_one := D__law_one.cl fun f fd F => ok_one (k := 0) F GN gN kN bN mlen
  obtain ⟨fO, fdO, GO, gO, kO, bO⟩ := C__law_one.ex
  have C__law_cell_at := D__law_cell_at.cl fun f fd F => ok_cell (P := l.prog) (w := w) (mg := mg) (base := base) (k := 0) F
  have C__law_sites := D__law_sites.cl fun f fd F => ok_sitesN (k := 0) F GN gN kN bN GO gO kO bO mrange
  have C__law_turn := D__law_turn.cl fun f fd F => ok_lturn (P := l.prog) (w := w) (mg := mg) (base := base) (k := 0) F
  have C__law_common := D__law_common.cl fun f fd F => ok_com (P := l.prog) (w := w) (base := base) (k := 0) F mint mabs
  obtain ⟨fCo, fdCo, GCo, gCo, kCo, bCo⟩ := C__law_common.ex
  have C__law_place := D__law_place.cl fun f fd F => ok_lpl (k := 0) F GCo gCo kCo bCo
  obtain ⟨fLp, fdLp, GLp, gLp, kLp, bLp⟩ := C__law_place.ex
  have C__law_centre := D__law_centre.cl fun f fd F => ok_lcen (k := 1) F GLp gLp kLp bLp
  have C_is_site : Cl l.prog w K mg base CX0 "is_site" 1 ["value"] p_is_site := D_is_site.cl fun f fd F => ok_issite (k := 0) F misinstance mtuple mint mlen
  have C_fraction := D_fraction.cl fun f fd F => ok_frac (P := l.prog) (w := w) (base := base) (k := 0) F mgcd
  have kbAv := kb_rev (ps := ["sites", "a", "b"]) (ks := ["b", "a", "sites"]) F_avoided (by decide) fun _ _ _ _ _ _ ws hl => match ws, hl with | [_, _, _], _ => rfl
  have kbCe := kb_rev (ps := ["sites", "a", "b"]) (ks := ["b", "a", "sites"]) F_centres (by decide) fun _ _ _ _ _ _ ws hl => match ws, hl with | [_, _, _], _ => rfl
  have C_turn_over := ok_turn_over (P := l.prog) (w := w) (K := K) (mg := mg) (base := base) D_turn_over    
  have C_take_out := ok_take_out (P := l.prog) (w := w) (K := K) (mg := mg) (base := base) D_take_out    
  have C_settle := ok_settle (P := l.prog) (w := w) (K := K) (mg := mg) (base := base) D_settle C_turn_over C_take_out   
  have C_merge := ok_merge (P := l.prog) (w := w) (K := K) (mg := mg) (base := base) D_merge    
  have C_enclose := ok_enclose (P := l.prog) (w := w) (K := K) (mg := mg) (base := base) D_enclose  mzip  
  have C_linked := ok_linked (P := l.prog) (w := w) (K := K) (mg := mg) (base := base) D_linked C_settle C_merge C_enclose mlen mrange  
  have C_edges_of := ok_edges_of (P := l.prog) (w := w) (K := K) (mg := mg) (base := base) D_edges_of  menumerate msorted  
  have C_are_sites := ok_are_sites (P := l.prog) (w := w) (K := K) (mg := mg) (base := base) D_are_sites  mint misinstance mlen mlist mset mtuple mMOST_SITES 
  have C_ascending := ok_ascending (P := l.prog) (w := w) (K := K) (mg := mg) (base := base) D_ascending C_are_sites msorted  
  have G___init__ := ok___init__ (P := l.prog) (w := w) (K := K) (mg := mg) (base := base) FM__init__ C_linked C_ascending   T
  have M_sub : C8.Mak l.prog w K mg base 4 "Subdivision" C (p___init__ C) [] := ⟨_, _, _, _, ⟨mkC, aM__init__, iM__init__, kcC⟩, G___init__, mcls, bM__init__, .nil⟩
  have M_kw : MakK l.prog w K mg base 4 "Subdivision" C "sites" (p___init__ C) := ⟨_, _, _, ⟨mkC, aM__init__, iM__init__, kcC⟩, G___init__, mcls, kbn_one FM__init__ fun _ _ _ _ _ _ _ _ => rfl⟩
  have G_edges := ok_edges (P := l.prog) (w := w) (K := K) (mg := mg) (base := base) FMedges C_edges_of mlist  T
  have M_edges : C8.Met l.prog w K mg base 2 C "edges" (p_edges C) [] := ⟨_, _, _, _, T.cl, ⟨aMedges, iMedges, kMedges⟩, G_edges, bMedges, .nil⟩
  have C_check_sites := ok_check_sites (P := l.prog) (w := w) (K := K) (mg := mg) (base := base) D_check_sites C_are_sites   
  have C_check_member := ok_check_member (P := l.prog) (w := w) (K := K) (mg := mg) (base := base) D_check_member C_is_site   
  have C_check_two := ok_check_two (P := l.prog) (w := w) (K := K) (mg := mg) (base := base) D_check_two C_check_member   
  have C_beside := ok_beside (P := l.prog) (w := w) (K := K) (mg := mg) (base := base) D_beside    
  have C_lowest := ok_lowest (P := l.prog) (w := w) (K := K) (mg := mg) (base := base) D_lowest    
  have C_first_against := ok_first_against (P := l.prog) (w := w) (K := K) (mg := mg) (base := base) D_first_against    
  have G_avoided := fun f fd F => ok_avoided (P := l.prog) (w := w) (K := K) (mg := mg) (base := base) (f := f) (fd := fd) F C_ascending C_check_two C_beside C_lowest C_first_against   
  have C_avoided := D_avoided.cl G_avoided
  have G_centres := fun f fd F => ok_centres (P := l.prog) (w := w) (K := K) (mg := mg) (base := base) (f := f) (fd := fd) F C_check_sites C_check_two C_beside C_lowest C_fraction   
  have C_centres := D_centres.cl G_centres
  have C__law_square := ok__law_square (P := l.prog) (w := w) (K := K) (mg := mg) (base := base) D__law_square    
  have C__law_at := ok__law_at (P := l.prog) (w := w) (K := K) (mg := mg) (base := base) D__law_at C__law_place   
  have C__law_is_on := ok__law_is_on (P := l.prog) (w := w) (K := K) (mg := mg) (base := base) D__law_is_on C__law_turn   
  have C__law_paper := ok__law_paper (P := l.prog) (w := w) (K := K) (mg := mg) (base := base) D__law_paper C__law_turn C__law_centre C__law_square C__law_is_on   
  have C__law_room_right := ok__law_room_right (P := l.prog) (w := w) (K := K) (mg := mg) (base := base) D__law_room_right C_centres C__law_turn C__law_common C__law_square C__law_at C__law_is_on menumerate mmin  

  exact ok_law (P := l.prog) (w := w) (base := base) FL C_avoided C_centres C__law_paper C__law_room_right C__law_source_of C__law_cell_at C__law_sites mmax mmin mrange msorted  M_sub M_edges (G_avoided _ _ F_avoided) g_avoided k_avoided kbAv (G_centres _ _ F_centres) g_centres k_centres kbCe
end NcK
open PySem PySem.W PyProof.Rows
set_option maxHeartbeats 0 in
theorem PySem.Challenge.cw_nearcells_k14_papers_for_edges_holds : PySem.Challenge.rw_nearcells_k14_papers_for_edges.Holds := by
  w_on; o_law; k_head; (case hw => w_witness2)
  k_fill
  refine L2.walk_of (l := PySem.Challenge.rw_nearcells_k14_papers_for_edges) (n := 63) (k := 8) (x := "_law_script") (CX := fun _ => L2.CX0) (sp := fun w => NcK.p_law _) rfl (by decide) rfl ⟨rfl, by decide, by decide⟩ (fun w h Y => PySem.W.kIn_of Y) ?F (fun _ _ a ns hl _ hS => ⟨a, ns, rfl, hS, hl, fun _ => rfl⟩) (fun _ _ _ _ _ h => h)
  case F =>
    intro w mg fa h KX G hmg
    refine' NcK.all_mk KX G hmg ?a_fraction ?l_fraction ?c_fraction ?k_fraction ?a_is_site ?l_is_site ?c_is_site ?k_is_site ?a_are_sites ?l_are_sites ?c_are_sites ?k_are_sites ?a_check_sites ?l_check_sites ?c_check_sites ?k_check_sites ?a_ascending ?l_ascending ?c_ascending ?k_ascending ?a_check_member ?l_check_member ?c_check_member ?k_check_member ?a_check_two ?l_check_two ?c_check_two ?k_check_two ?a_linked ?l_linked ?c_linked ?k_linked ?a_settle ?l_settle ?c_settle ?k_settle ?a_turn_over ?l_turn_over ?c_turn_over ?k_turn_over ?a_take_out ?l_take_out ?c_take_out ?k_take_out ?a_merge ?l_merge ?c_merge ?k_merge ?a_enclose ?l_enclose ?c_enclose ?k_enclose ?a_edges_of ?l_edges_of ?c_edges_of ?k_edges_of ?a_centres ?l_centres ?c_centres ?k_centres ?a_beside ?l_beside ?c_beside ?k_beside ?a_lowest ?l_lowest ?c_lowest ?k_lowest ?a_avoided ?l_avoided ?c_avoided ?k_avoided ?a_first_against ?l_first_against ?c_first_against ?k_first_against ?a__law_source_of ?l__law_source_of ?c__law_source_of ?k__law_source_of ?a__law_next ?l__law_next ?c__law_next ?k__law_next ?a__law_one ?l__law_one ?c__law_one ?k__law_one ?a__law_cell_at ?l__law_cell_at ?c__law_cell_at ?k__law_cell_at ?a__law_sites ?l__law_sites ?c__law_sites ?k__law_sites ?a__law_square ?l__law_square ?c__law_square ?k__law_square ?a__law_turn ?l__law_turn ?c__law_turn ?k__law_turn ?a__law_common ?l__law_common ?c__law_common ?k__law_common ?a__law_place ?l__law_place ?c__law_place ?k__law_place ?a__law_centre ?l__law_centre ?c__law_centre ?k__law_centre ?a__law_at ?l__law_at ?c__law_at ?k__law_at ?a__law_is_on ?l__law_is_on ?c__law_is_on ?k__law_is_on ?a__law_paper ?l__law_paper ?c__law_paper ?k__law_paper ?a__law_room_right ?l__law_room_right ?c__law_room_right ?k__law_room_right ?aL ?lL ?cL ?kL ?aC ?aM__init__ ?iM__init__ ?lM__init__ ?cM__init__ ?kM__init__ ?aMedges ?iMedges ?lMedges ?cMedges ?kMedges ?pgC ?hdC ?poC ?saC ?mkC ?kcC ?nrows ?nlinks ?nlines ?nparts ?ggcd ?zabs ?zenumerate ?zint ?zisinstance ?zlen ?zlist ?zmax ?zmin ?zrange ?zset ?zsorted ?ztuple ?zzip ?gMOST_SITES
    (case a_fraction => k_is); (case l_fraction => k_is); (case c_fraction => k_is); (case k_fraction => k_is); (case a_is_site => k_is); (case l_is_site => k_is); (case c_is_site => k_is); (case k_is_site => k_is); (case a_are_sites => k_is); (case l_are_sites => k_is); (case c_are_sites => k_is); (case k_are_sites => k_is); (case a_check_sites => k_is); (case l_check_sites => k_is); (case c_check_sites => k_is); (case k_check_sites => k_is); (case a_ascending => k_is); (case l_ascending => k_is); (case c_ascending => k_is); (case k_ascending => k_is); (case a_check_member => k_is); (case l_check_member => k_is); (case c_check_member => k_is); (case k_check_member => k_is); (case a_check_two => k_is); (case l_check_two => k_is); (case c_check_two => k_is); (case k_check_two => k_is); (case a_linked => k_is); (case l_linked => k_is); (case c_linked => k_is); (case k_linked => k_is); (case a_settle => k_is); (case l_settle => k_is); (case c_settle => k_is); (case k_settle => k_is); (case a_turn_over => k_is); (case l_turn_over => k_is); (case c_turn_over => k_is); (case k_turn_over => k_is); (case a_take_out => k_is); (case l_take_out => k_is); (case c_take_out => k_is); (case k_take_out => k_is); (case a_merge => k_is); (case l_merge => k_is); (case c_merge => k_is); (case k_merge => k_is); (case a_enclose => k_is); (case l_enclose => k_is); (case c_enclose => k_is); (case k_enclose => k_is); (case a_edges_of => k_is); (case l_edges_of => k_is); (case c_edges_of => k_is); (case k_edges_of => k_is); (case a_centres => k_is); (case l_centres => k_is); (case c_centres => k_is); (case k_centres => k_is); (case a_beside => k_is); (case l_beside => k_is); (case c_beside => k_is); (case k_beside => k_is); (case a_lowest => k_is); (case l_lowest => k_is); (case c_lowest => k_is); (case k_lowest => k_is); (case a_avoided => k_is); (case l_avoided => k_is); (case c_avoided => k_is); (case k_avoided => k_is); (case a_first_against => k_is); (case l_first_against => k_is); (case c_first_against => k_is); (case k_first_against => k_is); (case a__law_source_of => k_is); (case l__law_source_of => k_is); (case c__law_source_of => k_is); (case k__law_source_of => k_is); (case a__law_next => k_is); (case l__law_next => k_is); (case c__law_next => k_is); (case k__law_next => k_is); (case a__law_one => k_is); (case l__law_one => k_is); (case c__law_one => k_is); (case k__law_one => k_is); (case a__law_cell_at => k_is); (case l__law_cell_at => k_is); (case c__law_cell_at => k_is); (case k__law_cell_at => k_is); (case a__law_sites => k_is); (case l__law_sites => k_is); (case c__law_sites => k_is); (case k__law_sites => k_is); (case a__law_square => k_is); (case l__law_square => k_is); (case c__law_square => k_is); (case k__law_square => k_is); (case a__law_turn => k_is); (case l__law_turn => k_is); (case c__law_turn => k_is); (case k__law_turn => k_is); (case a__law_common => k_is); (case l__law_common => k_is); (case c__law_common => k_is); (case k__law_common => k_is); (case a__law_place => k_is); (case l__law_place => k_is); (case c__law_place => k_is); (case k__law_place => k_is); (case a__law_centre => k_is); (case l__law_centre => k_is); (case c__law_centre => k_is); (case k__law_centre => k_is); (case a__law_at => k_is); (case l__law_at => k_is); (case c__law_at => k_is); (case k__law_at => k_is); (case a__law_is_on => k_is); (case l__law_is_on => k_is); (case c__law_is_on => k_is); (case k__law_is_on => k_is); (case a__law_paper => k_is); (case l__law_paper => k_is); (case c__law_paper => k_is); (case k__law_paper => k_is); (case a__law_room_right => k_is); (case l__law_room_right => k_is); (case c__law_room_right => k_is); (case k__law_room_right => k_is); (case aL => k_is); (case lL => k_is); (case cL => k_is); (case kL => k_is); (case aC => k_is); (case aM__init__ => k_is); (case iM__init__ => k_is); (case lM__init__ => k_is); (case cM__init__ => k_is); (case kM__init__ => k_is); (case aMedges => k_is); (case iMedges => k_is); (case lMedges => k_is); (case cMedges => k_is); (case kMedges => k_is); (case pgC => k_is); (case hdC => k_is); (case poC => k_is); (case saC => k_is); (case mkC => k_is); (case kcC => k_is); (case nrows => k_is); (case nlinks => k_is); (case nlines => k_is); (case nparts => k_is); (case ggcd => k_is); (case zabs => k_is); (case zenumerate => k_is); (case zint => k_is); (case zisinstance => k_is); (case zlen => k_is); (case zlist => k_is); (case zmax => k_is); (case zmin => k_is); (case zrange => k_is); (case zset => k_is); (case zsorted => k_is); (case ztuple => k_is); (case zzip => k_is); (case gMOST_SITES => k_is)
