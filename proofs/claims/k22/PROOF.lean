import PyProof.Rows.All
import Wide.All
import OpenK.AllK
import Wide.FinOn
import KE.OsRunLaw
import HandS.Zip
import HandS.ForMost
import HandS.Walk
import HandS.DictComp
import HandS.IsInst
import HandS.Property
import HandS.Wide
import HandS.MakeKw
import KE.DataMinMax
import PyProof.StrBlock2
import HandS.Strs
import PyProof.CollectStr
import PyProof.TupleOfSeq
import HandS.More
import KE.GoesMore
import KE.GoesEnum
import HandS.Deep
import HandS.TupAny
import HandS.ExcInit
import PyProof.Rows.StrMeet
import PyProof.Rows.SortStr
import HandS.MakeKwOnly
import HandS.FStr
import HandS.Star
import HandS.Style
import HandS.ExcCtx
import HandS.TryMany
import HandS.HotCalls
import HandS.ExcField
import PyProof.Rows.TupIter
import HandS.Hot
import HandS.Comp
import PyProof.TupleIter
import PyProof.Seq
import HandS.Iter
import HandS.ExcInitHot
import HandS.Lambda
import HandS.Dict
import PyProof.NeKinds
import KE.KExcInit
import PyProof.ExcBaseAll.ArithmeticError
import KE.KCallOwn
import PyProof.Conv_bool
import PyProof.InstNe
import HandS.SlotsOwn
import KE.KOpsOwn
import PyProof.MeetsIn
import HandS.ExcIs
import HandS.EndTab
import KE.KNest
import PySem.Challenge.RW_wherebegun_k22_sums_and_their_states
set_option Elab.async false
set_option maxRecDepth 100000
/-! the head: each look at what the top leaves by a run of its own; a component stands beside its value itself: beside a projection the kernel would compare the whole -/
namespace Wb
open PySem PySem.W PySem.Calls PyProof.Rows HeadRun
theorem map_split {α β γ δ : Type} {x : Option α} {A : α → β} {B : α → γ} {C : α → δ} {a : β} {b : γ} {c : δ} (h1 : x.map A = some a) (h2 : x.map B = some b) (h3 : x.map C = some c) : x.map (fun s => (A s, B s, C s)) = some (a, b, c) := by
  cases x with
  | none => cases h1
  | some v =>
    cases h1
    cases h2
    cases h3
    rfl
theorem map_pr {α β γ : Type} {x : Option α} {f : α → β × γ} {a : β} {b : γ} (h1 : x.map (fun s => (f s).1) = some a) (h2 : x.map (fun s => (f s).2) = some b) : x.map f = some (a, b) := by
  cases x with
  | none => cases h1
  | some v =>
    have e1 : (f v).1 = a := Option.some.inj h1
    have e2 : (f v).2 = b := Option.some.inj h2
    exact congrArg some (Prod.ext e1 e2)
theorem cast_to {G G' : Prop} (h : G') (e : G = G') : G := e ▸ h
abbrev Rk : OpenRow := OpenLaw.row PySem.Challenge.rw_wherebegun_k22_sums_and_their_states
def keepK : List Nat := [0, 1, 2, 3, 4, 5, 7, 8, 9, 10, 11, 12, 13, 14, 16, 17, 18, 19, 20, 21] ++ [22, 23, 24, 25, 26, 27, 29, 30, 31, 32, 33, 34, 35, 36, 37, 38, 40, 42, 43, 44] ++ [45, 47, 49, 50, 51, 53, 54, 55, 56, 57, 58, 59, 60, 61, 62, 63, 64, 65, 66, 67] ++ [68, 69, 70, 71]
def Qk : Program := { Rk.prog with main := { Rk.prog.main with body := keepK.filterMap fun i => Rk.prog.main.body[i]? } }
def lk : List Str := ["Loop"]
noncomputable def Xk (w : World) (os : OsState) : Option SharedT := endF (stepQ (denQ tabQ) Rk.prog w) 12594 Rk.prog w os
noncomputable def Sk (x : SharedT) := seenQ Qk lk (importedModules Rk.prog.main.body) (fun s => xlAt Qk [] s && recOk (RowW.records Rk.toRowW) s) x.abs
theorem run1 (w : World) (os : OsState) : (Xk w os).map (fun x => looksF Rk.prog (boot_heap w.params) x.abs) = some true := by
  kernel_rfl
theorem look0 (w : World) (os : OsState) : (Xk w os).map (fun x => (Sk x).1) = some (expectedOf Qk) := by
  kernel_rfl
theorem look1 (w : World) (os : OsState) : (Xk w os).map (fun x => (Sk x).2.1) = some (bltViewBooted) := by
  kernel_rfl
theorem look2 (w : World) (os : OsState) : (Xk w os).map (fun x => (Sk x).2.2.1) = some (true) := by
  kernel_rfl
theorem look3 (w : World) (os : OsState) : (Xk w os).map (fun x => (Sk x).2.2.2.1) = some (true) := by
  kernel_rfl
theorem look4 (w : World) (os : OsState) : (Xk w os).map (fun x => (Sk x).2.2.2.2.1) = some (pinGoodD (drecsOf Qk)) := by
  kernel_rfl
theorem look5 (w : World) (os : OsState) : (Xk w os).map (fun x => (Sk x).2.2.2.2.2.1) = some (plainGoodE Qk (looseW Qk lk)) := by
  kernel_rfl
theorem look6 (w : World) (os : OsState) : (Xk w os).map (fun x => (Sk x).2.2.2.2.2.2.1) = some (plainGoodD Qk lk) := by
  kernel_rfl
theorem look7 (w : World) (os : OsState) : (Xk w os).map (fun x => (Sk x).2.2.2.2.2.2.2.1) = some (wideGood Qk) := by
  kernel_rfl
theorem look8 (w : World) (os : OsState) : (Xk w os).map (fun x => (Sk x).2.2.2.2.2.2.2.2) = some (clsGoodW Qk lk) := by
  kernel_rfl
theorem run2 (w : World) (os : OsState) : (Xk w os).map (fun x => Sk x) = some (expectedOf Qk, bltViewBooted, true, true, pinGoodD (drecsOf Qk), plainGoodE Qk (looseW Qk lk), plainGoodD Qk lk, wideGood Qk, clsGoodW Qk lk) := map_pr (f := fun x => (Sk x)) (look0 w os) (map_pr (f := fun x => (Sk x).2) (look1 w os) (map_pr (f := fun x => (Sk x).2.2) (look2 w os) (map_pr (f := fun x => (Sk x).2.2.2) (look3 w os) (map_pr (f := fun x => (Sk x).2.2.2.2) (look4 w os) (map_pr (f := fun x => (Sk x).2.2.2.2.2) (look5 w os) (map_pr (f := fun x => (Sk x).2.2.2.2.2.2) (look6 w os) (map_pr (f := fun x => (Sk x).2.2.2.2.2.2.2) (look7 w os) (look8 w os))))))))
end Wb
set_option maxHeartbeats 1000000
/-! zip of two walks of any kind; then zip(a tuple, a list) -/
namespace Lz
open PySem PySem.Spec PyProof.Rows L2
/-- how one of the two is walked -/
structure Kind2 where
  It : Heap → Addr → Addr → Nat → Prop
  Src : Heap → Addr → Array Value → Prop
  obj : ∀ {h it l k}, It h it l k → ∃ o, h.get? it = some o ∧ ∀ v, o.data ≠ .cell v
  mvIt : ∀ {h h' it l k}, It h it l k → (∀ o, h.get? it = some o → h'.get? it = some o) → It h' it l k
  mvSrc : ∀ {h h' l xs}, Src h l xs → (∀ o, h.get? l = some o → h'.get? l = some o) → Src h' l xs
  item : ∀ {prog : Program} {w : World} {A : Around} {E : Value → Shared → Prop} {s : Shared} {it l : Addr} {i : Nat} {xs : Array Value} {x : Value} {Q : Value → Shared → Prop}, It s.heap it l i → Src s.heap l xs → xs[i]? = some x →
    (∀ h', It h' it l (i + 1) → Heap.SameBut it s.heap h' → Q x { s with heap := h' }) → wpAny (model prog w) A (Builtin.SmallTypes.nextOf (.ref it)) Q E s
  fin : ∀ {prog : Program} {w : World} {A : Around} {E : Value → Shared → Prop} {s : Shared} {it l : Addr} {i : Nat} {xs : Array Value} {Q : Value → Shared → Prop}, A.handled = none → It s.heap it l i → Src s.heap l xs → xs[i]? = none →
    (∀ h' e, Heap.ExtBut it s.heap h' → (∃ o, h'.get? e = some o ∧ o.cls = .type "StopIteration") → E (.ref e) { s with heap := h' }) → wpAny (model prog w) A (Builtin.SmallTypes.nextOf (.ref it)) Q E s
def kTup : Kind2 where
  It := fun h => h.IsTupleIter
  Src := fun h => h.IsTuple
  obj := fun ⟨o, e, _, d⟩ => ⟨o, e, fun v q => by rw [d] at q; cases q⟩
  mvIt := fun z k => z.at k
  mvSrc := fun ⟨o, e, r⟩ k => ⟨o, k o e, r⟩
  item := fun a b c d => RZ.nextOf_tuple_item a b c d
  fin := fun a b c d e => RZ.nextOf_tuple_end a b c d e
def kLst : Kind2 where
  It := fun h => h.IsListIter
  Src := fun h => h.IsList
  obj := fun ⟨o, e, _, d⟩ => ⟨o, e, fun v q => by rw [d] at q; cases q⟩
  mvIt := fun z k => z.at k
  mvSrc := fun ⟨o, e, r⟩ k => ⟨o, k o e, r⟩
  item := fun a b c d => wpAny_nextOf_list_item a b c d
  fin := fun a b c d e => wpAny_nextOf_list_end a b c d e
section
variable {prog : Program} {w : World} {A : Around} {E : Value → Shared → Prop} {s : Shared} {z TI TO i1 i2 l1 l2 : Addr} {k1 k2 : Nat} {xs ys : Array Value} {x y a b : Value} (U V : Kind2)
/-- both walks have an item more -/
theorem next_both {Q : Value → Shared → Prop} (D : ZipApart z TI TO i1 i2 l1 l2) (hz : IsZip s.heap z TI TO .none) (hTI : IsPair s.heap TI (.ref i1) (.ref i2)) (hTO : IsPair s.heap TO a b)
    (h1 : U.It s.heap i1 l1 k1) (h2 : V.It s.heap i2 l2 k2) (g1 : U.Src s.heap l1 xs) (g2 : V.Src s.heap l2 ys) (hx : xs[k1]? = some x) (hy : ys[k2]? = some y)
    (q : ∀ h', IsZip h' z TI TO (rawInt s.heap.objs.size) → IsPair h' TO x y → U.It h' i1 l1 (k1 + 1) → V.It h' i2 l2 (k2 + 1) → IsPair h' s.heap.objs.size x y → h'.objs.size = s.heap.objs.size + 1 →
      (∀ c o, c ≠ z → c ≠ TO → c ≠ i1 → c ≠ i2 → s.heap.get? c = some o → h'.get? c = some o) → Q (.ref s.heap.objs.size) { s with heap := h' }) :
    wpAny (model prog w) A (Builtin.«zip.__next__» ⟨[.ref z], []⟩) (fun fin s' => ∃ v, fin = .done (.ret v) ∧ Q v s') E s := by
  show wpAny _ _ (field (.ref z) 2 >>= _) _ _ _
  refine wpAny_bind (wpAny_field hz rfl (x := .bool false) rfl ?_)
  show wpAny _ _ (field (.ref z) 3 >>= _) _ _ _
  refine wpAny_bind (wpAny_field hz rfl (x := .ref TI) rfl (wpAny_bind (wpAny_seqItems hTI rfl ?_)))
  show wpAny _ _ (Builtin.SmallTypes.ownedTupleIsFree (.ref z) >>= _) _ _ _
  unfold Builtin.SmallTypes.ownedTupleIsFree
  refine wpAny_bind (wpAny_bind (wpAny_field hz rfl (x := .none) rfl (wpAny_pure ?_)))
  simp only [if_true]
  refine wpAny_bind (wpAny_rule (wpAny_bind (wpAny_field hz rfl (x := .ref TO) rfl (wpAny_bind (wpAny_setField_rec hz (by simp) fun ha za sa => wpAny_bind ?_)))))
  replace za : IsZip ha z TI TO .ellipsis := za
  simp only [List.zipIdx_cons, List.zipIdx_nil, List.forIn_cons, List.forIn_nil]
  refine wpAny_bind (wpAny_bind (wpAny_onRaise ?_))
  show wpAny _ _ (Builtin.SmallTypes.nextOf (.ref i1) >>= _) _ _ _
  have ea := sa.extBut
  refine wpAny_bind (U.item (U.mvIt h1 fun o e => ea _ _ D.i1z e) (U.mvSrc g1 fun o e => ea _ _ D.l1z e) hx fun hb u1 sb => wpAny_pure ?_)
  have eb := sb.extBut
  have TOb : IsPair hb TO a b := eb _ _ D.TOi1 (ea _ _ D.TOz hTO)
  refine wpAny_bind (wpAny_seqItems TOb rfl (wpAny_bind (wpAny_updateSeq_pair TOb fun hc TOc sc => ?_)))
  replace TOc : IsPair hc TO x b := TOc
  have ec := sc.extBut
  refine wpAny_bind (wpAny_letGo (wpAny_pure (wpAny_bind (wpAny_bind (wpAny_onRaise ?_)))))
  show wpAny _ _ (Builtin.SmallTypes.nextOf (.ref i2) >>= _) _ _ _
  refine wpAny_bind (V.item (V.mvIt h2 fun o e => ec _ _ D.TOi2.symm (eb _ _ D.i12.symm (ea _ _ D.i2z e))) (V.mvSrc g2 fun o e => ec _ _ D.l2TO (eb _ _ D.l2i1 (ea _ _ D.l2z e))) hy fun hd u2 sd => wpAny_pure ?_)
  have ed := sd.extBut
  have TOd : IsPair hd TO x b := ed _ _ D.TOi2 TOc
  refine wpAny_bind (wpAny_seqItems TOd rfl (wpAny_bind (wpAny_updateSeq_pair TOd fun he TOe se => ?_)))
  replace TOe : IsPair he TO x y := TOe
  have ee := se.extBut
  refine wpAny_bind (wpAny_letGo (wpAny_pure (wpAny_pure (wpAny_bind (wpAny_seqItems TOe rfl (wpAny_bind (wpAny_newTuple ?_)))))))
  have size : he.objs.size = s.heap.objs.size := by rw [se.1, sd.1, sc.1, sb.1, sa.1]
  have ze : IsZip he z TI TO .ellipsis := ee _ _ D.TOz.symm (ed _ _ D.i2z.symm (ec _ _ D.TOz.symm (eb _ _ D.i1z.symm za)))
  have ke : ∀ c o, c ≠ z → c ≠ TO → c ≠ i1 → c ≠ i2 → s.heap.get? c = some o → he.get? c = some o := fun c o n1 n2 n3 n4 e => ee _ _ n2 (ed _ _ n4 (ec _ _ n2 (eb _ _ n3 (ea _ _ n1 e))))
  have v1 : U.It he i1 l1 (k1 + 1) := U.mvIt u1 fun o e => ee _ _ D.TOi1.symm (ed _ _ D.i12 (ec _ _ D.TOi1.symm e))
  have v2 : V.It he i2 l2 (k2 + 1) := V.mvIt u2 fun o e => ee _ _ D.TOi2.symm e
  have zlt : z < he.objs.size := Heap.lt_size ze
  show wpAny _ _ (Builtin.SmallTypes.ownedTupleHandOut (.ref z) (.ref he.objs.size) >>= _) _ _ _
  unfold Builtin.SmallTypes.ownedTupleHandOut
  have zf : IsZip (he.push { cls := .type "tuple", data := .seq #[x, y] }) z TI TO .ellipsis := Heap.get?_push_of_some _ ze
  refine wpAny_bind (wpAny_bind (wpAny_setField_rec zf (by simp) fun hg zg sg => ?_))
  replace zg : IsZip hg z TI TO (rawInt he.objs.size) := zg
  refine wpAny_setField_rec zg (by simp) fun hh zh sh => ?_
  replace zh : IsZip hh z TI TO (rawInt he.objs.size) := zh
  have up : ∀ c o, c ≠ z → he.get? c = some o → hh.get? c = some o := fun c o n e => sh.extBut _ _ n (sg.extBut _ _ n (Heap.get?_push_of_some _ e))
  have pair : IsPair hh he.objs.size x y := sh.extBut _ _ (Nat.ne_of_gt zlt) (sg.extBut _ _ (Nat.ne_of_gt zlt) (Heap.get?_push_size _ rfl))
  have size2 : hh.objs.size = he.objs.size + 1 := by rw [sh.1, sg.1, Heap.size_push]
  rw [size] at zh pair size2
  refine wpAny_pure ⟨_, rfl, ?_⟩
  show Q (.ref he.objs.size) _
  rw [size]
  exact q hh zh (up _ _ D.TOz TOe) (U.mvIt v1 fun o e => up _ o D.i1z e) (V.mvIt v2 fun o e => up _ o D.i2z e) pair size2 fun c o n1 n2 n3 n4 e => up c o n1 (ke c o n1 n2 n3 n4 e)
/-- one of them has none -/
theorem next_none {Q : Fin → Shared → Prop} (hn : A.handled = none) (D : ZipApart z TI TO i1 i2 l1 l2) (hz : IsZip s.heap z TI TO .none) (hTI : IsPair s.heap TI (.ref i1) (.ref i2)) (hTO : IsPair s.heap TO a b)
    (h1 : U.It s.heap i1 l1 k1) (h2 : V.It s.heap i2 l2 k2) (g1 : U.Src s.heap l1 xs) (g2 : V.Src s.heap l2 ys) (over : xs[k1]? = none ∨ ys[k2]? = none)
    (q : ∀ h' e, (∀ c o, c ≠ z → c ≠ TO → c ≠ i1 → c ≠ i2 → s.heap.get? c = some o → h'.get? c = some o) → (∃ o, h'.get? e = some o ∧ o.cls = .type "StopIteration") → E (.ref e) { s with heap := h' }) :
    wpAny (model prog w) A (Builtin.«zip.__next__» ⟨[.ref z], []⟩) Q E s := by
  show wpAny _ _ (field (.ref z) 2 >>= _) _ _ _
  refine wpAny_bind (wpAny_field hz rfl (x := .bool false) rfl ?_)
  show wpAny _ _ (field (.ref z) 3 >>= _) _ _ _
  refine wpAny_bind (wpAny_field hz rfl (x := .ref TI) rfl (wpAny_bind (wpAny_seqItems hTI rfl ?_)))
  show wpAny _ _ (Builtin.SmallTypes.ownedTupleIsFree (.ref z) >>= _) _ _ _
  unfold Builtin.SmallTypes.ownedTupleIsFree
  refine wpAny_bind (wpAny_bind (wpAny_field hz rfl (x := .none) rfl (wpAny_pure ?_)))
  simp only [if_true]
  refine wpAny_bind (wpAny_rule (wpAny_bind (wpAny_field hz rfl (x := .ref TO) rfl (wpAny_bind (wpAny_setField_rec hz (by simp) fun ha za sa => wpAny_bind ?_)))))
  replace za : IsZip ha z TI TO .ellipsis := za
  simp only [List.zipIdx_cons, List.zipIdx_nil, List.forIn_cons, List.forIn_nil]
  refine wpAny_bind (wpAny_bind (wpAny_onRaise ?_))
  show wpAny _ _ (Builtin.SmallTypes.nextOf (.ref i1) >>= _) _ _ _
  have ea := sa.extBut
  have j1 := U.mvIt h1 fun o e => ea _ _ D.i1z e
  have f1 := U.mvSrc g1 fun o e => ea _ _ D.l1z e
  cases hx : xs[k1]? with
  | none =>
    refine wpAny_bind (U.fin hn j1 f1 hx fun hb e eb he => ?_)
    obtain ⟨oe, ho, hc⟩ := he
    have zb : IsZip hb z TI TO .ellipsis := eb _ _ D.i1z.symm za
    have nz : e ≠ z := fun t => by subst t; rw [zb] at ho; cases ho; simp at hc
    exact wpAny_setField_rec zb (by simp) fun hc' _ sc => q hc' e (fun c o n1 _ n3 _ t => sc.extBut _ _ n1 (eb _ _ n3 (ea _ _ n1 t))) ⟨oe, sc.extBut _ _ nz ho, hc⟩
  | some x =>
    have hy : ys[k2]? = none := over.elim (fun t => by rw [hx] at t; cases t) id
    refine wpAny_bind (U.item j1 f1 hx fun hb u1 sb => wpAny_pure ?_)
    have eb := sb.extBut
    have TOb : IsPair hb TO a b := eb _ _ D.TOi1 (ea _ _ D.TOz hTO)
    refine wpAny_bind (wpAny_seqItems TOb rfl (wpAny_bind (wpAny_updateSeq_pair TOb fun hc TOc sc => ?_)))
    have ec := sc.extBut
    refine wpAny_bind (wpAny_letGo (wpAny_pure (wpAny_bind (wpAny_bind (wpAny_onRaise ?_)))))
    show wpAny _ _ (Builtin.SmallTypes.nextOf (.ref i2) >>= _) _ _ _
    refine wpAny_bind (V.fin hn (V.mvIt h2 fun o e => ec _ _ D.TOi2.symm (eb _ _ D.i12.symm (ea _ _ D.i2z e))) (V.mvSrc g2 fun o e => ec _ _ D.l2TO (eb _ _ D.l2i1 (ea _ _ D.l2z e))) hy fun hd e ed he => ?_)
    obtain ⟨oe, ho, hc'⟩ := he
    have zd : IsZip hd z TI TO .ellipsis := ed _ _ D.i2z.symm (ec _ _ D.TOz.symm (eb _ _ D.i1z.symm za))
    have nz : e ≠ z := fun t => by subst t; rw [zd] at ho; cases ho; simp at hc'
    exact wpAny_setField_rec zd (by simp) fun hf _ sf => q hf e (fun c o n1 n2 n3 n4 t => sf.extBut _ _ n1 (ed _ _ n4 (ec _ _ n2 (eb _ _ n3 (ea _ _ n1 t))))) ⟨oe, sf.extBut _ _ nz ho, hc'⟩
end
end Lz
set_option maxHeartbeats 1000000
namespace Lz
open PySem PySem.Spec PyProof.Rows L2
section
variable {prog : Program} {w : World} {A : Around} {E : Value → Shared → Prop} {s : Shared} {z TI TO i1 i2 l1 l2 : Addr} {k1 k2 : Nat} {xs ys : Array Value} {x y a b : Value} (U V : Kind2)
theorem py_both {Q : Option Value → Shared → Prop} (D : ZipApart z TI TO i1 i2 l1 l2) (hz : IsZip s.heap z TI TO .none) (hTI : IsPair s.heap TI (.ref i1) (.ref i2)) (hTO : IsPair s.heap TO a b)
    (h1 : U.It s.heap i1 l1 k1) (h2 : V.It s.heap i2 l2 k2) (g1 : U.Src s.heap l1 xs) (g2 : V.Src s.heap l2 ys) (hx : xs[k1]? = some x) (hy : ys[k2]? = some y)
    (q : ∀ h', IsZip h' z TI TO (rawInt s.heap.objs.size) → IsPair h' TO x y → U.It h' i1 l1 (k1 + 1) → V.It h' i2 l2 (k2 + 1) → IsPair h' s.heap.objs.size x y → h'.objs.size = s.heap.objs.size + 1 →
      (∀ c o, c ≠ z → c ≠ TO → c ≠ i1 → c ≠ i2 → s.heap.get? c = some o → h'.get? c = some o) → Q (some (.ref s.heap.objs.size)) { s with heap := h' }) : wpAny (model prog w) A (pyNext (.ref z)) Q E s := by
  have ty : s.TypeIs (.ref z) "zip" := ⟨_, hz, rfl⟩
  unfold pyNext
  refine wpAny_bind (wpAny_attempt (wpAny_callSpecial?_slot (name := Str.ofString "__next__") ty F.slot_zip_next (wpAny_call_entry F.slot_zip_next ty F.entry_zip_next ?_ (F.args_zip_next_1 _))))
  exact next_both U V D hz hTI hTO h1 h2 g1 g2 hx hy fun h' a1 a2 a3 a4 a5 a6 a7 => wpAny_pure (q h' a1 a2 a3 a4 a5 a6 a7)
theorem py_none {Q : Option Value → Shared → Prop} (hn : A.handled = none) (D : ZipApart z TI TO i1 i2 l1 l2) (hz : IsZip s.heap z TI TO .none) (hTI : IsPair s.heap TI (.ref i1) (.ref i2)) (hTO : IsPair s.heap TO a b)
    (h1 : U.It s.heap i1 l1 k1) (h2 : V.It s.heap i2 l2 k2) (g1 : U.Src s.heap l1 xs) (g2 : V.Src s.heap l2 ys) (over : xs[k1]? = none ∨ ys[k2]? = none)
    (q : ∀ h', (∀ c o, c ≠ z → c ≠ TO → c ≠ i1 → c ≠ i2 → s.heap.get? c = some o → h'.get? c = some o) → Q none { s with heap := h' }) : wpAny (model prog w) A (pyNext (.ref z)) Q E s := by
  have ty : s.TypeIs (.ref z) "zip" := ⟨_, hz, rfl⟩
  unfold pyNext
  refine wpAny_bind (wpAny_attempt (wpAny_callSpecial?_slot (name := Str.ofString "__next__") ty F.slot_zip_next (wpAny_call_entry F.slot_zip_next ty F.entry_zip_next (next_none U V hn D hz hTI hTO h1 h2 g1 g2 over fun h' e hk he => ?_) (F.args_zip_next_1 _))))
  obtain ⟨o, ho, hc⟩ := he
  exact wpAny_bind (wpAny_isInstance (T := "StopIteration") (b := true) ⟨o, ho, hc⟩ isSubtype_stop (wpAny_pure (q _ hk)))
end
/-! ### zip(a tuple, a list) is made -/
abbrev m1 (h : Heap) (l1 : Addr) : Heap := h.push { cls := .type "tuple_iterator", data := .fields #[.ref l1, .int 0 0] }
abbrev m2 (h : Heap) (l1 l2 : Addr) : Heap := (m1 h l1).push { cls := .type "list_iterator", data := .fields #[.ref l2, .int 0 0] }
abbrev m3 (h : Heap) (l1 l2 : Addr) : Heap := (m2 h l1 l2).push { cls := .type "tuple", data := .seq #[.ref h.objs.size, .ref (m1 h l1).objs.size] }
abbrev m4 (h : Heap) (l1 l2 : Addr) : Heap := (m3 h l1 l2).push { cls := .type "tuple", data := .seq #[.none, .none] }
abbrev m5 (h : Heap) (l1 l2 : Addr) : Heap := (m4 h l1 l2).push { cls := .type "zip", data := .fields #[.none, .bool false, .bool false, .ref (m2 h l1 l2).objs.size, .ref (m3 h l1 l2).objs.size] }
theorem new_mixed (l1 l2 : Addr) (xs ys : Array Value) : Meets (Builtin.«zip.__new__» ⟨[.type "zip", .ref l1, .ref l2], []⟩) (fun _ R s => s.heap.IsTuple l1 xs ∧ s.heap.IsList l2 ys ∧ R (.ok (.ret (.ref (m4 s.heap l1 l2).objs.size))) { s with heap := m5 s.heap l1 l2 }) :=
  .of_wp fun prog w A R s h => by
    obtain ⟨hp, gs, dr, tk, os⟩ := s
    obtain ⟨t1, t2, h⟩ := h
    have hsub := sub_zip
    have isT : Heap.IsTuple (Shared.heap ⟨hp, gs, dr, tk, os⟩) l1 xs := t1
    have isL : Heap.IsList (Shared.heap ⟨hp.push { cls := .type "tuple_iterator", data := .fields #[.ref l1, .int 0 0] }, gs, dr, tk, os⟩) l2 ys := Heap.IsList.push t2 _
    wp_walk using wpAny_pyIter_tuple isT, wpAny_pyIter_list isL
    exact ⟨_, rfl, h⟩
section
variable {prog : Program} {w : World} {A : Around} {E : Value → Shared → Prop} {s : Shared}
theorem call_mixed {l1 l2 : Addr} {xs ys : Array Value} {Q : Value → Shared → Prop} (t1 : s.heap.IsTuple l1 xs) (t2 : s.heap.IsList l2 ys)
    (q : ∀ h', IsZip h' (s.heap.objs.size + 4) (s.heap.objs.size + 2) (s.heap.objs.size + 3) .none → IsPair h' (s.heap.objs.size + 2) (.ref s.heap.objs.size) (.ref (s.heap.objs.size + 1)) → IsPair h' (s.heap.objs.size + 3) .none .none →
      h'.IsTupleIter s.heap.objs.size l1 0 → h'.IsListIter (s.heap.objs.size + 1) l2 0 → (∀ c o, s.heap.get? c = some o → h'.get? c = some o) → Q (.ref (s.heap.objs.size + 4)) { s with heap := h' }) :
    wpAny (model prog w) A (call (.type "zip") [.ref l1, .ref l2]) Q E s := by
  refine callType_new F.called_zip (by decide) (F.typeCall_zip_2 _ _) (F.newCall_zip_2 _ _) (fun obj => F.args_object_init_3 obj _ _) F.entry_zip_new (new_mixed l1 l2 xs ys) ⟨t1, t2, ?_⟩
  have n1 : (m1 s.heap l1).objs.size = s.heap.objs.size + 1 := Heap.size_push ..
  have n2 : (m2 s.heap l1 l2).objs.size = s.heap.objs.size + 2 := (Heap.size_push ..).trans (congrArg (· + 1) n1)
  have n3 : (m3 s.heap l1 l2).objs.size = s.heap.objs.size + 3 := (Heap.size_push ..).trans (congrArg (· + 1) n2)
  have n4 : (m4 s.heap l1 l2).objs.size = s.heap.objs.size + 4 := (Heap.size_push ..).trans (congrArg (· + 1) n3)
  have on : ∀ (h : Heap) (o : Obj) {c : Addr} {u : Obj}, h.get? c = some u → (h.push o).get? c = some u := fun _ _ _ _ e => Heap.get?_push_of_some _ e
  have o5 : (m5 s.heap l1 l2).get? (m4 s.heap l1 l2).objs.size = some _ := Heap.get?_push_size _ rfl
  have o4 : (m5 s.heap l1 l2).get? (m3 s.heap l1 l2).objs.size = some _ := on _ _ (Heap.get?_push_size _ rfl)
  have o3 : (m5 s.heap l1 l2).get? (m2 s.heap l1 l2).objs.size = some _ := on _ _ (on _ _ (Heap.get?_push_size _ rfl))
  have o2 : (m5 s.heap l1 l2).get? (m1 s.heap l1).objs.size = some _ := on _ _ (on _ _ (on _ _ (Heap.get?_push_size _ rfl)))
  have o1 : (m5 s.heap l1 l2).get? s.heap.objs.size = some _ := on _ _ (on _ _ (on _ _ (on _ _ (Heap.get?_push_size _ rfl))))
  show _ ∧ _
  rw [n2, n3, n4] at o5
  rw [n1, n2] at o3
  rw [n3] at o4
  rw [n1] at o2
  rw [n4]
  exact ⟨⟨_, o5, rfl⟩, q _ o5 o3 o4 ⟨_, o1, rfl, rfl⟩ ⟨_, o2, rfl, rfl⟩ fun c o e => on _ _ (on _ _ (on _ _ (on _ _ (on _ _ e))))⟩
end
/-! ### its turns -/
def ItzM (K : PySem.W.Frag) (a b : Addr) : It :=
  ⟨fun i H => ∃ (xs ys : List V) (x y : V), SqT K H a xs ∧ SqL K H b ys ∧ xs[i]? = some x ∧ ys[i]? = some y,
    fun i H v H' => ∃ T x y, v = .ref T ∧ H T = none ∧ H' = upd H T (.tup [x, y]) ∧ (∀ xs, SqT K H a xs → xs[i]? = some x) ∧ ∀ ys, SqL K H b ys → ys[i]? = some y,
    fun i H => ∃ xs ys : List V, SqT K H a xs ∧ SqL K H b ys ∧ (xs.length ≤ i ∨ ys.length ≤ i)⟩
theorem five {c z TI TO i1 i2 : Addr} (h : c ∈ [z, TI, TO, i1, i2]) : c = z ∨ c = TI ∨ c = TO ∨ c = i1 ∨ c = i2 := by simpa using h
theorem turn_mixed {P : Program} {w : World} {K : PySem.W.Frag} {elts : List Expr} {kk : Nat} {tpos : Pos} {a b z TI TO i1 i2 : Addr} (D : ZipApart z TI TO i1 i2 a b) :
    Turn P w K (.Tuple elts kk tpos) (ItzM K a b) [z, TI, TO, i1, i2] z (fun i h => IsZip h z TI TO .none ∧ IsPair h TI (.ref i1) (.ref i2) ∧ (∃ x y, IsPair h TO x y) ∧ kTup.It h i1 a i ∧ kLst.It h i2 b i) where
  mem := by simp
  obj := fun i h st c hc => by
    obtain ⟨hz, hTI, ⟨x, y, hTO⟩, j1, j2⟩ := st
    rcases five hc with rfl | rfl | rfl | rfl | rfl
    · exact ⟨_, hz, fun v q => nomatch q⟩
    · exact ⟨_, hTI, fun v q => nomatch q⟩
    · exact ⟨_, hTO, fun v q => nomatch q⟩
    · exact kTup.obj j1
    · exact kLst.obj j2
  keep := fun i h h' st k => by
    obtain ⟨hz, hTI, ⟨x, y, hTO⟩, j1, j2⟩ := st
    exact ⟨k z (by simp) _ hz, k TI (by simp) _ hTI, ⟨x, y, k TO (by simp) _ hTO⟩, kTup.mvIt j1 fun o q => k i1 (by simp) o q, kLst.mvIt j2 fun o q => k i2 (by simp) o q⟩
  item := by
    intro X hP hw hK hc i pins s σ H E I hf st hg
    subst hP hw hK
    obtain ⟨hz, hTI, ⟨x0, y0, hTO⟩, j1, j2⟩ := st
    obtain ⟨xs, ys, x, y, qx, qy, hx, hy⟩ := hg
    obtain ⟨its, rv, p1, _⟩ := I.tuple qx
    obtain ⟨its2, rv2, p2, _⟩ := I.list qy
    obtain ⟨u, hu, ru⟩ := rv.get hx
    obtain ⟨u2, hu2, ru2⟩ := rv2.get hy
    have zlt : z < s.heap.objs.size := Heap.lt_size hz
    refine py_both kTup kLst D hz hTI hTO j1 j2 (show s.heap.IsTuple a its.toArray from p1) p2.isList (x := u) (y := u2) (by simpa using hu) (by simpa using hu2) fun h' z' TO' j1' j2' hT hsz hk => ?_
    refine ⟨_, rfl, wpAny_letOwnedTupleGo_zip (s := { s with heap := h' }) z' fun h'' z'' sb => ?_⟩
    have pair : h''.get? s.heap.objs.size = some { cls := .type "tuple", data := .seq #[u, u2] } := (sb.2 _ (Nat.ne_of_gt zlt)).trans hT
    have nw : ObjOk X.prog X.w (upd H s.heap.objs.size (.tup [x, y])) h'' s.heap.objs.size (.tup [x, y]) := ⟨by show 2 ≤ sizeLine; decide, [u, u2], .cons ru (.cons ru2 .nil), ⟨_, pair, rfl, _, rfl⟩⟩
    have I1 : Inv X pins σ (upd H s.heap.objs.size (.tup [x, y])) { s with heap := h'' } :=
      I.turnedNew (t' := s.toks) (ch := [z, TI, TO, i1, i2]) (fun c o hb q => (sb.2 c (fun t => hb (by simp [t]))).trans (hk c o (fun t => hb (by simp [t])) (fun t => hb (by simp [t])) (fun t => hb (by simp [t])) (fun t => hb (by simp [t])) q)) hf (Nat.le_refl _) nw
    refine ⟨.ref s.heap.objs.size, _, I1, rfl, ⟨_, x, y, rfl, I.hok.fresh (Nat.le_refl _), rfl, fun l hl => by rw [I.tuple_inj hl qx]; exact hx, fun l hl => by rw [I.list_inj hl qy]; exact hy⟩, ⟨z'', ?_, ⟨u, u2, ?_⟩, ?_, ?_⟩, fun c hcm => ?_⟩
    · exact (sb.2 _ D.TIz).trans (hk _ _ D.TIz D.TITO D.TIi1 D.TIi2 hTI)
    · exact (sb.2 _ D.TOz).trans TO'
    · exact kTup.mvIt j1' fun o q => (sb.2 _ D.i1z).trans q
    · exact kLst.mvIt j2' fun o q => (sb.2 _ D.i2z).trans q
    · have lt : c < s.heap.objs.size := by
        rcases five hcm with rfl | rfl | rfl | rfl | rfl
        · exact zlt
        · exact Heap.lt_size hTI
        · exact Heap.lt_size hTO
        · obtain ⟨_, e1, _⟩ := kTup.obj j1
          exact Heap.lt_size e1
        · obtain ⟨_, e2, _⟩ := kLst.obj j2
          exact Heap.lt_size e2
      rw [upd_ne (Nat.ne_of_lt lt)]
      exact (hf c hcm).1
  done := by
    intro X hP hw hK hc i pins s σ H E I hf st hg
    subst hP hw hK
    obtain ⟨hz, hTI, ⟨x0, y0, hTO⟩, j1, j2⟩ := st
    obtain ⟨xs, ys, qx, qy, over⟩ := hg
    obtain ⟨its, rv, p1, _⟩ := I.tuple qx
    obtain ⟨its2, rv2, p2, _⟩ := I.list qy
    have e1 := rv.length
    have e2 := rv2.length
    have none' : its.toArray[i]? = none ∨ its2.toArray[i]? = none := over.imp (fun q => by simp; omega) fun q => by simp; omega
    exact py_none kTup kLst (I.ok.hd hc) D hz hTI hTO j1 j2 (show s.heap.IsTuple a its.toArray from p1) p2.isList none' fun h' hk => ⟨rfl, I.turnedL (t' := s.toks) (ch := [z, TI, TO, i1, i2]) (fun c o hb q =>
      hk c o (fun t => hb (by simp [t])) (fun t => hb (by simp [t])) (fun t => hb (by simp [t])) (fun t => hb (by simp [t])) q) hf⟩
  self := fun A i s Q E st h => wpAny_pyIter_zip st.1 h
def iZipM (K : PySem.W.Frag) (ta : TA) : TI := fun σ H R => ta σ H fun vs H1 => ∃ a b xs ys, vs = [.ref a, .ref b] ∧ SqT K H1 a xs ∧ SqL K H1 b ys ∧ R (ItzM K a b) H1
theorem pi_zipM {X : Cx} {e e2 : Expr} {ta : TA} {p pos tpos : Pos} {elts : List Expr} {kk : Nat} (hg : Gl X "zip") (hm : X.mg "zip" = none) (ha : PA X [e, e2] ta)
    (hs : starEach [e, e2] X.env = (false, eval e X.env) :: starEach [e2] X.env := by rfl) (hpl : (backTo pos (starEach [e2] X.env)).any (·.1) = false := by rfl) :
    PI X (.Tuple elts kk tpos) (.Call (.Name "zip" p) [e, e2] [] pos) (iZipM X.K ta) := by
  refine ⟨fun pins s σ H R I h => Call_ (ld_blt I hg hm PyProof.Rows.boot_zip (PyProof.Rows.callWith_type1 (thn (ha.run pos pins s σ H _ I h) fun us s1 ⟨vs, H1, I1, r1, a, b, xs, ys, ex, qx, qy, q⟩ => ?_) hs hpl))⟩
  subst ex
  cases r1 with
  | cons ra rr =>
    cases rr with
    | cons rb rr =>
      cases rr
      cases ra
      cases rb
      obtain ⟨its, rv, p1, _⟩ := I1.tuple qx
      obtain ⟨its2, rv2, p2, _⟩ := I1.list qy
      obtain ⟨o1, ho1, _⟩ := id p1
      refine call_mixed (show s1.heap.IsTuple a its.toArray from p1) p2.isList fun h' hz hTI hTO j1 j2 hk => wpAny_pyIter_zip hz ?_
      have I2 : Inv X pins σ H1 { s1 with heap := h' } := I1.kept (t' := s1.toks) hk
      refine ⟨s1.heap.objs.size + 4, [s1.heap.objs.size + 4, s1.heap.objs.size + 2, s1.heap.objs.size + 3, s1.heap.objs.size, s1.heap.objs.size + 1], _, _, H1, rfl, I2, turn_mixed (PySem.W.ktu_apart s1.heap.objs.size a b (Heap.lt_size ho1) p2.lt), ⟨hz, hTI, ⟨_, _, hTO⟩, j1, j2⟩, fun c hc => ?_, q⟩
      have le : s1.heap.objs.size ≤ c := by
        rcases five hc with rfl | rfl | rfl | rfl | rfl
        · exact Nat.le_add_right _ _
        · exact Nat.le_add_right _ _
        · exact Nat.le_add_right _ _
        · exact Nat.le_refl _
        · exact Nat.le_add_right _ _
      exact I1.fpOk le (I1.hok.fresh le)
theorem walk_zipM {K : PySem.W.Frag} {a b : Addr} {xs ys : List V} {n : Nat} (hn : n = min xs.length ys.length) : Walk (ItzM K a b) n (fun H => SqT K H a xs ∧ SqL K H b ys) (YPair (fun i => xs[i]?) (fun i => ys[i]?)) := by
  subst hn
  refine ⟨fun i _ hi q => ?_, fun _ q => ⟨xs, ys, q.1, q.2, by omega⟩, fun i H v H' _ q y => ?_⟩
  · have h1 : i < xs.length := by omega
    have h2 : i < ys.length := by omega
    exact ⟨xs, ys, xs[i], ys[i], q.1, q.2, by simp [h1], by simp [h2]⟩
  · obtain ⟨T, x, z, e1, e2, e3, e4, e5⟩ := y
    exact ⟨T, x, z, e1, e2, e3, e4 xs q.1, e5 ys q.2⟩
end Lz
set_option maxHeartbeats 1000000
/-! {k: v for ..} with tuples as keys -/
namespace Lz
open PySem PySem.Spec PyProof.Rows L2
section
variable {X : Cx}
/-- d[t] = v by a comprehension, t a tuple that stands -/
theorem put_tup {pins : List (Addr × Obj)} {σ : L2.St} {H : Hp} {s : Shared} {E : Value → Shared → Prop} {D b : Addr} {kvs : List (List Key × V)} {k : List Key} {v : V} {r : Value} {Q : Unit → Shared → Prop} (hu : X.A.units + 1 < cLine) (I : Inv X pins σ H s) (hD : H D = some (.dT kvs)) (few : kvs.length < sizeLine)
    (hb : H b = some (.tup (k.map kV))) (rv : RelV v r) (q : ∀ s', Inv X pins σ (upd H D (.dT (putK kvs k v))) s' → Q () s') : wpAny (model X.prog X.w) X.A (dictSet D (.ref b) r) Q E s := by
  obtain ⟨z, hd, xs, rel, dd⟩ := dt_of I.hok hD
  have zx : xs.length ≤ sizeLine := by rw [← Paired.length rel]; exact z
  have zl : (putK kvs k v).length ≤ sizeLine := by have := length_putK kvs k v; omega
  refine wpAny_dictSet_heap (hsz := zx) (show X.A.units < cLine by omega) (key_of I.hok hb) dd fun h' dd' same => q _ ?_
  obtain ⟨o, es, ep, ho, h2, h3, h4, _, h5⟩ := dd'
  refine d_write I (by rw [hD]; exact True.intro) same ⟨o, ho⟩ ⟨zl, hd, _, (rel.put k hb rv).keeps fun c ys ec => ?_, o, es, ep, ho, h2, h3, h4, h5⟩
  rw [upd_ne (ne_of ec hD (fun z => nomatch z))]
  exact ec
/-- the reading: D the new dict -/
def tDt (wi : TI) (g : TG) (tt : TT) (tk tv : TE) (vs : List Nat) : TE := fun σ H Q => wi σ H fun J H1 => ∀ D, H1 D = none → ∃ W : Nat → Nat → Hp → Prop, (∃ m, W 0 m (upd H1 D (.dT []))) ∧ ∀ i m H, W i m H →
  (J.stop i H ∧ Q (.ref D) H) ∨ (J.go i H ∧ ∃ Nx : Hp → Prop, (∀ H', Nx H' → ∃ m', m' < m ∧ W (i + 1) m' H') ∧ ∀ x H', J.yld i H x H' → g x (wipe σ vs) H' fun σ2 H2 => wipe σ2 vs = wipe σ vs ∧ tt σ2 H2 fun b H3 =>
    if b = true then tk σ2 H3 fun y H4 => tv σ2 H4 fun z H5 => ∃ kvs k t, y = .ref t ∧ H5 t = some (.tup (k.map kV)) ∧ H5 D = some (.dT kvs) ∧ kvs.length < sizeLine ∧ Nx (upd H5 D (.dT (putK kvs k z))) else Nx H3)
variable {kx vx tg iter : Expr} {ifs : List Expr} {scope : Scope} {own : List (Str × Nat)} {pos : Pos} {wi : TI} {g : TG} {tt : TT} {tk tv : TE}
theorem pe_dcT (hc : X.calm = true) (hu : X.A.units + 1 < cLine) (hN : X.N.Nodup) (hi : PI X tg iter wi) (ok : BlkOk X.N X.env.scope scope own)
    (hg : ∀ (s : Shared) (H : Hp) (C : Addr) (cl : List (Str × Addr)) (fp : List Addr), PG (X.blk s H scope (compEnvC scope cl C X.env) fp) tg g) (ht : ∀ (s : Shared) (H : Hp) (C : Addr) (cl : List (Str × Addr)) (fp : List Addr), PTs (X.blk s H scope (compEnvC scope cl C X.env) fp) ifs tt)
    (hk : ∀ (s : Shared) (H : Hp) (C : Addr) (cl : List (Str × Addr)) (fp : List Addr), PE (X.blk s H scope (compEnvC scope cl C X.env) fp) kx tk) (he : ∀ (s : Shared) (H : Hp) (C : Addr) (cl : List (Str × Addr)) (fp : List Addr), PE (X.blk s H scope (compEnvC scope cl C X.env) fp) vx tv)
    (hs : ∀ x, foldedSetIterable iter X.env x = pure x := by intro _; rfl) : PE X (.DictComp kx vx [⟨tg, iter, ifs, 0⟩] scope pos) (tDt wi g tt tk tv (own.map (·.2))) := by
  refine ⟨fun pins s σ H Q I h => ?_⟩
  rw [arm_eval_DictComp]
  have cells : ∀ y ∈ scope.names, y.2 = .free → ∃ c, X.env.cells.lookup y.1 = some c := fun y hy e => (ok.free y hy e).elim (fun k => I.ok.has _ (.inl k)) fun k => I.ok.has _ (.inr k)
  refine wpAny_comprehension_free rfl hs (closure_ok cells) ok.kind (fun y hy e => by rw [ok.uniq y hy, e]) (thn (hi.run pins s σ H _ I h) fun xv s1 hx => thn hx fun itv s2 h2 => ?_)
  obtain ⟨it, fp, tn, J, H2, e, I2, T, st2, f2, q⟩ := h2
  subst e
  refine wpAny_newObj_type (newEnv_comp ?_)
  -- the new dict
  obtain ⟨D, eD⟩ : ∃ D, D = s2.heap.objs.size := ⟨_, rfl⟩
  have nD : H2 D = none := I2.hok.fresh (Nat.le_of_eq eD.symm)
  obtain ⟨W, ⟨m0, w0⟩, turn⟩ := q D nD
  obtain ⟨s3, es3⟩ : ∃ s3 : Shared, s3 = { s2 with heap := s2.heap.push { cls := .type "dict", data := .dict #[] } } := ⟨_, rfl⟩
  have hp3 : s3.heap = s2.heap.push { cls := .type "dict", data := .dict #[] } := by rw [es3]
  have I3 : Inv X pins σ (upd H2 D (.dT [])) s3 := by
    rw [es3, eD]
    exact I2.laid (t' := s2.toks) (fun b o e => Heap.get?_push_of_some _ e) (Nat.le_refl _) (dt_empty s2.heap I2.big)
  have lt2 : ∀ b ∈ fp, b < s2.heap.objs.size := fun b hb => let ⟨_, e, _⟩ := T.obj _ _ st2 b hb; Heap.lt_size e
  have f3 : ∀ b ∈ fp, FpOk X pins (upd H2 D (.dT [])) b ∧ b < s3.heap.objs.size := fun b hb => by
    have lt := lt2 b hb
    refine ⟨⟨(upd_ne (by rw [eD]; exact Nat.ne_of_lt lt)).trans (f2 b hb).1, (f2 b hb).2⟩, ?_⟩
    rw [hp3, Heap.size_push]
    exact Nat.lt_succ_of_lt lt
  have st3 : tn 0 s3.heap := T.keep _ _ _ st2 fun b _ o e => by rw [hp3]; exact Heap.get?_push_of_some _ e
  have I4 := block_start I3 ok hN f3
  have on : ∀ (P : ∀ (s : Shared) (H : Hp) (C : Addr) (cl : List (Str × Addr)) (fp : List Addr), Prop), (∀ s H C cl fp, P s H C cl fp) → P s3 (upd H2 D (.dT [])) s3.heap.objs.size (cellsFrom (s3.heap.objs.size + 1) scope.names (cloFrom X.env.cells scope.names [])) fp := fun P h => h _ _ _ _ _
  have pg := hg s3 (upd H2 D (.dT [])) s3.heap.objs.size (cellsFrom (s3.heap.objs.size + 1) scope.names (cloFrom X.env.cells scope.names [])) fp
  have pt := ht s3 (upd H2 D (.dT [])) s3.heap.objs.size (cellsFrom (s3.heap.objs.size + 1) scope.names (cloFrom X.env.cells scope.names [])) fp
  have pk := hk s3 (upd H2 D (.dT [])) s3.heap.objs.size (cellsFrom (s3.heap.objs.size + 1) scope.names (cloFrom X.env.cells scope.names [])) fp
  have pe := he s3 (upd H2 D (.dT [])) s3.heap.objs.size (cellsFrom (s3.heap.objs.size + 1) scope.names (cloFrom X.env.cells scope.names [])) fp
  rw [← eD, ← es3]
  generalize hce : compEnvC scope (cellsFrom (s3.heap.objs.size + 1) scope.names (cloFrom X.env.cells scope.names [])) s3.heap.objs.size X.env = ce at I4 pg pt pk pe
  show codeAny _ _ (.compStart (.DictComp kx vx [⟨tg, iter, ifs, 0⟩] scope pos) 0 (.ref it) (.ref D) (compEnvC scope (cellsFrom (s3.heap.objs.size + 1) scope.names (cloFrom X.env.cells scope.names [])) s3.heap.objs.size X.env)) _ { s3 with heap := pushCells (s3.heap.push { cls := .type "dict", data := .dict #[] }) scope.names }
  rw [hce]
  have cL : ce.locals = s3.heap.objs.size := by subst hce; rfl
  have n3 : ∀ b ∈ fp, (upd H2 D (.dT [])) b = none := fun b hb => (f3 b hb).1.1
  generalize upd H2 D (.dT []) = H3 at I3 I4 pg pt pk pe w0 n3 f3
  generalize hs4 : ({ s3 with heap := pushCells (s3.heap.push { cls := .type "dict", data := .dict #[] }) scope.names } : Shared) = s4 at I4 ⊢
  have st4 : tn 0 s4.heap := T.keep _ _ _ st3 fun b _ o e => by rw [← hs4]; exact pushCells_keeps _ _ _ _ (Heap.get?_push_of_some _ e)
  have room : X.A.units + 1 < cLine := hu
  have fpOk : ∀ {σ' : L2.St} {H' : Hp} {s' : Shared}, Inv (X.blk s3 H3 scope ce fp) [] σ' H' s' → (∀ b ∈ fp, H' b = none) → ∀ b ∈ fp, FpOk (X.blk s3 H3 scope ce fp) [] H' b := fun {σ' H' s'} I' n b hb =>
    ⟨n b hb, (I'.ok.exf b hb).1, I'.ok.exfs b hb, .inl hb, fun x c e => (I'.ok.exf b hb).2 x c e, fun p hp => nomatch (show p ∈ ([] : List (Addr × Obj)) from hp)⟩
  refine codeAny_compStart_dict (?loop) (T.self X.A 0 _ _ _ st4 ?loop)
  refine compLoop_anyD (fun n s' => ∃ i H', Inv (X.blk s3 H3 scope ce fp) [] (wipe σ (own.map (·.2))) H' s' ∧ tn i s'.heap ∧ (∀ b ∈ fp, H' b = none) ∧ W i n H') ?_ m0 ⟨0, H3, I4, st4, n3, w0⟩
  rintro n s5 ⟨i, H5, I5, st5, n5, w5⟩
  rcases turn i n H5 w5 with ⟨stop, qq⟩ | ⟨go, Nx, hNx, step⟩
  · refine thnF (T.done (X.blk s3 H3 scope ce fp) rfl rfl rfl hc i [] s5 _ H5 (fun _ _ => False) I5 (fpOk I5 n5) st5 stop) fun r s6 ⟨hr, I6⟩ => ?_
    subst hr
    have back : Inv X pins σ H5 s6 := I3.call' (ch := fp) I6.os I6.base I6.hok I6.bare fun b hb => ⟨(f3 b hb).1.2.2.2.1, (f3 b hb).1.2.1, (f3 b hb).1.2.2.2.2.1, (f3 b hb).1.2.2.2.2.2⟩
    have nC : H5 s3.heap.objs.size = none := cL ▸ (show H5 ce.locals = none from I6.free)
    obtain ⟨m, hn, _⟩ := I6.loc
    have hn : s6.heap.Ns ce.locals m := hn
    rw [cL] at hn
    refine ⟨m, hn, fun h'' sb => ?_⟩
    obtain ⟨f0, f1, f2', f3', f4, f5⟩ := I3.fpOk (Nat.le_refl _) nC
    exact ⟨.ref D, H5, back.turned (t' := s6.toks) (fun b o hb e => (sb.2 b hb).trans e) f0 f1 f3' f4 f5, rfl, qq⟩
  · refine thnF (T.item (X.blk s3 H3 scope ce fp) rfl rfl rfl hc i [] s5 _ H5 (fun _ _ => False) I5 (fpOk I5 n5) st5 go) fun r s6 ⟨u, hr, h6⟩ => ?_
    subst hr
    refine thnF h6 fun _ s7 ⟨x, H7, I7, r7, y7, st7, n7⟩ => ?_
    refine thnF (pg.run _ s7 _ H7 x u _ (I7.pinned (fpOk I7 n7) (T.obj _ _ st7)) r7 (step x H7 y7)) fun _ s8 ⟨σ8, H8, I8, hw8, q8⟩ => ?_
    refine thnF (pt.run _ s8 σ8 H8 _ I8 q8) fun b s9 ⟨H9, I9, q9⟩ => ?_
    have again : ∀ {s' : Shared} {H' : Hp}, Inv (X.blk s3 H3 scope ce fp) ([] ++ pinsAt fp s7.heap) σ8 H' s' → Nx H' → ∃ m, m < n ∧ ∃ i H', Inv (X.blk s3 H3 scope ce fp) [] (wipe σ (own.map (·.2))) H' s' ∧ tn i s'.heap ∧ (∀ b ∈ fp, H' b = none) ∧ W i m H' := fun {s' H'} I' nx => by
      obtain ⟨m', hm, w'⟩ := hNx H' nx
      have pin : ∀ b ∈ fp, ∀ o, s7.heap.get? b = some o → s'.heap.get? b = some o ∧ H' b = none := fun b hb o e =>
        let z := I'.pin (b, o) (List.mem_append_right _ (List.mem_append_right _ (mem_pinsAt hb e)))
        ⟨z.1, z.2.1⟩
      refine ⟨m', hm, i + 1, H', (I'.unpinned (pins := [])).weak (by rw [← hw8, wipe_length]) (fun j v e => ?_), T.keep _ _ _ st7 fun b hb o e => (pin b hb o e).1, fun b hb => ?_, w'⟩
      · rw [← hw8] at e
        exact (wipe_some e).1
      · obtain ⟨o, e, _⟩ := T.obj _ _ st7 b hb
        exact (pin b hb o e).2
    cases b with
    | false =>
      simp only [Bool.false_eq_true, if_false] at q9 ⊢
      exact again I9 q9
    | true =>
      simp only [if_true] at q9 ⊢
      refine thnF (pk.run _ s9 σ8 H9 _ I9 q9) fun z s10 ⟨yk, H10, I10, r10, q10⟩ => ?_
      refine thnF (pe.run _ s10 σ8 H10 _ I10 q10) fun z2 s11 ⟨yv, H11, I11, r11, kvs, k, t, ek, ht, hD, hz, nx⟩ => ?_
      subst ek
      cases (show z = Value.ref t from r10)
      exact put_tup (X := X.blk s3 H3 scope ce fp) room I11 hD hz ht r11 fun s12 I12 => again I12 nx
end
/-- over any walk -/
theorem dt_it {J : It} {n : Nat} {G : Hp → Prop} {Y : Nat → Hp → V → Hp → Prop} (w : Walk J n G Y) {g : TG} {tt : TT} {tk tv : TE} {vs : List Nat} {σ : L2.St} {H1 : Hp} {D : Addr} {Qd : Hp → Prop} (Pv : Nat → Hp → Prop) (h0 : Pv 0 (upd H1 D (.dT []))) (hG : ∀ i H, i ≤ n → Pv i H → G H)
    (hs : ∀ i x H H', i < n → Pv i H → Y i H x H' → g x (wipe σ vs) H' fun σ2 H2 => wipe σ2 vs = wipe σ vs ∧ tt σ2 H2 fun b H3 =>
      if b = true then tk σ2 H3 fun y H4 => tv σ2 H4 fun z H5 => ∃ kvs k t, y = .ref t ∧ H5 t = some (.tup (k.map kV)) ∧ H5 D = some (.dT kvs) ∧ kvs.length < sizeLine ∧ Pv (i + 1) (upd H5 D (.dT (putK kvs k z))) else Pv (i + 1) H3) (hd : ∀ H, Pv n H → Qd H) :
    ∃ W : Nat → Nat → Hp → Prop, (∃ m, W 0 m (upd H1 D (.dT []))) ∧ ∀ i m H, W i m H →
      (J.stop i H ∧ Qd H) ∨ (J.go i H ∧ ∃ Nx : Hp → Prop, (∀ H', Nx H' → ∃ m', m' < m ∧ W (i + 1) m' H') ∧ ∀ x H', J.yld i H x H' → g x (wipe σ vs) H' fun σ2 H2 => wipe σ2 vs = wipe σ vs ∧ tt σ2 H2 fun b H3 =>
        if b = true then tk σ2 H3 fun y H4 => tv σ2 H4 fun z H5 => ∃ kvs k t, y = .ref t ∧ H5 t = some (.tup (k.map kV)) ∧ H5 D = some (.dT kvs) ∧ kvs.length < sizeLine ∧ Nx (upd H5 D (.dT (putK kvs k z))) else Nx H3) := by
  refine ⟨fun i m H => m = n - i ∧ i ≤ n ∧ Pv i H, ⟨n, by simp, Nat.zero_le _, h0⟩, ?_⟩
  rintro i m H ⟨rfl, hi, p⟩
  by_cases lt : i < n
  · exact .inr ⟨w.goes i H lt (hG i H hi p), Pv (i + 1), fun H' p' => ⟨n - (i + 1), by omega, rfl, lt, p'⟩, fun x H' y => hs i x H H' lt p (w.yields i H x H' lt (hG i H hi p) y)⟩
  · have e : i = n := by omega
    subst e
    exact .inl ⟨w.stops H (hG _ H hi p), hd H p⟩
end Lz
namespace Wb
open PySem L2
def top (i : Nat) : Stmt := PySem.Challenge.pw_wherebegun_k22_sums_and_their_states.main.body.getD i (.Pass ⟨0, 0, 0, 0⟩)
abbrev sCell : Stmt := top 53
abbrev sPool : Stmt := top 54
abbrev sDraw : Stmt := top 55
/-- all but what lies at p stays -/
def But (p : Addr) (H H' : Hp) : Prop := ∀ b o, b ≠ p → H b = some o → H' b = some o
theorem But.refl (p : Addr) (H : Hp) : But p H H := fun _ _ _ h => h
theorem But.trans {p : Addr} {H H1 H2 : Hp} (a : But p H H1) (b : But p H1 H2) : But p H H2 := fun c o n h => b c o n (a c o n h)
theorem But.of {p : Addr} {H H' : Hp} (a : Same H H') : But p H H' := fun c o _ h => a c o h
theorem But.upd {p q : Addr} {o : HO} {H H' : Hp} (a : But p H H') (n : H' q = none) : But p H (L2.upd H' q o) := fun c u k h => by
  rw [upd_ne (ne_of_none (a c u k h) n)]
  exact a c u k h
theorem But.here {p : Addr} {o : HO} {H H' : Hp} (a : But p H H') : But p H (L2.upd H' p o) := fun c u k h => by
  rw [upd_ne k]
  exact a c u k h
theorem Same.put {q : Addr} {o : HO} {H H' : Hp} (a : Same H H') (n : H' q = none) : Same H (L2.upd H' q o) := fun c u h => by
  rw [upd_ne (ne_of_none (a c u h) n)]
  exact a c u h
/-- a pool stands at p: three ints -/
def PoolAt (H : Hp) (p : Addr) : Prop := ∃ a b c : Int, H p = some (.lst [.int a, .int b, .int c]) ∧ 0 ≤ a ∧ a < 2147483648 ∧ 0 ≤ b
def spDraw : Sp := fun vs H Q _ => ∃ (p : Addr) (m : Int), vs = [.ref p, .int m] ∧ 0 < m ∧ m < 1073741824 ∧ PoolAt H p ∧
  ∀ (d : Int) (H' : Hp), 0 ≤ d → d < m → PoolAt H' p → But p H H' → Q (.int d) H'
def spPool : Sp := fun vs H Q _ => ∃ c : Int, vs = [.int c] ∧ ∀ (p : Addr) (H' : Hp), H p = none → Same H H' → PoolAt H' p → Q (.ref p) H'
def spCell (K : PySem.W.Frag) : Sp := fun vs H Q _ => ∃ (a : Addr) (ns : List Int) (k : Int), vs = [.ref a, .int k] ∧ SqL K H a (ns.map V.int) ∧ ns.length ≤ 63 ∧ 0 ≤ k ∧ k < 64 ∧
  ∀ (n : Int) (H' : Hp), Same H H' → Q (.int n) H'
theorem cut_int {ns : List Int} {lo hi : Option Int} {i : Nat} {y : V} (h : (cutV (ns.map V.int) lo hi)[i]? = some y) : ∃ u, y = V.int u := by
  have q := List.mem_of_getElem? h
  unfold cutV at q
  obtain ⟨u, _, e⟩ := List.mem_map.mp (List.mem_of_mem_drop (List.mem_of_mem_take q))
  exact ⟨u, e.symm⟩
section
variable {P : Program} {w : World} {K : PySem.W.Frag} {mg : Str → Option Value} {base : Heap}
theorem scP : FnScope ["_law_cell_here", "_law_digits"] ["_law_cell_here"] (defScope sPool) := ⟨rfl, rfl, rfl, by decide +kernel, rfl, by decide +kernel, by decide +kernel⟩
theorem ok_pool {f : Addr} {fd : FuncData} (F : Fun K "_law_pool" "_law_pool" sPool f fd) (mAbs : mg "abs" = none) (mInt : mg "int" = none) : FnOk P w K mg base CX0 1 f fd ["_law_cell_here"] spPool := by
  refine F.ok scP (fun vs H Q E h => ?_) (fun cdv A outer s H vs Q E hr h => ?_)
  · obtain ⟨c, rfl, _⟩ := h
    rfl
  · obtain ⟨c, rfl, k⟩ := h
    refine ⟨_, pss_cons (ps_set (i := 1) scP.nd rfl (.inl rfl) (pe_ifExp (PW.pt (pw_or (pt_cmpR op_lt (pv 0) pe_int (nomark _)) (pw_or1 (pt_cmpR op_ge (pv 0) (pe_op op_pow pe_int pe_int) (nomark _)))))
        (pe_callB call_abs (by rfl) mAbs (by decide +kernel) (pa_cons (pv 0) pa_nil)) pe_int))
      (pss_one (ps_ret (pe_lst (pa_cons (pe_op op_mod (pe_callTy call_int1 (by rfl) mInt (by decide +kernel) (pa_cons (pv 0) pa_nil)) pe_int) (pa_cons (pv 1) (pa_cons pe_int pa_nil)))))), ?_⟩
    have fin : ∀ d : Int, 0 ≤ d → (tRet (tLst (tCons (tOp (rI (fun x j => 0 < j) fun i j => V.int (i % j)) (tCB (fun xs H Q => (∃ i, xs = [V.int i] ∧ Q (V.int i) H) ∨ ∃ k, xs = [V.bl k] ∧ Q (V.int (if k = true then 1 else 0)) H) (tCons (tVar 0) tNil)) (tC (V.int 2147483587))) (tCons (tVar 1) (tCons (tC (V.int 0)) tNil)))))
        { nx := fun x H' => Q V.non H', rt := Q } [some (V.int c), some (V.int d)] H := fun d h0 => by
      refine ⟨_, rfl, .inl ⟨_, rfl, _, _, rfl, rfl, (by show (0 : Int) < 2147483587; decide), _, rfl, (by show 3 ≤ sizeLine; decide), fun p hp => ?_⟩⟩
      refine k p _ hp (Same.put (Same.refl H) hp) ⟨_, _, _, upd_same, ?_⟩
      omega
    refine ⟨_, rfl, _, _, rfl, rfl, _, rfl, ite2 (fun h1 => iteT ?_) (fun h1 => ?_)⟩
    · refine ⟨_, rfl, _, rfl, ?_⟩
      exact fin _ (by split <;> omega)
    · refine ⟨_, rfl, _, _, rfl, rfl, (by refine ⟨?_, ?_, ?_⟩ <;> decide), _, _, rfl, rfl, _, rfl, ?_⟩
      refine ite2 (fun h2 => ?_) (fun h2 => ?_)
      · refine ⟨_, rfl, _, rfl, ?_⟩
        exact fin _ (by split <;> omega)
      · exact fin 0 (by omega)
theorem scD : FnScope ["_law_pool_here", "_law_many", "_law_mixed", "_law_digit"] ["_law_pool_here", "_law_many"] (defScope sDraw) := ⟨rfl, rfl, rfl, by decide +kernel, rfl, by decide +kernel, by decide +kernel⟩
theorem ok_draw {f : Addr} {fd : FuncData} (F : Fun K "_law_draw" "_law_draw" sDraw f fd) (mInt : mg "int" = none) (mDm : mg "divmod" = none) : FnOk P w K mg base CX0 1 f fd ["_law_pool_here", "_law_many"] spDraw := by
  refine F.ok scD (fun vs H Q E h => ?_) (fun cdv A outer s H vs Q E hr h => ?_)
  · obtain ⟨p, m, rfl, _⟩ := h
    rfl
  · obtain ⟨p, m, rfl, m0, m1, ⟨a, b, c, hp, a0, a1, b0⟩, k⟩ := h
    refine ⟨_, pss_cons (ps_asg (pe_op op_add (pe_ix ix_list (pv 0) pe_int (fun _ _ => rfl)) pe_int) (pg_sub (pv 0) pe_int set_list))
      (pss_cons (ps_set (i := 2) scD.nd rfl (.inl rfl) (pe_op op_mod (pe_callTy call_int1 (by rfl) mInt (by decide +kernel) (pa_cons (pe_op op_add (pe_op op_add (pe_op op_mul (pe_ix ix_list (pv 0) pe_int (fun _ _ => rfl)) pe_int) (pe_op op_mul (pe_ix ix_list (pv 0) pe_int (fun _ _ => rfl)) pe_int)) pe_int) pa_nil)) pe_int))
      (pss_cons (ps_asg (pe_op op_mod (pe_callTy call_int1 (by rfl) mInt (by decide +kernel) (pa_cons (pe_op op_mul (pv 2) (pe_op op_add (pe_op op_fdiv (pv 2) pe_int) pe_int)) pa_nil)) pe_int) (pg_sub (pv 0) pe_int set_list))
      (pss_cons (ps_if (pt_cmpR op_gt (pe_ix ix_list (pv 0) pe_int (fun _ _ => rfl)) pe_int (nomark _))
          (pss_cons (ps_asg (pe_callB call_divmod (by rfl) mDm (by decide +kernel) (pa_cons (pe_ix ix_list (pv 0) pe_int (fun _ _ => rfl)) (pa_cons (pv 1) pa_nil))) (pg_tup (by rfl) (pgs_cons (pg_sub (pv 0) pe_int set_list) (pgs_cons (pg_name (i := 3) scD.nd rfl (.inl rfl)) pgs_nil))))
            (pss_one (ps_ret (pv 3)))) pss_nil)
      (pss_one (ps_ret (pe_op op_mod (pe_callTy call_int1 (by rfl) mInt (by decide +kernel) (pa_cons (pe_op op_fdiv (pe_ix ix_list (pv 0) pe_int (fun _ _ => rfl)) pe_int) pa_nil)) (pv 1))))))), ?_⟩
    refine ⟨_, rfl, p, _, _, _, rfl, rfl, SqL.of hp, rfl, _, _, rfl, rfl, _, rfl, p, _, _, 2, rfl, rfl, hp, rfl, ?_⟩
    have hp1 : (L2.upd H p (.lst [.int a, .int b, .int (c + 1)])) p = some (.lst [.int a, .int b, .int (c + 1)]) := upd_same
    refine ⟨_, rfl, p, _, _, _, rfl, rfl, SqL.of hp1, rfl, _, _, rfl, rfl, .inl ⟨by omega, by omega⟩, _, rfl, p, _, _, _, rfl, rfl, SqL.of hp1, rfl, _, _, rfl, rfl, .inr ⟨by decide, by decide⟩, _, _, rfl, rfl, _, _, rfl, rfl, .inl ⟨_, rfl, _, _, rfl, rfl, (by show (0 : Int) < 2147483587; decide), ?_⟩⟩
    have x0 : ∀ z : Int, 0 ≤ z % 2147483587 ∧ z % 2147483587 < 2147483587 := fun z => ⟨Int.emod_nonneg _ (by decide), Int.emod_lt_of_pos _ (by decide)⟩
    generalize hx : ((a * 50021 + (c + 1) * 69067 + 31) % 2147483587 : Int) = x
    have ⟨x1, x2⟩ : 0 ≤ x ∧ x < 2147483587 := by rw [← hx]; exact x0 _
    refine ⟨_, rfl, _, rfl, _, _, rfl, rfl, ⟨by decide, by decide⟩, _, _, rfl, rfl, _, _, rfl, rfl, .inl ⟨by omega, by omega⟩, .inl ⟨_, rfl, _, _, rfl, rfl, (by show (0 : Int) < 2147483629; decide), ?_⟩⟩
    have y0 : ∀ z : Int, 0 ≤ z % 2147483629 ∧ z % 2147483629 < 2147483629 := fun z => ⟨Int.emod_nonneg _ (by decide), Int.emod_lt_of_pos _ (by decide)⟩
    refine ⟨_, rfl, p, _, _, 0, rfl, rfl, hp1, rfl, ?_⟩
    refine ⟨_, rfl, p, _, _, _, rfl, rfl, SqL.of upd_same, rfl, _, _, rfl, rfl, _, rfl, ite2 (fun h1 => ?_) (fun h1 => ?_)⟩
    · refine ⟨_, rfl, p, _, _, _, rfl, rfl, SqL.of upd_same, rfl, _, rfl, _, _, rfl, ⟨m0, m1⟩, fun t ht => ?_⟩
      have npt : p ≠ t := ne_of_none upd_same ht
      refine ⟨t, _, rfl, SqT.of upd_same, rfl, _, _, rfl, _, rfl, p, _, _, 1, rfl, rfl, (upd_ne npt).trans upd_same, rfl, _, _, rfl, ?_⟩
      refine ⟨rfl, _, rfl, k _ _ (Int.emod_nonneg _ (by omega)) (Int.emod_lt_of_pos _ m0) ⟨_, _, _, upd_same, ?_⟩ (But.here (But.upd (But.here (But.here (But.refl p H))) ht))⟩
      refine ⟨(y0 _).1, Int.lt_trans (y0 _).2 (by decide), ?_⟩
      exact Int.ediv_nonneg b0 (Int.le_of_lt m0)
    · refine ⟨_, rfl, p, _, _, _, rfl, rfl, SqL.of upd_same, rfl, _, _, rfl, rfl, ⟨by decide, by decide⟩, .inl ⟨_, rfl, _, rfl, _, _, rfl, rfl, m0, ?_⟩⟩
      exact k _ _ (Int.emod_nonneg _ (by omega)) (Int.emod_lt_of_pos _ m0) ⟨_, _, _, upd_same, (y0 _).1, Int.lt_trans (y0 _).2 (by decide), b0⟩ (But.here (But.here (But.refl p H)))
theorem scC : FnScope ["_law_script", "_law_k", "_law_mixed", "_law_cell_here"] ["_law_script", "_law_k"] (defScope sCell) := ⟨rfl, rfl, rfl, by decide +kernel, rfl, by decide +kernel, by decide +kernel⟩
theorem ok_cell {f : Addr} {fd : FuncData} (F : Fun K "_law_cell" "_law_cell" sCell f fd) (mInt : mg "int" = none) (mLen : mg "len" = none) : FnOk P w K mg base CX0 1 f fd ["_law_script", "_law_k"] (spCell K) := by
  refine F.ok scC (fun vs H Q E h => ?_) (fun cdv A outer s H vs Q E hr h => ?_)
  · obtain ⟨a, ns, j, rfl, _⟩ := h
    rfl
  · obtain ⟨a, ns, j, rfl, hS, hlen, j0, j1, k⟩ := h
    refine ⟨_, pss_cons (ps_if (pt_cmpR op_lt (pv 1) (pe_callB call_len_seq (by rfl) mLen PySem.boot_len (pa_cons (pv 0) pa_nil)) (nomark _)) (pss_one (ps_ret (pe_ix ix_list (pv 0) (pv 1) (fun _ _ => rfl)))) pss_nil)
      (pss_cons (ps_set (i := 2) scC.nd rfl (.inl rfl) (pe_op op_add pe_int (pe_op op_mul (pe_op op_mul pe_int (pv 1)) (pv 1))))
      (pss_cons (ps_for PassesOwn.never rfl (pi_list (pe_slice sl_list (pv 0) po_none (po_some pe_int))) (pg_name (i := 3) scC.nd rfl (.inl rfl))
        (pss_one (ps_set (i := 2) scC.nd rfl (.inl rfl) (pe_op op_mod (pe_callTy call_int1 (by rfl) mInt (by decide +kernel) (pa_cons (pe_op op_add (pe_op op_mul (pv 2) pe_int) (pv 3)) pa_nil)) pe_int))))
      (pss_one (ps_ret (pv 2))))), ?_⟩
    refine ⟨_, rfl, _, rfl, a, _, rfl, .inl hS, _, _, rfl, rfl, _, rfl, ite2 (fun h1 => ?_) (fun h1 => ?_)⟩
    · have h2 : j < (ns.length : Int) := by
        have q := of_decide_eq_true h1
        rw [List.length_map] at q
        exact q
      have h3 : (ns.map V.int)[j.toNat]? = some (V.int (ns[j.toNat]'(by omega))) := by
        rw [List.getElem?_map, List.getElem?_eq_getElem (by omega)] <;> rfl
      have h4 : atI (ns.map V.int) j = some (V.int (ns[j.toNat]'(by omega))) := by
        have q := atI_nat h3
        rw [Int.toNat_of_nonneg j0] at q
        exact q
      exact ⟨_, rfl, _, rfl, a, _, _, _, rfl, rfl, hS, h4, k _ _ (Same.refl H)⟩
    · have b1 : (-(2 ^ 64) < (4093 : Int) ∧ (4093 : Int) < 2 ^ 64) := by decide
      refine ⟨_, rfl, _, _, rfl, rfl, .inl b1, _, rfl, _, _, rfl, rfl, .inr ⟨by omega, by omega⟩, _, _, rfl, rfl, ?_⟩
      refine ⟨_, rfl, _, rfl, a, _, rfl, hS, fun q hq => ?_⟩
      have sq : SqL K (L2.upd H q (.lst (cutV (ns.map V.int) none (some 4)))) q (cutV (ns.map V.int) none (some 4)) := SqL.of upd_same
      refine ⟨q, rfl, ⟨_, sq⟩, for_list (K := K) (a := q) (xs := cutV (ns.map V.int) none (some 4)) (fun i σ H' => ∃ (z : Int) (v : Option V), σ = [some (.ref a), some (.int j), some (.int z), v] ∧ Same H H' ∧ SqL K H' q (cutV (ns.map V.int) none (some 4)))
        ⟨_, none, rfl, Same.put (Same.refl H) hq, sq⟩ (fun i σ H' _ ⟨_, _, _, _, s⟩ => s) ?_ ?_⟩
      · rintro i y σ H' hi ⟨z, v, rfl, s1, s2⟩
        obtain ⟨u, rfl⟩ := cut_int hi
        exact ⟨_, rfl, _, _, rfl, rfl, .inr ⟨by decide, by decide⟩, _, rfl, _, _, rfl, rfl, .inl ⟨_, rfl, _, _, rfl, rfl, (by show (0 : Int) < 2147483629; decide), _, _, rfl, s1, s2⟩⟩
      · rintro σ H' ⟨z, v, rfl, s1, s2⟩
        exact ⟨_, rfl, k _ _ s1⟩
end
end Wb
/-! min(xs) of a list of texts; a text so many times -/
namespace WbMin
open PySem PySem.W PySem.Spec PyProof.Rows L2
theorem depthAll_strs : ∀ xs : List Str, PyData.depthAll (xs.map PyData.str) = 0
  | [] => rfl
  | x :: r => by
    show max (PyData.depth (.str x)) (PyData.depthAll (r.map PyData.str)) = 0
    rw [depthAll_strs r] <;> rfl
section
variable {X : Cx}
end
end WbMin
namespace Wb
open PySem L2 WbMin
abbrev sSigns : Stmt := top 59
/-- the text of these codes -/
def S (l : List Nat) : Str := ⟨l.toArray⟩
theorem S_cps (l : List Nat) : (S l).cps.toList = l := by simp [S]
theorem S_size (l : List Nat) : (S l).cps.size = l.length := by simp [S]
theorem S_len (l : List Nat) : (S l).length = l.length := S_size l
theorem S_of (z : Str) : S z.cps.toList = z := by cases z; simp [S]
theorem S_eq {z : Str} {l : List Nat} (h : z.cps.toList = l) : z = S l := by rw [← h, S_of]
theorem S_add (l m : List Nat) : S l ++ S m = S (l ++ m) := by
  show Str.append (S l) (S m) = S (l ++ m)
  simp [S, Str.append]
def one (c : Nat) : Str := ⟨#[c]⟩
theorem S_one (c : Nat) : one c = S [c] := rfl
def abc : List Nat := (List.range 26).map (· + 97)
theorem abc_is : ("abcdefghijklmnopqrstuvwxyz" : Str) = S abc := by decide +kernel
/-- small letters -/
def Low (l : List Nat) : Prop := ∀ c ∈ l, 97 ≤ c ∧ c ≤ 122
theorem abc_low : Low abc := by unfold Low abc; decide
theorem abc_len : abc.length = 26 := rfl
/-- a def of the top -/
structure Def (K : PySem.W.Frag) (mg : Str → Option Value) (x : Str) (st : Stmt) (ps : List Str) (f : Addr) (fd : FuncData) : Prop where
  F : Fun K x x st f fd
  g : mg x = some (.ref f)
  kp : PySem.W.keepIn K (.ref f) = true
  b : Binds K fd ps []
def spSigns : Sp := fun vs H Q _ => ∃ (p : Addr) (m : Int), vs = [.ref p, .int m] ∧ 0 < m ∧ m ≤ 26 ∧ PoolAt H p ∧
  ∀ (l : List Nat) (H' : Hp), Low l → l.Nodup → 0 < l.length → (l.length : Int) ≤ m → PoolAt H' p → But p H H' → Q (.str (S l)) H'
theorem drop_one (a : Nat) : ∀ ys : List Nat, ys.Nodup → ys.length ≤ (ys.filter fun c => !decide (c = a)).length + 1
  | [], _ => Nat.zero_le _
  | y :: r, nd => by
    obtain ⟨n1, n2⟩ := List.nodup_cons.mp nd
    by_cases e : y = a
    · have e1 : (r.filter fun c => !decide (c = a)) = r := List.filter_eq_self.mpr fun c hc => by
        have : c ≠ a := fun z => n1 (e ▸ z ▸ hc)
        simp [this]
      rw [List.filter_cons_of_neg (by simp [e]), e1] <;> exact Nat.le_refl _
    · rw [List.filter_cons_of_pos (by simp [e])]
      have := drop_one a r n2
      simp only [List.length_cons]
      omega
theorem left_len : ∀ (l xs : List Nat), xs.Nodup → xs.length ≤ (xs.filter fun c => !decide (c ∈ l)).length + l.length
  | [], xs, _ => by
    have e : (xs.filter fun c => !decide (c ∈ ([] : List Nat))) = xs := List.filter_eq_self.mpr (by simp)
    rw [e] <;> exact Nat.le_refl _
  | a :: l, xs, nd => by
    have ih := left_len l xs nd
    have e : (xs.filter fun c => !decide (c ∈ a :: l)) = ((xs.filter fun c => !decide (c ∈ l)).filter fun c => !decide (c = a)) := by
      rw [List.filter_filter]
      refine List.filter_congr fun c _ => ?_
      by_cases h1 : c = a <;> by_cases h2 : c ∈ l <;> simp [h1, h2]
    have := drop_one a _ (nd.filter fun c => !decide (c ∈ l))
    rw [e]
    simp only [List.length_cons]
    omega
theorem rest_pos {l : List Nat} (h : l.length < 26) : 0 < (abc.filter fun c => !decide (c ∈ l)).length := by
  have := left_len l abc (by unfold abc; decide)
  rw [abc_len] at this
  omega
theorem PoolAt.up {H : Hp} {p q : Addr} {o : HO} (h : PoolAt H p) (n : H q = none) : PoolAt (L2.upd H q o) p := by
  obtain ⟨a, b, c, e, r⟩ := h
  exact ⟨a, b, c, by rw [upd_ne (ne_of_none e n)]; exact e, r⟩
theorem PoolAt.ne {H : Hp} {p q : Addr} (h : PoolAt H p) (n : H q = none) : q ≠ p := by
  obtain ⟨a, b, c, e, r⟩ := h
  exact (ne_of_none e n).symm
theorem PoolAt.put {H : Hp} {p q : Addr} {o : HO} (h : PoolAt H p) (n : q ≠ p) : PoolAt (L2.upd H q o) p := by
  obtain ⟨a, b, c, e, r⟩ := h
  exact ⟨a, b, c, by rw [upd_ne n.symm]; exact e, r⟩
/-- a store at a thing that was not there at first -/
theorem But.new {p q : Addr} {o : HO} {H H' : Hp} (a : But p H H') (n : H q = none) : But p H (L2.upd H' q o) := fun c u k h => by
  rw [upd_ne (ne_of_none h n)]
  exact a c u k h
theorem But.free {p q : Addr} {H H' : Hp} (a : But p H H') (n : H' q = none) (ne : q ≠ p) : H q = none := by
  cases e : H q with
  | none => rfl
  | some o =>
    rw [a q o ne e] at n
    cases n
theorem take_more {α : Type} : ∀ {l : List α} {i : Nat} {x : α}, l[i]? = some x → l.take (i + 1) = l.take i ++ [x] := fun {l i x} h => by
  rw [List.take_add_one, h] <;> rfl
def vOne (c : Nat) : V := .str (one c)
section
variable {P : Program} {w : World} {K : PySem.W.Frag} {mg : Str → Option Value} {base : Heap} {f fD : Addr} {fd fdD : FuncData}
theorem scS : FnScope ["_law_pool_here", "_law_most", "_law_found", "_law_turn", "_law_rest", "_law_mark"] ["_law_pool_here", "_law_most"] (defScope sSigns) := ⟨rfl, rfl, rfl, by decide +kernel, rfl, by decide +kernel, by decide +kernel⟩
theorem ok_signs (F : Fun K "_law_signs" "_law_signs" sSigns f fd) (D : Def K mg "_law_draw" sDraw ["_law_pool_here", "_law_many"] fD fdD) (mInt : mg "int" = none) (mDm : mg "divmod" = none) (mLen : mg "len" = none) (mRange : mg "range" = none) :
    FnOk P w K mg base CX0 2 f fd ["_law_pool_here", "_law_most"] spSigns := by
  have G : FnOk P w K mg base CX0 1 fD fdD ["_law_pool_here", "_law_many"] spDraw := ok_draw D.F mInt mDm
  refine F.ok scS (fun vs H Q E h => ?_) (fun cdv A outer s H vs Q E hr h => ?_)
  · obtain ⟨p, m, rfl, _⟩ := h
    rfl
  · obtain ⟨p, m, rfl, m0, m1, hp, k⟩ := h
    refine ⟨_, pss_cons (ps_set (i := 2) scS.nd rfl (.inr rfl) pe_str)
      (pss_cons (ps_for PassesOwn.never rfl (pi_range1 rfl mRange (pa_cons (pe_op op_add pe_int (pe_call G hr rfl D.g D.kp D.b .nil pass0 (pa_cons (pv 0) (pa_cons (pv 1) pa_nil)))) pa_nil)) (pg_name (i := 3) scS.nd rfl (.inl rfl))
        (pss_cons (ps_setLc (i := 4) (own := [("_law_mark", 5)]) (g := gName 5) rfl scS.nd rfl rfl (sw_true rfl rfl rfl (by decide +kernel)) (pi_str pe_str) (blkOk_by (N := ["_law_pool_here", "_law_most", "_law_found", "_law_turn", "_law_rest", "_law_mark"]) (sc := defScope sSigns) (by decide +kernel))
            (fun _ _ _ _ _ => pg_name (i := 5) scS.nd rfl (.inl rfl)) (fun _ _ _ _ _ => pts_one (pt_cmpR op_notIn_sign (pv 5) (pv 2) rfl)) (fun _ _ _ _ _ => pv 5))
          (pss_one (ps_set (i := 2) scS.nd rfl (.inr rfl) (pe_op op_add_str (pv 2) (pe_ix ix_list (pv 4) (pe_call G hr rfl D.g D.kp D.b .nil pass0 (pa_cons (pv 0) (pa_cons (pe_callB call_len_seq (by rfl) mLen PySem.boot_len (pa_cons (pv 4) pa_nil)) pa_nil))) (fun _ _ => rfl)))))))
      (pss_one (ps_ret (pv 2)))), ?_⟩
    have e0 : (Str.ofString "" : Str) = S [] := by decide +kernel
    refine ⟨_, rfl, _, rfl, p, m, rfl, m0, by omega, hp, fun d H1 d0 d1 hp1 b1 => ⟨_, _, rfl, rfl, _, rfl, by omega, by omega, for_it walk_range
      (fun i σ H' => ∃ (l : List Nat) (v3 v4 v5 : Option V), σ = [some (.ref p), some (.int m), some (.str (S l)), v3, v4, v5] ∧ Low l ∧ l.Nodup ∧ l.length = i ∧ PoolAt H' p ∧ But p H H')
      ⟨[], none, none, none, by rw [← e0]; rfl, (fun c hc => nomatch hc), List.nodup_nil, rfl, hp1, b1⟩ (fun _ _ _ _ _ => trivial) ?_ ?_⟩⟩
    · rintro i x σ H2 H2' hi ⟨l, v3, v4, v5, rfl, lo, nd, ll, hp2, b2⟩ ⟨rfl, rfl⟩
      refine ⟨_, rfl, fun D hD => lc_it walk_str (fun j H3 => H3 D = some (.lst (((abc.take j).filter fun c => !decide (c ∈ l)).map vOne)) ∧ PoolAt H3 p ∧ But p H H3) ?_ (fun _ _ _ _ => trivial) ?_ ?_⟩
      · exact ⟨upd_same, hp2.up hD, b2.upd hD⟩
      · rintro j y H3 H3' hj ⟨h1, h2, h3⟩ ⟨rfl, c, hc, rfl⟩
        have hc' : abc[j]? = some c := by
          rw [abc_is] at hc
          simpa [S] using hc
        have hD0 : H D = none := b2.free hD (hp2.ne hD)
        refine ⟨rfl, _, rfl, _, rfl, c, S l, rfl, rfl, _, rfl, ite2 (fun q => ?_) (fun q => ?_)⟩
        · refine ⟨_, rfl, _, h1, ?_, ?_, h2.put (hp2.ne hD), h3.new hD0⟩
          · rw [List.length_map, sizeLine_eq]
            have := List.length_filter_le (fun c => !decide (c ∈ l)) (abc.take j)
            have := List.length_take_le' j abc
            rw [abc_len] at this
            omega
          · rw [upd_same, take_more hc', List.filter_append, List.map_append]
            rw [S_cps] at q
            rw [show ([c].filter fun c => !decide (c ∈ l)) = [c] from List.filter_cons_of_pos q] <;> rfl
        · refine ⟨?_, h2, h3⟩
          rw [S_cps] at q
          rw [h1, take_more hc', List.filter_append, show ([c].filter fun c => !decide (c ∈ l)) = [] from List.filter_cons_of_neg q, List.append_nil]
      · rintro H3 ⟨h1, h2, h3⟩
        have full : abc.take ("abcdefghijklmnopqrstuvwxyz" : Str).cps.size = abc := by rw [abc_is, S_size, List.take_length]
        rw [full] at h1
        have ne : 0 < (abc.filter fun c => !decide (c ∈ l)).length := rest_pos (by omega)
        refine ⟨_, rfl, _, rfl, _, rfl, _, rfl, D, _, rfl, .inl (SqL.of h1), p, _, rfl, ?_, ?_, h2, fun e H4 e0 e1 hp4 b4 => ?_⟩
        · rw [List.length_map]
          omega
        · rw [List.length_map]
          have := List.length_filter_le (fun c => !decide (c ∈ l)) abc
          rw [abc_len] at this
          omega
        · have e1' : e.toNat < (abc.filter fun c => !decide (c ∈ l)).length := by
            rw [List.length_map] at e1
            omega
          obtain ⟨c, hc⟩ : ∃ c, (abc.filter fun c => !decide (c ∈ l))[e.toNat]? = some c := ⟨_, List.getElem?_eq_getElem e1'⟩
          obtain ⟨c1, c2⟩ := List.mem_filter.mp (List.mem_of_getElem? hc)
          have c3 : c ∉ l := by simpa using c2
          have hat : atI ((abc.filter fun c => !decide (c ∈ l)).map vOne) e = some (vOne c) := by
            have q := atI_nat (xs := (abc.filter fun c => !decide (c ∈ l)).map vOne) (j := e.toNat) (v := vOne c) (by rw [List.getElem?_map, hc] <;> rfl)
            rwa [Int.toNat_of_nonneg e0] at q
          have h4 := b4 D _ (hp2.ne hD) h1
          refine ⟨D, _, _, _, rfl, rfl, SqL.of h4, hat, _, _, rfl, rfl, ?_, l ++ [c], some (.int (0 + (i : Nat))), some (.ref D), v5, ?_, fun z hz => ?_, ?_, ?_, hp4, h3.trans b4⟩
          · rw [S_len, sizeLine_eq]
            show l.length + 1 ≤ 16777216
            omega
          · rw [← S_add]
            rfl
          · rcases List.mem_append.mp hz with hz | hz
            · exact lo z hz
            · rw [List.mem_singleton.mp hz]
              exact abc_low c c1
          · rw [List.nodup_append]
            exact ⟨nd, by simp, fun a ha b hb q => c3 (by rw [← List.mem_singleton.mp hb, ← q]; exact ha)⟩
          · rw [List.length_append, ll] <;> rfl
    · rintro σ H2 ⟨l, v3, v4, v5, rfl, lo, nd, ll, hp2, b2⟩
      exact ⟨_, rfl, k l _ lo nd (by omega) (by omega) hp2 b2⟩
end
end Wb
namespace Wb
open PySem L2 WbMin
theorem one_cat : ∀ (l : List Nat) (c : Nat), Str.join (S []) ((c :: l).map one) = S (c :: l)
  | [], c => rfl
  | d :: l, c => by
    have ih := one_cat l d
    show one c ++ S [] ++ Str.join (S []) ((d :: l).map one) = S (c :: d :: l)
    rw [ih, S_one, S_add, S_add]
    rfl
theorem join_one {l : List Nat} (h : 0 < l.length) : Txt.join (Str.ofString "") (l.map one) = S l := by
  have e0 : (Str.ofString "" : Str) = S [] := by decide +kernel
  cases l with
  | nil => cases h
  | cons c l =>
    rw [e0]
    show Builtin.Str.glued (S []) ((c :: l).map one) = S (c :: l)
    rw [StrLaws.glued_eq_join]
    exact one_cat l c
end Wb
/-! set(xs) and len(set(xs)) of a list of texts, any of them, below the scanned bound -/
namespace WbSet
open PySem PySem.Spec PyProof.Rows
/-- the different ones, by their first places -/
def addNew (acc : List Str) (x : Str) : List Str := if x ∈ acc then acc else acc ++ [x]
def differ (xs : List Str) : List Str := xs.foldl addNew []
theorem addNew_mem (acc : List Str) (x k : Str) : k ∈ addNew acc x ↔ k ∈ acc ∨ k = x := by
  unfold addNew
  by_cases h : x ∈ acc
  · rw [if_pos h]
    exact ⟨.inl, fun q => q.elim id fun e => e ▸ h⟩
  · rw [if_neg h, List.mem_append, List.mem_singleton]
theorem addNew_len (acc : List Str) (x : Str) : (addNew acc x).length = if x ∈ acc then acc.length else acc.length + 1 := by
  unfold addNew
  by_cases h : x ∈ acc
  · rw [if_pos h, if_pos h]
  · rw [if_neg h, if_neg h, List.length_append] <;> rfl
theorem differ_more (xs : List Str) (x : Str) : differ (xs ++ [x]) = addNew (differ xs) x := by
  unfold differ
  rw [List.foldl_append] <;> rfl
theorem fold_le : ∀ (xs acc : List Str), (xs.foldl addNew acc).length ≤ acc.length + xs.length
  | [], acc => Nat.le_refl _
  | x :: r, acc => by
    have h1 := fold_le r (addNew acc x)
    have h2 : (addNew acc x).length ≤ acc.length + 1 := by rw [addNew_len]; split <;> omega
    show (r.foldl addNew (addNew acc x)).length ≤ acc.length + (r.length + 1)
    omega
theorem differ_le (xs : List Str) : (differ xs).length ≤ xs.length := by
  have h := fold_le xs []
  show (xs.foldl addNew []).length ≤ xs.length
  simpa using h
/-- what the set at a holds behind the first i -/
def Has (P : Program) (w : World) (h : Heap) (a : Addr) (ys : List Str) : Prop := h.SetOf (strKind P w) a (fun k => decide (k ∈ ys)) ys.length
section
variable {prog : Program} {w : World} {A : Around} {R : Result → Shared → Prop} {I : Addr} {fp wr : List Addr} {G : Array GenState → Array GenState → Prop} {n : Nat} {P : Nat → Value → Prop} {St : Nat → Shared → Prop}
theorem Has.keep {h h' : Heap} {a : Addr} {ys : List Str} (q : Has prog w h a ys) (k : ∀ o, h.get? a = some o → h'.get? a = some o) : Has prog w h' a ys := by
  obtain ⟨o, es, ep, t, ho, r⟩ := q
  exact ⟨o, es, ep, t, k o ho, r⟩
theorem Has.more {h : Heap} {a : Addr} {ys : List Str} {x : Str} (q : h.SetOf (strKind prog w) a (fun j => decide (j ∈ ys) || decide (j = x)) (if decide (x ∈ ys) = true then ys.length else ys.length + 1)) : Has prog w h a (addNew ys x) := by
  refine SetOf_congr q (fun k => ?_) ?_
  · rw [← Bool.decide_or]
    exact decide_eq_decide.mpr (addNew_mem ys x k).symm
  · rw [addNew_len]
    by_cases e : x ∈ ys
    · rw [if_pos e, if_pos (decide_eq_true e)]
    · rw [if_neg e, if_neg (fun z => e (of_decide_eq_true z))]
theorem turns (W : WalksS prog w A.in1 I fp wr G n P St) (T : Addr) (nT : T ∉ fp) (xs : List Str) (lx : xs.length = n) (few : n + 1 < scanBound) (told : ∀ i v, P i v → ∃ x t, xs[i]? = some x ∧ v = .str x t) :
    ∀ (left i : Nat) (s : Shared), n - i = left → i ≤ n → St i s → Has prog w s.heap T (differ (xs.take i)) →
      (∀ s', Moved (T :: wr) G s s' → Has prog w s'.heap T (differ xs) → R (.ok (.ret .none)) s') → codeAny (model prog w) A (.builtin "set.update.loop" ⟨[.ref T, .ref I], []⟩) R s := by
  have nTw : T ∉ wr := fun q => nT (W.sub _ q)
  have wider : ∀ b ∈ wr, b ∈ T :: wr := fun _ q => List.mem_cons_of_mem _ q
  intro left
  induction left with
  | zero =>
    intro i s e1 e2 hst has fin
    obtain rfl : i = n := by omega
    refine codeAny_builtin PyProof.Rows.F.entry_set_update_loop ?_ ; rw [Around.under_plainId PyProof.Rows.F.plain_set_update_loop _]
    show wpAny _ A.in1 (pyNext (.ref I) >>= _) _ _ s ; refine wpAny_bind (W.done s _ _ hst fun s1 mv => ?_)
    show wpAny _ A.in1 (ret Value.none) _ _ s1
    refine wpAny_pure (fin s1 (mv.mono wider) ?_)
    rw [← lx, List.take_length] at has
    exact has.keep fun o e => mv.heap T o nTw e
  | succ left ih =>
    intro i s e1 e2 hst has fin
    have lt : i < n := by omega
    refine codeAny_builtin PyProof.Rows.F.entry_set_update_loop ?_ ; rw [Around.under_plainId PyProof.Rows.F.plain_set_update_loop _]
    show wpAny _ A.in1 (pyNext (.ref I) >>= _) _ _ s ; refine wpAny_bind (W.item i s _ _ lt hst fun v s1 hP hst1 mv => ?_)
    obtain ⟨x, t, hx, rfl⟩ := told i v hP
    have has1 : Has prog w s1.heap T (differ (xs.take i)) := has.keep fun o e => mv.heap T o nTw e
    have room : (differ (xs.take i)).length + 1 < scanBound := by
      have := differ_le (xs.take i)
      rw [List.length_take] at this
      omega
    have step : differ (xs.take (i + 1)) = addNew (differ (xs.take i)) x := by
      rw [← differ_more, List.take_add_one, hx] <;> rfl
    show wpAny _ A.in1 (holding [Value.str x t] (setAdd T (.str x t)) >>= _) _ _ s1 ; refine wpAny_bind (wpAny_holding ?_)
    unfold setAdd ; refine wpAny_holding (wpAny_bind ((strKind prog w).pyHash (k := x) (strKind_is _ _ _ _) ?_))
    refine wpAny_setAddHashed_of (knd := strKind prog w) (s := { s1 with toks := s1.toks + 1 }) (strKind_is _ _ _ _) rfl has1 room fun h2 but new => ?_
    have has2 : Has prog w h2 T (differ (xs.take (i + 1))) := by rw [step]; exact Has.more new
    refine wpAny_pure ⟨plainId_quiet PyProof.Rows.F.plain_set_update_loop _, ih (i + 1) _ (by omega) lt (W.frame _ s1 _ _ hst1 (Nat.le_succ _) fun b hb o e => ?_) has2 fun s2 mv2 has3 => fin s2 (Moved.trans W.gtrans ((mv.mono wider).then_heap (Nat.le_succ _) fun b o hb e => ?_) mv2) has3⟩
    · rw [but.2 b fun q => nT (q ▸ hb)] ; exact e
    · rw [but.2 b fun q => hb (q ▸ List.mem_cons_self)] ; exact e
end
section
variable {prog : Program} {w : World} {A : Around} {E : Value → Shared → Prop} {s : Shared}
/-- the set object that set() makes first -/
abbrev setO (led : Bool) : Obj := { cls := .type "set", dict := none, data := .set #[] 0 (.fresh 0 0 led) }
end
end WbSet
namespace WbSet
open PySem PySem.Spec PyProof.Rows L2
variable {X : Cx}
end WbSet
/-! sorted of a text, of a tuple of texts; len(set(z)) of a text -/
namespace WbS
open PySem PySem.Spec PyProof.Rows L2
section
variable {X : Cx}
def sOne (c : Nat) : Str := ⟨#[c]⟩
/-- a new list of these texts, sorted -/
theorem sort_new {pins : List (Addr × Obj)} {σ : L2.St} {H : Hp} {s : Shared} {Q : VK} {us : List Value} {ks : List Str} (I : Inv X pins σ H s) (hS : StrsAre us ks) (h64 : ks.length < 64) (q : ∀ ys p, ys.Perm ks → sortedS ys = true → H p = none → Q (.ref p) (upd H p (.lst (ys.map V.str)))) :
    wpAny (model X.prog X.w) X.A.in1 (newList us >>= fun l => holding [l] (call (.builtin "list.sort") [l] []) >>= fun _ => ret l) (fun fin s' => ∃ v, fin = .done (.ret v) ∧ ∃ x H', Inv X pins σ H' s' ∧ RelV x v ∧ Q x H') X.xe s := by
  have hal : us.length = ks.length := hS.len_eq
  refine wpAny_bind (wpAny_newList ?_ (by rw [hal, sizeLine_eq]; omega))
  have hoL : (s.heap.push (seqObj "list" us.toArray 0)).get? s.heap.objs.size = some (seqObj "list" us.toArray 0) := Heap.get?_push_size _ rfl
  show wpAny _ _ _ _ _ { s with heap := s.heap.push (seqObj "list" us.toArray 0) }
  refine wpAny_bind (wpAny_holding (wpAny_call_entry PyProof.Rows.slot_list_sort ⟨_, hoL, rfl⟩ PyProof.Rows.entry_list_sort
    (list_sort_treeK strKind_oneLt (s := { s with heap := s.heap.push (seqObj "list" us.toArray 0) }) hoL hS.keysOf (fun v₁ v₂ rest e => keyKind_strs (by rw [← e]; exact hS)) (by rw [hal]; exact h64) fun st' hp hs => ⟨_, rfl, ?_⟩)
    (PyProof.Rows.args_list_sort _)))
  obtain ⟨ys, g1, g2, g3⟩ := sorted_out_str hS hp hs
  obtain ⟨e', he'⟩ := PyProof.Rows.sortedHeap_at (vs := us) (out := (arrOf st').map (·.2)) hoL
  have hlen : (ys.map V.str).length ≤ sizeLine := by
    rw [List.length_map, g2.length_eq]
    exact Nat.le_trans (Nat.le_of_lt h64) (by decide)
  refine wpAny_pure ⟨_, rfl, .ref s.heap.objs.size, upd H s.heap.objs.size (.lst (ys.map V.str)), I.laid (t' := s.toks) (fun b u e => ?_) (Nat.le_refl _)
    (show ObjOk X.prog X.w _ _ _ (.lst (ys.map V.str)) from ⟨hlen, ((arrOf st').map (·.2)).toList, e', vals_of_strs g1, by rw [Array.toArray_toList]; exact he'⟩), rfl, q ys _ g2 g3 (I.hok.fresh (Nat.le_refl _))⟩
  have hb : b < s.heap.objs.size := Heap.lt_size e
  rw [PyProof.Rows.sortedHeap_old (Nat.ne_of_lt hb) (by rw [size_push']; exact Nat.lt_succ_of_lt hb)]
  exact Heap.get?_push_of_some _ e
theorem call_sortedTx (hcalm : X.calm = true) : CallR X (.builtin "sorted") (fun xs H Q => ∃ z : Str, xs = [.str z] ∧ z.length < 64 ∧ ∀ ys p, ys.Perm (z.cps.toList.map sOne) → sortedS ys = true → H p = none → Q (.ref p) (upd H p (.lst (ys.map V.str)))) := by
  intro pins s σ H xs us Q I r q
  obtain ⟨z, rfl, h64, q⟩ := q
  obtain ⟨u, rfl, t, rfl⟩ := vals1 r
  have h16 : z.cps.size ≤ sizeLine := by
    have : z.cps.size < 64 := h64
    rw [sizeLine_eq]; omega
  refine Calls.call_function_entry PyProof.Rows.kind_sorted PyProof.Rows.plain_sorted PyProof.Rows.entry_sorted (PyProof.Rows.args_sorted1 _) ?_
  unfold Builtin.«sorted»
  refine wpAny_bind (m := checkCount "sorted" 1 1 _) (wpAny_pure ?_)
  refine wpAny_bind (wpAny_collect_str (A := X.A.in1) (I.ok.hd hcalm) z t (fun s' acc hk e1 e2 e3 hacc => ?_) h16)
  obtain ⟨h', g', d', tk, os'⟩ := s'
  obtain rfl : g' = s.gens := e1
  obtain rfl : d' = s.drawn := e2
  obtain rfl : os' = s.os := e3
  have hS : StrsAre acc.toList (z.cps.toList.map sOne) := strs_at (by rw [Array.length_toList, hacc.1, List.length_map, Array.length_toList]) fun j v e => by
    obtain ⟨c, u, a1, a2⟩ := hacc.2 j v (by rw [← Array.getElem?_toList]; exact e)
    exact ⟨sOne c, u, by rw [List.getElem?_map, Array.getElem?_toList, a1] <;> rfl, a2⟩
  have I1 : Inv X pins σ H { s with heap := h', toks := tk } := I.kept hk
  exact sort_new I1 hS (by rw [List.length_map, Array.length_toList]; exact h64) q
end
end WbS
namespace WbSet
open PySem PySem.Spec PyProof.Rows
def signs (x : Str) : List Str := x.cps.toList.map fun c => ⟨#[c]⟩
theorem signs_told {x : Str} {i : Nat} {v : Value} (h : SignAt x i v) : ∃ y t, (signs x)[i]? = some y ∧ v = .str y t := by
  obtain ⟨c, u, e1, e2⟩ := h
  refine ⟨⟨#[c]⟩, u, ?_, e2⟩
  unfold signs
  rw [List.getElem?_map, Array.getElem?_toList, e1] <;> rfl
section
variable {prog : Program} {w : World} {A : Around} {E : Value → Shared → Prop} {s : Shared}
set_option maxHeartbeats 3200000 in
theorem call_setT {x : Str} {u : Tok} {Q : Value → Shared → Prop} (calm : A.handled = none) (few : x.cps.size + 1 < scanBound)
    (k : ∀ (h' : Heap) (tk : Nat), Has prog w h' s.heap.objs.size (differ (signs x)) → (∀ b o, b < s.heap.objs.size → s.heap.get? b = some o → h'.get? b = some o) → Q (.ref s.heap.objs.size) { s with heap := h', toks := tk }) :
    wpAny (model prog w) A (call (.type "set") [.str x u]) Q E s := by
  obtain ⟨c, tl, mro⟩ := PySem.F.called_set.mro
  have f1 := PySem.F.called_set.made
  have f2 := PySem.F.called_set.sub
  refine wpAny_call (codeAny_of_tree ?_) ; show wpAny _ _ (callAny (.type "set") _) _ _ _
  refine wpAny_pure ⟨Code.quiet_builtin _ (by decide +kernel), codeAny_builtin PySem.F.entry_type_call ?_⟩ ; rw [Around.under_plain (weight_type_call_type "set" [.str x u] []) rfl]
  have f3 := PySem.F.called_set.notType
  have f4 := PySem.F.called_set.canCreate
  have f5 := PySem.F.typeCall_set_1 (.str x u)
  repeat (any_goals (first | assumption | wp_step))
  refine codeAny_mono (code_set_new_1 (.str x u) (E := E) (Q₁ := fun v s1 => ∃ led : Bool, v = .ref s.heap.objs.size ∧ s1 = { s with heap := s.heap.push (setO led) }) fun led => ⟨led, rfl, rfl⟩) fun r s1 hr => ?_
  cases r with
  | error e => exact hr
  | ok fl =>
    cases fl with
    | ret v =>
      obtain ⟨led, rfl, rfl⟩ := hr
      have g1 : (s.heap.push (setO led)).get? s.heap.objs.size = some (setO led) := Heap.get?_push_size _ rfl
      have g2 : Shared.TypeIs { s with heap := s.heap.push (setO led) } (.ref s.heap.objs.size) "set" := ⟨_, g1, rfl⟩
      have f6 := PySem.F.called_set.init.lookup
      have f7 := PySem.F.called_set.init.bind (.ref s.heap.objs.size)
      repeat (any_goals (first | assumption | wp_step))
      refine codeAny_mono (codeAny_call_builtin (R := wants (fun r s2 => r = .none ∧ ∃ h' tk, s2 = { s with heap := h', toks := tk } ∧ Has prog w h' s.heap.objs.size (differ (signs x)) ∧ (∀ b o, b < s.heap.objs.size → s.heap.get? b = some o → h'.get? b = some o)) E) PySem.F.called_set.init.plain PySem.F.entry_set_init (check_set_init_1 g2 ?_)) fun r2 s2 hr2 => ?_
      · have f8 := PySem.F.sub_str_set
        have f9 := PySem.F.sub_str_frozenset
        have f10 : (Value.type "str" == Value.type "dict") = false := by decide
        unfold Builtin.«set.__init__» noKeywords Builtin.Frozenset.updateFrom
        generalize hit : pyIter = it
        wp_walk
        subst hit
        refine wpAny_pyIter_str fun o St W hst => (wpAny_bind (wpAny_runValue ?_))
        have calm3 : A.in1.in1.in1.handled = none := by simp [calm]
        have sz : (s.heap.push (setO led)).objs.size = s.heap.objs.size + 1 := Heap.size_push _ _
        have ne2 : s.heap.objs.size ∉ [(s.heap.push (setO led)).objs.size] := by
          intro q
          have q := List.mem_singleton.mp q
          rw [sz] at q; exact absurd q (Nat.ne_of_lt (Nat.lt_succ_self _))
        have lx : (signs x).length = x.cps.size := by unfold signs; rw [List.length_map, Array.length_toList]
        refine turns ((W _ calm3).toS) s.heap.objs.size ne2 (signs x) lx few (fun i v hv => signs_told hv) (x.cps.size - 0) 0 _ (by omega) (Nat.zero_le _) hst ?start ?fin
        case start =>
          have g4 : ((s.heap.push (setO led)).push o).get? s.heap.objs.size = some (setO led) := Heap.get?_push_of_some _ g1
          exact SetOf_congr ((setObjOf_fresh (knd := strKind prog w) led).setOf g4 (by unfold scanBound; omega)) (fun _ => rfl) rfl
        case fin =>
          intro s3 mv has
          obtain ⟨h3, g3', d3, tk3, os3⟩ := s3
          obtain rfl : g3' = s.gens := mv.gens
          obtain rfl : d3 = s.drawn := mv.drawn
          obtain rfl : os3 = s.os := mv.os
          show wpAny _ _ _ _ _ _ ; refine wpAny_pure ?_ ; show wpAny _ _ (ret Value.none) _ _ _
          refine wpAny_pure ⟨rfl, h3, tk3, rfl, has, fun b o hb e => mv.heap b o ?_ (Heap.get?_push_of_some _ (Heap.get?_push_of_some _ e))⟩
          intro q
          rcases List.mem_cons.mp q with q | q
          · exact absurd q (Nat.ne_of_lt hb)
          · have q2 := List.mem_singleton.mp q
            rw [sz] at q2
            exact absurd q2 (Nat.ne_of_lt (Nat.lt_succ_of_lt hb))
      · cases r2 with
        | error e => exact hr2
        | ok fl2 =>
          cases fl2 with
          | ret r =>
            obtain ⟨rfl, h', tk, rfl, has, kept⟩ := hr2
            repeat (any_goals (first | assumption | wp_step))
            exact k _ _ has kept
          | _ => exact hr2.elim
    | _ => exact hr.elim
end
end WbSet
namespace WbSet
open PySem PySem.Spec PyProof.Rows L2
variable {X : Cx}
/-- len(set(z)), z a text -/
def tLenSetT (ta : TE) : TE := fun σ H Q => ta σ H fun x H1 => ∃ z : Str, x = .str z ∧ z.length ≤ 4000 ∧ Q (.int (differ (signs z)).length) H1
theorem pe_lenSetT {a : Expr} {ta : TE} {p p2 q pos : Pos} (hc : X.calm = true) (hg : Gl X "len") (hm : X.mg "len" = none) (hg2 : Gl X "set") (hm2 : X.mg "set" = none) (ha : PE X a ta)
    (na : starEach [a] X.env = (false, eval a X.env) :: starEach [] X.env := by rfl) : PE X (.Call (.Name "len" p) [.Call (.Name "set" p2) [a] [] q] [] pos) (tLenSetT ta) := by
  refine ⟨fun pins s σ H Q I h => Call_ (ld_blt I hg hm boot_len ?_)⟩
  refine callWith_builtin1 (args_cons (Call_ (ld_blt I hg2 hm2 boot_set ?_)) rfl) rfl rfl
  refine callWith_type1 (args_cons (thn (ha.run pins s σ H _ I h) fun v s1 ⟨x, H1, I1, r1, q1⟩ => args_nil ?_) na) na rfl
  obtain ⟨z, rfl, few, q1⟩ := q1
  obtain ⟨u, rfl⟩ := r1
  have few' : z.cps.size ≤ 4000 := few
  refine call_setT (I1.ok.hd hc) (by unfold scanBound; omega) fun h' tk has kept => args_nil ?_
  obtain ⟨o, es, ep, t, ho, hex, hd, _, _, _, hf, hn⟩ := has
  have I2 : Inv X pins σ H1 { s1 with heap := h', toks := tk } := I1.kept fun b o e => kept b o (Heap.lt_size e) e
  have le := differ_le (signs z)
  have ll : (signs z).length = z.cps.size := by unfold signs; rw [List.length_map, Array.length_toList]
  exact call_len_set ho hex hd hf (by rw [hn]; omega) ⟨.int (differ (signs z)).length, H1, I2.tok _, ⟨_, by rw [hn]⟩, q1⟩
end WbSet
namespace Wb
open PySem L2 WbMin WbS
abbrev sIsInt : Stmt := top 8
abbrev sIsWord : Stmt := top 10
abbrev sIsSigns : Stmt := top 11
abbrev sSignOf : Stmt := top 12
/-- a word as it is passed -/
structure IsW (l : List Nat) : Prop where
  low : Low l
  pos : 0 < l.length
  few : l.length ≤ 600
theorem IsW.fits {l : List Nat} (h : IsW l) : (S l).length ≤ sizeLine := by
  rw [S_len, sizeLine_eq]
  have := h.few
  omega
def spIsWord : Sp := fun vs H Q _ => ∃ l : List Nat, vs = [.str (S l)] ∧ IsW l ∧ ∀ H', Same H H' → Q (.bl true) H'
/-- the built-ins that nobody has put another thing in the place of -/
structure Free (mg : Str → Option Value) : Prop where
  int : mg "int" = none
  len : mg "len" = none
  range : mg "range" = none
  divmod : mg "divmod" = none
  abs : mg "abs" = none
  isi : mg "isinstance" = none
  str : mg "str" = none
  all : mg "all" = none
  min : mg "min" = none
  max : mg "max" = none
  set : mg "set" = none
  bool : mg "bool" = none
theorem ifd {p A B : Prop} [Decidable p] (hp : p) (h : A) : if decide p = true then A else B := by
  rw [if_pos (decide_eq_true hp)]
  exact h
theorem ifn {p A B : Prop} [Decidable p] (hp : ¬ p) (h : B) : if decide p = true then A else B := by
  rw [if_neg (fun q => hp (of_decide_eq_true q))]
  exact h
theorem iteS {p A B : Prop} [Decidable p] (hp : ¬ p) (h : A) : if (!decide p) = true then A else B := by
  rw [decide_eq_false hp]
  exact h
theorem Same.new' {q : Addr} {o : HO} {H H' : Hp} (a : Same H H') (n : H q = none) : Same H (L2.upd H' q o) := fun c u h => by
  rw [upd_ne (ne_of_none h n)]
  exact a c u h
/-! ### lists without doubles -/
theorem few_of_sub {α : Type} [DecidableEq α] : ∀ (l xs : List α), xs.Nodup → (∀ x ∈ xs, x ∈ l) → xs.length ≤ l.length
  | [], xs, _, h => by
    cases xs with
    | nil => exact Nat.le_refl _
    | cons x r => exact absurd (h x List.mem_cons_self) (List.not_mem_nil)
  | a :: l, xs, nd, h => by
    have e : (xs.filter fun c => !decide (c = a)).length ≤ l.length := few_of_sub l _ (nd.filter _) fun x hx => by
      obtain ⟨h1, h2⟩ := List.mem_filter.mp hx
      rcases List.mem_cons.mp (h x h1) with q | q
      · simp [q] at h2
      · exact q
    have d : xs.length ≤ (xs.filter fun c => !decide (c = a)).length + 1 := by
      clear e h
      induction xs with
      | nil => exact Nat.zero_le _
      | cons y r ih =>
        obtain ⟨n1, n2⟩ := List.nodup_cons.mp nd
        by_cases q : y = a
        · have e1 : (r.filter fun c => !decide (c = a)) = r := List.filter_eq_self.mpr fun c hc => by
            have : c ≠ a := fun z => n1 (q ▸ z ▸ hc)
            simp [this]
          rw [List.filter_cons_of_neg (by simp [q]), e1] <;> exact Nat.le_refl _
        · rw [List.filter_cons_of_pos (by simp [q])]
          have := ih n2
          simp only [List.length_cons]
          omega
    simp only [List.length_cons]
    omega
theorem same_count {α : Type} [DecidableEq α] {xs ys : List α} (nx : xs.Nodup) (ny : ys.Nodup) (h : ∀ x, x ∈ xs ↔ x ∈ ys) : xs.length = ys.length :=
  Nat.le_antisymm (few_of_sub ys xs nx fun x q => (h x).mp q) (few_of_sub xs ys ny fun x q => (h x).mpr q)
theorem fold_mem (x : Str) : ∀ (xs acc : List Str), x ∈ xs.foldl WbSet.addNew acc ↔ x ∈ acc ∨ x ∈ xs
  | [], acc => by simp
  | y :: r, acc => by
    rw [List.foldl_cons, fold_mem x r, WbSet.addNew_mem, List.mem_cons, or_assoc]
theorem fold_nodup : ∀ (xs acc : List Str), acc.Nodup → (xs.foldl WbSet.addNew acc).Nodup
  | [], _, h => h
  | y :: r, acc, h => fold_nodup r _ (by
    unfold WbSet.addNew
    by_cases q : y ∈ acc
    · rw [if_pos q] <;> exact h
    · rw [if_neg q, List.nodup_append]
      exact ⟨h, by simp, fun a ha b hb e => q (by rw [← List.mem_singleton.mp hb, ← e]; exact ha)⟩)
theorem differ_mem (x : Str) (xs : List Str) : x ∈ WbSet.differ xs ↔ x ∈ xs := by
  unfold WbSet.differ
  rw [fold_mem]
  simp
theorem differ_nodup (xs : List Str) : (WbSet.differ xs).Nodup := fold_nodup xs [] List.nodup_nil
theorem S_inj {l m : List Nat} (h : S l = S m) : l = m := by rw [← S_cps l, h, S_cps]
theorem getD_at {l : List Nat} {i : Nat} (h : i < l.length) : l[i]? = some (l.getD i 0) := by
  rw [List.getD_eq_getElem?_getD, List.getElem?_eq_getElem h] <;> rfl
/-- the signs of a kind, in any order -/
structure Sgs (l : List Nat) : Prop where
  low : Low l
  nd : l.Nodup
  pos : 0 < l.length
  few : l.length ≤ 4
theorem Sgs.w {l : List Nat} (h : Sgs l) : IsW l := ⟨h.low, h.pos, by have := h.few; omega⟩
def spIsSigns : Sp := fun vs H Q _ => ∃ l, vs = [.str (S l)] ∧ Sgs l ∧ ∀ H', Same H H' → Q (.bl true) H'
def spSignOf : Sp := fun vs H Q _ => ∃ (c : Nat) (sg : List Nat), vs = [.str (S [c]), .str (S sg)] ∧ c ∈ sg ∧ Q (.bl true) H
theorem flat_strs (zs : List Str) : (zs.map V.str).all flatV = true := by rw [List.all_map]; exact List.all_eq_true.mpr fun _ _ => rfl
theorem inV_strs (z : Str) (zs : List Str) : inV (.str z) (zs.map V.str) = decide (z ∈ zs) := by
  unfold inV
  rw [List.any_map, Bool.eq_iff_iff, List.any_eq_true, decide_eq_true_iff]
  constructor
  · rintro ⟨y, hy, e⟩
    have e' : (y == z) = true := e
    rw [← beq_iff_eq.mp e']
    exact hy
  · intro h
    exact ⟨z, h, beq_self_eq_true z⟩
theorem take_nd {α : Type} [DecidableEq α] {l : List α} {i : Nat} {x : α} (nd : l.Nodup) (h : l[i]? = some x) : x ∉ l.take i := by
  intro m
  obtain ⟨j, hj, e⟩ := List.getElem_of_mem m
  rw [List.length_take] at hj
  rw [List.getElem_take] at e
  obtain ⟨hi, e2⟩ := List.getElem?_eq_some_iff.mp h
  exact (List.pairwise_iff_getElem.mp nd) j i (by omega) hi (by omega) (e.trans e2.symm)
section
variable {P : Program} {w : World} {K : PySem.W.Frag} {mg : Str → Option Value} {base : Heap} {f fD fS fW : Addr} {fd fdD fdS dW : FuncData}
theorem scIW : FnScope ["value", "sign"] ["value"] (defScope sIsWord) := ⟨rfl, rfl, rfl, by decide +kernel, rfl, by decide +kernel, by decide +kernel⟩
theorem ok_isword (F : Fun K "is_word" "is_word" sIsWord f fd) (Z : Free mg) (t6 : Tok) (g6 : mg "MOST_WORD" = some (.int 600 t6)) : FnOk P w K mg base CX0 1 f fd ["value"] spIsWord := by
  refine F.ok scIW (fun vs H Q E h => ?_) (fun cdv A outer s H vs Q E hr h => ?_)
  · obtain ⟨l, rfl, _⟩ := h
    rfl
  · obtain ⟨l, rfl, W, k⟩ := h
    refine ⟨_, pss_cons (ps_if (PW.pt (pw_or (pt_not (pt_val (pe_callB call_isi (by rfl) Z.isi (by decide +kernel) (pa_cons (pv 0) (pa_cons (pe_bltn (v := .ty "str") (u := .type "str") (by rfl) Z.str (by decide +kernel) rfl) pa_nil)))))
        (pw_or1 (pt_not (pt_chain op_le op_le pe_int (pe_callB call_len_str (by rfl) Z.len PySem.boot_len (pa_cons (pv 0) pa_nil)) (pe_glob (v := .int 600) (by rfl) g6 ⟨_, rfl⟩)))))) (pss_one (ps_never)) pss_nil)
      (pss_one (ps_ret (pe_callB (cr_all rfl) (by rfl) Z.all (by decide +kernel) (pa_cons
        (pe_lc (own := [("sign", 1)]) (g := gName 1) (tt := tYes) rfl scIW.nd (pi_str (pv 0)) (blkOk_by (N := ["value", "sign"]) (sc := defScope sIsWord) (by decide +kernel)) (fun _ _ _ _ _ => pg_name (i := 1) scIW.nd rfl (.inl rfl)) (fun _ _ _ _ _ => pts_nil)
          (fun _ _ _ _ _ => pe_chain op_le_str op_le_str pe_str (pv 1) pe_str)) pa_nil)))), ?_⟩
    have len1 : 1 ≤ ((S l).length : Int) := by rw [S_len]; have := W.pos; omega
    have len2 : ((S l).length : Int) ≤ 600 := by rw [S_len]; have := W.few; omega
    refine ⟨_, rfl, _, _, .type "str", .type "str", true, rfl, .ty "str", .base (.str _), kit_ty (by decide +kernel), true, rfl, ?_⟩
    refine ⟨_, rfl, _, rfl, W.fits, _, _, rfl, rfl, _, rfl, ifd len1 ⟨_, _, rfl, rfl, _, rfl, iteNS len2 ?_⟩⟩
    refine ⟨_, rfl, _, rfl, fun D hD => lc_it walk_str (fun i H3 => H3 D = some (.lst ((List.replicate i true).map V.bl)) ∧ Same H H3) ⟨upd_same, Same.put (Same.refl H) hD⟩ (fun _ _ _ _ => trivial) ?_ ?_⟩
    · rintro i x H3 H3' hi ⟨h1, h2⟩ ⟨rfl, c, hc, rfl⟩
      have mem : c ∈ l := by
        have q := Array.mem_of_getElem? hc
        simpa [S] using q
      have c12 := W.low c mem
      have la : ¬ (([c] : List Nat) < [97]) := by rw [List.cons_lt_cons_iff]; simp; omega
      have lz : ¬ (([122] : List Nat) < [c]) := by rw [List.cons_lt_cons_iff]; simp; omega
      have ea : ("a" : Str).cps.toList = [97] := by decide +kernel
      have ez : ("z" : Str).cps.toList = [122] := by decide +kernel
      refine ⟨rfl, _, rfl, _, _, rfl, rfl, _, rfl, iteS (by rw [ea]; exact la) ⟨_, _, rfl, rfl, ?_⟩⟩
      rw [ez, decide_eq_false (show ¬ (([122] : List Nat) < (⟨#[c]⟩ : Str).cps.toList) from lz)]
      refine ⟨_, h1, ?_, ?_, Same.new' h2 hD⟩
      · rw [List.length_map, List.length_replicate, sizeLine_eq]
        have := W.few
        rw [S_size] at hi
        omega
      · rw [upd_same, List.replicate_succ', List.map_append] <;> rfl
    · rintro H3 ⟨h1, h2⟩
      refine ⟨D, _, rfl, SqL.of h1, ?_⟩
      have e : (List.replicate (S l).cps.size true).all id = true := List.all_eq_true.mpr fun b hb => by rw [List.eq_of_mem_replicate hb] <;> rfl
      show Q (.bl ((List.replicate (S l).cps.size true).all id)) H3
      rw [e]
      exact k H3 h2
theorem scSg : FnScope ["value"] ["value"] (defScope sIsSigns) := ⟨rfl, rfl, rfl, by decide +kernel, rfl, by decide +kernel, by decide +kernel⟩
theorem ok_issigns (F : Fun K "is_signs" "is_signs" sIsSigns f fd) (Z : Free mg) (DW : Def K mg "is_word" sIsWord ["value"] fW dW) (t6 : Tok) (g6 : mg "MOST_WORD" = some (.int 600 t6)) (t4 : Tok) (g4 : mg "MOST_SIGNS" = some (.int 4 t4)) : FnOk P w K mg base CX0 2 f fd ["value"] spIsSigns := by
  have GW : FnOk P w K mg base CX0 1 fW dW ["value"] spIsWord := ok_isword DW.F Z t6 g6
  refine F.ok scSg (fun vs H Q E h => ?_) (fun cdv A outer s H vs Q E hr h => ?_)
  · obtain ⟨l, rfl, _⟩ := h
    rfl
  · obtain ⟨l, rfl, G, k⟩ := h
    refine ⟨_, pss_one (ps_ret (pe_and (pe_call GW hr rfl DW.g DW.kp DW.b .nil pass0 (pa_cons (pv 0) pa_nil)) (pe_and (pe_cmpR op_le (pe_callB call_len_str (by rfl) Z.len PySem.boot_len (pa_cons (pv 0) pa_nil)) (pe_glob (v := .int 4) (by rfl) g4 ⟨_, rfl⟩) (nomark _))
      (pe_one (pe_cmpR op_eq (WbSet.pe_lenSetT rfl (by rfl) Z.len (by rfl) Z.set (pv 0)) (pe_callB call_len_str (by rfl) Z.len PySem.boot_len (pa_cons (pv 0) pa_nil)) (nomark _)))))), ?_⟩
    have few := G.few
    refine ⟨_, rfl, l, rfl, G.w, fun H1 s1 => ⟨true, rfl, _, rfl, _, rfl, G.w.fits, _, _, rfl, rfl, _, rfl, ifd (by rw [S_len]; omega) ?_⟩⟩
    refine ⟨_, rfl, S l, rfl, by rw [S_len]; omega, _, rfl, _, rfl, G.w.fits, rfl, ?_⟩
    have e : (WbSet.differ (WbSet.signs (S l))).length = (S l).length := by
      have nd : (WbSet.signs (S l)).Nodup := by
        unfold WbSet.signs
        rw [S_cps]
        exact List.Pairwise.map _ (fun a b h q => h (by injection q with q; injection q with q; injection q)) G.nd
      rw [same_count (differ_nodup _) nd (fun x => differ_mem x _)]
      unfold WbSet.signs
      rw [List.length_map, S_cps, S_len]
    rw [e, decide_eq_true rfl]
    exact k H1 s1
theorem scSO : FnScope ["value", "signs"] ["value", "signs"] (defScope sSignOf) := ⟨rfl, rfl, rfl, by decide +kernel, rfl, by decide +kernel, by decide +kernel⟩
theorem ok_signof (F : Fun K "is_sign_of" "is_sign_of" sSignOf f fd) (Z : Free mg) : FnOk P w K mg base CX0 1 f fd ["value", "signs"] spSignOf := by
  refine F.ok scSO (fun vs H Q E h => ?_) (fun cdv A outer s H vs Q E hr h => ?_)
  · obtain ⟨c, sg, rfl, _⟩ := h
    rfl
  · obtain ⟨c, sg, rfl, m, k⟩ := h
    refine ⟨_, pss_one (ps_ret (pe_and (pe_callB call_isi (by rfl) Z.isi (by decide +kernel) (pa_cons (pv 0) (pa_cons (pe_bltn (v := .ty "str") (u := .type "str") (by rfl) Z.str (by decide +kernel) rfl) pa_nil)))
      (pe_and (pe_cmpR op_eq (pe_callB call_len_str (by rfl) Z.len PySem.boot_len (pa_cons (pv 0) pa_nil)) pe_int (nomark _)) (pe_one (pe_cmpR op_in_sign (pv 0) (pv 1) rfl))))), ?_⟩
    refine ⟨_, rfl, _, _, .type "str", .type "str", true, rfl, .ty "str", .base (.str _), kit_ty (by decide +kernel), true, rfl, ?_⟩
    refine ⟨_, rfl, _, rfl, (by rw [S_len, sizeLine_eq]; show 1 ≤ _; decide), rfl, _, rfl, ifd (by rw [S_len] <;> rfl) ?_⟩
    refine ⟨_, rfl, _, rfl, c, S sg, rfl, rfl, ?_⟩
    rw [S_cps, decide_eq_true m]
    exact k
end
end Wb
/-! the parts of a loop, asked whether they are right -/
namespace Wb
open PySem L2 WbMin WbS Lz
abbrev sIsName : Stmt := top 13
abbrev sStateOf : Stmt := top 29
abbrev sRowOf : Stmt := top 30
abbrev sTurnOf : Stmt := top 31
/-- a name -/
structure IsNm (l : List Nat) : Prop where
  pos : 0 < l.length
  few : l.length ≤ 8
  hd : 97 ≤ l.getD 0 0 ∧ l.getD 0 0 ≤ 122
  ok : ∀ c ∈ l, (97 ≤ c ∧ c ≤ 122) ∨ (48 ≤ c ∧ c ≤ 57)
theorem IsNm.fits {l : List Nat} (h : IsNm l) : (S l).length ≤ sizeLine := by
  rw [S_len, sizeLine_eq]
  have := h.few
  omega
def spIsName : Sp := fun vs H Q _ => ∃ l, vs = [.str (S l)] ∧ IsNm l ∧ ∀ H', Same H H' → Q (.bl true) H'
def spStateOf : Sp := fun vs H Q _ => ∃ (z : Str) (t : Addr) (st : List Str), vs = [.str z, .ref t] ∧ H t = some (.tup (st.map V.str)) ∧ z ∈ st ∧ Q (.bl true) H
def spIsIntT : Sp := fun vs H Q _ => ∃ i : Int, vs = [.int i] ∧ Q (.bl true) H
def spRowOf : Sp := fun vs H Q _ => ∃ (r t : Addr) (sg : List Nat) (st : List Str) (a b : Str) (c : Nat) (m : Int), vs = [.ref r, .str (S sg), .ref t] ∧ H r = some (.tup [.str a, .str (S [c]), .str b, .int m]) ∧ H t = some (.tup (st.map V.str)) ∧ a ∈ st ∧ b ∈ st ∧ c ∈ sg ∧ Q (.bl true) H
def spTurnOf : Sp := fun vs H Q _ => ∃ (r t : Addr) (st : List Str) (a b : Str) (m : Int), vs = [.ref r, .ref t] ∧ H r = some (.tup [.str a, .str b, .int m]) ∧ H t = some (.tup (st.map V.str)) ∧ a ∈ st ∧ b ∈ st ∧ Q (.bl true) H
theorem iteSn {p A B : Prop} [Decidable p] (hp : p) (h : B) : if (!decide p) = true then A else B := by
  rw [decide_eq_true hp]
  exact h
theorem ifd1 {p A B : Prop} [Decidable p] (hp : ¬ p) (h : A) : if (!decide p) = true then A else B := by
  rw [decide_eq_false hp]
  exact h
theorem iteNN {p A B : Prop} [Decidable p] (hp : ¬ p) (h : B) : if (!(!decide p)) = true then A else B := by
  rw [decide_eq_false hp]
  exact h
theorem all_reps (n : Nat) : (List.replicate n true).all id = true := List.all_eq_true.mpr fun b hb => by rw [List.eq_of_mem_replicate hb] <;> rfl
theorem cps_a : ("a" : Str).cps.toList = [97] := by decide +kernel
theorem cps_z : ("z" : Str).cps.toList = [122] := by decide +kernel
theorem cps_0 : ("0" : Str).cps.toList = [48] := by decide +kernel
theorem cps_9 : ("9" : Str).cps.toList = [57] := by decide +kernel
theorem not_lt1 {c d : Nat} (h : d ≤ c) : ¬ (([c] : List Nat) < [d]) := by
  rw [List.cons_lt_cons_iff]
  simp
  omega
theorem is_lt1 {c d : Nat} (h : c < d) : ([c] : List Nat) < [d] := by
  rw [List.cons_lt_cons_iff]
  exact .inl h
section
variable {P : Program} {w : World} {K : PySem.W.Frag} {mg : Str → Option Value} {base : Heap} {f fS fO fI : Addr} {fd dS dO dI : FuncData}
theorem scII : FnScope ["value"] ["value"] (defScope sIsInt) := ⟨rfl, rfl, rfl, by decide +kernel, rfl, by decide +kernel, by decide +kernel⟩
theorem ok_isintT (F : Fun K "is_integer" "is_integer" sIsInt f fd) (Z : Free mg) : FnOk P w K mg base CX0 1 f fd ["value"] spIsIntT := by
  refine F.ok scII (fun vs H Q E h => ?_) (fun cdv A outer s H vs Q E hr h => ?_)
  · obtain ⟨n, rfl, _⟩ := h
    rfl
  · obtain ⟨n, rfl, k⟩ := h
    refine ⟨_, pss_one (ps_ret (pe_and (pe_callB call_isi (by rfl) Z.isi (by decide +kernel) (pa_cons (pv 0) (pa_cons (pe_bltn (v := .ty "int") (u := .type "int") (by rfl) Z.int (by decide +kernel) rfl) pa_nil)))
      (pe_one (pe_not (pe_callB call_isi (by rfl) Z.isi (by decide +kernel) (pa_cons (pv 0) (pa_cons (pe_bltn (v := .ty "bool") (u := .type "bool") (by rfl) Z.bool (by decide +kernel) rfl) pa_nil))))))), ?_⟩
    exact ⟨_, rfl, _, _, .type "int", .type "int", true, rfl, .ty "int", .base (.int _), kit_ty (by decide +kernel), true, rfl, _, rfl, _, _, .type "int", .type "bool", false, rfl, .ty "bool", .base (.int _), kit_ty (by decide +kernel), _, rfl, k⟩
theorem scNm : FnScope ["value", "character"] ["value"] (defScope sIsName) := ⟨rfl, rfl, rfl, by decide +kernel, rfl, by decide +kernel, by decide +kernel⟩
theorem ok_isname (F : Fun K "is_name" "is_name" sIsName f fd) (Z : Free mg) (t8 : Tok) (g8 : mg "MOST_NAME" = some (.int 8 t8)) : FnOk P w K mg base CX0 1 f fd ["value"] spIsName := by
  refine F.ok scNm (fun vs H Q E h => ?_) (fun cdv A outer s H vs Q E hr h => ?_)
  · obtain ⟨l, rfl, _⟩ := h
    rfl
  · obtain ⟨l, rfl, W, k⟩ := h
    refine ⟨_, pss_cons (ps_if (PW.pt (pw_or (pt_not (pt_val (pe_callB call_isi (by rfl) Z.isi (by decide +kernel) (pa_cons (pv 0) (pa_cons (pe_bltn (v := .ty "str") (u := .type "str") (by rfl) Z.str (by decide +kernel) rfl) pa_nil)))))
        (pw_or (pt_not (pt_chain op_le op_le pe_int (pe_callB call_len_str (by rfl) Z.len PySem.boot_len (pa_cons (pv 0) pa_nil)) (pe_glob (v := .int 8) (by rfl) g8 ⟨_, rfl⟩)))
        (pw_or1 (pt_not (pt_chain op_le_str op_le_str pe_str (pe_ix ix_str (pv 0) pe_int (fun _ _ => rfl)) pe_str)))))) (pss_one ps_never) pss_nil)
      (pss_one (ps_ret (pe_callB (cr_all rfl) (by rfl) Z.all (by decide +kernel) (pa_cons
        (pe_lc (own := [("character", 1)]) (g := gName 1) (tt := tYes) rfl scNm.nd (pi_str (pv 0)) (blkOk_by (N := ["value", "character"]) (sc := defScope sIsName) (by decide +kernel)) (fun _ _ _ _ _ => pg_name (i := 1) scNm.nd rfl (.inl rfl)) (fun _ _ _ _ _ => pts_nil)
          (fun _ _ _ _ _ => pe_or (pe_chain op_le_str op_le_str pe_str (pv 1) pe_str) (pe_one (pe_chain op_le_str op_le_str pe_str (pv 1) pe_str)))) pa_nil)))), ?_⟩
    have pos := W.pos
    have len1 : 1 ≤ ((S l).length : Int) := by rw [S_len]; omega
    have len2 : ((S l).length : Int) ≤ 8 := by rw [S_len]; have := W.few; omega
    refine ⟨_, rfl, _, _, .type "str", .type "str", true, rfl, .ty "str", .base (.str _), kit_ty (by decide +kernel), true, rfl, ?_⟩
    refine ⟨_, rfl, _, rfl, W.fits, _, _, rfl, rfl, _, rfl, ifd len1 ⟨_, _, rfl, rfl, _, rfl, ?_⟩⟩
    refine iteNS len2 ?_
    have hd := W.hd
    refine ⟨_, rfl, _, _, l.getD 0 0, rfl, rfl, W.fits, by rw [S_cps]; exact atI_nat (j := 0) (getD_at pos), _, _, rfl, rfl, _, rfl, ifd1 (by rw [cps_a]; exact not_lt1 hd.1) ⟨_, _, rfl, rfl, ?_⟩⟩
    refine ⟨_, rfl, iteNN (show ¬ (("z" : Str).cps.toList < [l.getD 0 0]) from by rw [cps_z]; exact not_lt1 hd.2) ?_⟩
    refine ⟨_, rfl, _, rfl, fun D hD => lc_it walk_str (fun i H3 => H3 D = some (.lst ((List.replicate i true).map V.bl)) ∧ Same H H3) ⟨upd_same, Same.put (Same.refl H) hD⟩ (fun _ _ _ _ => trivial) ?_ ?_⟩
    · rintro i x H3 H3' hi ⟨h1, h2⟩ ⟨rfl, c, hc, rfl⟩
      have mem : c ∈ l := by
        have q := Array.mem_of_getElem? hc
        simpa [S] using q
      have fin : ∀ t : Bool, t = true → ∃ xs, H3' D = some (.lst xs) ∧ xs.length < sizeLine ∧ (L2.upd H3' D (.lst (xs ++ [.bl t]))) D = some (.lst ((List.replicate (i + 1) true).map V.bl)) ∧ Same H (L2.upd H3' D (.lst (xs ++ [.bl t]))) := by
        rintro _ rfl
        refine ⟨_, h1, ?_, ?_, Same.new' h2 hD⟩
        · rw [List.length_map, List.length_replicate, sizeLine_eq]
          have := W.few
          rw [S_size] at hi
          omega
        · rw [upd_same, List.replicate_succ', List.map_append] <;> rfl
      rcases W.ok c mem with q | q
      · refine ⟨rfl, _, rfl, _, _, rfl, rfl, _, rfl, ifd1 (by rw [cps_a]; exact not_lt1 q.1) ⟨_, _, rfl, rfl, ?_⟩⟩
        have e : (decide (("z" : Str).cps.toList < (⟨#[c]⟩ : Str).cps.toList)) = false := decide_eq_false (by rw [cps_z]; exact not_lt1 q.2)
        refine ⟨true, by rw [e] <;> rfl, fin true rfl⟩
      · refine ⟨rfl, _, rfl, _, _, rfl, rfl, _, rfl, iteSn (show ([c] : List Nat) < ("a" : Str).cps.toList by rw [cps_a]; exact is_lt1 (by omega)) ?_⟩
        refine ⟨false, rfl, ?_⟩
        refine ⟨_, rfl, _, _, rfl, rfl, _, rfl, ifd1 (show ¬ (([c] : List Nat) < ("0" : Str).cps.toList) by rw [cps_0]; exact not_lt1 q.1) ⟨_, _, rfl, rfl, ?_⟩⟩
        have e : (decide (("9" : Str).cps.toList < (⟨#[c]⟩ : Str).cps.toList)) = false := decide_eq_false (by rw [cps_9]; exact not_lt1 q.2)
        exact fin _ (by rw [e] <;> rfl)
    · rintro H3 ⟨h1, h2⟩
      refine ⟨D, _, rfl, SqL.of h1, ?_⟩
      show Q (.bl ((List.replicate (S l).cps.size true).all id)) H3
      rw [all_reps]
      exact k H3 h2
theorem scSt : FnScope ["value", "states"] ["value", "states"] (defScope sStateOf) := ⟨rfl, rfl, rfl, by decide +kernel, rfl, by decide +kernel, by decide +kernel⟩
theorem ok_stateof (F : Fun K "is_state_of" "is_state_of" sStateOf f fd) (Z : Free mg) : FnOk P w K mg base CX0 1 f fd ["value", "states"] spStateOf := by
  refine F.ok scSt (fun vs H Q E h => ?_) (fun cdv A outer s H vs Q E hr h => ?_)
  · obtain ⟨z, t, st, rfl, _⟩ := h
    rfl
  · obtain ⟨z, t, st, rfl, ht, m, k⟩ := h
    refine ⟨_, pss_one (ps_ret (pe_and (pe_callB call_isi (by rfl) Z.isi (by decide +kernel) (pa_cons (pv 0) (pa_cons (pe_bltn (v := .ty "str") (u := .type "str") (by rfl) Z.str (by decide +kernel) rfl) pa_nil)))
      (pe_one (pe_cmpR op_in_seq (pv 0) (pv 1) (by rfl))))), ?_⟩
    refine ⟨_, rfl, _, _, .type "str", .type "str", true, rfl, .ty "str", .base (.str _), kit_ty (by decide +kernel), true, rfl, ?_⟩
    refine ⟨_, rfl, _, rfl, t, _, rfl, .inr (SqT.of ht), rfl, flat_strs _, ?_⟩
    rw [inV_strs, decide_eq_true m]
    exact k
theorem scRo : FnScope ["value", "signs", "states", "state", "sign", "further", "amount"] ["value", "signs", "states"] (defScope sRowOf) := ⟨rfl, rfl, rfl, by decide +kernel, rfl, by decide +kernel, by decide +kernel⟩
theorem ok_rowof (F : Fun K "is_row_of" "is_row_of" sRowOf f fd) (Z : Free mg) (mT : mg "tuple" = none) (DS : Def K mg "is_state_of" sStateOf ["value", "states"] fS dS) (DO : Def K mg "is_sign_of" sSignOf ["value", "signs"] fO dO) (DI : Def K mg "is_integer" sIsInt ["value"] fI dI) : FnOk P w K mg base CX0 2 f fd ["value", "signs", "states"] spRowOf := by
  have GS : FnOk P w K mg base CX0 1 fS dS ["value", "states"] spStateOf := ok_stateof DS.F Z
  have GO : FnOk P w K mg base CX0 1 fO dO ["value", "signs"] spSignOf := ok_signof DO.F Z
  have GI : FnOk P w K mg base CX0 1 fI dI ["value"] spIsIntT := ok_isintT DI.F Z
  refine F.ok scRo (fun vs H Q E h => ?_) (fun cdv A outer s H vs Q E hr h => ?_)
  · obtain ⟨r, t, sg, st, a, b, c, m, rfl, _⟩ := h
    rfl
  · obtain ⟨r, t, sg, st, a, b, c, m, rfl, hR, ht, ha, hb, hc, k⟩ := h
    refine ⟨_, pss_cons (ps_if (PW.pt (pw_or (pt_not (pt_val (pe_callB call_isi (by rfl) Z.isi (by decide +kernel) (pa_cons (pv 0) (pa_cons (pe_bltn (v := .ty "tuple") (u := .type "tuple") (by rfl) mT (by decide +kernel) rfl) pa_nil)))))
        (pw_or1 (pt_cmpR op_ne (pe_callB call_len_seq (by rfl) Z.len PySem.boot_len (pa_cons (pv 0) pa_nil)) pe_int (nomark _))))) (pss_one ps_never) pss_nil)
      (pss_cons (ps_asg (pv 0) (pg_tup (by rfl) (pgs_cons (pg_name (i := 3) scRo.nd rfl (.inl rfl)) (pgs_cons (pg_name (i := 4) scRo.nd rfl (.inl rfl)) (pgs_cons (pg_name (i := 5) scRo.nd rfl (.inl rfl)) (pgs_cons (pg_name (i := 6) scRo.nd rfl (.inl rfl)) pgs_nil))))))
      (pss_cons (ps_if (PW.pt (pw_or (pt_not (pt_val (pe_call GS hr rfl DS.g DS.kp DS.b .nil pass0 (pa_cons (pv 3) (pa_cons (pv 2) pa_nil)))))
        (pw_or1 (pt_not (pt_val (pe_call GO hr rfl DO.g DO.kp DO.b .nil pass0 (pa_cons (pv 4) (pa_cons (pv 1) pa_nil)))))))) (pss_one ps_never) pss_nil)
      (pss_one (ps_ret (pe_and (pe_call GS hr rfl DS.g DS.kp DS.b .nil pass0 (pa_cons (pv 5) (pa_cons (pv 2) pa_nil))) (pe_one (pe_call GI hr rfl DI.g DI.kp DI.b .nil pass0 (pa_cons (pv 6) pa_nil)))))))), ?_⟩
    refine ⟨_, rfl, _, _, .type "tuple", .type "tuple", true, rfl, .ty "tuple", .base (.tup hR), kit_ty (by decide +kernel), true, rfl, ?_⟩
    refine ⟨_, rfl, r, _, rfl, .inr (SqT.of hR), rfl, _, rfl, iteNS rfl ?_⟩
    refine ⟨_, rfl, r, _, rfl, SqT.of hR, rfl, _, _, rfl, _, _, rfl, _, _, rfl, _, _, rfl, rfl, ?_⟩
    refine ⟨_, rfl, _, rfl, _, t, st, rfl, ht, ha, true, rfl, _, rfl, _, rfl, c, sg, rfl, hc, true, rfl, ?_⟩
    refine ⟨_, rfl, _, rfl, _, t, st, rfl, ht, hb, true, rfl, _, rfl, m, rfl, ?_⟩
    exact k
theorem scTn : FnScope ["value", "states", "state", "further", "amount"] ["value", "states"] (defScope sTurnOf) := ⟨rfl, rfl, rfl, by decide +kernel, rfl, by decide +kernel, by decide +kernel⟩
theorem ok_turnof (F : Fun K "is_turn_of" "is_turn_of" sTurnOf f fd) (Z : Free mg) (mT : mg "tuple" = none) (DS : Def K mg "is_state_of" sStateOf ["value", "states"] fS dS) (DI : Def K mg "is_integer" sIsInt ["value"] fI dI) : FnOk P w K mg base CX0 2 f fd ["value", "states"] spTurnOf := by
  have GS : FnOk P w K mg base CX0 1 fS dS ["value", "states"] spStateOf := ok_stateof DS.F Z
  have GI : FnOk P w K mg base CX0 1 fI dI ["value"] spIsIntT := ok_isintT DI.F Z
  refine F.ok scTn (fun vs H Q E h => ?_) (fun cdv A outer s H vs Q E hr h => ?_)
  · obtain ⟨r, t, st, a, b, m, rfl, _⟩ := h
    rfl
  · obtain ⟨r, t, st, a, b, m, rfl, hR, ht, ha, hb, k⟩ := h
    refine ⟨_, pss_cons (ps_if (PW.pt (pw_or (pt_not (pt_val (pe_callB call_isi (by rfl) Z.isi (by decide +kernel) (pa_cons (pv 0) (pa_cons (pe_bltn (v := .ty "tuple") (u := .type "tuple") (by rfl) mT (by decide +kernel) rfl) pa_nil)))))
        (pw_or1 (pt_cmpR op_ne (pe_callB call_len_seq (by rfl) Z.len PySem.boot_len (pa_cons (pv 0) pa_nil)) pe_int (nomark _))))) (pss_one ps_never) pss_nil)
      (pss_cons (ps_asg (pv 0) (pg_tup (by rfl) (pgs_cons (pg_name (i := 2) scTn.nd rfl (.inl rfl)) (pgs_cons (pg_name (i := 3) scTn.nd rfl (.inl rfl)) (pgs_cons (pg_name (i := 4) scTn.nd rfl (.inl rfl)) pgs_nil)))))
      (pss_one (ps_ret (pe_and (pe_call GS hr rfl DS.g DS.kp DS.b .nil pass0 (pa_cons (pv 2) (pa_cons (pv 1) pa_nil))) (pe_and (pe_call GS hr rfl DS.g DS.kp DS.b .nil pass0 (pa_cons (pv 3) (pa_cons (pv 1) pa_nil))) (pe_one (pe_call GI hr rfl DI.g DI.kp DI.b .nil pass0 (pa_cons (pv 4) pa_nil)))))))), ?_⟩
    refine ⟨_, rfl, _, _, .type "tuple", .type "tuple", true, rfl, .ty "tuple", .base (.tup hR), kit_ty (by decide +kernel), true, rfl, ?_⟩
    refine ⟨_, rfl, r, _, rfl, .inr (SqT.of hR), rfl, _, rfl, iteNS rfl ?_⟩
    refine ⟨_, rfl, r, _, rfl, SqT.of hR, rfl, _, _, rfl, _, _, rfl, _, _, rfl, rfl, ?_⟩
    refine ⟨_, rfl, _, rfl, _, t, st, rfl, ht, ha, true, rfl, _, rfl, _, rfl, _, t, st, rfl, ht, hb, true, rfl, _, rfl, m, rfl, ?_⟩
    exact k
end
end Wb
/-! enumerate(t), t a tuple -/
namespace WbS
open PySem PySem.Spec PyProof.Rows
open AutoSeq1 (wpAny_loadPart')
set_option maxHeartbeats 1000000 in
theorem meets_enumT {v : Value} {o : Obj} {H : Heap → Prop} (B : Begins v o H) :
    Meets (Builtin.«enumerate.__new__» ⟨[.type "enumerate", v], []⟩) (fun _ R s => H s.heap ∧
      R (.ok (.ret (.ref (s.heap.push o).objs.size))) { s with heap := (s.heap.push o).push { cls := .type "enumerate", data := .fields #[.none, .bool false, .ref s.heap.objs.size, rawInt 0, .none, .none] } }) :=
  .of_wp fun prog w A R s h => by
    obtain ⟨hp, g, d, tk, os⟩ := s; obtain ⟨h1, h⟩ := h
    have hsub := sub_enumerate
    have q1 : ∀ {A' : Around} {E : Value → Shared → Prop} {Q : Value → Shared → Prop}, Q (.ref hp.objs.size) ⟨hp.push o, g, d, tk, os⟩ → wpAny (model prog w) A' (pyIter v) Q E ⟨hp, g, d, tk, os⟩ :=
      fun q => B.iter prog w _ _ ⟨hp, g, d, tk, os⟩ _ h1 q
    wp_walk using q1
    refine wpAny_stack_any fun st => wpAny_pure ?_
    split
    · rename_i c _ _ _ _ _
      cases (c == Value.type "enumerate")
      · wp_walk using q1
        exact ⟨_, rfl, h⟩
      · wp_walk using q1
        exact ⟨_, rfl, h⟩
    · wp_walk using q1
      exact ⟨_, rfl, h⟩
section
variable {prog : Program} {w : World} {A : Around} {E : Value → Shared → Prop} {s : Shared}
theorem enum1_begins {v : Value} {o : Obj} {H : Heap → Prop} {Q : Value → Shared → Prop} (B : Begins v o H) (h1 : H s.heap)
    (h : ∀ h', IsEnum h' (s.heap.objs.size + 1) s.heap.objs.size 0 .none → h'.get? s.heap.objs.size = some o → h'.objs.size = s.heap.objs.size + 2 →
      (∀ b o, s.heap.get? b = some o → h'.get? b = some o) → Q (.ref (s.heap.objs.size + 1)) { s with heap := h' }) :
    wpAny (model prog w) A (call (.type "enumerate") [v]) Q E s := by
  refine callType_new F.called_enumerate (by decide) (F.typeCall_enumerate_1 _) (F.newCall_enumerate_1 _) (fun obj => F.args_object_init_2 obj _) F.entry_enumerate_new
    (meets_enumT B) ⟨h1, ?_⟩
  have hz : (s.heap.push o).objs.size = s.heap.objs.size + 1 := Heap.size_push ..
  show _ ∧ _
  rw [hz]
  have he : IsEnum ((s.heap.push o).push { cls := .type "enumerate", data := .fields #[.none, .bool false, .ref s.heap.objs.size, rawInt 0, .none, .none] }) (s.heap.objs.size + 1) s.heap.objs.size 0 .none := by
    have := Heap.get?_push_size (s.heap.push o) (o := { cls := .type "enumerate", data := .fields #[.none, .bool false, .ref s.heap.objs.size, rawInt 0, .none, .none] }) rfl
    rw [hz] at this; exact this
  refine ⟨⟨_, he, rfl⟩, h _ he (Heap.get?_push_of_some _ (Heap.get?_push_size _ B.free)) (by rw [Heap.size_push, hz]) fun b o x => Heap.get?_push_of_some _ (Heap.get?_push_of_some _ x)⟩
end
end WbS
namespace WbS
open PySem PySem.Spec PyProof.Rows L2
/-- the tuple at a as it stands at each turn, each item in a new pair -/
def IteT (K : PySem.W.Frag) (a : Addr) : It :=
  ⟨fun i H => ∃ (xs : List V) (x : V), SqT K H a xs ∧ xs[i]? = some x, fun i H v H' => ∃ T x, v = .ref T ∧ H T = none ∧ H' = upd H T (.tup [.int (i : Nat), x]) ∧ ∀ xs, SqT K H a xs → xs[i]? = some x, fun i H => ∃ xs : List V, SqT K H a xs ∧ xs.length = i⟩
theorem turn_enumT {P : Program} {w : World} {K : PySem.W.Frag} {elts : List Expr} {kk : Nat} {tpos : Pos} (a e it : Addr) :
    Turn P w K (.Tuple elts kk tpos) (IteT K a) [e, it] e (fun i h => (∃ old, IsEnum h e it ((i : Nat) : Int) old) ∧ h.IsTupleIter it a i ∧ e ≠ it ∧ e ≠ a ∧ a ≠ it) where
  mem := by simp
  obj := fun i h st b hb => by
    obtain ⟨⟨old, he⟩, ⟨o, ho, hc, hd⟩, _⟩ := st
    have e' : b = e ∨ b = it := by simpa using hb
    rcases e' with z | z
    · rw [z]; exact ⟨_, he, fun v q => nomatch q⟩
    · rw [z]; exact ⟨o, ho, fun v q => by rw [hd] at q; cases q⟩
  keep := fun i h h' st k => let ⟨⟨old, he⟩, hi, hne⟩ := st; ⟨⟨old, k e (by simp) _ he⟩, hi.at fun o q => k it (by simp) o q, hne⟩
  item := by
    intro X hP hw hK hc i pins s σ H E I hf st hg
    subst hP hw hK
    obtain ⟨⟨old, he⟩, hit, hne, hea, hai⟩ := st
    obtain ⟨xs, x, hq, hx⟩ := hg
    obtain ⟨its, rv, p, hz⟩ := I.tuple hq
    obtain ⟨u, hu, ru⟩ := rv.get hx
    have hel : e < s.heap.objs.size := Heap.lt_size he
    have hil : it < s.heap.objs.size := by obtain ⟨_, q, _⟩ := hit; exact Heap.lt_size q
    have hlt : i < its.toArray.size := by
      have q := List.getElem?_eq_some_iff.mp hu
      obtain ⟨q, _⟩ := q
      simpa using q
    refine wpAny_pyNext_enum_itemD (Draws.tuple (A := X.A.in1) (I.ok.hd hc) it a hai its.toArray) he ⟨hit, p⟩ hlt hne (by simp [hne, hea]) fun x' h' tk hP ho hit' hT hsz hk => ?_
    obtain rfl : x' = u := by
      have q1 : its.toArray[i]? = some x' := hP
      have q2 : its.toArray[i]? = some u := by simpa using hu
      rw [q1] at q2
      exact Option.some.inj q2
    refine ⟨_, rfl, wpAny_letOwnedTupleGo_enum (s := { s with heap := h', toks := tk + 1 }) ho fun h'' he' sb => ?_⟩
    have hT2 : h''.get? s.heap.objs.size = some { cls := .type "tuple", data := .seq #[.int i tk, x'] } := (sb.2 _ (Nat.ne_of_gt hel)).trans hT
    have new : ObjOk X.prog X.w (upd H s.heap.objs.size (.tup [.int (i : Nat), x])) h'' s.heap.objs.size (.tup [.int (i : Nat), x]) :=
      ⟨by show 2 ≤ sizeLine; decide, [.int i tk, x'], .cons ⟨_, rfl⟩ (.cons ru .nil), ⟨_, hT2, rfl, _, rfl⟩⟩
    have I1 : Inv X pins σ (upd H s.heap.objs.size (.tup [.int (i : Nat), x])) { s with heap := h'', toks := tk + 1 } :=
      I.turnedNew (ch := [e, it]) (fun b ob hb q => (sb.2 b (fun z => hb (by simp [z]))).trans (hk b ob (fun z => hb (by simp [z])) (fun z => hb (by simp [z])) q)) hf (Nat.le_refl _) new
    refine ⟨.ref s.heap.objs.size, _, I1, rfl, ⟨_, x, rfl, I.hok.fresh (Nat.le_refl _), rfl, fun ys hy => by rw [I.tuple_inj hy hq]; exact hx⟩, ⟨⟨x', ?_⟩, hit'.1.at fun o q => (sb.2 it (Ne.symm hne)).trans q, hne, hea, hai⟩, fun b hb => ?_⟩
    · have e1 : ((i + 1 : Nat) : Int) = (i : Int) + 1 := by omega
      rw [e1]; exact he'
    · have hb' : b < s.heap.objs.size := by
        have e' : b = e ∨ b = it := by simpa using hb
        rcases e' with z | z
        · rw [z]; exact hel
        · rw [z]; exact hil
      rw [upd_ne (Nat.ne_of_lt hb')]
      exact (hf b hb).1
  done := by
    intro X hP hw hK hc i pins s σ H E I hf st hg
    subst hP hw hK
    obtain ⟨⟨old, he⟩, hit, hne, hea, hai⟩ := st
    obtain ⟨xs, hq, hx⟩ := hg
    obtain ⟨its, rv, p, hz⟩ := I.tuple hq
    obtain ⟨f0, f1, f2, f3, f4, f5⟩ := hf it (by simp)
    have hl := rv.length
    have en : its.toArray.size = i := by simp; omega
    refine wpAny_pyNext_enum_endD (n := its.toArray.size) (Draws.tuple (A := X.A.in1) (I.ok.hd hc) it a hai its.toArray) he ⟨by rw [en]; exact hit, p⟩ fun h' eb => ⟨rfl, I.turned (t' := s.toks) (fun b o hb q => eb b o hb q) f0 f1 f3 f4 f5⟩
  self := fun A i s Q E st h => let ⟨⟨_, he⟩, _⟩ := st; wpAny_pyIter_enum he h
def iEnumT (K : PySem.W.Frag) (ta : TA) : TI := fun σ H R => ta σ H fun vs H1 => ∃ a xs, vs = [.ref a] ∧ SqT K H1 a xs ∧ R (IteT K a) H1
theorem pi_enumT {X : Cx} {e : Expr} {ta : TA} {p pos tpos : Pos} {elts : List Expr} {kk : Nat} (hg : Gl X "enumerate") (hm : X.mg "enumerate" = none) (ha : PA X [e] ta) (hs : starEach [e] X.env = [(false, eval e X.env)] := by rfl) :
    PI X (.Tuple elts kk tpos) (.Call (.Name "enumerate" p) [e] [] pos) (iEnumT X.K ta) := by
  refine ⟨fun pins s σ H R I h => ?_⟩
  refine Call_ (ld_blt I hg hm boot_enumerate (PyProof.Rows.callWith_type1 (thn (ha.run pos pins s σ H _ I h) fun us s1 ⟨vs, H1, I1, r1, q1⟩ => ?_) hs rfl))
  obtain ⟨a, xs, ex, hq, q⟩ := q1
  subst ex
  cases r1 with
  | cons r rr =>
    cases rr
    cases r
    obtain ⟨its, rv, p', hz⟩ := I1.tuple hq
    have hal : a < s1.heap.objs.size := by obtain ⟨_, q, _⟩ := p'; exact Heap.lt_size q
    refine enum1_begins (begins_tuple a its.toArray) p' fun h' he hit hsz hk => wpAny_pyIter_enum he ?_
    have I2 : Inv X pins σ H1 { s1 with heap := h' } := I1.kept (t' := s1.toks) hk
    refine ⟨s1.heap.objs.size + 1, [s1.heap.objs.size + 1, s1.heap.objs.size], _, _, H1, rfl, I2, turn_enumT a (s1.heap.objs.size + 1) s1.heap.objs.size, ⟨⟨.none, he⟩, ⟨_, hit, rfl, rfl⟩, Nat.succ_ne_self _, Nat.ne_of_gt (Nat.lt_succ_of_lt hal), Nat.ne_of_lt hal⟩, fun b hb => ?_, q⟩
    have e' : b = s1.heap.objs.size + 1 ∨ b = s1.heap.objs.size := by simpa using hb
    have hle : s1.heap.objs.size ≤ b := by
      rcases e' with z | z
      · rw [z]; exact Nat.le_add_right _ _
      · rw [z]; exact Nat.le_refl _
    exact I1.fpOk hle (I1.hok.fresh hle)
theorem walk_enumT {K : PySem.W.Frag} {a : Addr} {xs : List V} : Walk (IteT K a) xs.length (fun H => SqT K H a xs) (YPair (fun i => some (.int (i : Nat))) (fun i => xs[i]?)) := by
  refine ⟨fun i _ hi q => ⟨xs, xs[i], q, by simp [hi]⟩, fun _ q => ⟨xs, q, rfl⟩, fun i H v H' _ q y => ?_⟩
  obtain ⟨T, x, h1, h2, h3, h4⟩ := y
  exact ⟨T, .int (i : Nat), x, h1, h2, h3, rfl, h4 xs q⟩
end WbS
/-! first_wrong of texts and of pairs -/
namespace Wb
open PySem L2 WbMin WbS Lz
abbrev sFirst : Stmt := top 14
theorem un65 {k : Nat} {A : Around} (r : Room k A) : A.units + 65 < cLine := by have := r.un; omega
/-- tuples that stand -/
def Tups (H : Hp) : List Addr → List (List V) → Prop
  | [], [] => True
  | a :: as, x :: xs => H a = some (.tup x) ∧ Tups H as xs
  | _, _ => False
theorem Tups.length {H : Hp} : ∀ {as : List Addr} {xs : List (List V)}, Tups H as xs → as.length = xs.length
  | [], [], _ => rfl
  | _ :: _, _ :: _, h => congrArg (· + 1) (Tups.length h.2)
  | [], _ :: _, h => h.elim
  | _ :: _, [], h => h.elim
theorem Tups.same {H H' : Hp} (s : Same H H') : ∀ {as : List Addr} {xs : List (List V)}, Tups H as xs → Tups H' as xs
  | [], [], _ => trivial
  | _ :: _, _ :: _, h => ⟨s _ _ h.1, Tups.same s h.2⟩
  | [], _ :: _, h => h.elim
  | _ :: _, [], h => h.elim
theorem Tups.get {H : Hp} : ∀ {as : List Addr} {xs : List (List V)} {i : Nat} {a : Addr} {x : List V}, Tups H as xs → as[i]? = some a → xs[i]? = some x → H a = some (.tup x)
  | [], _, _, _, _, _, h, _ => nomatch h
  | _ :: _, [], _, _, _, h, _, _ => h.elim
  | b :: as, y :: xs, 0, a, x, h, e, f => by
    cases e
    cases f
    exact h.1
  | b :: as, y :: xs, i + 1, a, x, h, e, f => Tups.get h.2 e f
theorem Tups.snoc {H : Hp} {a : Addr} {x : List V} (n : H a = some (.tup x)) : ∀ {as : List Addr} {xs : List (List V)}, Tups H as xs → Tups H (as ++ [a]) (xs ++ [x])
  | [], [], _ => ⟨n, trivial⟩
  | _ :: _, _ :: _, h => ⟨h.1, Tups.snoc n h.2⟩
  | [], _ :: _, h => h.elim
  | _ :: _, [], h => h.elim
theorem Tups.take {H : Hp} : ∀ {as : List Addr} {xs : List (List V)} (i : Nat), Tups H as xs → Tups H (as.take i) (xs.take i)
  | [], [], i, _ => by rw [List.take_nil, List.take_nil]; exact trivial
  | [], _ :: _, _, h => h.elim
  | _ :: _, [], _, h => h.elim
  | _ :: _, _ :: _, 0, _ => trivial
  | _ :: _, _ :: _, i + 1, h => ⟨h.1, Tups.take i h.2⟩
/-- two texts, as data and as a value -/
def pD (p : Str × Str) : PyData := .tuple [.str p.1, .str p.2]
def pV (p : Str × Str) : List V := [.str p.1, .str p.2]
theorem dp_pair {K : PySem.W.Frag} {H : Hp} {a : Addr} {p : Str × Str} (h : H a = some (.tup (pV p))) : Dp K H (.ref a) (pD p) := .tup (SqT.of h) (.cons (.str _) (.cons (.str _) .nil))
theorem dp_pairs {K : PySem.W.Frag} {H : Hp} : ∀ {as : List Addr} {ps : List (Str × Str)}, Tups H as (ps.map pV) → DpAll K H (as.map V.ref) (ps.map pD)
  | [], [], _ => .nil
  | _ :: _, _ :: _, h => .cons (dp_pair h.1) (dp_pairs h.2)
  | [], _ :: _, h => h.elim
  | _ :: _, [], h => h.elim
def okP (p : Str × Str) : Prop := PyData.strOk p.1 = true ∧ PyData.strOk p.2 = true
theorem can_pairs : ∀ {ps : List (Str × Str)}, (∀ p ∈ ps, okP p) → PyData.canLayAll0 (ps.map pD) = true
  | [], _ => rfl
  | p :: r, h => by
    show ((PyData.strOk p.1 && (PyData.strOk p.2 && true)) && PyData.canLayAll0 (r.map pD)) = true
    rw [(h p List.mem_cons_self).1, (h p List.mem_cons_self).2, can_pairs fun y q => h y (List.mem_cons_of_mem _ q)] <;> rfl
theorem depth_pairs : ∀ ps : List (Str × Str), PyData.depthAll (ps.map pD) ≤ 1
  | [] => Nat.zero_le _
  | p :: r => by
    show max 1 (PyData.depthAll (r.map pD)) ≤ 1
    have := depth_pairs r
    omega
theorem shaped_pairs {ps : List (Str × Str)} (h : ∀ p ∈ ps, okP p) : SeqAt.shaped (.list (ps.map pD)) = true := by
  have d : PyData.depth (.list (ps.map pD)) ≤ 64 := by
    show PyData.depthAll (ps.map pD) + 1 ≤ 64
    have := depth_pairs ps
    omega
  unfold SeqAt.shaped
  rw [decide_eq_true d]
  show (PyData.canLayAll0 (ps.map pD) && true) = true
  rw [can_pairs h] <;> rfl
theorem shaped_pair {p : Str × Str} (h : okP p) : SeqAt.shaped (pD p) = true := by
  show ((PyData.strOk p.1 && (PyData.strOk p.2 && true)) && decide (_ ≤ 64)) = true
  rw [h.1, h.2] <;> rfl
theorem eqv_pair (p q : Str × Str) : PyData.eqv (pD p) (pD q) = decide (p = q) := by
  show ((p.1 == q.1) && ((p.2 == q.2) && true)) = decide (p = q)
  rw [Bool.eq_iff_iff]
  simp [Prod.ext_iff]
theorem any_pair (p : Str × Str) (ps : List (Str × Str)) : ((ps.map pD).any fun z => PyData.eqv z (pD p)) = decide (p ∈ ps) := by
  rw [List.any_map, Bool.eq_iff_iff, List.any_eq_true, decide_eq_true_iff]
  constructor
  · rintro ⟨y, hy, e⟩
    have e' : PyData.eqv (pD y) (pD p) = true := e
    rw [eqv_pair] at e'
    rw [← of_decide_eq_true e']
    exact hy
  · intro h
    exact ⟨p, h, by show PyData.eqv (pD p) (pD p) = true; rw [eqv_pair, decide_eq_true rfl]⟩
def spFirst : Sp := fun vs H Q _ => ∃ (t L : Addr) (ps : List Str), vs = [.ref t, .ref L] ∧ H t = some (.tup (ps.map V.str)) ∧ H L = some (.lst ((List.replicate ps.length true).map V.bl)) ∧ ps.Nodup ∧ ∀ H', Same H H' → Q .non H'
def spFirstL : Sp := fun vs H Q _ => ∃ (t L : Addr) (ps : List Str), vs = [.ref t, .ref L] ∧ H t = some (.lst (ps.map V.str)) ∧ H L = some (.lst ((List.replicate ps.length true).map V.bl)) ∧ ps.Nodup ∧ ∀ H', Same H H' → Q .non H'
def spFirstP : Sp := fun vs H Q _ => ∃ (t L : Addr) (as : List Addr) (ps : List (Str × Str)), vs = [.ref t, .ref L] ∧ H t = some (.lst (as.map V.ref)) ∧ Tups H as (ps.map pV) ∧ H L = some (.lst ((List.replicate ps.length true).map V.bl)) ∧ ps.Nodup ∧ (∀ p ∈ ps, okP p) ∧ ∀ H', Same H H' → Q .non H'
section
variable {P : Program} {w : World} {K : PySem.W.Frag} {mg : Str → Option Value} {base : Heap} {f : Addr} {fd : FuncData}
theorem scFw : FnScope ["values", "right", "index", "value"] ["values", "right"] (defScope sFirst) := ⟨rfl, rfl, rfl, by decide +kernel, rfl, by decide +kernel, by decide +kernel⟩
theorem ok_first (F : Fun K "first_wrong" "first_wrong" sFirst f fd) (mE : mg "enumerate" = none) : FnOk P w K mg base CX0 1 f fd ["values", "right"] spFirst := by
  refine F.ok scFw (fun vs H Q E h => ?_) (fun cdv A outer s H vs Q E hr h => ?_)
  · obtain ⟨t, L, ps, rfl, _⟩ := h
    rfl
  · obtain ⟨t, L, ps, rfl, ht, hL, nd, k⟩ := h
    refine ⟨_, pss_cons (ps_for PassesOwn.never rfl (pi_enumT (by rfl) mE (pa_cons (pv 0) pa_nil)) (pg_tup (by rfl) (pgs_cons (pg_name (i := 2) scFw.nd rfl (.inl rfl)) (pgs_cons (pg_name (i := 3) scFw.nd rfl (.inl rfl)) pgs_nil)))
        (pss_one (ps_if (PW.pt (pw_or (pt_not (pt_val (pe_ix ix_list (pv 1) (pv 2) (fun _ _ => rfl)))) (pw_or1 (pt_cmpR op_in_seq (pv 3) (pe_slice sl_tup (pv 0) po_none (po_some (pv 2))) (by rfl))))) (pss_one ps_never) pss_nil)))
      (pss_one (ps_ret pe_non)), ?_⟩
    refine ⟨_, rfl, t, _, rfl, SqT.of ht, for_it walk_enumT (fun i σ H' => ∃ v2 v3 : Option V, σ = [some (.ref t), some (.ref L), v2, v3] ∧ Same H H') ⟨none, none, rfl, Same.refl H⟩ (fun _ _ _ _ h => by obtain ⟨_, _, _, h⟩ := h; exact SqT.of (h _ _ ht)) ?_ ?_⟩
    · rintro i x σ H2 H3 hi ⟨v2, v3, rfl, s2⟩ ⟨T, a, b, rfl, hT, rfl, ea, eb⟩
      cases ea
      dsimp only at eb
      rw [List.getElem?_map] at eb
      obtain ⟨z, hz, rfl⟩ := Option.map_eq_some_iff.mp eb
      have hi' : i < ps.length := by rw [List.length_map] at hi; exact hi
      have sT := Same.put (o := .tup [.int (i : Nat), .str z]) s2 hT
      refine ⟨T, _, rfl, SqT.of upd_same, rfl, _, _, rfl, _, _, rfl, rfl, ?_⟩
      refine ⟨_, rfl, _, rfl, L, _, _, .bl true, rfl, rfl, SqL.of (sT _ _ hL), ?_, true, rfl, ?_⟩
      · refine atI_nat ?_
        rw [List.getElem?_map, List.getElem?_replicate, if_pos hi'] <;> rfl
      have ec : cutV (ps.map V.str) none (some ((i : Nat) : Int)) = (ps.take i).map V.str := by
        unfold cutV
        rw [HT.sIx_none, HT.sIx_nat, List.length_map, Nat.min_eq_left (Nat.le_of_lt hi')]
        show (ps.map V.str).take i = _
        rw [List.map_take]
      refine ⟨_, rfl, _, rfl, _, rfl, _, rfl, t, _, rfl, SqT.of (sT _ _ ht), ?_, fun u hu => ?_⟩
      · rintro ⟨_, q⟩
        rw [HT.sIx_nat, List.length_map] at q
        omega
      · rw [ec]
        refine ⟨u, _, rfl, .inr (SqT.of upd_same), rfl, flat_strs _, _, rfl, ?_⟩
        have no : inV (.str z) ((ps.take i).map V.str) = false := by
          rw [inV_strs]
          exact decide_eq_false (take_nd nd hz)
        show if inV (.str z) ((ps.take i).map V.str) = true then _ else _
        rw [no, if_neg Bool.false_ne_true]
        exact ⟨_, _, rfl, Same.put sT hu⟩
    · rintro σ H2 ⟨v2, v3, rfl, s2⟩
      exact k H2 s2
theorem ok_firstL (F : Fun K "first_wrong" "first_wrong" sFirst f fd) (mE : mg "enumerate" = none) : FnOk P w K mg base CX0 1 f fd ["values", "right"] spFirstL := by
  refine F.ok scFw (fun vs H Q E h => ?_) (fun cdv A outer s H vs Q E hr h => ?_)
  · obtain ⟨t, L, ps, rfl, _⟩ := h
    rfl
  · obtain ⟨t, L, ps, rfl, ht, hL, nd, k⟩ := h
    refine ⟨_, pss_cons (ps_for PassesOwn.never rfl (pi_enum (by rfl) mE (pa_cons (pv 0) pa_nil)) (pg_tup (by rfl) (pgs_cons (pg_name (i := 2) scFw.nd rfl (.inl rfl)) (pgs_cons (pg_name (i := 3) scFw.nd rfl (.inl rfl)) pgs_nil)))
        (pss_one (ps_if (PW.pt (pw_or (pt_not (pt_val (pe_ix ix_list (pv 1) (pv 2) (fun _ _ => rfl)))) (pw_or1 (pt_cmpR op_in_seq (pv 3) (pe_slice sl_list (pv 0) po_none (po_some (pv 2))) (by rfl))))) (pss_one ps_never) pss_nil)))
      (pss_one (ps_ret pe_non)), ?_⟩
    refine ⟨_, rfl, t, _, rfl, SqL.of ht, for_it walk_enum (fun i σ H' => ∃ v2 v3 : Option V, σ = [some (.ref t), some (.ref L), v2, v3] ∧ Same H H') ⟨none, none, rfl, Same.refl H⟩ (fun _ _ _ _ h => by obtain ⟨_, _, _, h⟩ := h; exact SqL.of (h _ _ ht)) ?_ ?_⟩
    · rintro i x σ H2 H3 hi ⟨v2, v3, rfl, s2⟩ ⟨T, a, b, rfl, hT, rfl, ea, eb⟩
      cases ea
      dsimp only at eb
      rw [List.getElem?_map] at eb
      obtain ⟨z, hz, rfl⟩ := Option.map_eq_some_iff.mp eb
      have hi' : i < ps.length := by rw [List.length_map] at hi; exact hi
      have sT := Same.put (o := .tup [.int (i : Nat), .str z]) s2 hT
      refine ⟨T, _, rfl, SqT.of upd_same, rfl, _, _, rfl, _, _, rfl, rfl, ?_⟩
      refine ⟨_, rfl, _, rfl, L, _, _, .bl true, rfl, rfl, SqL.of (sT _ _ hL), ?_, true, rfl, ?_⟩
      · refine atI_nat ?_
        rw [List.getElem?_map, List.getElem?_replicate, if_pos hi'] <;> rfl
      have ec : cutV (ps.map V.str) none (some ((i : Nat) : Int)) = (ps.take i).map V.str := by
        unfold cutV
        rw [HT.sIx_none, HT.sIx_nat, List.length_map, Nat.min_eq_left (Nat.le_of_lt hi')]
        show (ps.map V.str).take i = _
        rw [List.map_take]
      refine ⟨_, rfl, _, rfl, _, rfl, _, rfl, t, _, rfl, SqL.of (sT _ _ ht), fun u hu => ?_⟩
      · rw [ec]
        refine ⟨u, _, rfl, .inl (SqL.of upd_same), rfl, flat_strs _, _, rfl, ?_⟩
        have no : inV (.str z) ((ps.take i).map V.str) = false := by
          rw [inV_strs]
          exact decide_eq_false (take_nd nd hz)
        show if inV (.str z) ((ps.take i).map V.str) = true then _ else _
        rw [no, if_neg Bool.false_ne_true]
        exact ⟨_, _, rfl, Same.put sT hu⟩
    · rintro σ H2 ⟨v2, v3, rfl, s2⟩
      exact k H2 s2
theorem ok_firstP (F : Fun K "first_wrong" "first_wrong" sFirst f fd) (mE : mg "enumerate" = none) : FnOk P w K mg base CX0 1 f fd ["values", "right"] spFirstP := by
  refine F.ok scFw (fun vs H Q E h => ?_) (fun cdv A outer s H vs Q E hr h => ?_)
  · obtain ⟨t, L, as, ps, rfl, _⟩ := h
    rfl
  · obtain ⟨t, L, as, ps, rfl, ht, hT0, hL, nd, oks, k⟩ := h
    have len : as.length = ps.length := by rw [hT0.length, List.length_map]
    refine ⟨_, pss_cons (ps_for PassesOwn.never rfl (pi_enum (by rfl) mE (pa_cons (pv 0) pa_nil)) (pg_tup (by rfl) (pgs_cons (pg_name (i := 2) scFw.nd rfl (.inl rfl)) (pgs_cons (pg_name (i := 3) scFw.nd rfl (.inl rfl)) pgs_nil)))
        (pss_one (ps_if (PW.pt (pw_or (pt_not (pt_val (pe_ix ix_list (pv 1) (pv 2) (fun _ _ => rfl)))) (pw_or1 (pt_cmpR (op_inD (un65 hr)) (pv 3) (pe_slice sl_list (pv 0) po_none (po_some (pv 2))) (by rfl))))) (pss_one ps_never) pss_nil)))
      (pss_one (ps_ret pe_non)), ?_⟩
    refine ⟨_, rfl, t, _, rfl, SqL.of ht, for_it walk_enum (fun i σ H' => ∃ v2 v3 : Option V, σ = [some (.ref t), some (.ref L), v2, v3] ∧ Same H H') ⟨none, none, rfl, Same.refl H⟩ (fun _ _ _ _ h => by obtain ⟨_, _, _, h⟩ := h; exact SqL.of (h _ _ ht)) ?_ ?_⟩
    · rintro i x σ H2 H3 hi ⟨v2, v3, rfl, s2⟩ ⟨T, a, b, rfl, hT, rfl, ea, eb⟩
      cases ea
      dsimp only at eb
      rw [List.getElem?_map] at eb
      obtain ⟨z, hz, rfl⟩ := Option.map_eq_some_iff.mp eb
      have hi' : i < as.length := by rw [List.length_map] at hi; exact hi
      have hip : i < ps.length := by omega
      have sT := Same.put (o := .tup [.int (i : Nat), .ref z]) s2 hT
      refine ⟨T, _, rfl, SqT.of upd_same, rfl, _, _, rfl, _, _, rfl, rfl, ?_⟩
      refine ⟨_, rfl, _, rfl, L, _, _, .bl true, rfl, rfl, SqL.of (sT _ _ hL), ?_, true, rfl, ?_⟩
      · refine atI_nat ?_
        rw [List.getElem?_map, List.getElem?_replicate, if_pos hip] <;> rfl
      have ec : cutV (as.map V.ref) none (some ((i : Nat) : Int)) = (as.take i).map V.ref := by
        unfold cutV
        rw [HT.sIx_none, HT.sIx_nat, List.length_map, Nat.min_eq_left (Nat.le_of_lt hi')]
        show (as.map V.ref).take i = _
        rw [List.map_take]
      refine ⟨_, rfl, _, rfl, _, rfl, _, rfl, t, _, rfl, SqL.of (sT _ _ ht), fun u hu => ?_⟩
      · rw [ec]
        obtain ⟨p, hp⟩ : ∃ p, ps[i]? = some p := ⟨ps[i], List.getElem?_eq_getElem hip⟩
        have sU := Same.put (o := .lst ((as.take i).map V.ref)) sT hu
        have tu := hT0.same sU
        have tz : _ = some (HO.tup (pV p)) := tu.get hz (by rw [List.getElem?_map, hp] <;> rfl)
        have tt := tu.take i
        rw [← List.map_take] at tt
        refine ⟨pD p, (ps.take i).map pD, dp_pair tz, .lst (SqL.of upd_same) (dp_pairs tt), shaped_pair (oks p (List.mem_of_getElem? hp)), shaped_pairs (fun q hq => oks q (List.mem_of_mem_take hq)), _, rfl, ?_⟩
        have no : (((ps.take i).map pD).any fun z => PyData.eqv z (pD p)) = false := by
          rw [any_pair]
          exact decide_eq_false (take_nd nd hp)
        rw [no]
        exact ⟨_, _, rfl, sU⟩
    · rintro σ H2 ⟨v2, v3, rfl, s2⟩
      exact k H2 s2
end
end Wb
/-! the parts of a loop, checked -/
namespace Wb
open PySem L2 WbMin WbS Lz
abbrev sChSt : Stmt := top 32
abbrev sChRo : Stmt := top 33
abbrev sChTu : Stmt := top 34
abbrev sChYe : Stmt := top 35
/-- the names of states -/
structure Sts (st : List Str) : Prop where
  of : ∀ z ∈ st, ∃ l, z = S l ∧ IsNm l
  nd : st.Nodup
  pos : 0 < st.length
  few : st.length ≤ 6
/-- a row of a loop: state, sign, next state, amount -/
structure Row where
  a : Str
  c : Nat
  b : Str
  m : Int
def Row.v (r : Row) : List V := [.str r.a, .str (S [r.c]), .str r.b, .int r.m]
def Row.k (r : Row) : Str × Str := (r.a, S [r.c])
/-- a turn: state, next state, amount -/
structure Trn where
  a : Str
  b : Str
  m : Int
def Trn.v (r : Trn) : List V := [.str r.a, .str r.b, .int r.m]
def spChSt : Sp := fun vs H Q _ => ∃ (t : Addr) (st : List Str), vs = [.ref t] ∧ H t = some (.tup (st.map V.str)) ∧ Sts st ∧ ∀ H', Same H H' → Q .non H'
def spChYe : Sp := fun vs H Q _ => ∃ (y t : Addr) (ye st : List Str), vs = [.ref y, .ref t] ∧ H y = some (.tup (ye.map V.str)) ∧ H t = some (.tup (st.map V.str)) ∧ (∀ z ∈ ye, z ∈ st) ∧ ye.Nodup ∧ ye.length ≤ 6 ∧ ∀ H', Same H H' → Q .non H'
def spChTu : Sp := fun vs H Q _ => ∃ (y t : Addr) (as : List Addr) (tn : List Trn) (st : List Str), vs = [.ref y, .ref t] ∧ H y = some (.tup (as.map V.ref)) ∧ Tups H as (tn.map Trn.v) ∧ H t = some (.tup (st.map V.str)) ∧ (∀ r ∈ tn, r.a ∈ st ∧ r.b ∈ st) ∧ (tn.map Trn.a).Nodup ∧ tn.length ≤ 6 ∧ ∀ H', Same H H' → Q .non H'
def spChRo : Sp := fun vs H Q _ => ∃ (y t : Addr) (sg : List Nat) (as : List Addr) (rw : List Row) (st : List Str), vs = [.ref y, .str (S sg), .ref t] ∧ H y = some (.tup (as.map V.ref)) ∧ Tups H as (rw.map Row.v) ∧ H t = some (.tup (st.map V.str)) ∧ (∀ r ∈ rw, r.a ∈ st ∧ r.c ∈ sg ∧ r.b ∈ st) ∧ (rw.map Row.k).Nodup ∧ (∀ r ∈ rw, okP r.k) ∧ sg.length ≤ 4 ∧ st.length ≤ 6 ∧ rw.length = sg.length * st.length ∧ ∀ H', Same H H' → Q .non H'
theorem whole_le {n : Nat} {k : Nat} (h : n ≤ k) : HT.sIx n n (some (k : Int)) = n := by
  rw [HT.sIx_nat]
  omega
section
variable {P : Program} {w : World} {K : PySem.W.Frag} {mg : Str → Option Value} {base : Heap} {f fN fF fS fO fI fR : Addr} {fd dN dF dS dO dI dR : FuncData}
theorem scCS : FnScope ["states", "first", "wrong", "state"] ["states"] (defScope sChSt) := ⟨rfl, rfl, rfl, by decide +kernel, rfl, by decide +kernel, by decide +kernel⟩
theorem ok_chst (F : Fun K "check_states" "check_states" sChSt f fd) (Z : Free mg) (mT : mg "tuple" = none) (mE : mg "enumerate" = none) (t8 : Tok) (g8 : mg "MOST_NAME" = some (.int 8 t8)) (t6 : Tok) (g6 : mg "MOST_STATES" = some (.int 6 t6)) (DN : Def K mg "is_name" sIsName ["value"] fN dN) (DF : Def K mg "first_wrong" sFirst ["values", "right"] fF dF) : FnOk P w K mg base CX0 2 f fd ["states"] spChSt := by
  have GN : FnOk P w K mg base CX0 1 fN dN ["value"] spIsName := ok_isname DN.F Z t8 g8
  have GF : FnOk P w K mg base CX0 1 fF dF ["values", "right"] spFirst := ok_first DF.F mE
  refine F.ok scCS (fun vs H Q E h => ?_) (fun cdv A outer s H vs Q E hr h => ?_)
  · obtain ⟨t, st, rfl, _⟩ := h
    rfl
  · obtain ⟨t, st, rfl, ht, G, k⟩ := h
    refine ⟨_, pss_cons (ps_if (PW.pt (pw_or (pt_not (pt_val (pe_callB call_isi (by rfl) Z.isi (by decide +kernel) (pa_cons (pv 0) (pa_cons (pe_bltn (v := .ty "tuple") (u := .type "tuple") (by rfl) mT (by decide +kernel) rfl) pa_nil))))) (pw_or1 (pt_cmpR op_eq (pe_callB call_len_seq (by rfl) Z.len PySem.boot_len (pa_cons (pv 0) pa_nil)) pe_int (nomark _))))) (pss_one ps_never) pss_nil)
      (pss_cons (ps_set (i := 1) scCS.nd rfl (.inl rfl) (pe_slice sl_tupA (pv 0) po_none (po_some (pe_glob (v := .int 6) (by rfl) g6 ⟨_, rfl⟩))))
      (pss_cons (ps_set (i := 2) scCS.nd rfl (.inl rfl) (pe_call GF hr rfl DF.g DF.kp DF.b .nil pass0 (pa_cons (pv 1) (pa_cons
          (pe_lc (own := [("state", 3)]) (g := gName 3) (tt := tYes) rfl scCS.nd (pi_tup (pv 1)) (blkOk_by (N := ["states", "first", "wrong", "state"]) (sc := defScope sChSt) (by decide +kernel)) (fun _ _ _ _ _ => pg_name (i := 3) scCS.nd rfl (.inl rfl)) (fun _ _ _ _ _ => pts_nil)
            (fun _ _ _ _ _ => pe_call GN hr rfl DN.g DN.kp DN.b .nil pass0 (pa_cons (pv 3) pa_nil))) pa_nil))))
      (pss_cons (ps_if (pt_cmpR op_notN (pv 2) pe_non (nomark _)) (pss_one ps_never) pss_nil)
      (pss_one (ps_if (pt_cmpR op_gt (pe_callB call_len_seq (by rfl) Z.len PySem.boot_len (pa_cons (pv 0) pa_nil)) (pe_glob (v := .int 6) (by rfl) g6 ⟨_, rfl⟩) (nomark _)) (pss_one ps_never) pss_nil))))), ?_⟩
    have few := G.few
    have pos := G.pos
    refine ⟨_, rfl, _, _, .type "tuple", .type "tuple", true, rfl, .ty "tuple", .base (.tup ht), kit_ty (by decide +kernel), true, rfl, ?_⟩
    refine ⟨_, rfl, t, _, rfl, .inr (SqT.of ht), rfl, _, rfl, ifn (fun e => by injection e with e; rw [List.length_map] at e; omega) ?_⟩
    refine ⟨_, rfl, _, rfl, t, _, rfl, SqT.of ht, fun _ => ?_, fun no => absurd ⟨rfl, whole_le (by rw [List.length_map]; exact few)⟩ no⟩
    refine ⟨_, rfl, _, rfl, t, rfl, ⟨_, SqT.of ht⟩, fun D hD => lc_it (walk_tup (xs := st.map V.str)) (fun i H3 => H3 D = some (.lst ((List.replicate i true).map V.bl)) ∧ Same H H3) ⟨upd_same, Same.put (Same.refl H) hD⟩ (fun _ _ _ h => SqT.of (h.2 _ _ ht)) ?_ ?_⟩
    · rintro i x H3 H3' hi ⟨h1, h2⟩ ⟨rfl, hx⟩
      rw [List.getElem?_map] at hx
      obtain ⟨z, hz, rfl⟩ := Option.map_eq_some_iff.mp hx
      rw [List.length_map] at hi
      obtain ⟨l, rfl, N⟩ := G.of z (List.mem_of_getElem? hz)
      refine ⟨rfl, _, rfl, l, rfl, N, fun H4 s4 => ⟨_, s4 _ _ h1, ?_, ?_, Same.new' (h2.trans s4) hD⟩⟩
      · rw [List.length_map, List.length_replicate, sizeLine_eq]
        omega
      · rw [upd_same, List.replicate_succ', List.map_append] <;> rfl
    · rintro H3 ⟨h1, h2⟩
      rw [List.length_map] at h1
      refine ⟨t, D, st, rfl, h2 _ _ ht, h1, G.nd, fun H4 s4 => ?_⟩
      refine ⟨_, rfl, rfl, _, rfl, ?_⟩
      show if (!decide (V.non = V.non)) = true then _ else _
      rw [decide_eq_true rfl]
      refine iteF ⟨_, rfl, t, _, rfl, .inr (SqT.of ((h2.trans s4) _ _ ht)), _, _, rfl, rfl, _, rfl, ifn (by rw [List.length_map]; omega) ?_⟩
      exact k H4 (h2.trans s4)
theorem scCY : FnScope ["yes", "states", "wrong", "state"] ["yes", "states"] (defScope sChYe) := ⟨rfl, rfl, rfl, by decide +kernel, rfl, by decide +kernel, by decide +kernel⟩
theorem ok_chye (F : Fun K "check_yes" "check_yes" sChYe f fd) (Z : Free mg) (mT : mg "tuple" = none) (mE : mg "enumerate" = none) (DS : Def K mg "is_state_of" sStateOf ["value", "states"] fS dS) (DF : Def K mg "first_wrong" sFirst ["values", "right"] fF dF) : FnOk P w K mg base CX0 2 f fd ["yes", "states"] spChYe := by
  have GS : FnOk P w K mg base CX0 1 fS dS ["value", "states"] spStateOf := ok_stateof DS.F Z
  have GF : FnOk P w K mg base CX0 1 fF dF ["values", "right"] spFirst := ok_first DF.F mE
  refine F.ok scCY (fun vs H Q E h => ?_) (fun cdv A outer s H vs Q E hr h => ?_)
  · obtain ⟨y, t, ye, st, rfl, _⟩ := h
    rfl
  · obtain ⟨y, t, ye, st, rfl, hy, ht, sub, nd, few, k⟩ := h
    refine ⟨_, pss_cons (ps_if (pt_not (pt_val (pe_callB call_isi (by rfl) Z.isi (by decide +kernel) (pa_cons (pv 0) (pa_cons (pe_bltn (v := .ty "tuple") (u := .type "tuple") (by rfl) mT (by decide +kernel) rfl) pa_nil))))) (pss_one ps_never) pss_nil)
      (pss_cons (ps_set (i := 2) scCY.nd rfl (.inl rfl) (pe_call GF hr rfl DF.g DF.kp DF.b .nil pass0 (pa_cons (pv 0) (pa_cons
          (pe_lc (own := [("state", 3)]) (g := gName 3) (tt := tYes) rfl scCY.nd (pi_tup (pv 0)) (blkOk_by (N := ["yes", "states", "wrong", "state"]) (sc := defScope sChYe) (by decide +kernel)) (fun _ _ _ _ _ => pg_name (i := 3) scCY.nd rfl (.inl rfl)) (fun _ _ _ _ _ => pts_nil)
            (fun _ _ _ _ _ => pe_call GS hr rfl DS.g DS.kp DS.b .nil pass0 (pa_cons (pv 3) (pa_cons (pv 1) pa_nil)))) pa_nil))))
      (pss_one (ps_if (pt_cmpR op_notN (pv 2) pe_non (nomark _)) (pss_one ps_never) pss_nil))), ?_⟩
    refine ⟨_, rfl, _, _, .type "tuple", .type "tuple", true, rfl, .ty "tuple", .base (.tup hy), kit_ty (by decide +kernel), true, rfl, ?_⟩
    refine ⟨_, rfl, _, rfl, y, rfl, ⟨_, SqT.of hy⟩, fun D hD => lc_it (walk_tup (xs := ye.map V.str)) (fun i H3 => H3 D = some (.lst ((List.replicate i true).map V.bl)) ∧ Same H H3) ⟨upd_same, Same.put (Same.refl H) hD⟩ (fun _ _ _ h => SqT.of (h.2 _ _ hy)) ?_ ?_⟩
    · rintro i x H3 H3' hi ⟨h1, h2⟩ ⟨rfl, hx⟩
      rw [List.getElem?_map] at hx
      obtain ⟨z, hz, rfl⟩ := Option.map_eq_some_iff.mp hx
      rw [List.length_map] at hi
      refine ⟨rfl, _, rfl, _, rfl, z, t, st, rfl, h2 _ _ ht, sub z (List.mem_of_getElem? hz), _, h1, ?_, ?_, Same.new' h2 hD⟩
      · rw [List.length_map, List.length_replicate, sizeLine_eq]
        omega
      · rw [upd_same, List.replicate_succ', List.map_append] <;> rfl
    · rintro H3 ⟨h1, h2⟩
      rw [List.length_map] at h1
      refine ⟨y, D, ye, rfl, h2 _ _ hy, h1, nd, fun H4 s4 => ?_⟩
      refine ⟨_, rfl, rfl, _, rfl, ?_⟩
      show if (!decide (V.non = V.non)) = true then _ else _
      rw [decide_eq_true rfl]
      exact iteF (k H4 (h2.trans s4))
abbrev NCT : List Str := ["turns", "states", "right", "wrong", "turn", "fine"]
theorem scCT : FnScope NCT ["turns", "states"] (defScope sChTu) := ⟨rfl, rfl, rfl, by decide +kernel, rfl, by decide +kernel, by decide +kernel⟩
theorem ok_chtu (F : Fun K "check_turns" "check_turns" sChTu f fd) (Z : Free mg) (mT : mg "tuple" = none) (mE : mg "enumerate" = none) (mZ : mg "zip" = none) (DR : Def K mg "is_turn_of" sTurnOf ["value", "states"] fR dR) (DS : Def K mg "is_state_of" sStateOf ["value", "states"] fS dS) (DI : Def K mg "is_integer" sIsInt ["value"] fI dI) (DF : Def K mg "first_wrong" sFirst ["values", "right"] fF dF) : FnOk P w K mg base CX0 3 f fd ["turns", "states"] spChTu := by
  have GR : FnOk P w K mg base CX0 2 fR dR ["value", "states"] spTurnOf := ok_turnof DR.F Z mT DS DI
  have GF : FnOk P w K mg base CX0 1 fF dF ["values", "right"] spFirstL := ok_firstL DF.F mE
  refine F.ok scCT (fun vs H Q E h => ?_) (fun cdv A outer s H vs Q E hr h => ?_)
  · obtain ⟨y, t, as, tn, st, rfl, _⟩ := h
    rfl
  · obtain ⟨y, t, as, tn, st, rfl, hy, hT, ht, sub, nd, few, k⟩ := h
    have hr1 : Room 1 _ := hr.mono (by decide)
    have len : as.length = tn.length := by rw [hT.length, List.length_map]
    refine ⟨_, pss_cons (ps_if (pt_not (pt_val (pe_callB call_isi (by rfl) Z.isi (by decide +kernel) (pa_cons (pv 0) (pa_cons (pe_bltn (v := .ty "tuple") (u := .type "tuple") (by rfl) mT (by decide +kernel) rfl) pa_nil))))) (pss_one ps_never) pss_nil)
      (pss_cons (ps_setLc (i := 2) (own := [("turn", 4)]) (g := gName 4) (tt := tYes) rfl scCT.nd rfl rfl (sw_true rfl rfl rfl (by decide +kernel)) (pi_tup (pv 0)) (blkOk_by (N := NCT) (sc := defScope sChTu) (by decide +kernel)) (fun _ _ _ _ _ => pg_name (i := 4) scCT.nd rfl (.inl rfl)) (fun _ _ _ _ _ => pts_nil)
            (fun _ _ _ _ _ => pe_call GR hr rfl DR.g DR.kp DR.b .nil pass0 (pa_cons (pv 4) (pa_cons (pv 1) pa_nil))))
      (pss_cons (ps_set (i := 3) scCT.nd rfl (.inl rfl) (pe_call GF hr1 rfl DF.g DF.kp DF.b .nil pass0 (pa_cons
          (pe_lc (own := [("turn", 4), ("fine", 5)]) (g := gTup K 2 (gCons (gName 4) (gCons (gName 5) gNil))) (tt := tYes) rfl scCT.nd (pi_zipM (by rfl) mZ (pa_cons (pv 0) (pa_cons (pv 2) pa_nil))) (blkOk_by (N := NCT) (sc := defScope sChTu) (by decide +kernel)) (fun _ _ _ _ _ => pg_tup (by rfl) (pgs_cons (pg_name (i := 4) scCT.nd rfl (.inl rfl)) (pgs_cons (pg_name (i := 5) scCT.nd rfl (.inl rfl)) pgs_nil))) (fun _ _ _ _ _ => pts_nil)
            (fun _ _ _ _ _ => pe_ifExp (pt_val (pv 5)) (pe_ix (show IxR _ (rIxT K) from ix_tup) (pv 4) pe_int (fun _ _ => rfl)) pe_non)) (pa_cons (pv 2) pa_nil))))
      (pss_one (ps_if (pt_cmpR op_notN (pv 3) pe_non (nomark _)) (pss_one ps_never) pss_nil)))), ?_⟩
    refine ⟨_, rfl, _, _, .type "tuple", .type "tuple", true, rfl, .ty "tuple", .base (.tup hy), kit_ty (by decide +kernel), true, rfl, ?_⟩
    refine ⟨_, rfl, y, rfl, ⟨_, SqT.of hy⟩, fun D hD => lc_it (walk_tup (xs := as.map V.ref)) (fun i H3 => H3 D = some (.lst ((List.replicate i true).map V.bl)) ∧ Same H H3) ⟨upd_same, Same.put (Same.refl H) hD⟩ (fun _ _ _ h => SqT.of (h.2 _ _ hy)) ?_ ?_⟩
    · rintro i x H3 H3' hi ⟨h1, h2⟩ ⟨rfl, hx⟩
      rw [List.getElem?_map] at hx
      obtain ⟨r, hz, rfl⟩ := Option.map_eq_some_iff.mp hx
      rw [List.length_map] at hi
      have hi' : i < tn.length := by omega
      have hr' : tn[i]? = some tn[i] := List.getElem?_eq_getElem hi'
      have hv := (hT.same h2).get hz (by rw [List.getElem?_map, hr'] <;> rfl)
      obtain ⟨m1, m2⟩ := sub tn[i] (List.getElem_mem hi')
      refine ⟨rfl, _, rfl, _, rfl, r, t, st, _, _, _, rfl, hv, h2 _ _ ht, m1, m2, _, h1, ?_, ?_, Same.new' h2 hD⟩
      · rw [List.length_map, List.length_replicate, sizeLine_eq]
        omega
      · rw [upd_same, List.replicate_succ', List.map_append] <;> rfl
    · rintro H3 ⟨h1, h2⟩
      rw [List.length_map] at h1
      have hy3 := h2 _ _ hy
      have hT3 := hT.same h2
      refine ⟨_, rfl, _, rfl, y, D, _, _, rfl, SqT.of hy3, SqL.of h1, fun D2 hD2 => lc_it (walk_zipM (n := tn.length) (xs := as.map V.ref) (ys := (List.replicate as.length true).map V.bl) (by rw [List.length_map, List.length_map, List.length_replicate]; omega)) (fun i H4 => H4 D2 = some (.lst (((tn.take i).map Trn.a).map V.str)) ∧ Same H3 H4) ⟨upd_same, Same.put (Same.refl H3) hD2⟩ (fun _ _ _ h => ⟨SqT.of (h.2 _ _ hy3), SqL.of (h.2 _ _ h1)⟩) ?_ ?_⟩
      · rintro i x H4 H5 hi ⟨g1, g2⟩ ⟨T, a, b, rfl, nT, rfl, ea, eb⟩
        dsimp only at ea eb
        rw [List.getElem?_map] at ea
        obtain ⟨r, hz, rfl⟩ := Option.map_eq_some_iff.mp ea
        rw [List.getElem?_map, List.getElem?_replicate, if_pos (by omega)] at eb
        cases eb
        have hr' : tn[i]? = some tn[i] := List.getElem?_eq_getElem hi
        have sT := Same.put (o := .tup [.ref r, .bl true]) g2 nT
        have hv := (hT3.same sT).get hz (by rw [List.getElem?_map, hr'] <;> rfl)
        have nDT : D2 ≠ T := ne_of_none g1 nT
        refine ⟨T, _, rfl, SqT.of upd_same, rfl, _, _, rfl, _, _, rfl, rfl, ?_⟩
        have e1 : ((tn.take i).map Trn.a).map V.str ++ [V.str tn[i].a] = ((tn.take (i + 1)).map Trn.a).map V.str := by
          rw [List.take_succ, hr', List.map_append, List.map_append] <;> rfl
        refine ⟨rfl, _, rfl, true, rfl, _, rfl, _, _, _, _, rfl, rfl, SqT.of hv, atI_nat (j := 0) rfl, _, (upd_ne nDT).trans g1, ?_, ?_, Same.new' sT hD2⟩
        · rw [List.length_map, List.length_map, List.length_take, sizeLine_eq]
          omega
        · rw [upd_same]
          exact congrArg (fun z => some (HO.lst z)) e1
      · rintro H4 ⟨g1, g2⟩
        rw [List.take_length] at g1
        refine ⟨_, rfl, D2, D, tn.map Trn.a, rfl, g1, ?_, nd, fun H5 s5 => ?_⟩
        · rw [List.length_map, ← len]
          exact g2 _ _ h1
        refine ⟨_, rfl, rfl, _, rfl, ?_⟩
        show if (!decide (V.non = V.non)) = true then _ else _
        rw [decide_eq_true rfl]
        exact iteF (k H5 ((h2.trans g2).trans s5))
end
end Wb
/-! the rows of a loop, checked -/
namespace Wb
open PySem L2 WbMin WbS Lz
theorem Tups.upd {H : Hp} {D : Addr} {o : HO} : ∀ {as : List Addr} {xs : List (List V)}, (∀ c ∈ as, c ≠ D) → Tups H as xs → Tups (L2.upd H D o) as xs
  | [], [], _, _ => trivial
  | a :: as, _ :: _, n, h => ⟨(upd_ne (n a List.mem_cons_self)).trans h.1, Tups.upd (fun c q => n c (List.mem_cons_of_mem _ q)) h.2⟩
  | [], _ :: _, _, h => h.elim
  | _ :: _, [], _, h => h.elim
section
variable {P : Program} {w : World} {K : PySem.W.Frag} {mg : Str → Option Value} {base : Heap} {f fN fF fS fO fI fR : Addr} {fd dN dF dS dO dI dR : FuncData}
abbrev NCR : List Str := ["rows", "signs", "states", "right", "wrong", "row", "fine"]
theorem scCR : FnScope NCR ["rows", "signs", "states"] (defScope sChRo) := ⟨rfl, rfl, rfl, by decide +kernel, rfl, by decide +kernel, by decide +kernel⟩
theorem ok_chro (F : Fun K "check_rows" "check_rows" sChRo f fd) (Z : Free mg) (mT : mg "tuple" = none) (mE : mg "enumerate" = none) (mZ : mg "zip" = none) (DR : Def K mg "is_row_of" sRowOf ["value", "signs", "states"] fR dR) (DS : Def K mg "is_state_of" sStateOf ["value", "states"] fS dS) (DO : Def K mg "is_sign_of" sSignOf ["value", "signs"] fO dO) (DI : Def K mg "is_integer" sIsInt ["value"] fI dI) (DF : Def K mg "first_wrong" sFirst ["values", "right"] fF dF) : FnOk P w K mg base CX0 3 f fd ["rows", "signs", "states"] spChRo := by
  have GR : FnOk P w K mg base CX0 2 fR dR ["value", "signs", "states"] spRowOf := ok_rowof DR.F Z mT DS DO DI
  have GF : FnOk P w K mg base CX0 1 fF dF ["values", "right"] spFirstP := ok_firstP DF.F mE
  refine F.ok scCR (fun vs H Q E h => ?_) (fun cdv A outer s H vs Q E hr h => ?_)
  · obtain ⟨y, t, sg, as, tn, st, rfl, _⟩ := h
    rfl
  · obtain ⟨y, t, sg, as, tn, st, rfl, hy, hT, ht, sub, nd, oks, fs, fst, lenR, k⟩ := h
    have hr1 : Room 1 _ := hr.mono (by decide)
    have len : as.length = tn.length := by rw [hT.length, List.length_map]
    have small : tn.length ≤ 24 := by rw [lenR]; exact Nat.mul_le_mul fs fst
    refine ⟨_, pss_cons (ps_if (pt_not (pt_val (pe_callB call_isi (by rfl) Z.isi (by decide +kernel) (pa_cons (pv 0) (pa_cons (pe_bltn (v := .ty "tuple") (u := .type "tuple") (by rfl) mT (by decide +kernel) rfl) pa_nil))))) (pss_one ps_never) pss_nil)
      (pss_cons (ps_setLc (i := 3) (own := [("row", 5)]) (g := gName 5) (tt := tYes) rfl scCR.nd rfl rfl (sw_true rfl rfl rfl (by decide +kernel)) (pi_tup (pv 0)) (blkOk_by (N := NCR) (sc := defScope sChRo) (by decide +kernel)) (fun _ _ _ _ _ => pg_name (i := 5) scCR.nd rfl (.inl rfl)) (fun _ _ _ _ _ => pts_nil)
            (fun _ _ _ _ _ => pe_call GR hr rfl DR.g DR.kp DR.b .nil pass0 (pa_cons (pv 5) (pa_cons (pv 1) (pa_cons (pv 2) pa_nil)))))
      (pss_cons (ps_set (i := 4) scCR.nd rfl (.inl rfl) (pe_call GF hr1 rfl DF.g DF.kp DF.b .nil pass0 (pa_cons
          (pe_lc (own := [("row", 5), ("fine", 6)]) (g := gTup K 2 (gCons (gName 5) (gCons (gName 6) gNil))) (tt := tYes) rfl scCR.nd (pi_zipM (by rfl) mZ (pa_cons (pv 0) (pa_cons (pv 3) pa_nil))) (blkOk_by (N := NCR) (sc := defScope sChRo) (by decide +kernel)) (fun _ _ _ _ _ => pg_tup (by rfl) (pgs_cons (pg_name (i := 5) scCR.nd rfl (.inl rfl)) (pgs_cons (pg_name (i := 6) scCR.nd rfl (.inl rfl)) pgs_nil))) (fun _ _ _ _ _ => pts_nil)
            (fun _ _ _ _ _ => pe_ifExp (pt_val (pv 6)) (pe_slice (show SlR _ (rSlT K) from sl_tup) (pv 5) po_none (po_some pe_int)) pe_non)) (pa_cons (pv 3) pa_nil))))
      (pss_cons (ps_if (pt_cmpR op_notN (pv 4) pe_non (nomark _)) (pss_one ps_never) pss_nil)
      (pss_one (ps_if (pt_cmpR op_lt (pe_callB call_len_seq (by rfl) Z.len PySem.boot_len (pa_cons (pv 0) pa_nil)) (pe_op op_mul (pe_callB call_len_str (by rfl) Z.len PySem.boot_len (pa_cons (pv 1) pa_nil)) (pe_callB call_len_seq (by rfl) Z.len PySem.boot_len (pa_cons (pv 2) pa_nil))) (nomark _)) (pss_one ps_never) pss_nil))))), ?_⟩
    refine ⟨_, rfl, _, _, .type "tuple", .type "tuple", true, rfl, .ty "tuple", .base (.tup hy), kit_ty (by decide +kernel), true, rfl, ?_⟩
    refine ⟨_, rfl, y, rfl, ⟨_, SqT.of hy⟩, fun D hD => lc_it (walk_tup (xs := as.map V.ref)) (fun i H3 => H3 D = some (.lst ((List.replicate i true).map V.bl)) ∧ Same H H3) ⟨upd_same, Same.put (Same.refl H) hD⟩ (fun _ _ _ h => SqT.of (h.2 _ _ hy)) ?_ ?_⟩
    · rintro i x H3 H3' hi ⟨h1, h2⟩ ⟨rfl, hx⟩
      rw [List.getElem?_map] at hx
      obtain ⟨r, hz, rfl⟩ := Option.map_eq_some_iff.mp hx
      rw [List.length_map] at hi
      have hi' : i < tn.length := by omega
      have hr' : tn[i]? = some tn[i] := List.getElem?_eq_getElem hi'
      have hv := (hT.same h2).get hz (by rw [List.getElem?_map, hr'] <;> rfl)
      obtain ⟨m1, m2, m3⟩ := sub tn[i] (List.getElem_mem hi')
      refine ⟨rfl, _, rfl, _, rfl, _, rfl, r, t, sg, st, _, _, _, _, rfl, hv, h2 _ _ ht, m1, m3, m2, _, h1, ?_, ?_, Same.new' h2 hD⟩
      · rw [List.length_map, List.length_replicate, sizeLine_eq]
        omega
      · rw [upd_same, List.replicate_succ', List.map_append] <;> rfl
    · rintro H3 ⟨h1, h2⟩
      rw [List.length_map] at h1
      have hy3 := h2 _ _ hy
      have hT3 := hT.same h2
      refine ⟨_, rfl, _, rfl, y, D, _, _, rfl, SqT.of hy3, SqL.of h1, fun D2 hD2 => lc_it (walk_zipM (n := tn.length) (xs := as.map V.ref) (ys := (List.replicate as.length true).map V.bl) (by rw [List.length_map, List.length_map, List.length_replicate]; omega)) (fun i H4 => ∃ bs : List Addr, H4 D2 = some (.lst (bs.map V.ref)) ∧ Tups H4 bs (((tn.take i).map Row.k).map pV) ∧ (∀ c ∈ bs, c ≠ D2) ∧ Same H3 H4) ⟨[], upd_same, trivial, (fun _ q => nomatch q), Same.put (Same.refl H3) hD2⟩ (fun _ _ _ h => by obtain ⟨_, _, _, _, h⟩ := h; exact ⟨SqT.of (h _ _ hy3), SqL.of (h _ _ h1)⟩) ?_ ?_⟩
      · rintro i x H4 H5 hi ⟨bs, g1, g3, g4, g2⟩ ⟨T, a, b, rfl, nT, rfl, ea, eb⟩
        dsimp only at ea eb
        rw [List.getElem?_map] at ea
        obtain ⟨r, hz, rfl⟩ := Option.map_eq_some_iff.mp ea
        rw [List.getElem?_map, List.getElem?_replicate, if_pos (by omega)] at eb
        cases eb
        have hr' : tn[i]? = some tn[i] := List.getElem?_eq_getElem hi
        have s0 := Same.put (o := .tup [.ref r, .bl true]) (Same.refl H4) nT
        have sT := g2.trans s0
        have hv := (hT3.same sT).get hz (by rw [List.getElem?_map, hr'] <;> rfl)
        have lb : bs.length = i := by rw [g3.length, List.length_map, List.length_map, List.length_take]; omega
        refine ⟨T, _, rfl, SqT.of upd_same, rfl, _, _, rfl, _, _, rfl, rfl, ?_⟩
        refine ⟨rfl, _, rfl, true, rfl, _, rfl, _, rfl, r, _, rfl, SqT.of hv, fun q => absurd (show HT.sIx 4 4 (some 2) = 4 from q.2) (by decide), fun u hu => ?_⟩
        have s5 := Same.put (o := .tup (cutV (Row.v tn[i]) none (some 2))) s0 hu
        refine ⟨_, s5 _ _ g1, ?_, bs ++ [u], ?_, ?_, ?_, ?_⟩
        · rw [List.length_map, sizeLine_eq]
          omega
        · rw [upd_same, List.map_append] <;> rfl
        · have e1 : ((tn.take (i + 1)).map Row.k).map pV = ((tn.take i).map Row.k).map pV ++ [pV tn[i].k] := by
            rw [List.take_add_one, hr', List.map_append, List.map_append] <;> rfl
          rw [e1]
          have nu : u ≠ D2 := fun z => ne_of_none (s0 _ _ g1) hu z.symm
          have n2 : ∀ c ∈ bs ++ [u], c ≠ D2 := fun c hc => (List.mem_append.mp hc).elim (g4 c) fun q => by rw [List.mem_singleton.mp q]; exact nu
          exact Tups.upd n2 (Tups.snoc upd_same (g3.same s5))
        · intro c hc
          exact (List.mem_append.mp hc).elim (g4 c) fun q z => ne_of_none (s0 _ _ g1) hu (((List.mem_singleton.mp q).symm.trans z).symm)
        · exact Same.new' (g2.trans s5) hD2
      · rintro H4 ⟨bs, g1, g3, g4, g2⟩
        rw [List.take_length] at g3
        have ht4 := (h2.trans g2) _ _ ht
        refine ⟨_, rfl, D2, D, bs, tn.map Row.k, rfl, g1, g3, ?_, nd, ?_, fun H5 s5 => ?_⟩
        · rw [List.length_map, ← len]
          exact g2 _ _ h1
        · intro p hp
          obtain ⟨r, hr5, rfl⟩ := List.mem_map.mp hp
          exact oks r hr5
        refine ⟨_, rfl, rfl, _, rfl, ?_⟩
        show if (!decide (V.non = V.non)) = true then _ else _
        rw [decide_eq_true rfl]
        refine iteF ?_
        have s6 := (h2.trans g2).trans s5
        have fitS : (S sg).length ≤ sizeLine := by rw [S_len, sizeLine_eq]; omega
        refine ⟨_, rfl, y, _, rfl, .inr (SqT.of (s6 _ _ hy)), _, rfl, _, rfl, fitS, _, rfl, t, _, rfl, .inr (SqT.of (s6 _ _ ht)), _, _, rfl, rfl, .inl ?_, _, _, rfl, rfl, _, rfl, ifn ?_ (k H5 s6)⟩
        · rw [S_len]
          omega
        · rw [S_len, List.length_map, List.length_map, len, lenR]
          push_cast
          omega
end
end Wb
/-! the parts of a loop, put in order -/
namespace Wb
open PySem L2 WbMin WbS Lz
abbrev sOrRo : Stmt := top 36
abbrev sOrTu : Stmt := top 37
abbrev sOrYe : Stmt := top 38
section
variable {κ : Type} [DecidableEq κ]
theorem valV_zip_none : ∀ {ks : List κ} {vs : List V} {k : κ}, k ∉ ks → valV (ks.zip vs) k = none
  | [], _, _, _ => rfl
  | _ :: _, [], _, _ => rfl
  | a :: ks, v :: vs, k, h => by
    rw [List.zip_cons_cons, valV_neg (fun e => h (by rw [← e]; exact List.mem_cons_self))]
    exact valV_zip_none fun q => h (List.mem_cons_of_mem _ q)
theorem valV_zip_get : ∀ {ks : List κ} {vs : List V} {i : Nat} {k : κ} {v : V}, ks.Nodup → ks[i]? = some k → vs[i]? = some v → valV (ks.zip vs) k = some v
  | [], _, _, _, _, _, h, _ => nomatch h
  | _ :: _, [], _, _, _, _, _, h => nomatch h
  | a :: ks, v :: vs, 0, k, w, _, h, e => by
    cases h
    cases e
    rw [List.zip_cons_cons, valV_pos rfl]
  | a :: ks, v :: vs, i + 1, k, w, nd, h, e => by
    have n := List.nodup_cons.mp nd
    rw [List.zip_cons_cons, valV_neg (fun z => n.1 (by rw [show a = k from z]; exact List.mem_of_getElem? h))]
    exact valV_zip_get n.2 h e
theorem putK_zip {ks : List κ} {vs : List V} {k : κ} {v : V} (h : k ∉ ks) (l : ks.length = vs.length) : putK (ks.zip vs) k v = (ks ++ [k]).zip (vs ++ [v]) := by
  rw [putK_new v (valV_zip_none h), List.zip_append l] <;> rfl
end
theorem un2 {k : Nat} {A : Around} (r : Room k A) : A.units + 1 < cLine := by have := r.un; omega
/-- keys of a dict -/
def kk (p : Str × Str) : List Key := [.inr p.1, .inr p.2]
theorem kk_inj {p q : Str × Str} (h : kk p = kk q) : p = q := by
  cases p
  cases q
  injection h with h1 h2
  injection h2 with h2 _
  injection h1 with h1
  injection h2 with h2
  dsimp only at h1 h2
  subst h1
  subst h2
  rfl
theorem nodup_kk {ps : List (Str × Str)} (h : ps.Nodup) : (ps.map kk).Nodup := List.Pairwise.map _ (fun _ _ n e => n (kk_inj e)) h
theorem it_go {J : It} {n : Nat} {G : Hp → Prop} {Y : Nat → Hp → V → Hp → Prop} (w : Walk J n G Y) (Pv : Nat → Hp → Prop) {H0 : Hp} {Qd : Hp → Prop} {body : V → Hp → (Hp → Prop) → Prop} (h0 : Pv 0 H0) (hl : ∀ i H, i ≤ n → Pv i H → G H)
    (hs : ∀ i x H H', i < n → Pv i H → Y i H x H' → body x H' (Pv (i + 1))) (hd : ∀ H, Pv n H → Qd H) :
    ∃ W : Nat → Nat → Hp → Prop, (∃ m, W 0 m H0) ∧ ∀ i m H, W i m H → (J.stop i H ∧ Qd H) ∨ (J.go i H ∧ ∃ Nx : Hp → Prop, (∀ H', Nx H' → ∃ m', m' < m ∧ W (i + 1) m' H') ∧ ∀ x H', J.yld i H x H' → body x H' Nx) := by
  refine ⟨fun i m H => m = n - i ∧ i ≤ n ∧ Pv i H, ⟨n, by simp, Nat.zero_le _, h0⟩, ?_⟩
  rintro i m H ⟨rfl, hi, p⟩
  have q := hl i H hi p
  by_cases hlt : i < n
  · exact .inr ⟨w.goes i H hlt q, Pv (i + 1), fun H' p' => ⟨n - (i + 1), by omega, rfl, hlt, p'⟩, fun x H' y => hs i x H H' hlt p (w.yields i H x H' hlt q y)⟩
  · have e : i = n := by omega
    subst e
    exact .inl ⟨w.stops H q, hd H p⟩
theorem none_of_same {H H' : Hp} {l : Addr} (s : Same H H') (n : H' l = none) : H l = none := by
  cases e : H l with
  | none => rfl
  | some o =>
    rw [s _ _ e] at n
    cases n
theorem not_taken {α β : Type} [DecidableEq α] {f : α → β} (inj : ∀ {a b}, f a = f b → a = b) {l : List α} {i : Nat} {x : α} (nd : l.Nodup) (h : l[i]? = some x) : f x ∉ (l.take i).map f := fun m => by
  obtain ⟨q, hq, e⟩ := List.mem_map.mp m
  exact take_nd nd h (inj e ▸ hq)
theorem take_snoc_map {α β : Type} {f : α → β} {l : List α} {i : Nat} {x : α} (h : l[i]? = some x) : (l.take (i + 1)).map f = (l.take i).map f ++ [f x] := by
  rw [List.take_add_one, h, List.map_append] <;> rfl
/-- bs: the rows by state and sign -/
def RowsBy (st : List Str) (sg : List Nat) (ks : List (Str × Str)) (as bs : List Addr) : Prop := bs.length = st.length * sg.length ∧
  ∀ (i j : Nat) (z : Str) (c : Nat), st[i]? = some z → sg[j]? = some c → ∃ (m : Nat) (a : Addr), ks[m]? = some (z, S [c]) ∧ as[m]? = some a ∧ bs[i * sg.length + j]? = some a
def spOrRo : Sp := fun vs H Q _ => ∃ (y t : Addr) (sg : List Nat) (as bs : List Addr) (rw : List Row) (st : List Str), vs = [.ref y, .str (S sg), .ref t] ∧ H y = some (.tup (as.map V.ref)) ∧ Tups H as (rw.map Row.v) ∧ H t = some (.tup (st.map V.str)) ∧ (rw.map Row.k).Nodup ∧ rw.length ≤ 24 ∧
  RowsBy st sg (rw.map Row.k) as bs ∧ bs.length ≤ 24 ∧ ∀ r H', H r = none → Same H H' → H' r = some (.tup (bs.map V.ref)) → Q (.ref r) H'
section
variable {P : Program} {w : World} {K : PySem.W.Frag} {mg : Str → Option Value} {base : Heap} {f : Addr} {fd : FuncData}
abbrev NOR : List Str := ["rows", "signs", "states", "found", "row", "state", "sign"]
theorem scOR : FnScope NOR ["rows", "signs", "states"] (defScope sOrRo) := ⟨rfl, rfl, rfl, by decide +kernel, rfl, by decide +kernel, by decide +kernel⟩
set_option maxHeartbeats 0 in
theorem ok_orro (F : Fun K "ordered_rows" "ordered_rows" sOrRo f fd) (mT : mg "tuple" = none) : FnOk P w K mg base CX0 1 f fd ["rows", "signs", "states"] spOrRo := by
  refine F.ok scOR (fun vs H Q E h => ?_) (fun cdv A outer s H vs Q E hr h => ?_)
  · obtain ⟨y, t, sg, as, bs, rw, st, rfl, _⟩ := h
    rfl
  · obtain ⟨y, t, sg, as, bs, tn, st, rfl, hy, hT, ht, nd, small, R, bl, k⟩ := h
    have len : as.length = tn.length := by rw [hT.length, List.length_map]
    refine ⟨_, pss_cons (ps_set (i := 3) scOR.nd rfl (.inr rfl) (pe_dcT (own := [("row", 4)]) (g := gName 4) (tt := tYes) rfl (un2 hr) scOR.nd (pi_tup (pv 0)) (blkOk_by (N := NOR) (sc := defScope sOrRo) (by decide +kernel)) (fun _ _ _ _ _ => pg_name (i := 4) scOR.nd rfl (.inl rfl)) (fun _ _ _ _ _ => pts_nil)
        (fun _ _ _ _ _ => pe_slice (show SlR _ (rSlT K) from sl_tup) (pv 4) po_none (po_some pe_int)) (fun _ _ _ _ _ => pv 4)))
      (pss_one (ps_ret (pe_callTy call_tuple_of (by rfl) mT (by decide +kernel) (pa_cons
      (pe_lc2 (own := [("state", 5), ("sign", 6)]) (vs1 := [6]) (g := gName 5) (g1 := gName 6) (tt := tYes) (tt1 := tYes) rfl scOR.nd (pi_tup (pv 2)) (blkOk_by (N := NOR) (sc := defScope sOrRo) (by decide +kernel)) (by decide) (fun _ _ _ _ _ => pg_name (i := 5) scOR.nd rfl (.inl rfl)) (fun _ _ _ _ _ => pts_nil)
        (fun _ _ _ _ _ => pi_str (pv 1)) (fun _ _ _ _ _ => pg_name (i := 6) scOR.nd rfl (.inl rfl)) (fun _ _ _ _ _ => pts_nil) (fun _ _ _ _ _ => pe_dget (un2 hr) (pv 3) (pe_tup (pa_cons (pv 5) (pa_cons (pv 6) pa_nil))) (fun _ _ => rfl))) pa_nil)))), ?_⟩
    refine ⟨_, rfl, y, rfl, ⟨_, SqT.of hy⟩, fun D hD => dt_it (walk_tup (xs := as.map V.ref)) (fun i H3 => H3 D = some (.dT ((((tn.map Row.k).take i).map kk).zip ((as.take i).map V.ref))) ∧ Same H H3) ⟨upd_same, Same.put (Same.refl H) hD⟩ (fun _ _ _ h => SqT.of (h.2 _ _ hy)) ?_ ?_⟩
    · rintro i x H3 H3' hi ⟨h1, h2⟩ ⟨rfl, hx⟩
      rw [List.getElem?_map] at hx
      obtain ⟨r, hz, rfl⟩ := Option.map_eq_some_iff.mp hx
      rw [List.length_map] at hi
      have hi' : i < tn.length := by omega
      have hr' : tn[i]? = some tn[i] := List.getElem?_eq_getElem hi'
      have hk' : (tn.map Row.k)[i]? = some tn[i].k := by rw [List.getElem?_map, hr'] <;> rfl
      have hv := (hT.same h2).get hz (by rw [List.getElem?_map, hr'] <;> rfl)
      have lz : (((tn.map Row.k).take i).map kk).length = ((as.take i).map V.ref).length := by
        rw [List.length_map, List.length_map, List.length_take, List.length_take, List.length_map, len]
      refine ⟨rfl, _, rfl, _, rfl, r, _, rfl, SqT.of hv, fun q => absurd (show HT.sIx 4 4 (some 2) = 4 from q.2) (by decide), fun u hu => ?_⟩
      have s5 := Same.put (o := .tup (cutV (Row.v tn[i]) none (some 2))) (Same.refl H3') hu
      refine ⟨_, rfl, _, kk tn[i].k, u, rfl, upd_same, s5 _ _ h1, ?_, ?_, Same.new' (h2.trans s5) hD⟩
      · rw [List.length_zip, List.length_map, List.length_map, List.length_take, List.length_take, sizeLine_eq]
        omega
      · rw [upd_same, putK_zip (not_taken kk_inj nd hk') lz, take_snoc_map hk', take_snoc_map hz]
    · rintro H3 ⟨h1, h2⟩
      rw [List.length_map, List.take_length, List.take_of_length_le (by rw [List.length_map]; omega)] at h1
      have ht3 := h2 _ _ ht
      obtain ⟨lb, R⟩ := R
      refine ⟨_, rfl, t, rfl, ⟨_, SqT.of ht3⟩, fun D2 hD2 => it_go (walk_tup (xs := st.map V.str)) (fun i H4 => H4 D2 = some (.lst ((bs.take (i * sg.length)).map V.ref)) ∧ Same H3 H4) ⟨by rw [Nat.zero_mul]; exact upd_same, Same.put (Same.refl H3) hD2⟩ (fun _ _ _ h => SqT.of (h.2 _ _ ht3)) ?_ ?_⟩
      · rintro i x H4 H4' hi ⟨g1, g2⟩ ⟨rfl, hx⟩
        rw [List.getElem?_map] at hx
        obtain ⟨z, hz, rfl⟩ := Option.map_eq_some_iff.mp hx
        refine ⟨rfl, _, rfl, _, rfl, it_go walk_str (fun j H5 => H5 D2 = some (.lst ((bs.take (i * sg.length + j)).map V.ref)) ∧ Same H3 H5) ⟨g1, g2⟩ (fun _ _ _ _ => trivial) ?_ ?_⟩
        · rintro j x H5 H5' hj ⟨e1, e2⟩ ⟨rfl, c, hc, rfl⟩
          have hc' : sg[j]? = some c := by simpa [S] using hc
          obtain ⟨m, a, m1, m2, m3⟩ := R i j z c hz hc'
          have val : valV (((tn.map Row.k).map kk).zip (as.map V.ref)) (kk (z, S [c])) = some (.ref a) := valV_zip_get (nodup_kk nd) (by rw [List.getElem?_map, m1] <;> rfl) (by rw [List.getElem?_map, m2] <;> rfl)
          refine ⟨rfl, _, rfl, _, rfl, _, rfl, (by rw [sizeLine_eq]; show 2 ≤ _; decide), fun u hu => ?_⟩
          have s6 := Same.put (o := .tup [.str z, .str (S [c])]) (Same.refl H5') hu
          refine ⟨D, .ref a, rfl, val ▸ DGet.t (k := kk (z, S [c])) ((e2.trans s6) _ _ h1) upd_same, ?_⟩
          refine ⟨_, s6 _ _ e1, ?_, ?_, Same.new' (e2.trans s6) hD2⟩
          · rw [List.length_map, sizeLine_eq]
            have := List.length_take_le' (i * sg.length + j) bs
            omega
          · rw [upd_same, ← Nat.add_assoc, take_snoc_map m3]
        · rintro H5 ⟨e1, e2⟩
          rw [S_size] at e1
          refine ⟨?_, e2⟩
          rw [e1, Nat.add_mul, Nat.one_mul]
      · rintro H4 ⟨g1, g2⟩
        rw [List.length_map, List.take_of_length_le (by rw [lb]; exact Nat.le_refl _)] at g1
        exact ⟨D2, _, rfl, .inl ⟨SqL.of g1, fun l hl => k l _ (none_of_same (h2.trans g2) hl) (Same.put (h2.trans g2) hl) upd_same⟩⟩
end
end Wb
/-! turns and yes states, put in order -/
namespace Wb
open PySem L2 WbMin WbS Lz
theorem dc_it {J : It} {n : Nat} {G : Hp → Prop} {Y : Nat → Hp → V → Hp → Prop} (w : Walk J n G Y) {g : TG} {tt : TT} {tk tv : TE} {vs : List Nat} {σ : L2.St} {H1 : Hp} {D : Addr} {Qd : Hp → Prop} (Pv : Nat → Hp → Prop) (h0 : Pv 0 (L2.upd H1 D (.dK []))) (hG : ∀ i H, i ≤ n → Pv i H → G H)
    (hs : ∀ i x H H', i < n → Pv i H → Y i H x H' → g x (wipe σ vs) H' fun σ2 H2 => wipe σ2 vs = wipe σ vs ∧ tt σ2 H2 fun b H3 =>
      if b = true then tk σ2 H3 fun y H4 => tv σ2 H4 fun z H5 => ∃ kvs k, y = kV k ∧ H5 D = some (.dK kvs) ∧ kvs.length < sizeLine ∧ Pv (i + 1) (L2.upd H5 D (.dK (putK kvs k z))) else Pv (i + 1) H3) (hd : ∀ H, Pv n H → Qd H) :
    ∃ W : Nat → Nat → Hp → Prop, (∃ m, W 0 m (L2.upd H1 D (.dK []))) ∧ ∀ i m H, W i m H →
      (J.stop i H ∧ Qd H) ∨ (J.go i H ∧ ∃ Nx : Hp → Prop, (∀ H', Nx H' → ∃ m', m' < m ∧ W (i + 1) m' H') ∧ ∀ x H', J.yld i H x H' → g x (wipe σ vs) H' fun σ2 H2 => wipe σ2 vs = wipe σ vs ∧ tt σ2 H2 fun b H3 =>
        if b = true then tk σ2 H3 fun y H4 => tv σ2 H4 fun z H5 => ∃ kvs k, y = kV k ∧ H5 D = some (.dK kvs) ∧ kvs.length < sizeLine ∧ Nx (L2.upd H5 D (.dK (putK kvs k z))) else Nx H3) := by
  refine ⟨fun i m H => m = n - i ∧ i ≤ n ∧ Pv i H, ⟨n, by simp, Nat.zero_le _, h0⟩, ?_⟩
  rintro i m H ⟨rfl, hi, p⟩
  by_cases lt : i < n
  · exact .inr ⟨w.goes i H lt (hG i H hi p), Pv (i + 1), fun H' p' => ⟨n - (i + 1), by omega, rfl, lt, p'⟩, fun x H' y => hs i x H H' lt p (w.yields i H x H' lt (hG i H hi p) y)⟩
  · have e : i = n := by omega
    subst e
    exact .inl ⟨w.stops H (hG _ H hi p), hd H p⟩
/-- the key that a text is -/
def k1 (z : Str) : Key := .inr z
theorem k1_inj {p q : Str} (h : k1 p = k1 q) : p = q := by
  injection h
theorem nodup_k1 {ps : List Str} (h : ps.Nodup) : (ps.map k1).Nodup := List.Pairwise.map _ (fun _ _ n e => n (k1_inj e)) h
/-- the turn of a state -/
def turnOf (tn : List Trn) (z : Str) : Trn := (tn.find? fun r => decide (r.a = z)).getD ⟨z, z, 0⟩
theorem turnOf_at {tn : List Trn} (nd : (tn.map Trn.a).Nodup) {i : Nat} {r : Trn} (h : tn[i]? = some r) : turnOf tn r.a = r := by
  unfold turnOf
  induction tn generalizing i with
  | nil => cases h
  | cons q tn ih =>
    have n := List.nodup_cons.mp (show (q.a :: tn.map Trn.a).Nodup from nd)
    cases i with
    | zero =>
      cases h
      rw [List.find?_cons_of_pos (by simp)] <;> rfl
    | succ i =>
      rw [List.find?_cons_of_neg]
      · exact ih n.2 h
      · intro e
        exact n.1 (by rw [of_decide_eq_true e]; exact List.mem_map_of_mem (List.mem_of_getElem? h))
def spOrTu : Sp := fun vs H Q _ => ∃ (y t : Addr) (as : List Addr) (tn : List Trn) (st : List Str), vs = [.ref y, .ref t] ∧ H y = some (.tup (as.map V.ref)) ∧ Tups H as (tn.map Trn.v) ∧ H t = some (.tup (st.map V.str)) ∧ (tn.map Trn.a).Nodup ∧ tn.length ≤ 6 ∧ st.length ≤ 6 ∧
  ∀ r bs H', H r = none → Same H H' → H' r = some (.tup (bs.map V.ref)) → Tups H' bs ((st.map (turnOf tn)).map Trn.v) → Q (.ref r) H'
def spOrYe : Sp := fun vs H Q _ => ∃ (y t : Addr) (ye st : List Str), vs = [.ref y, .ref t] ∧ H y = some (.tup (ye.map V.str)) ∧ H t = some (.tup (st.map V.str)) ∧ st.length ≤ 6 ∧
  ∀ r H', H r = none → Same H H' → H' r = some (.tup ((st.filter fun z => decide (z ∈ ye)).map V.str)) → Q (.ref r) H'
section
variable {P : Program} {w : World} {K : PySem.W.Frag} {mg : Str → Option Value} {base : Heap} {f : Addr} {fd : FuncData}
abbrev NOY : List Str := ["yes", "states", "state"]
theorem scOY : FnScope NOY ["yes", "states"] (defScope sOrYe) := ⟨rfl, rfl, rfl, by decide +kernel, rfl, by decide +kernel, by decide +kernel⟩
theorem ok_orye (F : Fun K "ordered_yes" "ordered_yes" sOrYe f fd) (mT : mg "tuple" = none) : FnOk P w K mg base CX0 1 f fd ["yes", "states"] spOrYe := by
  refine F.ok scOY (fun vs H Q E h => ?_) (fun cdv A outer s H vs Q E hr h => ?_)
  · obtain ⟨y, t, ye, st, rfl, _⟩ := h
    rfl
  · obtain ⟨y, t, ye, st, rfl, hy, ht, few, k⟩ := h
    refine ⟨_, pss_one (ps_ret (pe_callTy call_tuple_of (by rfl) mT (by decide +kernel) (pa_cons
      (pe_lc (own := [("state", 2)]) (g := gName 2) rfl scOY.nd (pi_tup (pv 1)) (blkOk_by (N := NOY) (sc := defScope sOrYe) (by decide +kernel)) (fun _ _ _ _ _ => pg_name (i := 2) scOY.nd rfl (.inl rfl)) (fun _ _ _ _ _ => pts_one (pt_cmpR (show OpR _ _ (rIn K false) from op_in_seq) (pv 2) (pv 0) (by rfl)))
        (fun _ _ _ _ _ => pv 2)) pa_nil))), ?_⟩
    refine ⟨_, rfl, t, rfl, ⟨_, SqT.of ht⟩, fun D hD => lc_it (walk_tup (xs := st.map V.str)) (fun i H3 => H3 D = some (.lst (((st.take i).filter fun z => decide (z ∈ ye)).map V.str)) ∧ Same H H3) ⟨upd_same, Same.put (Same.refl H) hD⟩ (fun _ _ _ h => SqT.of (h.2 _ _ ht)) ?_ ?_⟩
    · rintro i x H3 H3' hi ⟨h1, h2⟩ ⟨rfl, hx⟩
      rw [List.getElem?_map] at hx
      obtain ⟨z, hz, rfl⟩ := Option.map_eq_some_iff.mp hx
      refine ⟨rfl, _, rfl, _, rfl, y, _, rfl, .inr (SqT.of (h2 _ _ hy)), rfl, flat_strs _, _, rfl, ?_⟩
      rw [show inV (.str z) (ye.map V.str) = decide (z ∈ ye) from inV_strs z ye]
      refine ite2 (fun q => ?_) (fun q => ?_)
      · refine ⟨_, rfl, _, h1, ?_, ?_, Same.new' h2 hD⟩
        · rw [List.length_map, sizeLine_eq]
          have := List.length_filter_le (fun z => decide (z ∈ ye)) (st.take i)
          have := List.length_take_le' i st
          omega
        · rw [upd_same, List.take_add_one, hz, List.filter_append, List.map_append]
          rw [show ((some z).toList.filter fun z => decide (z ∈ ye)) = [z] from List.filter_cons_of_pos q] <;> rfl
      · refine ⟨?_, h2⟩
        rw [h1, List.take_add_one, hz, List.filter_append, show ((some z).toList.filter fun z => decide (z ∈ ye)) = [] from List.filter_cons_of_neg q, List.append_nil]
    · rintro H3 ⟨h1, h2⟩
      rw [List.length_map, List.take_length] at h1
      exact ⟨D, _, rfl, .inl ⟨SqL.of h1, fun l hl => k l _ (none_of_same h2 hl) (Same.put h2 hl) upd_same⟩⟩
abbrev NOT : List Str := ["turns", "states", "found", "turn", "state"]
theorem scOT : FnScope NOT ["turns", "states"] (defScope sOrTu) := ⟨rfl, rfl, rfl, by decide +kernel, rfl, by decide +kernel, by decide +kernel⟩
theorem ok_ortu (F : Fun K "ordered_turns" "ordered_turns" sOrTu f fd) (mT : mg "tuple" = none) : FnOk P w K mg base CX0 1 f fd ["turns", "states"] spOrTu := by
  refine F.ok scOT (fun vs H Q E h => ?_) (fun cdv A outer s H vs Q E hr h => ?_)
  · obtain ⟨y, t, as, tn, st, rfl, _⟩ := h
    rfl
  · obtain ⟨y, t, as, tn, st, rfl, hy, hT, ht, nd, few, fst, k⟩ := h
    have len : as.length = tn.length := by rw [hT.length, List.length_map]
    refine ⟨_, pss_cons (ps_set (i := 2) scOT.nd rfl (.inr rfl) (pe_dc (own := [("turn", 3)]) (g := gName 3) (tt := tYes) rfl scOT.nd (pi_tup (pv 0)) (blkOk_by (N := NOT) (sc := defScope sOrTu) (by decide +kernel)) (fun _ _ _ _ _ => pg_name (i := 3) scOT.nd rfl (.inl rfl)) (fun _ _ _ _ _ => pts_nil)
        (fun _ _ _ _ _ => pe_ix (show IxR _ (rIxT K) from ix_tup) (pv 3) pe_int (fun _ _ => rfl)) (fun _ _ _ _ _ => pv 3)))
      (pss_one (ps_ret (pe_callTy call_tuple_of (by rfl) mT (by decide +kernel) (pa_cons
      (pe_lc (own := [("state", 4)]) (g := gName 4) (tt := tYes) rfl scOT.nd (pi_tup (pv 1)) (blkOk_by (N := NOT) (sc := defScope sOrTu) (by decide +kernel)) (fun _ _ _ _ _ => pg_name (i := 4) scOT.nd rfl (.inl rfl)) (fun _ _ _ _ _ => pts_nil)
        (fun _ _ _ _ _ => pe_dget2 (un2 hr) (pv 2) (pv 4) (pe_tup (pa_cons (pv 4) (pa_cons (pv 4) (pa_cons pe_int pa_nil)))) ⟨rfl, rfl, rfl, rfl⟩)) pa_nil)))), ?_⟩
    refine ⟨_, rfl, y, rfl, ⟨_, SqT.of hy⟩, fun D hD => dc_it (walk_tup (xs := as.map V.ref)) (fun i H3 => H3 D = some (.dK ((((tn.map Trn.a).take i).map k1).zip ((as.take i).map V.ref))) ∧ Same H H3) ⟨upd_same, Same.put (Same.refl H) hD⟩ (fun _ _ _ h => SqT.of (h.2 _ _ hy)) ?_ ?_⟩
    · rintro i x H3 H3' hi ⟨h1, h2⟩ ⟨rfl, hx⟩
      rw [List.getElem?_map] at hx
      obtain ⟨r, hz, rfl⟩ := Option.map_eq_some_iff.mp hx
      rw [List.length_map] at hi
      have hi' : i < tn.length := by omega
      have hr' : tn[i]? = some tn[i] := List.getElem?_eq_getElem hi'
      have hk' : (tn.map Trn.a)[i]? = some tn[i].a := by rw [List.getElem?_map, hr'] <;> rfl
      have hv := (hT.same h2).get hz (by rw [List.getElem?_map, hr'] <;> rfl)
      have lz : (((tn.map Trn.a).take i).map k1).length = ((as.take i).map V.ref).length := by
        rw [List.length_map, List.length_map, List.length_take, List.length_take, List.length_map, len]
      refine ⟨rfl, _, rfl, _, _, _, _, rfl, rfl, SqT.of hv, atI_nat (j := 0) rfl, _, rfl, _, k1 tn[i].a, rfl, h1, ?_, ?_, Same.new' h2 hD⟩
      · rw [List.length_zip, List.length_map, List.length_map, List.length_take, List.length_take, sizeLine_eq]
        omega
      · rw [upd_same, putK_zip (not_taken k1_inj nd hk') lz, take_snoc_map hk', take_snoc_map hz]
    · rintro H3 ⟨h1, h2⟩
      rw [List.length_map, List.take_length, List.take_of_length_le (by rw [List.length_map]; omega)] at h1
      have ht3 := h2 _ _ ht
      refine ⟨_, rfl, t, rfl, ⟨_, SqT.of ht3⟩, fun D2 hD2 => lc_it (walk_tup (xs := st.map V.str)) (fun i H4 => ∃ bs : List Addr, H4 D2 = some (.lst (bs.map V.ref)) ∧ Tups H4 bs (((st.take i).map (turnOf tn)).map Trn.v) ∧ (∀ c ∈ bs, c ≠ D2) ∧ Same H3 H4) ⟨[], upd_same, trivial, (fun _ q => nomatch q), Same.put (Same.refl H3) hD2⟩ (fun _ _ _ h => by obtain ⟨_, _, _, _, h⟩ := h; exact SqT.of (h _ _ ht3)) ?_ ?_⟩
      · rintro i x H4 H4' hi ⟨bs, g1, g3, g4, g2⟩ ⟨rfl, hx⟩
        rw [List.getElem?_map] at hx
        obtain ⟨z, hz, rfl⟩ := Option.map_eq_some_iff.mp hx
        rw [List.length_map] at hi
        have lb : bs.length = i := by rw [g3.length, List.length_map, List.length_map, List.length_take]; omega
        refine ⟨rfl, _, rfl, D, rfl, .inl ⟨_, .inl (g2 _ _ h1)⟩, _, rfl, _, rfl, _, rfl, ?_⟩
        refine ⟨(by rw [sizeLine_eq]; show 3 ≤ _; decide), fun u hu => ?_⟩
        have s6 := Same.put (o := .tup [.str z, .str z, .int 0]) (Same.refl H4') hu
        have fin : ∀ (c : Addr) (r : Trn), L2.upd H4' u (.tup [.str z, .str z, .int 0]) c = some (.tup r.v) → turnOf tn z = r → ∃ acc, L2.upd H4' u (.tup [.str z, .str z, .int 0]) D2 = some (.lst acc) ∧ acc.length < sizeLine ∧ ∃ bs, L2.upd (L2.upd H4' u (.tup [.str z, .str z, .int 0])) D2 (.lst (acc ++ [.ref c])) D2 = some (.lst (bs.map V.ref)) ∧
            Tups (L2.upd (L2.upd H4' u (.tup [.str z, .str z, .int 0])) D2 (.lst (acc ++ [.ref c]))) bs (((st.take (i + 1)).map (turnOf tn)).map Trn.v) ∧ (∀ c ∈ bs, c ≠ D2) ∧ Same H3 (L2.upd (L2.upd H4' u (.tup [.str z, .str z, .int 0])) D2 (.lst (acc ++ [.ref c]))) := by
          intro c r hc e
          have nc : c ≠ D2 := fun q => by
            rw [q, s6 _ _ g1] at hc
            cases hc
          have n2 : ∀ a ∈ bs ++ [c], a ≠ D2 := fun a ha => (List.mem_append.mp ha).elim (g4 a) fun q => by rw [List.mem_singleton.mp q]; exact nc
          refine ⟨_, s6 _ _ g1, ?_, bs ++ [c], ?_, ?_, n2, Same.new' (g2.trans s6) hD2⟩
          · rw [List.length_map, sizeLine_eq]
            omega
          · rw [upd_same, List.map_append] <;> rfl
          · have e1 : ((st.take (i + 1)).map (turnOf tn)).map Trn.v = ((st.take i).map (turnOf tn)).map Trn.v ++ [r.v] := by
              rw [List.take_add_one, hz, List.map_append, List.map_append, ← e] <;> rfl
            rw [e1]
            exact Tups.upd n2 (Tups.snoc hc (g3.same s6))
        by_cases m : z ∈ tn.map Trn.a
        · obtain ⟨r, hr5, rfl⟩ := List.mem_map.mp m
          obtain ⟨j, hj, ej⟩ := List.getElem_of_mem hr5
          have ej' : tn[j]? = some r := by rw [List.getElem?_eq_getElem hj, ej]
          have ea : as[j]? = some as[j] := List.getElem?_eq_getElem (by omega)
          have val : valV (((tn.map Trn.a).map k1).zip (as.map V.ref)) (k1 r.a) = some (.ref as[j]) := valV_zip_get (i := j) (nodup_k1 nd) (by rw [List.getElem?_map, List.getElem?_map, ej'] <;> rfl) (by rw [List.getElem?_map, ea] <;> rfl)
          have hv := ((hT.same (h2.trans g2)).same s6).get ea (by rw [List.getElem?_map, ej'] <;> rfl)
          exact ⟨some (.ref as[j]), val ▸ DGet.k (k := k1 r.a) ((g2.trans s6) _ _ h1), fin _ r hv (turnOf_at nd ej')⟩
        · have val : valV (((tn.map Trn.a).map k1).zip (as.map V.ref)) (k1 z) = none := valV_zip_none fun q => by
            obtain ⟨y', hy', e⟩ := List.mem_map.mp q
            exact m (k1_inj e ▸ hy')
          have no : turnOf tn z = ⟨z, z, 0⟩ := by
            unfold turnOf
            rw [List.find?_eq_none.mpr fun r hr5 e => m (by rw [← of_decide_eq_true e]; exact List.mem_map_of_mem hr5)] <;> rfl
          exact ⟨none, val ▸ DGet.k (k := k1 z) ((g2.trans s6) _ _ h1), fin u ⟨z, z, 0⟩ upd_same no⟩
      · rintro H4 ⟨bs, g1, g3, g4, g2⟩
        rw [List.length_map, List.take_length] at g3
        refine ⟨D2, _, rfl, .inl ⟨SqL.of g1, fun l hl => k l bs _ (none_of_same (h2.trans g2) hl) (Same.put (h2.trans g2) hl) upd_same (g3.same (Same.put (Same.refl H4) hl))⟩⟩
end
end Wb
/-! a loop in numbers -/
namespace Wb
open PySem L2 WbMin WbS Lz
abbrev sTaInit : Stmt := inClass (top 47) 0
abbrev sTaGone : Stmt := inClass (top 47) 1
/-- a loop: signs, names of states, next states, amounts, turns, their amounts, yes states -/
structure LD where
  sg : List Nat
  st : List Str
  nx : Nat → Nat → Nat
  am : Nat → Nat → Int
  tn : Nat → Nat
  ta : Nat → Int
  ys : Nat → Bool
def LD.n (L : LD) : Nat := L.st.length
def LD.nm (L : LD) (i : Nat) : Str := L.st.getD i (S [])
structure LD.Ok (L : LD) : Prop where
  sgs : Sgs L.sg
  sts : Sts L.st
  nxlt : ∀ i c, i < L.n → c ∈ L.sg → L.nx i c < L.n
  tnlt : ∀ i, i < L.n → L.tn i < L.n
def LD.row (L : LD) (i c : Nat) : Row := ⟨L.nm i, c, L.nm (L.nx i c), L.am i c⟩
def LD.rows (L : LD) : List Row := (List.range L.n).flatMap fun i => L.sg.map (L.row i)
def LD.turn (L : LD) (i : Nat) : Trn := ⟨L.nm i, L.nm (L.tn i), L.ta i⟩
def LD.turns (L : LD) : List Trn := (List.range L.n).map L.turn
def LD.yes (L : LD) : List Str := ((List.range L.n).filter L.ys).map L.nm
/-- what a row of a loop reads -/
def RowAt (H : Hp) (q : Addr) (L : LD) : Prop := ∃ (t r u y : Addr) (as bs : List Addr), H q = some (.tup [.str (S L.sg), .ref t, .ref r, .ref u, .ref y]) ∧ H t = some (.tup (L.st.map V.str)) ∧ H r = some (.tup (as.map V.ref)) ∧ Tups H as (L.rows.map Row.v) ∧ H u = some (.tup (bs.map V.ref)) ∧ Tups H bs (L.turns.map Trn.v) ∧ H y = some (.tup (L.yes.map V.str))
def tf (dN dX dA tX tA tY : Addr) : List (Str × V) := putF "says" (.ref tY) (putF "turn_amounts" (.ref tA) (putF "turn_nexts" (.ref tX) (putF "amounts" (.ref dA) (putF "nexts" (.ref dX) (putF "number" (.ref dN) [])))))
def kS (c : Nat) : Key := .inr (S [c])
/-- the table stands -/
def TableAt (C : Addr) (H : Hp) (r : Addr) (L : LD) : Prop := ∃ (dx dN dX dA tX tA tY : Addr) (xs as : List Addr), H r = some (.ins C dx (tf dN dX dA tX tA tY)) ∧
  H dX = some (.dK ((L.sg.map kS).zip (xs.map V.ref))) ∧ Tups H xs (L.sg.map fun c => (List.range L.n).map fun i => V.int (L.nx i c : Nat)) ∧
  H dA = some (.dK ((L.sg.map kS).zip (as.map V.ref))) ∧ Tups H as (L.sg.map fun c => (List.range L.n).map fun i => V.int (L.am i c)) ∧
  H tX = some (.tup ((List.range L.n).map fun i => V.int (L.tn i : Nat))) ∧ H tA = some (.tup ((List.range L.n).map fun i => V.int (L.ta i))) ∧ H tY = some (.tup ((List.range L.n).map fun i => V.bl (L.ys i)))
def spTaInit (C : Addr) : Sp := fun vs H Q _ => ∃ (H0 : Hp) (r dx q : Addr) (L : LD), vs = [.ref r, .ref q] ∧ L.Ok ∧ RowAt H q L ∧ Same H0 H ∧ H0 r = none ∧ H r = some (.ins C dx []) ∧ ∀ H' : Hp, Same H0 H' → TableAt C H' r L → Q .non H'
/-- what the top has written of the class -/
structure TTxt (K : PySem.W.Frag) (mg : Str → Option Value) (C : Addr) : Prop where
  cl : Cls K C
  n1 : NoAttr K C "number"
  n2 : NoAttr K C "nexts"
  n3 : NoAttr K C "amounts"
  n4 : NoAttr K C "turn_nexts"
  n5 : NoAttr K C "turn_amounts"
  n6 : NoAttr K C "says"
/-! ### the mathematics of rows -/
theorem filt_one {c : Nat} : ∀ {sg : List Nat}, sg.Nodup → c ∈ sg → (sg.filter fun x => decide (x = c)) = [c]
  | [], _, h => nomatch h
  | a :: sg, nd, h => by
    have n := List.nodup_cons.mp nd
    by_cases q : a = c
    · subst q
      have e : (sg.filter fun x => decide (x = a)) = [] := List.filter_eq_nil_iff.mpr fun x hx e => n.1 ((of_decide_eq_true e) ▸ hx)
      rw [List.filter_cons_of_pos (by simp), e]
    · rw [List.filter_cons_of_neg (by simp [q])]
      exact filt_one n.2 ((List.mem_cons.mp h).resolve_left fun e => q e.symm)
theorem filt_rows {c i : Nat} (L : LD) (nd : L.sg.Nodup) (h : c ∈ L.sg) : ((L.sg.map (L.row i)).filter fun r => decide (r.c = c)) = [L.row i c] := by
  rw [List.filter_map, show ((fun r : Row => decide (r.c = c)) ∘ L.row i) = fun x => decide (x = c) from rfl, filt_one nd h] <;> rfl
theorem flat_one {α β : Type} (g : α → β) : ∀ l : List α, (l.flatMap fun i => [g i]) = l.map g
  | [] => rfl
  | x :: l => by rw [List.flatMap_cons, flat_one g l] <;> rfl
theorem rows_filter {L : LD} (nd : L.sg.Nodup) {c : Nat} (h : c ∈ L.sg) : (L.rows.filter fun r => decide (r.c = c)) = (List.range L.n).map fun i => L.row i c := by
  unfold LD.rows
  rw [List.filter_flatMap, ← flat_one]
  congr 1
  funext i
  exact filt_rows L nd h
theorem rows_mem {L : LD} {r : Row} (h : r ∈ L.rows) : ∃ i c, i < L.n ∧ c ∈ L.sg ∧ r = L.row i c := by
  obtain ⟨i, hi, h⟩ := List.mem_flatMap.mp h
  obtain ⟨c, hc, rfl⟩ := List.mem_map.mp h
  exact ⟨i, c, List.mem_range.mp hi, hc, rfl⟩
theorem rows_length (L : LD) : L.rows.length = L.n * L.sg.length := by
  unfold LD.rows
  rw [List.length_flatMap, show ((List.range L.n).map fun a => (L.sg.map (L.row a)).length) = List.replicate L.n L.sg.length from by
    rw [List.map_eq_replicate_iff.mpr (fun _ _ => List.length_map ..), List.length_range], List.sum_replicate_nat]
def nums (L : LD) : List (Key × V) := (L.st.map k1).zip ((List.range L.n).map fun i => V.int (i : Nat))
theorem nm_at {L : LD} {j : Nat} (h : j < L.n) : L.st[j]? = some (L.nm j) := by
  unfold LD.nm
  rw [List.getD_eq_getElem?_getD, List.getElem?_eq_getElem h] <;> rfl
theorem num_at {L : LD} (O : L.Ok) {j : Nat} (h : j < L.n) : valV (nums L) (k1 (L.nm j)) = some (.int (j : Nat)) :=
  valV_zip_get (i := j) (nodup_k1 O.sts.nd) (by rw [List.getElem?_map, nm_at h] <;> rfl) (by rw [List.getElem?_map, List.getElem?_range h] <;> rfl)
theorem kS_inj {p q : Nat} (h : kS p = kS q) : p = q := by
  injection h with h
  have := S_inj h
  injection this
def nmV (L : LD) (r : Row) : V := (valV (nums L) (k1 r.b)).getD .non
theorem nmV_row {L : LD} (O : L.Ok) {i c : Nat} (hi : i < L.n) (hc : c ∈ L.sg) : nmV L (L.row i c) = .int (L.nx i c : Nat) := by
  unfold nmV
  rw [show (L.row i c).b = L.nm (L.nx i c) from rfl, num_at O (O.nxlt i c hi hc)] <;> rfl
def byC (L : LD) (c k : Nat) : List Row := (L.rows.take k).filter fun r => decide (r.c = c)
theorem byC_yes {L : LD} {c k : Nat} {r : Row} (h : L.rows[k]? = some r) (e : r.c = c) : byC L c (k + 1) = byC L c k ++ [r] := by
  unfold byC
  rw [List.take_add_one, h, List.filter_append, show ((some r).toList.filter fun r => decide (r.c = c)) = [r] from List.filter_cons_of_pos (decide_eq_true e)]
theorem byC_no {L : LD} {c k : Nat} {r : Row} (h : L.rows[k]? = some r) (e : r.c ≠ c) : byC L c (k + 1) = byC L c k := by
  unfold byC
  rw [List.take_add_one, h, List.filter_append, show ((some r).toList.filter fun r => decide (r.c = c)) = [] from List.filter_cons_of_neg (fun q => e (of_decide_eq_true q)), List.append_nil]
theorem byC_few {L : LD} {c k : Nat} : (byC L c k).length ≤ L.rows.length := Nat.le_trans (List.length_filter_le _ _) (List.length_take_le' k _)
theorem byC_all {L : LD} (nd : L.sg.Nodup) {c : Nat} (h : c ∈ L.sg) : byC L c L.rows.length = (List.range L.n).map fun i => L.row i c := by
  unfold byC
  rw [List.take_length, rows_filter nd h]
theorem rows_few {L : LD} (O : L.Ok) : L.rows.length ≤ 24 := by
  rw [rows_length]
  exact Nat.mul_le_mul O.sts.few O.sgs.few
theorem sign_eq {a c : Nat} : decide (V.str (S [a]) = V.str (S [c])) = decide (a = c) := by
  rw [decide_eq_decide]
  constructor
  · intro e
    injection e with e
    have := S_inj e
    injection this
  · rintro rfl
    rfl
theorem turns_length (L : LD) : L.turns.length = L.n := by
  unfold LD.turns
  rw [List.length_map, List.length_range]
theorem turns_at {L : LD} {k : Nat} (h : k < L.n) : L.turns[k]? = some (L.turn k) := by
  unfold LD.turns
  rw [List.getElem?_map, List.getElem?_range h] <;> rfl
theorem bs_len {L : LD} {H : Hp} {bs : List Addr} (h : Tups H bs (L.turns.map Trn.v)) : bs.length = L.n := by
  rw [h.length, List.length_map, turns_length]
theorem nm_inj {L : LD} (O : L.Ok) {i j : Nat} (hi : i < L.n) (hj : j < L.n) (h : L.nm i = L.nm j) : i = j := by
  have a := nm_at hi
  have b := nm_at hj
  rw [h] at a
  exact (List.getElem?_inj hi O.sts.nd).mp (a.trans b.symm)
theorem yes_at {L : LD} (O : L.Ok) {k : Nat} (h : k < L.n) : decide (L.nm k ∈ L.yes) = L.ys k := by
  rw [Bool.eq_iff_iff, decide_eq_true_iff]
  unfold LD.yes
  constructor
  · intro m
    obtain ⟨j, hj, e⟩ := List.mem_map.mp m
    obtain ⟨j1, j2⟩ := List.mem_filter.mp hj
    rw [← nm_inj O (List.mem_range.mp j1) h e]
    exact j2
  · intro m
    exact List.mem_map.mpr ⟨k, List.mem_filter.mpr ⟨List.mem_range.mpr h, m⟩, rfl⟩
/-- the parts of a row stand -/
structure Prt (L : LD) (t rr u y : Addr) (as bs : List Addr) (H : Hp) : Prop where
  ht : H t = some (.tup (L.st.map V.str))
  hr : H rr = some (.tup (as.map V.ref))
  hT : Tups H as (L.rows.map Row.v)
  hu : H u = some (.tup (bs.map V.ref))
  hU : Tups H bs (L.turns.map Trn.v)
  hy : H y = some (.tup (L.yes.map V.str))
theorem Tups.but {H H' : Hp} {p : Addr} {o : HO} (no : ∀ x, o ≠ .tup x) (hp : H p = some o) (s : But p H H') : ∀ {as : List Addr} {xs : List (List V)}, Tups H as xs → Tups H' as xs
  | [], [], _ => trivial
  | a :: _, x :: _, h => ⟨s _ _ (ne_of h.1 hp fun e => no x e.symm) h.1, Tups.but no hp s h.2⟩
  | [], _ :: _, h => h.elim
  | _ :: _, [], h => h.elim
theorem Prt.but {L : LD} {t rr u y : Addr} {as bs : List Addr} {H H' : Hp} {p : Addr} {o : HO} (no : ∀ x, o ≠ .tup x) (hp : H p = some o) (s : But p H H') (h : Prt L t rr u y as bs H) : Prt L t rr u y as bs H' :=
  ⟨s _ _ (ne_of h.ht hp fun e => no _ e.symm) h.ht, s _ _ (ne_of h.hr hp fun e => no _ e.symm) h.hr, h.hT.but no hp s, s _ _ (ne_of h.hu hp fun e => no _ e.symm) h.hu, h.hU.but no hp s, s _ _ (ne_of h.hy hp fun e => no _ e.symm) h.hy⟩
theorem Prt.same {L : LD} {t rr u y : Addr} {as bs : List Addr} {H H' : Hp} (s : Same H H') (h : Prt L t rr u y as bs H) : Prt L t rr u y as bs H' :=
  ⟨s _ _ h.ht, s _ _ h.hr, h.hT.same s, s _ _ h.hu, h.hU.same s, s _ _ h.hy⟩
theorem k_in_S {l : List Nat} {i : Nat} {c : Nat} (h : (S l).cps[i]? = some c) : l[i]? = some c := by simpa [S] using h
def rTupOf (K : PySem.W.Frag) : List V → Hp → VK → Prop := fun xs H Q => ∃ p ys, xs = [.ref p] ∧ ((SqL K H p ys ∧ ∀ l, H l = none → Q (.ref l) (L2.upd H l (.tup ys))) ∨ (SqT K H p ys ∧ Q (.ref p) H))
section
variable {P : Program} {w : World} {K : PySem.W.Frag} {mg : Str → Option Value} {base : Heap} {f C : Addr} {fd : FuncData}
abbrev NTI : List Str := ["self", "row", "signs", "states", "rows", "turns", "yes", "at", "state", "sign", "told"]
theorem scTI : FnScope NTI ["self", "row"] (defScope sTaInit) := ⟨rfl, rfl, rfl, by decide +kernel, rfl, by decide +kernel, by decide +kernel⟩
def scNx : Scope := { kind := .function, names := [(".0", .local), ("sign", .cell), ("tuple", .globalImplicit), ("rows", .cell), ("self", .cell)], isGenerator := false, isCoroutine := false }
def scAm : Scope := { kind := .function, names := [(".0", .local), ("sign", .cell), ("tuple", .globalImplicit), ("rows", .cell)], isGenerator := false, isCoroutine := false }
set_option maxHeartbeats 0 in
theorem ok_tainit (F : Fun K "__init__" "Table.__init__" sTaInit f fd) (T : TTxt K mg C) (Z : Free mg) (mT : mg "tuple" = none) (mE : mg "enumerate" = none) : FnOk P w K mg base CX0 1 f fd ["self", "row"] (spTaInit C) := by
  refine F.ok scTI (fun vs H Q E h => ?_) (fun cdv A outer s H vs Q E hr h => ?_)
  · obtain ⟨H0, r, dx, q, L, rfl, _⟩ := h
    rfl
  · obtain ⟨H0, r, dx, q, L, rfl, O, RA, s0, r0, hp, k⟩ := h
    refine ⟨_, pss_cons (ps_asg (pv 1) (pg_tup (by rfl) (pgs_cons (pg_name (i := 2) scTI.nd rfl (.inl rfl)) (pgs_cons (pg_name (i := 3) scTI.nd rfl (.inl rfl)) (pgs_cons (pg_name (i := 4) scTI.nd rfl (.inr rfl)) (pgs_cons (pg_name (i := 5) scTI.nd rfl (.inl rfl)) (pgs_cons (pg_name (i := 6) scTI.nd rfl (.inr rfl)) pgs_nil)))))))
      (pss_cons (ps_fld (pv 0) (pe_dc (own := [("at", 7), ("state", 8)]) (g := gTup K 2 (gCons (gName 7) (gCons (gName 8) gNil))) (tt := tYes) rfl scTI.nd (pi_enumT (by rfl) mE (pa_cons (pv 3) pa_nil)) (blkOk_by (N := NTI) (sc := defScope sTaInit) (by decide +kernel)) (fun _ _ _ _ _ => pg_tup (by rfl) (pgs_cons (pg_name (i := 7) scTI.nd rfl (.inl rfl)) (pgs_cons (pg_name (i := 8) scTI.nd rfl (.inl rfl)) pgs_nil))) (fun _ _ _ _ _ => pts_nil)
        (fun _ _ _ _ _ => pv 8) (fun _ _ _ _ _ => pv 7)) rfl)
      (pss_cons (ps_fld (pv 0) (pe_dc (own := [("sign", 9)]) (g := gName 9) (tt := tYes) rfl scTI.nd (pi_str (pv 2)) (blkOk_by (N := NTI) (sc := defScope sTaInit) (by decide +kernel)) (fun _ _ _ _ _ => pg_name (i := 9) scTI.nd rfl (.inr rfl)) (fun _ _ _ _ _ => pts_nil)
        (fun _ _ _ _ _ => pv 9) (fun _ _ _ _ _ => pe_callTy (show CallR _ (.type "tuple") (rTupOf K) from call_tuple_of) (by rfl) mT (by decide +kernel) (pa_cons (by
            refine pe_lc (wi := iTup K (tVar 4)) (own := [("told", 10)]) (g := gName 10) rfl scTI.nd ?hi (blkOk_by (N := NTI) (sc := scNx) (by decide +kernel)) (fun _ _ _ _ _ => pg_name (i := 10) scTI.nd rfl (.inl rfl)) (fun _ _ _ _ _ => pts_one (pt_cmpR op_eq (pe_ix (show IxR _ (rIxT K) from ix_tup) (pv 10) pe_int (fun _ _ => rfl)) (pv 9) (nomark _)))
              (fun _ _ _ _ _ => pe_dget (un2 hr) (show PE _ _ (tFld K (tVar 0) "number") from pe_fld (pv 0) rfl) (pe_ix (show IxR _ (rIxT K) from ix_tup) (pv 10) pe_int (fun _ _ => rfl)) (fun _ _ => rfl))
            case hi => exact pi_tup (pv 4)) pa_nil))) rfl)
      (pss_cons (ps_fld (pv 0) (pe_dc (own := [("sign", 9)]) (g := gName 9) (tt := tYes) rfl scTI.nd (pi_str (pv 2)) (blkOk_by (N := NTI) (sc := defScope sTaInit) (by decide +kernel)) (fun _ _ _ _ _ => pg_name (i := 9) scTI.nd rfl (.inr rfl)) (fun _ _ _ _ _ => pts_nil)
        (fun _ _ _ _ _ => pv 9) (fun _ _ _ _ _ => pe_callTy (show CallR _ (.type "tuple") (rTupOf K) from call_tuple_of) (by rfl) mT (by decide +kernel) (pa_cons (by
            refine pe_lc (wi := iTup K (tVar 4)) (own := [("told", 10)]) (g := gName 10) rfl scTI.nd ?hi (blkOk_by (N := NTI) (sc := scAm) (by decide +kernel)) (fun _ _ _ _ _ => pg_name (i := 10) scTI.nd rfl (.inl rfl)) (fun _ _ _ _ _ => pts_one (pt_cmpR op_eq (pe_ix (show IxR _ (rIxT K) from ix_tup) (pv 10) pe_int (fun _ _ => rfl)) (pv 9) (nomark _)))
              (fun _ _ _ _ _ => pe_ix (show IxR _ (rIxT K) from ix_tup) (pv 10) pe_int (fun _ _ => rfl))
            case hi => exact pi_tup (pv 4)) pa_nil))) rfl)
      (pss_cons (ps_fld (pv 0) (pe_callTy call_tuple_of (by rfl) mT (by decide +kernel) (pa_cons (pe_lc (own := [("told", 10)]) (g := gName 10) (tt := tYes) rfl scTI.nd (pi_tup (pv 5)) (blkOk_by (N := NTI) (sc := defScope sTaInit) (by decide +kernel)) (fun _ _ _ _ _ => pg_name (i := 10) scTI.nd rfl (.inl rfl)) (fun _ _ _ _ _ => pts_nil)
        (fun _ _ _ _ _ => pe_dget (un2 hr) (show PE _ _ (tFld K (tVar 0) "number") from pe_fld (pv 0) rfl) (pe_ix (show IxR _ (rIxT K) from ix_tup) (pv 10) pe_int (fun _ _ => rfl)) (fun _ _ => rfl))) pa_nil)) rfl)
      (pss_cons (ps_fld (pv 0) (pe_callTy call_tuple_of (by rfl) mT (by decide +kernel) (pa_cons (pe_lc (own := [("told", 10)]) (g := gName 10) (tt := tYes) rfl scTI.nd (pi_tup (pv 5)) (blkOk_by (N := NTI) (sc := defScope sTaInit) (by decide +kernel)) (fun _ _ _ _ _ => pg_name (i := 10) scTI.nd rfl (.inl rfl)) (fun _ _ _ _ _ => pts_nil)
        (fun _ _ _ _ _ => pe_ix (show IxR _ (rIxT K) from ix_tup) (pv 10) pe_int (fun _ _ => rfl))) pa_nil)) rfl)
      (pss_one (ps_fld (pv 0) (pe_callTy call_tuple_of (by rfl) mT (by decide +kernel) (pa_cons (pe_lc (own := [("state", 8)]) (g := gName 8) (tt := tYes) rfl scTI.nd (pi_tup (pv 3)) (blkOk_by (N := NTI) (sc := defScope sTaInit) (by decide +kernel)) (fun _ _ _ _ _ => pg_name (i := 8) scTI.nd rfl (.inl rfl)) (fun _ _ _ _ _ => pts_nil)
        (fun _ _ _ _ _ => pe_cmpR (show OpR _ _ (rIn K false) from op_in_seq) (pv 8) (pv 6) (by rfl))) pa_nil)) rfl))))))), ?_⟩
    obtain ⟨t, rr, u, y, as, bs, hq, ht, hrw, hT, hu, hU, hy⟩ := RA
    refine ⟨_, rfl, q, _, rfl, SqT.of hq, rfl, _, _, rfl, _, _, rfl, _, _, rfl, _, _, rfl, _, _, rfl, rfl, ?_⟩
    have pr : Prt L t rr u y as bs H := ⟨ht, hrw, hT, hu, hU, hy⟩
    have sf := O.sts.few
    have n6 : L.n ≤ 6 := sf
    have sg4 := O.sgs.few
    -- number
    refine ⟨_, rfl, t, _, rfl, SqT.of ht, fun dN hN => dc_it (WbS.walk_enumT (xs := L.st.map V.str)) (fun i H3 => H3 dN = some (.dK (((L.st.take i).map k1).zip ((List.range i).map fun i => V.int (i : Nat)))) ∧ Same H H3) ⟨upd_same, Same.put (Same.refl H) hN⟩ (fun _ _ _ h => SqT.of (h.2 _ _ ht)) ?_ ?_⟩
    · rintro i x H3 H4 hi ⟨h1, h2⟩ ⟨T', a, b, rfl, nT, rfl, ea, eb⟩
      cases ea
      dsimp only at eb
      rw [List.getElem?_map] at eb
      obtain ⟨z, hz, rfl⟩ := Option.map_eq_some_iff.mp eb
      rw [List.length_map] at hi
      have s3 := Same.put (o := .tup [.int (i : Nat), .str z]) (Same.refl H3) nT
      refine ⟨T', _, rfl, SqT.of upd_same, rfl, _, _, rfl, _, _, rfl, rfl, ?_⟩
      refine ⟨rfl, _, rfl, _, rfl, _, k1 z, rfl, s3 _ _ h1, ?_, ?_, Same.new' (h2.trans s3) hN⟩
      · rw [List.length_zip, List.length_map, List.length_map, List.length_range, List.length_take, sizeLine_eq]
        omega
      · rw [upd_same, putK_zip (not_taken k1_inj O.sts.nd hz) (by rw [List.length_map, List.length_map, List.length_range, List.length_take]; omega), take_snoc_map hz, List.range_succ, List.map_append] <;> rfl
    · rintro H1 ⟨h1, h2⟩
      rw [List.length_map, List.take_length] at h1
      have hN1 : H1 dN = some (.dK (nums L)) := h1
      have hr1 := h2 _ _ hp
      refine ⟨_, rfl, r, C, dx, _, rfl, hr1, T.cl, T.n1, (by show 0 < 1000; decide), ?_⟩
      have B1 : But r H (L2.upd H1 r (.ins C dx (putF "number" (.ref dN) []))) := But.here (But.of h2)
      have S1 : Same H0 (L2.upd H1 r (.ins C dx (putF "number" (.ref dN) []))) := Same.new' (s0.trans h2) r0
      have hN2 : (L2.upd H1 r (.ins C dx (putF "number" (.ref dN) []))) dN = some (.dK (nums L)) := (upd_ne (ne_of hN1 hr1 (by intro q; cases q))).trans hN1
      have hr2 : (L2.upd H1 r (.ins C dx (putF "number" (.ref dN) []))) r = some (.ins C dx (putF "number" (.ref dN) [])) := upd_same
      generalize L2.upd H1 r (.ins C dx (putF "number" (.ref dN) [])) = H2 at B1 S1 hN2 hr2 ⊢
      have pr2 : Prt L t rr u y as bs H2 := pr.but (fun x => by intro q; cases q) hp B1
      clear h1 hN1 hr1
      -- nexts
      refine ⟨_, rfl, _, rfl, fun dX hX => dc_it walk_str (fun i H3 => ∃ xs : List Addr, H3 dX = some (.dK (((L.sg.take i).map kS).zip (xs.map V.ref))) ∧ Tups H3 xs ((L.sg.take i).map fun c => (List.range L.n).map fun i => V.int (L.nx i c : Nat)) ∧ Same H2 H3) ⟨[], upd_same, trivial, Same.put (Same.refl H2) hX⟩ (fun _ _ _ _ => trivial) ?_ ?_⟩
      · rintro i x H3 H4 hi ⟨xs, h1, h3, h4⟩ ⟨rfl, c, hc, rfl⟩
        have hc' : L.sg[i]? = some c := k_in_S hc
        rw [S_size] at hi
        have cm : c ∈ L.sg := List.mem_of_getElem? hc'
        have pr3 := pr2.same h4
        have lx : xs.length = i := by rw [h3.length, List.length_map, List.length_take]; omega
        have la : as.length = L.rows.length := by rw [pr.hT.length, List.length_map]
        refine ⟨rfl, _, rfl, _, rfl, rr, rfl, ⟨_, SqT.of pr3.hr⟩, fun D hD => lc_it (walk_tup (xs := as.map V.ref)) (fun k H5 => H5 D = some (.lst ((byC L c k).map (nmV L))) ∧ Same H4 H5) ⟨upd_same, Same.put (Same.refl H4) hD⟩ (fun _ _ _ h => SqT.of (h.2 _ _ pr3.hr)) ?_ ?_⟩
        · rintro k' x H5 H6 hk ⟨g1, g2⟩ ⟨rfl, hx⟩
          rw [List.getElem?_map] at hx
          obtain ⟨b, hb, rfl⟩ := Option.map_eq_some_iff.mp hx
          rw [List.length_map] at hk
          have hrw' : L.rows[k']? = some L.rows[k'] := List.getElem?_eq_getElem (by omega)
          generalize L.rows[k'] = ρ at hrw'
          have hv := (pr3.same g2).hT.get hb (by rw [List.getElem?_map, hrw'] <;> rfl)
          obtain ⟨i', c', hi', hc'', rfl⟩ := rows_mem (List.mem_of_getElem? hrw')
          have hr3 := g2 _ _ (h4 _ _ hr2)
          have hN3 := g2 _ _ (h4 _ _ hN2)
          refine ⟨rfl, _, rfl, _, _, _, _, rfl, rfl, SqT.of hv, atI_nat (j := 1) rfl, _, rfl, rfl, _, rfl, ?_⟩
          show if decide (V.str (S [c']) = V.str (S [c])) = true then _ else _
          rw [sign_eq]
          refine ite2 (fun e => ?_) (fun e => ?_)
          · have val := num_at O (O.nxlt i' c' hi' hc'')
            refine ⟨_, rfl, r, C, dx, _, _, rfl, hr3, T.cl, T.n1, by rw [lookup_putF, if_pos rfl], _, rfl, _, _, _, _, rfl, rfl, SqT.of hv, atI_nat (j := 2) rfl, dN, .int (L.nx i' c' : Nat), rfl, val ▸ DGet.k (k := k1 (L.nm (L.nx i' c'))) hN3, _, g1, ?_, ?_, Same.new' g2 hD⟩
            · rw [List.length_map, sizeLine_eq]
              have := byC_few (L := L) (c := c) (k := k')
              have := rows_few O
              omega
            · rw [upd_same, byC_yes hrw' (of_decide_eq_true e), List.map_append, ← nmV_row O hi' hc''] <;> rfl
          · exact ⟨by rw [g1, byC_no hrw' (fun q => e (decide_eq_true q))], g2⟩
        · rintro H5 ⟨g1, g2⟩
          have e2 : (byC L c as.length).map (nmV L) = (List.range L.n).map fun i => V.int (L.nx i c : Nat) := by
            rw [la, byC_all O.sgs.nd cm, List.map_map]
            exact List.map_congr_left fun j hj => nmV_row O (List.mem_range.mp hj) cm
          rw [List.length_map, e2] at g1
          refine ⟨D, _, rfl, .inl ⟨SqL.of g1, fun l hl => ?_⟩⟩
          have s5 := Same.put (o := .tup ((List.range L.n).map fun i => V.int (L.nx i c : Nat))) g2 hl
          refine ⟨_, kS c, rfl, s5 _ _ h1, ?_, xs ++ [l], ?_, ?_, Same.new' (h4.trans s5) hX⟩
          · rw [List.length_zip, List.length_map, List.length_map, List.length_take, sizeLine_eq]
            omega
          · rw [upd_same, putK_zip (not_taken kS_inj O.sgs.nd hc') (by rw [List.length_map, List.length_map, List.length_take]; omega), take_snoc_map hc', List.map_append] <;> rfl
          · rw [take_snoc_map hc']
            exact Tups.but (fun x => by intro q; cases q) (s5 _ _ h1) (But.here (But.refl dX _)) (Tups.snoc upd_same (h3.same s5))
      · rintro H3 ⟨xs, h1, h3, h4⟩
        rw [S_size, List.take_length] at h1 h3
        refine ⟨_, rfl, r, C, dx, _, rfl, h4 _ _ hr2, T.cl, T.n2, (by show 1 < 1000; decide), ?_⟩
        have hr3 := h4 _ _ hr2
        generalize ef : putF "nexts" (.ref dX) (putF "number" (.ref dN) []) = fs3
        have lk3 : fs3.lookup ("number" : Str) = some (.ref dN) := by rw [← ef, lookup_putF, if_neg (by decide +kernel), lookup_putF, if_pos rfl]
        have ln3 : fs3.length = 2 := by rw [← ef] <;> rfl
        have B2 : But r H (L2.upd H3 r (.ins C dx fs3)) := But.here (B1.trans (But.of h4))
        have S2 : Same H0 (L2.upd H3 r (.ins C dx fs3)) := Same.new' (S1.trans h4) r0
        have hN4 : (L2.upd H3 r (.ins C dx fs3)) dN = some (.dK (nums L)) := (upd_ne (ne_of (h4 _ _ hN2) hr3 (by intro q; cases q))).trans (h4 _ _ hN2)
        have hX4 : (L2.upd H3 r (.ins C dx fs3)) dX = some (.dK ((L.sg.map kS).zip (xs.map V.ref))) := (upd_ne (ne_of h1 hr3 (by intro q; cases q))).trans h1
        have hx4 : Tups (L2.upd H3 r (.ins C dx fs3)) xs (L.sg.map fun c => (List.range L.n).map fun i => V.int (L.nx i c : Nat)) := Tups.but (fun x => by intro q; cases q) hr3 (But.here (But.refl r _)) h3
        have hr4 : (L2.upd H3 r (.ins C dx fs3)) r = some (.ins C dx fs3) := upd_same
        generalize L2.upd H3 r (.ins C dx fs3) = H4 at B2 S2 hN4 hX4 hx4 hr4 ⊢
        have pr4 : Prt L t rr u y as bs H4 := pr.but (fun x => by intro q; cases q) hp B2
        clear h1 h3 h4 hr3 B1 S1 hN2 hr2 pr2 hX
        -- amounts
        refine ⟨_, rfl, _, rfl, fun dA hA => dc_it walk_str (fun i H3 => ∃ xs : List Addr, H3 dA = some (.dK (((L.sg.take i).map kS).zip (xs.map V.ref))) ∧ Tups H3 xs ((L.sg.take i).map fun c => (List.range L.n).map fun i => V.int (L.am i c)) ∧ Same H4 H3) ⟨[], upd_same, trivial, Same.put (Same.refl H4) hA⟩ (fun _ _ _ _ => trivial) ?_ ?_⟩
        · rintro i x H5 H6 hi ⟨xs2, h1, h3, h4⟩ ⟨rfl, c, hc, rfl⟩
          have hc' : L.sg[i]? = some c := k_in_S hc
          rw [S_size] at hi
          have cm : c ∈ L.sg := List.mem_of_getElem? hc'
          have pr3 := pr4.same h4
          have lx : xs2.length = i := by rw [h3.length, List.length_map, List.length_take]; omega
          have la : as.length = L.rows.length := by rw [pr.hT.length, List.length_map]
          refine ⟨rfl, _, rfl, _, rfl, rr, rfl, ⟨_, SqT.of pr3.hr⟩, fun D hD => lc_it (walk_tup (xs := as.map V.ref)) (fun k H7 => H7 D = some (.lst ((byC L c k).map fun r => V.int r.m)) ∧ Same H6 H7) ⟨upd_same, Same.put (Same.refl H6) hD⟩ (fun _ _ _ h => SqT.of (h.2 _ _ pr3.hr)) ?_ ?_⟩
          · rintro k' x H7 H8 hk ⟨g1, g2⟩ ⟨rfl, hx⟩
            rw [List.getElem?_map] at hx
            obtain ⟨b, hb, rfl⟩ := Option.map_eq_some_iff.mp hx
            rw [List.length_map] at hk
            have hrw' : L.rows[k']? = some L.rows[k'] := List.getElem?_eq_getElem (by omega)
            generalize L.rows[k'] = ρ at hrw'
            have hv := (pr3.same g2).hT.get hb (by rw [List.getElem?_map, hrw'] <;> rfl)
            obtain ⟨i', c', hi', hc'', rfl⟩ := rows_mem (List.mem_of_getElem? hrw')
            refine ⟨rfl, _, rfl, _, _, _, _, rfl, rfl, SqT.of hv, atI_nat (j := 1) rfl, _, rfl, rfl, _, rfl, ?_⟩
            show if decide (V.str (S [c']) = V.str (S [c])) = true then _ else _
            rw [sign_eq]
            refine ite2 (fun e => ?_) (fun e => ?_)
            · refine ⟨_, rfl, _, _, _, _, rfl, rfl, SqT.of hv, atI_nat (j := 3) rfl, _, g1, ?_, ?_, Same.new' g2 hD⟩
              · rw [List.length_map, sizeLine_eq]
                have := byC_few (L := L) (c := c) (k := k')
                have := rows_few O
                omega
              · rw [upd_same, byC_yes hrw' (of_decide_eq_true e), List.map_append] <;> rfl
            · exact ⟨by rw [g1, byC_no hrw' (fun q => e (decide_eq_true q))], g2⟩
          · rintro H7 ⟨g1, g2⟩
            have e2 : ((byC L c as.length).map fun r => V.int r.m) = (List.range L.n).map fun i => V.int (L.am i c) := by
              rw [la, byC_all O.sgs.nd cm, List.map_map]
              rfl
            rw [List.length_map, e2] at g1
            refine ⟨D, _, rfl, .inl ⟨SqL.of g1, fun l hl => ?_⟩⟩
            have s5 := Same.put (o := .tup ((List.range L.n).map fun i => V.int (L.am i c))) g2 hl
            refine ⟨_, kS c, rfl, s5 _ _ h1, ?_, xs2 ++ [l], ?_, ?_, Same.new' (h4.trans s5) hA⟩
            · rw [List.length_zip, List.length_map, List.length_map, List.length_take, sizeLine_eq]
              omega
            · rw [upd_same, putK_zip (not_taken kS_inj O.sgs.nd hc') (by rw [List.length_map, List.length_map, List.length_take]; omega), take_snoc_map hc', List.map_append] <;> rfl
            · rw [take_snoc_map hc']
              exact Tups.but (fun x => by intro q; cases q) (s5 _ _ h1) (But.here (But.refl dA _)) (Tups.snoc upd_same (h3.same s5))
        · rintro H5 ⟨xs2, h1, h3, h4⟩
          rw [S_size, List.take_length] at h1 h3
          refine ⟨_, rfl, r, C, dx, _, rfl, h4 _ _ hr4, T.cl, T.n3, (by omega), ?_⟩
          have lk3 := lk3
          have ln4 : (3 : Nat) = 3 := rfl
          have hrH := h4 _ _ hr4
          generalize ef4 : putF "amounts" (.ref dA) fs3 = fs4
          have lk4 : fs4.lookup ("number" : Str) = some (.ref dN) := by rw [← ef4, lookup_putF, if_neg (by decide +kernel)]; exact lk3
          have B4 : But r H (L2.upd H5 r (.ins C dx fs4)) := But.here (B2.trans (But.of h4))
          have S4 : Same H0 (L2.upd H5 r (.ins C dx fs4)) := Same.new' (S2.trans h4) r0
          have hN14 : (L2.upd H5 r (.ins C dx fs4)) dN = some (.dK (nums L)) := (upd_ne (ne_of (h4 _ _ hN4) hrH (by intro q; cases q))).trans (h4 _ _ hN4)
          have hX14 : (L2.upd H5 r (.ins C dx fs4)) dX = some (.dK ((L.sg.map kS).zip (xs.map V.ref))) := (upd_ne (ne_of (h4 _ _ hX4) hrH (by intro q; cases q))).trans (h4 _ _ hX4)
          have hx14 : Tups (L2.upd H5 r (.ins C dx fs4)) xs (L.sg.map fun c => (List.range L.n).map fun i => V.int (L.nx i c : Nat)) := Tups.but (fun x => by intro q; cases q) hrH (But.here (But.refl r _)) (hx4.same h4)
          have hA14 : (L2.upd H5 r (.ins C dx fs4)) dA = some (.dK ((L.sg.map kS).zip (xs2.map V.ref))) := (upd_ne (ne_of h1 hrH (by intro q; cases q))).trans h1
          have ha14 : Tups (L2.upd H5 r (.ins C dx fs4)) xs2 (L.sg.map fun c => (List.range L.n).map fun i => V.int (L.am i c)) := Tups.but (fun x => by intro q; cases q) hrH (But.here (But.refl r _)) h3
          have hr14 : (L2.upd H5 r (.ins C dx fs4)) r = some (.ins C dx fs4) := upd_same
          generalize L2.upd H5 r (.ins C dx fs4) = H14 at B4 S4 hN14 hX14 hx14 hA14 ha14 hr14 ⊢
          have pr14 : Prt L t rr u y as bs H14 := pr.but (fun x => by intro q; cases q) hp B4
          -- turn_nexts
          refine ⟨_, rfl, u, rfl, ⟨_, SqT.of pr14.hu⟩, fun D hD => lc_it (walk_tup (xs := bs.map V.ref)) (fun k H5 => H5 D = some (.lst ((List.range k).map fun i => V.int (L.tn i : Nat))) ∧ Same H14 H5) ⟨upd_same, Same.put (Same.refl H14) hD⟩ (fun _ _ _ h => SqT.of (h.2 _ _ pr14.hu)) ?_ ?_⟩
          · rintro k' x H5 H6 hk ⟨g1, g2⟩ ⟨rfl, hx⟩
            rw [List.getElem?_map] at hx
            obtain ⟨b, hb, rfl⟩ := Option.map_eq_some_iff.mp hx
            rw [List.length_map] at hk
            have hk6 : k' < L.n := by have q := pr.hU.length; rw [List.length_map, turns_length] at q; omega
            have hv := (pr14.same g2).hU.get hb (by rw [List.getElem?_map, turns_at hk6] <;> rfl)
            refine ⟨rfl, _, rfl, r, C, dx, _, _, rfl, g2 _ _ hr14, T.cl, T.n1, lk4, _, rfl, _, _, _, _, rfl, rfl, SqT.of hv, atI_nat (j := 1) rfl, dN, .int (L.tn k' : Nat), rfl, num_at O (O.tnlt k' hk6) ▸ DGet.k (k := k1 (L.nm (L.tn k'))) (g2 _ _ hN14), _, g1, ?_, ?_, Same.new' g2 hD⟩
            · rw [List.length_map, List.length_range, sizeLine_eq]
              omega
            · rw [upd_same, List.range_succ, List.map_append] <;> rfl
          · rintro H7 ⟨g1, g2⟩
            rw [List.length_map, bs_len pr.hU] at g1
            refine ⟨D, _, rfl, .inl ⟨SqL.of g1, fun tX hl => ?_⟩⟩
            have s5 := Same.put (o := .tup ((List.range L.n).map fun i => V.int (L.tn i : Nat))) g2 hl
            have hl5 : (L2.upd H7 tX (.tup ((List.range L.n).map fun i => V.int (L.tn i : Nat)))) tX = some (.tup ((List.range L.n).map fun i => V.int (L.tn i : Nat))) := upd_same
            generalize L2.upd H7 tX (.tup ((List.range L.n).map fun i => V.int (L.tn i : Nat))) = H8 at s5 hl5 ⊢
            refine ⟨_, rfl, r, C, dx, _, rfl, s5 _ _ hr14, T.cl, T.n4, (by rw [← ef4, ← ef]; show 3 < 1000; decide), ?_⟩
            have hrH := s5 _ _ hr14
            generalize ef5 : putF "turn_nexts" (.ref tX) fs4 = fs5
            have lk5 : fs5.lookup ("number" : Str) = some (.ref dN) := by rw [← ef5, lookup_putF, if_neg (by decide +kernel)]; exact lk4
            have B5 : But r H (L2.upd H8 r (.ins C dx fs5)) := But.here (B4.trans (But.of s5))
            have S5 : Same H0 (L2.upd H8 r (.ins C dx fs5)) := Same.new' (S4.trans s5) r0
            have hN15 : (L2.upd H8 r (.ins C dx fs5)) dN = some (.dK (nums L)) := (upd_ne (ne_of (s5 _ _ hN14) hrH (by intro q; cases q))).trans (s5 _ _ hN14)
            have hX15 : (L2.upd H8 r (.ins C dx fs5)) dX = some (.dK ((L.sg.map kS).zip (xs.map V.ref))) := (upd_ne (ne_of (s5 _ _ hX14) hrH (by intro q; cases q))).trans (s5 _ _ hX14)
            have hx15 : Tups (L2.upd H8 r (.ins C dx fs5)) xs (L.sg.map fun c => (List.range L.n).map fun i => V.int (L.nx i c : Nat)) := Tups.but (fun x => by intro q; cases q) hrH (But.here (But.refl r _)) (hx14.same s5)
            have hA15 : (L2.upd H8 r (.ins C dx fs5)) dA = some (.dK ((L.sg.map kS).zip (xs2.map V.ref))) := (upd_ne (ne_of (s5 _ _ hA14) hrH (by intro q; cases q))).trans (s5 _ _ hA14)
            have ha15 : Tups (L2.upd H8 r (.ins C dx fs5)) xs2 (L.sg.map fun c => (List.range L.n).map fun i => V.int (L.am i c)) := Tups.but (fun x => by intro q; cases q) hrH (But.here (But.refl r _)) (ha14.same s5)
            have hTX15 : (L2.upd H8 r (.ins C dx fs5)) tX = some (.tup ((List.range L.n).map fun i => V.int (L.tn i : Nat))) := (upd_ne (ne_of hl5 hrH (by intro q; cases q))).trans hl5
            have hr15 : (L2.upd H8 r (.ins C dx fs5)) r = some (.ins C dx fs5) := upd_same
            generalize L2.upd H8 r (.ins C dx fs5) = H15 at B5 S5 hN15 hX15 hx15 hA15 ha15 hTX15 hr15 ⊢
            have pr15 : Prt L t rr u y as bs H15 := pr.but (fun x => by intro q; cases q) hp B5
            -- turn_amounts
            refine ⟨_, rfl, u, rfl, ⟨_, SqT.of pr15.hu⟩, fun D hD => lc_it (walk_tup (xs := bs.map V.ref)) (fun k H5 => H5 D = some (.lst ((List.range k).map fun i => V.int (L.ta i))) ∧ Same H15 H5) ⟨upd_same, Same.put (Same.refl H15) hD⟩ (fun _ _ _ h => SqT.of (h.2 _ _ pr15.hu)) ?_ ?_⟩
            · rintro k' x H5 H6 hk ⟨g1, g2⟩ ⟨rfl, hx⟩
              rw [List.getElem?_map] at hx
              obtain ⟨b, hb, rfl⟩ := Option.map_eq_some_iff.mp hx
              rw [List.length_map] at hk
              have hk6 : k' < L.n := by have q := pr.hU.length; rw [List.length_map, turns_length] at q; omega
              have hv := (pr15.same g2).hU.get hb (by rw [List.getElem?_map, turns_at hk6] <;> rfl)
              refine ⟨rfl, _, rfl, _, _, _, _, rfl, rfl, SqT.of hv, atI_nat (j := 2) rfl, _, g1, ?_, ?_, Same.new' g2 hD⟩
              · rw [List.length_map, List.length_range, sizeLine_eq]
                omega
              · rw [upd_same, List.range_succ, List.map_append] <;> rfl
            · rintro H7 ⟨g1, g2⟩
              rw [List.length_map, bs_len pr.hU] at g1
              refine ⟨D, _, rfl, .inl ⟨SqL.of g1, fun tA hl => ?_⟩⟩
              have s5 := Same.put (o := .tup ((List.range L.n).map fun i => V.int (L.ta i))) g2 hl
              have hl5 : (L2.upd H7 tA (.tup ((List.range L.n).map fun i => V.int (L.ta i)))) tA = some (.tup ((List.range L.n).map fun i => V.int (L.ta i))) := upd_same
              generalize L2.upd H7 tA (.tup ((List.range L.n).map fun i => V.int (L.ta i))) = H8 at s5 hl5 ⊢
              refine ⟨_, rfl, r, C, dx, _, rfl, s5 _ _ hr15, T.cl, T.n5, (by rw [← ef5, ← ef4, ← ef]; show 4 < 1000; decide), ?_⟩
              have hrH := s5 _ _ hr15
              generalize ef6 : putF "turn_amounts" (.ref tA) fs5 = fs6
              have lk6 : fs6.lookup ("number" : Str) = some (.ref dN) := by rw [← ef6, lookup_putF, if_neg (by decide +kernel)]; exact lk5
              have B6 : But r H (L2.upd H8 r (.ins C dx fs6)) := But.here (B5.trans (But.of s5))
              have S6 : Same H0 (L2.upd H8 r (.ins C dx fs6)) := Same.new' (S5.trans s5) r0
              have hN16 : (L2.upd H8 r (.ins C dx fs6)) dN = some (.dK (nums L)) := (upd_ne (ne_of (s5 _ _ hN15) hrH (by intro q; cases q))).trans (s5 _ _ hN15)
              have hX16 : (L2.upd H8 r (.ins C dx fs6)) dX = some (.dK ((L.sg.map kS).zip (xs.map V.ref))) := (upd_ne (ne_of (s5 _ _ hX15) hrH (by intro q; cases q))).trans (s5 _ _ hX15)
              have hx16 : Tups (L2.upd H8 r (.ins C dx fs6)) xs (L.sg.map fun c => (List.range L.n).map fun i => V.int (L.nx i c : Nat)) := Tups.but (fun x => by intro q; cases q) hrH (But.here (But.refl r _)) (hx15.same s5)
              have hA16 : (L2.upd H8 r (.ins C dx fs6)) dA = some (.dK ((L.sg.map kS).zip (xs2.map V.ref))) := (upd_ne (ne_of (s5 _ _ hA15) hrH (by intro q; cases q))).trans (s5 _ _ hA15)
              have ha16 : Tups (L2.upd H8 r (.ins C dx fs6)) xs2 (L.sg.map fun c => (List.range L.n).map fun i => V.int (L.am i c)) := Tups.but (fun x => by intro q; cases q) hrH (But.here (But.refl r _)) (ha15.same s5)
              have hTX16 : (L2.upd H8 r (.ins C dx fs6)) tX = some (.tup ((List.range L.n).map fun i => V.int (L.tn i : Nat))) := (upd_ne (ne_of (s5 _ _ hTX15) hrH (by intro q; cases q))).trans (s5 _ _ hTX15)
              have hTA16 : (L2.upd H8 r (.ins C dx fs6)) tA = some (.tup ((List.range L.n).map fun i => V.int (L.ta i))) := (upd_ne (ne_of hl5 hrH (by intro q; cases q))).trans hl5
              have hr16 : (L2.upd H8 r (.ins C dx fs6)) r = some (.ins C dx fs6) := upd_same
              generalize L2.upd H8 r (.ins C dx fs6) = H16 at B6 S6 hN16 hX16 hx16 hA16 ha16 hTX16 hTA16 hr16 ⊢
              have pr16 : Prt L t rr u y as bs H16 := pr.but (fun x => by intro q; cases q) hp B6
              -- says
              refine ⟨_, rfl, t, rfl, ⟨_, SqT.of pr16.ht⟩, fun D hD => lc_it (walk_tup (xs := L.st.map V.str)) (fun k H5 => H5 D = some (.lst ((List.range k).map fun i => V.bl (L.ys i))) ∧ Same H16 H5) ⟨upd_same, Same.put (Same.refl H16) hD⟩ (fun _ _ _ h => SqT.of (h.2 _ _ pr16.ht)) ?_ ?_⟩
              · rintro k' x H5 H6 hk ⟨g1, g2⟩ ⟨rfl, hx⟩
                rw [List.getElem?_map] at hx
                rw [List.length_map] at hk
                rw [nm_at (L := L) hk] at hx
                cases hx
                refine ⟨rfl, _, rfl, _, rfl, y, _, rfl, .inr (SqT.of ((pr16.same g2).hy)), rfl, flat_strs _, _, g1, ?_, ?_, Same.new' g2 hD⟩
                · rw [List.length_map, List.length_range, sizeLine_eq]
                  omega
                · rw [upd_same, inV_strs, yes_at O hk, List.range_succ, List.map_append] <;> rfl
              · rintro H7 ⟨g1, g2⟩
                rw [List.length_map, show L.st.length = L.n from rfl] at g1
                refine ⟨D, _, rfl, .inl ⟨SqL.of g1, fun tY hl => ?_⟩⟩
                have s5 := Same.put (o := .tup ((List.range L.n).map fun i => V.bl (L.ys i))) g2 hl
                have hl5 : (L2.upd H7 tY (.tup ((List.range L.n).map fun i => V.bl (L.ys i)))) tY = some (.tup ((List.range L.n).map fun i => V.bl (L.ys i))) := upd_same
                generalize L2.upd H7 tY (.tup ((List.range L.n).map fun i => V.bl (L.ys i))) = H8 at s5 hl5 ⊢
                refine ⟨_, rfl, r, C, dx, _, rfl, s5 _ _ hr16, T.cl, T.n6, (by rw [← ef6, ← ef5, ← ef4, ← ef]; show 5 < 1000; decide), ?_⟩
                have hrH := s5 _ _ hr16
                generalize ef7 : putF "says" (.ref tY) fs6 = fs7
                have lk7 : fs7.lookup ("number" : Str) = some (.ref dN) := by rw [← ef7, lookup_putF, if_neg (by decide +kernel)]; exact lk6
                have B7 : But r H (L2.upd H8 r (.ins C dx fs7)) := But.here (B6.trans (But.of s5))
                have S7 : Same H0 (L2.upd H8 r (.ins C dx fs7)) := Same.new' (S6.trans s5) r0
                have hN17 : (L2.upd H8 r (.ins C dx fs7)) dN = some (.dK (nums L)) := (upd_ne (ne_of (s5 _ _ hN16) hrH (by intro q; cases q))).trans (s5 _ _ hN16)
                have hX17 : (L2.upd H8 r (.ins C dx fs7)) dX = some (.dK ((L.sg.map kS).zip (xs.map V.ref))) := (upd_ne (ne_of (s5 _ _ hX16) hrH (by intro q; cases q))).trans (s5 _ _ hX16)
                have hx17 : Tups (L2.upd H8 r (.ins C dx fs7)) xs (L.sg.map fun c => (List.range L.n).map fun i => V.int (L.nx i c : Nat)) := Tups.but (fun x => by intro q; cases q) hrH (But.here (But.refl r _)) (hx16.same s5)
                have hA17 : (L2.upd H8 r (.ins C dx fs7)) dA = some (.dK ((L.sg.map kS).zip (xs2.map V.ref))) := (upd_ne (ne_of (s5 _ _ hA16) hrH (by intro q; cases q))).trans (s5 _ _ hA16)
                have ha17 : Tups (L2.upd H8 r (.ins C dx fs7)) xs2 (L.sg.map fun c => (List.range L.n).map fun i => V.int (L.am i c)) := Tups.but (fun x => by intro q; cases q) hrH (But.here (But.refl r _)) (ha16.same s5)
                have hTX17 : (L2.upd H8 r (.ins C dx fs7)) tX = some (.tup ((List.range L.n).map fun i => V.int (L.tn i : Nat))) := (upd_ne (ne_of (s5 _ _ hTX16) hrH (by intro q; cases q))).trans (s5 _ _ hTX16)
                have hTA17 : (L2.upd H8 r (.ins C dx fs7)) tA = some (.tup ((List.range L.n).map fun i => V.int (L.ta i))) := (upd_ne (ne_of (s5 _ _ hTA16) hrH (by intro q; cases q))).trans (s5 _ _ hTA16)
                have hTY17 : (L2.upd H8 r (.ins C dx fs7)) tY = some (.tup ((List.range L.n).map fun i => V.bl (L.ys i))) := (upd_ne (ne_of hl5 hrH (by intro q; cases q))).trans hl5
                have hr17 : (L2.upd H8 r (.ins C dx fs7)) r = some (.ins C dx fs7) := upd_same
                generalize L2.upd H8 r (.ins C dx fs7) = H17 at B7 S7 hN17 hX17 hx17 hA17 ha17 hTX17 hTA17 hTY17 hr17 ⊢
                have pr17 : Prt L t rr u y as bs H17 := pr.but (fun x => by intro q; cases q) hp B7
                refine k H17 S7 ⟨dx, dN, dX, dA, tX, tA, tY, xs, xs2, ?_, hX17, hx17, hA17, ha17, hTX17, hTA17, hTY17⟩
                rw [hr17, ← ef7, ← ef6, ← ef5, ← ef4, ← ef] <;> rfl
end
end Wb
/-! one round by the table -/
namespace Wb
open PySem L2 WbMin WbS Lz
def LD.stp (L : LD) (p : Nat × Int) (c : Nat) : Nat × Int := (L.nx p.1 c, p.2 + L.am p.1 c)
def LD.wk (L : LD) (w : List Nat) (i : Nat) : Nat × Int := w.foldl L.stp (i, 0)
def LD.gone (L : LD) (w : List Nat) (i : Nat) : Nat × Int := (L.tn (L.wk w i).1, (L.wk w i).2 + L.ta (L.wk w i).1)
theorem wk_lt {L : LD} (O : L.Ok) {i : Nat} (hi : i < L.n) : ∀ {w : List Nat}, (∀ c ∈ w, c ∈ L.sg) → (L.wk w i).1 < L.n := by
  intro w
  unfold LD.wk
  have gen : ∀ (w : List Nat) (p : Nat × Int), p.1 < L.n → (∀ c ∈ w, c ∈ L.sg) → (w.foldl L.stp p).1 < L.n := by
    intro w
    induction w with
    | nil => exact fun p h _ => h
    | cons c w ih => exact fun p h hw => ih _ (O.nxlt _ _ h (hw c List.mem_cons_self)) fun d hd => hw d (List.mem_cons_of_mem _ hd)
  exact fun hw => gen w (i, 0) hi hw
theorem gone_lt {L : LD} (O : L.Ok) {i : Nat} (hi : i < L.n) {w : List Nat} (hw : ∀ c ∈ w, c ∈ L.sg) : (L.gone w i).1 < L.n := O.tnlt _ (wk_lt O hi hw)
theorem tf_look (dN dX dA tX tA tY : Addr) : (tf dN dX dA tX tA tY).lookup ("nexts" : Str) = some (.ref dX) ∧ (tf dN dX dA tX tA tY).lookup ("amounts" : Str) = some (.ref dA) ∧ (tf dN dX dA tX tA tY).lookup ("turn_nexts" : Str) = some (.ref tX) ∧ (tf dN dX dA tX tA tY).lookup ("turn_amounts" : Str) = some (.ref tA) ∧ (tf dN dX dA tX tA tY).lookup ("says" : Str) = some (.ref tY) := by
  unfold tf
  refine ⟨?_, ?_, ?_, ?_, ?_⟩ <;> repeat (first | rw [lookup_putF, if_neg (by decide +kernel)] | rw [lookup_putF, if_pos rfl])
theorem TableAt.same {C : Addr} {H H' : Hp} {r : Addr} {L : LD} (s : Same H H') (h : TableAt C H r L) : TableAt C H' r L := by
  obtain ⟨dx, dN, dX, dA, tX, tA, tY, xs, as, h0, hX, hx, hA, ha, hTX, hTA, hTY⟩ := h
  exact ⟨dx, dN, dX, dA, tX, tA, tY, xs, as, s _ _ h0, s _ _ hX, hx.same s, s _ _ hA, ha.same s, s _ _ hTX, s _ _ hTA, s _ _ hTY⟩
theorem TableAt.but {C D : Addr} {H H' : Hp} {r tb dx : Addr} {fs : List (Str × V)} {L : LD} (h : TableAt C H tb L) (n : tb ≠ r) (hr : H r = some (.ins D dx fs)) (s : But r H H') : TableAt C H' tb L := by
  obtain ⟨dx, dN, dX, dA, tX, tA, tY, xs, as, h0, hX, hx, hA, ha, hTX, hTA, hTY⟩ := h
  exact ⟨dx, dN, dX, dA, tX, tA, tY, xs, as, s _ _ n h0, s _ _ (ne_of hX hr (by intro q; cases q)) hX, hx.but (fun x => by intro q; cases q) hr s, s _ _ (ne_of hA hr (by intro q; cases q)) hA, ha.but (fun x => by intro q; cases q) hr s, s _ _ (ne_of hTX hr (by intro q; cases q)) hTX, s _ _ (ne_of hTA hr (by intro q; cases q)) hTA, s _ _ (ne_of hTY hr (by intro q; cases q)) hTY⟩
theorem ne_of_none' {H : Hp} {a b : Addr} {o : HO} (h : H a = some o) (h' : H b = none) : b ≠ a := (ne_of_none h h').symm
theorem at_range {n j : Nat} {g : Nat → V} (h : j < n) : ((List.range n).map g)[j]? = some (g j) := by
  rw [List.getElem?_map, List.getElem?_range h] <;> rfl
theorem map_get {α β : Type} {g : α → β} {l : List α} {j : Nat} {x : α} (h : l[j]? = some x) : (l.map g)[j]? = some (g x) := by
  rw [List.getElem?_map, h] <;> rfl
/-- the row of numbers of a sign -/
theorem sign_row {L : LD} (nd : L.sg.Nodup) {c : Nat} (hc : c ∈ L.sg) {H : Hp} {xs : List Addr} {g : Nat → Nat → V} (hx : Tups H xs (L.sg.map fun c => (List.range L.n).map fun i => g i c)) :
    ∃ a, valV ((L.sg.map kS).zip (xs.map V.ref)) (kS c) = some (.ref a) ∧ H a = some (.tup ((List.range L.n).map fun i => g i c)) := by
  obtain ⟨j, hj, e⟩ := List.getElem_of_mem hc
  have e' : L.sg[j]? = some c := by rw [List.getElem?_eq_getElem hj, e]
  have l : xs.length = L.sg.length := by rw [hx.length, List.length_map]
  have ea : xs[j]? = some (xs[j]'(by omega)) := List.getElem?_eq_getElem (by omega)
  exact ⟨_, valV_zip_get (i := j) (List.Pairwise.map _ (fun _ _ n q => n (kS_inj q)) nd) (map_get e') (map_get ea), hx.get ea (map_get (g := fun c => (List.range L.n).map fun i => g i c) e')⟩
section
variable {P : Program} {w : World} {K : PySem.W.Frag} {mg : Str → Option Value} {base : Heap} {f C : Addr} {fd : FuncData}
end
end Wb
/-! where a map leads, again and again -/
namespace Wb
open PySem L2 WbMin WbS Lz
abbrev sCoInit : Stmt := inClass (top 40) 0
abbrev sCoPlace : Stmt := inClass (top 40) 1
abbrev sCoBehind : Stmt := inClass (top 40) 2
/-- the state behind m rounds -/
def it (g : Nat → Nat) : Nat → Nat
  | 0 => 0
  | m + 1 => g (it g m)
theorem it_lt {g : Nat → Nat} {n : Nat} (h0 : 0 < n) (h : ∀ i, i < n → g i < n) : ∀ m, it g m < n
  | 0 => h0
  | m + 1 => h _ (it_lt h0 h m)
theorem it_add {g : Nat → Nat} {a b : Nat} (h : it g a = it g b) : ∀ d, it g (a + d) = it g (b + d)
  | 0 => h
  | d + 1 => congrArg g (it_add h d)
/-- what a course knows: k states, those from h on come again -/
structure Crs (g : Nat → Nat) (n k h : Nat) : Prop where
  lt : h < k
  le : k ≤ n
  eq : it g k = it g h
  nd : ∀ i j, i < j → j < k → it g i ≠ it g j
theorem Crs.mul {g : Nat → Nat} {n k h : Nat} (c : Crs g n k h) : ∀ (q m : Nat), h ≤ m → it g (m + q * (k - h)) = it g m
  | 0, m, _ => by rw [Nat.zero_mul, Nat.add_zero]
  | q + 1, m, hm => by
    have e : m + (q + 1) * (k - h) = k + (m - h + q * (k - h)) := by
      have := c.lt
      rw [Nat.add_mul]
      omega
    rw [e, it_add c.eq, show h + (m - h + q * (k - h)) = m + q * (k - h) by omega, Crs.mul c q m hm]
theorem Crs.place {g : Nat → Nat} {n k h m : Nat} (c : Crs g n k h) (hm : k ≤ m) : h + (m - h) % (k - h) < k ∧ it g (h + (m - h) % (k - h)) = it g m := by
  have lt := c.lt
  have pos : 0 < k - h := by omega
  have := Nat.mod_lt (m - h) pos
  refine ⟨by omega, ?_⟩
  have e := c.mul ((m - h) / (k - h)) (h + (m - h) % (k - h)) (by omega)
  have d := Nat.mod_add_div (m - h) (k - h)
  rw [Nat.mul_comm] at d
  rw [← e]
  congr 1
  omega
def nat (g : Nat → Nat) (k : Nat) : List V := (List.range k).map fun m => V.int (it g m : Nat)
def cf (p : Addr) (h k : Nat) : List (Str × V) := putF "again" (.int ((k : Int) - (h : Int))) (putF "head" (.int (h : Nat)) (putF "path" (.ref p) []))
/-- the course stands -/
def CourseAt (C : Addr) (H : Hp) (r : Addr) (g : Nat → Nat) (k h : Nat) : Prop := ∃ dx p, H r = some (.ins C dx (cf p h k)) ∧ H p = some (.lst (nat g k))
theorem CourseAt.same {C : Addr} {H H' : Hp} {r : Addr} {g : Nat → Nat} {k h : Nat} (s : Same H H') : CourseAt C H r g k h → CourseAt C H' r g k h := fun ⟨dx, p, a, b⟩ => ⟨dx, p, s _ _ a, s _ _ b⟩
structure CTxt (K : PySem.W.Frag) (mg : Str → Option Value) (C : Addr) : Prop where
  cl : Cls K C
  n1 : NoAttr K C "path"
  n2 : NoAttr K C "head"
  n3 : NoAttr K C "again"
section
variable {X : Cx}
end
section
variable {P : Program} {w : World} {K : PySem.W.Frag} {mg : Str → Option Value} {base : Heap} {f fP C : Addr} {fd dP : FuncData}
end
end Wb
/-! sorted texts: one order alone -/
namespace Wb
open PySem L2 WbMin WbS
theorem not_lt_trans {a b c : List Nat} (h1 : ¬ b < a) (h2 : ¬ c < b) : ¬ c < a := fun q => by
  have h1' : a ≤ b := h1
  have h2' : b ≤ c := h2
  exact List.le_trans h1' h2' q
def leS (a b : Str) : Prop := ¬ b.cps.toList < a.cps.toList
theorem leS_trans {a b c : Str} (h1 : leS a b) (h2 : leS b c) : leS a c := not_lt_trans h1 h2
theorem lt_of_ltCps {a b : List Nat} : PySem.Spec.ltCps a b = false ↔ ¬ a < b := by
  rw [PyProof.Rows.ltCps_eq, decide_eq_false_iff_not]
theorem rising_pw : ∀ (l : List Str) (p : Str), PyProof.Rows.risingS p l = true → (p :: l).Pairwise leS
  | [], p, _ => List.pairwise_singleton _ _
  | x :: r, p, h => by
    have h' : (!PySem.Spec.ltCps x.cps.toList p.cps.toList && PyProof.Rows.risingS x r) = true := h
    rw [Bool.and_eq_true, Bool.not_eq_true'] at h'
    have px : leS p x := lt_of_ltCps.mp h'.1
    have ih := rising_pw r x h'.2
    refine List.pairwise_cons.mpr ⟨fun y hy => ?_, ih⟩
    rcases List.mem_cons.mp hy with rfl | hy
    · exact px
    · exact leS_trans px ((List.pairwise_cons.mp ih).1 y hy)
theorem sorted_pw : ∀ {l : List Str}, PyProof.Rows.sortedS l = true → l.Pairwise leS
  | [], _ => .nil
  | x :: r, h => rising_pw r x h
theorem leS_anti {a b : Str} (h1 : leS a b) (h2 : leS b a) : a = b := by
  have e : a.cps.toList = b.cps.toList := List.le_antisymm h1 h2
  rw [← S_of a, ← S_of b, e]
theorem sort_unique : ∀ {ys zs : List Str}, ys.Pairwise leS → zs.Pairwise leS → ys.Perm zs → ys = zs
  | [], zs, _, _, p => (List.Perm.nil_eq p)
  | y :: r, [], _, _, p => by cases List.Perm.eq_nil p
  | y :: r, z :: t, h1, h2, p => by
    have my : y ∈ z :: t := p.mem_iff.mp List.mem_cons_self
    have mz : z ∈ y :: r := p.mem_iff.mpr List.mem_cons_self
    have e : y = z := by
      rcases List.mem_cons.mp my with e | my
      · exact e
      · rcases List.mem_cons.mp mz with e | mz
        · exact e.symm
        · exact leS_anti ((List.pairwise_cons.mp h1).1 z mz) ((List.pairwise_cons.mp h2).1 y my)
    subst e
    rw [sort_unique (List.pairwise_cons.mp h1).2 (List.pairwise_cons.mp h2).2 (List.Perm.cons_inv p)]
/-- two sorted orders of the same texts -/
theorem sorted_same {ys zs : List Str} (h1 : PyProof.Rows.sortedS ys = true) (h2 : PyProof.Rows.sortedS zs = true) (p : ys.Perm zs) : ys = zs := sort_unique (sorted_pw h1) (sorted_pw h2) p
theorem perm_codes {ys : List Str} {l : List Nat} (h : ys.Perm (l.map sOne)) : ∃ m : List Nat, m.Perm l ∧ ys = m.map sOne := by
  have dec : ∀ c, (sOne c).cps.getD 0 0 = c := fun c => rfl
  refine ⟨ys.map fun z => z.cps.getD 0 0, ?_, ?_⟩
  · have q := h.map fun z => z.cps.getD 0 0
    rw [List.map_map, show (fun z : Str => z.cps.getD 0 0) ∘ sOne = id from funext dec, List.map_id] at q
    exact q
  · rw [List.map_map]
    have q : ∀ y ∈ ys, (sOne ∘ fun z : Str => z.cps.getD 0 0) y = y := fun y hy => by
      obtain ⟨c, _, rfl⟩ := List.mem_map.mp (h.mem_iff.mp hy)
      rfl
    exact (List.map_id' ys ▸ List.map_congr_left q).symm
theorem map_one {a b : List Nat} (h : a.map sOne = b.map sOne) : a = b := by
  have dec : ∀ l : List Nat, (l.map sOne).map (fun z : Str => z.cps.getD 0 0) = l := fun l => by
    rw [List.map_map, show (fun z : Str => z.cps.getD 0 0) ∘ sOne = id from funext fun _ => rfl, List.map_id]
  rw [← dec a, h, dec]
theorem sg_same {a b c : List Nat} (h1 : PyProof.Rows.sortedS (a.map sOne) = true) (h2 : PyProof.Rows.sortedS (b.map sOne) = true) (p1 : a.Perm c) (p2 : b.Perm c) : a = b :=
  map_one (sorted_same h1 h2 ((p1.trans p2.symm).map sOne))
theorem Sgs.perm {a b : List Nat} (h : Sgs b) (p : a.Perm b) : Sgs a := ⟨fun c hc => h.low c (p.mem_iff.mp hc), p.nodup_iff.mpr h.nd, by rw [p.length_eq]; exact h.pos, by rw [p.length_eq]; exact h.few⟩
end Wb
/-! a loop is made -/
namespace Wb
open PySem L2 WbMin WbS Lz
abbrev sLoInit : Stmt := inClass (top 49) 0
abbrev sLoRow : Stmt := inClass (top 49) 6
abbrev sLoAnswer : Stmt := inClass (top 49) 9
abbrev sLoState : Stmt := inClass (top 49) 10
abbrev sLoText : Stmt := inClass (top 49) 14
abbrev sLoGone : Stmt := inClass (top 49) 15
abbrev sLoOf : Stmt := inClass (top 49) 16
theorem FunD_ok' {P : Program} {w : World} {K : PySem.W.Frag} {mg : Str → Option Value} {base : Heap} {x qual : Str} {params : Arguments} {body : List Stmt} {scope : Scope} {dvs : List V} {kws : List (Str × V)} {f : Addr} {fd : FuncData} {N ps : List Str} {k : Nat} {sp : Sp} (F : FunD K x qual params body scope dvs kws f fd) (S : FnScope N ps scope) (len : ∀ vs H Q E, sp vs H Q E → vs.length = ps.length)
    (hbody : ∀ (cdv : Value) (A : Around) (outer : List Env) (s : Shared) (H : Hp) (vs : List V) (Q : VK) (E : XK), Room k (A.deeper (PyProof.Rows.envOfC qual scope s.heap.objs.size f cdv)) → sp vs H Q E →
      ∃ t, PSs (cxOf CX0 P w K mg base N qual scope f cdv A outer s H E).nox body t ∧ t { nx := fun _ H' => Q .non H', rt := Q } (start N vs) H) : FnOk P w K mg base CX0 (k + 1) f fd ps sp :=
  F.ok S len fun cdv A outer s H vs Q E hr hsp => by
    obtain ⟨t, h, q⟩ := hbody cdv A outer s H vs Q E hr hsp
    exact ⟨t, h.nox, q⟩
/-- n positional values, keywords by name; the positional defaults stand in a tuple -/
theorem FunD_kbk {K : PySem.W.Frag} {x qual : Str} {params : Arguments} {body : List Stmt} {scope : Scope} {dvs : List V} {kws : List (Str × V)} {f : Addr} {fd : FuncData} {ps : List Str} (F : FunD K x qual params body scope dvs kws f fd) (n : Nat) (ks : List Str) (g : {α : Type} → List α → List α → List α → List α) (hd : dvs ≠ [])
    (hrel : ∀ {vs ds zs : List V} {us its ws : List Value}, Vals vs us → Vals ds its → Vals zs ws → Vals (g vs ds zs) (g us its ws))
    (h : ∀ (T : Addr) (kV doc pm : Value) (an : Option Addr) (cdv ct : Value) (us its ws : List Value), us.length = n → its.length = dvs.length → ws.length = ks.length →
      ∃ k, bindArgs (PySem.W.fnOf x qual params body scope (.ref T) kV doc pm an cdv ct) ⟨us, ks.zip ws⟩ = seqItems? (.ref T) >>= k ∧ k (some its.toArray) = pure (ps.zip (g us its ws))) :
    ∃ its : List Value, KBn K fd ps n ks (fun us ws => g us its ws) (fun vs zs => g vs dvs zs) := by
  obtain ⟨oc, od, dV, kV, doc, pm, an, cdv, ct, osl, rfl, lk, hcd, hD, hK⟩ := F.ex
  rcases hD with ⟨e, _⟩ | ⟨_, T, o, its, m, rfl, lT, oT, rT⟩
  · exact absurd e hd
  · refine ⟨its, ⟨fun s us ws X l1 l2 => ?_, fun r1 r2 => hrel r1 rT r2⟩⟩
    obtain ⟨k, e1, e2⟩ := h T kV doc pm an cdv ct us its ws l1 rT.length.symm l2
    refine BindsTo.of_looks fun M => ?_
    rw [e1]
    exact looks_items X lT oT (.of_pure e2)
/-- Loop(signs, states, rows, turns, yes=yes) -/
def gL {α : Type} : List α → List α → List α → List α
  | [r, a, b, c, d], _, [y] => [r, a, b, c, d, y]
  | _, _, _ => []
theorem gL_rel {vs ds zs : List V} {us its ws : List Value} (a : Vals vs us) (b : Vals ds its) (c : Vals zs ws) : Vals (gL vs ds zs) (gL us its ws) := by
  cases a with
  | nil => exact .nil
  | cons p1 a => cases a with
    | nil => exact .nil
    | cons p2 a => cases a with
      | nil => exact .nil
      | cons p3 a => cases a with
        | nil => exact .nil
        | cons p4 a => cases a with
          | nil => exact .nil
          | cons p5 a => cases a with
            | cons _ _ => exact .nil
            | nil => cases c with
              | nil => exact .nil
              | cons q t => cases t with
                | cons _ _ => exact .nil
                | nil => exact .cons p1 (.cons p2 (.cons p3 (.cons p4 (.cons p5 (.cons q .nil)))))
def lf (z : Str) (t rr u y tb : Addr) : List (Str × V) := putF "_table" (.ref tb) (putF "_yes" (.ref y) (putF "_turns" (.ref u) (putF "_rows" (.ref rr) (putF "_states" (.ref t) (putF "_signs" (.str z) [])))))
theorem lf_look (z : Str) (t rr u y tb : Addr) : (lf z t rr u y tb).lookup ("_signs" : Str) = some (.str z) ∧ (lf z t rr u y tb).lookup ("_states" : Str) = some (.ref t) ∧ (lf z t rr u y tb).lookup ("_rows" : Str) = some (.ref rr) ∧ (lf z t rr u y tb).lookup ("_turns" : Str) = some (.ref u) ∧ (lf z t rr u y tb).lookup ("_yes" : Str) = some (.ref y) ∧ (lf z t rr u y tb).lookup ("_table" : Str) = some (.ref tb) := by
  unfold lf
  refine ⟨?_, ?_, ?_, ?_, ?_, ?_⟩ <;> repeat (first | rw [lookup_putF, if_neg (by decide +kernel)] | rw [lookup_putF, if_pos rfl])
/-- a loop stands at r: its class C, its table's class T -/
def LoopAt (C T : Addr) (H : Hp) (r : Addr) (L : LD) : Prop := ∃ (dx t rr u y tb : Addr) (as bs : List Addr), H r = some (.ins C dx (lf (S L.sg) t rr u y tb)) ∧ Prt L t rr u y as bs H ∧ TableAt T H tb L
theorem LoopAt.same {C T : Addr} {H H' : Hp} {r : Addr} {L : LD} (s : Same H H') : LoopAt C T H r L → LoopAt C T H' r L := fun ⟨dx, t, rr, u, y, tb, as, bs, a, b, c⟩ => ⟨dx, t, rr, u, y, tb, as, bs, s _ _ a, b.same s, c.same s⟩
/-- what the top has written of Loop -/
structure LTxt (K : PySem.W.Frag) (mg : Str → Option Value) (C : Addr) : Prop where
  cl : Cls K C
  n1 : NoAttr K C "_signs"
  n2 : NoAttr K C "_states"
  n3 : NoAttr K C "_rows"
  n4 : NoAttr K C "_turns"
  n5 : NoAttr K C "_yes"
  n6 : NoAttr K C "_table"
structure LA where
  (C T O fI fW fAn fSt fTx fGo fOf pW tI tG cI cP cB : Addr)
  (dI dW dAn dSt dTx dGo dOf etI etG ecI ecP ecB : FuncData)
  (signs signof first isword isname isint intfrom stateof rowof turnof chst chro chtu chye orro ortu orye : Addr)
  (dsigns dsignof dfirst disword disname disint dintfrom dstateof drowof dturnof dchst dchro dchtu dchye dorro dortu dorye : FuncData)
/-- what the top has written of loops, tables and courses -/
structure LoopF (K : PySem.W.Frag) (mg : Str → Option Value) (A : LA) (e : Addr) : Prop where
  L : LTxt K mg A.C
  T : TTxt K mg A.T
  O : CTxt K mg A.O
  gT : mg "Table" = some (.ref A.T)
  gO : mg "Course" = some (.ref A.O)
  gL : mg "Loop" = some (.ref A.C)
  ML : Mk K A.C A.fI
  MT : Mk K A.T A.tI
  MO : Mk K A.O A.cI
  FI : ∃ y : V, FunD K "__init__" "Loop.__init__" (defArgs sLoInit) (defBody sLoInit) (defScope sLoInit) [.ref e] [("yes", y)] A.fI A.dI
  kI : ∃ its : List Value, KBn K A.dI ["self", "signs", "states", "rows", "turns", "yes"] 5 ["yes"] (fun us ws => Wb.gL us its ws) (fun vs zs => Wb.gL vs [.ref e] zs)
  FW : Fun K "row" "Loop.row" sLoRow A.fW A.dW
  bW : Binds K A.dW ["self"] []
  hW : PropOf K A.C "row" A.pW A.fW
  FAn : Fun K "answer" "Loop.answer" sLoAnswer A.fAn A.dAn
  bAn : Binds K A.dAn ["self", "text", "lap"] []
  mAn : Meth K A.C "answer" A.fAn
  FSt : Fun K "state" "Loop.state" sLoState A.fSt A.dSt
  bSt : Binds K A.dSt ["self", "text", "rounds"] []
  mSt : Meth K A.C "state" A.fSt
  FTx : Fun K "_check_text" "Loop._check_text" sLoText A.fTx A.dTx
  bTx : Binds K A.dTx ["self", "text"] []
  mTx : Meth K A.C "_check_text" A.fTx
  FGo : Fun K "_gone" "Loop._gone" sLoGone A.fGo A.dGo
  bGo : Binds K A.dGo ["self", "text"] []
  mGo : Meth K A.C "_gone" A.fGo
  FOf : Fun K "_answer_of" "Loop._answer_of" sLoOf A.fOf A.dOf
  bOf : Binds K A.dOf ["self", "course", "counts", "lap"] []
  mOf : Meth K A.C "_answer_of" A.fOf
  TI : Fun K "__init__" "Table.__init__" sTaInit A.tI A.etI
  bTI : Binds K A.etI ["self", "row"] []
  TG : Fun K "gone" "Table.gone" sTaGone A.tG A.etG
  bTG : Binds K A.etG ["self", "text", "start"] []
  mTG : Meth K A.T "gone" A.tG
  OI : Fun K "__init__" "Course.__init__" sCoInit A.cI A.ecI
  bOI : Binds K A.ecI ["self", "leads"] []
  OP : Fun K "place" "Course.place" sCoPlace A.cP A.ecP
  bOP : Binds K A.ecP ["self", "rounds"] []
  mOP : Meth K A.O "place" A.cP
  OB : Fun K "behind" "Course.behind" sCoBehind A.cB A.ecB
  bOB : Binds K A.ecB ["self", "rounds"] []
  mOB : Meth K A.O "behind" A.cB
  signs : Def K mg "is_signs" sIsSigns ["value"] A.signs A.dsigns
  signof : Def K mg "is_sign_of" sSignOf ["value", "signs"] A.signof A.dsignof
  first : Def K mg "first_wrong" sFirst ["values", "right"] A.first A.dfirst
  isword : Def K mg "is_word" sIsWord ["value"] A.isword A.disword
  isname : Def K mg "is_name" sIsName ["value"] A.isname A.disname
  isint : Def K mg "is_integer" sIsInt ["value"] A.isint A.disint
  stateof : Def K mg "is_state_of" sStateOf ["value", "states"] A.stateof A.dstateof
  rowof : Def K mg "is_row_of" sRowOf ["value", "signs", "states"] A.rowof A.drowof
  turnof : Def K mg "is_turn_of" sTurnOf ["value", "states"] A.turnof A.dturnof
  chst : Def K mg "check_states" sChSt ["states"] A.chst A.dchst
  chro : Def K mg "check_rows" sChRo ["rows", "signs", "states"] A.chro A.dchro
  chtu : Def K mg "check_turns" sChTu ["turns", "states"] A.chtu A.dchtu
  chye : Def K mg "check_yes" sChYe ["yes", "states"] A.chye A.dchye
  orro : Def K mg "ordered_rows" sOrRo ["rows", "signs", "states"] A.orro A.dorro
  ortu : Def K mg "ordered_turns" sOrTu ["turns", "states"] A.ortu A.dortu
  orye : Def K mg "ordered_yes" sOrYe ["yes", "states"] A.orye A.dorye
  w600 : ∃ t : Tok, mg "MOST_WORD" = some (.int 600 t)
  w4 : ∃ t : Tok, mg "MOST_SIGNS" = some (.int 4 t)
  w8 : ∃ t : Tok, mg "MOST_NAME" = some (.int 8 t)
  w6 : ∃ t : Tok, mg "MOST_STATES" = some (.int 6 t)
  tup : mg "tuple" = none
  enum : mg "enumerate" = none
  zip : mg "zip" = none
  sort : mg "sorted" = none
/-! ### the mathematics -/
theorem nm_mem {L : LD} {i : Nat} (h : i < L.n) : L.nm i ∈ L.st := List.mem_of_getElem? (nm_at h)
theorem rows_key_nd {L : LD} (O : L.Ok) : (L.rows.map Row.k).Nodup := by
  unfold LD.rows
  rw [List.map_flatMap]
  have inner : ∀ i, ((L.sg.map (L.row i)).map Row.k) = L.sg.map fun c => (L.nm i, S [c]) := fun i => by rw [List.map_map] <;> rfl
  have e : ((List.range L.n).flatMap fun i => (L.sg.map (L.row i)).map Row.k) = (List.range L.n).flatMap fun i => L.sg.map fun c => (L.nm i, S [c]) := by
    congr 1
    funext i
    exact inner i
  rw [e]
  have gen : ∀ l : List Nat, l.Nodup → (∀ i ∈ l, i < L.n) → (l.flatMap fun i => L.sg.map fun c => (L.nm i, S [c])).Nodup := by
    intro l
    induction l with
    | nil => exact fun _ _ => List.nodup_nil
    | cons a l ih =>
      intro nd hl
      obtain ⟨h1, h2⟩ := List.nodup_cons.mp nd
      rw [List.flatMap_cons, List.nodup_append]
      refine ⟨List.Pairwise.map _ (fun b c h q => h (by
        injection q with _ q
        have := S_inj q
        injection this)) O.sgs.nd, ih h2 fun i hi => hl i (List.mem_cons_of_mem _ hi), fun x hx y hy q => ?_⟩
      subst q
      obtain ⟨c, _, rfl⟩ := List.mem_map.mp hx
      obtain ⟨b, hb, hy⟩ := List.mem_flatMap.mp hy
      obtain ⟨d, _, q⟩ := List.mem_map.mp hy
      injection q with q _
      have := nm_inj O (hl b (List.mem_cons_of_mem _ hb)) (hl a List.mem_cons_self) q
      exact h1 (this ▸ hb)
  exact gen _ List.nodup_range fun i hi => List.mem_range.mp hi
theorem rows_at {L : LD} {i j : Nat} {c : Nat} (hi : i < L.n) (hc : L.sg[j]? = some c) : L.rows[i * L.sg.length + j]? = some (L.row i c) := by
  have hj : j < L.sg.length := (List.getElem?_eq_some_iff.mp hc).1
  unfold LD.rows
  have gen : ∀ (l : List Nat) (i : Nat), i < l.length → (l.flatMap fun i => L.sg.map (L.row i))[i * L.sg.length + j]? = some (L.row (l.getD i 0) c) := by
    intro l
    induction l with
    | nil => exact fun _ h => nomatch h
    | cons a l ih =>
      intro i hi
      rw [List.flatMap_cons]
      cases i with
      | zero =>
        rw [Nat.zero_mul, Nat.zero_add, List.getElem?_append_left (by rw [List.length_map]; exact hj), List.getElem?_map, hc] <;> rfl
      | succ i =>
        rw [List.getElem?_append_right (by rw [List.length_map, Nat.add_mul]; omega), List.length_map, show (i + 1) * L.sg.length + j - L.sg.length = i * L.sg.length + j by rw [Nat.add_mul]; omega]
        exact ih i (by simpa using hi)
  have q := gen (List.range L.n) i (by rw [List.length_range]; exact hi)
  rw [q, List.getD_eq_getElem?_getD, List.getElem?_range hi] <;> rfl
theorem ok_st {L : LD} (O : L.Ok) {z : Str} (h : z ∈ L.st) : PyData.strOk z = true := by
  obtain ⟨l, rfl, N⟩ := O.sts.of z h
  unfold PyData.strOk
  rw [Array.all_eq_true]
  intro i hi
  have m : (S l).cps[i] ∈ l := by
    have q : (S l).cps[i] ∈ (S l).cps.toList := Array.mem_toList_iff.mpr (Array.getElem_mem hi)
    rwa [S_cps] at q
  have q := N.ok _ m
  simp only [decide_eq_true_eq]
  omega
theorem ok_sign {L : LD} (O : L.Ok) {c : Nat} (h : c ∈ L.sg) : PyData.strOk (S [c]) = true := by
  have q := O.sgs.low c h
  unfold PyData.strOk
  rw [Array.all_eq_true]
  intro i hi
  have m : (S [c]).cps[i] ∈ [c] := by
    have q : (S [c]).cps[i] ∈ (S [c]).cps.toList := Array.mem_toList_iff.mpr (Array.getElem_mem hi)
    rwa [S_cps] at q
  rw [List.mem_singleton.mp m]
  simp only [decide_eq_true_eq]
  omega
theorem rows_by {L : LD} (O : L.Ok) {as : List Addr} (len : as.length = L.rows.length) : RowsBy L.st L.sg (L.rows.map Row.k) as as := by
  refine ⟨by rw [len, rows_length] <;> rfl, fun i j z c hz hc => ?_⟩
  have hi : i < L.n := (List.getElem?_eq_some_iff.mp hz).1
  have e : L.nm i = z := Option.some.inj ((nm_at hi).symm.trans hz)
  have q := rows_at hi hc
  have lt : i * L.sg.length + j < L.rows.length := (List.getElem?_eq_some_iff.mp q).1
  refine ⟨i * L.sg.length + j, as[i * L.sg.length + j]'(by omega), ?_, List.getElem?_eq_getElem _, List.getElem?_eq_getElem _⟩
  rw [List.getElem?_map, q, ← e] <;> rfl
theorem turns_a {L : LD} : L.turns.map Trn.a = L.st := by
  refine List.ext_getElem? fun i => ?_
  rw [List.getElem?_map]
  by_cases h : i < L.n
  · rw [turns_at h, nm_at h] <;> rfl
  · have h' : ¬ i < L.st.length := h
    rw [List.getElem?_eq_none (by rw [turns_length]; omega), List.getElem?_eq_none (by omega)] <;> rfl
theorem turns_by {L : LD} (O : L.Ok) : L.st.map (turnOf L.turns) = L.turns := by
  refine List.ext_getElem? fun i => ?_
  rw [List.getElem?_map]
  by_cases h : i < L.n
  · rw [turns_at h, nm_at h]
    exact congrArg some (turnOf_at (i := i) (by rw [turns_a]; exact O.sts.nd) (turns_at h))
  · have h' : ¬ i < L.st.length := h
    rw [List.getElem?_eq_none (l := L.st) (by omega), List.getElem?_eq_none (l := L.turns) (by rw [turns_length]; omega)] <;> rfl
theorem yes_filter {L : LD} (O : L.Ok) : (L.st.filter fun z => decide (z ∈ L.yes)) = L.yes := by
  have e : L.st = (List.range L.n).map L.nm := by
    refine List.ext_getElem? fun i => ?_
    by_cases h : i < L.n
    · rw [nm_at h, List.getElem?_map, List.getElem?_range h] <;> rfl
    · have h' : ¬ i < L.st.length := h
      rw [List.getElem?_eq_none (by omega), List.getElem?_eq_none (by rw [List.length_map, List.length_range]; omega)]
  conv => lhs; rw [e]
  rw [List.filter_map]
  unfold LD.yes
  congr 1
  refine List.filter_congr fun i hi => ?_
  exact yes_at O (List.mem_range.mp hi)
theorem yes_sub {L : LD} : ∀ z ∈ L.yes, z ∈ L.st := fun z hz => by
  obtain ⟨i, hi, rfl⟩ := List.mem_map.mp hz
  exact nm_mem (List.mem_range.mp (List.mem_filter.mp hi).1)
theorem yes_nd {L : LD} (O : L.Ok) : L.yes.Nodup := by
  rw [← yes_filter O]
  exact O.sts.nd.filter _
theorem yes_few {L : LD} (O : L.Ok) : L.yes.length ≤ 6 := by
  rw [← yes_filter O]
  exact Nat.le_trans (List.length_filter_le _ _) O.sts.few
end Wb
/-! a loop is made: the defs -/
namespace Wb
open PySem L2 WbMin WbS Lz
theorem Prt.row {L : LD} {t rr u y q : Addr} {as bs : List Addr} {H : Hp} (h : Prt L t rr u y as bs H) (e : H q = some (.tup [.str (S L.sg), .ref t, .ref rr, .ref u, .ref y])) : RowAt H q L :=
  ⟨t, rr, u, y, as, bs, e, h.ht, h.hr, h.hT, h.hu, h.hU, h.hy⟩
def spLoRow (C : Addr) : Sp := fun vs H Q _ => ∃ (r dx t rr u y : Addr) (fs : List (Str × V)) (z : Str), vs = [.ref r] ∧ H r = some (.ins C dx fs) ∧ fs.lookup ("_signs" : Str) = some (.str z) ∧ fs.lookup ("_states" : Str) = some (.ref t) ∧ fs.lookup ("_rows" : Str) = some (.ref rr) ∧ fs.lookup ("_turns" : Str) = some (.ref u) ∧ fs.lookup ("_yes" : Str) = some (.ref y) ∧
  ∀ q, H q = none → Q (.ref q) (L2.upd H q (.tup [.str z, .ref t, .ref rr, .ref u, .ref y]))
def spLoInit (C T : Addr) : Sp := fun vs H Q _ => ∃ (H0 : Hp) (r dx t rr u y : Addr) (as bs : List Addr) (L : LD), vs = [.ref r, .str (S L.sg), .ref t, .ref rr, .ref u, .ref y] ∧ L.Ok ∧ PyProof.Rows.sortedS (L.sg.map sOne) = true ∧ Prt L t rr u y as bs H ∧ Same H0 H ∧ H0 r = none ∧ H r = some (.ins C dx []) ∧
  ∀ H' : Hp, Same H0 H' → LoopAt C T H' r L → Q .non H'
section
variable {P : Program} {w : World} {K : PySem.W.Frag} {mg : Str → Option Value} {base : Heap} {A : LA} {e : Addr}
theorem scLR : FnScope ["self"] ["self"] (defScope sLoRow) := ⟨rfl, rfl, rfl, by decide +kernel, rfl, by decide +kernel, by decide +kernel⟩
theorem ok_lorow (D : LoopF K mg A e) : FnOk P w K mg base CX0 1 A.fW A.dW ["self"] (spLoRow A.C) := by
  refine D.FW.ok scLR (fun vs H Q E h => ?_) (fun cdv A' outer s H vs Q E hr h => ?_)
  · obtain ⟨r, dx, t, rr, u, y, fs, z, rfl, _⟩ := h
    rfl
  · obtain ⟨r, dx, t, rr, u, y, fs, z, rfl, h0, l1, l2, l3, l4, l5, k⟩ := h
    refine ⟨_, pss_one (ps_ret (pe_tup (pa_cons (pe_fld (pv 0) rfl) (pa_cons (pe_fld (pv 0) rfl) (pa_cons (pe_fld (pv 0) rfl) (pa_cons (pe_fld (pv 0) rfl) (pa_cons (pe_fld (pv 0) rfl) pa_nil))))))), ?_⟩
    exact ⟨_, rfl, r, A.C, dx, _, _, rfl, h0, D.L.cl, D.L.n1, l1, _, rfl, r, A.C, dx, _, _, rfl, h0, D.L.cl, D.L.n2, l2, _, rfl, r, A.C, dx, _, _, rfl, h0, D.L.cl, D.L.n3, l3, _, rfl, r, A.C, dx, _, _, rfl, h0, D.L.cl, D.L.n4, l4, _, rfl, r, A.C, dx, _, _, rfl, h0, D.L.cl, D.L.n5, l5, (by show 5 ≤ sizeLine; decide), fun q hq => k q hq⟩
theorem scLI : FnScope ["self", "signs", "states", "rows", "turns", "yes"] ["self", "signs", "states", "rows", "turns", "yes"] (defScope sLoInit) := ⟨rfl, rfl, rfl, by decide +kernel, rfl, by decide +kernel, by decide +kernel⟩
set_option maxHeartbeats 0 in
theorem ok_loinit (D : LoopF K mg A e) (Z : Free mg) : FnOk P w K mg base CX0 4 A.fI A.dI ["self", "signs", "states", "rows", "turns", "yes"] (spLoInit A.C A.T) := by
  obtain ⟨t600, g600⟩ := D.w600
  obtain ⟨t4, g4⟩ := D.w4
  obtain ⟨t8, g8⟩ := D.w8
  obtain ⟨t6, g6⟩ := D.w6
  have GS : FnOk P w K mg base CX0 2 A.signs A.dsigns ["value"] spIsSigns := ok_issigns D.signs.F Z D.isword t600 g600 t4 g4
  have G1 : FnOk P w K mg base CX0 2 A.chst A.dchst ["states"] spChSt := ok_chst D.chst.F Z D.tup D.enum t8 g8 t6 g6 D.isname D.first
  have G2 : FnOk P w K mg base CX0 3 A.chro A.dchro ["rows", "signs", "states"] spChRo := ok_chro D.chro.F Z D.tup D.enum D.zip D.rowof D.stateof D.signof D.isint D.first
  have G3 : FnOk P w K mg base CX0 3 A.chtu A.dchtu ["turns", "states"] spChTu := ok_chtu D.chtu.F Z D.tup D.enum D.zip D.turnof D.stateof D.isint D.first
  have G4 : FnOk P w K mg base CX0 2 A.chye A.dchye ["yes", "states"] spChYe := ok_chye D.chye.F Z D.tup D.enum D.stateof D.first
  have O1 : FnOk P w K mg base CX0 1 A.orro A.dorro ["rows", "signs", "states"] spOrRo := ok_orro D.orro.F D.tup
  have O2 : FnOk P w K mg base CX0 1 A.ortu A.dortu ["turns", "states"] spOrTu := ok_ortu D.ortu.F D.tup
  have O3 : FnOk P w K mg base CX0 1 A.orye A.dorye ["yes", "states"] spOrYe := ok_orye D.orye.F D.tup
  have GT : FnOk P w K mg base CX0 1 A.tI A.etI ["self", "row"] (spTaInit A.T) := ok_tainit D.TI D.T Z D.tup D.enum
  have GW : FnOk P w K mg base CX0 1 A.fW A.dW ["self"] (spLoRow A.C) := ok_lorow D
  obtain ⟨_, FI⟩ := D.FI
  refine FunD_ok' FI scLI (fun vs H Q E h => ?_) (fun cdv A' outer s H vs Q E hr h => ?_)
  · obtain ⟨H0, r, dx, t, rr, u, y, as, bs, L, rfl, _⟩ := h
    rfl
  · obtain ⟨H0, r, dx, t, rr, u, y, as, bs, L, rfl, O, srtL, pr, s0, r0, hp, k⟩ := h
    have hr1 : Room 1 _ := hr.mono (by decide)
    have hr2 : Room 2 _ := hr.mono (by decide)
    refine ⟨_, pss_cons (ps_if (pt_not (pt_val (pe_call GS hr2 rfl D.signs.g D.signs.kp D.signs.b .nil pass0 (pa_cons (pv 1) pa_nil)))) (pss_one ps_never) pss_nil)
      (pss_cons (ps_expr (pe_call G1 hr2 rfl D.chst.g D.chst.kp D.chst.b .nil pass0 (pa_cons (pv 2) pa_nil)))
      (pss_cons (ps_expr (pe_call G2 hr rfl D.chro.g D.chro.kp D.chro.b .nil pass0 (pa_cons (pv 3) (pa_cons (pv 1) (pa_cons (pv 2) pa_nil)))))
      (pss_cons (ps_expr (pe_call G3 hr rfl D.chtu.g D.chtu.kp D.chtu.b .nil pass0 (pa_cons (pv 4) (pa_cons (pv 2) pa_nil))))
      (pss_cons (ps_expr (pe_call G4 hr2 rfl D.chye.g D.chye.kp D.chye.b .nil pass0 (pa_cons (pv 5) (pa_cons (pv 2) pa_nil))))
      (pss_cons (ps_fld (pv 0) (pe_join pe_str (pe_callB (call_sortedTx rfl) (by rfl) D.sort (by decide +kernel) (pa_cons (pv 1) pa_nil))) rfl)
      (pss_cons (ps_fld (pv 0) (pv 2) rfl)
      (pss_cons (ps_fld (pv 0) (pe_call O1 hr1 rfl D.orro.g D.orro.kp D.orro.b .nil pass0 (pa_cons (pv 3) (pa_cons (pe_fld (pv 0) rfl) (pa_cons (pv 2) pa_nil)))) rfl)
      (pss_cons (ps_fld (pv 0) (pe_call O2 hr1 rfl D.ortu.g D.ortu.kp D.ortu.b .nil pass0 (pa_cons (pv 4) (pa_cons (pv 2) pa_nil))) rfl)
      (pss_cons (ps_fld (pv 0) (pe_call O3 hr1 rfl D.orye.g D.orye.kp D.orye.b .nil pass0 (pa_cons (pv 5) (pa_cons (pv 2) pa_nil))) rfl)
      (pss_one (ps_fld (pv 0) (pe_make D.MT GT hr2 rfl D.gT D.bTI .nil pass0 (pa_cons (pe_prop (pv 0) D.L.cl D.hW GW hr2 D.bW .nil pass0 rfl) pa_nil)) rfl))))))))))), ?_⟩
    have sf := O.sts.few
    have sgf := O.sgs.few
    have few := rows_few O
    have lenA : as.length = L.rows.length := by rw [pr.hT.length, List.length_map]
    have tl := turns_length L
    have n6 : L.n ≤ 6 := sf
    refine ⟨_, rfl, L.sg, rfl, O.sgs, fun H1 s1 => ⟨true, rfl, ?_⟩⟩
    have p1 := pr.same s1
    refine ⟨_, rfl, t, L.st, rfl, p1.ht, O.sts, fun H2 s2 => ?_⟩
    have p2 := p1.same s2
    refine ⟨_, rfl, _, rfl, _, rfl, rr, t, L.sg, as, L.rows, L.st, rfl, p2.hr, p2.hT, p2.ht, ?_, rows_key_nd O, ?_, sgf, sf, ?_, fun H3 s3 => ?_⟩
    · intro ρ hρ
      obtain ⟨i, c, hi, hc, rfl⟩ := rows_mem hρ
      exact ⟨nm_mem hi, hc, nm_mem (O.nxlt i c hi hc)⟩
    · intro ρ hρ
      obtain ⟨i, c, hi, hc, rfl⟩ := rows_mem hρ
      exact ⟨ok_st O (nm_mem hi), ok_sign O hc⟩
    · rw [rows_length, Nat.mul_comm] <;> rfl
    have p3 := p2.same s3
    refine ⟨_, rfl, _, rfl, u, t, bs, L.turns, L.st, rfl, p3.hu, p3.hU, p3.ht, ?_, by rw [turns_a]; exact O.sts.nd, by omega, fun H4 s4 => ?_⟩
    · intro ρ hρ
      obtain ⟨i, hi, rfl⟩ := List.mem_map.mp hρ
      have hi := List.mem_range.mp hi
      exact ⟨nm_mem hi, nm_mem (O.tnlt i hi)⟩
    have p4 := p3.same s4
    refine ⟨_, rfl, _, rfl, y, t, L.yes, L.st, rfl, p4.hy, p4.ht, yes_sub, yes_nd O, yes_few O, fun H5 s5 => ?_⟩
    have s05 : Same H H5 := (((s1.trans s2).trans s3).trans s4).trans s5
    have S5 : Same H0 H5 := s0.trans s05
    have hr5 : H5 r = some (.ins A.C dx []) := s05 _ _ hp
    clear p1 p2 p3 p4 s1 s2 s3 s4 s5
    -- signs
    have pos := O.sgs.pos
    refine ⟨⟨_, rfl⟩, _, rfl, S L.sg, rfl, by rw [S_len]; omega, fun ys p perm srt hp' => ?_⟩
    rw [S_cps] at perm
    obtain ⟨sg, hsg, rfl⟩ := perm_codes perm
    obtain rfl : sg = L.sg := sg_same srt srtL hsg (.refl _)
    have nrp : r ≠ p := ne_of_none hr5 hp'
    refine ⟨_, p, L.sg.map sOne, rfl, rfl, .inl (SqL.of upd_same), ?_, ?_⟩
    · have e1 : ((L.sg.map sOne).map fun x => x.length) = List.replicate L.sg.length 1 := by
        rw [List.map_map]
        exact List.map_eq_replicate_iff.mpr fun _ _ => rfl
      have e2 : (Str.ofString "").length = 0 := by decide +kernel
      rw [e1, e2, List.sum_replicate_nat]
      omega
    have ej : Txt.join (Str.ofString "") (L.sg.map sOne) = S L.sg := join_one pos
    rw [ej]
    refine ⟨_, rfl, r, A.C, dx, _, rfl, (upd_ne nrp).trans hr5, D.L.cl, D.L.n1, (by show 0 < 1000; decide), ?_⟩
    have B6 : But r H (L2.upd (L2.upd H5 p (.lst ((L.sg.map sOne).map V.str))) r (.ins A.C dx (putF "_signs" (.str (S L.sg)) []))) := But.here ((But.of s05).upd hp')
    have S6 : Same H0 (L2.upd (L2.upd H5 p (.lst ((L.sg.map sOne).map V.str))) r (.ins A.C dx (putF "_signs" (.str (S L.sg)) []))) := Same.new' (Same.put S5 hp') r0
    have hr6 : (L2.upd (L2.upd H5 p (.lst ((L.sg.map sOne).map V.str))) r (.ins A.C dx (putF "_signs" (.str (S L.sg)) []))) r = some (.ins A.C dx (putF "_signs" (.str (S L.sg)) [])) := upd_same
    generalize L2.upd (L2.upd H5 p (.lst ((L.sg.map sOne).map V.str))) r (.ins A.C dx (putF "_signs" (.str (S L.sg)) [])) = H6 at B6 S6 hr6 ⊢
    -- states
    refine ⟨_, rfl, _, rfl, r, A.C, dx, _, rfl, hr6, D.L.cl, D.L.n2, (by show 1 < 1000; decide), ?_⟩
    have B7 : But r H (L2.upd H6 r (.ins A.C dx (putF "_states" (.ref t) (putF "_signs" (.str (S L.sg)) [])))) := But.here B6
    have S7 : Same H0 (L2.upd H6 r (.ins A.C dx (putF "_states" (.ref t) (putF "_signs" (.str (S L.sg)) [])))) := Same.new' S6 r0
    have hr7 : (L2.upd H6 r (.ins A.C dx (putF "_states" (.ref t) (putF "_signs" (.str (S L.sg)) [])))) r = some (.ins A.C dx (putF "_states" (.ref t) (putF "_signs" (.str (S L.sg)) []))) := upd_same
    generalize L2.upd H6 r (.ins A.C dx (putF "_states" (.ref t) (putF "_signs" (.str (S L.sg)) []))) = H7 at B7 S7 hr7 ⊢
    have p7 : Prt L t rr u y as bs H7 := pr.but (fun x => by intro q; cases q) hp B7
    -- rows
    refine ⟨_, rfl, _, rfl, r, A.C, dx, _, _, rfl, hr7, D.L.cl, D.L.n1, (by rw [lookup_putF, if_neg (by decide +kernel), lookup_putF, if_pos rfl]), _, rfl, rr, t, L.sg, as, as, L.rows, L.st, rfl, p7.hr, p7.hT, p7.ht, rows_key_nd O, few, rows_by O lenA, by omega, fun rr' H8 n8 s8 hrr => ?_⟩
    refine ⟨_, rfl, r, A.C, dx, _, rfl, s8 _ _ hr7, D.L.cl, D.L.n3, (by show 2 < 1000; decide), ?_⟩
    have nrr : rr' ≠ r := ne_of_none' hr7 n8
    generalize e8 : putF "_rows" (.ref rr') (putF "_states" (.ref t) (putF "_signs" (.str (S L.sg)) [])) = fs8
    have B8 : But r H (L2.upd H8 r (.ins A.C dx fs8)) := But.here (B7.trans (But.of s8))
    have S8 : Same H0 (L2.upd H8 r (.ins A.C dx fs8)) := Same.new' (S7.trans s8) r0
    have hr8 : (L2.upd H8 r (.ins A.C dx fs8)) r = some (.ins A.C dx fs8) := upd_same
    have hrr8 : (L2.upd H8 r (.ins A.C dx fs8)) rr' = some (.tup (as.map V.ref)) := (upd_ne nrr).trans hrr
    generalize L2.upd H8 r (.ins A.C dx fs8) = H9 at B8 S8 hr8 hrr8 ⊢
    have p8 : Prt L t rr u y as bs H9 := pr.but (fun x => by intro q; cases q) hp B8
    -- turns
    refine ⟨_, rfl, _, rfl, u, t, bs, L.turns, L.st, rfl, p8.hu, p8.hU, p8.ht, by rw [turns_a]; exact O.sts.nd, by omega, sf, fun u' bs' H10 n10 s10 hu' hU' => ?_⟩
    rw [turns_by O] at hU'
    refine ⟨_, rfl, r, A.C, dx, _, rfl, s10 _ _ hr8, D.L.cl, D.L.n4, (by rw [← e8]; show 3 < 1000; decide), ?_⟩
    have nuu : u' ≠ r := ne_of_none' hr8 n10
    generalize e10 : putF "_turns" (.ref u') fs8 = fs10
    have B10 : But r H (L2.upd H10 r (.ins A.C dx fs10)) := But.here (B8.trans (But.of s10))
    have S10 : Same H0 (L2.upd H10 r (.ins A.C dx fs10)) := Same.new' (S8.trans s10) r0
    have hr10 : (L2.upd H10 r (.ins A.C dx fs10)) r = some (.ins A.C dx fs10) := upd_same
    have hrr10 : (L2.upd H10 r (.ins A.C dx fs10)) rr' = some (.tup (as.map V.ref)) := (upd_ne nrr).trans (s10 _ _ hrr8)
    have hu10 : (L2.upd H10 r (.ins A.C dx fs10)) u' = some (.tup (bs'.map V.ref)) := (upd_ne nuu).trans hu'
    have hU10 : Tups (L2.upd H10 r (.ins A.C dx fs10)) bs' (L.turns.map Trn.v) := Tups.but (fun x => by intro q; cases q) (s10 _ _ hr8) (But.here (But.refl r _)) hU'
    generalize L2.upd H10 r (.ins A.C dx fs10) = H11 at B10 S10 hr10 hrr10 hu10 hU10 ⊢
    have p10 : Prt L t rr u y as bs H11 := pr.but (fun x => by intro q; cases q) hp B10
    -- yes
    refine ⟨_, rfl, _, rfl, y, t, L.yes, L.st, rfl, p10.hy, p10.ht, sf, fun y' H12 n12 s12 hy' => ?_⟩
    rw [yes_filter O] at hy'
    refine ⟨_, rfl, r, A.C, dx, _, rfl, s12 _ _ hr10, D.L.cl, D.L.n5, (by rw [← e10, ← e8]; show 4 < 1000; decide), ?_⟩
    have nyy : y' ≠ r := ne_of_none' hr10 n12
    generalize e12 : putF "_yes" (.ref y') fs10 = fs12
    have B12 : But r H (L2.upd H12 r (.ins A.C dx fs12)) := But.here (B10.trans (But.of s12))
    have S12 : Same H0 (L2.upd H12 r (.ins A.C dx fs12)) := Same.new' (S10.trans s12) r0
    have hr12 : (L2.upd H12 r (.ins A.C dx fs12)) r = some (.ins A.C dx fs12) := upd_same
    have hy12 : (L2.upd H12 r (.ins A.C dx fs12)) y' = some (.tup (L.yes.map V.str)) := (upd_ne nyy).trans hy'
    have hrr12 : (L2.upd H12 r (.ins A.C dx fs12)) rr' = some (.tup (as.map V.ref)) := (upd_ne nrr).trans (s12 _ _ hrr10)
    have hu12 : (L2.upd H12 r (.ins A.C dx fs12)) u' = some (.tup (bs'.map V.ref)) := (upd_ne nuu).trans (s12 _ _ hu10)
    have hU12 : Tups (L2.upd H12 r (.ins A.C dx fs12)) bs' (L.turns.map Trn.v) := Tups.but (fun x => by intro q; cases q) (s12 _ _ hr10) (But.here (But.refl r _)) (hU10.same s12)
    generalize L2.upd H12 r (.ins A.C dx fs12) = H13 at B12 S12 hr12 hy12 hrr12 hu12 hU12 ⊢
    have p12 : Prt L t rr u y as bs H13 := pr.but (fun x => by intro q; cases q) hp B12
    have q12 : Prt L t rr' u' y' as bs' H13 := ⟨p12.ht, hrr12, p12.hT, hu12, hU12, hy12⟩
    -- the table
    have look : fs12.lookup ("_signs" : Str) = some (.str (S L.sg)) ∧ fs12.lookup ("_states" : Str) = some (.ref t) ∧ fs12.lookup ("_rows" : Str) = some (.ref rr') ∧ fs12.lookup ("_turns" : Str) = some (.ref u') ∧ fs12.lookup ("_yes" : Str) = some (.ref y') := by
      rw [← e12, ← e10, ← e8]
      refine ⟨?_, ?_, ?_, ?_, ?_⟩ <;> repeat (first | rw [lookup_putF, if_neg (by decide +kernel)] | rw [lookup_putF, if_pos rfl])
    obtain ⟨k1, k2, k3, k4, k5⟩ := look
    refine ⟨_, rfl, r, dx, _, rfl, hr12, r, dx, t, rr', u', y', _, _, rfl, hr12, k1, k2, k3, k4, k5, fun q hq tb dxt htb hdx ne => ?_⟩
    have sq := Same.put (o := .tup [.str (S L.sg), .ref t, .ref rr', .ref u', .ref y']) (Same.refl H13) hq
    have hq14 : (L2.upd H13 q (.tup [.str (S L.sg), .ref t, .ref rr', .ref u', .ref y'])) q = some (.tup [.str (S L.sg), .ref t, .ref rr', .ref u', .ref y']) := upd_same
    generalize L2.upd H13 q (.tup [.str (S L.sg), .ref t, .ref rr', .ref u', .ref y']) = H14 at sq hq14 htb hdx ⊢
    have sm : Same H14 (L2.upd (L2.upd H14 dxt (.own tb)) tb (.ins A.T dxt [])) := Same.new' (Same.new' (Same.refl H14) hdx) htb
    refine ⟨H14, tb, dxt, q, L, rfl, O, ((q12.same sq).same sm).row (sm _ _ hq14), sm, htb, upd_same, fun H15 s15 TA => ⟨rfl, ?_⟩⟩
    have s16 := sq.trans s15
    have ntb : tb ≠ r := ne_of_none' (sq _ _ hr12) htb
    refine ⟨_, rfl, r, A.C, dx, _, rfl, s16 _ _ hr12, D.L.cl, D.L.n6, (by rw [← e12, ← e10, ← e8]; show 5 < 1000; decide), ?_⟩
    have hr16 := s16 _ _ hr12
    refine k _ (Same.new' (S12.trans s16) r0) ⟨dx, t, rr', u', y', tb, as, bs', ?_, ?_, ?_⟩
    · rw [upd_same, ← e12, ← e10, ← e8] <;> rfl
    · exact (q12.same s16).but (o := .ins A.C dx fs12) (fun x => by intro q; cases q) hr16 (But.here (But.refl r _))
    · exact TA.but ntb hr16 (But.here (But.refl r _))
end
end Wb
/-! a loop is asked -/
namespace Wb
open PySem L2 WbMin WbS Lz
abbrev sIsIntF : Stmt := top 9
/-- where a round leads, and its count -/
def LD.lead (L : LD) (w : List Nat) (i : Nat) : Nat := (L.gone w i).1
def LD.cnt (L : LD) (w : List Nat) (i : Nat) : Int := (L.gone w i).2
theorem lf_none (z : Str) (t rr u y tb : Addr) : (lf z t rr u y tb).lookup ("_check_text" : Str) = none ∧ (lf z t rr u y tb).lookup ("_gone" : Str) = none ∧ (lf z t rr u y tb).lookup ("_answer_of" : Str) = none ∧ (lf z t rr u y tb).lookup ("answer" : Str) = none ∧ (lf z t rr u y tb).lookup ("state" : Str) = none := by
  unfold lf
  refine ⟨?_, ?_, ?_, ?_, ?_⟩ <;> (repeat rw [lookup_putF, if_neg (by decide +kernel)]) <;> rfl
section
variable {P : Program} {w : World} {K : PySem.W.Frag} {mg : Str → Option Value} {base : Heap} {A : LA} {e : Addr} {f fI : Addr} {fd dI : FuncData}
end
end Wb
/-! the ways of a statement, an expression and a test brought together -/
namespace Lz
open PySem PySem.Spec PyProof.Rows L2
section
variable {X : Cx}
def tJoin (t : TS) : TS := fun D σ H => ∃ T : L2.St → Hp → Prop, t { D with nx := T } σ H ∧ ∀ σ' H', T σ' H' → D.nx σ' H'
theorem ps_join {st : Stmt} {t : TS} (h : PS X st t) : PS X st (tJoin t) := by
  refine ⟨fun pins s σ H D I ⟨T, q, k⟩ => thn (h.run pins s σ H _ I q) fun f s' z => ?_⟩
  cases f with
  | next => obtain ⟨σ', H', I', w⟩ := z; exact ⟨σ', H', I', k _ _ w⟩
  | ret u => exact z
  | brk => exact z
  | cont => exact z
def tJoinE (t : TE) : TE := fun σ H Q => ∃ T : V → Hp → Prop, t σ H T ∧ ∀ x H', T x H' → Q x H'
theorem pe_joinE {e : Expr} {t : TE} (h : PE X e t) : PE X e (tJoinE t) := by
  refine ⟨fun pins s σ H Q I ⟨T, q, k⟩ => thn (h.run pins s σ H _ I q) fun f s' z => ?_⟩
  obtain ⟨x, H', I', r, w⟩ := z
  exact ⟨x, H', I', r, k _ _ w⟩
end
end Lz
namespace Wb
open PySem L2 WbMin WbS Lz
abbrev sName : Stmt := top 60
abbrev sNames : Stmt := top 61
abbrev sAmount : Stmt := top 62
def spName : Sp := fun vs H Q _ => ∃ (p F : Addr) (zs : List Str), vs = [.ref p, .ref F] ∧ PoolAt H p ∧ H F = some (.lst (zs.map V.str)) ∧ (∀ z ∈ zs, ∃ l, z = S l ∧ IsNm l) ∧ zs.length ≤ 8 ∧
  ∀ (l : List Nat) (H' : Hp), IsNm l → S l ∉ zs → PoolAt H' p → But p H H' → Q (.str (S l)) H'
def spNames : Sp := fun vs H Q _ => ∃ (p : Addr) (m : Nat), vs = [.ref p, .int (m : Nat)] ∧ 0 < m ∧ m ≤ 6 ∧ PoolAt H p ∧
  ∀ (a : Addr) (st : List Str) (H' : Hp), Sts st → st.length = m → H' a = some (.lst (st.map V.str)) → H a = none → PoolAt H' p → But p H H' → Q (.ref a) H'
def spAmount : Sp := fun vs H Q _ => ∃ (p : Addr) (b : Bool), vs = [.ref p, .bl b] ∧ PoolAt H p ∧ ∀ (m : Int) (H' : Hp), m.natAbs < 2 ^ 100 → PoolAt H' p → But p H H' → Q (.int m) H'
theorem join_any (l : List Nat) : Txt.join (Str.ofString "") (l.map one) = S l := by
  cases l with
  | cons c l => exact join_one (Nat.succ_pos _)
  | nil =>
    have e0 : (Str.ofString "" : Str) = S [] := by decide +kernel
    rw [e0]
    show Builtin.Str.glued (S []) [] = S []
    rw [StrLaws.glued_eq_join] <;> rfl
theorem pool_ne {H : Hp} {p F : Addr} {zs : List Str} (hp : PoolAt H p) (h : H F = some (.lst (zs.map V.str))) : F ≠ p := by
  obtain ⟨x, y, z, e3, _⟩ := hp
  intro q
  subst q
  rw [e3] at h
  injection h with q
  injection q with q
  cases zs with
  | nil => cases q
  | cons a zs => cases q
theorem nat_of {d : Int} (h : 0 ≤ d) : ∃ n : Nat, d = (n : Int) := ⟨d.toNat, (Int.toNat_of_nonneg h).symm⟩
def marks : List Nat := abc ++ (List.range 10).map (· + 48)
theorem marks_is : ("abcdefghijklmnopqrstuvwxyz0123456789" : Str) = S marks := by decide +kernel
theorem marks_len : marks.length = 36 := rfl
theorem marks_ok : ∀ c ∈ marks, (97 ≤ c ∧ c ≤ 122) ∨ (48 ≤ c ∧ c ≤ 57) := by unfold marks abc; decide
theorem marks_lo : ∀ i, i < 26 → 97 ≤ marks.getD i 0 ∧ marks.getD i 0 ≤ 122 := by unfold marks abc; decide
theorem cut_to {l : List Nat} {i : Nat} : cutS (S l) none (some (i : Int)) = S (l.take i) := by
  show S _ = S _
  rw [HT.sIx_none, HT.sIx_nat, S_len, S_cps, List.drop_zero, Nat.sub_zero]
  refine congrArg S ?_
  by_cases h : i ≤ l.length
  · rw [Nat.min_eq_left h]
  · rw [Nat.min_eq_right (by omega), List.take_length, List.take_of_length_le (by omega)]
theorem cut_from {l : List Nat} {i : Nat} : cutS (S l) (some (i : Int)) none = S (l.drop i) := by
  show S _ = S _
  rw [HT.sIx_none, HT.sIx_nat, S_len, S_cps]
  refine congrArg S ?_
  by_cases h : i ≤ l.length
  · rw [Nat.min_eq_left h]
    exact List.take_of_length_le (by rw [List.length_drop]; omega)
  · rw [Nat.min_eq_right (by omega), Nat.sub_self, List.take_zero, List.drop_eq_nil_of_le (by omega)]
theorem eqv_nil {α : Type} (f : α → PyData) : ∀ zs : List α, PyData.eqv (.list (zs.map f)) (.list []) = zs.isEmpty
  | [] => rfl
  | _ :: _ => rfl
theorem dp_strs {K : PySem.W.Frag} {H : Hp} : ∀ zs : List Str, DpAll K H (zs.map V.str) (zs.map PyData.str)
  | [] => .nil
  | z :: r => .cons (.str z) (dp_strs r)
theorem can_strs : ∀ {zs : List Str}, (∀ z ∈ zs, PyData.strOk z = true) → PyData.canLayAll0 (zs.map PyData.str) = true
  | [], _ => rfl
  | z :: r, h => by
    show (PyData.strOk z && PyData.canLayAll0 (r.map PyData.str)) = true
    rw [h z List.mem_cons_self, can_strs fun y q => h y (List.mem_cons_of_mem _ q)] <;> rfl
theorem shaped_strs {zs : List Str} (h : ∀ z ∈ zs, PyData.strOk z = true) : SeqAt.shaped (.list (zs.map PyData.str)) = true := by
  have d : PyData.depth (.list (zs.map PyData.str)) = 1 := by
    show PyData.depthAll (zs.map PyData.str) + 1 = 1
    rw [depthAll_strs]
  unfold SeqAt.shaped
  rw [d]
  show (PyData.canLayAll0 (zs.map PyData.str) && decide (1 ≤ 64)) = true
  rw [can_strs h] <;> rfl
theorem ok_codes {l : List Nat} (h : ∀ c ∈ l, c < 1000) : PyData.strOk (S l) = true := by
  unfold PyData.strOk
  rw [Array.all_eq_true]
  intro i hi
  have m : (S l).cps[i] ∈ l := by
    have q : (S l).cps[i] ∈ (S l).cps.toList := Array.mem_toList_iff.mpr (Array.getElem_mem hi)
    rwa [S_cps] at q
  have q := h _ m
  simp only [decide_eq_true_eq]
  omega
theorem IsNm.low {l : List Nat} (h : IsNm l) : ∀ c ∈ l, c < 1000 := fun c hc => by
  have := h.ok c hc
  omega
/-- the spare names -/
def spare : List Str := (marks.take 9).map fun c => S [122, c]
theorem spare_nm : ∀ z ∈ spare, ∃ l, z = S l ∧ IsNm l := fun z hz => by
  obtain ⟨c, hc, rfl⟩ := List.mem_map.mp hz
  refine ⟨_, rfl, by show 0 < 2; decide, by show 2 ≤ 8; decide, ⟨by show 97 ≤ 122; decide, by show 122 ≤ 122; decide⟩, fun d hd => ?_⟩
  rcases List.mem_cons.mp hd with rfl | hd
  · exact .inl ⟨by decide, by decide⟩
  · rw [List.mem_singleton.mp hd]
    exact marks_ok c (List.mem_of_mem_take hc)
theorem spare_nd : spare.Nodup := List.Pairwise.map _ (fun a b n e => n (by
  have q := S_inj e
  injection q with _ q
  injection q)) (show (marks.take 9).Nodup by unfold marks abc; decide)
theorem spare_len : spare.length = 9 := rfl
theorem spare_left {zs : List Str} (h : zs.length ≤ 8) (x : Str) : 0 < ((x :: spare).filter fun z => !decide (z ∈ zs)).length := by
  apply Nat.pos_of_ne_zero
  intro e
  have all : ∀ z ∈ spare, z ∈ zs := fun z hz => by
    have q := List.filter_eq_nil_iff.mp (List.eq_nil_of_length_eq_zero e) z (List.mem_cons_of_mem _ hz)
    simpa using q
  have := few_of_sub zs spare spare_nd all
  rw [spare_len] at this
  omega
section
variable {P : Program} {w : World} {K : PySem.W.Frag} {mg : Str → Option Value} {base : Heap} {f fD fN : Addr} {fd fdD dN : FuncData}
abbrev NNm : List Str := ["_law_pool_here", "_law_found", "_law_marks", "_law_near", "_law_turn", "_law_old", "_law_at", "_law_spares", "_law_mate", "_law_mark"]
theorem scNN : FnScope NNm ["_law_pool_here", "_law_found"] (defScope sName) := ⟨rfl, rfl, rfl, by decide +kernel, rfl, by decide +kernel, by decide +kernel⟩
set_option maxHeartbeats 0 in
theorem ok_name (F : Fun K "_law_name" "_law_name" sName f fd) (D : Def K mg "_law_draw" sDraw ["_law_pool_here", "_law_many"] fD fdD) (Z : Free mg) : FnOk P w K mg base CX0 2 f fd ["_law_pool_here", "_law_found"] spName := by
  have G : FnOk P w K mg base CX0 1 fD fdD ["_law_pool_here", "_law_many"] spDraw := ok_draw D.F Z.int Z.divmod
  refine F.ok scNN (fun vs H Q E h => ?_) (fun cdv A outer s H vs Q E hr h => ?_)
  · obtain ⟨p, F, zs, rfl, _⟩ := h
    rfl
  · obtain ⟨p, F, zs, rfl, hp, hF, nms, few, k⟩ := h
    refine ⟨_, pss_cons (ps_set (i := 2) scNN.nd rfl (.inr rfl) pe_str)
      (pss_cons (ps_set (i := 3) scNN.nd rfl (.inl rfl) (pe_ix ix_str (pv 2) (pe_call G hr rfl D.g D.kp D.b .nil pass0 (pa_cons (pv 0) (pa_cons pe_int pa_nil))) (fun _ _ => rfl)))
      (pss_cons (ps_set (i := 3) scNN.nd rfl (.inl rfl) (pe_op op_add_str (pv 3) (pe_join pe_str
        (pe_lc (own := [("_law_turn", 4)]) (g := gName 4) (tt := tYes) rfl scNN.nd (pi_range1 rfl Z.range (pa_cons (pe_call G hr rfl D.g D.kp D.b .nil pass0 (pa_cons (pv 0) (pa_cons pe_int pa_nil))) pa_nil))
          (blkOk_by (N := NNm) (sc := defScope sName) (by decide +kernel)) (fun _ _ _ _ _ => pg_name (i := 4) scNN.nd rfl (.inl rfl)) (fun _ _ _ _ _ => pts_nil)
          (fun _ _ _ _ _ => pe_ix ix_str (pv 2) (pe_call G hr rfl D.g D.kp D.b .nil pass0 (pa_cons (pv 0) (pa_cons pe_int pa_nil))) (fun _ _ => rfl))))))
      (pss_cons (ps_join (ps_if (PW.pt (pw_and (pt_cmpR (op_neD hr.units) (pv 1) (pe_lst pa_nil) (nomark _)) (pw_and1 (pt_cmpR op_gt (pe_call G hr rfl D.g D.kp D.b .nil pass0 (pa_cons (pv 0) (pa_cons pe_int pa_nil))) pe_int (nomark _)))))
        (pss_cons (ps_set (i := 5) scNN.nd rfl (.inl rfl) (pe_ix ix_list (pv 1) (pe_call G hr rfl D.g D.kp D.b .nil pass0 (pa_cons (pv 0) (pa_cons (pe_callB call_len_seq (by rfl) Z.len PySem.boot_len (pa_cons (pv 1) pa_nil)) pa_nil))) (fun _ _ => rfl)))
        (pss_cons (ps_set (i := 6) scNN.nd rfl (.inl rfl) (pe_op op_add pe_int (pe_call G hr rfl D.g D.kp D.b .nil pass0 (pa_cons (pv 0) (pa_cons (pe_callB call_len_str (by rfl) Z.len PySem.boot_len (pa_cons (pv 5) pa_nil)) pa_nil)))))
        (pss_one (ps_set (i := 3) scNN.nd rfl (.inl rfl) (pe_slice sl_str (pe_op op_add_str (pe_op op_add_str (pe_slice sl_str (pv 5) po_none (po_some (pv 6))) (pe_ix ix_str (pv 2) (pe_call G hr rfl D.g D.kp D.b .nil pass0 (pa_cons (pv 0) (pa_cons pe_int pa_nil))) (fun _ _ => rfl)))
          (pe_slice sl_str (pv 5) (po_some (pe_op op_add (pv 6) (pe_call G hr rfl D.g D.kp D.b .nil pass0 (pa_cons (pv 0) (pa_cons pe_int pa_nil))))) po_none)) po_none (po_some pe_int)))))) pss_nil))
      (pss_cons (ps_setLc (i := 7) (own := [("_law_mate", 8)]) (g := gName 8) rfl scNN.nd rfl rfl (sw_true rfl rfl rfl (by decide +kernel)) (pi_list (pe_op op_cat (pe_lst (pa_cons (pv 3) pa_nil))
          (pe_lc (own := [("_law_mark", 9)]) (g := gName 9) (tt := tYes) rfl scNN.nd (pi_str (pe_slice sl_str (pv 2) po_none (po_some pe_int))) (blkOk_by (N := NNm) (sc := defScope sName) (by decide +kernel)) (fun _ _ _ _ _ => pg_name (i := 9) scNN.nd rfl (.inl rfl)) (fun _ _ _ _ _ => pts_nil) (fun _ _ _ _ _ => pe_op op_add_str pe_str (pv 9)))))
          (blkOk_by (N := NNm) (sc := defScope sName) (by decide +kernel)) (fun _ _ _ _ _ => pg_name (i := 8) scNN.nd rfl (.inl rfl)) (fun _ _ _ _ _ => pts_one (pt_cmpR (show OpR _ _ (rIn K true) from op_notIn_seq) (pv 8) (pv 1) (by rfl))) (fun _ _ _ _ _ => pv 8))
      (pss_one (ps_ret (pe_ix ix_list (pv 7) pe_int (fun _ _ => rfl)))))))), ?_⟩
    have sM : ("abcdefghijklmnopqrstuvwxyz0123456789" : Str).length ≤ sizeLine := by rw [marks_is, S_len, marks_len, sizeLine_eq]; decide
    have pick : ∀ {e : Int}, 0 ≤ e → e < 36 → ∃ c ∈ marks, atI ("abcdefghijklmnopqrstuvwxyz0123456789" : Str).cps.toList e = some c := fun {e} e0 e1 => by
      obtain ⟨i, rfl⟩ := nat_of e0
      refine ⟨marks.getD i 0, ?_, ?_⟩
      · have q := getD_at (l := marks) (i := i) (by rw [marks_len]; omega)
        exact List.mem_of_getElem? q
      · rw [marks_is, S_cps]
        exact atI_nat (getD_at (by rw [marks_len]; omega))
    have nF := pool_ne hp hF
    refine ⟨_, rfl, _, rfl, p, _, rfl, by decide, by decide, hp, fun d H1 d0 d1 hp1 b1 => ?_⟩
    obtain ⟨i0, rfl⟩ := nat_of d0
    have i0' : i0 < 26 := by omega
    refine ⟨_, _, marks.getD i0 0, rfl, rfl, sM, by rw [marks_is, S_cps]; exact atI_nat (getD_at (by rw [marks_len]; omega)), ?_⟩
    have c0 := marks_lo i0 i0'
    generalize marks.getD i0 0 = c at c0 ⊢
    refine ⟨_, rfl, ⟨_, rfl⟩, _, rfl, p, _, rfl, by decide, by decide, hp1, fun m H2 m0 m1 hp2 b2 => ?_⟩
    have b2 := b1.trans b2
    refine ⟨_, rfl, by omega, by omega, fun D0 hD => ?_⟩
    have hD0 : H D0 = none := b2.free hD (hp2.ne hD)
    have nD := hp2.ne hD
    refine lc_it walk_range (fun i H3 => ∃ l : List Nat, H3 D0 = some (.lst (l.map vOne)) ∧ l.length = i ∧ (∀ c ∈ l, c ∈ marks) ∧ PoolAt H3 p ∧ But p H H3) ⟨[], upd_same, rfl, (fun c hc => nomatch hc), hp2.up hD, b2.upd hD⟩ (fun _ _ _ _ => trivial) ?_ ?_
    · rintro i x H3 H3' hi ⟨l, h1, ll, sub, h2, h3⟩ ⟨rfl, rfl⟩
      refine ⟨rfl, _, rfl, _, rfl, p, _, rfl, by decide, by decide, h2, fun e H4 e0 e1 hp4 b4 => ?_⟩
      obtain ⟨c, cm, hat⟩ := pick e0 e1
      refine ⟨_, _, c, rfl, rfl, sM, hat, _, b4 D0 _ nD h1, ?_, l ++ [c], ?_, ?_, fun z hz => ?_, hp4.put nD, (h3.trans b4).new hD0⟩
      · rw [List.length_map, sizeLine_eq]; omega
      · rw [upd_same, List.map_append] <;> rfl
      · rw [List.length_append, ll] <;> rfl
      · rcases List.mem_append.mp hz with hz | hz
        · exact sub z hz
        · rw [List.mem_singleton.mp hz]
          exact cm
    · rintro H3 ⟨l, h1, ll, sub, hp3, b3⟩
      have l7 : l.length ≤ 7 := by omega
      have h1' : H3 D0 = some (.lst ((l.map one).map V.str)) := by rw [h1, List.map_map] <;> rfl
      refine ⟨_, D0, l.map one, rfl, rfl, .inl (SqL.of h1'), ?_, ?_⟩
      · have e1 : ((l.map one).map fun x => x.length) = List.replicate l.length 1 := by
          rw [List.map_map]
          exact List.map_eq_replicate_iff.mpr fun _ _ => rfl
        have e2 : (Str.ofString "").length = 0 := by decide +kernel
        rw [e1, e2, List.sum_replicate_nat]
        omega
      rw [join_any]
      refine ⟨_, _, rfl, rfl, by rw [S_len, sizeLine_eq]; show 1 + l.length ≤ 16777216; omega, ?_⟩
      have en : (⟨#[c]⟩ : Str) ++ S l = S (c :: l) := by
        rw [show (⟨#[c]⟩ : Str) = S [c] from rfl, S_add] <;> rfl
      rw [en]
      have nm0 : IsNm (c :: l) := ⟨Nat.succ_pos _, by show l.length + 1 ≤ 8; omega, c0, fun d hd => by
        rcases List.mem_cons.mp hd with rfl | hd
        · exact .inl c0
        · exact marks_ok d (sub d hd)⟩
      refine ⟨fun σ H' => ∃ (l : List Nat) (v5 v6 : Option V), σ = [some (.ref p), some (.ref F), some (.str ("abcdefghijklmnopqrstuvwxyz0123456789" : Str)), some (.str (S l)), none, v5, v6, none, none, none] ∧ IsNm l ∧ PoolAt H' p ∧ But p H H', ?_, ?_⟩
      · have hF3 := b3 F _ nF hF
        refine ⟨_, rfl, by show 0 ≤ sizeLine; decide, fun M hM => ?_⟩
        have nM := hp3.ne hM
        have hF4 : (L2.upd H3 M (.lst [])) F = some (.lst (zs.map V.str)) := ((But.refl p H3).upd hM) _ _ nF hF3
        have hp4 := hp3.put (o := .lst []) nM
        have b4 := b3.upd (o := .lst []) hM
        have hM4 : (L2.upd H3 M (.lst [])) M = some (.lst []) := upd_same
        generalize L2.upd H3 M (.lst []) = H4 at hF4 hp4 b4 hM4 ⊢
        have oks : ∀ z ∈ zs, PyData.strOk z = true := fun z hz => by
          obtain ⟨l, rfl, N⟩ := nms z hz
          exact ok_codes N.low
        refine ⟨.list (zs.map PyData.str), .list [], .lst (SqL.of hF4) (dp_strs zs), .lst (SqL.of hM4) .nil, shaped_strs oks, rfl, _, rfl, ?_⟩
        rw [eqv_nil]
        show if (!zs.isEmpty) = true then _ else _
        cases hz : zs.isEmpty with
        | true => exact iteF (iteF ⟨c :: l, none, none, rfl, nm0, hp4, b4⟩)
        | false =>
          refine iteT ?_
          have zpos : 0 < zs.length := by
            cases zs with
            | nil => cases hz
            | cons _ _ => exact Nat.succ_pos _
          refine ⟨_, rfl, p, _, rfl, by decide, by decide, hp4, fun d H5 d0 d1 hp5 b5 => ?_⟩
          have b45 := b4.trans b5
          refine ⟨_, _, rfl, rfl, _, rfl, ite2 (fun _ => ?_) (fun _ => ⟨c :: l, none, none, rfl, nm0, hp5, b45⟩)⟩
          have hF5 := b5 F _ nF hF4
          refine ⟨_, rfl, _, rfl, _, rfl, F, _, rfl, .inl (SqL.of hF5), p, _, rfl, by rw [List.length_map]; omega, by rw [List.length_map]; omega, hp5, fun e H6 e0 e1 hp6 b6 => ?_⟩
          rw [List.length_map] at e1
          obtain ⟨j, rfl⟩ := nat_of e0
          have hj : j < zs.length := by omega
          have ez : zs[j]? = some zs[j] := List.getElem?_eq_getElem hj
          obtain ⟨lo, eo, No⟩ := nms _ (List.mem_of_getElem? ez)
          rw [eo] at ez
          have b56 := b45.trans b6
          have npos := No.pos
          have nfew := No.few
          refine ⟨F, _, _, _, rfl, rfl, SqL.of (b6 F _ nF hF5), atI_nat (map_get (g := V.str) ez), ?_⟩
          refine ⟨_, rfl, _, rfl, _, rfl, No.fits, p, _, rfl, by rw [S_len]; omega, by rw [S_len]; omega, hp6, fun e H7 e0 e1 hp7 b7 => ?_⟩
          rw [S_len] at e1
          obtain ⟨a, rfl⟩ := nat_of e0
          have ha : a < lo.length := by omega
          have b67 := b56.trans b7
          refine ⟨_, _, rfl, rfl, ?_⟩
          have e1a : (1 : Int) + (a : Int) = ((1 + a : Nat) : Int) := by omega
          refine ⟨_, rfl, _, rfl, _, rfl, S lo, rfl, No.fits, ?_⟩
          rw [e1a, cut_to]
          refine ⟨_, rfl, _, rfl, p, _, rfl, by decide, by decide, hp7, fun e H8 e0 e1 hp8 b8 => ?_⟩
          obtain ⟨x, xm, hat⟩ := pick e0 e1
          have b78 := b67.trans b8
          refine ⟨_, _, x, rfl, rfl, sM, hat, ?_⟩
          refine ⟨_, _, rfl, rfl, by rw [S_len, sizeLine_eq, List.length_take]; show _ + 1 ≤ 16777216; omega, ?_⟩
          rw [show (⟨#[x]⟩ : Str) = S [x] from rfl, S_add]
          refine ⟨_, rfl, _, rfl, _, rfl, p, _, rfl, by decide, by decide, hp8, fun e H9 e0 e1 hp9 b9 => ?_⟩
          obtain ⟨b, rfl⟩ := nat_of e0
          have b89 := b78.trans b9
          refine ⟨_, _, rfl, rfl, _, rfl, S lo, rfl, No.fits, ?_⟩
          have e1b : (1 : Int) + (a : Int) + (b : Int) = ((1 + a + b : Nat) : Int) := by omega
          rw [e1b, cut_from]
          refine ⟨_, _, rfl, rfl, by rw [S_len, S_len, sizeLine_eq, List.length_append, List.length_take, List.length_drop]; show _ + 1 + _ ≤ 16777216; omega, ?_⟩
          rw [S_add]
          refine ⟨8, rfl, _, rfl, by rw [S_len, sizeLine_eq, List.length_append, List.length_append, List.length_take, List.length_drop]; show _ + 1 + _ ≤ 16777216; omega, ?_⟩
          rw [show (8 : Int) = ((8 : Nat) : Int) from rfl, cut_to]
          refine ⟨((lo.take (1 + a) ++ [x]) ++ lo.drop (1 + a + b)).take 8, _, _, rfl, ?_, hp9, b89⟩
          cases lo with
          | nil => exact absurd npos (Nat.lt_irrefl 0)
          | cons y lo =>
            rw [show 1 + a = a + 1 from Nat.add_comm 1 a, List.take_succ_cons]
            refine ⟨?_, ?_, ?_, fun d hd => ?_⟩
            · show 0 < (y :: _).length
              exact Nat.succ_pos _
            · rw [List.length_take]; omega
            · exact No.hd
            · have hd := List.mem_of_mem_take hd
              rcases List.mem_append.mp hd with hd | hd
              · rcases List.mem_append.mp hd with hd | hd
                · exact No.ok d (by
                    rcases List.mem_cons.mp hd with rfl | hd
                    · exact List.mem_cons_self
                    · exact List.mem_cons_of_mem _ (List.mem_of_mem_take hd))
                · rw [List.mem_singleton.mp hd]
                  exact marks_ok x xm
              · exact No.ok d (List.mem_of_mem_drop hd)
      · rintro σ H4 ⟨l, v5, v6, rfl, N, hp4, b4⟩
        have hF4 := b4 F _ nF hF
        refine ⟨_, rfl, by show 1 ≤ sizeLine; decide, fun M hM => ?_⟩
        have nM := hp4.ne hM
        have hM5 : (L2.upd H4 M (.lst [.str (S l)])) M = some (.lst [.str (S l)]) := upd_same
        have hp5 := hp4.put (o := .lst [.str (S l)]) nM
        have b5 := b4.upd (o := .lst [.str (S l)]) hM
        generalize L2.upd H4 M (.lst [.str (S l)]) = H5 at hM5 hp5 b5 ⊢
        refine ⟨_, rfl, 9, rfl, _, rfl, sM, _, rfl, fun E0 hE => ?_⟩
        have nE := hp5.ne hE
        rw [show (9 : Int) = ((9 : Nat) : Int) from rfl, marks_is, cut_to]
        refine lc_it walk_str (fun i H6 => H6 E0 = some (.lst ((((marks.take 9).take i).map fun c => S [122, c]).map V.str)) ∧ Same H5 H6) ⟨upd_same, Same.put (Same.refl H5) hE⟩ (fun _ _ _ _ => trivial) ?_ ?_
        · rintro i x H6 H6' hi ⟨g1, g2⟩ ⟨rfl, c, hc, rfl⟩
          have hc' : (marks.take 9)[i]? = some c := k_in_S hc
          rw [S_size] at hi
          have l9 : (marks.take 9).length = 9 := rfl
          refine ⟨rfl, _, rfl, _, _, rfl, rfl, by show 1 + 1 ≤ sizeLine; decide, _, g1, ?_, ?_, Same.new' g2 hE⟩
          · rw [List.length_map, List.length_map, List.length_take, sizeLine_eq]
            omega
          · rw [upd_same, take_more hc', List.map_append, List.map_append] <;> rfl
        · rintro H6 ⟨g1, g2⟩
          have g1 : H6 E0 = some (.lst (spare.map V.str)) := g1
          have hM6 := g2 _ _ hM5
          have hp6 : PoolAt H6 p := by
            obtain ⟨a, b, c, e, r⟩ := hp5
            exact ⟨a, b, c, g2 _ _ e, r⟩
          have b6 := b5.trans (But.of g2)
          refine ⟨M, E0, _, _, rfl, rfl, hM6, g1, by rw [List.length_map, spare_len, sizeLine_eq]; show 1 + 9 ≤ 16777216; decide, fun C0 hC => ?_⟩
          have nC := hp6.ne hC
          have hC7 : (L2.upd H6 C0 (.lst ([.str (S l)] ++ spare.map V.str))) C0 = some (.lst ((S l :: spare).map V.str)) := upd_same
          have hp7 := hp6.put (o := .lst ([.str (S l)] ++ spare.map V.str)) nC
          have b7 := b6.upd (o := .lst ([.str (S l)] ++ spare.map V.str)) hC
          generalize L2.upd H6 C0 (.lst ([.str (S l)] ++ spare.map V.str)) = H7 at hC7 hp7 b7 ⊢
          refine ⟨C0, rfl, ⟨_, SqL.of hC7⟩, fun R hR => ?_⟩
          have nR := hp7.ne hR
          have hF7 := b7 F _ nF hF
          refine lc_it (walk_list (xs := (S l :: spare).map V.str)) (fun i H8 => H8 R = some (.lst ((((S l :: spare).take i).filter fun z => !decide (z ∈ zs)).map V.str)) ∧ Same H7 H8) ⟨upd_same, Same.put (Same.refl H7) hR⟩ (fun _ _ _ h => SqL.of (h.2 _ _ hC7)) ?_ ?_
          · rintro i x H8 H8' hi ⟨q1, q2⟩ ⟨rfl, hx⟩
            rw [List.getElem?_map] at hx
            obtain ⟨z, hz, rfl⟩ := Option.map_eq_some_iff.mp hx
            refine ⟨rfl, _, rfl, _, rfl, F, _, rfl, .inl (SqL.of (q2 _ _ hF7)), rfl, flat_strs _, _, rfl, ?_⟩
            rw [inV_strs]
            refine ite2 (fun e => ?_) (fun e => ?_)
            · refine ⟨_, rfl, _, q1, ?_, ?_, Same.new' q2 hR⟩
              · rw [List.length_map, sizeLine_eq]
                have h1 := List.length_filter_le (fun z => !decide (z ∈ zs)) ((S l :: spare).take i)
                have h2 := List.length_take_le' i (S l :: spare)
                have h3 : (S l :: spare).length = 10 := rfl
                omega
              · rw [upd_same, take_more hz, List.filter_append, show ([z].filter fun z => !decide (z ∈ zs)) = [z] from List.filter_cons_of_pos e, List.map_append] <;> rfl
            · refine ⟨?_, q2⟩
              rw [q1, take_more hz, List.filter_append, show ([z].filter fun z => !decide (z ∈ zs)) = [] from List.filter_cons_of_neg e, List.append_nil]
          · rintro H8 ⟨q1, q2⟩
            rw [List.length_map, List.take_length] at q1
            have pos := spare_left few (S l)
            have hz : ((S l :: spare).filter fun z => !decide (z ∈ zs))[0]? = some _ := List.getElem?_eq_getElem pos
            generalize ((S l :: spare).filter fun z => !decide (z ∈ zs))[0] = z at hz
            have mz := List.mem_of_getElem? hz
            obtain ⟨z1, z2⟩ := List.mem_filter.mp mz
            have z3 : z ∉ zs := by simpa using z2
            have hp8 : PoolAt H8 p := by
              obtain ⟨a, b, c, e, r⟩ := hp7
              exact ⟨a, b, c, q2 _ _ e, r⟩
            refine ⟨_, rfl, R, _, _, _, rfl, rfl, SqL.of q1, atI_nat (j := 0) (map_get (g := V.str) hz), ?_⟩
            rcases List.mem_cons.mp z1 with rfl | z1
            · exact k l H8 N z3 hp8 (b7.trans (But.of q2))
            · obtain ⟨l', rfl, N'⟩ := spare_nm z z1
              exact k l' H8 N' z3 hp8 (b7.trans (But.of q2))
end
end Wb
/-! drawn names and amounts -/
namespace Wb
open PySem L2 WbMin WbS Lz
section
variable {P : Program} {w : World} {K : PySem.W.Frag} {mg : Str → Option Value} {base : Heap} {f fD fN : Addr} {fd fdD dN : FuncData}
abbrev NNs : List Str := ["_law_pool_here", "_law_many", "_law_found", "_law_turn"]
theorem scNs : FnScope NNs ["_law_pool_here", "_law_many"] (defScope sNames) := ⟨rfl, rfl, rfl, by decide +kernel, rfl, by decide +kernel, by decide +kernel⟩
theorem ok_names (F : Fun K "_law_names" "_law_names" sNames f fd) (D : Def K mg "_law_draw" sDraw ["_law_pool_here", "_law_many"] fD fdD) (DN : Def K mg "_law_name" sName ["_law_pool_here", "_law_found"] fN dN) (Z : Free mg) : FnOk P w K mg base CX0 3 f fd ["_law_pool_here", "_law_many"] spNames := by
  have G : FnOk P w K mg base CX0 2 fN dN ["_law_pool_here", "_law_found"] spName := ok_name DN.F D Z
  refine F.ok scNs (fun vs H Q E h => ?_) (fun cdv A outer s H vs Q E hr h => ?_)
  · obtain ⟨p, m, rfl, _⟩ := h
    rfl
  · obtain ⟨p, m, rfl, m0, m6, hp, k⟩ := h
    refine ⟨_, pss_cons (ps_set (i := 2) scNs.nd rfl (.inl rfl) (pe_lst pa_nil))
      (pss_cons (ps_for PassesOwn.never rfl (pi_range1 rfl Z.range (pa_cons (pv 1) pa_nil)) (pg_name (i := 3) scNs.nd rfl (.inl rfl))
        (pss_one (ps_expr (pe_bm PySem.F.plainAttrs_list PySem.F.slot_list_append PySem.F.type_list_append mt_append (pv 2) (pa_cons (pe_call G hr rfl DN.g DN.kp DN.b .nil pass0 (pa_cons (pv 0) (pa_cons (pv 2) pa_nil))) pa_nil)))))
      (pss_one (ps_ret (pv 2)))), ?_⟩
    refine ⟨by show 0 ≤ sizeLine; decide, fun a ha => ?_⟩
    have na := hp.ne ha
    refine ⟨_, rfl, _, rfl, by omega, by omega, for_it walk_range (fun i σ H' => ∃ (zs : List Str) (v3 : Option V), σ = [some (.ref p), some (.int (m : Nat)), some (.ref a), v3] ∧ zs.length = i ∧ zs.Nodup ∧ (∀ z ∈ zs, ∃ l, z = S l ∧ IsNm l) ∧ H' a = some (.lst (zs.map V.str)) ∧ PoolAt H' p ∧ But p H H')
      ⟨[], none, rfl, rfl, List.nodup_nil, (fun z hz => nomatch hz), upd_same, hp.put na, (But.refl p H).upd ha⟩ (fun _ _ _ _ _ => trivial) ?_ ?_⟩
    · rintro i x σ H2 H3 hi ⟨zs, v3, rfl, lz, nd, nms, h1, hp2, b2⟩ ⟨rfl, rfl⟩
      refine ⟨_, rfl, .inl ⟨rfl, _, SqL.of h1⟩, _, rfl, _, rfl, p, a, zs, rfl, hp2, h1, nms, by omega, fun l H4 N new hp4 b4 => ?_⟩
      refine ⟨a, _, _, rfl, rfl, b4 a _ na h1, by rw [List.length_map, sizeLine_eq]; omega, zs ++ [S l], _, rfl, ?_, ?_, ?_, ?_, hp4.put na, (b2.trans b4).new ha⟩
      · rw [List.length_append, lz] <;> rfl
      · rw [List.nodup_append]
        exact ⟨nd, by simp, fun x hx y hy q => new (by rw [← List.mem_singleton.mp hy, ← q]; exact hx)⟩
      · intro z hz
        rcases List.mem_append.mp hz with hz | hz
        · exact nms z hz
        · rw [List.mem_singleton.mp hz]
          exact ⟨l, rfl, N⟩
      · rw [upd_same, List.map_append] <;> rfl
    · rintro σ H2 ⟨zs, v3, rfl, lz, nd, nms, h1, hp2, b2⟩
      exact ⟨_, rfl, k a zs H2 ⟨nms, nd, by omega, by omega⟩ (by omega) h1 ha hp2 b2⟩
theorem scAmt : FnScope ["_law_pool_here", "_law_great", "_law_way"] ["_law_pool_here", "_law_great"] (defScope sAmount) := ⟨rfl, rfl, rfl, by decide +kernel, rfl, by decide +kernel, by decide +kernel⟩
theorem ok_amount (F : Fun K "_law_amount" "_law_amount" sAmount f fd) (D : Def K mg "_law_draw" sDraw ["_law_pool_here", "_law_many"] fD fdD) (Z : Free mg) : FnOk P w K mg base CX0 2 f fd ["_law_pool_here", "_law_great"] spAmount := by
  have G : FnOk P w K mg base CX0 1 fD fdD ["_law_pool_here", "_law_many"] spDraw := ok_draw D.F Z.int Z.divmod
  refine F.ok scAmt (fun vs H Q E h => ?_) (fun cdv A outer s H vs Q E hr h => ?_)
  · obtain ⟨p, b, rfl, _⟩ := h
    rfl
  · obtain ⟨p, b, rfl, hp, k⟩ := h
    refine ⟨_, pss_cons (ps_set (i := 2) scAmt.nd rfl (.inl rfl) (pe_call G hr rfl D.g D.kp D.b .nil pass0 (pa_cons (pv 0) (pa_cons pe_int pa_nil))))
      (pss_cons (ps_if (pt_cmpR op_lt (pv 2) pe_int (nomark _)) (pss_one (ps_ret (pe_op op_sub (pe_call G hr rfl D.g D.kp D.b .nil pass0 (pa_cons (pv 0) (pa_cons pe_int pa_nil))) pe_int))) pss_nil)
      (pss_cons (ps_if (PW.pt (pw_or (pt_cmpR op_lt (pv 2) pe_int (nomark _)) (pw_or1 (pt_not (pt_val (pv 1)))))) (pss_one (ps_ret (pe_op op_sub (pe_call G hr rfl D.g D.kp D.b .nil pass0 (pa_cons (pv 0) (pa_cons pe_int pa_nil))) pe_int))) pss_nil)
      (pss_one (ps_ret (pe_ix ix_list (pe_lst (pa_cons (pe_op op_pow pe_int pe_int) (pa_cons (pe_op op_sub (pe_un un_neg (pe_op op_pow pe_int pe_int)) pe_int) (pa_cons (pe_op op_add (pe_op op_pow pe_int pe_int) pe_int) (pa_cons (pe_un un_neg (pe_op op_pow pe_int pe_int)) pa_nil)))))
        (pe_call G hr rfl D.g D.kp D.b .nil pass0 (pa_cons (pv 0) (pa_cons pe_int pa_nil))) (fun _ _ => rfl)))))), ?_⟩
    refine ⟨_, rfl, p, _, rfl, by decide, by decide, hp, fun d H1 d0 d1 hp1 b1 => ?_⟩
    refine ⟨_, rfl, _, _, rfl, rfl, _, rfl, ite2 (fun _ => ?_) (fun _ => ?_)⟩
    · exact ⟨_, rfl, p, _, rfl, by decide, by decide, hp1, fun e H2 e0 e1 hp2 b2 => ⟨_, _, rfl, rfl, k _ H2 (by omega) hp2 (b1.trans b2)⟩⟩
    · refine ⟨_, rfl, _, _, rfl, rfl, _, rfl, ite2 (fun _ => iteT ?_) (fun _ => ?_)⟩
      · exact ⟨_, rfl, p, _, rfl, by decide, by decide, hp1, fun e H2 e0 e1 hp2 b2 => ⟨_, _, rfl, rfl, k _ H2 (by omega) hp2 (b1.trans b2)⟩⟩
      · refine ⟨_, rfl, b, rfl, ite2 (fun _ => ?_) (fun _ => ?_)⟩
        · exact ⟨_, rfl, p, _, rfl, by decide, by decide, hp1, fun e H2 e0 e1 hp2 b2 => ⟨_, _, rfl, rfl, k _ H2 (by omega) hp2 (b1.trans b2)⟩⟩
        · have c1 : L2.CPow 10 20 := by refine ⟨?_, ?_, ?_⟩ <;> decide
          have c2 : L2.CPow 10 30 := by refine ⟨?_, ?_, ?_⟩ <;> decide
          refine ⟨_, _, rfl, rfl, c1, _, _, rfl, rfl, c1, _, rfl, _, _, rfl, rfl, _, _, rfl, rfl, c2, _, _, rfl, rfl, _, _, rfl, rfl, c2, _, rfl, by show 4 ≤ sizeLine; decide, fun l hl => ?_⟩
          have nl := hp1.ne hl
          refine ⟨_, rfl, p, _, rfl, by decide, by decide, hp1.put nl, fun e H2 e0 e1 hp2 b2 => ?_⟩
          have bb := (b1.upd hl).trans b2
          have hl2 := b2 l _ nl upd_same
          obtain ⟨j, rfl⟩ := nat_of e0
          have c : j = 0 ∨ j = 1 ∨ j = 2 ∨ j = 3 := by omega
          rcases c with rfl | rfl | rfl | rfl
          · exact ⟨l, _, _, _, rfl, rfl, SqL.of hl2, atI_nat (j := 0) rfl, k _ H2 (by decide +kernel) hp2 bb⟩
          · exact ⟨l, _, _, _, rfl, rfl, SqL.of hl2, atI_nat (j := 1) rfl, k _ H2 (by decide +kernel) hp2 bb⟩
          · exact ⟨l, _, _, _, rfl, rfl, SqL.of hl2, atI_nat (j := 2) rfl, k _ H2 (by decide +kernel) hp2 bb⟩
          · exact ⟨l, _, _, _, rfl, rfl, SqL.of hl2, atI_nat (j := 3) rfl, k _ H2 (by decide +kernel) hp2 bb⟩
end
end Wb
/-! a model of a loop is drawn -/
namespace Wb
open PySem L2 WbMin WbS Lz
abbrev sModel : Stmt := top 63
/-- what stands at a state and a sign, at a state -/
def Entry2 (H : Hp) (kvs : List (List Key × V)) (z : Str) (c : Nat) (y : Str) (m : Int) : Prop := ∃ t, valV kvs (kk (z, S [c])) = some (.ref t) ∧ H t = some (.tup [.str y, .int m])
def Entry1 (H : Hp) (kvs : List (Key × V)) (z y : Str) (m : Int) : Prop := ∃ t, valV kvs (k1 z) = some (.ref t) ∧ H t = some (.tup [.str y, .int m])
/-- tuples stay -/
def Tk (H H' : Hp) : Prop := ∀ b x, H b = some (.tup x) → H' b = some (.tup x)
theorem Tk.refl (H : Hp) : Tk H H := fun _ _ h => h
theorem Tk.trans {H H1 H2 : Hp} (a : Tk H H1) (b : Tk H1 H2) : Tk H H2 := fun c x h => b c x (a c x h)
theorem Tk.of {H H' : Hp} (s : Same H H') : Tk H H' := fun b _ h => s b _ h
theorem pool_other {H : Hp} {p b : Addr} {o : HO} (hp : PoolAt H p) (h : H b = some o) (n : ∀ x y z : Int, o ≠ .lst [.int x, .int y, .int z]) : b ≠ p := by
  obtain ⟨x, y, z, e, _⟩ := hp
  intro q
  subst q
  rw [e] at h
  exact n x y z (Option.some.inj h).symm
theorem Tk.but {H H' : Hp} {p : Addr} (hp : PoolAt H p) (s : But p H H') : Tk H H' := fun b x h => s b _ (pool_other hp h (fun _ _ _ q => by cases q)) h
theorem Tk.put {H : Hp} {S : Addr} {o o' : HO} (h : H S = some o) (n : ∀ x, o ≠ .tup x) : Tk H (L2.upd H S o') := fun b x e => by
  rw [upd_ne (ne_of e h (n x).symm)]
  exact e
theorem Tk.new {H : Hp} {S : Addr} {o' : HO} (h : H S = none) : Tk H (L2.upd H S o') := fun b x e => by
  rw [upd_ne (ne_of_none e h)]
  exact e
theorem Entry2.tk {H H' : Hp} {kvs : List (List Key × V)} {z y : Str} {c : Nat} {m : Int} (s : Tk H H') : Entry2 H kvs z c y m → Entry2 H' kvs z c y m := fun ⟨t, a, b⟩ => ⟨t, a, s _ _ b⟩
theorem Entry1.tk {H H' : Hp} {kvs : List (Key × V)} {z y : Str} {m : Int} (s : Tk H H') : Entry1 H kvs z y m → Entry1 H' kvs z y m := fun ⟨t, a, b⟩ => ⟨t, a, s _ _ b⟩
/-- a list that tells the yes states (others may be in it) -/
def Oks (H : Hp) (O : Addr) (L : LD) : Prop := ∃ os : List Str, H O = some (.lst (os.map V.str)) ∧ ∀ i, i < L.n → decide (L.nm i ∈ os) = L.ys i
/-- a model of a loop stands: letters, states, steps, ends, yes states -/
def MdAt (H : Hp) (q : Addr) (L : LD) : Prop := ∃ (A Sd Ed O : Addr) (kvs : List (List Key × V)) (ws : List (Key × V)), H q = some (.lst [.str (S L.sg), .ref A, .ref Sd, .ref Ed, .ref O]) ∧ H A = some (.lst (L.st.map V.str)) ∧ H Sd = some (.dT kvs) ∧ H Ed = some (.dK ws) ∧
  (∀ i c, i < L.n → c ∈ L.sg → Entry2 H kvs (L.nm i) c (L.nm (L.nx i c)) (L.am i c)) ∧ (∀ i, i < L.n → Entry1 H ws (L.nm i) (L.nm (L.tn i)) (L.ta i)) ∧ Oks H O L
theorem MdAt.but {H H' : Hp} {p q : Addr} {L : LD} (hp : PoolAt H p) (s : But p H H') : MdAt H q L → MdAt H' q L := fun ⟨A, Sd, Ed, O, kvs, ws, h0, hA, hS, hE, e2, e1, hO⟩ =>
  have tk := Tk.but hp s
  ⟨A, Sd, Ed, O, kvs, ws, s _ _ (pool_other hp h0 fun _ _ _ q => by cases q) h0, s _ _ (pool_ne hp hA) hA, s _ _ (pool_other hp hS fun _ _ _ q => by cases q) hS, s _ _ (pool_other hp hE fun _ _ _ q => by cases q) hE,
    fun i c hi hc => (e2 i c hi hc).tk tk, fun i hi => (e1 i hi).tk tk, hO.imp fun _ h => ⟨s _ _ (pool_ne hp h.1) h.1, h.2⟩⟩
theorem MdAt.same {H H' : Hp} {q : Addr} {L : LD} (s : Same H H') : MdAt H q L → MdAt H' q L := fun ⟨A, Sd, Ed, O, kvs, ws, h0, hA, hS, hE, e2, e1, hO⟩ =>
  ⟨A, Sd, Ed, O, kvs, ws, s _ _ h0, s _ _ hA, s _ _ hS, s _ _ hE, fun i c hi hc => (e2 i c hi hc).tk (Tk.of s), fun i hi => (e1 i hi).tk (Tk.of s), hO.imp fun _ h => ⟨s _ _ h.1, h.2⟩⟩
/-- amounts that are not too great -/
structure LD.Small (L : LD) : Prop where
  am : ∀ i c, i < L.n → c ∈ L.sg → (L.am i c).natAbs < 2 ^ 110
  ta : ∀ i, i < L.n → (L.ta i).natAbs < 2 ^ 110
/-- drawn amounts are smaller yet: two of them together are small -/
structure LD.Tiny (L : LD) : Prop where
  am : ∀ i c, i < L.n → c ∈ L.sg → (L.am i c).natAbs < 2 ^ 100
  ta : ∀ i, i < L.n → (L.ta i).natAbs < 2 ^ 100
theorem LD.Tiny.small {L : LD} (t : L.Tiny) : L.Small := ⟨fun i c hi hc => Nat.lt_trans (t.am i c hi hc) (by decide), fun i hi => Nat.lt_trans (t.ta i hi) (by decide)⟩
def spModelT : Sp := fun vs H Q _ => ∃ (p : Addr) (a : List Nat) (m : Int) (b : Bool), vs = [.ref p, .str (S a), .int m, .bl b] ∧ Sgs a ∧ 0 < m ∧ m ≤ 6 ∧ PoolAt H p ∧
  ∀ (q : Addr) (L : LD) (H' : Hp), L.Ok → L.Tiny → L.sg = a → (L.n : Int) ≤ m → MdAt H' q L → H q = none → PoolAt H' p → But p H H' → Q (.ref q) H'
/-- the entries of the pairs that are done -/
def E2s (H : Hp) (kvs : List (List Key × V)) (nm : Nat → Str) (n : Nat) (nx : Nat → Nat → Nat) (am : Nat → Nat → Int) (Dn : Nat → Nat → Prop) : Prop := ∀ i c, Dn i c → nx i c < n ∧ (am i c).natAbs < 2 ^ 100 ∧ Entry2 H kvs (nm i) c (nm (nx i c)) (am i c)
def E1s (H : Hp) (ws : List (Key × V)) (nm : Nat → Str) (n : Nat) (tn : Nat → Nat) (ta : Nat → Int) (k : Nat) : Prop := ∀ i, i < k → tn i < n ∧ (ta i).natAbs < 2 ^ 100 ∧ Entry1 H ws (nm i) (nm (tn i)) (ta i)
theorem E2s.tk {H H' : Hp} {kvs : List (List Key × V)} {nm : Nat → Str} {n : Nat} {nx : Nat → Nat → Nat} {am : Nat → Nat → Int} {Dn : Nat → Nat → Prop} (s : Tk H H') (h : E2s H kvs nm n nx am Dn) : E2s H' kvs nm n nx am Dn := fun i c d => ⟨(h i c d).1, (h i c d).2.1, (h i c d).2.2.tk s⟩
theorem E1s.tk {H H' : Hp} {ws : List (Key × V)} {nm : Nat → Str} {n : Nat} {tn : Nat → Nat} {ta : Nat → Int} {k : Nat} (s : Tk H H') (h : E1s H ws nm n tn ta k) : E1s H' ws nm n tn ta k := fun i d => ⟨(h i d).1, (h i d).2.1, (h i d).2.2.tk s⟩
theorem kk_eq {z y : Str} {a c : Nat} (h : kk (z, S [a]) = kk (y, S [c])) : z = y ∧ a = c := by
  have q := kk_inj h
  injection q with q1 q2
  refine ⟨q1, ?_⟩
  have := S_inj q2
  injection this
theorem E2s.put {H : Hp} {kvs : List (List Key × V)} {nm : Nat → Str} {n : Nat} {nx : Nat → Nat → Nat} {am : Nat → Nat → Int} {Dn Dn' : Nat → Nat → Prop} (h : E2s H kvs nm n nx am Dn) {i c e : Nat} {m : Int} {t : Addr} (ht : H t = some (.tup [.str (nm e), .int m])) (he : e < n) (hm : m.natAbs < 2 ^ 100) (hd : ∀ i' c', Dn' i' c' → Dn i' c' ∨ (nm i' = nm i ∧ c' = c)) :
    ∃ nx' am', E2s H (putK kvs (kk (nm i, S [c])) (.ref t)) nm n nx' am' Dn' := by
  refine ⟨fun i' c' => if nm i' = nm i ∧ c' = c then e else nx i' c', fun i' c' => if nm i' = nm i ∧ c' = c then m else am i' c', fun i' c' d => ?_⟩
  dsimp only
  by_cases q : nm i' = nm i ∧ c' = c
  · rw [if_pos q, if_pos q]
    refine ⟨he, hm, t, ?_, ht⟩
    rw [valV_put, if_pos (by rw [q.1, q.2])]
  · rw [if_neg q, if_neg q]
    have h0 := h i' c' ((hd i' c' d).resolve_right q)
    obtain ⟨t', a, b⟩ := h0.2.2
    refine ⟨h0.1, h0.2.1, t', ?_, b⟩
    rw [valV_put, if_neg fun z => q (kk_eq z)]
    exact a
theorem E1s.put {H : Hp} {ws : List (Key × V)} {nm : Nat → Str} {n : Nat} {tn : Nat → Nat} {ta : Nat → Int} {k : Nat} (h : E1s H ws nm n tn ta k) {e : Nat} {m : Int} {t : Addr} (ht : H t = some (.tup [.str (nm e), .int m])) (he : e < n) (hm : m.natAbs < 2 ^ 100) :
    ∃ tn' ta', E1s H (putK ws (k1 (nm k)) (.ref t)) nm n tn' ta' (k + 1) := by
  refine ⟨fun i' => if nm i' = nm k then e else tn i', fun i' => if nm i' = nm k then m else ta i', fun i' d => ?_⟩
  dsimp only
  by_cases q : nm i' = nm k
  · rw [if_pos q, if_pos q]
    refine ⟨he, hm, t, ?_, ht⟩
    rw [valV_put, if_pos (by rw [q])]
  · rw [if_neg q, if_neg q]
    have h0 := h i' (by
      have : i' ≠ k := fun z => q (by rw [z])
      omega)
    obtain ⟨t', a, b⟩ := h0.2.2
    refine ⟨h0.1, h0.2.1, t', ?_, b⟩
    rw [valV_put, if_neg fun z => q (k1_inj z)]
    exact a
/-- the same state once more -/
theorem E1s.over {H : Hp} {ws : List (Key × V)} {nm : Nat → Str} {n : Nat} {tn : Nat → Nat} {ta : Nat → Int} {k : Nat} (h : E1s H ws nm n tn ta (k + 1)) {e : Nat} {m : Int} {t : Addr} (ht : H t = some (.tup [.str (nm e), .int m])) (he : e < n) (hm : m.natAbs < 2 ^ 100) :
    ∃ tn' ta', E1s H (putK ws (k1 (nm k)) (.ref t)) nm n tn' ta' (k + 1) := E1s.put (k := k) (fun i d => h i (by omega)) ht he hm
theorem sub_filter_more {ys : Nat → Bool} {i : Nat} {b : Bool} {g : Nat → V} : (((List.range (i + 1)).filter fun j => if j = i then b else ys j).map g) = ((List.range i).filter ys).map g ++ (if b = true then [g i] else []) := by
  rw [List.range_succ, List.filter_append, List.map_append]
  congr 1
  · congr 1
    refine List.filter_congr fun j hj => ?_
    rw [if_neg (by have := List.mem_range.mp hj; omega)]
  · cases b with
    | false => rw [List.filter_cons_of_neg (by simp)] <;> rfl
    | true => rw [List.filter_cons_of_pos (by simp)] <;> rfl
def nmOf (st : List Str) (i : Nat) : Str := st.getD i (S [])
theorem nmOf_at {st : List Str} {i : Nat} (h : i < st.length) : st[i]? = some (nmOf st i) := by
  unfold nmOf
  rw [List.getD_eq_getElem?_getD, List.getElem?_eq_getElem h] <;> rfl
/-- a model while it is drawn -/
structure MSt (H H' : Hp) (p A Sd Ed : Addr) (st : List Str) (Dn : Nat → Nat → Prop) (k l1 l2 : Nat) : Prop where
  ex : ∃ (kvs : List (List Key × V)) (ws : List (Key × V)) (nx : Nat → Nat → Nat) (am : Nat → Nat → Int) (tn : Nat → Nat) (ta : Nat → Int), H' Sd = some (.dT kvs) ∧ H' Ed = some (.dK ws) ∧ kvs.length ≤ l1 ∧ ws.length ≤ l2 ∧ E2s H' kvs (nmOf st) st.length nx am Dn ∧ E1s H' ws (nmOf st) st.length tn ta k
  hA : H' A = some (.lst (st.map V.str))
  hp : PoolAt H' p
  b : But p H H'
  nS : H Sd = none
  nE : H Ed = none
section
variable {H H1 H2 : Hp} {p A Sd Ed : Addr} {st : List Str} {Dn Dn' : Nat → Nat → Prop} {k l1 l2 : Nat}
theorem MSt.but (q : MSt H H1 p A Sd Ed st Dn k l1 l2) (hp : PoolAt H2 p) (s : But p H1 H2) : MSt H H2 p A Sd Ed st Dn k l1 l2 := by
  obtain ⟨⟨kvs, ws, nx, am, tn, ta, hS, hE, c1, c2, e2, e1⟩, hA, hp1, b, nS, nE⟩ := q
  have tk := Tk.but hp1 s
  exact ⟨⟨kvs, ws, nx, am, tn, ta, s _ _ (pool_other hp1 hS fun _ _ _ q => by cases q) hS, s _ _ (pool_other hp1 hE fun _ _ _ q => by cases q) hE, c1, c2, e2.tk tk, e1.tk tk⟩, s _ _ (pool_ne hp1 hA) hA, hp, b.trans s, nS, nE⟩
theorem MSt.new (q : MSt H H1 p A Sd Ed st Dn k l1 l2) {t : Addr} {o : HO} (h : H1 t = none) : MSt H (L2.upd H1 t o) p A Sd Ed st Dn k l1 l2 := by
  obtain ⟨⟨kvs, ws, nx, am, tn, ta, hS, hE, c1, c2, e2, e1⟩, hA, hp1, b, nS, nE⟩ := q
  have tk : Tk H1 (L2.upd H1 t o) := Tk.new h
  have s : Same H1 (L2.upd H1 t o) := Same.put (Same.refl H1) h
  exact ⟨⟨kvs, ws, nx, am, tn, ta, s _ _ hS, s _ _ hE, c1, c2, e2.tk tk, e1.tk tk⟩, s _ _ hA, hp1.up h, b.upd h, nS, nE⟩
theorem MSt.up (q : MSt H H1 p A Sd Ed st Dn k l1 l2) {R : Addr} {o : HO} {xs : List V} (h : H1 R = some (.lst xs)) (nA : R ≠ A) (np : R ≠ p) (n0 : H R = none) : MSt H (L2.upd H1 R o) p A Sd Ed st Dn k l1 l2 := by
  obtain ⟨⟨kvs, ws, nx, am, tn, ta, hS, hE, c1, c2, e2, e1⟩, hA, hp1, b, nS, nE⟩ := q
  have tk : Tk H1 (L2.upd H1 R o) := Tk.put h (fun x => by intro z; cases z)
  exact ⟨⟨kvs, ws, nx, am, tn, ta, (upd_ne (ne_of hS h (by intro z; cases z))).trans hS, (upd_ne (ne_of hE h (by intro z; cases z))).trans hE, c1, c2, e2.tk tk, e1.tk tk⟩, (upd_ne nA.symm).trans hA, hp1.put np, b.new n0, nS, nE⟩
theorem MSt.put2 (q : MSt H H1 p A Sd Ed st Dn k l1 l2) {i c e : Nat} {m : Int} {t u : Addr} (ht : H1 t = some (.tup [.str (nmOf st e), .int m])) (hu : H1 u = some (.tup [.str (nmOf st i), .str (S [c])])) (he : e < st.length) (hm : m.natAbs < 2 ^ 100) (hd : ∀ i' c', Dn' i' c' → Dn i' c' ∨ (nmOf st i' = nmOf st i ∧ c' = c)) (hl : l1 < 100) :
    ∃ H4, DPut H1 Sd (.ref u) (.ref t) H4 ∧ MSt H H4 p A Sd Ed st Dn' k (l1 + 1) l2 := by
  obtain ⟨⟨kvs, ws, nx, am, tn, ta, hS, hE, c1, c2, e2, e1⟩, hA, hp1, b, nS, nE⟩ := q
  have nSp : Sd ≠ p := pool_other hp1 hS fun _ _ _ q => by cases q
  refine ⟨_, DPut.t (k := kk (nmOf st i, S [c])) hS hu (by rw [sizeLine_eq]; omega), ?_⟩
  have tk : Tk H1 (L2.upd H1 Sd (.dT (putK kvs (kk (nmOf st i, S [c])) (.ref t)))) := Tk.put hS (fun x => by intro z; cases z)
  obtain ⟨nx', am', e2'⟩ := e2.put ht he hm hd
  refine ⟨⟨_, ws, nx', am', tn, ta, upd_same, (upd_ne (ne_of hE hS (by intro z; cases z))).trans hE, ?_, c2, e2'.tk tk, e1.tk tk⟩, (upd_ne (ne_of hA hS (by intro z; cases z))).trans hA, hp1.put nSp, b.new nS, nS, nE⟩
  exact Nat.le_trans (length_putK kvs _ _) (by omega)
theorem MSt.put1 (q : MSt H H1 p A Sd Ed st Dn k l1 l2) {e : Nat} {m : Int} {t : Addr} (ht : H1 t = some (.tup [.str (nmOf st e), .int m])) (he : e < st.length) (hm : m.natAbs < 2 ^ 100) (hl : l2 < 100) :
    ∃ H4, DPut H1 Ed (.str (nmOf st k)) (.ref t) H4 ∧ MSt H H4 p A Sd Ed st Dn (k + 1) l1 (l2 + 1) := by
  obtain ⟨⟨kvs, ws, nx, am, tn, ta, hS, hE, c1, c2, e2, e1⟩, hA, hp1, b, nS, nE⟩ := q
  have nEp : Ed ≠ p := pool_other hp1 hE fun _ _ _ q => by cases q
  refine ⟨_, DPut.k (k := k1 (nmOf st k)) hE (by rw [sizeLine_eq]; omega), ?_⟩
  have tk : Tk H1 (L2.upd H1 Ed (.dK (putK ws (k1 (nmOf st k)) (.ref t)))) := Tk.put hE (fun x => by intro z; cases z)
  obtain ⟨tn', ta', e1'⟩ := e1.put ht he hm
  refine ⟨⟨kvs, _, nx, am, tn', ta', (upd_ne (ne_of hS hE (by intro z; cases z))).trans hS, upd_same, c1, ?_, e2.tk tk, e1'.tk tk⟩, (upd_ne (ne_of hA hE (by intro z; cases z))).trans hA, hp1.put nEp, b.new nE, nS, nE⟩
  exact Nat.le_trans (length_putK ws _ _) (by omega)
theorem MSt.over (q : MSt H H1 p A Sd Ed st Dn (k + 1) l1 l2) {e : Nat} {m : Int} {t : Addr} (ht : H1 t = some (.tup [.str (nmOf st e), .int m])) (he : e < st.length) (hm : m.natAbs < 2 ^ 100) (hl : l2 < 100) :
    ∃ H4, DPut H1 Ed (.str (nmOf st k)) (.ref t) H4 ∧ MSt H H4 p A Sd Ed st Dn (k + 1) l1 (l2 + 1) := by
  obtain ⟨⟨kvs, ws, nx, am, tn, ta, hS, hE, c1, c2, e2, e1⟩, hA, hp1, b, nS, nE⟩ := q
  exact MSt.put1 (k := k) ⟨⟨kvs, ws, nx, am, tn, ta, hS, hE, c1, c2, e2, fun i d => e1 i (by omega)⟩, hA, hp1, b, nS, nE⟩ ht he hm hl
theorem MSt.less (q : MSt H H1 p A Sd Ed st Dn k l1 l2) (h : ∀ i c, Dn' i c → Dn i c) {l1' l2' : Nat} (a : l1 ≤ l1') (b : l2 ≤ l2') : MSt H H1 p A Sd Ed st Dn' k l1' l2' := by
  obtain ⟨⟨kvs, ws, nx, am, tn, ta, hS, hE, c1, c2, e2, e1⟩, hA, hp1, b', nS, nE⟩ := q
  exact ⟨⟨kvs, ws, nx, am, tn, ta, hS, hE, Nat.le_trans c1 a, Nat.le_trans c2 b, fun i c d => e2 i c (h i c d), e1⟩, hA, hp1, b', nS, nE⟩
end
section
variable {P : Program} {w : World} {K : PySem.W.Frag} {mg : Str → Option Value} {base : Heap} {f fD fN fNs fA : Addr} {fd fdD dN dNs dA : FuncData}
abbrev NMo : List Str := ["_law_pool_here", "_law_abc", "_law_most", "_law_great", "_law_posts", "_law_steps", "_law_ends", "_law_post", "_law_mark", "_law_oks"]
theorem scMod : FnScope NMo ["_law_pool_here", "_law_abc", "_law_most", "_law_great"] (defScope sModel) := ⟨rfl, rfl, rfl, by decide +kernel, rfl, by decide +kernel, by decide +kernel⟩
set_option maxHeartbeats 0 in
theorem ok_modelT (F : Fun K "_law_model" "_law_model" sModel f fd) (D : Def K mg "_law_draw" sDraw ["_law_pool_here", "_law_many"] fD fdD) (DN : Def K mg "_law_name" sName ["_law_pool_here", "_law_found"] fN dN) (DS : Def K mg "_law_names" sNames ["_law_pool_here", "_law_many"] fNs dNs) (DA : Def K mg "_law_amount" sAmount ["_law_pool_here", "_law_great"] fA dA) (Z : Free mg) :
    FnOk P w K mg base CX0 4 f fd ["_law_pool_here", "_law_abc", "_law_most", "_law_great"] spModelT := by
  have G : FnOk P w K mg base CX0 1 fD fdD ["_law_pool_here", "_law_many"] spDraw := ok_draw D.F Z.int Z.divmod
  have GS : FnOk P w K mg base CX0 3 fNs dNs ["_law_pool_here", "_law_many"] spNames := ok_names DS.F D DN Z
  have GA : FnOk P w K mg base CX0 2 fA dA ["_law_pool_here", "_law_great"] spAmount := ok_amount DA.F D Z
  refine F.ok scMod (fun vs H Q E h => ?_) (fun cdv A' outer s H vs Q E hr h => ?_)
  · obtain ⟨p, a, m, b, rfl, _⟩ := h
    rfl
  · obtain ⟨p, a, m, b, rfl, sg, m0, m6, hp, k⟩ := h
    have hr1 : Room 1 _ := hr.mono (by decide)
    have hr2 : Room 2 _ := hr.mono (by decide)
    refine ⟨_, pss_cons (ps_set (i := 4) scMod.nd rfl (.inl rfl) (pe_call GS hr rfl DS.g DS.kp DS.b .nil pass0 (pa_cons (pv 0) (pa_cons (pe_op op_add pe_int (pe_call G hr1 rfl D.g D.kp D.b .nil pass0 (pa_cons (pv 0) (pa_cons (pv 2) pa_nil)))) pa_nil))))
      (pss_cons (ps_par (i := 5) (j := 6) rfl scMod.nd rfl rfl (by decide) rfl rfl (pa_cons pe_dnewT (pa_cons pe_dnewK pa_nil)) (by rfl))
      (pss_cons (ps_for PassesOwn.never rfl (pi_list (pv 4)) (pg_name (i := 7) scMod.nd rfl (.inl rfl))
        (pss_cons (ps_for PassesOwn.never rfl (pi_str (pv 1)) (pg_name (i := 8) scMod.nd rfl (.inl rfl))
          (pss_one (ps_dput (un2 hr) (pv 5) (pe_tup (pa_cons (pv 7) (pa_cons (pv 8) pa_nil))) (pe_tup (pa_cons (pe_ix ix_list (pv 4) (pe_call G hr1 rfl D.g D.kp D.b .nil pass0 (pa_cons (pv 0) (pa_cons (pe_callB call_len_seq (by rfl) Z.len PySem.boot_len (pa_cons (pv 4) pa_nil)) pa_nil))) (fun _ _ => rfl)) (pa_cons (pe_call GA hr2 rfl DA.g DA.kp DA.b .nil pass0 (pa_cons (pv 0) (pa_cons (pv 3) pa_nil))) pa_nil))) rfl)))
        (pss_cons (ps_dput (un2 hr) (pv 6) (pv 7) (pe_tup (pa_cons (pv 7) (pa_cons pe_int pa_nil))) rfl)
        (pss_one (ps_if (pt_cmpR op_gt (pe_call G hr1 rfl D.g D.kp D.b .nil pass0 (pa_cons (pv 0) (pa_cons pe_int pa_nil))) pe_int (nomark _))
          (pss_one (ps_dput (un2 hr) (pv 6) (pv 7) (pe_tup (pa_cons (pe_ix ix_list (pv 4) (pe_call G hr1 rfl D.g D.kp D.b .nil pass0 (pa_cons (pv 0) (pa_cons (pe_callB call_len_seq (by rfl) Z.len PySem.boot_len (pa_cons (pv 4) pa_nil)) pa_nil))) (fun _ _ => rfl)) (pa_cons (pe_call GA hr2 rfl DA.g DA.kp DA.b .nil pass0 (pa_cons (pv 0) (pa_cons (pv 3) pa_nil))) pa_nil))) rfl)) pss_nil)))))
      (pss_cons (ps_setLc (i := 9) (own := [("_law_post", 7)]) (g := gName 7) rfl scMod.nd rfl rfl (sw_true rfl rfl rfl (by decide +kernel)) (pi_list (pv 4)) (blkOk_by (N := NMo) (sc := defScope sModel) (by decide +kernel))
          (fun _ _ _ _ _ => pg_name (i := 7) scMod.nd rfl (.inl rfl)) (fun _ _ _ _ _ => pts_one (pt_cmpR op_eq (pe_call G hr1 rfl D.g D.kp D.b .nil pass0 (pa_cons (pv 0) (pa_cons pe_int pa_nil))) pe_int (nomark _))) (fun _ _ _ _ _ => pv 7))
      (pss_one (ps_ret (pe_lst (pa_cons (pv 1) (pa_cons (pv 4) (pa_cons (pv 5) (pa_cons (pv 6) (pa_cons (pv 9) pa_nil))))))))))), ?_⟩
    refine ⟨_, rfl, _, rfl, _, rfl, p, m, rfl, m0, by omega, hp, fun d H1 d0 d1 hp1 b1 => ?_⟩
    obtain ⟨j, rfl⟩ := nat_of d0
    have e1j : V.int ((1 : Int) + (j : Int)) = V.int ((1 + j : Nat) : Int) := by rw [show (1 : Int) + (j : Int) = ((1 + j : Nat) : Int) by omega]
    refine ⟨_, _, rfl, rfl, p, 1 + j, congrArg (fun z => [V.ref p, z]) e1j, by omega, by omega, hp1, fun A st H2 T lst fA nA0 hp2 b2 => ?_⟩
    intro Sd hS Ed hE
    refine ⟨_, _, rfl, ?_⟩
    have b12 := b1.trans b2
    have nS : H Sd = none := b12.free hS (hp2.ne hS)
    have hp3 := hp2.up (o := .dT []) hS
    have b3 := b12.upd (o := .dT []) hS
    have nE : H Ed = none := b3.free hE (hp3.ne hE)
    have sS : Same H2 (L2.upd H2 Sd (.dT [])) := Same.put (Same.refl _) hS
    have sE : Same (L2.upd H2 Sd (.dT [])) (L2.upd (L2.upd H2 Sd (.dT [])) Ed (.dK [])) := Same.put (Same.refl _) hE
    have M3 : MSt H (L2.upd (L2.upd H2 Sd (.dT [])) Ed (.dK [])) p A Sd Ed st (fun i c => i < 0 ∧ c ∈ a) 0 0 0 :=
      ⟨⟨[], [], fun _ _ => 0, fun _ _ => 0, fun _ => 0, fun _ => 0, sE _ _ upd_same, upd_same, Nat.le_refl _, Nat.le_refl _, fun _ _ d => absurd d.1 (Nat.not_lt_zero _), fun _ d => absurd d (Nat.not_lt_zero _)⟩, sE _ _ (sS _ _ fA), hp3.up hE, b3.upd hE, nS, nE⟩
    generalize L2.upd (L2.upd H2 Sd (.dT [])) Ed (.dK []) = H3 at M3 ⊢
    have n6 : st.length ≤ 6 := T.few
    have npos := T.pos
    have a4 := sg.few
    refine ⟨_, rfl, A, rfl, ⟨_, SqL.of M3.hA⟩, for_it (walk_list (xs := st.map V.str)) (fun i σ H' => ∃ v7 v8 : Option V, σ = [some (.ref p), some (.str (S a)), some (.int m), some (.bl b), some (.ref A), some (.ref Sd), some (.ref Ed), v7, v8, none] ∧ MSt H H' p A Sd Ed st (fun i' c => i' < i ∧ c ∈ a) i (i * 4) (i * 2))
      ⟨none, none, rfl, M3⟩ (fun _ _ _ _ h => by obtain ⟨_, _, _, h⟩ := h; exact SqL.of h.hA) ?_ ?_⟩
    · rintro i x σ H4 H4' hi ⟨v7, v8, rfl, M4⟩ ⟨rfl, hx⟩
      rw [List.length_map] at hi
      have ez := nmOf_at hi
      have hx' : x = .str (nmOf st i) := Option.some.inj (hx.symm.trans (map_get ez))
      subst hx'
      have i6 : i < 6 := by omega
      have M4' : MSt H H4' p A Sd Ed st (fun i' c => (i' < i ∧ c ∈ a) ∨ (i' = i ∧ c ∈ a.take 0)) i (i * 4 + 0) (i * 2) := M4.less (fun i' c d => d.elim id fun z => by cases z.2) (Nat.le_refl _) (Nat.le_refl _)
      refine ⟨_, rfl, _, rfl, for_it walk_str (fun j σ H' => ∃ v8 : Option V, σ = [some (.ref p), some (.str (S a)), some (.int m), some (.bl b), some (.ref A), some (.ref Sd), some (.ref Ed), some (.str (nmOf st i)), v8, none] ∧ MSt H H' p A Sd Ed st (fun i' c => (i' < i ∧ c ∈ a) ∨ (i' = i ∧ c ∈ a.take j)) i (i * 4 + j) (i * 2))
        ⟨v8, rfl, M4'⟩ (fun _ _ _ _ _ => trivial) ?_ ?_⟩
      · rintro j x σ H5 H5' hj ⟨v8, rfl, M5⟩ ⟨rfl, c, hc, rfl⟩
        have hc' : a[j]? = some c := k_in_S hc
        rw [S_size] at hj
        refine ⟨_, rfl, _, rfl, _, rfl, A, _, rfl, .inl (SqL.of M5.hA), p, _, rfl, by rw [List.length_map]; omega, by rw [List.length_map]; omega, M5.hp, fun d H6 d0 d1 hp6 b6 => ?_⟩
        rw [List.length_map] at d1
        obtain ⟨e, rfl⟩ := nat_of d0
        have he : e < st.length := by omega
        have M6 := M5.but hp6 b6
        refine ⟨A, _, _, _, rfl, rfl, SqL.of M6.hA, atI_nat (map_get (nmOf_at he)), _, rfl, _, rfl, p, b, rfl, M6.hp, fun z H7 zs7 hp7 b7 => ⟨by show 2 ≤ sizeLine; decide, fun t ht => ?_⟩⟩
        have M7 := (M6.but hp7 b7).new (o := .tup [.str (nmOf st e), .int z]) ht
        have ht7 : (L2.upd H7 t (.tup [.str (nmOf st e), .int z])) t = some (.tup [.str (nmOf st e), .int z]) := upd_same
        generalize L2.upd H7 t (.tup [.str (nmOf st e), .int z]) = H8 at M7 ht7 ⊢
        refine ⟨_, rfl, _, rfl, _, rfl, by show 2 ≤ sizeLine; decide, fun u hu => ?_⟩
        have M8 := M7.new (o := .tup [.str (nmOf st i), .str (S [c])]) hu
        have ht8 : (L2.upd H8 u (.tup [.str (nmOf st i), .str (S [c])])) t = some (.tup [.str (nmOf st e), .int z]) := (upd_ne (ne_of_none ht7 hu)).trans ht7
        obtain ⟨H9, dp, M9⟩ := M8.put2 (Dn' := fun i' c => (i' < i ∧ c ∈ a) ∨ (i' = i ∧ c ∈ a.take (j + 1))) ht8 upd_same he zs7 (fun i' c' d => by
          rcases d with d | ⟨d1, d2⟩
          · exact .inl (.inl d)
          · rw [take_more hc'] at d2
            rcases List.mem_append.mp d2 with d2 | d2
            · exact .inl (.inr ⟨d1, d2⟩)
            · exact .inr ⟨by rw [d1], List.mem_singleton.mp d2⟩) (by omega)
        exact ⟨Sd, H9, rfl, dp, _, rfl, M9⟩
      · rintro σ H5 ⟨v8, rfl, M5⟩
        rw [S_size] at M5
        have M5 := M5.less (Dn' := fun i' c => i' < i + 1 ∧ c ∈ a) (l1' := (i + 1) * 4) (fun i' c d => by
          by_cases q : i' < i
          · exact .inl ⟨q, d.2⟩
          · exact .inr ⟨by omega, by rw [List.take_length]; exact d.2⟩) (by omega) (Nat.le_refl _)
        refine ⟨_, rfl, by show 2 ≤ sizeLine; decide, fun t ht => ?_⟩
        have M6 := M5.new (o := .tup [.str (nmOf st i), .int 0]) ht
        obtain ⟨H7, dp, M7⟩ := M6.put1 (e := i) upd_same hi (by decide) (by omega)
        refine ⟨_, rfl, _, rfl, Ed, H7, rfl, dp, ?_⟩
        refine ⟨_, rfl, p, _, rfl, by decide, by decide, M7.hp, fun d H8 d0 d1 hp8 b8 => ?_⟩
        have M8 := M7.but hp8 b8
        refine ⟨_, _, rfl, rfl, _, rfl, ite2 (fun _ => ?_) (fun _ => ?_)⟩
        · refine ⟨_, rfl, _, rfl, _, rfl, A, _, rfl, .inl (SqL.of M8.hA), p, _, rfl, by rw [List.length_map]; omega, by rw [List.length_map]; omega, M8.hp, fun d H9 d0 d1 hp9 b9 => ?_⟩
          rw [List.length_map] at d1
          obtain ⟨e, rfl⟩ := nat_of d0
          have he : e < st.length := by omega
          have M9 := M8.but hp9 b9
          refine ⟨A, _, _, _, rfl, rfl, SqL.of M9.hA, atI_nat (map_get (nmOf_at he)), _, rfl, _, rfl, p, b, rfl, M9.hp, fun z H10 zs10 hp10 b10 => ⟨by show 2 ≤ sizeLine; decide, fun t ht => ?_⟩⟩
          have M10 := (M9.but hp10 b10).new (o := .tup [.str (nmOf st e), .int z]) ht
          obtain ⟨H11, dp, M11⟩ := M10.over (e := e) upd_same he zs10 (by omega)
          exact ⟨_, rfl, _, rfl, Ed, H11, rfl, dp, _, _, rfl, M11.less (fun _ _ d => d) (Nat.le_refl _) (by omega)⟩
        · exact ⟨_, _, rfl, M8.less (fun _ _ d => d) (Nat.le_refl _) (by omega)⟩
    · rintro σ H4 ⟨v7, v8, rfl, M4⟩
      rw [List.length_map] at M4
      refine ⟨_, rfl, A, rfl, ⟨_, SqL.of M4.hA⟩, fun R hR => ?_⟩
      have nRp := M4.hp.ne hR
      have nRA : R ≠ A := ne_of_none' M4.hA hR
      have R0 : H R = none := M4.b.free hR nRp
      refine lc_it (walk_list (xs := st.map V.str)) (fun i H5 => ∃ ys : Nat → Bool, H5 R = some (.lst (((List.range i).filter ys).map fun j => V.str (nmOf st j))) ∧ MSt H H5 p A Sd Ed st (fun i' c => i' < st.length ∧ c ∈ a) st.length (st.length * 4) (st.length * 2)) ⟨fun _ => false, upd_same, M4.new hR⟩ (fun _ _ _ h => by obtain ⟨_, _, h⟩ := h; exact SqL.of h.hA) ?_ ?_
      · rintro i x H5 H5' hi ⟨ys, h1, M5⟩ ⟨rfl, hx⟩
        rw [List.length_map] at hi
        have hx' : x = .str (nmOf st i) := Option.some.inj (hx.symm.trans (map_get (nmOf_at hi)))
        subst hx'
        refine ⟨rfl, _, rfl, p, _, rfl, by decide, by decide, M5.hp, fun d H6 d0 d1 hp6 b6 => ?_⟩
        have M6 := M5.but hp6 b6
        have h6 := b6 R _ nRp h1
        refine ⟨rfl, _, rfl, ite2 (fun _ => ?_) (fun _ => ?_)⟩
        · refine ⟨_, rfl, _, h6, ?_, fun j => if j = i then true else ys j, ?_, M6.up h6 nRA nRp R0⟩
          · rw [List.length_map, sizeLine_eq]
            have := List.length_filter_le ys (List.range i)
            rw [List.length_range] at this
            omega
          · rw [upd_same, sub_filter_more (g := fun j => V.str (nmOf st j)), if_pos rfl]
        · refine ⟨fun j => if j = i then false else ys j, ?_, M6⟩
          rw [h6, sub_filter_more (g := fun j => V.str (nmOf st j)), if_neg (by decide), List.append_nil]
      · rintro H5 ⟨ys, h1, M5⟩
        rw [List.length_map] at h1
        refine ⟨_, rfl, _, rfl, _, rfl, _, rfl, _, rfl, by show 5 ≤ sizeLine; decide, fun q hq => ?_⟩
        have nq := M5.hp.ne hq
        have q0 : H q = none := M5.b.free hq nq
        have s6 : Same H5 (L2.upd H5 q (.lst [.str (S a), .ref A, .ref Sd, .ref Ed, .ref R])) := Same.put (Same.refl _) hq
        have M6 := M5.new (o := .lst [.str (S a), .ref A, .ref Sd, .ref Ed, .ref R]) hq
        obtain ⟨⟨kvs, ws, nx, am, tn, ta, gS, gE, c1, c2, e2, e1⟩, gA, gp, gb, _, _⟩ := M6
        have OL : LD.Ok ⟨a, st, nx, am, tn, ta, ys⟩ := ⟨sg, T, fun i c hi hc => (e2 i c ⟨hi, hc⟩).1, fun i hi => (e1 i hi).1⟩
        refine k q ⟨a, st, nx, am, tn, ta, ys⟩ _ OL ⟨fun i c hi hc => (e2 i c ⟨hi, hc⟩).2.1, fun i hi => (e1 i hi).2.1⟩ rfl (show ((st.length : Nat) : Int) ≤ m by omega) ⟨A, Sd, Ed, R, kvs, ws, upd_same, gA, gS, gE, fun i c hi hc => (e2 i c ⟨hi, hc⟩).2.2, fun i hi => (e1 i hi).2.2, LD.yes ⟨a, st, nx, am, tn, ta, ys⟩, ?_, fun i hi => yes_at OL hi⟩ q0 gp gb
        rw [s6 _ _ h1]
        unfold LD.yes
        rw [List.map_map] <;> rfl
end
end Wb
/-! a list unpacked into names -/
namespace Lz
open PySem PySem.W PySem.Spec PyProof.Rows
section
variable {prog : Program} {w : World} {A : Around} {E : Value → Shared → Prop} {I l : Addr} {St : Nat → Shared → Prop} {items : Array Value} {s : Shared}
theorem draw_walk (W : WalksS prog w A I [I, l] [I] (fun a b => b = a) items.size (fun i v => items[i]? = some v) St) : ∀ (n i : Nat) (s : Shared) (Q : List Value → Shared → Prop), St i s → i + n ≤ items.size →
    (∀ s', St (i + n) s' → Moved [I] (fun a b => b = a) s s' → Q ((items.toList.drop i).take n) s') → wpAny (model prog w) A (draw (.ref I) n) Q E s
  | 0, i, s, Q, st, _, k => by
    show wpAny _ _ (pure []) Q E s
    exact wpAny_pure (k s st (Moved.refl fun _ => rfl))
  | n + 1, i, s, Q, st, le, k => by
    have lt : i < items.size := by omega
    show wpAny _ _ (pyNext (.ref I) >>= _) Q E s
    refine wpAny_bind (W.item i s _ _ lt st fun v s1 hv st1 mv => ?_)
    refine wpAny_bind (wpAny_holding (draw_walk W n (i + 1) s1 _ st1 (by omega) fun s2 st2 mv2 => wpAny_pure ?_))
    have e : items.toList.drop i = v :: items.toList.drop (i + 1) := by
      have q : items.toList[i]? = some v := by rw [Array.getElem?_toList]; exact hv
      exact (List.drop_eq_getElem?_toList_append).trans (by rw [q] <;> rfl)
    have q := k s2 (by rw [show i + (n + 1) = i + 1 + n by omega]; exact st2) (Moved.trans W.gtrans mv mv2)
    rw [e, List.take_succ_cons] at q
    exact q
theorem unpack_list {targets : List (Bool × (Value → Sem Unit))} {Q : Unit → Shared → Prop} (calm : A.handled = none) (il : s.heap.IsList l items) (hn : targets.length = items.size) (hstar : targets.findIdx? (·.1) = none)
    (h : ∀ h' tk, (∀ b o, s.heap.get? b = some o → h'.get? b = some o) → wpAny (model prog w) A (assignInOrder (targets.map (·.2)) items.toList) Q E { s with heap := h', toks := tk }) : wpAny (model prog w) A (unpack (.ref l) targets) Q E s := by
  have lt : l < s.heap.objs.size := by obtain ⟨_, e, _⟩ := il; exact Heap.lt_size e
  unfold unpack
  rw [hn, hstar]
  refine wpAny_bind (wpAny_holding ?_)
  unfold unpackItems
  refine wpAny_bind ?_
  unfold notIterableAtAll
  refine wpAny_bind (wpAny_specialOf il.typeIs F.slot_list_iter.lookup (wpAny_pure ?_))
  simp only [Bool.false_eq_true, if_false]
  refine wpAny_bind (wpAny_holding (wpAny_pyIter_list il ?_))
  have i1 : (s.heap.push { cls := .type "list_iterator", data := .fields #[.ref l, .int 0 0] }).IsListIter s.heap.objs.size l 0 := ⟨_, Heap.get?_push_size _ rfl, rfl, rfl⟩
  refine wpAny_bind (wpAny_holding (draw_walk (Walks.list (A := A) calm s.heap.objs.size l (Nat.ne_of_lt lt) items).toS items.size 0 _ _ ⟨i1, il.push _⟩ (by omega) fun s1 st1 mv1 => ?_))
  have all : List.take items.size (List.drop 0 items.toList) = items.toList := by
    rw [List.drop_zero] ; exact List.take_of_length_le (by simp)
  rw [all, if_neg (by simp)]
  rw [Nat.zero_add] at st1
  refine wpAny_bind (wpAny_holding ((Walks.list (A := A) calm s.heap.objs.size l (Nat.ne_of_lt lt) items).toS.done s1 _ _ st1 fun s2 mv2 => ?_))
  simp only [Option.isSome_none, Bool.false_eq_true, if_false]
  obtain ⟨h2, tk2, e2, kept⟩ := moved_old (s := s) rfl rfl (Moved.trans (fun a b c p q => q.trans p) mv1 mv2)
  subst e2
  exact wpAny_pure (h h2 tk2 kept)
end
end Lz
namespace Lz
open PySem PySem.Spec PyProof.Rows L2
section
variable {X : Cx}
/-- a, b, c = e, e a list -/
def gUnp (K : PySem.W.Frag) (n : Nat) (t : TGs) : TG := fun v σ H Q => ∃ a xs, v = .ref a ∧ SqL K H a xs ∧ xs.length = n ∧ t xs σ H Q
theorem pg_unp {es : List Expr} {c : Nat} {t : TGs} {n : Nat} {pos : Pos} (hc : X.calm = true) (h : PGs X es t) (hn : (assignEach es X.env).length = n := by rfl) (hst : (assignEach es X.env).findIdx? (·.1) = none := by rfl) : PG X (.Tuple es c pos) (gUnp X.K n t) := by
  refine ⟨fun pins s σ H v u Q I r hw => ?_⟩
  obtain ⟨a, xs, rfl, hq, hl, hw⟩ := hw
  cases r
  obtain ⟨its, rv, pl, hz⟩ := I.list hq
  rw [assign_Tuple]
  refine wpAny_bind (wpAny_standAt (unpack_list (I.ok.hd hc) pl.isList (by simp [hn, ← hl, rv.length]) hst fun h' tk kept => ?_))
  exact h.run pins _ σ H xs _ Q (I.kept (t' := tk) kept) (by simpa using rv) hw
end
end Lz
/-! all that a loop is made of, in its one order; the program's loop -/
namespace Wb
open PySem L2 WbMin WbS Lz
abbrev sLine : Stmt := top 64
abbrev sLLoop : Stmt := top 65
def LD.srt (L : LD) (sg : List Nat) : LD := { L with sg := sg }
theorem LD.Ok.srt {L : LD} (O : L.Ok) {sg : List Nat} (p : sg.Perm L.sg) : (L.srt sg).Ok :=
  ⟨⟨fun c hc => O.sgs.low c (p.mem_iff.mp hc), p.nodup_iff.mpr O.sgs.nd, by show 0 < sg.length; rw [p.length_eq]; exact O.sgs.pos, by show sg.length ≤ 4; rw [p.length_eq]; exact O.sgs.few⟩, O.sts, fun i c hi hc => O.nxlt i c hi (p.mem_iff.mp hc), O.tnlt⟩
def spLine : Sp := fun vs H Q _ => ∃ (q : Addr) (L : LD), vs = [.ref q] ∧ L.Ok ∧ MdAt H q L ∧
  ∀ (r : Addr) (sg : List Nat) (H' : Hp), sg.Perm L.sg → PyProof.Rows.sortedS (sg.map sOne) = true → RowAt H' r (L.srt sg) → H r = none → Same H H' → Q (.ref r) H'
theorem oks_filter {L : LD} (O : L.Ok) {os : List Str} (h : ∀ i, i < L.n → decide (L.nm i ∈ os) = L.ys i) : (L.st.filter fun z => decide (z ∈ os)) = L.yes := by
  rw [← yes_filter O]
  refine List.filter_congr fun z hz => ?_
  obtain ⟨i, hi, e⟩ := List.getElem_of_mem hz
  have e' : L.nm i = z := Option.some.inj ((nm_at hi).symm.trans (by rw [List.getElem?_eq_getElem hi, e]))
  rw [← e', h i hi, yes_at O hi]
theorem rows_take {L : LD} (i : Nat) : ((List.range (i + 1)).flatMap fun i => L.sg.map (L.row i)) = ((List.range i).flatMap fun i => L.sg.map (L.row i)) ++ L.sg.map (L.row i) := by
  rw [List.range_succ, List.flatMap_append, List.flatMap_cons, List.flatMap_nil, List.append_nil]
theorem Tups.append {H : Hp} : ∀ {as bs : List Addr} {xs ys : List (List V)}, Tups H as xs → Tups H bs ys → Tups H (as ++ bs) (xs ++ ys)
  | [], _, [], _, _, h => h
  | _ :: _, _, _ :: _, _, h, g => ⟨h.1, Tups.append h.2 g⟩
  | [], _, _ :: _, _, h, _ => h.elim
  | _ :: _, _, [], _, h, _ => h.elim
section
variable {P : Program} {w : World} {K : PySem.W.Frag} {mg : Str → Option Value} {base : Heap} {f fL : Addr} {fd dL : FuncData} {A : LA} {e : Addr}
abbrev NLi : List Str := ["_law_model_here", "_law_abc", "_law_posts", "_law_steps", "_law_ends", "_law_oks", "_law_lines", "_law_post", "_law_closings", "_law_mark"]
theorem scLi : FnScope NLi ["_law_model_here"] (defScope sLine) := ⟨rfl, rfl, rfl, by decide +kernel, rfl, by decide +kernel, by decide +kernel⟩
set_option maxHeartbeats 0 in
theorem ok_line (F : Fun K "_law_line" "_law_line" sLine f fd) (mT : mg "tuple" = none) (mS : mg "sorted" = none) : FnOk P w K mg base CX0 1 f fd ["_law_model_here"] spLine := by
  refine F.ok scLi (fun vs H Q E h => ?_) (fun cdv A outer s H vs Q E hr h => ?_)
  · obtain ⟨q, L, rfl, _⟩ := h
    rfl
  · obtain ⟨q, L, rfl, O, M, k⟩ := h
    refine ⟨_, pss_cons (ps_asg (pv 0) (pg_unp rfl (pgs_cons (pg_name (i := 1) scLi.nd rfl (.inl rfl)) (pgs_cons (pg_name (i := 2) scLi.nd rfl (.inl rfl)) (pgs_cons (pg_name (i := 3) scLi.nd rfl (.inr rfl)) (pgs_cons (pg_name (i := 4) scLi.nd rfl (.inr rfl)) (pgs_cons (pg_name (i := 5) scLi.nd rfl (.inr rfl)) pgs_nil)))))))
      (pss_cons (ps_set (i := 1) scLi.nd rfl (.inl rfl) (pe_join pe_str (pe_callB (call_sortedTx rfl) (by rfl) mS (by decide +kernel) (pa_cons (pv 1) pa_nil))))
      (pss_cons (ps_set (i := 6) scLi.nd rfl (.inl rfl) (pe_lst pa_nil))
      (pss_cons (ps_for PassesOwn.never rfl (pi_list (pv 2)) (pg_name (i := 7) scLi.nd rfl (.inr rfl))
        (pss_one (ps_set (i := 6) scLi.nd rfl (.inl rfl) (pe_op op_cat (pv 6)
          (pe_lc (own := [("_law_mark", 9)]) (g := gName 9) (tt := tYes) rfl scLi.nd (pi_str (pv 1)) (blkOk_by (N := NLi) (sc := defScope sLine) (by decide +kernel)) (fun _ _ _ _ _ => pg_name (i := 9) scLi.nd rfl (.inl rfl)) (fun _ _ _ _ _ => pts_nil)
            (fun _ _ _ _ _ => pe_op (show OpR _ _ (rCatT K) from op_catT) (pe_tup (pa_cons (pv 7) (pa_cons (pv 9) pa_nil))) (pe_dget (un2 hr) (pv 3) (pe_tup (pa_cons (pv 7) (pa_cons (pv 9) pa_nil))) (fun _ _ => rfl))))))))
      (pss_cons (ps_setLc (i := 8) (own := [("_law_post", 7)]) (g := gName 7) (tt := tYes) rfl scLi.nd rfl rfl (sw_true rfl rfl rfl (by decide +kernel)) (pi_list (pv 2)) (blkOk_by (N := NLi) (sc := defScope sLine) (by decide +kernel)) (fun _ _ _ _ _ => pg_name (i := 7) scLi.nd rfl (.inl rfl)) (fun _ _ _ _ _ => pts_nil)
          (fun _ _ _ _ _ => pe_op (show OpR _ _ (rCatT K) from op_catT) (pe_tup (pa_cons (pv 7) pa_nil)) (pe_dget (un2 hr) (pv 4) (pv 7) (fun _ _ => rfl))))
      (pss_one (ps_ret (pe_tup (pa_cons (pv 1) (pa_cons (pe_callTy call_tuple_of (by rfl) mT (by decide +kernel) (pa_cons (pv 2) pa_nil)) (pa_cons (pe_callTy call_tuple_of (by rfl) mT (by decide +kernel) (pa_cons (pv 6) pa_nil)) (pa_cons (pe_callTy call_tuple_of (by rfl) mT (by decide +kernel) (pa_cons (pv 8) pa_nil))
        (pa_cons (pe_callTy call_tuple_of (by rfl) mT (by decide +kernel) (pa_cons (pe_lc (own := [("_law_post", 7)]) (g := gName 7) rfl scLi.nd (pi_list (pv 2)) (blkOk_by (N := NLi) (sc := defScope sLine) (by decide +kernel)) (fun _ _ _ _ _ => pg_name (i := 7) scLi.nd rfl (.inl rfl)) (fun _ _ _ _ _ => pts_one (pt_cmpR (show OpR _ _ (rIn K false) from op_in_seq) (pv 7) (pv 5) (by rfl))) (fun _ _ _ _ _ => pv 7)) pa_nil)) pa_nil)))))))))))), ?_⟩
    obtain ⟨A, Sd, Ed, Ok, kvs, ws, h0, hA, hS, hE, e2, e1, os, hO, hos⟩ := M
    have pos := O.sgs.pos
    have sgf := O.sgs.few
    have stf : L.st.length ≤ 6 := O.sts.few
    refine ⟨_, rfl, q, _, rfl, SqL.of h0, rfl, _, _, rfl, _, _, rfl, _, _, rfl, _, _, rfl, _, _, rfl, rfl, ?_⟩
    refine ⟨⟨_, rfl⟩, _, rfl, S L.sg, rfl, by rw [S_len]; omega, fun ys p perm srt hp' => ?_⟩
    rw [S_cps] at perm
    obtain ⟨sg, hsg, rfl⟩ := perm_codes perm
    have lsg : sg.length = L.sg.length := hsg.length_eq
    have s1 : Same H (L2.upd H p (.lst ((sg.map sOne).map V.str))) := Same.put (Same.refl H) hp'
    refine ⟨_, p, sg.map sOne, rfl, rfl, .inl (SqL.of upd_same), ?_, ?_⟩
    · have e1 : ((sg.map sOne).map fun x => x.length) = List.replicate sg.length 1 := by
        rw [List.map_map]
        exact List.map_eq_replicate_iff.mpr fun _ _ => rfl
      have e2 : (Str.ofString "").length = 0 := by decide +kernel
      rw [e1, e2, List.sum_replicate_nat]
      omega
    have ej : Txt.join (Str.ofString "") (sg.map sOne) = S sg := join_one (by omega)
    rw [ej]
    generalize L2.upd H p (.lst ((sg.map sOne).map V.str)) = H1 at s1 ⊢
    refine ⟨by show 0 ≤ sizeLine; decide, fun l0 hl0 => ?_⟩
    have s2 := Same.put (o := .lst []) s1 hl0
    have hl2 : (L2.upd H1 l0 (.lst [])) l0 = some (.lst []) := upd_same
    generalize L2.upd H1 l0 (.lst []) = H2 at s2 hl2 ⊢
    refine ⟨_, rfl, A, rfl, ⟨_, SqL.of (s2 _ _ hA)⟩, for_it (walk_list (xs := L.st.map V.str)) (fun i σ H' => ∃ (lr : Addr) (as : List Addr) (v7 : Option V), σ = [some (.ref q), some (.str (S sg)), some (.ref A), some (.ref Sd), some (.ref Ed), some (.ref Ok), some (.ref lr), v7, none, none] ∧ H' lr = some (.lst (as.map V.ref)) ∧ Tups H' as (((List.range i).flatMap fun i => sg.map ((L.srt sg).row i)).map Row.v) ∧ as.length = i * sg.length ∧ Same H H')
      ⟨l0, [], none, rfl, hl2, trivial, (Nat.zero_mul _).symm, s2⟩ (fun _ _ _ _ h => by obtain ⟨_, _, _, _, _, _, _, h⟩ := h; exact SqL.of (h _ _ hA)) ?_ ?_⟩
    · rintro i x σ H3 H3' hi ⟨lr, as, v7, rfl, h1, h2, la, s3⟩ ⟨rfl, hx⟩
      rw [List.length_map] at hi
      have hi : i < L.n := hi
      have hx' : x = .str (L.nm i) := Option.some.inj (hx.symm.trans (map_get (nm_at hi)))
      subst hx'
      refine ⟨_, rfl, _, rfl, _, rfl, fun D hD => lc_it walk_str (fun j H4 => ∃ bs : List Addr, H4 D = some (.lst (bs.map V.ref)) ∧ Tups H4 bs (((sg.take j).map ((L.srt sg).row i)).map Row.v) ∧ bs.length = j ∧ Same H3' H4) ⟨[], upd_same, trivial, rfl, Same.put (Same.refl _) hD⟩ (fun _ _ _ _ => trivial) ?_ ?_⟩
      · rintro j x H4 H4' hj ⟨bs, g1, g2, lb, g3⟩ ⟨rfl, c, hc, rfl⟩
        have hc' : sg[j]? = some c := k_in_S hc
        rw [S_size] at hj
        have cm : c ∈ L.sg := hsg.mem_iff.mp (List.mem_of_getElem? hc')
        have s4 := s3.trans g3
        refine ⟨rfl, _, rfl, _, rfl, by show 2 ≤ sizeLine; decide, fun u hu => ?_⟩
        have s5 := Same.put (o := .tup [.str (L.nm i), .str ⟨#[c]⟩]) s4 hu
        have g5 := Same.put (o := .tup [.str (L.nm i), .str ⟨#[c]⟩]) g3 hu
        have gD5 : (L2.upd H4' u (.tup [.str (L.nm i), .str ⟨#[c]⟩])) D = some (.lst (bs.map V.ref)) := (upd_ne (ne_of_none g1 hu)).trans g1
        have hu5 : (L2.upd H4' u (.tup [.str (L.nm i), .str ⟨#[c]⟩])) u = some (.tup [.str (L.nm i), .str ⟨#[c]⟩]) := upd_same
        have g25 := g2.same (Same.put (o := .tup [.str (L.nm i), .str ⟨#[c]⟩]) (Same.refl _) hu)
        generalize L2.upd H4' u (.tup [.str (L.nm i), .str ⟨#[c]⟩]) = H5 at s5 g5 gD5 hu5 g25 ⊢
        refine ⟨_, rfl, _, rfl, _, rfl, by show 2 ≤ sizeLine; decide, fun u2 hu2 => ?_⟩
        have s6 := Same.put (o := .tup [.str (L.nm i), .str ⟨#[c]⟩]) s5 hu2
        have g6 := Same.put (o := .tup [.str (L.nm i), .str ⟨#[c]⟩]) g5 hu2
        have gD6 : (L2.upd H5 u2 (.tup [.str (L.nm i), .str ⟨#[c]⟩])) D = some (.lst (bs.map V.ref)) := (upd_ne (ne_of_none gD5 hu2)).trans gD5
        have hu6 : (L2.upd H5 u2 (.tup [.str (L.nm i), .str ⟨#[c]⟩])) u = some (.tup [.str (L.nm i), .str ⟨#[c]⟩]) := (upd_ne (ne_of_none hu5 hu2)).trans hu5
        have hu26 : (L2.upd H5 u2 (.tup [.str (L.nm i), .str ⟨#[c]⟩])) u2 = some (.tup [.str (L.nm i), .str ⟨#[c]⟩]) := upd_same
        have g26 := g25.same (Same.put (o := .tup [.str (L.nm i), .str ⟨#[c]⟩]) (Same.refl _) hu2)
        generalize L2.upd H5 u2 (.tup [.str (L.nm i), .str ⟨#[c]⟩]) = H6 at s6 g6 gD6 hu6 hu26 g26 ⊢
        obtain ⟨t, val, ht⟩ := e2 i c hi cm
        refine ⟨Sd, .ref t, rfl, val ▸ DGet.t (k := kk (L.nm i, S [c])) (s6 _ _ hS) hu26, ?_⟩
        refine ⟨u, t, _, _, rfl, rfl, SqT.of hu6, SqT.of (s6 _ _ ht), List.cons_ne_nil _ _, by show 4 ≤ sizeLine; decide, (fun z => nomatch z), fun _ z hz => ?_⟩
        have s7 := Same.put (o := .tup ([.str (L.nm i), .str ⟨#[c]⟩] ++ [.str (L.nm (L.nx i c)), .int (L.am i c)])) (Same.refl H6) hz
        refine ⟨_, s7 _ _ gD6, by rw [List.length_map, sizeLine_eq]; omega, bs ++ [z], ?_, ?_, by rw [List.length_append, lb] <;> rfl, ?_⟩
        · rw [upd_same, List.map_append] <;> rfl
        · rw [take_more hc', List.map_append, List.map_append]
          exact Tups.but (fun x => by intro q; cases q) (s7 _ _ gD6) (But.here (But.refl D _)) (Tups.snoc upd_same (g26.same s7))
        · exact Same.new' (g6.trans s7) hD
      · rintro H4 ⟨bs, g1, g2, lb, g3⟩
        rw [S_size, List.take_length] at g2
        rw [S_size] at lb
        refine ⟨lr, D, _, _, rfl, rfl, g3 _ _ h1, g1, ?_, fun lr' hlr => ?_⟩
        · rw [List.length_map, List.length_map, la, lb, sizeLine_eq]
          have : i * sg.length ≤ 5 * 4 := Nat.mul_le_mul (by omega) (by omega)
          omega
        · have s5 := Same.put (o := .lst (as.map V.ref ++ bs.map V.ref)) (Same.refl H4) hlr
          refine ⟨lr', as ++ bs, _, rfl, ?_, ?_, ?_, (s3.trans g3).trans s5⟩
          · rw [upd_same, List.map_append]
          · rw [show ((List.range (i + 1)).flatMap fun i => sg.map ((L.srt sg).row i)) = _ from rows_take (L := L.srt sg) i, List.map_append]
            exact Tups.append ((h2.same g3).same s5) (g2.same s5)
          · rw [List.length_append, la, lb, Nat.add_mul, Nat.one_mul]
    · rintro σ H3 ⟨lr, as, v7, rfl, h1, h2, la, s3⟩
      rw [List.length_map] at h2 la
      have h2 : Tups H3 as ((L.srt sg).rows.map Row.v) := h2
      refine ⟨_, rfl, A, rfl, ⟨_, SqL.of (s3 _ _ hA)⟩, fun D hD => lc_it (walk_list (xs := L.st.map V.str)) (fun i H4 => ∃ bs : List Addr, H4 D = some (.lst (bs.map V.ref)) ∧ Tups H4 bs (((List.range i).map L.turn).map Trn.v) ∧ bs.length = i ∧ Same H3 H4) ⟨[], upd_same, trivial, rfl, Same.put (Same.refl _) hD⟩ (fun _ _ _ h => by obtain ⟨_, _, _, _, h⟩ := h; exact SqL.of (h _ _ (s3 _ _ hA))) ?_ ?_⟩
      · rintro i x H4 H4' hi ⟨bs, g1, g2, lb, g3⟩ ⟨rfl, hx⟩
        rw [List.length_map] at hi
        have hi : i < L.n := hi
        have hx' : x = .str (L.nm i) := Option.some.inj (hx.symm.trans (map_get (nm_at hi)))
        subst hx'
        have s4 := s3.trans g3
        refine ⟨rfl, _, rfl, by show 1 ≤ sizeLine; decide, fun u hu => ?_⟩
        have s5 := Same.put (o := .tup [.str (L.nm i)]) s4 hu
        have g5 := Same.put (o := .tup [.str (L.nm i)]) g3 hu
        have gD5 : (L2.upd H4' u (.tup [.str (L.nm i)])) D = some (.lst (bs.map V.ref)) := (upd_ne (ne_of_none g1 hu)).trans g1
        have hu5 : (L2.upd H4' u (.tup [.str (L.nm i)])) u = some (.tup [.str (L.nm i)]) := upd_same
        have g25 := g2.same (Same.put (o := .tup [.str (L.nm i)]) (Same.refl _) hu)
        generalize L2.upd H4' u (.tup [.str (L.nm i)]) = H5 at s5 g5 gD5 hu5 g25 ⊢
        obtain ⟨t, val, ht⟩ := e1 i hi
        refine ⟨_, rfl, _, rfl, Ed, .ref t, rfl, val ▸ DGet.k (k := k1 (L.nm i)) (s5 _ _ hE), ?_⟩
        refine ⟨u, t, _, _, rfl, rfl, SqT.of hu5, SqT.of (s5 _ _ ht), List.cons_ne_nil _ _, by show 3 ≤ sizeLine; decide, (fun z => nomatch z), fun _ z hz => ?_⟩
        have s7 := Same.put (o := .tup ([.str (L.nm i)] ++ [.str (L.nm (L.tn i)), .int (L.ta i)])) (Same.refl H5) hz
        refine ⟨_, s7 _ _ gD5, by rw [List.length_map, sizeLine_eq]; omega, bs ++ [z], ?_, ?_, by rw [List.length_append, lb] <;> rfl, ?_⟩
        · rw [upd_same, List.map_append] <;> rfl
        · rw [List.range_succ, List.map_append, List.map_append]
          exact Tups.but (fun x => by intro q; cases q) (s7 _ _ gD5) (But.here (But.refl D _)) (Tups.snoc upd_same (g25.same s7))
        · exact Same.new' (g5.trans s7) hD
      · rintro H4 ⟨bs, g1, g2, lb, g3⟩
        rw [List.length_map] at g2 lb
        have g2 : Tups H4 bs ((L.srt sg).turns.map Trn.v) := g2
        have s4 := s3.trans g3
        refine ⟨_, rfl, _, rfl, A, _, rfl, .inl ⟨SqL.of (s4 _ _ hA), fun tA htA => ?_⟩⟩
        have s5 := Same.put (o := .tup (L.st.map V.str)) (Same.refl H4) htA
        have r5 : (L2.upd H4 tA (.tup (L.st.map V.str))) tA = some (.tup (L.st.map V.str)) := upd_same
        generalize L2.upd H4 tA (.tup (L.st.map V.str)) = H5 at s5 r5 ⊢
        refine ⟨_, rfl, lr, _, rfl, .inl ⟨SqL.of (s5 _ _ (g3 _ _ h1)), fun tR htR => ?_⟩⟩
        have s6 := Same.put (o := .tup (as.map V.ref)) (Same.refl H5) htR
        have r6 : (L2.upd H5 tR (.tup (as.map V.ref))) tR = some (.tup (as.map V.ref)) := upd_same
        generalize L2.upd H5 tR (.tup (as.map V.ref)) = H6 at s6 r6 ⊢
        have s46 := s5.trans s6
        refine ⟨_, rfl, D, _, rfl, .inl ⟨SqL.of (s46 _ _ g1), fun tU htU => ?_⟩⟩
        have s7 := Same.put (o := .tup (bs.map V.ref)) (Same.refl H6) htU
        have r7 : (L2.upd H6 tU (.tup (bs.map V.ref))) tU = some (.tup (bs.map V.ref)) := upd_same
        generalize L2.upd H6 tU (.tup (bs.map V.ref)) = H7 at s7 r7 ⊢
        have s47 := s46.trans s7
        have s07 := s4.trans s47
        refine ⟨_, rfl, A, rfl, ⟨_, SqL.of (s07 _ _ hA)⟩, fun D2 hD2 => lc_it (walk_list (xs := L.st.map V.str)) (fun i H8 => H8 D2 = some (.lst (((L.st.take i).filter fun z => decide (z ∈ os)).map V.str)) ∧ Same H7 H8) ⟨upd_same, Same.put (Same.refl _) hD2⟩ (fun _ _ _ h => SqL.of (h.2 _ _ (s07 _ _ hA))) ?_ ?_⟩
        · rintro i x H8 H8' hi ⟨y1, y2⟩ ⟨rfl, hx⟩
          rw [List.length_map] at hi
          have hx' : x = .str (L.nm i) := Option.some.inj (hx.symm.trans (map_get (nm_at hi)))
          subst hx'
          refine ⟨rfl, _, rfl, _, rfl, Ok, _, rfl, .inl (SqL.of (y2 _ _ (s07 _ _ hO))), rfl, flat_strs _, _, rfl, ?_⟩
          rw [show inV (.str (L.nm i)) (os.map V.str) = decide (L.nm i ∈ os) from inV_strs _ _]
          refine ite2 (fun q => ?_) (fun q => ?_)
          · refine ⟨_, rfl, _, y1, ?_, ?_, Same.new' y2 hD2⟩
            · rw [List.length_map, sizeLine_eq]
              have := List.length_filter_le (fun z => decide (z ∈ os)) (L.st.take i)
              have := List.length_take_le' i L.st
              omega
            · rw [upd_same, take_more (nm_at hi), List.filter_append, List.map_append]
              rw [show ([L.nm i].filter fun z => decide (z ∈ os)) = [L.nm i] from List.filter_cons_of_pos q] <;> rfl
          · refine ⟨?_, y2⟩
            rw [y1, take_more (nm_at hi), List.filter_append, show ([L.nm i].filter fun z => decide (z ∈ os)) = [] from List.filter_cons_of_neg q, List.append_nil]
        · rintro H8 ⟨y1, y2⟩
          rw [List.length_map, List.take_length, oks_filter O hos] at y1
          refine ⟨D2, _, rfl, .inl ⟨SqL.of y1, fun tY htY => ?_⟩⟩
          have s9 := Same.put (o := .tup (L.yes.map V.str)) (Same.refl H8) htY
          have r9 : (L2.upd H8 tY (.tup (L.yes.map V.str))) tY = some (.tup (L.yes.map V.str)) := upd_same
          generalize L2.upd H8 tY (.tup (L.yes.map V.str)) = H9 at s9 r9 ⊢
          have s79 := y2.trans s9
          refine ⟨by show 5 ≤ sizeLine; decide, fun r hr0 => ?_⟩
          have s10 := Same.put (o := .tup [.str (S sg), .ref tA, .ref tR, .ref tU, .ref tY]) (Same.refl H9) hr0
          have s010 : Same H (L2.upd H9 r (.tup [.str (S sg), .ref tA, .ref tR, .ref tU, .ref tY])) := (s07.trans s79).trans s10
          have z7 := s79.trans s10
          have z6 := s7.trans z7
          have z5 := s6.trans z6
          have z4 := s5.trans z5
          exact k r sg _ hsg srt ⟨tA, tR, tU, tY, as, bs, upd_same, z5 _ _ r5, z6 _ _ r6, (h2.same g3).same z4, z7 _ _ r7, g2.same z4, s10 _ _ r9⟩ (none_of_same (s07.trans s79) hr0) s010
end
end Wb
/-! a loop is made of parts in any order -/
namespace Wb
open PySem L2 WbMin WbS Lz
/-- the parts as they are told -/
structure PrtG (st : List Str) (rw : List Row) (tn : List Trn) (ye : List Str) (t rr u y : Addr) (as bs : List Addr) (H : Hp) : Prop where
  ht : H t = some (.tup (st.map V.str))
  hr : H rr = some (.tup (as.map V.ref))
  hT : Tups H as (rw.map Row.v)
  hu : H u = some (.tup (bs.map V.ref))
  hU : Tups H bs (tn.map Trn.v)
  hy : H y = some (.tup (ye.map V.str))
section
variable {st : List Str} {rw : List Row} {tn : List Trn} {ye : List Str} {t rr u y : Addr} {as bs : List Addr} {H H' : Hp}
theorem PrtG.same (s : Same H H') (h : PrtG st rw tn ye t rr u y as bs H) : PrtG st rw tn ye t rr u y as bs H' := ⟨s _ _ h.ht, s _ _ h.hr, h.hT.same s, s _ _ h.hu, h.hU.same s, s _ _ h.hy⟩
theorem PrtG.but {p : Addr} {o : HO} (no : ∀ x, o ≠ .tup x) (hp : H p = some o) (s : But p H H') (h : PrtG st rw tn ye t rr u y as bs H) : PrtG st rw tn ye t rr u y as bs H' :=
  ⟨s _ _ (ne_of h.ht hp fun e => no _ e.symm) h.ht, s _ _ (ne_of h.hr hp fun e => no _ e.symm) h.hr, h.hT.but no hp s, s _ _ (ne_of h.hu hp fun e => no _ e.symm) h.hu, h.hU.but no hp s, s _ _ (ne_of h.hy hp fun e => no _ e.symm) h.hy⟩
end
/-- some of the things that stand, in another order -/
theorem picks {H : Hp} {as : List Addr} {rw : List Row} (hT : Tups H as (rw.map Row.v)) : ∀ l : List Row, (∀ x ∈ l, x ∈ rw) → ∃ bs, Tups H bs (l.map Row.v) ∧ ∀ (p : Nat) (x : Row), l[p]? = some x → ∃ (m : Nat) (a : Addr), rw[m]? = some x ∧ as[m]? = some a ∧ bs[p]? = some a
  | [], _ => ⟨[], trivial, fun p x h => by simp at h⟩
  | x :: l, h => by
    obtain ⟨bs, h1, h2⟩ := picks hT l fun y hy => h y (List.mem_cons_of_mem _ hy)
    obtain ⟨m, hm, em⟩ := List.getElem_of_mem (h x List.mem_cons_self)
    have em' : rw[m]? = some x := by rw [List.getElem?_eq_getElem hm, em]
    have la : as.length = rw.length := by rw [hT.length, List.length_map]
    have ea : as[m]? = some (as[m]'(by omega)) := List.getElem?_eq_getElem (by omega)
    refine ⟨as[m]'(by omega) :: bs, ⟨hT.get ea (by rw [List.getElem?_map, em'] <;> rfl), h1⟩, fun p y hp => ?_⟩
    cases p with
    | zero =>
      cases hp
      exact ⟨m, _, em', ea, rfl⟩
    | succ p => exact h2 p y hp
/-- what is asked of the parts -/
structure Told (L : LD) (sg0 : List Nat) (rw : List Row) (tn : List Trn) (ye : List Str) : Prop where
  sgP : sg0.Perm L.sg
  rwP : rw.Perm L.rows
  tnd : (tn.map Trn.a).Nodup
  tin : ∀ ρ ∈ tn, ρ.a ∈ L.st ∧ ρ.b ∈ L.st
  tnE : L.st.map (turnOf tn) = L.turns
  tfew : tn.length ≤ 6
  ynd : ye.Nodup
  yin : ∀ z ∈ ye, z ∈ L.st
  yeE : (L.st.filter fun z => decide (z ∈ ye)) = L.yes
  yfew : ye.length ≤ 6
def spLoInitG (C T : Addr) : Sp := fun vs H Q _ => ∃ (H0 : Hp) (r dx t rr u y : Addr) (as bs : List Addr) (L : LD) (sg0 : List Nat) (rw : List Row) (tn : List Trn) (ye : List Str), vs = [.ref r, .str (S sg0), .ref t, .ref rr, .ref u, .ref y] ∧ L.Ok ∧ PyProof.Rows.sortedS (L.sg.map sOne) = true ∧ Told L sg0 rw tn ye ∧ PrtG L.st rw tn ye t rr u y as bs H ∧ Same H0 H ∧ H0 r = none ∧ H r = some (.ins C dx []) ∧
  ∀ H' : Hp, Same H0 H' → LoopAt C T H' r L → Q .non H'
section
variable {P : Program} {w : World} {K : PySem.W.Frag} {mg : Str → Option Value} {base : Heap} {A : LA} {e : Addr}
set_option maxHeartbeats 0 in
theorem ok_loinitG (D : LoopF K mg A e) (Z : Free mg) : FnOk P w K mg base CX0 4 A.fI A.dI ["self", "signs", "states", "rows", "turns", "yes"] (spLoInitG A.C A.T) := by
  obtain ⟨t600, g600⟩ := D.w600
  obtain ⟨t4, g4⟩ := D.w4
  obtain ⟨t8, g8⟩ := D.w8
  obtain ⟨t6, g6⟩ := D.w6
  have GS : FnOk P w K mg base CX0 2 A.signs A.dsigns ["value"] spIsSigns := ok_issigns D.signs.F Z D.isword t600 g600 t4 g4
  have G1 : FnOk P w K mg base CX0 2 A.chst A.dchst ["states"] spChSt := ok_chst D.chst.F Z D.tup D.enum t8 g8 t6 g6 D.isname D.first
  have G2 : FnOk P w K mg base CX0 3 A.chro A.dchro ["rows", "signs", "states"] spChRo := ok_chro D.chro.F Z D.tup D.enum D.zip D.rowof D.stateof D.signof D.isint D.first
  have G3 : FnOk P w K mg base CX0 3 A.chtu A.dchtu ["turns", "states"] spChTu := ok_chtu D.chtu.F Z D.tup D.enum D.zip D.turnof D.stateof D.isint D.first
  have G4 : FnOk P w K mg base CX0 2 A.chye A.dchye ["yes", "states"] spChYe := ok_chye D.chye.F Z D.tup D.enum D.stateof D.first
  have O1 : FnOk P w K mg base CX0 1 A.orro A.dorro ["rows", "signs", "states"] spOrRo := ok_orro D.orro.F D.tup
  have O2 : FnOk P w K mg base CX0 1 A.ortu A.dortu ["turns", "states"] spOrTu := ok_ortu D.ortu.F D.tup
  have O3 : FnOk P w K mg base CX0 1 A.orye A.dorye ["yes", "states"] spOrYe := ok_orye D.orye.F D.tup
  have GT : FnOk P w K mg base CX0 1 A.tI A.etI ["self", "row"] (spTaInit A.T) := ok_tainit D.TI D.T Z D.tup D.enum
  have GW : FnOk P w K mg base CX0 1 A.fW A.dW ["self"] (spLoRow A.C) := ok_lorow D
  obtain ⟨_, FI⟩ := D.FI
  refine FunD_ok' FI scLI (fun vs H Q E h => ?_) (fun cdv A' outer s H vs Q E hr h => ?_)
  · obtain ⟨H0, r, dx, t, rr, u, y, as, bs, L, sg0, rw, tn, ye, rfl, _⟩ := h
    rfl
  · obtain ⟨H0, r, dx, t, rr, u, y, as, bs, L, sg0, rw, tn, ye, rfl, O, srtL, TL, pr, s0, r0, hp, k⟩ := h
    have hr1 : Room 1 _ := hr.mono (by decide)
    have hr2 : Room 2 _ := hr.mono (by decide)
    refine ⟨_, pss_cons (ps_if (pt_not (pt_val (pe_call GS hr2 rfl D.signs.g D.signs.kp D.signs.b .nil pass0 (pa_cons (pv 1) pa_nil)))) (pss_one ps_never) pss_nil)
      (pss_cons (ps_expr (pe_call G1 hr2 rfl D.chst.g D.chst.kp D.chst.b .nil pass0 (pa_cons (pv 2) pa_nil)))
      (pss_cons (ps_expr (pe_call G2 hr rfl D.chro.g D.chro.kp D.chro.b .nil pass0 (pa_cons (pv 3) (pa_cons (pv 1) (pa_cons (pv 2) pa_nil)))))
      (pss_cons (ps_expr (pe_call G3 hr rfl D.chtu.g D.chtu.kp D.chtu.b .nil pass0 (pa_cons (pv 4) (pa_cons (pv 2) pa_nil))))
      (pss_cons (ps_expr (pe_call G4 hr2 rfl D.chye.g D.chye.kp D.chye.b .nil pass0 (pa_cons (pv 5) (pa_cons (pv 2) pa_nil))))
      (pss_cons (ps_fld (pv 0) (pe_join pe_str (pe_callB (call_sortedTx rfl) (by rfl) D.sort (by decide +kernel) (pa_cons (pv 1) pa_nil))) rfl)
      (pss_cons (ps_fld (pv 0) (pv 2) rfl)
      (pss_cons (ps_fld (pv 0) (pe_call O1 hr1 rfl D.orro.g D.orro.kp D.orro.b .nil pass0 (pa_cons (pv 3) (pa_cons (pe_fld (pv 0) rfl) (pa_cons (pv 2) pa_nil)))) rfl)
      (pss_cons (ps_fld (pv 0) (pe_call O2 hr1 rfl D.ortu.g D.ortu.kp D.ortu.b .nil pass0 (pa_cons (pv 4) (pa_cons (pv 2) pa_nil))) rfl)
      (pss_cons (ps_fld (pv 0) (pe_call O3 hr1 rfl D.orye.g D.orye.kp D.orye.b .nil pass0 (pa_cons (pv 5) (pa_cons (pv 2) pa_nil))) rfl)
      (pss_one (ps_fld (pv 0) (pe_make D.MT GT hr2 rfl D.gT D.bTI .nil pass0 (pa_cons (pe_prop (pv 0) D.L.cl D.hW GW hr2 D.bW .nil pass0 rfl) pa_nil)) rfl))))))))))), ?_⟩
    have sf := O.sts.few
    have sgf := O.sgs.few
    have few := rows_few O
    have lrw : rw.length = L.rows.length := TL.rwP.length_eq
    have lenA : as.length = rw.length := by rw [pr.hT.length, List.length_map]
    have tl := turns_length L
    have n6 : L.n ≤ 6 := sf
    have lsg : sg0.length = L.sg.length := TL.sgP.length_eq
    have pos := O.sgs.pos
    have G0 : Sgs sg0 := ⟨fun c hc => O.sgs.low c (TL.sgP.mem_iff.mp hc), TL.sgP.nodup_iff.mpr O.sgs.nd, by omega, by omega⟩
    have tfew := TL.tfew
    have yfew := TL.yfew
    obtain ⟨bs0, pT, pk⟩ := picks pr.hT L.rows fun x hx => TL.rwP.mem_iff.mpr hx
    have lbs : bs0.length = L.rows.length := by rw [pT.length, List.length_map]
    have knd : (rw.map Row.k).Nodup := (TL.rwP.map Row.k).nodup_iff.mpr (rows_key_nd O)
    have RB : RowsBy L.st L.sg (rw.map Row.k) as bs0 := by
      refine ⟨by rw [lbs, rows_length] <;> rfl, fun i j z c hz hc => ?_⟩
      have hi : i < L.n := (List.getElem?_eq_some_iff.mp hz).1
      have e : L.nm i = z := Option.some.inj ((nm_at hi).symm.trans hz)
      obtain ⟨m, a, m1, m2, m3⟩ := pk _ _ (rows_at hi hc)
      refine ⟨m, a, ?_, m2, m3⟩
      rw [List.getElem?_map, m1, ← e] <;> rfl
    refine ⟨_, rfl, sg0, rfl, G0, fun H1 s1 => ⟨true, rfl, ?_⟩⟩
    have p1 := pr.same s1
    refine ⟨_, rfl, t, L.st, rfl, p1.ht, O.sts, fun H2 s2 => ?_⟩
    have p2 := p1.same s2
    refine ⟨_, rfl, _, rfl, _, rfl, rr, t, sg0, as, rw, L.st, rfl, p2.hr, p2.hT, p2.ht, ?_, knd, ?_, by omega, sf, ?_, fun H3 s3 => ?_⟩
    · intro ρ hρ
      obtain ⟨i, c, hi, hc, rfl⟩ := rows_mem (TL.rwP.mem_iff.mp hρ)
      exact ⟨nm_mem hi, TL.sgP.mem_iff.mpr hc, nm_mem (O.nxlt i c hi hc)⟩
    · intro ρ hρ
      obtain ⟨i, c, hi, hc, rfl⟩ := rows_mem (TL.rwP.mem_iff.mp hρ)
      exact ⟨ok_st O (nm_mem hi), ok_sign O hc⟩
    · rw [lrw, rows_length, lsg, Nat.mul_comm] <;> rfl
    have p3 := p2.same s3
    refine ⟨_, rfl, _, rfl, u, t, bs, tn, L.st, rfl, p3.hu, p3.hU, p3.ht, TL.tin, TL.tnd, tfew, fun H4 s4 => ?_⟩
    have p4 := p3.same s4
    refine ⟨_, rfl, _, rfl, y, t, ye, L.st, rfl, p4.hy, p4.ht, TL.yin, TL.ynd, yfew, fun H5 s5 => ?_⟩
    have s05 : Same H H5 := (((s1.trans s2).trans s3).trans s4).trans s5
    have S5 : Same H0 H5 := s0.trans s05
    have hr5 : H5 r = some (.ins A.C dx []) := s05 _ _ hp
    clear p1 p2 p3 p4 s1 s2 s3 s4 s5
    -- signs
    refine ⟨⟨_, rfl⟩, _, rfl, S sg0, rfl, by rw [S_len]; omega, fun ys p perm srt hp' => ?_⟩
    rw [S_cps] at perm
    obtain ⟨sg, hsg, rfl⟩ := perm_codes perm
    obtain rfl : sg = L.sg := sg_same srt srtL (hsg.trans TL.sgP) (.refl _)
    have nrp : r ≠ p := ne_of_none hr5 hp'
    refine ⟨_, p, L.sg.map sOne, rfl, rfl, .inl (SqL.of upd_same), ?_, ?_⟩
    · have e1 : ((L.sg.map sOne).map fun x => x.length) = List.replicate L.sg.length 1 := by
        rw [List.map_map]
        exact List.map_eq_replicate_iff.mpr fun _ _ => rfl
      have e2 : (Str.ofString "").length = 0 := by decide +kernel
      rw [e1, e2, List.sum_replicate_nat]
      omega
    have ej : Txt.join (Str.ofString "") (L.sg.map sOne) = S L.sg := join_one pos
    rw [ej]
    refine ⟨_, rfl, r, A.C, dx, _, rfl, (upd_ne nrp).trans hr5, D.L.cl, D.L.n1, (by show 0 < 1000; decide), ?_⟩
    have B6 : But r H (L2.upd (L2.upd H5 p (.lst ((L.sg.map sOne).map V.str))) r (.ins A.C dx (putF "_signs" (.str (S L.sg)) []))) := But.here ((But.of s05).upd hp')
    have S6 : Same H0 (L2.upd (L2.upd H5 p (.lst ((L.sg.map sOne).map V.str))) r (.ins A.C dx (putF "_signs" (.str (S L.sg)) []))) := Same.new' (Same.put S5 hp') r0
    have hr6 : (L2.upd (L2.upd H5 p (.lst ((L.sg.map sOne).map V.str))) r (.ins A.C dx (putF "_signs" (.str (S L.sg)) []))) r = some (.ins A.C dx (putF "_signs" (.str (S L.sg)) [])) := upd_same
    generalize L2.upd (L2.upd H5 p (.lst ((L.sg.map sOne).map V.str))) r (.ins A.C dx (putF "_signs" (.str (S L.sg)) [])) = H6 at B6 S6 hr6 ⊢
    -- states
    refine ⟨_, rfl, _, rfl, r, A.C, dx, _, rfl, hr6, D.L.cl, D.L.n2, (by show 1 < 1000; decide), ?_⟩
    have B7 : But r H (L2.upd H6 r (.ins A.C dx (putF "_states" (.ref t) (putF "_signs" (.str (S L.sg)) [])))) := But.here B6
    have S7 : Same H0 (L2.upd H6 r (.ins A.C dx (putF "_states" (.ref t) (putF "_signs" (.str (S L.sg)) [])))) := Same.new' S6 r0
    have hr7 : (L2.upd H6 r (.ins A.C dx (putF "_states" (.ref t) (putF "_signs" (.str (S L.sg)) [])))) r = some (.ins A.C dx (putF "_states" (.ref t) (putF "_signs" (.str (S L.sg)) []))) := upd_same
    generalize L2.upd H6 r (.ins A.C dx (putF "_states" (.ref t) (putF "_signs" (.str (S L.sg)) []))) = H7 at B7 S7 hr7 ⊢
    have p7 : PrtG L.st rw tn ye t rr u y as bs H7 := pr.but (fun x => by intro q; cases q) hp B7
    -- rows
    refine ⟨_, rfl, _, rfl, r, A.C, dx, _, _, rfl, hr7, D.L.cl, D.L.n1, (by rw [lookup_putF, if_neg (by decide +kernel), lookup_putF, if_pos rfl]), _, rfl, rr, t, L.sg, as, bs0, rw, L.st, rfl, p7.hr, p7.hT, p7.ht, knd, by omega, RB, by omega, fun rr' H8 n8 s8 hrr => ?_⟩
    refine ⟨_, rfl, r, A.C, dx, _, rfl, s8 _ _ hr7, D.L.cl, D.L.n3, (by show 2 < 1000; decide), ?_⟩
    have nrr : rr' ≠ r := ne_of_none' hr7 n8
    generalize e8 : putF "_rows" (.ref rr') (putF "_states" (.ref t) (putF "_signs" (.str (S L.sg)) [])) = fs8
    have B8 : But r H (L2.upd H8 r (.ins A.C dx fs8)) := But.here (B7.trans (But.of s8))
    have S8 : Same H0 (L2.upd H8 r (.ins A.C dx fs8)) := Same.new' (S7.trans s8) r0
    have hr8 : (L2.upd H8 r (.ins A.C dx fs8)) r = some (.ins A.C dx fs8) := upd_same
    have hrr8 : (L2.upd H8 r (.ins A.C dx fs8)) rr' = some (.tup (bs0.map V.ref)) := (upd_ne nrr).trans hrr
    generalize L2.upd H8 r (.ins A.C dx fs8) = H9 at B8 S8 hr8 hrr8 ⊢
    have p8 : PrtG L.st rw tn ye t rr u y as bs H9 := pr.but (fun x => by intro q; cases q) hp B8
    -- turns
    refine ⟨_, rfl, _, rfl, u, t, bs, tn, L.st, rfl, p8.hu, p8.hU, p8.ht, TL.tnd, tfew, sf, fun u' bs' H10 n10 s10 hu' hU' => ?_⟩
    rw [TL.tnE] at hU'
    refine ⟨_, rfl, r, A.C, dx, _, rfl, s10 _ _ hr8, D.L.cl, D.L.n4, (by rw [← e8]; show 3 < 1000; decide), ?_⟩
    have nuu : u' ≠ r := ne_of_none' hr8 n10
    generalize e10 : putF "_turns" (.ref u') fs8 = fs10
    have B10 : But r H (L2.upd H10 r (.ins A.C dx fs10)) := But.here (B8.trans (But.of s10))
    have S10 : Same H0 (L2.upd H10 r (.ins A.C dx fs10)) := Same.new' (S8.trans s10) r0
    have hr10 : (L2.upd H10 r (.ins A.C dx fs10)) r = some (.ins A.C dx fs10) := upd_same
    have hrr10 : (L2.upd H10 r (.ins A.C dx fs10)) rr' = some (.tup (bs0.map V.ref)) := (upd_ne nrr).trans (s10 _ _ hrr8)
    have hu10 : (L2.upd H10 r (.ins A.C dx fs10)) u' = some (.tup (bs'.map V.ref)) := (upd_ne nuu).trans hu'
    have hU10 : Tups (L2.upd H10 r (.ins A.C dx fs10)) bs' (L.turns.map Trn.v) := Tups.but (fun x => by intro q; cases q) (s10 _ _ hr8) (But.here (But.refl r _)) hU'
    generalize L2.upd H10 r (.ins A.C dx fs10) = H11 at B10 S10 hr10 hrr10 hu10 hU10 ⊢
    have p10 : PrtG L.st rw tn ye t rr u y as bs H11 := pr.but (fun x => by intro q; cases q) hp B10
    -- yes
    refine ⟨_, rfl, _, rfl, y, t, ye, L.st, rfl, p10.hy, p10.ht, sf, fun y' H12 n12 s12 hy' => ?_⟩
    rw [TL.yeE] at hy'
    refine ⟨_, rfl, r, A.C, dx, _, rfl, s12 _ _ hr10, D.L.cl, D.L.n5, (by rw [← e10, ← e8]; show 4 < 1000; decide), ?_⟩
    have nyy : y' ≠ r := ne_of_none' hr10 n12
    generalize e12 : putF "_yes" (.ref y') fs10 = fs12
    have B12 : But r H (L2.upd H12 r (.ins A.C dx fs12)) := But.here (B10.trans (But.of s12))
    have S12 : Same H0 (L2.upd H12 r (.ins A.C dx fs12)) := Same.new' (S10.trans s12) r0
    have hr12 : (L2.upd H12 r (.ins A.C dx fs12)) r = some (.ins A.C dx fs12) := upd_same
    have hy12 : (L2.upd H12 r (.ins A.C dx fs12)) y' = some (.tup (L.yes.map V.str)) := (upd_ne nyy).trans hy'
    have hrr12 : (L2.upd H12 r (.ins A.C dx fs12)) rr' = some (.tup (bs0.map V.ref)) := (upd_ne nrr).trans (s12 _ _ hrr10)
    have hu12 : (L2.upd H12 r (.ins A.C dx fs12)) u' = some (.tup (bs'.map V.ref)) := (upd_ne nuu).trans (s12 _ _ hu10)
    have hU12 : Tups (L2.upd H12 r (.ins A.C dx fs12)) bs' (L.turns.map Trn.v) := Tups.but (fun x => by intro q; cases q) (s12 _ _ hr10) (But.here (But.refl r _)) (hU10.same s12)
    generalize L2.upd H12 r (.ins A.C dx fs12) = H13 at B12 S12 hr12 hy12 hrr12 hu12 hU12 ⊢
    have p12 : PrtG L.st rw tn ye t rr u y as bs H13 := pr.but (fun x => by intro q; cases q) hp B12
    have q12 : Prt L t rr' u' y' bs0 bs' H13 := ⟨p12.ht, hrr12, pT.but (fun x => by intro q; cases q) hp B12, hu12, hU12, hy12⟩
    -- the table
    have look : fs12.lookup ("_signs" : Str) = some (.str (S L.sg)) ∧ fs12.lookup ("_states" : Str) = some (.ref t) ∧ fs12.lookup ("_rows" : Str) = some (.ref rr') ∧ fs12.lookup ("_turns" : Str) = some (.ref u') ∧ fs12.lookup ("_yes" : Str) = some (.ref y') := by
      rw [← e12, ← e10, ← e8]
      refine ⟨?_, ?_, ?_, ?_, ?_⟩ <;> repeat (first | rw [lookup_putF, if_neg (by decide +kernel)] | rw [lookup_putF, if_pos rfl])
    obtain ⟨k1, k2, k3, k4, k5⟩ := look
    refine ⟨_, rfl, r, dx, _, rfl, hr12, r, dx, t, rr', u', y', _, _, rfl, hr12, k1, k2, k3, k4, k5, fun q hq tb dxt htb hdx ne => ?_⟩
    have sq := Same.put (o := .tup [.str (S L.sg), .ref t, .ref rr', .ref u', .ref y']) (Same.refl H13) hq
    have hq14 : (L2.upd H13 q (.tup [.str (S L.sg), .ref t, .ref rr', .ref u', .ref y'])) q = some (.tup [.str (S L.sg), .ref t, .ref rr', .ref u', .ref y']) := upd_same
    generalize L2.upd H13 q (.tup [.str (S L.sg), .ref t, .ref rr', .ref u', .ref y']) = H14 at sq hq14 htb hdx ⊢
    have sm : Same H14 (L2.upd (L2.upd H14 dxt (.own tb)) tb (.ins A.T dxt [])) := Same.new' (Same.new' (Same.refl H14) hdx) htb
    refine ⟨H14, tb, dxt, q, L, rfl, O, ((q12.same sq).same sm).row (sm _ _ hq14), sm, htb, upd_same, fun H15 s15 TA => ⟨rfl, ?_⟩⟩
    have s16 := sq.trans s15
    have ntb : tb ≠ r := ne_of_none' (sq _ _ hr12) htb
    refine ⟨_, rfl, r, A.C, dx, _, rfl, s16 _ _ hr12, D.L.cl, D.L.n6, (by rw [← e12, ← e10, ← e8]; show 5 < 1000; decide), ?_⟩
    have hr16 := s16 _ _ hr12
    refine k _ (Same.new' (S12.trans s16) r0) ⟨dx, t, rr', u', y', tb, bs0, bs', ?_, ?_, ?_⟩
    · rw [upd_same, ← e12, ← e10, ← e8] <;> rfl
    · exact (q12.same s16).but (o := .ins A.C dx fs12) (fun x => by intro q; cases q) hr16 (But.here (But.refl r _))
    · exact TA.but ntb hr16 (But.here (But.refl r _))
end
end Wb
/-! what a loop's answers hang on: the map of a word alone -/
namespace Wb
open PySem L2 WbMin WbS Lz
/-- the names of the first states -/
def LD.nms (L : LD) (w : List Nat) (k : Nat) : List Str := (List.range k).map fun m => L.nm (it (L.lead w) m)
theorem it_congr {g g' : Nat → Nat} {n : Nat} (h0 : 0 < n) (lt : ∀ i, i < n → g i < n) (h : ∀ i, i < n → g i = g' i) : ∀ m, it g m = it g' m
  | 0 => rfl
  | m + 1 => by
    show g (it g m) = g' (it g' m)
    rw [← it_congr h0 lt h m]
    exact h _ (it_lt h0 lt m)
theorem fold_fst (L : LD) : ∀ (w : List Nat) (p p' : Nat × Int), p.1 = p'.1 → (w.foldl L.stp p).1 = (w.foldl L.stp p').1
  | [], _, _, h => h
  | c :: w, p, p', h => fold_fst L w _ _ (by show L.nx p.1 c = L.nx p'.1 c; rw [h])
theorem wk_app (L : LD) (u v : List Nat) (i : Nat) : (L.wk (u ++ v) i).1 = (L.wk v (L.wk u i).1).1 := by
  unfold LD.wk
  rw [List.foldl_append]
  exact fold_fst L v _ _ rfl
theorem lead_of {L : LD} {u v : List Nat} {i : Nat} (h : (L.wk u i).1 = (L.wk v i).1) : L.lead u i = L.lead v i := congrArg L.tn h
/-- a word that leads from each state where the other one leads -/
def Alike (L : LD) (u v : List Nat) : Prop := ∀ i, i < L.n → (L.wk u i).1 = (L.wk v i).1
theorem Alike.left {L : LD} {u v w : List Nat} (h : Alike L u v) : Alike L (u ++ w) (v ++ w) := fun i hi => by rw [wk_app, wk_app, h i hi]
theorem Alike.right {L : LD} (O : L.Ok) {u v w : List Nat} (hw : ∀ c ∈ w, c ∈ L.sg) (h : Alike L u v) : Alike L (w ++ u) (w ++ v) := fun i hi => by rw [wk_app, wk_app, h _ (wk_lt O hi hw)]
theorem Alike.it {L : LD} (O : L.Ok) {u v : List Nat} (hu : ∀ c ∈ u, c ∈ L.sg) (h : Alike L u v) (m : Nat) : it (L.lead u) m = it (L.lead v) m :=
  it_congr O.sts.pos (fun i hi => gone_lt O hi hu) (fun i hi => lead_of (h i hi)) m
theorem LoopAt.but {C T : Addr} {H H' : Hp} {p r : Addr} {L : LD} (hp : PoolAt H p) (s : But p H H') : LoopAt C T H r L → LoopAt C T H' r L := by
  rintro ⟨dx, t, rr, u, y, tb, as, bs, h0, pr, dx', dN, dX, dA, tX, tA, tY, xs, as', g0, hX, hx, hA, ha, hTX, hTA, hTY⟩
  obtain ⟨a, b, c, e, _⟩ := id hp
  have no : ∀ x, HO.lst [V.int a, .int b, .int c] ≠ HO.tup x := fun x q => by cases q
  exact ⟨dx, t, rr, u, y, tb, as, bs, s _ _ (pool_other hp h0 fun _ _ _ q => by cases q) h0, pr.but no e s, dx', dN, dX, dA, tX, tA, tY, xs, as', s _ _ (pool_other hp g0 fun _ _ _ q => by cases q) g0, s _ _ (pool_other hp hX fun _ _ _ q => by cases q) hX, hx.but no e s,
    s _ _ (pool_other hp hA fun _ _ _ q => by cases q) hA, ha.but no e s, s _ _ (pool_other hp hTX fun _ _ _ q => by cases q) hTX, s _ _ (pool_other hp hTA fun _ _ _ q => by cases q) hTA, s _ _ (pool_other hp hTY fun _ _ _ q => by cases q) hTY⟩
theorem LoopAt.hd {C T : Addr} {H : Hp} {r : Addr} {L : LD} (h : LoopAt C T H r L) : ∃ (dx : Addr) (fs : List (Str × V)), H r = some (.ins C dx fs) ∧ fs.lookup ("answer" : Str) = none ∧ fs.lookup ("state" : Str) = none := by
  obtain ⟨dx, t, rr, u, y, tb, as, bs, h0, pr, TA⟩ := h
  obtain ⟨_, _, _, x4, x5⟩ := lf_none (S L.sg) t rr u y tb
  exact ⟨dx, _, h0, x4, x5⟩
theorem MdAt.hd {H : Hp} {q : Addr} {L : LD} (h : MdAt H q L) : ∃ A Sd Ed O : Addr, H q = some (.lst [.str (S L.sg), .ref A, .ref Sd, .ref Ed, .ref O]) ∧ H A = some (.lst (L.st.map V.str)) ∧ Oks H O L := by
  obtain ⟨A, Sd, Ed, O, kvs, ws, h0, hA, hS, hE, e2, e1, hO⟩ := h
  exact ⟨A, Sd, Ed, O, h0, hA, hO⟩
theorem PoolAt.same {H H' : Hp} {p : Addr} (h : PoolAt H p) (s : Same H H') : PoolAt H' p := by
  obtain ⟨a, b, c, e, r⟩ := h
  exact ⟨a, b, c, s _ _ e, r⟩
end Wb
/-! totals of a loop: the mathematics -/
namespace Wb
open PySem L2 WbMin WbS Lz
theorem LD.Small.srt {L : LD} (s : L.Small) {sg : List Nat} (p : sg.Perm L.sg) : (L.srt sg).Small := ⟨fun i c hi hc => s.am i c hi (p.mem_iff.mp hc), s.ta⟩
def LD.cf (L : LD) (w : List Nat) (m : Nat) : Int := L.cnt w (it (L.lead w) m)
end Wb
/-! a loop that begins in another state: the mathematics -/
namespace Wb
open PySem L2 WbMin WbS Lz
theorem st_is (L : LD) : L.st = (List.range L.n).map L.nm := by
  refine List.ext_getElem? fun i => ?_
  by_cases h : i < L.n
  · rw [nm_at h, List.getElem?_map, List.getElem?_range h] <;> rfl
  · have h' : ¬ i < L.st.length := h
    rw [List.getElem?_eq_none (by omega), List.getElem?_eq_none (by rw [List.length_map, List.length_range]; omega)]
/-! ### what it does -/
section
variable {L : LD} {b k : Nat} {w : List Nat} (O : L.Ok) (hb : b = it (L.lead w) k) (hw : ∀ c ∈ w, c ∈ L.sg)
include O hb hw
end
end Wb
/-! two loops gone along with at once: the mathematics of sums -/
namespace Wb
open PySem L2 WbMin WbS Lz
/-- the place of a pair -/
def plc (x : Nat × Nat) : List (Nat × Nat) → Nat
  | [] => 0
  | y :: l => if y = x then 0 else plc x l + 1
theorem plc_at {x : Nat × Nat} : ∀ {l : List (Nat × Nat)}, x ∈ l → l[plc x l]? = some x
  | [], h => nomatch h
  | y :: l, h => by
    show (y :: l)[if y = x then 0 else plc x l + 1]? = some x
    by_cases q : y = x
    · rw [if_pos q, q]
      rfl
    · rw [if_neg q]
      show l[plc x l]? = some x
      exact plc_at ((List.mem_cons.mp h).resolve_left fun z => q z.symm)
theorem plc_lt {x : Nat × Nat} {l : List (Nat × Nat)} (h : x ∈ l) : plc x l < l.length := (List.getElem?_eq_some_iff.mp (plc_at h)).1
/-- pairs of states that both come to -/
structure Goes (A B : LD) (ps : List (Nat × Nat)) : Prop where
  pos : ps[0]? = some (0, 0)
  few : ps.length ≤ 6
  lt : ∀ x ∈ ps, x.1 < A.n ∧ x.2 < B.n
  nx : ∀ x ∈ ps, ∀ c ∈ A.sg, (A.nx x.1 c, B.nx x.2 c) ∈ ps
  tn : ∀ x ∈ ps, (A.tn x.1, B.tn x.2) ∈ ps
/-- the name of the i-th state of a sum -/
def sNm (i : Nat) : Str := S [115, 48 + i]
def prOf (ps : List (Nat × Nat)) (i : Nat) : Nat × Nat := (ps[i]?).getD (0, 0)
theorem pr_at {ps : List (Nat × Nat)} {i : Nat} {x : Nat × Nat} (h : ps[i]? = some x) : prOf ps i = x := by
  unfold prOf
  rw [h] <;> rfl
/-- the sum (f = 1), the difference (f = -1) -/
def LD.sum (A B : LD) (f : Int) (ps : List (Nat × Nat)) : LD where
  sg := A.sg
  st := (List.range ps.length).map sNm
  nx := fun i c => plc (A.nx (prOf ps i).1 c, B.nx (prOf ps i).2 c) ps
  am := fun i c => A.am (prOf ps i).1 c + f * B.am (prOf ps i).2 c
  tn := fun i => plc (A.tn (prOf ps i).1, B.tn (prOf ps i).2) ps
  ta := fun i => A.ta (prOf ps i).1 + f * B.ta (prOf ps i).2
  ys := fun i => if f = 1 then A.ys (prOf ps i).1 && B.ys (prOf ps i).2 else A.ys (prOf ps i).1 == B.ys (prOf ps i).2
theorem sum_n (A B : LD) (f : Int) (ps : List (Nat × Nat)) : (A.sum B f ps).n = ps.length := by
  show ((List.range ps.length).map sNm).length = ps.length
  rw [List.length_map, List.length_range]
section
variable {A B : LD} {ps : List (Nat × Nat)} (G : Goes A B ps) (f : Int)
include G
end
end Wb
/-! a loop so many times: times_row, Loop.__mul__, Loop.__neg__ -/
namespace Wb
open PySem L2 WbMin WbS Lz
/-- so many times each amount -/
def LD.mul (L : LD) (k : Int) : LD := { L with am := fun i c => k * L.am i c, ta := fun i => k * L.ta i }
theorem LD.Ok.mul {L : LD} (O : L.Ok) (k : Int) : (L.mul k).Ok := ⟨O.sgs, O.sts, O.nxlt, O.tnlt⟩
def Row.mul (k : Int) (r : Row) : Row := ⟨r.a, r.c, r.b, k * r.m⟩
def Trn.mul (k : Int) (r : Trn) : Trn := ⟨r.a, r.b, k * r.m⟩
section
variable {P : Program} {w : World} {K : PySem.W.Frag} {mg : Str → Option Value} {base : Heap} {f : Addr} {fd : FuncData}
end
end Wb
/-! sums and multiples: they are loops; what multiples do -/
namespace Wb
open PySem L2 WbMin WbS Lz
theorem sNm_inj {i j : Nat} (h : sNm i = sNm j) : i = j := by
  have q := S_inj h
  injection q with _ q
  injection q with q _
  omega
theorem sNm_is {i : Nat} (h : i < 10) : IsNm [115, 48 + i] := by
  refine ⟨by show 0 < 2; decide, by show 2 ≤ 8; decide, by show 97 ≤ 115 ∧ 115 ≤ 122; decide, fun c hc => ?_⟩
  rcases List.mem_cons.mp hc with rfl | hc
  · exact .inl (by decide)
  · rw [List.mem_singleton.mp hc]
    exact .inr (by omega)
theorem LD.Ok.sum {A B : LD} {f : Int} {ps : List (Nat × Nat)} (O : A.Ok) (G : Goes A B ps) : (A.sum B f ps).Ok := by
  have pos : 0 < ps.length := (List.getElem?_eq_some_iff.mp G.pos).1
  have at_ : ∀ i, i < (A.sum B f ps).n → prOf ps i ∈ ps := fun i hi => by
    rw [sum_n] at hi
    rw [pr_at (List.getElem?_eq_getElem hi)]
    exact List.getElem_mem hi
  refine ⟨O.sgs, ⟨fun z hz => ?_, ?_, by rw [show (A.sum B f ps).st.length = ps.length from sum_n A B f ps]; exact pos, by rw [show (A.sum B f ps).st.length = ps.length from sum_n A B f ps]; exact G.few⟩, fun i c hi hc => ?_, fun i hi => ?_⟩
  · obtain ⟨i, hi, rfl⟩ := List.mem_map.mp hz
    have hi := List.mem_range.mp hi
    have few := G.few
    refine ⟨_, rfl, ?_⟩
    exact sNm_is (by omega)
  · exact List.Pairwise.map sNm (fun a b n e => n (sNm_inj e)) List.nodup_range
  · rw [sum_n]
    exact plc_lt (G.nx _ (at_ i hi) c hc)
  · rw [sum_n]
    exact plc_lt (G.tn _ (at_ i hi))
section
variable (L : LD) (k : Int)
end
end Wb
/-! _is_yes -/
namespace Wb
open PySem L2 WbMin WbS Lz
abbrev sIsYes : Stmt := top 44
/-- whether a state of a sum is a yes state -/
def yesOf (f : Int) (a b : Bool) : Bool := if f = 1 then a && b else a == b
def spIsYes : Sp := fun vs H Q _ => ∃ (a b : Bool) (f : Int), vs = [.bl a, .bl b, .int f] ∧ Q (.bl (yesOf f a b)) H
section
variable {P : Program} {w : World} {K : PySem.W.Frag} {mg : Str → Option Value} {base : Heap} {f : Addr} {fd : FuncData}
theorem scIY : FnScope ["one_says", "other_says", "factor"] ["one_says", "other_says", "factor"] (defScope sIsYes) := ⟨rfl, rfl, rfl, by decide +kernel, rfl, by decide +kernel, by decide +kernel⟩
theorem ok_isyes (F : Fun K "_is_yes" "_is_yes" sIsYes f fd) : FnOk P w K mg base CX0 1 f fd ["one_says", "other_says", "factor"] spIsYes := by
  refine F.ok scIY (fun vs H Q E h => ?_) (fun cdv A outer s H vs Q E hr h => ?_)
  · obtain ⟨a, b, k, rfl, _⟩ := h
    rfl
  · obtain ⟨a, b, kf, rfl, k⟩ := h
    refine ⟨_, pss_cons (ps_if (pt_cmpR op_eq (pv 2) pe_int (nomark _)) (pss_one (ps_ret (pe_and (pv 0) (pe_one (pv 1))))) pss_nil)
      (pss_one (ps_ret (pe_cmpR op_eq (pv 0) (pv 1) (nomark _)))), ?_⟩
    by_cases q : kf = 1
    · subst q
      refine ⟨_, rfl, rfl, true, congrArg V.bl (decide_eq_true rfl), iteT ?_⟩
      have e : yesOf 1 a b = (a && b) := if_pos rfl
      rw [e] at k
      refine ⟨_, rfl, a, rfl, ?_⟩
      cases a with
      | true => exact iteT ⟨_, rfl, k⟩
      | false => exact iteF k
    · refine ⟨_, rfl, rfl, false, congrArg V.bl (decide_eq_false fun z => q (by injection z)), iteF ?_⟩
      have e : yesOf kf a b = (a == b) := if_neg q
      rw [e] at k
      refine ⟨_, rfl, _, rfl, rfl, ?_⟩
      have e2 : decide (V.bl a = V.bl b) = (a == b) := by cases a <;> cases b <;> rfl
      show Q (.bl (decide (V.bl a = V.bl b))) H
      rw [e2]
      exact k
end
end Wb
/-! pairs_found: begun (the derivation stands, the body is open) -/
namespace Wb
open PySem L2 WbMin WbS Lz
abbrev sPairsF : Stmt := top 42
def prV (x : Nat × Nat) : List V := [V.int (x.1 : Nat), .int (x.2 : Nat)]
/-- pairs that both come to -/
inductive Rch (A B : LD) : Nat × Nat → Prop
  | z : Rch A B (0, 0)
  | nx {x : Nat × Nat} {c : Nat} : Rch A B x → c ∈ A.sg → Rch A B (A.nx x.1 c, B.nx x.2 c)
  | tn {x : Nat × Nat} : Rch A B x → Rch A B (A.tn x.1, B.tn x.2)
theorem Rch.lt {A B : LD} (OA : A.Ok) (OB : B.Ok) (eg : B.sg = A.sg) {x : Nat × Nat} (h : Rch A B x) : x.1 < A.n ∧ x.2 < B.n := by
  induction h with
  | z => exact ⟨OA.sts.pos, OB.sts.pos⟩
  | nx _ hc ih => exact ⟨OA.nxlt _ _ ih.1 hc, OB.nxlt _ _ ih.2 (eg ▸ hc)⟩
  | tn _ ih => exact ⟨OA.tnlt _ ih.1, OB.tnlt _ ih.2⟩
theorem ifY {p A B : Prop} [Decidable p] (hp : p) (h : A) : if decide p = true then A else B := by
  rw [if_pos (decide_eq_true hp)]
  exact h
def prP (x : Nat × Nat) : PyData := .tuple [.int (x.1 : Nat), .int (x.2 : Nat)]
theorem dp_pr {K : PySem.W.Frag} {H : Hp} {a : Addr} {x : Nat × Nat} (h : H a = some (.tup (prV x))) : Dp K H (.ref a) (prP x) := .tup (SqT.of h) (.cons (.int _) (.cons (.int _) .nil))
theorem dp_prs {K : PySem.W.Frag} {H : Hp} : ∀ {as : List Addr} {ps : List (Nat × Nat)}, Tups H as (ps.map prV) → DpAll K H (as.map V.ref) (ps.map prP)
  | [], [], _ => .nil
  | _ :: _, _ :: _, h => .cons (dp_pr h.1) (dp_prs h.2)
  | [], _ :: _, h => h.elim
  | _ :: _, [], h => h.elim
theorem shaped_pr (x : Nat × Nat) : SeqAt.shaped (prP x) = true := rfl
theorem can_prs : ∀ ps : List (Nat × Nat), PyData.canLayAll0 (ps.map prP) = true
  | [] => rfl
  | p :: r => by
    show ((true && (true && true)) && PyData.canLayAll0 (r.map prP)) = true
    rw [can_prs r] <;> rfl
theorem depth_prs : ∀ ps : List (Nat × Nat), PyData.depthAll (ps.map prP) ≤ 1
  | [] => Nat.zero_le _
  | p :: r => by
    show max 1 (PyData.depthAll (r.map prP)) ≤ 1
    have := depth_prs r
    omega
theorem shaped_prs (ps : List (Nat × Nat)) : SeqAt.shaped (.list (ps.map prP)) = true := by
  have d : PyData.depth (.list (ps.map prP)) ≤ 64 := by
    show PyData.depthAll (ps.map prP) + 1 ≤ 64
    have := depth_prs ps
    omega
  unfold SeqAt.shaped
  rw [decide_eq_true d]
  show (PyData.canLayAll0 (ps.map prP) && true) = true
  rw [can_prs] <;> rfl
theorem eqv_pr (p q : Nat × Nat) : PyData.eqv (prP p) (prP q) = decide (p = q) := by
  show (((p.1 : Int) == (q.1 : Int)) && (((p.2 : Int) == (q.2 : Int)) && true)) = decide (p = q)
  rw [Bool.eq_iff_iff]
  simp [Prod.ext_iff]
  omega
theorem any_pr (p : Nat × Nat) (ps : List (Nat × Nat)) : ((ps.map prP).any fun z => PyData.eqv z (prP p)) = decide (p ∈ ps) := by
  rw [List.any_map, Bool.eq_iff_iff, List.any_eq_true, decide_eq_true_iff]
  constructor
  · rintro ⟨y, hy, e⟩
    have e' : PyData.eqv (prP y) (prP p) = true := e
    rw [eqv_pr] at e'
    rw [← of_decide_eq_true e']
    exact hy
  · intro h
    exact ⟨p, h, by show PyData.eqv (prP p) (prP p) = true; rw [eqv_pr, decide_eq_true rfl]⟩
/-- all pairs there may be -/
def allPr (n m : Nat) : List (Nat × Nat) := (List.range n).flatMap fun i => (List.range m).map fun j => (i, j)
theorem allPr_len (n m : Nat) : (allPr n m).length = n * m := by
  unfold allPr
  rw [List.length_flatMap, show ((List.range n).map fun a => ((List.range m).map fun j => (a, j)).length) = List.replicate n m from by
    rw [List.map_eq_replicate_iff.mpr (fun _ _ => (List.length_map ..).trans List.length_range), List.length_range], List.sum_replicate_nat]
theorem allPr_mem {n m : Nat} {x : Nat × Nat} (h : x.1 < n ∧ x.2 < m) : x ∈ allPr n m :=
  List.mem_flatMap.mpr ⟨x.1, List.mem_range.mpr h.1, List.mem_map.mpr ⟨x.2, List.mem_range.mpr h.2, rfl⟩⟩
theorem pairs_few {n m : Nat} {ps : List (Nat × Nat)} (nd : ps.Nodup) (h : ∀ x ∈ ps, x.1 < n ∧ x.2 < m) : ps.length ≤ n * m := by
  have := few_of_sub (allPr n m) ps nd fun x hx => allPr_mem (h x hx)
  rwa [allPr_len] at this
/-- what is known of the pairs found: all are come to; those before the k-th are done -/
structure Fnd (A B : LD) (ps : List (Nat × Nat)) (k : Nat) : Prop where
  pos : ps[0]? = some (0, 0)
  nd : ps.Nodup
  rch : ∀ x ∈ ps, Rch A B x
  nx : ∀ (i : Nat) x, i < k → ps[i]? = some x → ∀ c ∈ A.sg, (A.nx x.1 c, B.nx x.2 c) ∈ ps
  tn : ∀ (i : Nat) x, i < k → ps[i]? = some x → (A.tn x.1, B.tn x.2) ∈ ps
theorem Fnd.snoc {A B : LD} {ps : List (Nat × Nat)} {k : Nat} (h : Fnd A B ps k) (hk : k ≤ ps.length) {y : Nat × Nat} (n : y ∉ ps) (r : Rch A B y) : Fnd A B (ps ++ [y]) k where
  pos := by
    have := (List.getElem?_eq_some_iff.mp h.pos).1
    rw [List.getElem?_append_left this]
    exact h.pos
  nd := List.nodup_append.mpr ⟨h.nd, by simp, fun a ha b hb e => n (by rw [List.mem_singleton.mp hb] at e; exact e ▸ ha)⟩
  rch := fun x hx => (List.mem_append.mp hx).elim (h.rch x) fun q => by rw [List.mem_singleton.mp q]; exact r
  nx := fun i x hi e c hc => List.mem_append_left _ (h.nx i x hi (by rw [List.getElem?_append_left (by omega)] at e; exact e) c hc)
  tn := fun i x hi e => List.mem_append_left _ (h.tn i x hi (by rw [List.getElem?_append_left (by omega)] at e; exact e))
/-- what follows a pair -/
def onw (A B : LD) (x : Nat × Nat) : List (Nat × Nat) := (A.sg.map fun c => (A.nx x.1 c, B.nx x.2 c)) ++ [(A.tn x.1, B.tn x.2)]
theorem onw_rch {A B : LD} {x y : Nat × Nat} (h : Rch A B x) (m : y ∈ onw A B x) : Rch A B y := by
  rcases List.mem_append.mp m with m | m
  · obtain ⟨c, hc, rfl⟩ := List.mem_map.mp m
    exact .nx h hc
  · rw [List.mem_singleton.mp m]
    exact .tn h
theorem Fnd.next {A B : LD} {ps : List (Nat × Nat)} {k : Nat} {x : Nat × Nat} (h : Fnd A B ps k) (hx : ps[k]? = some x) (o : ∀ y ∈ onw A B x, y ∈ ps) : Fnd A B ps (k + 1) where
  pos := h.pos
  nd := h.nd
  rch := h.rch
  nx := fun i y hi e c hc => by
    rcases Nat.lt_succ_iff_lt_or_eq.mp hi with q | q
    · exact h.nx i y q e c hc
    · rw [q, hx] at e
      cases e
      exact o _ (List.mem_append_left _ (List.mem_map.mpr ⟨c, hc, rfl⟩))
  tn := fun i y hi e => by
    rcases Nat.lt_succ_iff_lt_or_eq.mp hi with q | q
    · exact h.tn i y q e
    · rw [q, hx] at e
      cases e
      exact o _ (List.mem_append_right _ (List.mem_singleton.mpr rfl))
section
variable {P : Program} {w : World} {K : PySem.W.Frag} {mg : Str → Option Value} {base : Heap} {f C : Addr} {fd : FuncData}
abbrev NPf : List Str := ["one", "other", "signs", "found", "at", "first", "second", "onward", "pair", "sign"]
theorem scPf : FnScope NPf ["one", "other", "signs"] (defScope sPairsF) := ⟨rfl, rfl, rfl, by decide +kernel, rfl, by decide +kernel, by decide +kernel⟩
end
end Wb
/-! the pairs in the order in which they are found -/
namespace Wb
open PySem L2 WbMin WbS Lz
def addP (ps : List (Nat × Nat)) (y : Nat × Nat) : List (Nat × Nat) := if y ∈ ps then ps else ps ++ [y]
def addsP (ps l : List (Nat × Nat)) : List (Nat × Nat) := l.foldl addP ps
theorem addsP_snoc (ps l : List (Nat × Nat)) (y : Nat × Nat) : addsP ps (l ++ [y]) = addP (addsP ps l) y := by
  unfold addsP
  rw [List.foldl_append] <;> rfl
theorem addP_in {ps : List (Nat × Nat)} {y : Nat × Nat} (h : y ∈ ps) : addP ps y = ps := if_pos h
theorem addP_out {ps : List (Nat × Nat)} {y : Nat × Nat} (h : y ∉ ps) : addP ps y = ps ++ [y] := if_neg h
/-- what is found when so many pairs are gone through -/
def fndP (A B : LD) : Nat → List (Nat × Nat)
  | 0 => [(0, 0)]
  | k + 1 => match (fndP A B k)[k]? with
    | some x => addsP (fndP A B k) (onw A B x)
    | none => fndP A B k
section
variable {A B : LD} {k : Nat}
theorem fndP_at {x : Nat × Nat} (h : (fndP A B k)[k]? = some x) : fndP A B (k + 1) = addsP (fndP A B k) (onw A B x) := by
  show (match (fndP A B k)[k]? with | some x => addsP (fndP A B k) (onw A B x) | none => fndP A B k) = _
  rw [h]
theorem fndP_none (h : (fndP A B k)[k]? = none) : fndP A B (k + 1) = fndP A B k := by
  show (match (fndP A B k)[k]? with | some x => addsP (fndP A B k) (onw A B x) | none => fndP A B k) = _
  rw [h]
theorem fndP_over (h : (fndP A B k).length ≤ k) : ∀ j, fndP A B (k + j) = fndP A B k
  | 0 => rfl
  | j + 1 => by
    have e := fndP_over h j
    exact (fndP_none (k := k + j) (by rw [e]; exact List.getElem?_eq_none (by omega))).trans e
theorem fndP_all (h : (fndP A B k).length ≤ k) {j : Nat} (le : k ≤ j) : fndP A B j = fndP A B k := by
  obtain ⟨i, rfl⟩ : ∃ i, j = k + i := ⟨j - k, by omega⟩
  exact fndP_over h i
end
/-- all pairs -/
@[irreducible] def allF (A B : LD) : List (Nat × Nat) := fndP A B 36
theorem addP_len (ps : List (Nat × Nat)) (y : Nat × Nat) : ps.length ≤ (addP ps y).length := by
  by_cases m : y ∈ ps
  · rw [addP_in m]
    exact Nat.le_refl _
  · rw [addP_out m, List.length_append]
    omega
theorem addsP_len : ∀ (l ps : List (Nat × Nat)), ps.length ≤ (addsP ps l).length
  | [], _ => Nat.le_refl _
  | y :: l, ps => Nat.le_trans (addP_len ps y) (addsP_len l (addP ps y))
theorem addsP_app (ps l r : List (Nat × Nat)) : addsP ps (l ++ r) = addsP (addsP ps l) r := by
  unfold addsP
  rw [List.foldl_append]
theorem addsP_take (ps l : List (Nat × Nat)) (j : Nat) : (addsP ps (l.take j)).length ≤ (addsP ps l).length := by
  have e : addsP ps l = addsP (addsP ps (l.take j)) (l.drop j) := by rw [← addsP_app, List.take_append_drop]
  rw [e]
  exact addsP_len _ _
theorem fndP_step (A B : LD) (k : Nat) : (fndP A B k).length ≤ (fndP A B (k + 1)).length := by
  cases e : (fndP A B k)[k]? with
  | none =>
    rw [fndP_none e]
    exact Nat.le_refl _
  | some x =>
    rw [fndP_at e]
    exact addsP_len _ _
theorem fndP_mono (A B : LD) (k : Nat) : ∀ j, (fndP A B k).length ≤ (fndP A B (k + j)).length
  | 0 => Nat.le_refl _
  | j + 1 => Nat.le_trans (fndP_mono A B k j) (fndP_step A B (k + j))
theorem fndP_few (A B : LD) {k : Nat} (h : k ≤ 36) : (fndP A B k).length ≤ (allF A B).length := by
  unfold allF
  obtain ⟨j, e⟩ : ∃ j, 36 = k + j := ⟨36 - k, by omega⟩
  rw [e]
  exact fndP_mono A B k j
theorem part_few {A B : LD} {k : Nat} {x : Nat × Nat} (h : k < 36) (e : (fndP A B k)[k]? = some x) (j : Nat) : (addsP (fndP A B k) ((onw A B x).take j)).length ≤ (allF A B).length := by
  refine Nat.le_trans (addsP_take _ _ j) ?_
  rw [← fndP_at e]
  exact fndP_few A B h
/-- what is known of all pairs -/
structure AllP (A B : LD) (ps : List (Nat × Nat)) : Prop where
  pos : ps[0]? = some (0, 0)
  nd : ps.Nodup
  lt : ∀ x ∈ ps, x.1 < A.n ∧ x.2 < B.n
  nx : ∀ x ∈ ps, ∀ c ∈ A.sg, (A.nx x.1 c, B.nx x.2 c) ∈ ps
  tn : ∀ x ∈ ps, (A.tn x.1, B.tn x.2) ∈ ps
theorem AllP.goes {A B : LD} {ps : List (Nat × Nat)} (h : AllP A B ps) (few : ps.length ≤ 6) : Goes A B ps := ⟨h.pos, few, h.lt, h.nx, h.tn⟩
theorem plc_eq {x : Nat × Nat} : ∀ {l : List (Nat × Nat)}, l.Nodup → ∀ {j : Nat}, l[j]? = some x → plc x l = j
  | [], _, _, h => nomatch h
  | y :: l, nd, 0, h => by
    cases h
    exact if_pos rfl
  | y :: l, nd, j + 1, h => by
    have h : l[j]? = some x := h
    have nd := List.nodup_cons.mp nd
    have ne : y ≠ x := fun e => nd.1 (e ▸ List.mem_of_getElem? h)
    show (if y = x then 0 else plc x l + 1) = j + 1
    rw [if_neg ne, plc_eq nd.2 h]
end Wb
/-! all pairs are found, by mathematics -/
namespace Wb
open PySem L2 WbMin WbS Lz
section
variable {A B : LD}
theorem adds_known {k : Nat} {x : Nat × Nat} (r : Rch A B x) : ∀ (l ps : List (Nat × Nat)), (∀ y ∈ l, y ∈ onw A B x) → Fnd A B ps k → k < ps.length → Fnd A B (addsP ps l) k ∧ (∀ y ∈ ps, y ∈ addsP ps l) ∧ (∀ y ∈ l, y ∈ addsP ps l) ∧ (∀ (i : Nat) z, ps[i]? = some z → (addsP ps l)[i]? = some z)
  | [], ps, _, f, _ => ⟨f, fun _ h => h, (fun _ h => nomatch h), fun _ _ h => h⟩
  | y :: l, ps, sub, f, hk => by
    have sub' : ∀ y ∈ l, y ∈ onw A B x := fun z hz => sub z (List.mem_cons_of_mem _ hz)
    have ea : addsP ps (y :: l) = addsP (addP ps y) l := rfl
    rw [ea]
    by_cases m : y ∈ ps
    · rw [addP_in m]
      obtain ⟨h1, h2, h3, h4⟩ := adds_known r l ps sub' f hk
      refine ⟨h1, h2, fun z hz => ?_, h4⟩
      rcases List.mem_cons.mp hz with rfl | hz
      · exact h2 _ m
      · exact h3 z hz
    · rw [addP_out m]
      obtain ⟨h1, h2, h3, h4⟩ := adds_known r l (ps ++ [y]) sub' (f.snoc (by omega) m (onw_rch r (sub y List.mem_cons_self))) (by rw [List.length_append]; omega)
      refine ⟨h1, fun z hz => h2 z (List.mem_append_left _ hz), fun z hz => ?_, fun i z h => h4 i z ?_⟩
      · rcases List.mem_cons.mp hz with rfl | hz
        · exact h2 _ (List.mem_append_right _ (List.mem_singleton.mpr rfl))
        · exact h3 z hz
      · rw [List.getElem?_append_left (List.getElem?_eq_some_iff.mp h).1]
        exact h
theorem fndP_known : ∀ k, Fnd A B (fndP A B k) k
  | 0 => ⟨rfl, by show ([(0, 0)] : List (Nat × Nat)).Nodup; simp, fun x hx => by rw [List.mem_singleton.mp hx]; exact .z, fun i x hi => absurd hi (Nat.not_lt_zero _), fun i x hi => absurd hi (Nat.not_lt_zero _)⟩
  | k + 1 => by
    have f := fndP_known k
    cases e : (fndP A B k)[k]? with
    | none =>
      rw [fndP_none e]
      have le := List.getElem?_eq_none_iff.mp e
      exact ⟨f.pos, f.nd, f.rch, fun i x _ h c hc => f.nx i x (by have := (List.getElem?_eq_some_iff.mp h).1; omega) h c hc, fun i x _ h => f.tn i x (by have := (List.getElem?_eq_some_iff.mp h).1; omega) h⟩
    | some x =>
      rw [fndP_at e]
      obtain ⟨h1, _, h3, h4⟩ := adds_known (f.rch x (List.mem_of_getElem? e)) (onw A B x) (fndP A B k) (fun _ h => h) f (List.getElem?_eq_some_iff.mp e).1
      exact h1.next (h4 k x e) h3
theorem allF_all (OA : A.Ok) (OB : B.Ok) (eg : B.sg = A.sg) : AllP A B (allF A B) := by
  have f : Fnd A B (allF A B) 36 := by
    unfold allF
    exact fndP_known 36
  have lt : ∀ x ∈ allF A B, x.1 < A.n ∧ x.2 < B.n := fun x hx => (f.rch x hx).lt OA OB eg
  have few : (allF A B).length ≤ 36 := Nat.le_trans (pairs_few f.nd lt) (Nat.mul_le_mul OA.sts.few OB.sts.few)
  have all : ∀ (x : Nat × Nat), x ∈ allF A B → ∃ i, i < 36 ∧ (allF A B)[i]? = some x := fun x hx => by
    obtain ⟨i, hi, e⟩ := List.getElem_of_mem hx
    exact ⟨i, by omega, by rw [List.getElem?_eq_getElem hi, e]⟩
  exact ⟨f.pos, f.nd, lt, fun x hx c hc => let ⟨i, hi, e⟩ := all x hx; f.nx i x hi e c hc, fun x hx => let ⟨i, hi, e⟩ := all x hx; f.tn i x hi e⟩
end
end Wb
set_option maxHeartbeats 1000000
namespace Lz
open PySem PySem.Spec PyProof.Rows L2
/-! ### zip(a list, a tuple) is made -/
abbrev w1 (h : Heap) (l1 : Addr) : Heap := h.push { cls := .type "list_iterator", data := .fields #[.ref l1, .int 0 0] }
abbrev w2 (h : Heap) (l1 l2 : Addr) : Heap := (w1 h l1).push { cls := .type "tuple_iterator", data := .fields #[.ref l2, .int 0 0] }
abbrev w3 (h : Heap) (l1 l2 : Addr) : Heap := (w2 h l1 l2).push { cls := .type "tuple", data := .seq #[.ref h.objs.size, .ref (w1 h l1).objs.size] }
abbrev w4 (h : Heap) (l1 l2 : Addr) : Heap := (w3 h l1 l2).push { cls := .type "tuple", data := .seq #[.none, .none] }
abbrev w5 (h : Heap) (l1 l2 : Addr) : Heap := (w4 h l1 l2).push { cls := .type "zip", data := .fields #[.none, .bool false, .bool false, .ref (w2 h l1 l2).objs.size, .ref (w3 h l1 l2).objs.size] }
theorem new_mixedN (l1 l2 : Addr) (xs ys : Array Value) : Meets (Builtin.«zip.__new__» ⟨[.type "zip", .ref l1, .ref l2], []⟩) (fun _ R s => s.heap.IsList l1 xs ∧ s.heap.IsTuple l2 ys ∧ R (.ok (.ret (.ref (w4 s.heap l1 l2).objs.size))) { s with heap := w5 s.heap l1 l2 }) :=
  .of_wp fun prog w A R s h => by
    obtain ⟨hp, gs, dr, tk, os⟩ := s
    obtain ⟨t1, t2, h⟩ := h
    have hsub := sub_zip
    have isT : Heap.IsList (Shared.heap ⟨hp, gs, dr, tk, os⟩) l1 xs := t1
    have isL : Heap.IsTuple (Shared.heap ⟨hp.push { cls := .type "list_iterator", data := .fields #[.ref l1, .int 0 0] }, gs, dr, tk, os⟩) l2 ys := Heap.IsTuple.push t2 _
    wp_walk using wpAny_pyIter_list isT, wpAny_pyIter_tuple isL
    exact ⟨_, rfl, h⟩
section
variable {prog : Program} {w : World} {A : Around} {E : Value → Shared → Prop} {s : Shared}
theorem call_mixedN {l1 l2 : Addr} {xs ys : Array Value} {Q : Value → Shared → Prop} (t1 : s.heap.IsList l1 xs) (t2 : s.heap.IsTuple l2 ys)
    (q : ∀ h', IsZip h' (s.heap.objs.size + 4) (s.heap.objs.size + 2) (s.heap.objs.size + 3) .none → IsPair h' (s.heap.objs.size + 2) (.ref s.heap.objs.size) (.ref (s.heap.objs.size + 1)) → IsPair h' (s.heap.objs.size + 3) .none .none →
      h'.IsListIter s.heap.objs.size l1 0 → h'.IsTupleIter (s.heap.objs.size + 1) l2 0 → (∀ c o, s.heap.get? c = some o → h'.get? c = some o) → Q (.ref (s.heap.objs.size + 4)) { s with heap := h' }) :
    wpAny (model prog w) A (call (.type "zip") [.ref l1, .ref l2]) Q E s := by
  refine callType_new F.called_zip (by decide) (F.typeCall_zip_2 _ _) (F.newCall_zip_2 _ _) (fun obj => F.args_object_init_3 obj _ _) F.entry_zip_new (new_mixedN l1 l2 xs ys) ⟨t1, t2, ?_⟩
  have n1 : (w1 s.heap l1).objs.size = s.heap.objs.size + 1 := Heap.size_push ..
  have n2 : (w2 s.heap l1 l2).objs.size = s.heap.objs.size + 2 := (Heap.size_push ..).trans (congrArg (· + 1) n1)
  have n3 : (w3 s.heap l1 l2).objs.size = s.heap.objs.size + 3 := (Heap.size_push ..).trans (congrArg (· + 1) n2)
  have n4 : (w4 s.heap l1 l2).objs.size = s.heap.objs.size + 4 := (Heap.size_push ..).trans (congrArg (· + 1) n3)
  have on : ∀ (h : Heap) (o : Obj) {c : Addr} {u : Obj}, h.get? c = some u → (h.push o).get? c = some u := fun _ _ _ _ e => Heap.get?_push_of_some _ e
  have o5 : (w5 s.heap l1 l2).get? (w4 s.heap l1 l2).objs.size = some _ := Heap.get?_push_size _ rfl
  have o4 : (w5 s.heap l1 l2).get? (w3 s.heap l1 l2).objs.size = some _ := on _ _ (Heap.get?_push_size _ rfl)
  have o3 : (w5 s.heap l1 l2).get? (w2 s.heap l1 l2).objs.size = some _ := on _ _ (on _ _ (Heap.get?_push_size _ rfl))
  have o2 : (w5 s.heap l1 l2).get? (w1 s.heap l1).objs.size = some _ := on _ _ (on _ _ (on _ _ (Heap.get?_push_size _ rfl)))
  have o1 : (w5 s.heap l1 l2).get? s.heap.objs.size = some _ := on _ _ (on _ _ (on _ _ (on _ _ (Heap.get?_push_size _ rfl))))
  show _ ∧ _
  rw [n2, n3, n4] at o5
  rw [n1, n2] at o3
  rw [n3] at o4
  rw [n1] at o2
  rw [n4]
  exact ⟨⟨_, o5, rfl⟩, q _ o5 o3 o4 ⟨_, o1, rfl, rfl⟩ ⟨_, o2, rfl, rfl⟩ fun c o e => on _ _ (on _ _ (on _ _ (on _ _ (on _ _ e))))⟩
end
/-! ### its turns -/
def ItzN (K : PySem.W.Frag) (a b : Addr) : It :=
  ⟨fun i H => ∃ (xs ys : List V) (x y : V), SqL K H a xs ∧ SqT K H b ys ∧ xs[i]? = some x ∧ ys[i]? = some y,
    fun i H v H' => ∃ T x y, v = .ref T ∧ H T = none ∧ H' = upd H T (.tup [x, y]) ∧ (∀ xs, SqL K H a xs → xs[i]? = some x) ∧ ∀ ys, SqT K H b ys → ys[i]? = some y,
    fun i H => ∃ xs ys : List V, SqL K H a xs ∧ SqT K H b ys ∧ (xs.length ≤ i ∨ ys.length ≤ i)⟩
theorem turn_mixedN {P : Program} {w : World} {K : PySem.W.Frag} {elts : List Expr} {kk : Nat} {tpos : Pos} {a b z TI TO i1 i2 : Addr} (D : ZipApart z TI TO i1 i2 a b) :
    Turn P w K (.Tuple elts kk tpos) (ItzN K a b) [z, TI, TO, i1, i2] z (fun i h => IsZip h z TI TO .none ∧ IsPair h TI (.ref i1) (.ref i2) ∧ (∃ x y, IsPair h TO x y) ∧ kLst.It h i1 a i ∧ kTup.It h i2 b i) where
  mem := by simp
  obj := fun i h st c hc => by
    obtain ⟨hz, hTI, ⟨x, y, hTO⟩, j1, j2⟩ := st
    rcases five hc with rfl | rfl | rfl | rfl | rfl
    · exact ⟨_, hz, fun v q => nomatch q⟩
    · exact ⟨_, hTI, fun v q => nomatch q⟩
    · exact ⟨_, hTO, fun v q => nomatch q⟩
    · exact kLst.obj j1
    · exact kTup.obj j2
  keep := fun i h h' st k => by
    obtain ⟨hz, hTI, ⟨x, y, hTO⟩, j1, j2⟩ := st
    exact ⟨k z (by simp) _ hz, k TI (by simp) _ hTI, ⟨x, y, k TO (by simp) _ hTO⟩, kLst.mvIt j1 fun o q => k i1 (by simp) o q, kTup.mvIt j2 fun o q => k i2 (by simp) o q⟩
  item := by
    intro X hP hw hK hc i pins s σ H E I hf st hg
    subst hP hw hK
    obtain ⟨hz, hTI, ⟨x0, y0, hTO⟩, j1, j2⟩ := st
    obtain ⟨xs, ys, x, y, qx, qy, hx, hy⟩ := hg
    obtain ⟨its, rv, p1, _⟩ := I.list qx
    obtain ⟨its2, rv2, p2, _⟩ := I.tuple qy
    obtain ⟨u, hu, ru⟩ := rv.get hx
    obtain ⟨u2, hu2, ru2⟩ := rv2.get hy
    have zlt : z < s.heap.objs.size := Heap.lt_size hz
    refine py_both kLst kTup D hz hTI hTO j1 j2 p1.isList (show s.heap.IsTuple b its2.toArray from p2) (x := u) (y := u2) (by simpa using hu) (by simpa using hu2) fun h' z' TO' j1' j2' hT hsz hk => ?_
    refine ⟨_, rfl, wpAny_letOwnedTupleGo_zip (s := { s with heap := h' }) z' fun h'' z'' sb => ?_⟩
    have pair : h''.get? s.heap.objs.size = some { cls := .type "tuple", data := .seq #[u, u2] } := (sb.2 _ (Nat.ne_of_gt zlt)).trans hT
    have nw : ObjOk X.prog X.w (upd H s.heap.objs.size (.tup [x, y])) h'' s.heap.objs.size (.tup [x, y]) := ⟨by show 2 ≤ sizeLine; decide, [u, u2], .cons ru (.cons ru2 .nil), ⟨_, pair, rfl, _, rfl⟩⟩
    have I1 : Inv X pins σ (upd H s.heap.objs.size (.tup [x, y])) { s with heap := h'' } :=
      I.turnedNew (t' := s.toks) (ch := [z, TI, TO, i1, i2]) (fun c o hb q => (sb.2 c (fun t => hb (by simp [t]))).trans (hk c o (fun t => hb (by simp [t])) (fun t => hb (by simp [t])) (fun t => hb (by simp [t])) (fun t => hb (by simp [t])) q)) hf (Nat.le_refl _) nw
    refine ⟨.ref s.heap.objs.size, _, I1, rfl, ⟨_, x, y, rfl, I.hok.fresh (Nat.le_refl _), rfl, fun l hl => by rw [I.list_inj hl qx]; exact hx, fun l hl => by rw [I.tuple_inj hl qy]; exact hy⟩, ⟨z'', ?_, ⟨u, u2, ?_⟩, ?_, ?_⟩, fun c hcm => ?_⟩
    · exact (sb.2 _ D.TIz).trans (hk _ _ D.TIz D.TITO D.TIi1 D.TIi2 hTI)
    · exact (sb.2 _ D.TOz).trans TO'
    · exact kLst.mvIt j1' fun o q => (sb.2 _ D.i1z).trans q
    · exact kTup.mvIt j2' fun o q => (sb.2 _ D.i2z).trans q
    · have lt : c < s.heap.objs.size := by
        rcases five hcm with rfl | rfl | rfl | rfl | rfl
        · exact zlt
        · exact Heap.lt_size hTI
        · exact Heap.lt_size hTO
        · obtain ⟨_, e1, _⟩ := kLst.obj j1
          exact Heap.lt_size e1
        · obtain ⟨_, e2, _⟩ := kTup.obj j2
          exact Heap.lt_size e2
      rw [upd_ne (Nat.ne_of_lt lt)]
      exact (hf c hcm).1
  done := by
    intro X hP hw hK hc i pins s σ H E I hf st hg
    subst hP hw hK
    obtain ⟨hz, hTI, ⟨x0, y0, hTO⟩, j1, j2⟩ := st
    obtain ⟨xs, ys, qx, qy, over⟩ := hg
    obtain ⟨its, rv, p1, _⟩ := I.list qx
    obtain ⟨its2, rv2, p2, _⟩ := I.tuple qy
    have e1 := rv.length
    have e2 := rv2.length
    have none' : its.toArray[i]? = none ∨ its2.toArray[i]? = none := over.imp (fun q => by simp; omega) fun q => by simp; omega
    exact py_none kLst kTup (I.ok.hd hc) D hz hTI hTO j1 j2 p1.isList (show s.heap.IsTuple b its2.toArray from p2) none' fun h' hk => ⟨rfl, I.turnedL (t' := s.toks) (ch := [z, TI, TO, i1, i2]) (fun c o hb q =>
      hk c o (fun t => hb (by simp [t])) (fun t => hb (by simp [t])) (fun t => hb (by simp [t])) (fun t => hb (by simp [t])) q) hf⟩
  self := fun A i s Q E st h => wpAny_pyIter_zip st.1 h
def iZipN (K : PySem.W.Frag) (ta : TA) : TI := fun σ H R => ta σ H fun vs H1 => ∃ a b xs ys, vs = [.ref a, .ref b] ∧ SqL K H1 a xs ∧ SqT K H1 b ys ∧ R (ItzN K a b) H1
theorem pi_zipN {X : Cx} {e e2 : Expr} {ta : TA} {p pos tpos : Pos} {elts : List Expr} {kk : Nat} (hg : Gl X "zip") (hm : X.mg "zip" = none) (ha : PA X [e, e2] ta)
    (hs : starEach [e, e2] X.env = (false, eval e X.env) :: starEach [e2] X.env := by rfl) (hpl : (backTo pos (starEach [e2] X.env)).any (·.1) = false := by rfl) :
    PI X (.Tuple elts kk tpos) (.Call (.Name "zip" p) [e, e2] [] pos) (iZipN X.K ta) := by
  refine ⟨fun pins s σ H R I h => Call_ (ld_blt I hg hm PyProof.Rows.boot_zip (PyProof.Rows.callWith_type1 (thn (ha.run pos pins s σ H _ I h) fun us s1 ⟨vs, H1, I1, r1, a, b, xs, ys, ex, qx, qy, q⟩ => ?_) hs hpl))⟩
  subst ex
  cases r1 with
  | cons ra rr =>
    cases rr with
    | cons rb rr =>
      cases rr
      cases ra
      cases rb
      obtain ⟨its, rv, p1, _⟩ := I1.list qx
      obtain ⟨its2, rv2, p2, _⟩ := I1.tuple qy
      obtain ⟨o1, ho1, _⟩ := id p2
      refine call_mixedN p1.isList (show s1.heap.IsTuple b its2.toArray from p2) fun h' hz hTI hTO j1 j2 hk => wpAny_pyIter_zip hz ?_
      have I2 : Inv X pins σ H1 { s1 with heap := h' } := I1.kept (t' := s1.toks) hk
      refine ⟨s1.heap.objs.size + 4, [s1.heap.objs.size + 4, s1.heap.objs.size + 2, s1.heap.objs.size + 3, s1.heap.objs.size, s1.heap.objs.size + 1], _, _, H1, rfl, I2, turn_mixedN (PySem.W.ktu_apart s1.heap.objs.size a b p1.lt (Heap.lt_size ho1)), ⟨hz, hTI, ⟨_, _, hTO⟩, j1, j2⟩, fun c hc => ?_, q⟩
      have le : s1.heap.objs.size ≤ c := by
        rcases five hc with rfl | rfl | rfl | rfl | rfl
        · exact Nat.le_add_right _ _
        · exact Nat.le_add_right _ _
        · exact Nat.le_add_right _ _
        · exact Nat.le_refl _
        · exact Nat.le_add_right _ _
      exact I1.fpOk le (I1.hok.fresh le)
theorem walk_zipN {K : PySem.W.Frag} {a b : Addr} {xs ys : List V} {n : Nat} (hn : n = min xs.length ys.length) : Walk (ItzN K a b) n (fun H => SqL K H a xs ∧ SqT K H b ys) (YPair (fun i => xs[i]?) (fun i => ys[i]?)) := by
  subst hn
  refine ⟨fun i _ hi q => ?_, fun _ q => ⟨xs, ys, q.1, q.2, by omega⟩, fun i H v H' _ q y => ?_⟩
  · have h1 : i < xs.length := by omega
    have h2 : i < ys.length := by omega
    exact ⟨xs, ys, xs[i], ys[i], q.1, q.2, by simp [h1], by simp [h2]⟩
  · obtain ⟨T, x, z, e1, e2, e3, e4, e5⟩ := y
    exact ⟨T, x, z, e1, e2, e3, e4 xs q.1, e5 ys q.2⟩
end Lz
/-! sum_row -/
namespace Wb
open PySem L2 WbMin WbS Lz
abbrev sSumRow : Stmt := top 43
/-- the key of a pair -/
def kpr (x : Nat × Nat) : List Key := [.inl (x.1 : Nat), .inl (x.2 : Nat)]
theorem kpr_inj {p q : Nat × Nat} (h : kpr p = kpr q) : p = q := by
  cases p
  cases q
  injection h with h1 h2
  injection h2 with h2 _
  injection h1 with h1
  injection h2 with h2
  dsimp only at h1 h2
  rw [Int.ofNat_inj.mp h1, Int.ofNat_inj.mp h2]
theorem nodup_kpr {ps : List (Nat × Nat)} (h : ps.Nodup) : (ps.map kpr).Nodup := List.Pairwise.map _ (fun _ _ n e => n (kpr_inj e)) h
def sNms (n : Nat) : List V := ((List.range n).map sNm).map V.str
theorem sNms_at {n j : Nat} (h : j < n) : (sNms n)[j]? = some (.str (sNm j)) := by
  unfold sNms
  rw [List.getElem?_map, List.getElem?_map, List.getElem?_range h] <;> rfl
theorem sNms_len (n : Nat) : (sNms n).length = n := by
  unfold sNms
  rw [List.length_map, List.length_map, List.length_range]
theorem sum_nm {A B : LD} {f : Int} {ps : List (Nat × Nat)} {j : Nat} (h : j < ps.length) : (A.sum B f ps).nm j = sNm j := by
  unfold LD.nm
  show ((List.range ps.length).map sNm).getD j (S []) = sNm j
  rw [List.getD_eq_getElem?_getD, List.getElem?_map, List.getElem?_range h] <;> rfl
/-- the name of a pair -/
theorem name_at {ps : List (Nat × Nat)} {x : Nat × Nat} (nd : ps.Nodup) {j : Nat} (h : ps[j]? = some x) : valV ((ps.map kpr).zip (sNms ps.length)) (kpr x) = some (.str (sNm j)) :=
  valV_zip_get (i := j) (nodup_kpr nd) (map_get h) (sNms_at (List.getElem?_eq_some_iff.mp h).1)
theorem sNm_txt {i : Nat} (h : i < 10) : Str.ofString "s" ++ (toString ((i : Nat) : Int) : Str) = sNm i := by
  rcases i with _ | _ | _ | _ | _ | _ | _ | _ | _ | _ | i
  all_goals first | decide +kernel | omega
/-- f's{..}' -/
def tSat (i : Nat) : TE := fun σ H Q => tJs [tC (.str (Str.ofString "s")), tFmt (tVar i)] Str.empty σ H fun out H1 => Q (.str out) H1
theorem sNm_txt0 {i : Nat} (h : i < 10) : (Str.empty ++ Str.ofString "s") ++ (toString ((0 : Int) + (i : Nat)) : Str) = sNm i := by
  rcases i with _ | _ | _ | _ | _ | _ | _ | _ | _ | _ | i
  all_goals first | decide +kernel | omega
theorem sum_rows (M : LD) (i : Nat) : ((List.range (i + 1)).flatMap fun i => M.sg.map (M.row i)) = ((List.range i).flatMap fun i => M.sg.map (M.row i)) ++ M.sg.map (M.row i) := by
  rw [List.range_succ, List.flatMap_append, List.flatMap_cons, List.flatMap_nil, List.append_nil]
structure SmA where
  (fpf fiy : Addr)
  (dpf diy : FuncData)
structure SmF (K : PySem.W.Frag) (mg : Str → Option Value) (B : SmA) : Prop where
  pf : Def K mg "pairs_found" sPairsF ["one", "other", "signs"] B.fpf B.dpf
  iy : Def K mg "_is_yes" sIsYes ["one_says", "other_says", "factor"] B.fiy B.diy
section
variable {P : Program} {w : World} {K : PySem.W.Frag} {mg : Str → Option Value} {base : Heap} {f C : Addr} {fd : FuncData} {S2 : SmA}
abbrev NSr : List Str := ["one", "other", "signs", "factor", "pairs", "states", "name", "rows", "turns", "yes", "at", "pair", "state", "first", "second", "sign"]
theorem scSr : FnScope NSr ["one", "other", "signs", "factor"] (defScope sSumRow) := ⟨rfl, rfl, rfl, by decide +kernel, rfl, by decide +kernel, by decide +kernel⟩
theorem estSr (a b : Addr) (g : Str) (k : Int) : L2.start NSr [V.ref a, V.ref b, V.str g, V.int k] = [some (V.ref a), some (V.ref b), some (V.str g), some (V.int k), none, none, none, none, none, none, none, none, none, none, none, none] := rfl
end
end Wb
/-! rounds gone through by the law -/
namespace Wb
open PySem L2 WbMin WbS Lz
section
variable {P : Program} {w : World} {K : PySem.W.Frag} {mg : Str → Option Value} {base : Heap} {f fR : Addr} {fd dR : FuncData}
end
end Wb
/-! the face of a thing: a def that calls itself, over things of any kind -/
namespace Wb
open PySem L2
abbrev sFace : Stmt := top 57
theorem Same.new2 {q : Addr} {o : HO} {H H' : Hp} (a : Same H H') (n : H q = none) : Same H (L2.upd H' q o) := fun c u h => by
  rw [upd_ne (ne_of_none h n)]
  exact a c u h
/-! ### data stay -/
theorem SqT.stay {K : PySem.W.Frag} {H H' : Hp} {a : Addr} {xs : List V} (s : Same H H') (h : SqT K H a xs) : SqT K H' a xs := by
  rcases h with (q | ⟨o, q⟩) | q
  · exact .inl (.inl (s _ _ q))
  · exact .inl (.inr ⟨o, s _ _ q⟩)
  · exact .inr q
mutual
theorem Dp.stay {K : PySem.W.Frag} {H H' : Hp} (s : Same H H') : ∀ {v : V} {d : PyData}, Dp K H v d → Dp K H' v d
  | _, _, .non => .non
  | _, _, .bl b => .bl b
  | _, _, .int i => .int i
  | _, _, .str x => .str x
  | _, _, .lst h r => .lst (s.seq h) (DpAll.stay s r)
  | _, _, .tup h r => .tup (SqT.stay s h) (DpAll.stay s r)
theorem DpAll.stay {K : PySem.W.Frag} {H H' : Hp} (s : Same H H') : ∀ {vs : List V} {ds : List PyData}, DpAll K H vs ds → DpAll K H' vs ds
  | _, _, .nil => .nil
  | _, _, .cons h r => .cons (Dp.stay s h) (DpAll.stay s r)
end
theorem DpAll.snoc {K : PySem.W.Frag} {H : Hp} {v : V} {d : PyData} : ∀ {vs : List V} {ds : List PyData}, DpAll K H vs ds → Dp K H v d → DpAll K H (vs ++ [v]) (ds ++ [d])
  | _, _, .nil, h => .cons h .nil
  | _, _, .cons h r, q => .cons h (DpAll.snoc r q)
/-! ### what a thing is, by the face that it has -/
def plainD (d : PyData) : PyData := .list [.str "plain", d]
/-- a thing without parts -/
inductive Leaf : V → PyData → Prop
  | non : Leaf .non (plainD .none)
  | bl (b : Bool) : Leaf (.bl b) (.list [.str "truth", .bool b])
  | int (i : Int) : Leaf (.int i) (plainD (.int i))
  | str (x : Str) : Leaf (.str x) (plainD (.str x))
inductive Both {α β : Type} (R : α → β → Prop) : List α → List β → Prop
  | nil : Both R [] []
  | cons {x : α} {y : β} {xs : List α} {ys : List β} (h : R x y) (r : Both R xs ys) : Both R (x :: xs) (y :: ys)
theorem Both.imp {α β : Type} {R R' : α → β → Prop} (f : ∀ x y, R x y → R' x y) : ∀ {xs : List α} {ys : List β}, Both R xs ys → Both R' xs ys
  | _, _, .nil => .nil
  | _, _, .cons h r => .cons (f _ _ h) (Both.imp f r)
theorem Both.len {α β : Type} {R : α → β → Prop} : ∀ {xs : List α} {ys : List β}, Both R xs ys → xs.length = ys.length
  | _, _, .nil => rfl
  | _, _, .cons _ r => congrArg (· + 1) (Both.len r)
theorem Both.get {α β : Type} {R : α → β → Prop} : ∀ {xs : List α} {ys : List β} {i : Nat} {x : α}, Both R xs ys → xs[i]? = some x → ∃ y, ys[i]? = some y ∧ R x y
  | _, _, _, _, .nil, h => by cases h
  | _, _, 0, _, .cons h _, e => by cases e; exact ⟨_, rfl, h⟩
  | _ :: _, _ :: _, i + 1, _, .cons _ r, e => Both.get (i := i) r e
def keyD (k : Str) (d : PyData) : PyData := .list [plainD (.str k), d]
def kvsOf (ks : List Str) (xs : List V) : List (Key × V) := List.zipWith (fun k x => (Sum.inr k, x)) ks xs
/-- all but what lies at a -/
def cut (H : Hp) (a : Addr) : Hp := fun b => if b = a then none else H b
theorem cut_same {H H' : Hp} {a : Addr} (s : Same H H') : Same (cut H a) (cut H' a) := fun b o h => by
  unfold cut at h ⊢
  by_cases e : b = a
  · rw [if_pos e] at h
    cases h
  · rw [if_neg e] at h ⊢
    exact s _ _ h
theorem cutH_to {H H' : Hp} {a : Addr} (s : ∀ b o, b ≠ a → H b = some o → H' b = some o) : Same (cut H a) H' := fun b o h => by
  unfold cut at h
  by_cases e : b = a
  · rw [if_pos e] at h
    cases h
  · rw [if_neg e] at h
    exact s _ _ e h
/-- at most n parts within parts; d the face -/
def Thing (H : Hp) : Nat → V → PyData → Prop
  | 0, _, _ => False
  | n + 1, v, d => Leaf v d ∨ (∃ (a : Addr) (xs : List V) (ds : List PyData), v = .ref a ∧ H a = some (.lst xs) ∧ xs.length ≤ 1000 ∧ Both (Thing H n) xs ds ∧ d = .list (.str "list" :: ds))
    ∨ (∃ (a : Addr) (xs : List V) (ds : List PyData), v = .ref a ∧ H a = some (.tup xs) ∧ xs.length ≤ 1000 ∧ Both (Thing H n) xs ds ∧ d = .list (.str "tuple" :: ds))
    ∨ (∃ (a : Addr) (ks : List Str) (xs : List V) (ds : List PyData), v = .ref a ∧ H a = some (.dK (kvsOf ks xs)) ∧ ks.Nodup ∧ ks.length = xs.length ∧ xs.length ≤ 1000 ∧ Both (Thing (cut H a) n) xs ds ∧ d = .list (.str "dict" :: List.zipWith keyD ks ds))
theorem Thing.same {H H' : Hp} (s : Same H H') : ∀ {n : Nat} {v : V} {d : PyData}, Thing H n v d → Thing H' n v d
  | 0, _, _, h => h.elim
  | _ + 1, _, _, .inl h => .inl h
  | _ + 1, _, _, .inr (.inl ⟨a, xs, ds, e, h, l, r, q⟩) => .inr (.inl ⟨a, xs, ds, e, s _ _ h, l, r.imp fun _ _ z => Thing.same s z, q⟩)
  | _ + 1, _, _, .inr (.inr (.inl ⟨a, xs, ds, e, h, l, r, q⟩)) => .inr (.inr (.inl ⟨a, xs, ds, e, s _ _ h, l, r.imp fun _ _ z => Thing.same s z, q⟩))
  | _ + 1, _, _, .inr (.inr (.inr ⟨a, ks, xs, ds, e, h, nd, l1, l, r, q⟩)) => .inr (.inr (.inr ⟨a, ks, xs, ds, e, s _ _ h, nd, l1, l, r.imp fun _ _ z => Thing.same (cut_same s) z, q⟩))
/-- what is new in H' -/
def New (H H' : Hp) : Hp := fun b => match H b with
  | none => H' b
  | some _ => none
theorem New.at {H H' : Hp} {b : Addr} (h : H b = none) : New H H' b = H' b := by
  unfold New
  rw [h]
theorem New.inv {H H' : Hp} {b : Addr} {o : HO} (h : New H H' b = some o) : H b = none ∧ H' b = some o := by
  unfold New at h
  cases e : H b with
  | none =>
    rw [e] at h
    exact ⟨rfl, h⟩
  | some u =>
    rw [e] at h
    cases h
theorem New.sub {H H' : Hp} : Same (New H H') H' := fun _ _ h => (New.inv h).2
theorem New.mono {A B A' B' : Hp} (f : ∀ b o, A b = none → B b = some o → A' b = none ∧ B' b = some o) : Same (New A B) (New A' B') := fun b o h => by
  obtain ⟨h1, h2⟩ := New.inv h
  obtain ⟨g1, g2⟩ := f b o h1 h2
  rw [New.at g1]
  exact g2
def spFace (K : PySem.W.Frag) (n : Nat) : Sp := fun vs H Q _ => ∃ (v : V) (d : PyData), vs = [v] ∧ Thing H n v d ∧ ∀ (a : Addr) (H' : Hp), H a = none → Same H H' → Dp K (New H H') (.ref a) d → Q (.ref a) H'
abbrev NF : List Str := ["_law_thing", "_law_part", "_law_key"]
theorem scFace : FnScope NF ["_law_thing"] (defScope sFace) := ⟨rfl, rfl, rfl, by decide +kernel, rfl, by decide +kernel, by decide +kernel⟩
structure FreeT (mg : Str → Option Value) : Prop where
  isi : mg "isinstance" = none
  tup : mg "tuple" = none
  lst : mg "list" = none
  dct : mg "dict" = none
  bool : mg "bool" = none
theorem leaf_ty {K : PySem.W.Frag} {H : Hp} {v : V} {d : PyData} (h : Leaf v d) : ∃ (t : String) (b : Bool) (d' : PyData), TyX K H v (.type t) ∧ PySem.W.kitOne K (.type t) (.type "tuple") = some false ∧ PySem.W.kitOne K (.type t) (.type "list") = some false ∧
    PySem.W.kitOne K (.type t) (.type "dict") = some false ∧ PySem.W.kitOne K (.type t) (.type "bool") = some b ∧ d = .list [.str (if b = true then "truth" else "plain"), d'] ∧ ∀ H', Dp K H' v d' := by
  cases h with
  | non => exact ⟨_, _, _, .base .non, kit_ty (by decide +kernel), kit_ty (by decide +kernel), kit_ty (by decide +kernel), kit_ty (r := false) (by decide +kernel), rfl, fun _ => .non⟩
  | bl b => exact ⟨_, _, _, .base (.bl b), kit_ty (by decide +kernel), kit_ty (by decide +kernel), kit_ty (by decide +kernel), kit_ty (r := true) (by decide +kernel), rfl, fun _ => .bl b⟩
  | int i => exact ⟨_, _, _, .base (.int i), kit_ty (by decide +kernel), kit_ty (by decide +kernel), kit_ty (by decide +kernel), kit_ty (r := false) (by decide +kernel), rfl, fun _ => .int i⟩
  | str x => exact ⟨_, _, _, .base (.str x), kit_ty (by decide +kernel), kit_ty (by decide +kernel), kit_ty (by decide +kernel), kit_ty (r := false) (by decide +kernel), rfl, fun _ => .str x⟩
theorem free_of {H H' : Hp} {q : Addr} (s : Same H H') (n : H' q = none) : H q = none := by
  cases e : H q with
  | none => rfl
  | some o =>
    rw [s _ _ e] at n
    cases n
/-- the list of faces grows in D -/
def FacePv (K : PySem.W.Frag) (B : Hp) (D : Addr) (ds : List PyData) (i : Nat) (H : Hp) : Prop := ∃ ys : List V, H D = some (.lst ys) ∧ ys.length = i ∧ DpAll K (New (upd B D (.lst [])) H) ys (ds.take i) ∧ Same B H
theorem FacePv.same {K : PySem.W.Frag} {B H : Hp} {D : Addr} {ds : List PyData} {i : Nat} (h : FacePv K B D ds i H) (_ : B D = none) : Same B H := h.choose_spec.2.2.2
theorem FacePv.start {K : PySem.W.Frag} {B : Hp} {D : Addr} {ds : List PyData} (hD : B D = none) : FacePv K B D ds 0 (upd B D (.lst [])) := ⟨[], upd_same, rfl, by rw [List.take_zero]; exact .nil, Same.new2 (Same.refl _) hD⟩
theorem FacePv.grow {K : PySem.W.Frag} {B H H5 : Hp} {D : Addr} {ds : List PyData} {i : Nat} {v : V} {y : PyData} (h : FacePv K B D ds i H) (hD : B D = none) (hy : ds[i]? = some y) (s5 : Same H H5)
    (d5 : ∀ ys, H D = some (.lst ys) → Dp K (New (upd B D (.lst [])) (upd H5 D (.lst (ys ++ [v])))) v y) (few : i < 16777216) : ∃ acc, H5 D = some (.lst acc) ∧ acc.length < sizeLine ∧ FacePv K B D ds (i + 1) (upd H5 D (.lst (acc ++ [v]))) := by
  obtain ⟨ys, e1, e2, e3, e4⟩ := h
  refine ⟨ys, s5 _ _ e1, by rw [sizeLine_eq]; omega, ys ++ [v], upd_same, by rw [List.length_append, e2] <;> rfl, ?_, Same.new2 (e4.trans s5) hD⟩
  rw [List.take_add_one, hy]
  refine DpAll.snoc (DpAll.stay (New.mono fun b o h1 h2 => ⟨h1, ?_⟩) e3) (d5 ys e1)
  have n : b ≠ D := fun z => by
    rw [z, upd_same] at h1
    cases h1
  rw [upd_ne n]
  exact s5 _ _ h2
/-- what is new since later is new since earlier -/
theorem new_in {B H H5 : Hp} {D : Addr} {o : HO} (hB : Same B H) {ys : List V} (hD : H D = some (.lst ys)) : Same (New H H5) (New (upd B D (.lst [])) (upd H5 D o)) := New.mono fun b u h1 h2 => by
  have n : b ≠ D := fun z => by
    rw [z, hD] at h1
    cases h1
  refine ⟨?_, ?_⟩
  · rw [upd_ne n]
    exact free_of hB h1
  · rw [upd_ne n]
    exact h2
theorem FacePv.step {K : PySem.W.Frag} {B H H5 : Hp} {D : Addr} {ds : List PyData} {i : Nat} {c : Addr} {y : PyData} (h : FacePv K B D ds i H) (hD : B D = none) (hy : ds[i]? = some y) (_ : H c = none) (s5 : Same H H5) (d5 : Dp K (New H H5) (.ref c) y) (few : i < 16777216) :
    ∃ acc, H5 D = some (.lst acc) ∧ acc.length < sizeLine ∧ FacePv K B D ds (i + 1) (upd H5 D (.lst (acc ++ [.ref c]))) :=
  h.grow hD hy s5 (fun ys e => Dp.stay (new_in (h.same hD) e) d5) few
theorem FacePv.done {K : PySem.W.Frag} {H H3 : Hp} {L D : Addr} {ds : List PyData} {w : Str} {n : Nat} {Q : VK} (h : FacePv K (upd H L (.lst [.str w])) D ds n H3) (hD : upd H L (.lst [.str w]) D = none) (hL : H L = none) (len : n = ds.length) (few : n ≤ 1000)
    (k : ∀ (a : Addr) (H' : Hp), H a = none → Same H H' → Dp K (New H H') (.ref a) (.list (.str w :: ds)) → Q (.ref a) H') : rCat (.ref L) (.ref D) H3 Q := by
  obtain ⟨ys, e1, e2, e3, e4⟩ := h
  have s0 : Same H H3 := (Same.new2 (Same.refl H) hL).trans e4
  refine ⟨L, D, _, ys, rfl, rfl, e4 _ _ upd_same, e1, by rw [sizeLine_eq, e2]; show 1 + n ≤ _; omega, fun M hM => ?_⟩
  have nM := free_of s0 hM
  refine k M _ nM (Same.new2 s0 nM) ?_
  refine .lst (SqL.of ((New.at nM).trans upd_same)) (.cons (.str _) ?_)
  rw [show ds.take n = ds by rw [len, List.take_length]] at e3
  refine DpAll.stay (New.mono fun b o h1 h2 => ?_) e3
  have n1 : b ≠ D := fun z => by
    rw [z, upd_same] at h1
    cases h1
  rw [upd_ne n1] at h1
  have n2 : b ≠ L := fun z => by
    rw [z, upd_same] at h1
    cases h1
  rw [upd_ne n2] at h1
  refine ⟨h1, ?_⟩
  rw [upd_ne (ne_of_none h2 hM)]
  exact h2
theorem FacePv.unlock {K : PySem.W.Frag} {B H3 : Hp} {a D : Addr} {ds : List PyData} {n : Nat} {u : HO} {od : Obj} (h : FacePv K (upd B a (.frz od u)) D ds n H3) (hD : upd B a (.frz od u) D = none) (ha : B a = some u) : FacePv K B D ds n (upd H3 a u) := by
  obtain ⟨ys, e1, e2, e3, e4⟩ := h
  have nD : D ≠ a := fun z => by
    rw [z, upd_same] at hD
    cases hD
  refine ⟨ys, (upd_ne nD).trans e1, e2, DpAll.stay (New.mono fun b o h1 h2 => ?_) e3, fun b o h => ?_⟩
  · have n1 : b ≠ D := fun z => by
      rw [z, upd_same] at h1
      cases h1
    rw [upd_ne n1] at h1
    have n2 : b ≠ a := fun z => by
      rw [z, upd_same] at h1
      cases h1
    rw [upd_ne n2] at h1
    rw [upd_ne n1, upd_ne n2]
    exact ⟨h1, h2⟩
  · by_cases e : b = a
    · rw [e, upd_same]
      rw [e, ha] at h
      exact h
    · rw [upd_ne e]
      exact e4 _ _ ((upd_ne e).trans h)
theorem kvs_at {ks : List Str} {xs : List V} {i : Nat} {kk : Key} {vv : V} (h : (kvsOf ks xs)[i]? = some (kk, vv)) : ∃ kt, kk = Sum.inr kt ∧ ks[i]? = some kt ∧ xs[i]? = some vv := by
  unfold kvsOf at h
  rw [List.getElem?_zipWith] at h
  cases h1 : ks[i]? with
  | none =>
    rw [h1] at h
    cases h
  | some kt =>
    cases h2 : xs[i]? with
    | none =>
      rw [h1, h2] at h
      cases h
    | some x =>
      rw [h1, h2] at h
      cases h
      exact ⟨kt, rfl, rfl, rfl⟩
theorem valV_at : ∀ {ks : List Str} {xs : List V} {i : Nat} {kt : Str} {vv : V}, ks.Nodup → ks.length = xs.length → ks[i]? = some kt → xs[i]? = some vv → valV (kvsOf ks xs) (Sum.inr kt) = some vv
  | [], _, _, _, _, _, _, h, _ => by cases h
  | _ :: _, [], _, _, _, _, h, _, _ => by cases h
  | k :: ks, x :: xs, 0, kt, vv, _, _, h1, h2 => by
    cases h1
    cases h2
    show ((List.find? _ ((Sum.inr k, x) :: kvsOf ks xs)).map (·.2)) = some x
    rw [List.find?_cons_of_pos (by simp)] <;> rfl
  | k :: ks, x :: xs, i + 1, kt, vv, nd, len, h1, h2 => by
    obtain ⟨n1, n2⟩ := List.nodup_cons.mp nd
    have h1' : ks[i]? = some kt := h1
    have ne : k ≠ kt := fun z => n1 (z ▸ List.mem_of_getElem? h1')
    have ih := valV_at (ks := ks) (xs := xs) (i := i) n2 (Nat.succ.inj len) h1' h2
    show ((List.find? _ ((Sum.inr k, x) :: kvsOf ks xs)).map (·.2)) = some vv
    rw [List.find?_cons_of_neg (by simpa using ne)]
    exact ih
section
variable {P : Program} {w : World} {K : PySem.W.Frag} {mg : Str → Option Value} {base : Heap} {f : Addr} {fd : FuncData}
theorem face_none : FnOk P w K mg base CX0 1 f fd ["_law_thing"] (spFace K 0) :=
  ⟨fun vs H Q E h => by obtain ⟨v, d, rfl, z, _⟩ := h; exact z.elim, fun A outer s H args us vs Q E hr e0 hb hv h => by obtain ⟨v, d, rfl, z, _⟩ := h; exact z.elim⟩
set_option maxHeartbeats 0 in
theorem face_more {n : Nat} (D : Fun K "_law_face" "_law_face" sFace f fd) (g : mg "_law_face" = some (.ref f)) (kp : PySem.W.keepIn K (.ref f) = true) (b : Binds K fd ["_law_thing"] []) (Z : FreeT mg)
    (G : FnOk P w K mg base CX0 (n + 1) f fd ["_law_thing"] (spFace K n)) : FnOk P w K mg base CX0 (n + 2) f fd ["_law_thing"] (spFace K (n + 1)) := by
  refine D.ok scFace (fun vs H Q E h => ?_) (fun cdv A outer s H vs Q E hr h => ?_)
  · obtain ⟨v, d, rfl, _⟩ := h
    rfl
  · obtain ⟨v, d, rfl, th, k⟩ := h
    refine ⟨_, pss_cons (ps_if (pt_val (pe_callB call_isi (by rfl) Z.isi (by decide +kernel) (pa_cons (pv 0) (pa_cons (pe_bltn (v := .ty "tuple") (u := .type "tuple") (by rfl) Z.tup (by decide +kernel) rfl) pa_nil))))
        (pss_one (ps_ret (pe_op op_cat (pe_lst (pa_cons pe_str pa_nil))
          (pe_lc (own := [("_law_part", 1)]) (g := gName 1) (tt := tYes) rfl scFace.nd (pi_tup (pv 0)) (blkOk_by (N := NF) (sc := defScope sFace) (by decide +kernel)) (fun _ _ _ _ _ => pg_name (i := 1) scFace.nd rfl (.inl rfl)) (fun _ _ _ _ _ => pts_nil)
            (fun _ _ _ _ _ => pe_call G hr rfl g kp b .nil pass0 (pa_cons (pv 1) pa_nil)))))) pss_nil)
      (pss_cons (ps_if (pt_val (pe_callB call_isi (by rfl) Z.isi (by decide +kernel) (pa_cons (pv 0) (pa_cons (pe_bltn (v := .ty "list") (u := .type "list") (by rfl) Z.lst (by decide +kernel) rfl) pa_nil))))
        (pss_one (ps_ret (pe_op op_cat (pe_lst (pa_cons pe_str pa_nil))
          (pe_lc (own := [("_law_part", 1)]) (g := gName 1) (tt := tYes) rfl scFace.nd (pi_list (pv 0)) (blkOk_by (N := NF) (sc := defScope sFace) (by decide +kernel)) (fun _ _ _ _ _ => pg_name (i := 1) scFace.nd rfl (.inl rfl)) (fun _ _ _ _ _ => pts_nil)
            (fun _ _ _ _ _ => pe_call G hr rfl g kp b .nil pass0 (pa_cons (pv 1) pa_nil)))))) pss_nil)
      (pss_cons (ps_if (pt_val (pe_callB call_isi (by rfl) Z.isi (by decide +kernel) (pa_cons (pv 0) (pa_cons (pe_bltn (v := .ty "dict") (u := .type "dict") (by rfl) Z.dct (by decide +kernel) rfl) pa_nil))))
        (pss_one (ps_ret (pe_op op_cat (pe_lst (pa_cons pe_str pa_nil))
          (pe_lock (pe_lc (own := [("_law_key", 2)]) (g := gName 2) (tt := tYes) rfl scFace.nd (pi_keys (pv 0)) (blkOk_by (N := NF) (sc := defScope sFace) (by decide +kernel)) (fun _ _ _ _ _ => pg_name (i := 2) scFace.nd rfl (.inl rfl)) (fun _ _ _ _ _ => pts_nil)
            (fun _ _ _ _ _ => pe_lst (pa_cons (pe_call G hr rfl g kp b .nil pass0 (pa_cons (pv 2) pa_nil)) (pa_cons (pe_call G hr rfl g kp b .nil pass0 (pa_cons (pe_dget (hu_of hr) (pv 0) (pv 2) (fun _ _ => rfl)) pa_nil)) pa_nil)))))))) pss_nil)
      (pss_one (ps_ret (pe_lst (pa_cons (pe_ifExp (pt_val (pe_callB call_isi (by rfl) Z.isi (by decide +kernel) (pa_cons (pv 0) (pa_cons (pe_bltn (v := .ty "bool") (u := .type "bool") (by rfl) Z.bool (by decide +kernel) rfl) pa_nil)))) pe_str pe_str) (pa_cons (pv 0) pa_nil))))))), ?_⟩
    rcases th with lf | ⟨a, xs, ds, rfl, ha, few, parts, rfl⟩ | ⟨a, xs, ds, rfl, ha, few, parts, rfl⟩ | ⟨a, ks, xs, ds, rfl, ha, nd, len, few, parts, rfl⟩
    · obtain ⟨t, c, d', ty, k1, k2, k3, k4, rfl, dp⟩ := leaf_ty (K := K) (H := H) lf
      refine ⟨_, rfl, _, _, .type t, .type "tuple", false, rfl, .ty "tuple", ty, k1, false, rfl, iteF ?_⟩
      refine ⟨_, rfl, _, _, .type t, .type "list", false, rfl, .ty "list", ty, k2, false, rfl, iteF ?_⟩
      refine ⟨_, rfl, _, _, .type t, .type "dict", false, rfl, .ty "dict", ty, k3, false, rfl, iteF ?_⟩
      refine ⟨_, rfl, _, _, .type t, .type "bool", c, rfl, .ty "bool", ty, k4, c, rfl, ?_⟩
      cases c with
      | true => exact iteT ⟨_, rfl, (by show 2 ≤ sizeLine; decide), fun q hq => k q _ hq (Same.new2 (Same.refl H) hq) (.lst (SqL.of ((New.at hq).trans upd_same)) (.cons (.str _) (.cons (dp _) .nil)))⟩
      | false => exact iteF ⟨_, rfl, (by show 2 ≤ sizeLine; decide), fun q hq => k q _ hq (Same.new2 (Same.refl H) hq) (.lst (SqL.of ((New.at hq).trans upd_same)) (.cons (.str _) (.cons (dp _) .nil)))⟩
    · refine ⟨_, rfl, _, _, .type "list", .type "tuple", false, rfl, .ty "tuple", .base (.lst ha), kit_ty (by decide +kernel), false, rfl, iteF ?_⟩
      refine ⟨_, rfl, _, _, .type "list", .type "list", true, rfl, .ty "list", .base (.lst ha), kit_ty (by decide +kernel), true, rfl, iteT ?_⟩
      have mk : ∀ L, H L = none → Same H (upd H L (.lst [.str "list"])) := fun L hL => Same.new2 (Same.refl H) hL
      refine ⟨(by show 1 ≤ sizeLine; decide), fun L hL => ⟨_, rfl, a, rfl, ⟨xs, SqL.of (mk L hL _ _ ha)⟩, fun D hD => ?_⟩⟩
      refine lc_it (walk_list (xs := xs)) (FacePv K (upd H L (.lst [.str "list"])) D ds) (FacePv.start hD) (fun i H3 _ q => SqL.of (q.same hD _ _ (mk L hL _ _ ha))) ?_ ?_
      · rintro i x H3 H3' hi q ⟨rfl, hx⟩
        obtain ⟨y, hy, th⟩ := parts.get hx
        refine ⟨rfl, _, rfl, x, y, rfl, th.same ((mk L hL).trans (q.same hD)), fun c H5 hc s5 d5 => q.step hD hy hc s5 d5 (by omega)⟩
      · rintro H3 q
        exact q.done hD hL parts.len few k
    · refine ⟨_, rfl, _, _, .type "tuple", .type "tuple", true, rfl, .ty "tuple", .base (.tup ha), kit_ty (by decide +kernel), true, rfl, iteT ?_⟩
      have mk : ∀ L, H L = none → Same H (upd H L (.lst [.str "tuple"])) := fun L hL => Same.new2 (Same.refl H) hL
      refine ⟨(by show 1 ≤ sizeLine; decide), fun L hL => ⟨_, rfl, a, rfl, ⟨xs, SqT.of (mk L hL _ _ ha)⟩, fun D hD => ?_⟩⟩
      refine lc_it (walk_tup (xs := xs)) (FacePv K (upd H L (.lst [.str "tuple"])) D ds) (FacePv.start hD) (fun i H3 _ q => SqT.of (q.same hD _ _ (mk L hL _ _ ha))) ?_ ?_
      · rintro i x H3 H3' hi q ⟨rfl, hx⟩
        obtain ⟨y, hy, th⟩ := parts.get hx
        refine ⟨rfl, _, rfl, x, y, rfl, th.same ((mk L hL).trans (q.same hD)), fun c H5 hc s5 d5 => q.step hD hy hc s5 d5 (by omega)⟩
      · rintro H3 q
        exact q.done hD hL parts.len few k
    · refine ⟨_, rfl, _, _, .type "dict", .type "tuple", false, rfl, .ty "tuple", .base (.dK ha), kit_ty (by decide +kernel), false, rfl, iteF ?_⟩
      refine ⟨_, rfl, _, _, .type "dict", .type "list", false, rfl, .ty "list", .base (.dK ha), kit_ty (by decide +kernel), false, rfl, iteF ?_⟩
      refine ⟨_, rfl, _, _, .type "dict", .type "dict", true, rfl, .ty "dict", .base (.dK ha), kit_ty (by decide +kernel), true, rfl, iteT ?_⟩
      have mk : ∀ L, H L = none → Same H (upd H L (.lst [.str "dict"])) := fun L hL => Same.new2 (Same.refl H) hL
      refine ⟨(by show 1 ≤ sizeLine; decide), fun L hL => ⟨a, .dK (kvsOf ks xs), mk L hL _ _ ha, trivial, fun od => ⟨_, rfl, a, od, rfl, .inl ⟨_, upd_same, fun D hD => ?_⟩⟩⟩⟩
      have klen : (kvsOf ks xs).length = xs.length := by unfold kvsOf; rw [List.length_zipWith]; omega
      have dlen : (List.zipWith keyD ks ds).length = xs.length := by have := parts.len; rw [List.length_zipWith]; omega
      refine lc_it (walk_keys (kvs := kvsOf ks xs)) (FacePv K (upd (upd H L (.lst [.str "dict"])) a (.frz od (.dK (kvsOf ks xs)))) D (List.zipWith keyD ks ds)) (FacePv.start hD) (fun i H3 _ q => q.same hD _ _ upd_same) ?_ ?_
      · rintro i x H3 H3' hi q ⟨rfl, kk, vv, hk, rfl⟩
        obtain ⟨kt, rfl, ek, ev⟩ := kvs_at hk
        obtain ⟨y, hy, th⟩ := parts.get ev
        have s3 := q.same hD
        have lo : Same (cut H a) H3' := cutH_to fun b o n h => s3 _ _ ((upd_ne n).trans (mk L hL _ _ h))
        refine ⟨rfl, _, rfl, .str kt, plainD (.str kt), rfl, ?_, fun c H5 hc s5 d5 => ⟨_, rfl, _, rfl, a, _, rfl, .inl ⟨kvsOf ks xs, Sum.inr kt, .inr ⟨od, s5 _ _ (s3 _ _ upd_same)⟩, rfl, (valV_at nd len ek ev).symm⟩, vv, y, rfl, th.same (lo.trans s5), fun c2 H6 hc2 s6 d6 => ?_⟩⟩
        · cases n with
          | zero => exact th.elim
          | succ m => exact .inl (.str kt)
        · refine ⟨(by show 2 ≤ sizeLine; decide), fun E hE => ?_⟩
          have s56 := s5.trans s6
          have nE3 := free_of s56 hE
          refine q.grow hD (y := keyD kt y) ?_ (s56.trans (Same.new2 (Same.refl _) hE)) (fun ys e => ?_) (by omega)
          · rw [List.getElem?_zipWith, ek, hy] <;> rfl
          · have nDE : E ≠ D := fun z => by
              rw [z, e] at nE3
              cases nE3
            have nB := free_of (q.same hD) nE3
            refine .lst (SqL.of (xs := [.ref c, .ref c2]) ((New.at (by rw [upd_ne nDE]; exact nB)).trans ?_)) (.cons (Dp.stay ?_ d5) (.cons (Dp.stay ?_ d6) .nil))
            · rw [upd_ne nDE, upd_same]
            · refine New.mono fun b o h1 h2 => ?_
              have n : b ≠ D := fun z => by
                rw [z, e] at h1
                cases h1
              have n2 : b ≠ E := ne_of_none (s6 _ _ h2) hE
              rw [upd_ne n, upd_ne n, upd_ne n2]
              exact ⟨free_of s3 h1, s6 _ _ h2⟩
            · refine New.mono fun b o h1 h2 => ?_
              have h1' := free_of s5 h1
              have n : b ≠ D := fun z => by
                rw [z, e] at h1'
                cases h1'
              have n2 : b ≠ E := ne_of_none h2 hE
              rw [upd_ne n, upd_ne n, upd_ne n2]
              exact ⟨free_of s3 h1', h2⟩
      · rintro H3 q
        refine ⟨q.same hD _ _ upd_same, (q.unlock hD (mk L hL _ _ ha)).done ?_ hL (klen.trans dlen.symm) (by omega) k⟩
        have nD : D ≠ a := fun z => by
          rw [z, upd_same] at hD
          cases hD
        exact (upd_ne nD).symm.trans hD
theorem ok_face (D' : Def K mg "_law_face" sFace ["_law_thing"] f fd) (Z : FreeT mg) : ∀ n, FnOk P w K mg base CX0 (n + 1) f fd ["_law_thing"] (spFace K n)
  | 0 => face_none
  | n + 1 => face_more D'.F D'.g D'.kp D'.b Z (ok_face D' Z n)
end
end Wb
/-! o.m(k = v, ..) of an own method -/
namespace Lz
open PySem PySem.Spec PyProof.Rows L2
section
variable {X : Cx} {CX : CXT} {k : Nat} {C g : Addr} {fd : FuncData} {ps ks : List Str} {sp : Sp} {E : XK} {o : Expr} {m : Str} {apos pos : Pos} {kws : List Keyword} {ta : TE} {tk : TA} {kg : List Value → List Value → List Value} {gV : List V → List V → List V}
/-- self; the second by name first -/
def g12 {α : Type} : List α → List α → List α
  | [r], [a, b] => [r, b, a]
  | _, _ => []
end
end Lz
namespace Wb
open PySem L2 WbMin WbS Lz
/-! ### rounds that come again -/
/-! ### faces of answers -/
theorem str_tuple : PyData.strOk ("tuple" : Str) = true := by decide +kernel
theorem str_plain : PyData.strOk ("plain" : Str) = true := by decide +kernel
theorem int_lay (c : Int) : (plainD (.int c)).canLay0 = true := by
  show ((PyData.strOk "plain") && (true && true)) = true
  rw [str_plain] <;> rfl
theorem shaped_of {d : PyData} (h : d.canLay0 = true) (n : PyData.depth d ≤ 64) : SeqAt.shaped d = true := by
  unfold SeqAt.shaped
  rw [h, decide_eq_true n] <;> rfl
end Wb
/-! an instance called; a loop called -/
namespace Lz
open PySem PySem.Spec PyProof.Rows L2 StX
section
variable {X : Cx} {CX : CXT} {k : Nat} {C g : Addr} {fd : FuncData} {ps ks : List Str} {sp : Sp} {E : XK} {fe e : Expr} {es : List Expr} {pos : Pos} {kws : List Keyword} {tf : TE} {t tk : TA} {kg : List Value → List Value → List Value} {gV : List V → List V → List V}
end
end Lz
namespace Wb
open PySem L2 WbMin WbS Lz
structure CalA where
  (fCa : Addr)
  (dCa : FuncData)
/-- the answers of the first rounds -/
def LD.answers (L : LD) (w : List Nat) (m : Nat) : List (List V) := (List.range m).map fun j => [V.int (L.cf w j), .bl (L.ys (it (L.lead w) (j + 1)))]
section
variable {P : Program} {w : World} {K : PySem.W.Frag} {mg : Str → Option Value} {base : Heap} {A : LA} {B : CalA} {e : Addr}
end
end Wb
/-! the law's answers -/
namespace Wb
open PySem L2 WbMin WbS Lz
section
variable {P : Program} {w : World} {K : PySem.W.Frag} {mg : Str → Option Value} {base : Heap} {f fR fRo : Addr} {fd dR dRo : FuncData}
end
end Wb
/-! the law's own sum of two models: how many states it has -/
namespace Wb
open PySem L2 WbMin WbS Lz
abbrev sProduct : Stmt := top 66
/-- a for-loop where what follows is written out -/
theorem for_itN {J : It} {n : Nat} {G : Hp → Prop} {Y : Nat → Hp → V → Hp → Prop} (w : Walk J n G Y) {g : TG} {tb : TS} {N0 : L2.St → Hp → Prop} {R : VK} {σ : L2.St} {H : Hp} (Pv : Nat → L2.St → Hp → Prop) (h0 : Pv 0 σ H) (hG : ∀ i σ H, i ≤ n → Pv i σ H → G H)
    (hs : ∀ i x σ H H', i < n → Pv i σ H → Y i H x H' → g x σ H' fun σ2 H2 => tb { nx := Pv (i + 1), rt := R, bk := N0, ct := Pv (i + 1) } σ2 H2) (hd : ∀ σ H, Pv n σ H → N0 σ H) :
    ∃ W : Nat → Nat → L2.St → Hp → Prop, (∃ m, W 0 m σ H) ∧ ∀ i m σ H, W i m σ H →
      (J.stop i H ∧ N0 σ H) ∨ (J.go i H ∧ ∃ N : L2.St → Hp → Prop, (∀ σ' H', N σ' H' → ∃ m', m' < m ∧ W (i + 1) m' σ' H') ∧ ∀ x H', J.yld i H x H' → g x σ H' fun σ2 H2 => tb { nx := N, rt := R, bk := N0, ct := N } σ2 H2) :=
  for_it (D := { nx := N0, rt := R }) w Pv h0 hG hs hd
/-! ### names of pairs -/
def nmP (A B : LD) (x : Nat × Nat) : Str × Str := (A.nm x.1, B.nm x.2)
theorem nm_strOk {L : LD} (O : L.Ok) {i : Nat} (hi : i < L.n) : PyData.strOk (L.nm i) = true := by
  obtain ⟨l, e, N⟩ := O.sts.of _ (nm_mem hi)
  rw [e]
  exact ok_codes fun c hc => by
    rcases N.ok c hc with h | h <;> omega
def InB (A B : LD) (x : Nat × Nat) : Prop := x.1 < A.n ∧ x.2 < B.n
theorem nmP_ok {A B : LD} (OA : A.Ok) (OB : B.Ok) {x : Nat × Nat} (h : InB A B x) : okP (nmP A B x) := ⟨nm_strOk OA h.1, nm_strOk OB h.2⟩
theorem nmP_inj {A B : LD} (OA : A.Ok) (OB : B.Ok) {x y : Nat × Nat} (hx : InB A B x) (hy : InB A B y) (h : nmP A B x = nmP A B y) : x = y := by
  have h1 : A.nm x.1 = A.nm y.1 := congrArg Prod.fst h
  have h2 : B.nm x.2 = B.nm y.2 := congrArg Prod.snd h
  exact Prod.ext (nm_inj OA hx.1 hy.1 h1) (nm_inj OB hx.2 hy.2 h2)
theorem nmP_mem {A B : LD} (OA : A.Ok) (OB : B.Ok) {ps : List (Nat × Nat)} {x : Nat × Nat} (hp : ∀ y ∈ ps, InB A B y) (hx : InB A B x) : nmP A B x ∈ ps.map (nmP A B) ↔ x ∈ ps := by
  constructor
  · intro h
    obtain ⟨y, hy, e⟩ := List.mem_map.mp h
    rw [← nmP_inj OA OB (hp y hy) hx e]
    exact hy
  · exact fun h => List.mem_map.mpr ⟨x, h, rfl⟩
theorem plc_min {x : Nat × Nat} : ∀ {l : List (Nat × Nat)} {m : Nat} {y : Nat × Nat}, m < plc x l → l[m]? = some y → y ≠ x
  | [], _, _, h, _ => absurd h (Nat.not_lt_zero _)
  | z :: l, m, y, h, e => by
    have h : m < (if z = x then 0 else plc x l + 1) := h
    by_cases q : z = x
    · rw [if_pos q] at h
      exact absurd h (Nat.not_lt_zero _)
    · rw [if_neg q] at h
      cases m with
      | zero =>
        cases e
        exact q
      | succ m => exact plc_min (l := l) (m := m) (by omega) e
/-- a text s.. is short -/
theorem s_few {i : Nat} (h : i < 40) : ((i : Nat) : Int).natAbs.log2 < 1920 ∧ (Str.ofString "s").length + ((toString ((i : Nat) : Int) : Str)).length ≤ sizeLine := by
  have a : ∀ j : Fin 40, ((j.val : Nat) : Int).natAbs.log2 < 1920 ∧ (Str.ofString "s").length + ((toString ((j.val : Nat) : Int) : Str)).length ≤ 10 := by decide +kernel
  have b := a ⟨i, h⟩
  exact ⟨b.1, Nat.le_trans b.2 (by rw [sizeLine_eq]; omega)⟩
theorem Tk.upd {H : Hp} {a : Addr} {o o' : HO} (h : H a = some o) (no : ∀ x, o ≠ .tup x) : Tk H (L2.upd H a o') := fun b x hb => (upd_ne (ne_of hb h fun e => no x e.symm)).trans hb
/-- what stands while the sum is gone through -/
structure PSt (A B : LD) (F Sd Ed : Addr) (H0 H : Hp) (ps : List (Nat × Nat)) (as : List Addr) (k l : Nat) : Prop where
  fnd : Fnd A B ps k
  hF : H F = some (.lst (as.map V.ref))
  hT : Tups H as ((ps.map (nmP A B)).map pV)
  dS : ∃ kvs : List (List Key × V), H Sd = some (.dT kvs) ∧ kvs.length ≤ l
  dE : ∃ ws : List (Key × V), H Ed = some (.dK ws) ∧ ws.length ≤ l
  sm : Same H0 H
  nF : H0 F = none
  nS : H0 Sd = none
  nE : H0 Ed = none
section
variable {A B : LD} {F Sd Ed : Addr} {H0 H : Hp} {ps : List (Nat × Nat)} {as : List Addr} {k l : Nat}
theorem PSt.same {H' : Hp} (q : PSt A B F Sd Ed H0 H ps as k l) (s : Same H H') : PSt A B F Sd Ed H0 H' ps as k l :=
  ⟨q.fnd, s _ _ q.hF, q.hT.same s, q.dS.imp fun _ h => ⟨s _ _ h.1, h.2⟩, q.dE.imp fun _ h => ⟨s _ _ h.1, h.2⟩, q.sm.trans s, q.nF, q.nS, q.nE⟩
theorem PSt.len (q : PSt A B F Sd Ed H0 H ps as k l) : as.length = ps.length := by rw [q.hT.length, List.length_map, List.length_map]
theorem PSt.inb (q : PSt A B F Sd Ed H0 H ps as k l) (OA : A.Ok) (OB : B.Ok) (eg : B.sg = A.sg) : ∀ x ∈ ps, InB A B x := fun x hx => (q.fnd.rch x hx).lt OA OB eg
theorem PSt.app (q : PSt A B F Sd Ed H0 H ps as k l) (hk : k ≤ ps.length) {y : Nat × Nat} (n : y ∉ ps) (r : Rch A B y) {g : Addr} (hg : H g = some (.tup (pV (nmP A B y)))) : PSt A B F Sd Ed H0 (L2.upd H F (.lst (as.map V.ref ++ [V.ref g]))) (ps ++ [y]) (as ++ [g]) k l ∧ Tk H (L2.upd H F (.lst (as.map V.ref ++ [V.ref g]))) := by
  have b : But F H (L2.upd H F (.lst (as.map V.ref ++ [V.ref g]))) := But.here (But.refl F H)
  obtain ⟨kvs, hS, lS⟩ := q.dS
  obtain ⟨ws, hE, lE⟩ := q.dE
  refine ⟨⟨q.fnd.snoc hk n r, ?_, ?_, ⟨kvs, b _ _ (ne_of hS q.hF (by intro z; cases z)) hS, lS⟩, ⟨ws, b _ _ (ne_of hE q.hF (by intro z; cases z)) hE, lE⟩, fun c o hc => b _ _ (ne_of_none hc q.nF) (q.sm _ _ hc), q.nF, q.nS, q.nE⟩, Tk.upd q.hF fun x z => by cases z⟩
  · rw [upd_same, List.map_append] <;> rfl
  · rw [List.map_append, List.map_append]
    exact Tups.snoc (b _ _ (ne_of hg q.hF (by intro z; cases z)) hg) (q.hT.but (fun x => by intro z; cases z) q.hF b)
theorem PSt.putS (q : PSt A B F Sd Ed H0 H ps as k l) {u : Addr} {key : List Key} {v : V} (hu : H u = some (.tup (key.map kV))) (few : l < 1000) : ∃ H', DPut H Sd (.ref u) v H' ∧ PSt A B F Sd Ed H0 H' ps as k (l + 1) ∧ Tk H H' ∧ But Sd H H' := by
  obtain ⟨kvs, hS, lS⟩ := q.dS
  obtain ⟨ws, hE, lE⟩ := q.dE
  have b : But Sd H (L2.upd H Sd (.dT (putK kvs key v))) := But.here (But.refl Sd H)
  refine ⟨_, DPut.t hS hu (by rw [sizeLine_eq]; omega), ⟨q.fnd, b _ _ (ne_of q.hF hS (by intro z; cases z)) q.hF, q.hT.but (fun x => by intro z; cases z) hS b, ⟨_, upd_same, ?_⟩, ⟨ws, b _ _ (ne_of hE hS (by intro z; cases z)) hE, by omega⟩, fun c o hc => b _ _ (ne_of_none hc q.nS) (q.sm _ _ hc), q.nF, q.nS, q.nE⟩, Tk.upd hS (fun x z => by cases z), b⟩
  have := length_putK kvs key v
  omega
theorem PSt.putE (q : PSt A B F Sd Ed H0 H ps as k l) {key : Key} {v : V} (few : l < 1000) : ∃ H', DPut H Ed (kV key) v H' ∧ PSt A B F Sd Ed H0 H' ps as k (l + 1) ∧ Tk H H' ∧ But Ed H H' := by
  obtain ⟨kvs, hS, lS⟩ := q.dS
  obtain ⟨ws, hE, lE⟩ := q.dE
  have b : But Ed H (L2.upd H Ed (.dK (putK ws key v))) := But.here (But.refl Ed H)
  refine ⟨_, DPut.k hE (by rw [sizeLine_eq]; omega), ⟨q.fnd, b _ _ (ne_of q.hF hE (by intro z; cases z)) q.hF, q.hT.but (fun x => by intro z; cases z) hE b, ⟨kvs, b _ _ (ne_of hS hE (by intro z; cases z)) hS, by omega⟩, ⟨_, upd_same, ?_⟩, fun c o hc => b _ _ (ne_of_none hc q.nE) (q.sm _ _ hc), q.nF, q.nS, q.nE⟩, Tk.upd hE (fun x z => by cases z), b⟩
  have := length_putK ws key v
  omega
theorem PSt.low (q : PSt A B F Sd Ed H0 H ps as k l) {l' : Nat} (h : l ≤ l') : PSt A B F Sd Ed H0 H ps as k l' :=
  ⟨q.fnd, q.hF, q.hT, q.dS.imp fun _ z => ⟨z.1, Nat.le_trans z.2 h⟩, q.dE.imp fun _ z => ⟨z.1, Nat.le_trans z.2 h⟩, q.sm, q.nF, q.nS, q.nE⟩
theorem PSt.up (q : PSt A B F Sd Ed H0 H ps as k l) {k' : Nat} (f : Fnd A B ps k') : PSt A B F Sd Ed H0 H ps as k' l := ⟨f, q.hF, q.hT, q.dS, q.dE, q.sm, q.nF, q.nS, q.nE⟩
end
theorem Fnd.over {A B : LD} {ps : List (Nat × Nat)} {k : Nat} (h : Fnd A B ps k) (le : ps.length ≤ k) : Fnd A B ps (k + 1) where
  pos := h.pos
  nd := h.nd
  rch := h.rch
  nx := fun i x _ e c hc => h.nx i x (by have := (List.getElem?_eq_some_iff.mp e).1; omega) e c hc
  tn := fun i x _ e => h.tn i x (by have := (List.getElem?_eq_some_iff.mp e).1; omega) e
/-- two ways that go on alike -/
theorem two_ways {c : Bool} {T : Prop} {H7 : Hp} {N : Hp → Prop} (C : Hp → Prop) (ht : c = true → (∀ H, C H → N H) → T) (hf : c = false → C H7) (hN : ∀ H, C H → N H) : if c = true then T else N H7 := by
  cases c with
  | true =>
    rw [if_pos rfl]
    exact ht rfl hN
  | false =>
    rw [if_neg (by decide)]
    exact hN _ (hf rfl)
/-- an entry of what is to be gone through -/
def Gng (A B : LD) (H : Hp) (u : Addr) (y : Nat × Nat) : Prop := ∃ (z : Str) (t1 t2 : Addr) (m1 m2 : Int), H u = some (.tup [.str z, .ref t1, .ref t2]) ∧ H t1 = some (.tup [.str (A.nm y.1), .int m1]) ∧ H t2 = some (.tup [.str (B.nm y.2), .int m2])
theorem Gng.tk {A B : LD} {H H' : Hp} {u : Addr} {y : Nat × Nat} (s : Tk H H') : Gng A B H u y → Gng A B H' u y := fun ⟨z, t1, t2, m1, m2, a, b, c⟩ => ⟨z, t1, t2, m1, m2, s _ _ a, s _ _ b, s _ _ c⟩
section
variable {P : Program} {w : World} {K : PySem.W.Frag} {mg : Str → Option Value} {base : Heap} {f : Addr} {fd : FuncData}
abbrev NPd : List Str := ["_law_near", "_law_far", "_law_times", "_law_both", "_law_abc", "_law_found", "_law_steps", "_law_ends", "_law_turn", "_law_post", "_law_mate", "_law_mark", "_law_goings", "_law_one_step", "_law_its_step", "_law_goal", "_law_step", "_law_posts", "_law_flags", "_law_oks", "_law_at"]
theorem scPd : FnScope NPd ["_law_near", "_law_far", "_law_times", "_law_both"] (defScope sProduct) := ⟨rfl, rfl, rfl, by decide +kernel, rfl, by decide +kernel, by decide +kernel⟩
theorem estPd (a b : Addr) (k : Int) (t : Bool) : L2.start NPd [V.ref a, V.ref b, V.int k, V.bl t] = [some (V.ref a), some (V.ref b), some (V.int k), some (V.bl t), none, none, none, none, none, none, none, none, none, none, none, none, none, none, none, none, none] := rfl
end
end Wb
/-! pairs_found: which pairs, in which order -/
namespace Wb
open PySem L2 WbMin WbS Lz
def spPairsA (T : Addr) : Sp := fun vs H Q _ => ∃ (a b : Addr) (A B : LD), vs = [.ref a, .ref b, .str (S A.sg)] ∧ A.Ok ∧ B.Ok ∧ B.sg = A.sg ∧ TableAt T H a A ∧ TableAt T H b B ∧
  ∀ (q : Addr) (as : List Addr) (H' : Hp), H q = none → Same H H' → AllP A B (allF A B) → H' q = some (.lst (as.map V.ref)) → Tups H' as ((allF A B).map prV) → Q (.ref q) H'
section
variable {P : Program} {w : World} {K : PySem.W.Frag} {mg : Str → Option Value} {base : Heap} {f C : Addr} {fd : FuncData}
set_option maxHeartbeats 0 in
theorem ok_pairsA (F : Fun K "pairs_found" "pairs_found" sPairsF f fd) (T : TTxt K mg C) (Z : Free mg) : FnOk P w K mg base CX0 1 f fd ["one", "other", "signs"] (spPairsA C) := by
  refine F.ok scPf (fun vs H Q E h => ?_) (fun cdv A outer s H vs Q E hr h => ?_)
  · obtain ⟨a, b, A, B, rfl, _⟩ := h
    rfl
  · obtain ⟨a, b, A, B, rfl, OA, OB, eg, TA, TB, k⟩ := h
    refine ⟨_, pss_cons (ps_set (i := 3) scPf.nd rfl (.inl rfl) (pe_lst (pa_cons (pe_tup (pa_cons pe_int (pa_cons pe_int pa_nil))) pa_nil)))
      (pss_cons (ps_set (i := 4) scPf.nd rfl (.inl rfl) pe_int)
      (pss_cons (ps_while PassesOwn.never (pt_cmpR op_lt (pv 4) (pe_callB call_len_seq (by rfl) Z.len PySem.boot_len (pa_cons (pv 3) pa_nil)) (nomark _))
        (pss_cons (ps_asg (pe_ix ix_list (pv 3) (pv 4) (fun _ _ => rfl)) (pg_tup (by rfl) (pgs_cons (pg_name (i := 5) scPf.nd rfl (.inr rfl)) (pgs_cons (pg_name (i := 6) scPf.nd rfl (.inr rfl)) pgs_nil))))
        (pss_cons (ps_setLc (i := 7) (own := [("sign", 9)]) (g := gName 9) (tt := tYes) rfl scPf.nd rfl rfl (sw_true rfl rfl rfl (by decide +kernel)) (pi_str (pv 2)) (blkOk_by (N := NPf) (sc := defScope sPairsF) (by decide +kernel)) (fun _ _ _ _ _ => pg_name (i := 9) scPf.nd rfl (.inl rfl)) (fun _ _ _ _ _ => pts_nil)
            (fun _ _ _ _ _ => pe_tup (pa_cons (pe_ix (show IxR _ (rIxT K) from ix_tup) (pe_dget (un2 hr) (show PE _ _ (tFld K (tVar 0) "nexts") from pe_fld (pv 0) rfl) (pv 9) (fun _ _ => rfl)) (pv 5) (fun _ _ => rfl)) (pa_cons (pe_ix (show IxR _ (rIxT K) from ix_tup) (pe_dget (un2 hr) (show PE _ _ (tFld K (tVar 1) "nexts") from pe_fld (pv 1) rfl) (pv 9) (fun _ _ => rfl)) (pv 6) (fun _ _ => rfl)) pa_nil))))
        (pss_cons (ps_for PassesOwn.never rfl (pi_list (pe_op op_cat (pv 7) (pe_lst (pa_cons (pe_tup (pa_cons (pe_ix ix_tup (pe_fld (pv 0) rfl) (pv 5) (fun _ _ => rfl)) (pa_cons (pe_ix ix_tup (pe_fld (pv 1) rfl) (pv 6) (fun _ _ => rfl)) pa_nil))) pa_nil)))) (pg_name (i := 8) scPf.nd rfl (.inl rfl))
            (pss_one (ps_if (pt_cmpR (op_notInD (un65 hr)) (pv 8) (pv 3) (by rfl)) (pss_one (ps_expr (pe_bm PySem.F.plainAttrs_list PySem.F.slot_list_append PySem.F.type_list_append mt_append (pv 3) (pa_cons (pv 8) pa_nil)))) pss_nil)))
        (pss_one (ps_aug (i := 4) scPf.nd rfl (.inl rfl) pe_int ip_add))))))
      (pss_one (ps_ret (pv 3))))), ?_⟩
    obtain ⟨dx, dN, dX, dA, tX, tA, tY, xs, xas, h0, hX, hx0, hA, ha, hTX, hTA, hTY⟩ := id TA
    obtain ⟨l2, l3, l4, l5, l6⟩ := tf_look dN dX dA tX tA tY
    obtain ⟨ex, eN, eX, eA, uX, uA, uY, ys, yas, g0, gX, gx, gA, ga, gTX, gTA, gTY⟩ := id TB
    obtain ⟨m2, m3, m4, m5, m6⟩ := tf_look eN eX eA uX uA uY
    have n6 : A.n ≤ 6 := OA.sts.few
    have m6' : B.n ≤ 6 := OB.sts.few
    have nm36 : A.n * B.n ≤ 36 := Nat.mul_le_mul n6 m6'
    have sg26 : A.sg.length ≤ 4 := OA.sgs.few
    refine ⟨by show 2 ≤ sizeLine; decide, fun p1 hp1 => ⟨by show 1 ≤ sizeLine; decide, fun q hq => ?_⟩⟩
    have z1 := Same.put (o := .tup [V.int 0, .int 0]) (Same.refl H) hp1
    have z2 := Same.put (o := .lst [V.ref p1]) z1 hq
    have q0 : H q = none := none_of_same z1 hq
    have e1 : (L2.upd (L2.upd H p1 (.tup [V.int 0, .int 0])) q (.lst [V.ref p1])) p1 = some (.tup (prV (0, 0))) := (upd_ne (ne_of_none upd_same hq)).trans upd_same
    have e2 : (L2.upd (L2.upd H p1 (.tup [V.int 0, .int 0])) q (.lst [V.ref p1])) q = some (.lst ([p1].map V.ref)) := upd_same
    generalize L2.upd (L2.upd H p1 (.tup [V.int 0, .int 0])) q (.lst [V.ref p1]) = H1 at z2 e1 e2 ⊢
    refine ⟨fun m σ H' => ∃ (kk : Nat) (ps : List (Nat × Nat)) (as : List Addr) (o5 o6 o7 o8 : Option V), m = 37 - kk ∧ σ = [some (.ref a), some (.ref b), some (.str (S A.sg)), some (.ref q), some (.int (kk : Nat)), o5, o6, o7, o8, none] ∧ kk ≤ ps.length ∧ ps = fndP A B kk ∧ Fnd A B ps kk ∧ H' q = some (.lst (as.map V.ref)) ∧ Tups H' as (ps.map prV) ∧ Same H H',
      ⟨_, 0, [(0, 0)], [p1], none, none, none, none, rfl, rfl, Nat.zero_le _, rfl, ⟨rfl, by simp, fun x hx => by rw [List.mem_singleton.mp hx]; exact .z, fun i x hi => absurd hi (Nat.not_lt_zero _), fun i x hi => absurd hi (Nat.not_lt_zero _)⟩, e2, ⟨e1, trivial⟩, z2⟩, ?_⟩
    rintro m σ H2 ⟨kk, ps, as, o5, o6, o7, o8, rfl, rfl, hk, ord, FN, hq2, hT2, s2⟩
    have las : as.length = ps.length := by rw [hT2.length, List.length_map]
    have few : ps.length ≤ 36 := Nat.le_trans (pairs_few FN.nd fun x hx => (FN.rch x hx).lt OA OB eg) nm36
    refine ⟨_, rfl, _, rfl, q, _, rfl, .inl (SqL.of hq2), _, _, rfl, rfl, ?_⟩
    by_cases hlt : kk < ps.length
    case neg =>
      refine ⟨_, rfl, ifn (by rw [List.length_map, las]; omega) ?_⟩
      have all : ∀ (x : Nat × Nat), x ∈ ps → ∃ i, i < kk ∧ ps[i]? = some x := fun x hx => by
        obtain ⟨i, hi, e⟩ := List.getElem_of_mem hx
        exact ⟨i, by omega, by rw [List.getElem?_eq_getElem hi, e]⟩
      have eps : allF A B = ps := by
        unfold allF
        rw [ord]
        exact fndP_all (k := kk) (by rw [← ord]; omega) (by omega)
      have AP : AllP A B (allF A B) := by
        rw [eps]
        exact ⟨FN.pos, FN.nd, fun x hx => (FN.rch x hx).lt OA OB eg, fun x hx c hc => let ⟨i, hi, e⟩ := all x hx; FN.nx i x hi e c hc, fun x hx => let ⟨i, hi, e⟩ := all x hx; FN.tn i x hi e⟩
      exact ⟨_, rfl, k q as H2 q0 s2 AP hq2 (by rw [eps]; exact hT2)⟩
    refine ⟨_, rfl, ifY (by rw [List.length_map, las]; omega) ?_⟩
    refine ⟨fun σ' H' => ∃ m', m' < 37 - kk ∧ _, fun _ _ z => z, ?_⟩
    obtain ⟨x, hx⟩ : ∃ x, ps[kk]? = some x := ⟨_, List.getElem?_eq_getElem hlt⟩
    obtain ⟨a0, ha0⟩ : ∃ a0, as[kk]? = some a0 := ⟨_, List.getElem?_eq_getElem (by omega)⟩
    have rx : Rch A B x := FN.rch x (List.mem_of_getElem? hx)
    obtain ⟨x1, x2⟩ := rx.lt OA OB eg
    have hv : H2 a0 = some (.tup (prV x)) := hT2.get ha0 (map_get hx)
    refine ⟨_, rfl, _, rfl, q, _, _, _, rfl, rfl, SqL.of hq2, atI_nat (map_get ha0), ?_⟩
    refine ⟨a0, _, rfl, SqT.of hv, rfl, _, _, rfl, _, _, rfl, rfl, ?_⟩
    refine ⟨_, rfl, _, rfl, fun D hD => lc_it walk_str (fun j H3 => ∃ cs : List Addr, H3 D = some (.lst (cs.map V.ref)) ∧ Tups H3 cs (((A.sg.take j).map fun c => (A.nx x.1 c, B.nx x.2 c)).map prV) ∧ Same H2 H3) ⟨[], upd_same, trivial, Same.put (Same.refl H2) hD⟩ (fun _ _ _ _ => trivial) ?_ ?_⟩
    · rintro j y H3 H3' hj ⟨cs, c1, c2, c3⟩ ⟨rfl, c, hc, rfl⟩
      have hc' : A.sg[j]? = some c := k_in_S hc
      have cm : c ∈ A.sg := List.mem_of_getElem? hc'
      rw [S_size] at hj
      have s3 := s2.trans c3
      obtain ⟨a2, v2, p2⟩ := sign_row OA.sgs.nd cm (g := fun i c => V.int (A.nx i c : Nat)) hx0
      obtain ⟨b2, w2, r2⟩ := sign_row OB.sgs.nd (eg.symm ▸ cm) (g := fun i c => V.int (B.nx i c : Nat)) gx
      have lc : cs.length = j := by rw [c2.length, List.length_map, List.length_map, List.length_take]; omega
      refine ⟨rfl, _, rfl, a, C, dx, _, _, rfl, s3 _ _ h0, T.cl, T.n2, l2, _, rfl, dX, .ref a2, rfl, v2 ▸ DGet.k (k := kS c) (s3 _ _ hX), _, rfl, a2, _, _, _, rfl, rfl, SqT.of (s3 _ _ p2), atI_nat (at_range x1), ?_⟩
      refine ⟨_, rfl, b, C, ex, _, _, rfl, s3 _ _ g0, T.cl, T.n2, m2, _, rfl, eX, .ref b2, rfl, w2 ▸ DGet.k (k := kS c) (s3 _ _ gX), _, rfl, b2, _, _, _, rfl, rfl, SqT.of (s3 _ _ r2), atI_nat (at_range x2), ?_⟩
      refine ⟨by show 2 ≤ sizeLine; decide, fun u hu => ?_⟩
      have s4 := Same.put (o := .tup [V.int (A.nx x.1 c : Nat), .int (B.nx x.2 c : Nat)]) (Same.refl H3') hu
      refine ⟨_, s4 _ _ c1, by rw [List.length_map, lc, sizeLine_eq]; omega, cs ++ [u], ?_, ?_, Same.new' (c3.trans s4) hD⟩
      · rw [upd_same, List.map_append] <;> rfl
      · rw [take_more hc', List.map_append, List.map_append]
        exact Tups.but (fun x => by intro q; cases q) (s4 _ _ c1) (But.here (But.refl D _)) (Tups.snoc upd_same (c2.same s4))
    rintro H3 ⟨cs, c1, c2, c3⟩
    rw [S_size, List.take_length] at c2
    have lcs : cs.length = A.sg.length := by rw [c2.length, List.length_map, List.length_map]
    have s3 := s2.trans c3
    refine ⟨_, rfl, ?_⟩
    refine ⟨_, rfl, a, C, dx, _, _, rfl, s3 _ _ h0, T.cl, T.n4, l4, _, rfl, tX, _, _, _, rfl, rfl, SqT.of (s3 _ _ hTX), atI_nat (at_range x1), ?_⟩
    refine ⟨_, rfl, b, C, ex, _, _, rfl, s3 _ _ g0, T.cl, T.n4, m4, _, rfl, uX, _, _, _, rfl, rfl, SqT.of (s3 _ _ gTX), atI_nat (at_range x2), ?_⟩
    refine ⟨by show 2 ≤ sizeLine; decide, fun u hu => ⟨by show 1 ≤ sizeLine; decide, fun v hv' => ?_⟩⟩
    have s4 := Same.put (o := .tup [V.int (A.tn x.1 : Nat), .int (B.tn x.2 : Nat)]) (Same.refl H3) hu
    have u4 : (L2.upd H3 u (.tup [V.int (A.tn x.1 : Nat), .int (B.tn x.2 : Nat)])) u = some (.tup (prV (A.tn x.1, B.tn x.2))) := upd_same
    generalize L2.upd H3 u (.tup [V.int (A.tn x.1 : Nat), .int (B.tn x.2 : Nat)]) = H4 at s4 u4 hv' ⊢
    have s5 := Same.put (o := .lst [V.ref u]) (Same.refl H4) hv'
    have v5 : (L2.upd H4 v (.lst [V.ref u])) v = some (.lst [V.ref u]) := upd_same
    generalize L2.upd H4 v (.lst [V.ref u]) = H5 at s5 v5 ⊢
    refine ⟨D, v, cs.map V.ref, [V.ref u], rfl, rfl, (s4.trans s5) _ _ c1, v5, by rw [List.length_map, lcs, sizeLine_eq]; show _ + 1 ≤ _; omega, fun p hp => ?_⟩
    have s6 := Same.put (o := .lst (cs.map V.ref ++ [V.ref u])) (Same.refl H5) hp
    have hp6 : (L2.upd H5 p (.lst (cs.map V.ref ++ [V.ref u]))) p = some (.lst ((cs ++ [u]).map V.ref)) := by rw [upd_same, List.map_append] <;> rfl
    have s36 := (s4.trans s5).trans s6
    have ho6 : Tups (L2.upd H5 p (.lst (cs.map V.ref ++ [V.ref u]))) (cs ++ [u]) ((onw A B x).map prV) := by
      unfold onw
      rw [List.map_append]
      exact Tups.snoc (s6 _ _ (s5 _ _ u4)) (c2.same s36)
    have hq5 : H5 q = some (.lst (as.map V.ref)) := (s4.trans s5) _ _ (c3 _ _ hq2)
    have nqp : q ≠ p := ne_of_none hq5 hp
    have hq6 := s6 _ _ hq5
    have hT6 := hT2.same (c3.trans s36)
    have s06 : Same H (L2.upd H5 p (.lst (cs.map V.ref ++ [V.ref u]))) := s2.trans (c3.trans s36)
    generalize L2.upd H5 p (.lst (cs.map V.ref ++ [V.ref u])) = H6 at hp6 ho6 hq6 hT6 s06 ⊢
    have lon : (onw A B x).length = A.sg.length + 1 := by
      unfold onw
      rw [List.length_append, List.length_map] <;> rfl
    have lcu : (cs ++ [u]).length = (onw A B x).length := by rw [ho6.length, List.length_map]
    refine ⟨p, rfl, ⟨_, SqL.of hp6⟩, for_it (walk_list (xs := (cs ++ [u]).map V.ref)) (fun j σ H' => ∃ (ps' : List (Nat × Nat)) (as' : List Addr) (o8 : Option V), σ = [some (.ref a), some (.ref b), some (.str (S A.sg)), some (.ref q), some (.int (kk : Nat)), some (.int (x.1 : Nat)), some (.int (x.2 : Nat)), some (.ref D), o8, none] ∧ Fnd A B ps' kk ∧ ps' = addsP ps ((onw A B x).take j) ∧ ps'[kk]? = some x ∧ (∀ y ∈ (onw A B x).take j, y ∈ ps') ∧ H' q = some (.lst (as'.map V.ref)) ∧ Tups H' as' (ps'.map prV) ∧ But q H6 H')
      ⟨ps, as, o8, rfl, FN, rfl, hx, fun y hy => absurd hy List.not_mem_nil, hq6, hT6, But.refl q H6⟩ (fun _ _ _ _ h => by obtain ⟨_, _, _, _, _, _, _, _, _, _, h⟩ := h; exact SqL.of (h _ _ nqp.symm hp6)) ?_ ?_⟩
    · rintro j y σ H7 H7' hj ⟨ps', as', o8', rfl, FN', or', hx', tk, hq7, hT7, b7⟩ ⟨rfl, hy⟩
      rw [List.length_map] at hj
      rw [List.getElem?_map] at hy
      obtain ⟨ay, hay, rfl⟩ := Option.map_eq_some_iff.mp hy
      obtain ⟨y, hy'⟩ : ∃ y, (onw A B x)[j]? = some y := ⟨_, List.getElem?_eq_getElem (by omega)⟩
      have hv6 : H6 ay = some (.tup (prV y)) := ho6.get hay (map_get hy')
      have nay : ay ≠ q := ne_of hv6 hq6 (by intro z; cases z)
      have hv7 := b7 _ _ nay hv6
      have kl : kk < ps'.length := (List.getElem?_eq_some_iff.mp hx').1
      have few' : ps'.length ≤ 36 := Nat.le_trans (pairs_few FN'.nd fun x hx => (FN'.rch x hx).lt OA OB eg) nm36
      have la' : as'.length = ps'.length := by rw [hT7.length, List.length_map]
      refine ⟨_, rfl, _, rfl, prP y, ps'.map prP, dp_pr hv7, .lst (SqL.of hq7) (dp_prs hT7), shaped_pr y, shaped_prs ps', _, rfl, ?_⟩
      rw [any_pr]
      by_cases hm : y ∈ ps'
      · rw [decide_eq_true hm]
        refine ⟨ps', as', some (.ref ay), rfl, FN', by rw [take_more hy', addsP_snoc, ← or', addP_in hm], hx', fun z hz => ?_, hq7, hT7, b7⟩
        rw [take_more hy'] at hz
        rcases List.mem_append.mp hz with hz | hz
        · exact tk z hz
        · rw [List.mem_singleton.mp hz]
          exact hm
      · rw [decide_eq_false hm]
        refine ⟨_, rfl, .inl ⟨rfl, _, SqL.of hq7⟩, _, rfl, q, _, _, rfl, rfl, hq7, by rw [List.length_map, la', sizeLine_eq]; omega, ps' ++ [y], as' ++ [ay], some (.ref ay), rfl, FN'.snoc (by omega) hm (onw_rch rx (List.mem_of_getElem? hy')), by rw [take_more hy', addsP_snoc, ← or', addP_out hm], by rw [List.getElem?_append_left kl]; exact hx', fun z hz => ?_, ?_, ?_, But.here b7⟩
        · rw [take_more hy'] at hz
          rcases List.mem_append.mp hz with hz | hz
          · exact List.mem_append_left _ (tk z hz)
          · rw [List.mem_singleton.mp hz]
            exact List.mem_append_right _ (List.mem_singleton.mpr rfl)
        · rw [upd_same, List.map_append] <;> rfl
        · rw [List.map_append]
          have bq : But q H7' (L2.upd H7' q (.lst (as'.map V.ref ++ [V.ref ay]))) := But.here (But.refl q H7')
          exact Tups.snoc (bq _ _ nay hv7) (hT7.but (fun x => by intro z; cases z) hq7 bq)
    · rintro σ H7 ⟨ps', as', o8', rfl, FN', or', hx', tk, hq7, hT7, b7⟩
      rw [List.length_map, lcu, List.take_length] at tk or'
      have s07 : Same H H7 := fun c o hc => b7 c o (ne_of_none hc q0) (s06 c o hc)
      exact ⟨_, rfl, _, _, rfl, rfl, 37 - (kk + 1), by omega, kk + 1, ps', as', _, _, _, _, rfl, rfl, (List.getElem?_eq_some_iff.mp hx').1, by rw [or', ord]; exact (fndP_at (by rw [← ord]; exact hx)).symm, FN'.next hx' tk, hq7, hT7, s07⟩
end
end Wb
/-! the law's own sum of two models while it is made: what its dicts tell -/
namespace Wb
open PySem L2 WbMin WbS Lz
section
variable (A B : LD) (f : Int) (ps : List (Nat × Nat)) (H : Hp)
def Ent2 (kvs : List (List Key × V)) (i : Nat) (x : Nat × Nat) (c : Nat) : Prop := ∃ (t : Addr) (j : Nat), valV kvs (kk (sNm i, S [c])) = some (.ref t) ∧ H t = some (.tup [.str (sNm j), .int (A.am x.1 c + f * B.am x.2 c)]) ∧ ps[j]? = some (A.nx x.1 c, B.nx x.2 c)
def Ent1 (ws : List (Key × V)) (i : Nat) (x : Nat × Nat) : Prop := ∃ (t : Addr) (j : Nat), valV ws (k1 (sNm i)) = some (.ref t) ∧ H t = some (.tup [.str (sNm j), .int (A.ta x.1 + f * B.ta x.2)]) ∧ ps[j]? = some (A.tn x.1, B.tn x.2)
end
section
variable {A B : LD} {f : Int} {ps : List (Nat × Nat)} {H H' : Hp} {kvs : List (List Key × V)} {ws : List (Key × V)} {i c : Nat} {x : Nat × Nat}
theorem at_app {l r : List (Nat × Nat)} {j : Nat} {y : Nat × Nat} (h : l[j]? = some y) : (l ++ r)[j]? = some y := by
  rw [List.getElem?_append_left (List.getElem?_eq_some_iff.mp h).1]
  exact h
theorem Ent2.tk (s : Tk H H') : Ent2 A B f ps H kvs i x c → Ent2 A B f ps H' kvs i x c := fun ⟨t, j, a, b, d⟩ => ⟨t, j, a, s _ _ b, d⟩
theorem Ent1.tk (s : Tk H H') : Ent1 A B f ps H ws i x → Ent1 A B f ps H' ws i x := fun ⟨t, j, a, b, d⟩ => ⟨t, j, a, s _ _ b, d⟩
theorem Ent2.app (r : List (Nat × Nat)) : Ent2 A B f ps H kvs i x c → Ent2 A B f (ps ++ r) H kvs i x c := fun ⟨t, j, a, b, d⟩ => ⟨t, j, a, b, at_app d⟩
theorem Ent1.app (r : List (Nat × Nat)) : Ent1 A B f ps H ws i x → Ent1 A B f (ps ++ r) H ws i x := fun ⟨t, j, a, b, d⟩ => ⟨t, j, a, b, at_app d⟩
end
/-- what stands while the sum is made: the pairs before the k-th are done, of the k-th so many signs -/
structure PStM (A B : LD) (f : Int) (F Sd Ed : Addr) (H0 H : Hp) (ps : List (Nat × Nat)) (as : List Addr) (k dn l : Nat) : Prop where
  fnd : Fnd A B ps k
  hF : H F = some (.lst (as.map V.ref))
  hT : Tups H as ((ps.map (nmP A B)).map pV)
  dS : ∃ kvs : List (List Key × V), H Sd = some (.dT kvs) ∧ kvs.length ≤ l ∧ ∀ (i m : Nat) (x : Nat × Nat) (c : Nat), ps[i]? = some x → A.sg[m]? = some c → (i < k ∨ i = k ∧ m < dn) → Ent2 A B f ps H kvs i x c
  dE : ∃ ws : List (Key × V), H Ed = some (.dK ws) ∧ ws.length ≤ l ∧ ∀ (i : Nat) (x : Nat × Nat), ps[i]? = some x → (i < k ∨ i = k ∧ A.sg.length < dn) → Ent1 A B f ps H ws i x
  sm : Same H0 H
  nF : H0 F = none
  nS : H0 Sd = none
  nE : H0 Ed = none
section
variable {A B : LD} {f : Int} {F Sd Ed : Addr} {H0 H : Hp} {ps : List (Nat × Nat)} {as : List Addr} {k dn l : Nat}
theorem PStM.same {H' : Hp} (q : PStM A B f F Sd Ed H0 H ps as k dn l) (s : Same H H') : PStM A B f F Sd Ed H0 H' ps as k dn l :=
  ⟨q.fnd, s _ _ q.hF, q.hT.same s, q.dS.imp fun _ h => ⟨s _ _ h.1, h.2.1, fun i m x c a b d => (h.2.2 i m x c a b d).tk (Tk.of s)⟩, q.dE.imp fun _ h => ⟨s _ _ h.1, h.2.1, fun i x a d => (h.2.2 i x a d).tk (Tk.of s)⟩, q.sm.trans s, q.nF, q.nS, q.nE⟩
theorem PStM.len (q : PStM A B f F Sd Ed H0 H ps as k dn l) : as.length = ps.length := by rw [q.hT.length, List.length_map, List.length_map]
theorem PStM.inb (q : PStM A B f F Sd Ed H0 H ps as k dn l) (OA : A.Ok) (OB : B.Ok) (eg : B.sg = A.sg) : ∀ x ∈ ps, InB A B x := fun x hx => (q.fnd.rch x hx).lt OA OB eg
theorem PStM.app (q : PStM A B f F Sd Ed H0 H ps as k dn l) (hk : k < ps.length) {y : Nat × Nat} (n : y ∉ ps) (r : Rch A B y) {g : Addr} (hg : H g = some (.tup (pV (nmP A B y)))) : PStM A B f F Sd Ed H0 (L2.upd H F (.lst (as.map V.ref ++ [V.ref g]))) (ps ++ [y]) (as ++ [g]) k dn l ∧ Tk H (L2.upd H F (.lst (as.map V.ref ++ [V.ref g]))) := by
  have b : But F H (L2.upd H F (.lst (as.map V.ref ++ [V.ref g]))) := But.here (But.refl F H)
  have tk : Tk H (L2.upd H F (.lst (as.map V.ref ++ [V.ref g]))) := Tk.upd q.hF fun x z => by cases z
  obtain ⟨kvs, hS, lS, eS⟩ := q.dS
  obtain ⟨ws, hE, lE, eE⟩ := q.dE
  have old : ∀ {i : Nat} {x : Nat × Nat}, (ps ++ [y])[i]? = some x → i ≤ k → ps[i]? = some x := fun h le => by
    rw [List.getElem?_append_left (by omega)] at h
    exact h
  refine ⟨⟨q.fnd.snoc (by omega) n r, ?_, ?_, ⟨kvs, b _ _ (ne_of hS q.hF (by intro z; cases z)) hS, lS, fun i m x c h1 h2 h3 => ((eS i m x c (old h1 (by omega)) h2 h3).tk tk).app _⟩, ⟨ws, b _ _ (ne_of hE q.hF (by intro z; cases z)) hE, lE, fun i x h1 h3 => ((eE i x (old h1 (by omega)) h3).tk tk).app _⟩, fun c o hc => b _ _ (ne_of_none hc q.nF) (q.sm _ _ hc), q.nF, q.nS, q.nE⟩, tk⟩
  · rw [upd_same, List.map_append] <;> rfl
  · rw [List.map_append, List.map_append]
    exact Tups.snoc (b _ _ (ne_of hg q.hF (by intro z; cases z)) hg) (q.hT.but (fun x => by intro z; cases z) q.hF b)
theorem PStM.putS (q : PStM A B f F Sd Ed H0 H ps as k dn l) {x : Nat × Nat} {c j : Nat} {t u : Addr} (hx : ps[k]? = some x) (hc : A.sg[dn]? = some c) (hu : H u = some (.tup [V.str (sNm k), .str (S [c])])) (ht : H t = some (.tup [.str (sNm j), .int (A.am x.1 c + f * B.am x.2 c)])) (hj : ps[j]? = some (A.nx x.1 c, B.nx x.2 c)) (few : l < 1000) :
    ∃ H', DPut H Sd (.ref u) (.ref t) H' ∧ PStM A B f F Sd Ed H0 H' ps as k (dn + 1) (l + 1) ∧ Tk H H' ∧ But Sd H H' := by
  obtain ⟨kvs, hS, lS, eS⟩ := q.dS
  obtain ⟨ws, hE, lE, eE⟩ := q.dE
  have b : But Sd H (L2.upd H Sd (.dT (putK kvs (kk (sNm k, S [c])) (.ref t)))) := But.here (But.refl Sd H)
  have tk : Tk H (L2.upd H Sd (.dT (putK kvs (kk (sNm k, S [c])) (.ref t)))) := Tk.upd hS (fun x z => by cases z)
  have ld : dn < A.sg.length := (List.getElem?_eq_some_iff.mp hc).1
  refine ⟨_, DPut.t (k := kk (sNm k, S [c])) hS hu (by rw [sizeLine_eq]; omega), ⟨q.fnd, b _ _ (ne_of q.hF hS (by intro z; cases z)) q.hF, q.hT.but (fun x => by intro z; cases z) hS b, ⟨_, upd_same, ?_, fun i m y d h1 h2 h3 => ?_⟩, ⟨ws, b _ _ (ne_of hE hS (by intro z; cases z)) hE, by omega, fun i y h1 h3 => (eE i y h1 (by omega)).tk tk⟩, fun c o hc => b _ _ (ne_of_none hc q.nS) (q.sm _ _ hc), q.nF, q.nS, q.nE⟩, tk, b⟩
  · have := length_putK kvs (kk (sNm k, S [c])) (.ref t)
    omega
  · by_cases e : kk (sNm i, S [d]) = kk (sNm k, S [c])
    · obtain ⟨e1, e2⟩ := kk_eq e
      have e1 := sNm_inj e1
      subst e1 e2
      rw [hx] at h1
      cases h1
      exact ⟨t, j, by rw [valV_put, if_pos rfl], tk _ _ ht, hj⟩
    · have h4 : i < k ∨ i = k ∧ m < dn := by
        rcases h3 with h3 | ⟨h3, h5⟩
        · exact .inl h3
        · refine .inr ⟨h3, ?_⟩
          by_cases z : m = dn
          · subst z h3
            rw [hc] at h2
            cases h2
            exact absurd rfl e
          · omega
      obtain ⟨t', j', a1, a2, a3⟩ := eS i m y d h1 h2 h4
      exact ⟨t', j', by rw [valV_put, if_neg e]; exact a1, tk _ _ a2, a3⟩
theorem PStM.putE (q : PStM A B f F Sd Ed H0 H ps as k dn l) {x : Nat × Nat} {j : Nat} {t : Addr} (hx : ps[k]? = some x) (hd : dn = A.sg.length) (ht : H t = some (.tup [.str (sNm j), .int (A.ta x.1 + f * B.ta x.2)])) (hj : ps[j]? = some (A.tn x.1, B.tn x.2)) (few : l < 1000) :
    ∃ H', DPut H Ed (.str (sNm k)) (.ref t) H' ∧ PStM A B f F Sd Ed H0 H' ps as k (dn + 1) (l + 1) ∧ Tk H H' ∧ But Ed H H' := by
  obtain ⟨kvs, hS, lS, eS⟩ := q.dS
  obtain ⟨ws, hE, lE, eE⟩ := q.dE
  have b : But Ed H (L2.upd H Ed (.dK (putK ws (k1 (sNm k)) (.ref t)))) := But.here (But.refl Ed H)
  have tk : Tk H (L2.upd H Ed (.dK (putK ws (k1 (sNm k)) (.ref t)))) := Tk.upd hE (fun x z => by cases z)
  refine ⟨_, DPut.k (k := k1 (sNm k)) hE (by rw [sizeLine_eq]; omega), ⟨q.fnd, b _ _ (ne_of q.hF hE (by intro z; cases z)) q.hF, q.hT.but (fun x => by intro z; cases z) hE b, ⟨kvs, b _ _ (ne_of hS hE (by intro z; cases z)) hS, by omega, fun i m y d h1 h2 h3 => (eS i m y d h1 h2 ?_).tk tk⟩, ⟨_, upd_same, ?_, fun i y h1 h3 => ?_⟩, fun c o hc => b _ _ (ne_of_none hc q.nE) (q.sm _ _ hc), q.nF, q.nS, q.nE⟩, tk, b⟩
  · have := (List.getElem?_eq_some_iff.mp h2).1
    omega
  · have := length_putK ws (k1 (sNm k)) (.ref t)
    omega
  · by_cases e : k1 (sNm i) = k1 (sNm k)
    · have e1 := sNm_inj (k1_inj e)
      subst e1
      rw [hx] at h1
      cases h1
      exact ⟨t, j, by rw [valV_put, if_pos rfl], tk _ _ ht, hj⟩
    · have h4 : i < k := by
        rcases h3 with h3 | ⟨h3, h5⟩
        · exact h3
        · subst h3
          exact absurd rfl e
      obtain ⟨t', j', a1, a2, a3⟩ := eE i y h1 (.inl h4)
      exact ⟨t', j', by rw [valV_put, if_neg e]; exact a1, tk _ _ a2, a3⟩
theorem PStM.low (q : PStM A B f F Sd Ed H0 H ps as k dn l) {l' : Nat} (h : l ≤ l') : PStM A B f F Sd Ed H0 H ps as k dn l' :=
  ⟨q.fnd, q.hF, q.hT, q.dS.imp fun _ z => ⟨z.1, Nat.le_trans z.2.1 h, z.2.2⟩, q.dE.imp fun _ z => ⟨z.1, Nat.le_trans z.2.1 h, z.2.2⟩, q.sm, q.nF, q.nS, q.nE⟩
/-- the next pair -/
theorem PStM.up (q : PStM A B f F Sd Ed H0 H ps as k dn l) (fd : Fnd A B ps (k + 1)) (hd : A.sg.length < dn) : PStM A B f F Sd Ed H0 H ps as (k + 1) 0 l :=
  ⟨fd, q.hF, q.hT, q.dS.imp fun _ z => ⟨z.1, z.2.1, fun i m x c h1 h2 h3 => z.2.2 i m x c h1 h2 (by have := (List.getElem?_eq_some_iff.mp h2).1; omega)⟩, q.dE.imp fun _ z => ⟨z.1, z.2.1, fun i x h1 h3 => z.2.2 i x h1 (by omega)⟩, q.sm, q.nF, q.nS, q.nE⟩
/-- no pair more -/
theorem PStM.over (q : PStM A B f F Sd Ed H0 H ps as k 0 l) (le : ps.length ≤ k) : PStM A B f F Sd Ed H0 H ps as (k + 1) 0 l :=
  ⟨q.fnd.over le, q.hF, q.hT, q.dS.imp fun _ z => ⟨z.1, z.2.1, fun i m x c h1 h2 h3 => z.2.2 i m x c h1 h2 (by have := (List.getElem?_eq_some_iff.mp h1).1; omega)⟩, q.dE.imp fun _ z => ⟨z.1, z.2.1, fun i x h1 h3 => z.2.2 i x h1 (by have := (List.getElem?_eq_some_iff.mp h1).1; omega)⟩, q.sm, q.nF, q.nS, q.nE⟩
end
/-- an entry of what is to be gone through -/
def GngM (A B : LD) (H : Hp) (u : Addr) (y : Nat × Nat) (z : Str) (m1 m2 : Int) : Prop := ∃ (t1 t2 : Addr), H u = some (.tup [.str z, .ref t1, .ref t2]) ∧ H t1 = some (.tup [.str (A.nm y.1), .int m1]) ∧ H t2 = some (.tup [.str (B.nm y.2), .int m2])
theorem GngM.tk {A B : LD} {H H' : Hp} {u : Addr} {y : Nat × Nat} {z : Str} {m1 m2 : Int} (s : Tk H H') : GngM A B H u y z m1 m2 → GngM A B H' u y z m1 m2 := fun ⟨t1, t2, a, b, c⟩ => ⟨t1, t2, s _ _ a, s _ _ b, s _ _ c⟩
end Wb
/-! sum_row of up to nine pairs -/
namespace Wb
open PySem L2 WbMin WbS Lz
def spSumRowA (T : Addr) : Sp := fun vs H Q _ => ∃ (a b : Addr) (A B : LD) (f : Int), vs = [.ref a, .ref b, .str (S A.sg), .int f] ∧ A.Ok ∧ B.Ok ∧ B.sg = A.sg ∧ -(2 ^ 64) < f ∧ f < 2 ^ 64 ∧ TableAt T H a A ∧ TableAt T H b B ∧ (allF A B).length ≤ 9 ∧
  ∀ (q : Addr) (H' : Hp), AllP A B (allF A B) → H q = none → Same H H' → RowAt H' q (A.sum B f (allF A B)) → Q (.ref q) H'
section
variable {P : Program} {w : World} {K : PySem.W.Frag} {mg : Str → Option Value} {base : Heap} {f C : Addr} {fd : FuncData} {S2 : SmA}
set_option maxHeartbeats 0 in
theorem ok_sumrowA (F : Fun K "sum_row" "sum_row" sSumRow f fd) (SF : SmF K mg S2) (T : TTxt K mg C) (Z : Free mg) (mT : mg "tuple" = none) (mZ : mg "zip" = none) : FnOk P w K mg base CX0 2 f fd ["one", "other", "signs", "factor"] (spSumRowA C) := by
  have GP : FnOk P w K mg base CX0 1 S2.fpf S2.dpf ["one", "other", "signs"] (spPairsA C) := ok_pairsA SF.pf.F T Z
  have GY : FnOk P w K mg base CX0 1 S2.fiy S2.diy ["one_says", "other_says", "factor"] spIsYes := ok_isyes SF.iy.F
  refine F.ok scSr (fun vs H Q E h => ?_) (fun cdv A' outer s H vs Q E hr h => ?_)
  · obtain ⟨a, b, A, B, k, rfl, _⟩ := h
    rfl
  · obtain ⟨a, b, A, B, kf, rfl, OA, OB, eg, lo, hi0, TA, TB, nine, k⟩ := h
    refine ⟨_, pss_cons (ps_set (i := 4) scSr.nd rfl (.inl rfl) (pe_call GP hr rfl SF.pf.g SF.pf.kp SF.pf.b .nil pass0 (pa_cons (pv 0) (pa_cons (pv 1) (pa_cons (pv 2) pa_nil)))))
      (pss_cons (ps_set (i := 5) scSr.nd rfl (.inl rfl) (pe_callTy call_tuple_of (by rfl) mT (by decide +kernel) (pa_cons
        (pe_lc (own := [("at", 10)]) (g := gName 10) (tt := tYes) rfl scSr.nd (pi_range1 rfl Z.range (pa_cons (pe_callB call_len_seq (by rfl) Z.len PySem.boot_len (pa_cons (pv 4) pa_nil)) pa_nil)) (blkOk_by (N := NSr) (sc := defScope sSumRow) (by decide +kernel)) (fun _ _ _ _ _ => pg_name (i := 10) scSr.nd rfl (.inl rfl)) (fun _ _ _ _ _ => pts_nil)
          (fun _ _ _ _ _ => (show PE _ _ (tSat 10) from pe_joined (.cons pe_str (.cons (pe_fmt (pv 10)) .nil))))) pa_nil)))
      (pss_cons (ps_set (i := 6) scSr.nd rfl (.inr rfl) (pe_dcT (own := [("pair", 11), ("state", 12)]) (g := gTup K 2 (gCons (gName 11) (gCons (gName 12) gNil))) (tt := tYes) rfl (un2 hr) scSr.nd (pi_zipN (by rfl) mZ (pa_cons (pv 4) (pa_cons (pv 5) pa_nil))) (blkOk_by (N := NSr) (sc := defScope sSumRow) (by decide +kernel))
          (fun _ _ _ _ _ => pg_tup (by rfl) (pgs_cons (pg_name (i := 11) scSr.nd rfl (.inl rfl)) (pgs_cons (pg_name (i := 12) scSr.nd rfl (.inl rfl)) pgs_nil))) (fun _ _ _ _ _ => pts_nil)
          (fun _ _ _ _ _ => pv 11) (fun _ _ _ _ _ => pv 12)))
      (pss_cons (ps_setLc2 (i := 7) (own := [("first", 13), ("second", 14), ("sign", 15)]) (vs1 := [15]) (g := gTup K 2 (gCons (gName 13) (gCons (gName 14) gNil))) (g1 := gName 15) (tt := tYes) (tt1 := tYes) rfl scSr.nd rfl rfl (sw_true rfl rfl rfl (by decide +kernel)) (pi_list (pv 4)) (blkOk_by (N := NSr) (sc := defScope sSumRow) (by decide +kernel)) (by decide)
          (fun _ _ _ _ _ => pg_tup (by rfl) (pgs_cons (pg_name (i := 13) scSr.nd rfl (.inl rfl)) (pgs_cons (pg_name (i := 14) scSr.nd rfl (.inl rfl)) pgs_nil))) (fun _ _ _ _ _ => pts_nil)
          (fun _ _ _ _ _ => pi_str (pv 2)) (fun _ _ _ _ _ => pg_name (i := 15) scSr.nd rfl (.inl rfl)) (fun _ _ _ _ _ => pts_nil)
          (fun _ _ _ _ _ => pe_tup (pa_cons (pe_dget (un2 hr) (pv 6) (pe_tup (pa_cons (pv 13) (pa_cons (pv 14) pa_nil))) (fun _ _ => rfl)) (pa_cons (pv 15)
            (pa_cons (pe_dget (un2 hr) (pv 6) (pe_tup (pa_cons (pe_ix (show IxR _ (rIxT K) from ix_tup) (pe_dget (un2 hr) (show PE _ _ (tFld K (tVar 0) "nexts") from pe_fld (pv 0) rfl) (pv 15) (fun _ _ => rfl)) (pv 13) (fun _ _ => rfl))
              (pa_cons (pe_ix (show IxR _ (rIxT K) from ix_tup) (pe_dget (un2 hr) (show PE _ _ (tFld K (tVar 1) "nexts") from pe_fld (pv 1) rfl) (pv 15) (fun _ _ => rfl)) (pv 14) (fun _ _ => rfl)) pa_nil))) (fun _ _ => rfl))
            (pa_cons (pe_op op_add (pe_ix (show IxR _ (rIxT K) from ix_tup) (pe_dget (un2 hr) (show PE _ _ (tFld K (tVar 0) "amounts") from pe_fld (pv 0) rfl) (pv 15) (fun _ _ => rfl)) (pv 13) (fun _ _ => rfl))
              (pe_op op_mul (pv 3) (pe_ix (show IxR _ (rIxT K) from ix_tup) (pe_dget (un2 hr) (show PE _ _ (tFld K (tVar 1) "amounts") from pe_fld (pv 1) rfl) (pv 15) (fun _ _ => rfl)) (pv 14) (fun _ _ => rfl)))) pa_nil))))))
      (pss_cons (ps_setLc (i := 8) (own := [("first", 13), ("second", 14)]) (g := gTup K 2 (gCons (gName 13) (gCons (gName 14) gNil))) (tt := tYes) rfl scSr.nd rfl rfl (sw_true rfl rfl rfl (by decide +kernel)) (pi_list (pv 4)) (blkOk_by (N := NSr) (sc := defScope sSumRow) (by decide +kernel))
          (fun _ _ _ _ _ => pg_tup (by rfl) (pgs_cons (pg_name (i := 13) scSr.nd rfl (.inl rfl)) (pgs_cons (pg_name (i := 14) scSr.nd rfl (.inl rfl)) pgs_nil))) (fun _ _ _ _ _ => pts_nil)
          (fun _ _ _ _ _ => pe_tup (pa_cons (pe_dget (un2 hr) (pv 6) (pe_tup (pa_cons (pv 13) (pa_cons (pv 14) pa_nil))) (fun _ _ => rfl))
            (pa_cons (pe_dget (un2 hr) (pv 6) (pe_tup (pa_cons (pe_ix (show IxR _ (rIxT K) from ix_tup) (show PE _ _ (tFld K (tVar 0) "turn_nexts") from pe_fld (pv 0) rfl) (pv 13) (fun _ _ => rfl))
              (pa_cons (pe_ix (show IxR _ (rIxT K) from ix_tup) (show PE _ _ (tFld K (tVar 1) "turn_nexts") from pe_fld (pv 1) rfl) (pv 14) (fun _ _ => rfl)) pa_nil))) (fun _ _ => rfl))
            (pa_cons (pe_op op_add (pe_ix (show IxR _ (rIxT K) from ix_tup) (show PE _ _ (tFld K (tVar 0) "turn_amounts") from pe_fld (pv 0) rfl) (pv 13) (fun _ _ => rfl))
              (pe_op op_mul (pv 3) (pe_ix (show IxR _ (rIxT K) from ix_tup) (show PE _ _ (tFld K (tVar 1) "turn_amounts") from pe_fld (pv 1) rfl) (pv 14) (fun _ _ => rfl)))) pa_nil)))))
      (pss_cons (ps_setLc (i := 9) (own := [("first", 13), ("second", 14)]) (g := gTup K 2 (gCons (gName 13) (gCons (gName 14) gNil))) rfl scSr.nd rfl rfl (sw_true rfl rfl rfl (by decide +kernel)) (pi_list (pv 4)) (blkOk_by (N := NSr) (sc := defScope sSumRow) (by decide +kernel))
          (fun _ _ _ _ _ => pg_tup (by rfl) (pgs_cons (pg_name (i := 13) scSr.nd rfl (.inl rfl)) (pgs_cons (pg_name (i := 14) scSr.nd rfl (.inl rfl)) pgs_nil)))
          (fun _ _ _ _ _ => pts_one (pt_val (pe_call GY hr rfl SF.iy.g SF.iy.kp SF.iy.b .nil pass0 (pa_cons (pe_ix (show IxR _ (rIxT K) from ix_tup) (show PE _ _ (tFld K (tVar 0) "says") from pe_fld (pv 0) rfl) (pv 13) (fun _ _ => rfl))
            (pa_cons (pe_ix (show IxR _ (rIxT K) from ix_tup) (show PE _ _ (tFld K (tVar 1) "says") from pe_fld (pv 1) rfl) (pv 14) (fun _ _ => rfl)) (pa_cons (pv 3) pa_nil))))))
          (fun _ _ _ _ _ => pe_dget (un2 hr) (pv 6) (pe_tup (pa_cons (pv 13) (pa_cons (pv 14) pa_nil))) (fun _ _ => rfl)))
      (pss_one (ps_ret (pe_tup (pa_cons (pv 2) (pa_cons (pv 5) (pa_cons (pe_callTy call_tuple_of (by rfl) mT (by decide +kernel) (pa_cons (pv 7) pa_nil)) (pa_cons (pe_callTy call_tuple_of (by rfl) mT (by decide +kernel) (pa_cons (pv 8) pa_nil)) (pa_cons (pe_callTy call_tuple_of (by rfl) mT (by decide +kernel) (pa_cons (pv 9) pa_nil)) pa_nil))))))))))))), ?_⟩
    refine ⟨_, rfl, _, rfl, _, rfl, a, b, A, B, rfl, OA, OB, eg, TA, TB, fun q as H1 q0 s1 AP hq hT => ?_⟩
    obtain ⟨ps, eps⟩ : ∃ ps, ps = allF A B := ⟨_, rfl⟩
    rw [← eps] at AP hT k
    have AP' := AP
    obtain ⟨p0, nd, lt, nx, tn⟩ := AP'
    dsimp only [estSr, List.set]
    have few : ps.length ≤ 9 := by
      rw [eps]
      exact nine
    have las : as.length = ps.length := by rw [hT.length, List.length_map]
    have sg4 : A.sg.length ≤ 4 := OA.sgs.few
    obtain ⟨dx, dN, dX, dA, tX, tA, tY, xs, xas, h0, hX, hx0, hA, ha, hTX, hTA, hTY⟩ := TA.same s1
    obtain ⟨l2, l3, l4, l5, l6⟩ := tf_look dN dX dA tX tA tY
    obtain ⟨ex, eN, eX, eA, uX, uA, uY, ys, yas, g0, gX, gx, gA, ga, gTX, gTA, gTY⟩ := TB.same s1
    obtain ⟨m2, m3, m4, m5, m6⟩ := tf_look eN eX eA uX uA uY
    refine ⟨_, rfl, q, _, rfl, .inl (SqL.of hq), _, rfl, by rw [List.length_map]; omega, by rw [List.length_map]; omega, fun D hD => lc_it walk_range (fun i H3 => H3 D = some (.lst (sNms i)) ∧ Same H1 H3) ⟨upd_same, Same.put (Same.refl H1) hD⟩ (fun _ _ _ _ => trivial) ?_ ?_⟩
    · rintro i x H3 H3' hi ⟨c1, c2⟩ ⟨rfl, rfl⟩
      rw [List.length_map] at hi
      have hi : i < ps.length := by omega
      refine ⟨rfl, ?_⟩
      unfold tSat
      refine ⟨_, rfl, by decide +kernel, _, rfl, .inr ⟨_, rfl, ?_, _, rfl, ?_, ?_⟩⟩
      · have : i < 9 := by omega
        rcases i with _ | _ | _ | _ | _ | _ | _ | _ | _ | i
        all_goals first | decide +kernel | omega
      · rw [sNm_txt0 (by omega)]
        show 2 ≤ sizeLine
        decide
      · rw [sNm_txt0 (by omega)]
        refine ⟨_, c1, by rw [sNms_len, sizeLine_eq]; omega, ?_, Same.new' c2 hD⟩
        rw [upd_same]
        unfold sNms
        rw [List.range_succ, List.map_append, List.map_append] <;> rfl
    rintro H2 ⟨c1, c2⟩
    rw [List.length_map, las] at c1
    have s2 := s1.trans c2
    -- the names
    have hD2 : H2 D = some (.lst (sNms ps.length)) := c1
    refine ⟨D, _, rfl, .inl ⟨SqL.of hD2, fun t ht => ?_⟩⟩
    have s3 := Same.put (o := .tup (sNms ps.length)) c2 ht
    have t3 : (L2.upd H2 t (.tup (sNms ps.length))) t = some (.tup (sNms ps.length)) := upd_same
    generalize L2.upd H2 t (.tup (sNms ps.length)) = H3 at s3 t3 ⊢
    dsimp only [List.set]
    have hq3 := s3 _ _ hq
    refine ⟨_, rfl, _, rfl, q, t, _, _, rfl, SqL.of hq3, SqT.of t3, fun N hN => dt_it (walk_zipN (xs := as.map V.ref) (ys := sNms ps.length) (n := ps.length) (by rw [List.length_map, las, sNms_len, Nat.min_self])) (fun i H4 => H4 N = some (.dT (((ps.take i).map kpr).zip ((sNms ps.length).take i))) ∧ Same H3 H4) ⟨upd_same, Same.put (Same.refl H3) hN⟩ (fun _ _ _ h => ⟨SqL.of (h.2 _ _ hq3), SqT.of (h.2 _ _ t3)⟩) ?_ ?_⟩
    · rintro i x H4 H4' hi ⟨d1, d2⟩ ⟨Tz, va, vb, rfl, hTz, rfl, ea, eb⟩
      dsimp only at ea eb
      rw [List.getElem?_map] at ea
      obtain ⟨ax, hax, rfl⟩ := Option.map_eq_some_iff.mp ea
      rw [sNms_at hi] at eb
      cases eb
      obtain ⟨x, hx⟩ : ∃ x, ps[i]? = some x := ⟨_, List.getElem?_eq_getElem hi⟩
      have hv := ((hT.same s3).same d2).get hax (map_get hx)
      have s4 := Same.put (o := .tup [V.ref ax, .str (sNm i)]) (Same.refl H4) hTz
      refine ⟨Tz, _, rfl, SqT.of upd_same, rfl, _, _, rfl, _, _, rfl, rfl, ?_⟩
      refine ⟨rfl, _, rfl, _, rfl, _, kpr x, ax, rfl, s4 _ _ hv, s4 _ _ d1, ?_, ?_, Same.new' (d2.trans s4) hN⟩
      · rw [List.length_zip, List.length_map, List.length_take, List.length_take, sizeLine_eq]
        omega
      · rw [upd_same, putK_zip (not_taken kpr_inj nd hx) (by rw [List.length_map, List.length_take, List.length_take, sNms_len]), take_snoc_map hx, take_more (sNms_at hi)]
    rintro H4 ⟨d1, d2⟩
    rw [List.take_length, List.take_of_length_le (by rw [sNms_len]; exact Nat.le_refl _)] at d1
    dsimp only [List.set]
    have hN := d1
    have s4 := s3.trans d2
    have hq4 := s4 _ _ hq
    have hT4 := hT.same s4
    have at_ : ∀ {i : Nat} {x : Nat × Nat}, ps[i]? = some x → prOf ps i = x ∧ x ∈ ps ∧ x.1 < A.n ∧ x.2 < B.n ∧ i < ps.length := fun h => ⟨pr_at h, List.mem_of_getElem? h, (lt _ (List.mem_of_getElem? h)).1, (lt _ (List.mem_of_getElem? h)).2, (List.getElem?_eq_some_iff.mp h).1⟩
    -- the rows
    refine ⟨_, rfl, q, rfl, ⟨_, SqL.of hq4⟩, fun D2 hD2 => it_go (walk_list (xs := as.map V.ref)) (fun i H5 => ∃ cs : List Addr, H5 D2 = some (.lst (cs.map V.ref)) ∧ Tups H5 cs (((List.range i).flatMap fun i => (A.sum B kf ps).sg.map ((A.sum B kf ps).row i)).map Row.v) ∧ cs.length ≤ i * 4 ∧ Same H4 H5) ⟨[], upd_same, trivial, Nat.zero_le _, Same.put (Same.refl H4) hD2⟩ (fun _ _ _ h => by obtain ⟨_, _, _, _, h⟩ := h; exact SqL.of (h _ _ hq4)) ?_ ?_⟩
    · rintro i y H5 H5' hi ⟨cs, e1, e2, e3, e4⟩ ⟨rfl, hy⟩
      rw [List.length_map] at hi
      rw [List.getElem?_map] at hy
      obtain ⟨ax, hax, rfl⟩ := Option.map_eq_some_iff.mp hy
      obtain ⟨x, hx⟩ : ∃ x, ps[i]? = some x := ⟨_, List.getElem?_eq_getElem (by omega)⟩
      obtain ⟨px, mx, x1, x2, li⟩ := at_ hx
      have hv := (hT4.same e4).get hax (map_get hx)
      refine ⟨ax, _, rfl, SqT.of hv, rfl, _, _, rfl, _, _, rfl, rfl, ?_⟩
      refine ⟨rfl, _, rfl, _, rfl, it_go walk_str (fun j H6 => ∃ cs : List Addr, H6 D2 = some (.lst (cs.map V.ref)) ∧ Tups H6 cs ((((List.range i).flatMap fun i => (A.sum B kf ps).sg.map ((A.sum B kf ps).row i)) ++ (A.sg.take j).map ((A.sum B kf ps).row i)).map Row.v) ∧ cs.length ≤ i * 4 + j ∧ Same H4 H6) ⟨cs, e1, by rw [List.take_zero, List.map_nil, List.append_nil]; exact e2, e3, e4⟩ (fun _ _ _ _ => trivial) ?_ ?_⟩
      · rintro j y H6 H6' hj ⟨cs, e1, e2, e3, e4⟩ ⟨rfl, c, hc, rfl⟩
        have hc' : A.sg[j]? = some c := k_in_S hc
        have cm : c ∈ A.sg := List.mem_of_getElem? hc'
        rw [S_size] at hj
        have s6 := s4.trans e4
        obtain ⟨a2, v2, p2⟩ := sign_row OA.sgs.nd cm (g := fun i c => V.int (A.nx i c : Nat)) hx0
        obtain ⟨b2, w2, r2⟩ := sign_row OB.sgs.nd (eg.symm ▸ cm) (g := fun i c => V.int (B.nx i c : Nat)) gx
        obtain ⟨a3, v3, p3⟩ := sign_row OA.sgs.nd cm (g := fun i c => V.int (A.am i c)) ha
        obtain ⟨b3, w3, r3⟩ := sign_row OB.sgs.nd (eg.symm ▸ cm) (g := fun i c => V.int (B.am i c)) ga
        refine ⟨rfl, _, rfl, _, rfl, _, rfl, (by show 2 ≤ sizeLine; decide), fun u hu => ?_⟩
        have s7 := Same.put (o := .tup [V.int (x.1 : Nat), .int (x.2 : Nat)]) (Same.refl H6') hu
        have u7 : (L2.upd H6' u (.tup [V.int (x.1 : Nat), .int (x.2 : Nat)])) u = some (.tup [V.int (x.1 : Nat), .int (x.2 : Nat)]) := upd_same
        generalize L2.upd H6' u (.tup [V.int (x.1 : Nat), .int (x.2 : Nat)]) = H7 at s7 u7 ⊢
        have s67 := s6.trans s7
        refine ⟨N, .str (sNm i), rfl, name_at nd hx ▸ DGet.t (k := kpr x) ((e4.trans s7) _ _ hN) u7, ?_⟩
        refine ⟨_, rfl, _, rfl, _, rfl, a, C, dx, _, _, rfl, s67 _ _ h0, T.cl, T.n2, l2, _, rfl, dX, .ref a2, rfl, v2 ▸ DGet.k (k := kS c) (s67 _ _ hX), _, rfl, a2, _, _, _, rfl, rfl, SqT.of (s67 _ _ p2), atI_nat (at_range x1), ?_⟩
        refine ⟨_, rfl, b, C, ex, _, _, rfl, s67 _ _ g0, T.cl, T.n2, m2, _, rfl, eX, .ref b2, rfl, w2 ▸ DGet.k (k := kS c) (s67 _ _ gX), _, rfl, b2, _, _, _, rfl, rfl, SqT.of (s67 _ _ r2), atI_nat (at_range x2), ?_⟩
        refine ⟨by show 2 ≤ sizeLine; decide, fun u2 hu2 => ?_⟩
        have s8 := Same.put (o := .tup [V.int (A.nx x.1 c : Nat), .int (B.nx x.2 c : Nat)]) (Same.refl H7) hu2
        have u8 : (L2.upd H7 u2 (.tup [V.int (A.nx x.1 c : Nat), .int (B.nx x.2 c : Nat)])) u2 = some (.tup [V.int (A.nx x.1 c : Nat), .int (B.nx x.2 c : Nat)]) := upd_same
        generalize L2.upd H7 u2 (.tup [V.int (A.nx x.1 c : Nat), .int (B.nx x.2 c : Nat)]) = H8 at s8 u8 ⊢
        have s78 := s7.trans s8
        have s68 := s67.trans s8
        have hy := plc_at (nx x mx c cm)
        refine ⟨N, .str (sNm (plc (A.nx x.1 c, B.nx x.2 c) ps)), rfl, name_at nd hy ▸ DGet.t (k := kpr (A.nx x.1 c, B.nx x.2 c)) ((e4.trans s78) _ _ hN) u8, ?_⟩
        refine ⟨_, rfl, a, C, dx, _, _, rfl, s68 _ _ h0, T.cl, T.n3, l3, _, rfl, dA, .ref a3, rfl, v3 ▸ DGet.k (k := kS c) (s68 _ _ hA), _, rfl, a3, _, _, _, rfl, rfl, SqT.of (s68 _ _ p3), atI_nat (at_range x1), ?_⟩
        refine ⟨_, rfl, _, rfl, b, C, ex, _, _, rfl, s68 _ _ g0, T.cl, T.n3, m3, _, rfl, eA, .ref b3, rfl, w3 ▸ DGet.k (k := kS c) (s68 _ _ gA), _, rfl, b3, _, _, _, rfl, rfl, SqT.of (s68 _ _ r3), atI_nat (at_range x2), ?_⟩
        refine ⟨_, _, rfl, rfl, .inl ⟨lo, hi0⟩, _, _, rfl, rfl, ?_⟩
        refine ⟨by show 4 ≤ sizeLine; decide, fun z hz => ?_⟩
        have s9 := Same.put (o := .tup [V.str (sNm i), .str ⟨#[c]⟩, .str (sNm (plc (A.nx x.1 c, B.nx x.2 c) ps)), .int (A.am x.1 c + kf * B.am x.2 c)]) (Same.refl H8) hz
        have s79 := s78.trans s9
        refine ⟨_, s79 _ _ e1, by rw [List.length_map, sizeLine_eq]; omega, cs ++ [z], ?_, ?_, by rw [List.length_append]; show _ + 1 ≤ _; omega, Same.new' (e4.trans s79) hD2⟩
        · rw [upd_same, List.map_append] <;> rfl
        · rw [take_more hc', List.map_append, List.map_append, List.map_append, ← List.append_assoc, ← List.map_append]
          refine Tups.but (fun x => by intro q; cases q) (s79 _ _ e1) (But.here (But.refl D2 _)) (Tups.snoc ?_ (e2.same s79))
          rw [upd_same]
          unfold LD.row Row.v
          rw [sum_nm li, show (A.sum B kf ps).nx i c = plc (A.nx x.1 c, B.nx x.2 c) ps from by show plc (A.nx (prOf ps i).1 c, B.nx (prOf ps i).2 c) ps = _; rw [px], sum_nm (plc_lt (nx x mx c cm)), show (A.sum B kf ps).am i c = A.am x.1 c + kf * B.am x.2 c from by show A.am (prOf ps i).1 c + kf * B.am (prOf ps i).2 c = _; rw [px]]
          rfl
      · rintro H6 ⟨cs, e1, e2, e3, e4⟩
        rw [S_size, List.take_length] at e2
        rw [S_size] at e3
        refine ⟨cs, e1, ?_, by omega, e4⟩
        rw [sum_rows]
        exact e2
    rintro H5 ⟨cs, e1, e2, e3, e4⟩
    rw [List.length_map, las] at e2 e3
    dsimp only [List.set]
    -- the turns
    have s5 := s4.trans e4
    have hq5 := s5 _ _ hq
    have hT5 := hT.same s5
    have hN5 := e4 _ _ hN
    refine ⟨_, rfl, q, rfl, ⟨_, SqL.of hq5⟩, fun D3 hD3 => lc_it (walk_list (xs := as.map V.ref)) (fun i H6 => ∃ bs : List Addr, H6 D3 = some (.lst (bs.map V.ref)) ∧ Tups H6 bs (((List.range i).map (A.sum B kf ps).turn).map Trn.v) ∧ bs.length = i ∧ Same H5 H6) ⟨[], upd_same, trivial, rfl, Same.put (Same.refl H5) hD3⟩ (fun _ _ _ h => by obtain ⟨_, _, _, _, h⟩ := h; exact SqL.of (h _ _ hq5)) ?_ ?_⟩
    · rintro i y H6 H6' hi ⟨bs, f1, f2, f3, f4⟩ ⟨rfl, hy⟩
      rw [List.length_map] at hi
      rw [List.getElem?_map] at hy
      obtain ⟨ax, hax, rfl⟩ := Option.map_eq_some_iff.mp hy
      obtain ⟨x, hx⟩ : ∃ x, ps[i]? = some x := ⟨_, List.getElem?_eq_getElem (by omega)⟩
      obtain ⟨px, mx, x1, x2, li⟩ := at_ hx
      have hv := (hT5.same f4).get hax (map_get hx)
      refine ⟨ax, _, rfl, SqT.of hv, rfl, _, _, rfl, _, _, rfl, rfl, ?_⟩
      have s6 := s5.trans f4
      refine ⟨rfl, _, rfl, _, rfl, _, rfl, (by show 2 ≤ sizeLine; decide), fun u hu => ?_⟩
      have s7 := Same.put (o := .tup [V.int (x.1 : Nat), .int (x.2 : Nat)]) (Same.refl H6') hu
      have u7 : (L2.upd H6' u (.tup [V.int (x.1 : Nat), .int (x.2 : Nat)])) u = some (.tup [V.int (x.1 : Nat), .int (x.2 : Nat)]) := upd_same
      generalize L2.upd H6' u (.tup [V.int (x.1 : Nat), .int (x.2 : Nat)]) = H7 at s7 u7 ⊢
      have s67 := s6.trans s7
      refine ⟨N, .str (sNm i), rfl, name_at nd hx ▸ DGet.t (k := kpr x) ((f4.trans s7) _ _ hN5) u7, ?_⟩
      refine ⟨_, rfl, _, rfl, a, C, dx, _, _, rfl, s67 _ _ h0, T.cl, T.n4, l4, _, rfl, tX, _, _, _, rfl, rfl, SqT.of (s67 _ _ hTX), atI_nat (at_range x1), ?_⟩
      refine ⟨_, rfl, b, C, ex, _, _, rfl, s67 _ _ g0, T.cl, T.n4, m4, _, rfl, uX, _, _, _, rfl, rfl, SqT.of (s67 _ _ gTX), atI_nat (at_range x2), ?_⟩
      refine ⟨by show 2 ≤ sizeLine; decide, fun u2 hu2 => ?_⟩
      have s8 := Same.put (o := .tup [V.int (A.tn x.1 : Nat), .int (B.tn x.2 : Nat)]) (Same.refl H7) hu2
      have u8 : (L2.upd H7 u2 (.tup [V.int (A.tn x.1 : Nat), .int (B.tn x.2 : Nat)])) u2 = some (.tup [V.int (A.tn x.1 : Nat), .int (B.tn x.2 : Nat)]) := upd_same
      generalize L2.upd H7 u2 (.tup [V.int (A.tn x.1 : Nat), .int (B.tn x.2 : Nat)]) = H8 at s8 u8 ⊢
      have s78 := s7.trans s8
      have s68 := s67.trans s8
      have hy := plc_at (tn x mx)
      refine ⟨N, .str (sNm (plc (A.tn x.1, B.tn x.2) ps)), rfl, name_at nd hy ▸ DGet.t (k := kpr (A.tn x.1, B.tn x.2)) ((f4.trans s78) _ _ hN5) u8, ?_⟩
      refine ⟨_, rfl, a, C, dx, _, _, rfl, s68 _ _ h0, T.cl, T.n5, l5, _, rfl, tA, _, _, _, rfl, rfl, SqT.of (s68 _ _ hTA), atI_nat (at_range x1), ?_⟩
      refine ⟨_, rfl, _, rfl, b, C, ex, _, _, rfl, s68 _ _ g0, T.cl, T.n5, m5, _, rfl, uA, _, _, _, rfl, rfl, SqT.of (s68 _ _ gTA), atI_nat (at_range x2), ?_⟩
      refine ⟨_, _, rfl, rfl, .inl ⟨lo, hi0⟩, _, _, rfl, rfl, ?_⟩
      refine ⟨by show 3 ≤ sizeLine; decide, fun z hz => ?_⟩
      have s9 := Same.put (o := .tup [V.str (sNm i), .str (sNm (plc (A.tn x.1, B.tn x.2) ps)), .int (A.ta x.1 + kf * B.ta x.2)]) (Same.refl H8) hz
      have s79 := s78.trans s9
      refine ⟨_, s79 _ _ f1, by rw [List.length_map, f3, sizeLine_eq]; omega, bs ++ [z], ?_, ?_, by rw [List.length_append, f3] <;> rfl, Same.new' (f4.trans s79) hD3⟩
      · rw [upd_same, List.map_append] <;> rfl
      · rw [List.range_succ, List.map_append, List.map_append]
        refine Tups.but (fun x => by intro q; cases q) (s79 _ _ f1) (But.here (But.refl D3 _)) (Tups.snoc ?_ (f2.same s79))
        rw [upd_same]
        unfold LD.turn Trn.v
        rw [sum_nm li, show (A.sum B kf ps).tn i = plc (A.tn x.1, B.tn x.2) ps from by show plc (A.tn (prOf ps i).1, B.tn (prOf ps i).2) ps = _; rw [px], sum_nm (plc_lt (tn x mx)), show (A.sum B kf ps).ta i = A.ta x.1 + kf * B.ta x.2 from by show A.ta (prOf ps i).1 + kf * B.ta (prOf ps i).2 = _; rw [px]]
    rintro H6 ⟨bs, f1, f2, f3, f4⟩
    rw [List.length_map, las] at f2 f3
    dsimp only [List.set]
    -- the yes states
    have s6 := s5.trans f4
    have hq6 := s6 _ _ hq
    have hT6 := hT.same s6
    have hN6 := f4 _ _ hN5
    refine ⟨_, rfl, q, rfl, ⟨_, SqL.of hq6⟩, fun D4 hD4 => lc_it (walk_list (xs := as.map V.ref)) (fun i H7 => H7 D4 = some (.lst ((((List.range i).filter (A.sum B kf ps).ys).map (A.sum B kf ps).nm).map V.str)) ∧ Same H6 H7) ⟨upd_same, Same.put (Same.refl H6) hD4⟩ (fun _ _ _ h => SqL.of (h.2 _ _ hq6)) ?_ ?_⟩
    · rintro i y H7 H7' hi ⟨y1, y2⟩ ⟨rfl, hy⟩
      rw [List.length_map] at hi
      rw [List.getElem?_map] at hy
      obtain ⟨ax, hax, rfl⟩ := Option.map_eq_some_iff.mp hy
      obtain ⟨x, hx⟩ : ∃ x, ps[i]? = some x := ⟨_, List.getElem?_eq_getElem (by omega)⟩
      obtain ⟨px, mx, x1, x2, li⟩ := at_ hx
      have hv := (hT6.same y2).get hax (map_get hx)
      refine ⟨ax, _, rfl, SqT.of hv, rfl, _, _, rfl, _, _, rfl, rfl, ?_⟩
      have s7 := s6.trans y2
      refine ⟨rfl, _, rfl, a, C, dx, _, _, rfl, s7 _ _ h0, T.cl, T.n6, l6, _, rfl, tY, _, _, _, rfl, rfl, SqT.of (s7 _ _ hTY), atI_nat (at_range x1), ?_⟩
      refine ⟨_, rfl, b, C, ex, _, _, rfl, s7 _ _ g0, T.cl, T.n6, m6, _, rfl, uY, _, _, _, rfl, rfl, SqT.of (s7 _ _ gTY), atI_nat (at_range x2), ?_⟩
      refine ⟨_, rfl, A.ys x.1, B.ys x.2, kf, rfl, yesOf kf (A.ys x.1) (B.ys x.2), rfl, ?_⟩
      have ey : (A.sum B kf ps).ys i = yesOf kf (A.ys x.1) (B.ys x.2) := by
        show (if kf = 1 then A.ys (prOf ps i).1 && B.ys (prOf ps i).2 else A.ys (prOf ps i).1 == B.ys (prOf ps i).2) = _
        rw [px] <;> rfl
      refine ite2 (fun yt => ?_) (fun yf => ?_)
      · refine ⟨_, rfl, _, rfl, _, rfl, (by show 2 ≤ sizeLine; decide), fun u hu => ?_⟩
        have s8 := Same.put (o := .tup [V.int (x.1 : Nat), .int (x.2 : Nat)]) (Same.refl H7') hu
        have u8 : (L2.upd H7' u (.tup [V.int (x.1 : Nat), .int (x.2 : Nat)])) u = some (.tup [V.int (x.1 : Nat), .int (x.2 : Nat)]) := upd_same
        generalize L2.upd H7' u (.tup [V.int (x.1 : Nat), .int (x.2 : Nat)]) = H8 at s8 u8 ⊢
        refine ⟨N, .str (sNm i), rfl, name_at nd hx ▸ DGet.t (k := kpr x) ((y2.trans s8) _ _ hN6) u8, ?_⟩
        refine ⟨_, s8 _ _ y1, ?_, ?_, Same.new' (y2.trans s8) hD4⟩
        · rw [List.length_map, List.length_map, sizeLine_eq]
          have := List.length_filter_le (A.sum B kf ps).ys (List.range i)
          rw [List.length_range] at this
          omega
        · rw [upd_same, List.range_succ, List.filter_append, List.filter_cons_of_pos (ey.trans yt), List.filter_nil, List.map_append, List.map_append]
          show _ = some (HO.lst (_ ++ [V.str ((A.sum B kf ps).nm i)]))
          rw [sum_nm li]
      · refine ⟨?_, y2⟩
        rw [y1, List.range_succ, List.filter_append, List.filter_cons_of_neg (by rw [ey]; exact yf), List.filter_nil, List.append_nil]
    rintro H7 ⟨y1, y2⟩
    rw [List.length_map, las] at y1
    dsimp only [List.set]
    have eyes : ((List.range ps.length).filter (A.sum B kf ps).ys).map (A.sum B kf ps).nm = (A.sum B kf ps).yes := by
      unfold LD.yes
      rw [sum_n]
    rw [eyes] at y1
    have s37 := (d2.trans e4).trans (f4.trans y2)
    have s7 := s6.trans y2
    refine ⟨_, rfl, _, rfl, _, rfl, D2, _, rfl, .inl ⟨SqL.of ((f4.trans y2) _ _ e1), fun x1 hx1 => ?_⟩⟩
    have z1 := Same.put (o := .tup (cs.map V.ref)) (Same.refl H7) hx1
    have k1' : (L2.upd H7 x1 (.tup (cs.map V.ref))) x1 = some (.tup (cs.map V.ref)) := upd_same
    generalize L2.upd H7 x1 (.tup (cs.map V.ref)) = K1 at z1 k1' ⊢
    refine ⟨_, rfl, D3, _, rfl, .inl ⟨SqL.of (z1 _ _ (y2 _ _ f1)), fun x2 hx2 => ?_⟩⟩
    have z2 := Same.put (o := .tup (bs.map V.ref)) (Same.refl K1) hx2
    have k2' : (L2.upd K1 x2 (.tup (bs.map V.ref))) x2 = some (.tup (bs.map V.ref)) := upd_same
    generalize L2.upd K1 x2 (.tup (bs.map V.ref)) = K2 at z2 k2' ⊢
    refine ⟨_, rfl, D4, _, rfl, .inl ⟨SqL.of (z2 _ _ (z1 _ _ y1)), fun x3 hx3 => ?_⟩⟩
    have z3 := Same.put (o := .tup ((A.sum B kf ps).yes.map V.str)) (Same.refl K2) hx3
    have k3' : (L2.upd K2 x3 (.tup ((A.sum B kf ps).yes.map V.str))) x3 = some (.tup ((A.sum B kf ps).yes.map V.str)) := upd_same
    generalize L2.upd K2 x3 (.tup ((A.sum B kf ps).yes.map V.str)) = K3 at z3 k3' ⊢
    refine ⟨by show 5 ≤ sizeLine; decide, fun r hr' => ?_⟩
    have z4 := Same.put (o := .tup [V.str (S A.sg), .ref t, .ref x1, .ref x2, .ref x3]) (Same.refl K3) hr'
    have z14 := ((z1.trans z2).trans z3).trans z4
    have sAll := s1.trans (s7.trans z14)
    refine k r _ AP (none_of_same (s1.trans (s7.trans ((z1.trans z2).trans z3))) hr') sAll ⟨t, x1, x2, x3, cs, bs, upd_same, (s37.trans z14) _ _ t3, ((z2.trans z3).trans z4) _ _ k1', ?_, (z3.trans z4) _ _ k2', ?_, z4 _ _ k3'⟩
    · unfold LD.rows
      rw [sum_n]
      exact e2.same ((f4.trans y2).trans z14)
    · unfold LD.turns
      rw [sum_n]
      exact f2.same (y2.trans z14)
end
end Wb
/-! the law's own sum of two models, in full -/
namespace Wb
open PySem L2 WbMin WbS Lz
def spProductM : Sp := fun vs H Q _ => ∃ (q1 q2 : Addr) (A B : LD) (sa sb : List Nat) (f : Int), vs = [.ref q1, .ref q2, .int f, .bl (decide (f = 1))] ∧ (f = 1 ∨ f = -1) ∧ A.Ok ∧ B.Ok ∧ B.sg = A.sg ∧ PyProof.Rows.sortedS (A.sg.map sOne) = true ∧ sa.Perm A.sg ∧ sb.Perm A.sg ∧ (allF A B).length ≤ 9 ∧ MdAt H q1 (A.srt sa) ∧ MdAt H q2 (B.srt sb) ∧
  ∀ (r : Addr) (H' : Hp), H r = none → Same H H' → AllP A B (allF A B) → MdAt H' r ((A.sum B f (allF A B)).srt sa) → Q (.ref r) H'
theorem flags_ok {kf : Int} (way : kf = 1 ∨ kf = -1) (a1 a2 : Bool) : ([PyData.list [.bool true, .bool true], .list [.bool (decide (kf = 1)), .bool (decide (kf = 1))]].any fun z => PyData.eqv z (.list [.bool a1, .bool a2])) = (if kf = 1 then a1 && a2 else a1 == a2) := by
  rcases way with rfl | rfl <;> cases a1 <;> cases a2 <;> decide +kernel
section
variable {P : Program} {w : World} {K : PySem.W.Frag} {mg : Str → Option Value} {base : Heap} {f : Addr} {fd : FuncData}
set_option maxHeartbeats 0 in
theorem ok_productM (F : Fun K "_law_product" "_law_product" sProduct f fd) (Z : Free mg) (mS : mg "sorted" = none) (mStr : mg "str" = none) : FnOk P w K mg base CX0 1 f fd ["_law_near", "_law_far", "_law_times", "_law_both"] spProductM := by
  refine F.ok scPd (fun vs H Q E h => ?_) (fun cdv A' outer s H vs Q E hr h => ?_)
  · obtain ⟨q1, q2, A, B, sa, sb, k, rfl, _⟩ := h
    rfl
  · obtain ⟨q1, q2, A, B, sa, sb, kf, rfl, way, OA, OB, eg, srtA, pa0, pb0, nine, MA, MB, k⟩ := h
    have lo : -(2 ^ 64) < kf := by rcases way with rfl | rfl <;> decide
    have hi0 : kf < 2 ^ 64 := by rcases way with rfl | rfl <;> decide
    obtain ⟨b, eb⟩ : ∃ b : Bool, b = decide (kf = 1) := ⟨_, rfl⟩
    rw [← eb]
    refine ⟨_, pss_cons (ps_set (i := 4) scPd.nd rfl (.inl rfl) (pe_ix ix_list (pv 0) pe_int (fun _ _ => rfl)))
      (pss_cons (ps_par3 (i := 5) (j := 6) (l := 7) rfl scPd.nd rfl rfl rfl (by decide) (by decide) (by decide) rfl rfl rfl (pa_cons (pe_lst (pa_cons (pe_tup (pa_cons (pe_ix ix_list (pe_ix ix_list (pv 0) pe_int (fun _ _ => rfl)) pe_int (fun _ _ => rfl)) (pa_cons (pe_ix ix_list (pe_ix ix_list (pv 1) pe_int (fun _ _ => rfl)) pe_int (fun _ _ => rfl)) pa_nil))) pa_nil)) (pa_cons pe_dnewT (pa_cons pe_dnewK pa_nil))) (by rfl))
      (pss_cons (ps_for PassesOwn.never rfl (pi_range1 rfl Z.range (pa_cons (pe_op op_mul (pe_callB call_len_seq (by rfl) Z.len PySem.boot_len (pa_cons (pe_ix ix_list (pv 0) pe_int (fun _ _ => rfl)) pa_nil)) (pe_callB call_len_seq (by rfl) Z.len PySem.boot_len (pa_cons (pe_ix ix_list (pv 1) pe_int (fun _ _ => rfl)) pa_nil))) pa_nil)) (pg_name (i := 8) scPd.nd rfl (.inl rfl))
        (pss_one (ps_if (pt_cmpR op_lt (pv 8) (pe_callB call_len_seq (by rfl) Z.len PySem.boot_len (pa_cons (pv 5) pa_nil)) (nomark _))
          (pss_cons (ps_asg (pe_ix ix_list (pv 5) (pv 8) (fun _ _ => rfl)) (pg_tup (by rfl) (pgs_cons (pg_name (i := 9) scPd.nd rfl (.inr rfl)) (pgs_cons (pg_name (i := 10) scPd.nd rfl (.inr rfl)) pgs_nil))))
          (pss_cons (ps_setLc (i := 12) (own := [("_law_mark", 11)]) (g := gName 11) (tt := tYes) rfl scPd.nd rfl rfl (sw_true rfl rfl rfl (by decide +kernel)) (pi_list (pe_callB (call_sortedTx rfl) (by rfl) mS (by decide +kernel) (pa_cons (pv 4) pa_nil))) (blkOk_by (N := NPd) (sc := defScope sProduct) (by decide +kernel)) (fun _ _ _ _ _ => pg_name (i := 11) scPd.nd rfl (.inl rfl)) (fun _ _ _ _ _ => pts_nil)
              (fun _ _ _ _ _ => pe_tup (pa_cons (pv 11) (pa_cons (pe_dget (un2 hr) (pe_ix (show IxR _ (rIxL K) from ix_list) (pv 0) pe_int (fun _ _ => rfl)) (pe_tup (pa_cons (pv 9) (pa_cons (pv 11) pa_nil))) (fun _ _ => rfl))
                (pa_cons (pe_dget (un2 hr) (pe_ix (show IxR _ (rIxL K) from ix_list) (pv 1) pe_int (fun _ _ => rfl)) (pe_tup (pa_cons (pv 10) (pa_cons (pv 11) pa_nil))) (fun _ _ => rfl)) pa_nil)))))
          (pss_one (ps_for PassesOwn.never rfl (pi_list (pe_op op_cat (pv 12) (pe_lst (pa_cons (pe_tup (pa_cons pe_str (pa_cons (pe_dget (un2 hr) (pe_ix ix_list (pv 0) pe_int (fun _ _ => rfl)) (pv 9) (fun _ _ => rfl)) (pa_cons (pe_dget (un2 hr) (pe_ix ix_list (pv 1) pe_int (fun _ _ => rfl)) (pv 10) (fun _ _ => rfl)) pa_nil)))) pa_nil))))
            (pg_tup (by rfl) (pgs_cons (pg_name (i := 11) scPd.nd rfl (.inl rfl)) (pgs_cons (pg_name (i := 13) scPd.nd rfl (.inl rfl)) (pgs_cons (pg_name (i := 14) scPd.nd rfl (.inl rfl)) pgs_nil))))
            (pss_cons (ps_set (i := 15) scPd.nd rfl (.inl rfl) (pe_tup (pa_cons (pe_ix ix_tup (pv 13) pe_int (fun _ _ => rfl)) (pa_cons (pe_ix ix_tup (pv 14) pe_int (fun _ _ => rfl)) pa_nil))))
            (pss_cons (ps_if (pt_cmpR (op_notInD (un65 hr)) (pv 15) (pv 5) (by rfl)) (pss_one (ps_expr (pe_bm PySem.F.plainAttrs_list PySem.F.slot_list_append PySem.F.type_list_append mt_append (pv 5) (pa_cons (pv 15) pa_nil)))) pss_nil)
            (pss_cons (ps_set (i := 16) scPd.nd rfl (.inl rfl) (pe_tup (pa_cons (pe_op op_add_str pe_str (pe_callTy call_str_int (by rfl) mStr (by decide +kernel) (pa_cons (pe_bm PySem.F.plainAttrs_list PySem.F.slot_list_index PySem.F.type_list_index (mt_indexD (un65 hr)) (pv 5) (pa_cons (pv 15) pa_nil)) pa_nil)))
              (pa_cons (pe_op op_add (pe_ix ix_tup (pv 13) pe_int (fun _ _ => rfl)) (pe_op op_mul (pv 2) (pe_ix ix_tup (pv 14) pe_int (fun _ _ => rfl)))) pa_nil))))
            (pss_one (ps_if (pt_cmpR op_eq (pv 11) pe_str (nomark _))
              (pss_one (ps_dput (un2 hr) (pv 7) (pe_op op_add_str pe_str (pe_callTy call_str_int (by rfl) mStr (by decide +kernel) (pa_cons (pv 8) pa_nil))) (pv 16) rfl))
              (pss_one (ps_dput (un2 hr) (pv 6) (pe_tup (pa_cons (pe_op op_add_str pe_str (pe_callTy call_str_int (by rfl) mStr (by decide +kernel) (pa_cons (pv 8) pa_nil))) (pa_cons (pv 11) pa_nil))) (pv 16) rfl)))))))))))
          pss_nil)))
      (pss_cons (ps_set (i := 17) scPd.nd rfl (.inr rfl) (pe_lc (own := [("_law_at", 20)]) (g := gName 20) (tt := tYes) rfl scPd.nd (pi_range1 rfl Z.range (pa_cons (pe_callB call_len_seq (by rfl) Z.len PySem.boot_len (pa_cons (pv 5) pa_nil)) pa_nil)) (blkOk_by (N := NPd) (sc := defScope sProduct) (by decide +kernel)) (fun _ _ _ _ _ => pg_name (i := 20) scPd.nd rfl (.inl rfl)) (fun _ _ _ _ _ => pts_nil)
          (fun _ _ _ _ _ => pe_op op_add_str pe_str (pe_callTy call_str_int (by rfl) mStr (by decide +kernel) (pa_cons (pv 20) pa_nil)))))
      (pss_cons (ps_set (i := 18) scPd.nd rfl (.inr rfl) (pe_lc (own := [("_law_post", 9), ("_law_mate", 10)]) (g := gTup K 2 (gCons (gName 9) (gCons (gName 10) gNil))) (tt := tYes) rfl scPd.nd (pi_list (pv 5)) (blkOk_by (N := NPd) (sc := defScope sProduct) (by decide +kernel)) (fun _ _ _ _ _ => pg_tup (by rfl) (pgs_cons (pg_name (i := 9) scPd.nd rfl (.inl rfl)) (pgs_cons (pg_name (i := 10) scPd.nd rfl (.inl rfl)) pgs_nil))) (fun _ _ _ _ _ => pts_nil)
          (fun _ _ _ _ _ => pe_lst (pa_cons (pe_cmpR (show OpR _ _ (rIn K false) from op_in_seq) (pv 9) (pe_ix (show IxR _ (rIxL K) from ix_list) (pv 0) pe_int (fun _ _ => rfl)) (by rfl)) (pa_cons (pe_cmpR (show OpR _ _ (rIn K false) from op_in_seq) (pv 10) (pe_ix (show IxR _ (rIxL K) from ix_list) (pv 1) pe_int (fun _ _ => rfl)) (by rfl)) pa_nil)))))
      (pss_cons (ps_setLc (i := 19) (own := [("_law_at", 20)]) (g := gName 20) rfl scPd.nd rfl rfl (sw_true rfl rfl rfl (by decide +kernel)) (pi_range1 rfl Z.range (pa_cons (pe_callB call_len_seq (by rfl) Z.len PySem.boot_len (pa_cons (pv 5) pa_nil)) pa_nil)) (blkOk_by (N := NPd) (sc := defScope sProduct) (by decide +kernel)) (fun _ _ _ _ _ => pg_name (i := 20) scPd.nd rfl (.inl rfl))
          (fun _ _ _ _ _ => pts_one (pt_cmpR (show OpR _ _ (rInD K) from op_inD (un65 hr)) (pe_ix (show IxR _ (rIxL K) from ix_list) (pv 18) (pv 20) (fun _ _ => rfl)) (pe_lst (pa_cons (pe_lst (pa_cons pe_bl (pa_cons pe_bl pa_nil))) (pa_cons (pe_lst (pa_cons (pv 3) (pa_cons (pv 3) pa_nil))) pa_nil))) (by rfl)))
          (fun _ _ _ _ _ => pe_ix (show IxR _ (rIxL K) from ix_list) (pv 17) (pv 20) (fun _ _ => rfl)))
      (pss_one (ps_ret (pe_lst (pa_cons (pv 4) (pa_cons (pv 17) (pa_cons (pv 6) (pa_cons (pv 7) (pa_cons (pv 19) pa_nil))))))))))))), ?_⟩
    obtain ⟨A1, S1, E1, O1, kv1, ws1, h0, hA, hS, hE, e2, e1, os1, hO, ho1⟩ := id MA
    obtain ⟨A2, S2, E2, O2, kv2, ws2, g0, gA, gS, gE, f2, f1, os2, gO, ho2⟩ := id MB
    have h0 : H q1 = some (.lst [.str (S sa), .ref A1, .ref S1, .ref E1, .ref O1]) := h0
    have g0 : H q2 = some (.lst [.str (S sb), .ref A2, .ref S2, .ref E2, .ref O2]) := g0
    have hA : H A1 = some (.lst (A.st.map V.str)) := hA
    have gA : H A2 = some (.lst (B.st.map V.str)) := gA
    have e2 : ∀ i c, i < A.n → c ∈ A.sg → Entry2 H kv1 (A.nm i) c (A.nm (A.nx i c)) (A.am i c) := fun i c hi hc => e2 i c hi (pa0.mem_iff.mpr hc)
    have f2 : ∀ i c, i < B.n → c ∈ A.sg → Entry2 H kv2 (B.nm i) c (B.nm (B.nx i c)) (B.am i c) := fun i c hi hc => f2 i c hi (pb0.mem_iff.mpr hc)
    have e1 : ∀ i, i < A.n → Entry1 H ws1 (A.nm i) (A.nm (A.tn i)) (A.ta i) := e1
    have f1 : ∀ i, i < B.n → Entry1 H ws2 (B.nm i) (B.nm (B.tn i)) (B.ta i) := f1
    have ho1 : ∀ i, i < A.n → decide (A.nm i ∈ os1) = A.ys i := ho1
    have ho2 : ∀ i, i < B.n → decide (B.nm i ∈ os2) = B.ys i := ho2
    have lsa : sa.length = A.sg.length := pa0.length_eq
    have np : 0 < A.n := OA.sts.pos
    have mp : 0 < B.n := OB.sts.pos
    have n6 : A.n ≤ 6 := OA.sts.few
    have m6 : B.n ≤ 6 := OB.sts.few
    have nm36 : A.n * B.n ≤ 36 := Nat.mul_le_mul n6 m6
    have sg4 : A.sg.length ≤ 4 := OA.sgs.few
    dsimp only [estPd, List.set]
    refine ⟨_, rfl, q1, _, _, _, rfl, rfl, SqL.of h0, atI_nat (j := 0) rfl, ?_⟩
    refine ⟨_, rfl, q1, _, _, _, rfl, rfl, SqL.of h0, atI_nat (j := 1) rfl, A1, _, _, _, rfl, rfl, SqL.of hA, atI_nat (j := 0) (map_get (nm_at np)), ?_⟩
    refine ⟨_, rfl, q2, _, _, _, rfl, rfl, SqL.of g0, atI_nat (j := 1) rfl, A2, _, _, _, rfl, rfl, SqL.of gA, atI_nat (j := 0) (map_get (nm_at mp)), ?_⟩
    refine ⟨by show 2 ≤ sizeLine; decide, fun p1 hp1 => ⟨by show 1 ≤ sizeLine; decide, fun F hF => ?_⟩⟩
    have z1 := Same.put (o := .tup [V.str (A.nm 0), .str (B.nm 0)]) (Same.refl H) hp1
    have z2 := Same.put (o := .lst [V.ref p1]) z1 hF
    have F0 : H F = none := none_of_same z1 hF
    have w1 : (L2.upd (L2.upd H p1 (.tup [V.str (A.nm 0), .str (B.nm 0)])) F (.lst [V.ref p1])) p1 = some (.tup (pV (nmP A B (0, 0)))) := (upd_ne (ne_of_none upd_same hF)).trans upd_same
    have w2 : (L2.upd (L2.upd H p1 (.tup [V.str (A.nm 0), .str (B.nm 0)])) F (.lst [V.ref p1])) F = some (.lst ([p1].map V.ref)) := upd_same
    generalize L2.upd (L2.upd H p1 (.tup [V.str (A.nm 0), .str (B.nm 0)])) F (.lst [V.ref p1]) = H1 at z2 w1 w2 ⊢
    intro Sd hSd Ed hEd
    have z3 := Same.put (o := .dT []) (Same.refl H1) hSd
    have z4 := Same.put (o := .dK []) z3 hEd
    have P0 : PStM A B kf F Sd Ed H (L2.upd (L2.upd H1 Sd (.dT [])) Ed (.dK [])) [(0, 0)] [p1] 0 0 0 :=
      ⟨⟨rfl, by simp, fun x hx => by rw [List.mem_singleton.mp hx]; exact .z, fun i x hi => absurd hi (Nat.not_lt_zero _), fun i x hi => absurd hi (Nat.not_lt_zero _)⟩, z4 _ _ w2, ⟨z4 _ _ w1, trivial⟩, ⟨[], (upd_ne (ne_of_none upd_same hEd)).trans upd_same, Nat.le_refl _, fun i m x c _ _ h3 => absurd h3 (by omega)⟩, ⟨[], upd_same, Nat.le_refl _, fun i x _ h3 => absurd h3 (by omega)⟩, z2.trans z4, F0, none_of_same z2 hSd, none_of_same (z2.trans z3) hEd⟩
    generalize L2.upd (L2.upd H1 Sd (.dT [])) Ed (.dK []) = H4 at P0 ⊢
    refine ⟨_, _, _, rfl, ?_⟩
    dsimp only [List.set]
    have s4 := P0.sm
    refine ⟨_, rfl, q1, _, _, _, rfl, rfl, SqL.of (s4 _ _ h0), atI_nat (j := 1) rfl, A1, _, rfl, .inl (SqL.of (s4 _ _ hA)), _, rfl, q2, _, _, _, rfl, rfl, SqL.of (s4 _ _ g0), atI_nat (j := 1) rfl, A2, _, rfl, .inl (SqL.of (s4 _ _ gA)), _, _, rfl, rfl, ?_⟩
    have eN : ((A.st.map V.str).length : Int) * ((B.st.map V.str).length : Int) = ((A.n * B.n : Nat) : Int) := by
      rw [List.length_map, List.length_map]
      exact (Int.natCast_mul ..).symm
    refine ⟨.inl ⟨by rw [List.length_map]; have : A.st.length ≤ 6 := n6; omega, by rw [List.length_map]; have : A.st.length ≤ 6 := n6; omega⟩, ?_⟩
    refine ⟨((A.n * B.n : Nat) : Int), congrArg (fun z => [V.int z]) eN, by omega, by omega, for_itN walk_range (fun i σ H' => ∃ (ps : List (Nat × Nat)) (as : List Addr) (o8 o9 o10 o11 o12 o13 o14 o15 o16 : Option V), σ = [some (.ref q1), some (.ref q2), some (.int kf), some (.bl b), some (.str (S sa)), some (.ref F), some (.ref Sd), some (.ref Ed), o8, o9, o10, o11, o12, o13, o14, o15, o16, none, none, none, none] ∧ PStM A B kf F Sd Ed H H' ps as i 0 (i * 5) ∧ ps = fndP A B i)
      ⟨[(0, 0)], [p1], none, none, none, none, none, none, none, none, none, rfl, P0, rfl⟩ (fun _ _ _ _ _ => trivial) ?_ ?_⟩
    · rintro i x σ H5 H5' hi ⟨ps, as, o8, o9, o10, o11, o12, o13, o14, o15, o16, rfl, P5, ord⟩ ⟨rfl, hx⟩
      have hx : x = V.int (i : Nat) := hx.trans (congrArg V.int (Int.zero_add _))
      subst hx
      have hi : i < A.n * B.n := by omega
      have las := P5.len
      have inb := P5.inb OA OB eg
      refine ⟨_, rfl, _, rfl, F, _, rfl, .inl (SqL.of P5.hF), _, _, rfl, rfl, _, rfl, ?_⟩
      by_cases hlt : i < ps.length
      case neg =>
        refine ifn (by rw [List.length_map, las]; omega) ?_
        exact ⟨ps, as, _, _, _, _, _, _, _, _, _, rfl, (P5.over (by omega)).low (by omega), by rw [ord]; exact (fndP_none (by rw [← ord]; exact List.getElem?_eq_none (by omega))).symm⟩
      refine ifY (by rw [List.length_map, las]; omega) ?_
      dsimp only [List.set]
      obtain ⟨x, hx⟩ : ∃ x, ps[i]? = some x := ⟨_, List.getElem?_eq_getElem hlt⟩
      obtain ⟨a0, ha0⟩ : ∃ a0, as[i]? = some a0 := ⟨_, List.getElem?_eq_getElem (by omega)⟩
      have rx : Rch A B x := P5.fnd.rch x (List.mem_of_getElem? hx)
      obtain ⟨x1, x2⟩ := rx.lt OA OB eg
      have hv : H5' a0 = some (.tup [V.str (A.nm x.1), .str (B.nm x.2)]) := P5.hT.get ha0 (map_get (map_get hx))
      refine ⟨_, rfl, _, rfl, F, _, _, _, rfl, rfl, SqL.of P5.hF, atI_nat (map_get ha0), ?_⟩
      refine ⟨a0, _, rfl, SqT.of hv, rfl, _, _, rfl, _, _, rfl, rfl, ?_⟩
      dsimp only [List.set]
      -- where it goes on
      refine ⟨_, rfl, S sa, rfl, by rw [S_len]; omega, fun yz p perm srt hp => ?_⟩
      rw [S_cps] at perm
      obtain ⟨sg, hsg, rfl⟩ := perm_codes perm
      obtain rfl : sg = A.sg := sg_same srt srtA (hsg.trans pa0) (List.Perm.refl _)
      have hsg : A.sg.Perm A.sg := List.Perm.refl _
      have lsg : A.sg.length = A.sg.length := rfl
      have s6 := Same.put (o := .lst ((A.sg.map sOne).map V.str)) (Same.refl H5') hp
      have hp6 : (L2.upd H5' p (.lst ((A.sg.map sOne).map V.str))) p = some (.lst ((A.sg.map sOne).map V.str)) := upd_same
      generalize L2.upd H5' p (.lst ((A.sg.map sOne).map V.str)) = H6 at s6 hp6 ⊢
      have P6 := P5.same s6
      refine ⟨p, rfl, ⟨_, SqL.of hp6⟩, fun D hD => lc_it (walk_list (xs := (A.sg.map sOne).map V.str)) (fun j H7 => ∃ us : List Addr, H7 D = some (.lst (us.map V.ref)) ∧ us.length = j ∧ (∀ (m : Nat) (u : Addr) (c : Nat), us[m]? = some u → A.sg[m]? = some c → GngM A B H7 u (A.nx x.1 c, B.nx x.2 c) (S [c]) (A.am x.1 c) (B.am x.2 c)) ∧ Same H6 H7) ⟨[], upd_same, rfl, fun m u c h _ => absurd h (by simp), Same.put (Same.refl H6) hD⟩ (fun _ _ _ h => by obtain ⟨_, _, _, _, h⟩ := h; exact SqL.of (h _ _ hp6)) ?_ ?_⟩
      · rintro j y H7 H7' hj ⟨us, u1, u2, u3, u4⟩ ⟨rfl, hy⟩
        rw [List.length_map, List.length_map] at hj
        rw [List.getElem?_map, List.getElem?_map] at hy
        obtain ⟨y', hy', rfl⟩ := Option.map_eq_some_iff.mp hy
        obtain ⟨c, hc, rfl⟩ := Option.map_eq_some_iff.mp hy'
        have cm : c ∈ A.sg := hsg.mem_iff.mp (List.mem_of_getElem? hc)
        have s7 := P6.sm.trans u4
        obtain ⟨t1, val1, ht1⟩ := e2 x.1 c x1 cm
        obtain ⟨t2, val2, ht2⟩ := f2 x.2 c x2 cm
        refine ⟨rfl, _, rfl, _, rfl, q1, _, _, _, rfl, rfl, SqL.of (s7 _ _ h0), atI_nat (j := 2) rfl, _, rfl, _, rfl, by show 2 ≤ sizeLine; decide, fun u hu => ?_⟩
        have s8 := Same.put (o := .tup [V.str (A.nm x.1), .str (sOne c)]) (Same.refl H7') hu
        have hu8 : (L2.upd H7' u (.tup [V.str (A.nm x.1), .str (sOne c)])) u = some (.tup [V.str (A.nm x.1), .str (sOne c)]) := upd_same
        generalize L2.upd H7' u (.tup [V.str (A.nm x.1), .str (sOne c)]) = H8 at s8 hu8 ⊢
        have s78 := s7.trans s8
        refine ⟨S1, .ref t1, rfl, val1 ▸ DGet.t (k := kk (A.nm x.1, S [c])) (s78 _ _ hS) hu8, ?_⟩
        refine ⟨_, rfl, q2, _, _, _, rfl, rfl, SqL.of (s78 _ _ g0), atI_nat (j := 2) rfl, _, rfl, _, rfl, by show 2 ≤ sizeLine; decide, fun u' hu' => ?_⟩
        have s9 := Same.put (o := .tup [V.str (B.nm x.2), .str (sOne c)]) (Same.refl H8) hu'
        have hu9 : (L2.upd H8 u' (.tup [V.str (B.nm x.2), .str (sOne c)])) u' = some (.tup [V.str (B.nm x.2), .str (sOne c)]) := upd_same
        generalize L2.upd H8 u' (.tup [V.str (B.nm x.2), .str (sOne c)]) = H9 at s9 hu9 ⊢
        have s79 := s78.trans s9
        refine ⟨S2, .ref t2, rfl, val2 ▸ DGet.t (k := kk (B.nm x.2, S [c])) (s79 _ _ gS) hu9, ?_⟩
        refine ⟨by show 3 ≤ sizeLine; decide, fun u3' hu3 => ?_⟩
        have s10 := Same.put (o := .tup [V.str (sOne c), .ref t1, .ref t2]) (Same.refl H9) hu3
        have sD := (s8.trans s9).trans s10
        have bD := But.here (o := .lst (us.map V.ref ++ [V.ref u3'])) (But.refl D (L2.upd H9 u3' (.tup [V.str (sOne c), .ref t1, .ref t2])))
        have hD10 := sD _ _ u1
        have tk : Tk H7' (L2.upd (L2.upd H9 u3' (.tup [V.str (sOne c), .ref t1, .ref t2])) D (.lst (us.map V.ref ++ [V.ref u3']))) := (Tk.of sD).trans (Tk.upd hD10 fun x z => by cases z)
        have tk' : Tk (L2.upd H9 u3' (.tup [V.str (sOne c), .ref t1, .ref t2])) (L2.upd (L2.upd H9 u3' (.tup [V.str (sOne c), .ref t1, .ref t2])) D (.lst (us.map V.ref ++ [V.ref u3']))) := Tk.upd hD10 fun x z => by cases z
        refine ⟨_, hD10, by rw [List.length_map, u2, sizeLine_eq]; omega, us ++ [u3'], by rw [upd_same, List.map_append] <;> rfl, by rw [List.length_append, u2] <;> rfl, fun m u c' hm hc' => ?_, Same.new' (u4.trans sD) hD⟩
        by_cases e : m < us.length
        · rw [List.getElem?_append_left e] at hm
          exact (u3 m u c' hm hc').tk tk
        · have lm := (List.getElem?_eq_some_iff.mp hm).1
          rw [List.length_append] at lm
          have lm : m < us.length + 1 := lm
          have em : m = us.length := by omega
          subst em
          rw [List.getElem?_append_right (Nat.le_refl _), Nat.sub_self] at hm
          cases hm
          rw [u2, hc] at hc'
          cases hc'
          exact ⟨t1, t2, tk' _ _ upd_same, tk' _ _ ((s79.trans s10) _ _ ht1), tk' _ _ ((s79.trans s10) _ _ ht2)⟩
      rintro H7 ⟨us, u1, u2, u3, u4⟩
      rw [List.length_map, List.length_map] at u2
      dsimp only [List.set]
      -- what is to be gone through
      have s7 := P6.sm.trans u4
      have P7 := P6.same u4
      obtain ⟨t1, val1, ht1⟩ := e1 x.1 x1
      obtain ⟨t2, val2, ht2⟩ := f1 x.2 x2
      refine ⟨_, rfl, _, rfl, q1, _, _, _, rfl, rfl, SqL.of (s7 _ _ h0), atI_nat (j := 3) rfl, _, rfl, E1, .ref t1, rfl, val1 ▸ DGet.k (k := k1 (A.nm x.1)) (s7 _ _ hE), ?_⟩
      refine ⟨_, rfl, q2, _, _, _, rfl, rfl, SqL.of (s7 _ _ g0), atI_nat (j := 3) rfl, _, rfl, E2, .ref t2, rfl, val2 ▸ DGet.k (k := k1 (B.nm x.2)) (s7 _ _ gE), ?_⟩
      refine ⟨by show 3 ≤ sizeLine; decide, fun u hu => ⟨by show 1 ≤ sizeLine; decide, fun v hv' => ?_⟩⟩
      have s8 := Same.put (o := .tup [V.str (Str.ofString ""), .ref t1, .ref t2]) (Same.refl H7) hu
      have hu8 : (L2.upd H7 u (.tup [V.str (Str.ofString ""), .ref t1, .ref t2])) u = some (.tup [V.str (Str.ofString ""), .ref t1, .ref t2]) := upd_same
      generalize L2.upd H7 u (.tup [V.str (Str.ofString ""), .ref t1, .ref t2]) = H8 at s8 hu8 hv' ⊢
      have s9 := Same.put (o := .lst [V.ref u]) (Same.refl H8) hv'
      have hv9 : (L2.upd H8 v (.lst [V.ref u])) v = some (.lst [V.ref u]) := upd_same
      generalize L2.upd H8 v (.lst [V.ref u]) = H9 at s9 hv9 ⊢
      refine ⟨D, v, us.map V.ref, [V.ref u], rfl, rfl, (s8.trans s9) _ _ u1, hv9, by rw [List.length_map, u2, sizeLine_eq]; show _ + 1 ≤ _; omega, fun p2 hp2 => ?_⟩
      have s10 := Same.put (o := .lst (us.map V.ref ++ [V.ref u])) (Same.refl H9) hp2
      have hp10 : (L2.upd H9 p2 (.lst (us.map V.ref ++ [V.ref u]))) p2 = some (.lst ((us ++ [u]).map V.ref)) := by rw [upd_same, List.map_append] <;> rfl
      have s710 := (s8.trans s9).trans s10
      have nFp : F ≠ p2 := ne_of_none ((s8.trans s9) _ _ P7.hF) hp2
      have P10 := P7.same s710
      obtain ⟨gs, egs⟩ : ∃ gs, gs = onw A B x := ⟨_, rfl⟩
      have lgs : gs.length = A.sg.length + 1 := by
        rw [egs]
        unfold onw
        rw [List.length_append, List.length_map] <;> rfl
      have lus : (us ++ [u]).length = gs.length := by rw [lgs, List.length_append, u2, lsg] <;> rfl
      have rgs : ∀ y ∈ gs, Rch A B y := fun y hy => onw_rch rx (egs ▸ hy)
      have ogs : ∀ y ∈ onw A B x, y ∈ gs := fun y hy => egs.symm ▸ hy
      have gsS : ∀ {m c : Nat}, A.sg[m]? = some c → gs[m]? = some (A.nx x.1 c, B.nx x.2 c) := fun {m c} hc => by
        rw [egs]
        unfold onw
        rw [List.getElem?_append_left (by rw [List.length_map]; exact (List.getElem?_eq_some_iff.mp hc).1), List.getElem?_map, hc] <;> rfl
      have gsE : gs[A.sg.length]? = some (A.tn x.1, B.tn x.2) := by
        rw [egs]
        unfold onw
        rw [List.getElem?_append_right (by rw [List.length_map]; exact Nat.le_refl _), List.length_map, Nat.sub_self] <;> rfl
      have G10 : ∀ (m : Nat) (u' : Addr) (y : Nat × Nat), (us ++ [u])[m]? = some u' → gs[m]? = some y → (∃ c, A.sg[m]? = some c ∧ y = (A.nx x.1 c, B.nx x.2 c) ∧ GngM A B (L2.upd H9 p2 (.lst (us.map V.ref ++ [V.ref u]))) u' y (S [c]) (A.am x.1 c) (B.am x.2 c)) ∨ (m = A.sg.length ∧ y = (A.tn x.1, B.tn x.2) ∧ GngM A B (L2.upd H9 p2 (.lst (us.map V.ref ++ [V.ref u]))) u' y (Str.ofString "") (A.ta x.1) (B.ta x.2)) := fun m u' y hm hy => by
        by_cases e : m < us.length
        · rw [List.getElem?_append_left e] at hm
          obtain ⟨c, hc⟩ : ∃ c, A.sg[m]? = some c := ⟨_, List.getElem?_eq_getElem (by rw [← u2]; exact e)⟩
          rw [gsS hc] at hy
          cases hy
          exact .inl ⟨c, hc, rfl, (u3 m u' c hm hc).tk (Tk.of s710)⟩
        · have lm := (List.getElem?_eq_some_iff.mp hm).1
          rw [List.length_append] at lm
          have lm : m < us.length + 1 := lm
          have em : m = us.length := by omega
          subst em
          rw [List.getElem?_append_right (Nat.le_refl _), Nat.sub_self] at hm
          cases hm
          rw [u2, gsE] at hy
          cases hy
          exact .inr ⟨u2, rfl, t1, t2, (s9.trans s10) _ _ hu8, s710 _ _ (s7 _ _ ht1), s710 _ _ (s7 _ _ ht2)⟩
      generalize L2.upd H9 p2 (.lst (us.map V.ref ++ [V.ref u])) = H10 at s10 hp10 P10 G10 ⊢
      refine ⟨p2, rfl, ⟨_, SqL.of hp10⟩, for_itN (walk_list (xs := (us ++ [u]).map V.ref)) (fun j σ H' => ∃ (ps' : List (Nat × Nat)) (as' : List Addr) (o11 o13 o14 o15 o16 : Option V), σ = [some (.ref q1), some (.ref q2), some (.int kf), some (.bl b), some (.str (S sa)), some (.ref F), some (.ref Sd), some (.ref Ed), some (.int (i : Nat)), some (.str (A.nm x.1)), some (.str (B.nm x.2)), o11, some (.ref D), o13, o14, o15, o16, none, none, none, none] ∧ PStM A B kf F Sd Ed H H' ps' as' i j (i * 5 + j) ∧ ps' = addsP ps (gs.take j) ∧ ps'[i]? = some x ∧ (∀ y ∈ gs.take j, y ∈ ps') ∧ Tk H10 H' ∧ H' p2 = some (.lst ((us ++ [u]).map V.ref)))
        ⟨ps, as, o11, o13, o14, o15, o16, rfl, P10, rfl, hx, fun y hy => absurd hy List.not_mem_nil, Tk.refl _, hp10⟩ (fun _ _ _ _ h => by obtain ⟨_, _, _, _, _, _, _, _, _, _, _, _, _, h⟩ := h; exact SqL.of h) ?_ ?_⟩
      · rintro j y σ H11 H11' hj ⟨ps', as', o11', o13', o14', o15', o16', rfl, P11, or', hx', tk, T11, hp11⟩ ⟨rfl, hy⟩
        rw [List.length_map, lus] at hj
        rw [List.getElem?_map] at hy
        obtain ⟨u', hu', rfl⟩ := Option.map_eq_some_iff.mp hy
        obtain ⟨y, hy'⟩ : ∃ y, gs[j]? = some y := ⟨_, List.getElem?_eq_getElem hj⟩
        obtain ⟨z, m1, m2, Gz, kind⟩ : ∃ (z : Str) (m1 m2 : Int), GngM A B H10 u' y z m1 m2 ∧ ((∃ c, A.sg[j]? = some c ∧ y = (A.nx x.1 c, B.nx x.2 c) ∧ z = S [c] ∧ m1 = A.am x.1 c ∧ m2 = B.am x.2 c) ∨ (j = A.sg.length ∧ y = (A.tn x.1, B.tn x.2) ∧ z = Str.ofString "" ∧ m1 = A.ta x.1 ∧ m2 = B.ta x.2)) := by
          rcases G10 j u' y hu' hy' with ⟨c, h1, h2, h3⟩ | ⟨h1, h2, h3⟩
          · exact ⟨_, _, _, h3, .inl ⟨c, h1, h2, rfl, rfl, rfl⟩⟩
          · exact ⟨_, _, _, h3, .inr ⟨h1, h2, rfl, rfl, rfl⟩⟩
        obtain ⟨t1, t2, k0, k1', k2'⟩ := Gz.tk T11
        have ry : Rch A B y := rgs y (List.mem_of_getElem? hy')
        have iy : InB A B y := ry.lt OA OB eg
        refine ⟨u', _, rfl, SqT.of k0, rfl, _, _, rfl, _, _, rfl, _, _, rfl, rfl, ?_⟩
        dsimp only [List.set]
        refine ⟨_, rfl, t1, _, _, _, rfl, rfl, SqT.of k1', atI_nat (j := 0) rfl, _, rfl, t2, _, _, _, rfl, rfl, SqT.of k2', atI_nat (j := 0) rfl, by show 2 ≤ sizeLine; decide, fun g hg => ?_⟩
        have s12 := Same.put (o := .tup [V.str (A.nm y.1), .str (B.nm y.2)]) (Same.refl H11') hg
        have g12 : (L2.upd H11' g (.tup [V.str (A.nm y.1), .str (B.nm y.2)])) g = some (.tup (pV (nmP A B y))) := upd_same
        have P12 := P11.same s12
        have T12 := T11.trans (Tk.of s12)
        have hp12 := s12 _ _ hp11
        have k1'' := s12 _ _ k1'
        have k2'' := s12 _ _ k2'
        generalize L2.upd H11' g (.tup [V.str (A.nm y.1), .str (B.nm y.2)]) = H12 at g12 P12 T12 hp12 k1'' k2'' ⊢
        dsimp only [List.set]
        have inb' := P12.inb OA OB eg
        refine ⟨_, rfl, _, rfl, pD (nmP A B y), (ps'.map (nmP A B)).map pD, dp_pair g12, .lst (SqL.of P12.hF) (dp_pairs P12.hT), shaped_pair (nmP_ok OA OB iy), shaped_pairs (fun w hw => by obtain ⟨w', hw', rfl⟩ := List.mem_map.mp hw; exact nmP_ok OA OB (inb' w' hw')), _, rfl, ?_⟩
        rw [any_pair]
        have kl : i < ps'.length := (List.getElem?_eq_some_iff.mp hx').1
        have few' : ps'.length ≤ 36 := Nat.le_trans (pairs_few P12.fnd.nd inb') nm36
        refine two_ways (H7 := H12) (fun H' => ∃ (ps2 : List (Nat × Nat)) (as2 : List Addr), PStM A B kf F Sd Ed H H' ps2 as2 i j (i * 5 + j) ∧ ps2 = addsP ps (gs.take (j + 1)) ∧ ps2[i]? = some x ∧ (∀ y ∈ gs.take j, y ∈ ps2) ∧ y ∈ ps2 ∧ Tk H12 H' ∧ H' p2 = some (.lst ((us ++ [u]).map V.ref))) (fun ht hN => ?_) (fun hf => ?_) (fun H13 hC => ?_)
        · have nm : y ∉ ps' := fun m => by
            rw [decide_eq_true ((nmP_mem OA OB inb' iy).mpr m)] at ht
            cases ht
          obtain ⟨Q1, Q2⟩ := P12.app kl nm ry g12
          refine ⟨_, rfl, .inl ⟨rfl, _, SqL.of P12.hF⟩, _, rfl, F, _, _, rfl, rfl, P12.hF, by rw [List.length_map, P12.len, sizeLine_eq]; omega, hN _ ⟨ps' ++ [y], as' ++ [g], Q1, by rw [take_more hy', addsP_snoc, ← or', addP_out nm], by rw [List.getElem?_append_left kl]; exact hx', fun z hz => List.mem_append_left _ (tk z hz), List.mem_append_right _ (List.mem_singleton.mpr rfl), Q2, (upd_ne nFp.symm).trans hp12⟩⟩
        · have hm : y ∈ ps' := (nmP_mem OA OB inb' iy).mp (by
            by_cases q : nmP A B y ∈ ps'.map (nmP A B)
            · exact q
            · rw [decide_eq_false q] at hf
              cases hf)
          exact ⟨ps', as', P12, by rw [take_more hy', addsP_snoc, ← or', addP_in hm], hx', tk, hm, Tk.refl _, hp12⟩
        · obtain ⟨ps2, as2, P13, or2, hx2, tk2, my, T13, hp13⟩ := hC
          have inb2 := P13.inb OA OB eg
          have few2 : ps2.length ≤ 36 := Nat.le_trans (pairs_few P13.fnd.nd inb2) nm36
          have lp2 := plc_lt my
          have nin2 : ps2.length ≤ 9 := by
            rw [or2, egs, ord]
            exact Nat.le_trans (part_few (by omega) (by rw [← ord]; exact hx) _) nine
          have il : i < ps2.length := (List.getElem?_eq_some_iff.mp hx2).1
          have ti : Str.ofString "s" ++ (toString ((i : Nat) : Int) : Str) = sNm i := sNm_txt (by omega)
          have tp : Str.ofString "s" ++ (toString ((plc y ps2 : Nat) : Int) : Str) = sNm (plc y ps2) := sNm_txt (by omega)
          have g13 := T13 _ _ g12
          have k13 := T13 _ _ k1''
          have k23 := T13 _ _ k2''
          obtain ⟨lg1, sz1⟩ := s_few (i := plc y ps2) (by omega)
          obtain ⟨lg2, sz2⟩ := s_few (i := i) (by omega)
          refine ⟨_, rfl, .inl ⟨rfl, _, SqL.of P13.hF⟩, _, rfl, F, _, pD (nmP A B y), (ps2.map (nmP A B)).map pD, plc y ps2, _, rfl, rfl, .lst (SqL.of P13.hF) (dp_pairs P13.hT), dp_pair g13, shaped_pairs (fun w hw => by obtain ⟨w', hw', rfl⟩ := List.mem_map.mp hw; exact nmP_ok OA OB (inb2 w' hw')), shaped_pair (nmP_ok OA OB iy), map_get (map_get (plc_at my)), (by rw [eqv_pair, decide_eq_true rfl]), fun m z' hm hz' => ?_, ?_⟩
          · rw [List.getElem?_map, List.getElem?_map] at hz'
            obtain ⟨w, hw, rfl⟩ := Option.map_eq_some_iff.mp hz'
            obtain ⟨w', hw', rfl⟩ := Option.map_eq_some_iff.mp hw
            rw [eqv_pair]
            exact decide_eq_false fun e => plc_min hm hw' (nmP_inj OA OB (inb2 w' (List.mem_of_getElem? hw')) iy e)
          refine ⟨_, rfl, lg1, _, _, rfl, rfl, sz1, ?_⟩
          refine ⟨_, rfl, t1, _, _, _, rfl, rfl, SqT.of k13, atI_nat (j := 1) rfl, _, rfl, _, rfl, t2, _, _, _, rfl, rfl, SqT.of k23, atI_nat (j := 1) rfl, _, _, rfl, rfl, .inl ⟨lo, hi0⟩, _, _, rfl, rfl, ?_⟩
          refine ⟨by show 2 ≤ sizeLine; decide, fun st hst => ?_⟩
          have s14 := Same.put (o := .tup [V.str (Str.ofString "s" ++ (toString ((plc y ps2 : Nat) : Int) : Str)), .int (m1 + kf * m2)]) (Same.refl H13) hst
          have P14 := P13.same s14
          have st14 : (L2.upd H13 st (.tup [V.str (Str.ofString "s" ++ (toString ((plc y ps2 : Nat) : Int) : Str)), .int (m1 + kf * m2)])) st = some (.tup [V.str (sNm (plc y ps2)), .int (m1 + kf * m2)]) := by rw [upd_same, tp]
          have T14 := T13.trans (Tk.of s14)
          have hp14 := s14 _ _ hp13
          generalize L2.upd H13 st (.tup [V.str (Str.ofString "s" ++ (toString ((plc y ps2 : Nat) : Int) : Str)), .int (m1 + kf * m2)]) = H14 at P14 T14 hp14 st14 ⊢
          dsimp only [List.set]
          have tk3 : ∀ y ∈ gs.take (j + 1), y ∈ ps2 := fun w hw => by
            rw [take_more hy'] at hw
            rcases List.mem_append.mp hw with hw | hw
            · exact tk2 w hw
            · rw [List.mem_singleton.mp hw]
              exact my
          refine ⟨_, rfl, rfl, _, rfl, ite2 (fun zt => ?_) (fun zf => ?_)⟩
          · rcases kind with ⟨c, _, _, ez, _⟩ | ⟨ej, ey, ez, em1, em2⟩
            · rw [ez] at zt
              have zt := of_decide_eq_true zt
              injection zt with zt
              exact absurd (congrArg Str.length zt) (by rw [S_len]; show ¬ 1 = (Str.ofString "").length; decide +kernel)
            subst ey em1 em2
            obtain ⟨H15, dp, P15, T15, b15⟩ := P14.putE hx2 ej st14 (plc_at my) (by omega)
            obtain ⟨ws', hE', _⟩ := P14.dE
            have nEp : p2 ≠ Ed := ne_of hp14 hE' (by intro z; cases z)
            refine ⟨_, rfl, _, rfl, _, rfl, _, rfl, lg2, _, _, rfl, rfl, sz2, Ed, H15, rfl, ?_, ps2, as2, _, _, _, _, _, rfl, P15, or2, hx2, tk3, (T12.trans T14).trans T15, b15 _ _ nEp hp14⟩
            rw [ti]
            exact dp
          · obtain ⟨c, hc, ey, ez, em1, em2⟩ : ∃ c, A.sg[j]? = some c ∧ y = (A.nx x.1 c, B.nx x.2 c) ∧ z = S [c] ∧ m1 = A.am x.1 c ∧ m2 = B.am x.2 c := by
              rcases kind with k1 | ⟨_, _, ez, _⟩
              · exact k1
              · exact absurd (by rw [ez]; exact decide_eq_true rfl) zf
            subst ey ez em1 em2
            refine ⟨_, rfl, _, rfl, _, rfl, _, rfl, lg2, _, _, rfl, rfl, sz2, _, rfl, by show 2 ≤ sizeLine; decide, fun u2' hu2 => ?_⟩
            have s15 := Same.put (o := .tup [V.str (Str.ofString "s" ++ (toString ((i : Nat) : Int) : Str)), .str (S [c])]) (Same.refl H14) hu2
            have hp15 := s15 _ _ hp14
            obtain ⟨H16, dp, P16, T16, b16⟩ := (P14.same s15).putS (u := u2') hx2 hc (by rw [upd_same, ti]) (s15 _ _ st14) (plc_at my) (by omega)
            obtain ⟨kvs', hS', _⟩ := (P14.same s15).dS
            have nSp : p2 ≠ Sd := ne_of hp15 hS' (by intro z; cases z)
            exact ⟨Sd, H16, rfl, dp, ps2, as2, _, _, _, _, _, rfl, P16, or2, hx2, tk3, ((T12.trans T14).trans (Tk.of s15)).trans T16, b16 _ _ nSp hp15⟩
      · rintro σ H11 ⟨ps', as', o11', o13', o14', o15', o16', rfl, P11, or', hx', tk, T11, hp11⟩
        rw [List.length_map, lus, List.take_length] at tk or'
        rw [List.length_map, lus, lgs] at P11
        exact ⟨ps', as', _, _, _, _, _, _, _, _, _, rfl, (P11.up (P11.fnd.next hx' fun y hy => tk y (ogs y hy)) (by omega)).low (by omega), by rw [or', ord, egs]; exact (fndP_at (by rw [← ord]; exact hx)).symm⟩
    rintro σ H5 ⟨ps, as, o8, o9, o10, o11, o12, o13, o14, o15, o16, rfl, P5, ord⟩
    have eT : ((A.n * B.n : Nat) : Int).toNat = A.n * B.n := Int.toNat_natCast _
    have las := P5.len
    have inb := P5.inb OA OB eg
    have full : ps.length ≤ A.n * B.n := pairs_few P5.fnd.nd inb
    have few : ps.length ≤ 9 := by
      rw [ord]
      exact Nat.le_trans (fndP_few A B (by rw [eT]; omega)) nine
    have eps : allF A B = ps := by
      unfold allF
      rw [ord]
      exact fndP_all (by rw [← ord, eT]; exact full) (by rw [eT]; omega)
    have all : ∀ (x : Nat × Nat), x ∈ ps → ∃ i, i < ((A.n * B.n : Nat) : Int).toNat ∧ ps[i]? = some x := fun x hx => by
      obtain ⟨i, hi, e⟩ := List.getElem_of_mem hx
      exact ⟨i, by rw [eT]; omega, by rw [List.getElem?_eq_getElem hi, e]⟩
    have AP : AllP A B ps := ⟨P5.fnd.pos, P5.fnd.nd, inb, fun x hx c hc => let ⟨i, hi, e⟩ := all x hx; P5.fnd.nx i x hi e c hc, fun x hx => let ⟨i, hi, e⟩ := all x hx; P5.fnd.tn i x hi e⟩
    -- the names
    refine ⟨_, rfl, F, _, rfl, .inl (SqL.of P5.hF), _, rfl, by rw [List.length_map]; omega, by rw [List.length_map]; omega, fun Pl hPl => lc_it walk_range (fun i H6 => H6 Pl = some (.lst (sNms i)) ∧ Same H5 H6) ⟨upd_same, Same.put (Same.refl H5) hPl⟩ (fun _ _ _ _ => trivial) ?_ ?_⟩
    · rintro i x H6 H6' hi ⟨n1, n3⟩ ⟨rfl, hx⟩
      have hx : x = V.int (i : Nat) := hx.trans (congrArg V.int (Int.zero_add _))
      subst hx
      rw [List.length_map] at hi
      obtain ⟨lg1, sz1⟩ := s_few (i := i) (by omega)
      have ti : Str.ofString "s" ++ (toString ((i : Nat) : Int) : Str) = sNm i := sNm_txt (by omega)
      refine ⟨rfl, _, rfl, _, rfl, lg1, _, _, rfl, rfl, sz1, _, n1, by rw [sNms_len, sizeLine_eq]; omega, ?_, Same.new' n3 hPl⟩
      rw [upd_same, ti]
      unfold sNms
      rw [List.range_succ, List.map_append, List.map_append] <;> rfl
    rintro H6 ⟨n1, n3⟩
    have n1 : H6 Pl = some (.lst (sNms ps.length)) := by
      rw [n1, List.length_map, las]
      congr 3
    dsimp only [List.set]
    have P6 := P5.same n3
    have s6 := P6.sm
    -- the flags
    refine ⟨_, rfl, F, rfl, ⟨_, SqL.of P6.hF⟩, fun Fl hFl => lc_it (walk_list (xs := as.map V.ref)) (fun i H7 => ∃ fs : List Addr, H7 Fl = some (.lst (fs.map V.ref)) ∧ fs.length = i ∧ (∀ (m : Nat) (a : Addr) (x : Nat × Nat), fs[m]? = some a → ps[m]? = some x → a ≠ Fl ∧ H7 a = some (.lst [.bl (A.ys x.1), .bl (B.ys x.2)])) ∧ Same H6 H7) ⟨[], upd_same, rfl, fun m a x ha => absurd ha (by simp), Same.put (Same.refl H6) hFl⟩ (fun _ _ _ h => by obtain ⟨_, _, _, _, h⟩ := h; exact SqL.of (h _ _ P6.hF)) ?_ ?_⟩
    · rintro i y H7 H7' hi ⟨fs, f1', f2', f3', f4'⟩ ⟨rfl, hy⟩
      rw [List.length_map] at hi
      rw [List.getElem?_map] at hy
      obtain ⟨ax, hax, rfl⟩ := Option.map_eq_some_iff.mp hy
      obtain ⟨x, hx⟩ : ∃ x, ps[i]? = some x := ⟨_, List.getElem?_eq_getElem (by omega)⟩
      obtain ⟨x1, x2⟩ := inb x (List.mem_of_getElem? hx)
      have hv : H7' ax = some (.tup [V.str (A.nm x.1), .str (B.nm x.2)]) := (P6.same f4').hT.get hax (map_get (map_get hx))
      have s7 := s6.trans f4'
      have i1 : inV (.str (A.nm x.1)) (os1.map V.str) = A.ys x.1 := (inV_strs _ _).trans (ho1 _ x1)
      have i2 : inV (.str (B.nm x.2)) (os2.map V.str) = B.ys x.2 := (inV_strs _ _).trans (ho2 _ x2)
      refine ⟨ax, _, rfl, SqT.of hv, rfl, _, _, rfl, _, _, rfl, rfl, ?_⟩
      refine ⟨rfl, _, rfl, _, rfl, q1, _, _, _, rfl, rfl, SqL.of (s7 _ _ h0), atI_nat (j := 4) rfl, O1, _, rfl, .inl (SqL.of (s7 _ _ hO)), rfl, flat_strs _, ?_⟩
      refine ⟨_, rfl, _, rfl, q2, _, _, _, rfl, rfl, SqL.of (s7 _ _ g0), atI_nat (j := 4) rfl, O2, _, rfl, .inl (SqL.of (s7 _ _ gO)), rfl, flat_strs _, ?_⟩
      rw [i1, i2]
      refine ⟨by show 2 ≤ sizeLine; decide, fun l hl => ?_⟩
      have nl : l ≠ Fl := (ne_of_none f1' hl).symm
      refine ⟨_, (upd_ne nl.symm).trans f1', by rw [List.length_map, f2', sizeLine_eq]; omega, fs ++ [l], by rw [upd_same, List.map_append] <;> rfl, by rw [List.length_append, f2'] <;> rfl, fun m a x' ha hx' => ?_, Same.new' (Same.put f4' hl) hFl⟩
      by_cases e : m < fs.length
      · rw [List.getElem?_append_left e] at ha
        obtain ⟨na, hab⟩ := f3' m a x' ha hx'
        exact ⟨na, (upd_ne na).trans ((upd_ne (ne_of_none hab hl)).trans hab)⟩
      · have lm := (List.getElem?_eq_some_iff.mp ha).1
        rw [List.length_append] at lm
        have lm : m < fs.length + 1 := lm
        have em : m = fs.length := by omega
        subst em
        rw [List.getElem?_append_right (Nat.le_refl _), Nat.sub_self] at ha
        cases ha
        rw [f2', hx] at hx'
        cases hx'
        exact ⟨nl, (upd_ne nl).trans upd_same⟩
    rintro H7 ⟨fs, f1', f2', f3', f4'⟩
    rw [List.length_map, las] at f2'
    dsimp only [List.set]
    have P7 := P6.same f4'
    obtain ⟨M, eM⟩ : ∃ M, M = A.sum B kf ps := ⟨_, rfl⟩
    have yM : ∀ {i : Nat} {x : Nat × Nat}, ps[i]? = some x → M.ys i = if kf = 1 then A.ys x.1 && B.ys x.2 else A.ys x.1 == B.ys x.2 := fun {i x} hx => by
      rw [eM]
      show (if kf = 1 then A.ys (prOf ps i).1 && B.ys (prOf ps i).2 else A.ys (prOf ps i).1 == B.ys (prOf ps i).2) = _
      rw [pr_at hx]
    refine ⟨_, rfl, F, _, rfl, .inl (SqL.of P7.hF), _, rfl, by rw [List.length_map]; omega, by rw [List.length_map]; omega, fun Ok hOk => lc_it walk_range (fun i H8 => H8 Ok = some (.lst ((((List.range i).filter M.ys).map sNm).map V.str)) ∧ Same H7 H8) ⟨upd_same, Same.put (Same.refl H7) hOk⟩ (fun _ _ _ _ => trivial) ?_ ?_⟩
    · rintro i x H8 H8' hi ⟨x1, x3⟩ ⟨rfl, hx⟩
      have hx : x = V.int (i : Nat) := hx.trans (congrArg V.int (Int.zero_add _))
      subst hx
      rw [List.length_map] at hi
      have hi : i < ps.length := by omega
      obtain ⟨a, ha⟩ : ∃ a, fs[i]? = some a := ⟨_, List.getElem?_eq_getElem (by omega)⟩
      obtain ⟨px, hpx⟩ : ∃ x, ps[i]? = some x := ⟨_, List.getElem?_eq_getElem hi⟩
      obtain ⟨_, hab⟩ := f3' i a px ha hpx
      refine ⟨rfl, _, rfl, _, rfl, Fl, _, _, _, rfl, rfl, SqL.of (x3 _ _ f1'), atI_nat (map_get ha), by show 2 ≤ sizeLine; decide, fun l1 hl1 => ?_⟩
      have s9 := Same.put (o := .lst [V.bl true, .bl true]) (Same.refl H8') hl1
      have h9 : (L2.upd H8' l1 (.lst [V.bl true, .bl true])) l1 = some (.lst [V.bl true, .bl true]) := upd_same
      generalize L2.upd H8' l1 (.lst [V.bl true, .bl true]) = H9 at s9 h9 ⊢
      refine ⟨_, rfl, _, rfl, by show 2 ≤ sizeLine; decide, fun l2 hl2 => ?_⟩
      have s10 := Same.put (o := .lst [V.bl b, .bl b]) (Same.refl H9) hl2
      have h10 : (L2.upd H9 l2 (.lst [V.bl b, .bl b])) l2 = some (.lst [V.bl b, .bl b]) := upd_same
      generalize L2.upd H9 l2 (.lst [V.bl b, .bl b]) = H10 at s10 h10 ⊢
      refine ⟨by show 2 ≤ sizeLine; decide, fun l3 hl3 => ?_⟩
      have s11 := Same.put (o := .lst [V.ref l1, .ref l2]) (Same.refl H10) hl3
      have h11 : (L2.upd H10 l3 (.lst [V.ref l1, .ref l2])) l3 = some (.lst [V.ref l1, .ref l2]) := upd_same
      generalize L2.upd H10 l3 (.lst [V.ref l1, .ref l2]) = H11 at s11 h11 ⊢
      have s811 := (s9.trans s10).trans s11
      have ek := (flags_ok way (A.ys px.1) (B.ys px.2)).trans (yM hpx).symm
      rw [← eb] at ek
      refine ⟨.list [.bool (A.ys px.1), .bool (B.ys px.2)], [.list [.bool true, .bool true], .list [.bool b, .bool b]], .lst (SqL.of ((x3.trans s811) _ _ hab)) (.cons (.bl _) (.cons (.bl _) .nil)), .lst (SqL.of h11) (.cons (.lst (SqL.of ((s10.trans s11) _ _ h9)) (.cons (.bl _) (.cons (.bl _) .nil))) (.cons (.lst (SqL.of (s11 _ _ h10)) (.cons (.bl _) (.cons (.bl _) .nil))) .nil)), rfl, rfl, _, rfl, ite2 (fun yt => ?_) (fun yf => ?_)⟩
      · have yt := ek.symm.trans yt
        refine ⟨_, rfl, _, rfl, Pl, _, _, _, rfl, rfl, SqL.of ((f4'.trans (x3.trans s811)) _ _ n1), atI_nat (sNms_at hi), _, s811 _ _ x1, ?_, ?_, Same.new' (x3.trans s811) hOk⟩
        · rw [List.length_map, List.length_map, sizeLine_eq]
          have := List.length_filter_le M.ys (List.range i)
          rw [List.length_range] at this
          omega
        · rw [upd_same, List.range_succ, List.filter_append, List.filter_cons_of_pos yt, List.filter_nil, List.map_append, List.map_append] <;> rfl
      · refine ⟨?_, x3.trans s811⟩
        rw [s811 _ _ x1, List.range_succ, List.filter_append, List.filter_cons_of_neg (fun z => yf (ek.trans z)), List.filter_nil, List.append_nil]
    rintro H8 ⟨x1, x3⟩
    have x1 : H8 Ok = some (.lst ((((List.range ps.length).filter M.ys).map sNm).map V.str)) := by
      rw [x1, List.length_map, las]
      congr 6
    dsimp only [List.set]
    have s8 := s6.trans (f4'.trans x3)
    refine ⟨_, rfl, _, rfl, _, rfl, _, rfl, _, rfl, by show 5 ≤ sizeLine; decide, fun r hr' => ?_⟩
    have s9 := Same.put (o := .lst [V.str (S sa), .ref Pl, .ref Sd, .ref Ed, .ref Ok]) (Same.refl H8) hr'
    have P9 := (P7.same x3).same s9
    have r9 : (L2.upd H8 r (.lst [V.str (S sa), .ref Pl, .ref Sd, .ref Ed, .ref Ok])) r = some (.lst [V.str (S sa), .ref Pl, .ref Sd, .ref Ed, .ref Ok]) := upd_same
    obtain ⟨kvs, hS9, _, eS⟩ := P9.dS
    obtain ⟨ws, hE9, _, eE⟩ := P9.dE
    rw [eps] at k
    have nM : M.n = ps.length := by rw [eM, sum_n]
    have nmM : ∀ {j : Nat}, j < ps.length → M.nm j = sNm j := fun hj => by rw [eM]; exact sum_nm hj
    have at_ : ∀ {i : Nat}, i < M.n → ∃ x, ps[i]? = some x := fun hi => ⟨_, List.getElem?_eq_getElem (nM ▸ hi)⟩
    refine k r _ (none_of_same s8 hr') (s8.trans s9) AP ?_
    rw [← eM]
    refine ⟨Pl, Sd, Ed, Ok, kvs, ws, r9, ?_, hS9, hE9, fun i c hi hc => ?_, fun i hi => ?_, ((List.range ps.length).filter M.ys).map sNm, s9 _ _ x1, fun i hi => ?_⟩
    · rw [(f4'.trans (x3.trans s9)) _ _ n1, eM] <;> rfl
    · have hi : i < M.n := hi
      obtain ⟨x, hx⟩ := at_ hi
      obtain ⟨m, hm, em⟩ := List.getElem_of_mem (pa0.mem_iff.mp hc)
      obtain ⟨t, j, a1, a2, a3⟩ := eS i m x c hx (by rw [List.getElem?_eq_getElem hm, em]) (.inl (by rw [eT]; omega))
      have ej : M.nx i c = j := by
        rw [eM]
        show plc (A.nx (prOf ps i).1 c, B.nx (prOf ps i).2 c) ps = j
        rw [pr_at hx]
        exact plc_eq P5.fnd.nd a3
      have em' : M.am i c = A.am x.1 c + kf * B.am x.2 c := by
        rw [eM]
        show A.am (prOf ps i).1 c + kf * B.am (prOf ps i).2 c = _
        rw [pr_at hx]
      refine ⟨t, ?_, ?_⟩
      · show valV kvs (kk (M.nm i, S [c])) = _
        rw [nmM (by omega)]
        exact a1
      · show _ = some (HO.tup [.str (M.nm (M.nx i c)), .int (M.am i c)])
        rw [ej, em', nmM (List.getElem?_eq_some_iff.mp a3).1]
        exact a2
    · have hi : i < M.n := hi
      obtain ⟨x, hx⟩ := at_ hi
      obtain ⟨t, j, a1, a2, a3⟩ := eE i x hx (.inl (by rw [eT]; omega))
      have ej : M.tn i = j := by
        rw [eM]
        show plc (A.tn (prOf ps i).1, B.tn (prOf ps i).2) ps = j
        rw [pr_at hx]
        exact plc_eq P5.fnd.nd a3
      have em' : M.ta i = A.ta x.1 + kf * B.ta x.2 := by
        rw [eM]
        show A.ta (prOf ps i).1 + kf * B.ta (prOf ps i).2 = _
        rw [pr_at hx]
      refine ⟨t, ?_, ?_⟩
      · show valV ws (k1 (M.nm i)) = _
        rw [nmM (by omega)]
        exact a1
      · show _ = some (HO.tup [.str (M.nm (M.tn i)), .int (M.ta i)])
        rw [ej, em', nmM (List.getElem?_eq_some_iff.mp a3).1]
        exact a2
    · have hi : i < M.n := hi
      show decide (M.nm i ∈ ((List.range ps.length).filter M.ys).map sNm) = M.ys i
      rw [nmM (by omega), Bool.eq_iff_iff, decide_eq_true_iff, List.mem_map]
      constructor
      · rintro ⟨j, hj, e⟩
        rw [← sNm_inj e]
        exact (List.mem_filter.mp hj).2
      · intro y
        exact ⟨i, List.mem_filter.mpr ⟨List.mem_range.mpr (by omega), y⟩, rfl⟩
end
end Wb
set_option maxHeartbeats 1000000
/-! try: .. except X as n: .. except Y as n: .. and so on, the clauses behind the one that takes it unlooked at -/
namespace Le
open PySem PySem.Spec PyProof.Rows L2
/-- a suite's ways out, where the clause's name i goes -/
def offD (D : Ends) (i : Nat) : Ends where
  nx := fun τ G => D.nx (τ.set i none) G
  rt := D.rt
  bk := fun τ G => D.bk (τ.set i none) G
  ct := fun τ G => D.ct (τ.set i none) G
abbrev Suite := Addr → Value → Option Addr → TS
/-- the wish of the clauses, one by one -/
def wCls (K : PySem.W.Frag) (D : Ends) : List (Value × Nat × Suite) → WX
  | [] => fun _ _ _ _ => False
  | (c, i, t) :: more => fun cl dd τ G => ∃ yes, PySem.W.exmOne K cl c = some yes ∧ (yes = true → ∀ r, G r = none → t r cl dd (offD D i) (τ.set i (some (.ref r))) G) ∧ (yes = false → wCls K D more cl dd τ G)
inductive Clauses (X : Cx) : List ExceptHandler → List (Value × Nat × Suite) → Prop
  | rest (hds : List ExceptHandler) : Clauses X hds []
  | as_ {x n : Str} {c : Value} {i : Nat} {t : Suite} {b : Stmt} {bs : List Stmt} {p p' : Pos} {hds : List ExceptHandler} {more : List (Value × Nat × Suite)} (at_ : X.N[i]? = some n) (lo : X.env.kindOf n = some .local) (nm : Names X x c)
      (suite : ∀ (r : Addr) (o : Obj) (cl : Value) (dd : Option Addr) (pn : List (Addr × Obj)), L2N.Zn cl dd o → (∃ fs, o.data = .fields fs) → PSs (X.suite r ((r, o) :: pn)) (b :: bs) (t r cl dd)) (tl : Clauses X hds more) :
      Clauses X (.ExceptHandler (some (.Name x p)) (some n) (b :: bs) p' :: hds) ((c, i, t) :: more)
section
variable {X : Cx} {pins : List (Addr × Obj)} {τ : L2.St} {G : Hp} {D : Ends}
/-- the exception r is on the ground, the state without it is known: the clauses take it -/
theorem taken {r : Addr} {B : Heap} {cl : Value} {dd : Option Addr} {sI s : Shared} (hN : X.N.Nodup) (J : Inv X pins τ G sI) (far : ∀ b o, sI.heap.get? b = some o → b ∉ frs X.stack → B.get? b = some o) (hs : X.stack = X.env :: X.outer) (hf : X.env.frame = some X.env.locals)
    (up : sI.heap.UpToSlots s.heap) (sos : s.os = sI.os) (sb : AllBare s.gens) (nr : G r = none) (fly : HandSPX.FlyingZ B (X.env :: X.outer) r (L2N.Zn cl dd) s.heap) :
    ∀ {hds : List ExceptHandler} {l : List (Value × Nat × Suite)}, Clauses X hds l → wCls X.K D l cl dd τ G → wpAny (model X.prog X.w) X.A (handleBy (.ref r) X.env hds) (SP X pins D) X.xe s := by
  have okX := J.ok
  have grounded : ∀ {h : Heap}, HandSPX.FlyingZ B (X.env :: X.outer) r (L2N.Zn cl dd) h → sI.heap.UpToSlots h → Inv X pins τ G { s with heap := h } := fun {h} fl u =>
    J.landed (s' := { s with heap := h }) far fl.1 u sos sb
  obtain ⟨o1, fs1, g1, z1, d1⟩ := fly.there
  have out : r ∉ frs (X.env :: X.outer) := fun m => by
    obtain ⟨_, o2, g2, nof⟩ := fly.2.2.1.mem m
    rw [g1] at g2
    cases g2
    exact nof _ d1
  have offL : r ≠ X.env.locals := fun q => out (List.mem_filterMap.mpr ⟨X.env, List.mem_cons_self, by rw [hf, q]⟩)
  have offF : r ∉ X.fs := fun m => by
    obtain ⟨en, hen, q⟩ := List.mem_filterMap.mp m
    exact out (List.mem_filterMap.mpr ⟨en, List.mem_cons_of_mem _ hen, q⟩)
  have J1 : Inv X pins τ G s := grounded (h := s.heap) fly up
  intro hds l hk
  induction hk with
  | rest _ => exact fun no => no.elim
  | @as_ x n c i t b bs p p' hds more at_ lo nm suite tl ih =>
    rintro ⟨yes, hy, onYes, onNo⟩
    have inS := J1.suite g1 d1 nr offL offF
    have ty : PySem.W.Looks (model X.prog X.w) s.heap (typeOf (.ref r)) cl := fun A' Q' E' s' st q => wpAny_typeOf_ref (st _ _ g1) (by rw [z1.1]; exact q)
    have asked := PySem.W.exm_one (M := model X.prog X.w) J1.kIn ty hy
    have named : ∀ {Q' : Value → Shared → Prop} {E' : Value → Shared → Prop}, Q' c s → wpAny (model X.prog X.w) (X.A.mark (some (.ref r))) (eval (.Name x p) X.env) Q' E' s := fun {Q' E'} q => by
      obtain ⟨gl, nd, way⟩ := nm
      rcases way with m | ⟨m, bt, nn⟩
      · exact ld_glob (X := X.suite r ((r, o1) :: (X.pn ++ pins))) inS gl m q nd
      · exact ld_blt (X := X.suite r ((r, o1) :: (X.pn ++ pins))) inS gl m bt q nn nd
    refine wpAny_handleBy_cons (codeAny_handlers_test (named (asked.here ?_))) (by intro q; cases q)
    cases yes with
    | false => exact ih (onNo rfl)
    | true =>
      refine codeAny_handlers_suite_as (HandSPX.lands_againZ fly fun h' fly' u' => ?_)
      obtain ⟨o2, fs2, g2, z2, d2⟩ := fly'.there
      have J2 := grounded fly' (up.trans u')
      refine store_ok (X := X.suite r ((r, o2) :: (X.pn ++ pins))) (v := .ref r) (J2.suite g2 d2 nr offL offF) hN at_ (.inl lo) rfl (fun s3 I3 => ?_) (.inr lo)
      have leave : ∀ {τ' : L2.St} {G' : Hp} {s4 : Shared} {Q' : Shared → Prop}, Inv (X.suite r ((r, o2) :: (X.pn ++ pins))) [] τ' G' s4 → (∀ s5, Inv X pins (τ'.set i none) G' s5 → Q' s5) →
          wpAny (model X.prog X.w) X.A (do bindName X.env n .none; unbindBehindTheSuite X.env n p') (fun _ s5 => Q' s5) X.xe s4 := fun {τ' G' s4 Q'} I4 q => gone_ok (I4.unsuite okX) hN at_ lo q
      refine wpAny_mono ((suite r o2 cl dd (X.pn ++ pins) z2 ⟨_, d2⟩).run [] s3 _ G _ I3 (onYes rfl r nr)) (fun w s4 done => ?_) (fun _ _ no => no.elim)
      cases w with
      | next =>
        obtain ⟨_, _, I4, q⟩ := done
        exact leave I4 fun s5 I5 => ⟨_, _, I5, q⟩
      | brk =>
        obtain ⟨_, _, I4, q⟩ := done
        exact leave I4 fun s5 I5 => ⟨_, _, I5, q⟩
      | cont =>
        obtain ⟨_, _, I4, q⟩ := done
        exact leave I4 fun s5 I5 => ⟨_, _, I5, q⟩
      | ret u =>
        obtain ⟨_, _, _, I4, rel, q⟩ := done
        exact leave I4 fun s5 I5 => ⟨_, _, _, I5, rel, q⟩
/-- try: body, then the clauses -/
theorem ps_tryCls {body : List Stmt} {h0 : ExceptHandler} {hds : List ExceptHandler} {l : List (Value × Nat × Suite)} {pos : Pos} {tb : WX → TS} (hs : X.stack = X.env :: X.outer) (hf : X.env.frame = some X.env.locals) (hN : X.N.Nodup)
    (hb : ∀ (W : WX) (pn : List (Addr × Obj)) (xe : Value → Shared → Prop), L2N.Takes (X.tr pn xe) W → PassesOwn (model X.prog X.w) X.A X.env xe → PSs (X.tr pn xe) body (tb W)) (hc : Clauses X (h0 :: hds) l) :
    PS X (.Try body (h0 :: hds) [] [] pos) (fun D σ H => tb (wCls X.K D l) D σ H) := by
  refine ⟨fun pins s σ H D I start => wpAny_Try_except ?_⟩
  have okX := I.ok
  have frames : X.A.frames = some (X.env :: X.outer) := by rw [okX.frames, hs]
  refine wpAny_mono ((hb (wCls X.K D l) (X.pn ++ pins) _ (fun u s' air => ?capt) PassesOwn.looking).run [] s σ H D (I.toTry _) start) (fun w s' done => ?_) (fun _ _ q => q)
  case capt =>
    obtain ⟨r, B, sI, _, τ, G, cl, dd, rfl, J, far, up, sky, nr, sos, sb, w⟩ := air
    have sky : Sky B (X.env :: X.outer) r (L2N.Zn cl dd) X.env.locals s'.heap := by rw [← hs]; exact sky
    exact L2N.Sky.land L2N.Zn.steady frames hf sky fun h1 fly u1 => taken (s := { s' with heap := h1 }) hN (J.ofTry okX) far hs hf (up.trans u1) sos sb nr fly hc w
  cases w with
  | next =>
    obtain ⟨_, _, I', q⟩ := done
    exact wpAny_execs_nil ⟨_, _, I'.ofTry okX, q⟩
  | brk =>
    obtain ⟨_, _, I', q⟩ := done
    exact ⟨_, _, I'.ofTry okX, q⟩
  | cont =>
    obtain ⟨_, _, I', q⟩ := done
    exact ⟨_, _, I'.ofTry okX, q⟩
  | ret u =>
    obtain ⟨_, _, _, I', rel, q⟩ := done
    exact ⟨_, _, _, I'.ofTry okX, rel, q⟩
end
end Le
set_option maxHeartbeats 1000000
/-! a, b = x, y where an exception is being handled -/
namespace Le
open PySem PySem.Spec PyProof.Rows L2 HotX
section
variable {prog : Program} {w : World} {A : Around} {E : Value → Shared → Prop} {s : Shared}
end
end Le
set_option maxHeartbeats 1000000
/-! a list comprehension where an exception is being handled -/
namespace Le
open PySem PySem.Spec PyProof.Rows L2 L2H
/-- the block's context, the handled exception p pinned -/
abbrev blkH (X : Cx) (s : Shared) (H : Hp) (scope : Scope) (inner : Env) (its : List Addr) (p : Addr × Obj) : Cx := { X.blk s H scope inner its with calm := false, pn := [p] }
theorem blkH_hot {X : Cx} {s : Shared} {H : Hp} {scope : Scope} {inner : Env} {its : List Addr} {p : Addr × Obj} (hot : Hot1 X.A p) : HotC (blkH X s H scope inner its p) := ⟨p, hot, List.mem_cons_self⟩
/-- a block's invariant, the exception pinned beside -/
theorem pin_in {X : Cx} {s s1 : Shared} {H G : Hp} {scope : Scope} {inner : Env} {its : List Addr} {p : Addr × Obj} {τ : L2.St} (I : Inv (X.blk s H scope inner its) [] τ G s1)
    (at_ : s1.heap.get? p.1 = some p.2 ∧ G p.1 = none ∧ p.1 ≠ inner.locals ∧ p.1 ∉ frs X.stack ∧ ∀ v, p.2.data ≠ .cell v) : Inv (blkH X s H scope inner its p) [] τ G s1 :=
  have o := I.ok
  ⟨⟨o.mod, o.kind, o.glob, o.blt, o.above, o.inj, o.has, o.cab, (fun z => Bool.noConfusion (show false = true from z)), o.frames, o.stk, o.exf, o.bs, o.bsz, o.noex, o.exfs, o.funs, o.frf⟩, I.os, I.bare, I.base, I.loc, I.cell, I.free, I.freeC, fun q hq => by
    rw [List.mem_singleton.mp (show q ∈ [p] from by rw [List.append_nil] at hq; exact hq)]
    exact at_, I.hok, I.len⟩
/-- what the tests and the element of a block are in such a context -/
def InBlk (X : Cx) (scope : Scope) (f : Cx → Prop) : Prop := ∀ (s : Shared) (H : Hp) (C : Addr) (cl : List (Str × Addr)) (its : List Addr) (p : Addr × Obj), Hot1 X.A p → f (blkH X s H scope (compEnvC scope cl C X.env) its p)
section
/-- [elt for tg in iter if ..] while p is being handled -/
theorem pe_lcH {X : Cx} {elt tg iter : Expr} {ifs : List Expr} {scope : Scope} {own : List (Str × Nat)} {pos : Pos} {wi : TI} {g : TG} {tt : TT} {te : TE} (hc : HotC X) (hN : X.N.Nodup) (hi : PIH X tg iter wi) (ok : BlkOk X.N X.env.scope scope own)
    (hg : InBlk X scope fun Y => PG Y tg g) (ht : InBlk X scope fun Y => PTs Y ifs tt) (he : InBlk X scope fun Y => PE Y elt te) (hs : ∀ x, foldedSetIterable iter X.env x = pure x := by intro _; rfl) : PE X (.ListComp elt [⟨tg, iter, ifs, 0⟩] scope pos) (tLc wi g tt te (own.map (·.2))) := by
  refine ⟨fun pins s σ H Q I start => ?_⟩
  obtain ⟨p, hot, inP⟩ := hc
  rw [eval_ListComp]
  have free : ∀ y ∈ scope.names, y.2 = .free → ∃ c, X.env.cells.lookup y.1 = some c := fun y hy e => (ok.free y hy e).elim (fun k => I.ok.has _ (.inl k)) fun k => I.ok.has _ (.inr k)
  refine wpAny_comprehension_free (use := none) rfl hs (closure_ok free) ok.kind (fun y hy e => by rw [ok.uniq y hy, e]) (thn (hi.run pins s σ H _ I start) fun _ _ walk => thn walk fun itv s2 begun => ?_)
  obtain ⟨it, its, tn, J, G, rfl, I2, T, st2, far, rest⟩ := begun
  refine wpAny_newObj_type (newEnv_comp ?_) (by show 0 ≤ sizeLine; decide)
  obtain ⟨D, eD⟩ : ∃ D, s2.heap.objs.size = D := ⟨_, rfl⟩
  rw [eD]
  have nD : G D = none := I2.hok.fresh (Nat.le_of_eq eD)
  obtain ⟨W, ⟨m0, w0⟩, turn⟩ := rest D nD
  obtain ⟨s3, e3⟩ : ∃ s3 : Shared, ({ s2 with heap := s2.heap.push { cls := .type "list", data := .seq ([] : List Value).toArray } } : Shared) = s3 := ⟨_, rfl⟩
  rw [e3]
  have heap3 : s3.heap = s2.heap.push { cls := .type "list", data := .seq ([] : List Value).toArray } := by rw [← e3]
  have there3 : s3.heap.get? D = some { cls := .type "list", data := .seq ([] : List Value).toArray } := by
    rw [heap3, ← eD]
    exact Heap.get?_push_size _ rfl
  have I3 : Inv X pins σ (upd G D (.lst [])) s3 := by
    have z := I2.laid (t' := s2.toks) (a := D) (o := .lst []) (h' := s3.heap) (fun b o e => by rw [heap3]; exact Heap.get?_push_of_some _ e) (Nat.le_of_eq eD) ⟨Nat.zero_le _, [], 0, .nil, there3⟩
    rw [← e3] at z ⊢
    exact z
  obtain ⟨G3, eG⟩ : ∃ G3, upd G D (.lst []) = G3 := ⟨_, rfl⟩
  rw [eG] at w0 I3
  have old : ∀ b ∈ its, b < s2.heap.objs.size := fun b hb => Heap.lt_size (T.obj _ _ st2 b hb).choose_spec.1
  have far3 : ∀ b ∈ its, FpOk X pins G3 b ∧ b < s3.heap.objs.size := fun b hb => by
    have lt := old b hb
    refine ⟨⟨?_, (far b hb).2⟩, ?_⟩
    · rw [← eG, upd_ne (by rw [← eD]; exact Nat.ne_of_lt lt)]
      exact (far b hb).1
    · rw [heap3, Heap.size_push]
      exact Nat.lt_succ_of_lt lt
  have st3 : tn 0 s3.heap := T.keep _ _ _ st2 fun b _ o e => by rw [heap3]; exact Heap.get?_push_of_some _ e
  have I4 := block_start I3 ok hN far3
  have pg := hg s3 G3 s3.heap.objs.size (cellsFrom (s3.heap.objs.size + 1) scope.names (cloFrom X.env.cells scope.names [])) its p hot
  have pt := ht s3 G3 s3.heap.objs.size (cellsFrom (s3.heap.objs.size + 1) scope.names (cloFrom X.env.cells scope.names [])) its p hot
  have pe := he s3 G3 s3.heap.objs.size (cellsFrom (s3.heap.objs.size + 1) scope.names (cloFrom X.env.cells scope.names [])) its p hot
  obtain ⟨inner, eI⟩ : ∃ inner, compEnvC scope (cellsFrom (s3.heap.objs.size + 1) scope.names (cloFrom X.env.cells scope.names [])) s3.heap.objs.size X.env = inner := ⟨_, rfl⟩
  have place : inner.locals = s3.heap.objs.size := by
    rw [← eI] <;> rfl
  obtain ⟨s4, e4⟩ : ∃ s4 : Shared, ({ s3 with heap := pushCells (s3.heap.push { cls := .type "dict", data := .dict #[] }) scope.names } : Shared) = s4 := ⟨_, rfl⟩
  show codeAny (model X.prog X.w) X.A (.compStart (.ListComp elt [⟨tg, iter, ifs, 0⟩] scope pos) 0 (.ref it) (.ref D) (compEnvC scope (cellsFrom (s3.heap.objs.size + 1) scope.names (cloFrom X.env.cells scope.names [])) s3.heap.objs.size X.env)) (compPost (model X.prog X.w) X.A X.xe none (EP X pins σ Q) (.ref D) s3.heap.objs.size) { s3 with heap := pushCells (s3.heap.push { cls := .type "dict", data := .dict #[] }) scope.names }
  rw [eI, e4]
  rw [eI, e4] at I4
  rw [eI] at pg pt pe
  have kept4 : ∀ b o, s3.heap.get? b = some o → s4.heap.get? b = some o := fun b o e => by
    rw [← e4]
    exact pushCells_keeps _ _ _ _ (Heap.get?_push_of_some _ e)
  have st4 : tn 0 s4.heap := T.keep _ _ _ st3 fun b _ o e => kept4 b o e
  obtain ⟨p1, p2, p3, p4, p5⟩ := I3.pin p (List.mem_append_left _ inP)
  have offS : p.1 ∉ frs X.stack := fun z => (List.mem_cons.mp (I3.stkSub _ z)).elim p3 p4
  have I5 : Inv (blkH X s3 G3 scope inner its p) [] (wipe σ (own.map (·.2))) G3 s4 := pin_in I4 ⟨kept4 _ _ p1, p2, by rw [place]; exact Nat.ne_of_lt (Heap.lt_size p1), offS, p5⟩
  have apartP : ∀ b ∈ its, p.1 ≠ b := fun b hb => (far3 b hb).1.2.2.2.2.2 p (List.mem_append_left _ inP)
  have noIts : ∀ b ∈ its, G3 b = none := fun b hb => (far3 b hb).1.1
  have stand : ∀ {τ : L2.St} {G' : Hp} {s' : Shared}, Inv (blkH X s3 G3 scope inner its p) [] τ G' s' → (∀ b ∈ its, G' b = none) → ∀ b ∈ its, FpOk (blkH X s3 G3 scope inner its p) [] G' b := fun {τ G' s'} I' n b hb =>
    ⟨n b hb, (I'.ok.exf b hb).1, I'.ok.exfs b hb, .inl hb, fun x c e => (I'.ok.exf b hb).2 x c e, fun q hq => by
      rw [List.mem_singleton.mp (show q ∈ [p] from by rw [List.append_nil] at hq; exact hq)]
      exact apartP b hb⟩
  have hotB : HotC (blkH X s3 G3 scope inner its p) := blkH_hot hot
  have loop : codeAny (model X.prog X.w) X.A (.compLoop (.ListComp elt [⟨tg, iter, ifs, 0⟩] scope pos) 0 (.ref it) (.ref D) inner) (compPost (model X.prog X.w) X.A X.xe none (EP X pins σ Q) (.ref D) s3.heap.objs.size) s4 := by
    refine compLoop_any (fun n s' => ∃ i G', Inv (blkH X s3 G3 scope inner its p) [] (wipe σ (own.map (·.2))) G' s' ∧ tn i s'.heap ∧ (∀ b ∈ its, G' b = none) ∧ W i n G') ?_ m0 ⟨0, G3, I5, st4, noIts, w0⟩
    rintro n s5 ⟨i, G5, I6, st5, n5, w5⟩
    rcases turn i n G5 w5 with ⟨stop, goal⟩ | ⟨go, Nx, next, step⟩
    · refine thnF (T.done (blkH X s3 G3 scope inner its p) rfl rfl rfl hotB i [] s5 _ G5 (fun _ _ => False) I6 (stand I6 n5) st5 stop) fun r s6 ⟨hr, I7⟩ => ?_
      subst hr
      have I8 : Inv X pins σ G5 s6 := I3.call' (ch := its) I7.os I7.base I7.hok I7.bare fun b hb => ⟨(far3 b hb).1.2.2.2.1, (far3 b hb).1.2.1, (far3 b hb).1.2.2.2.2.1, (far3 b hb).1.2.2.2.2.2⟩
      have nC : G5 s3.heap.objs.size = none := by
        rw [← place]
        exact I7.free
      obtain ⟨m, ns, _⟩ := I7.loc
      have ns' : s6.heap.Ns s3.heap.objs.size m := by
        rw [← place]
        exact ns
      obtain ⟨f0, f1, f2, f3, f4, f5⟩ := I3.fpOk (H' := G5) (Nat.le_refl _) nC
      exact ⟨m, ns', fun h'' sb => ⟨.ref D, G5, I8.turned (t' := s6.toks) (fun b o hb e => (sb.2 b hb).trans e) f0 f1 f3 f4 f5, rfl, goal⟩⟩
    · refine thnF (T.item (blkH X s3 G3 scope inner its p) rfl rfl rfl hotB i [] s5 _ G5 (fun _ _ => False) I6 (stand I6 n5) st5 go) fun r s6 ⟨u, hr, drawn⟩ => ?_
      subst hr
      refine thnF drawn fun _ s7 ⟨x, G7, I7, r7, y7, st7, n7⟩ => ?_
      have I7p := I7.pinned (stand I7 n7) (T.obj _ _ st7)
      refine thnF (pg.run _ s7 _ G7 x u _ I7p r7 (step x G7 y7)) fun _ s8 ⟨σ8, G8, I8, same8, q8⟩ => ?_
      refine thnF (pt.run _ s8 σ8 G8 _ I8 q8) fun b s9 ⟨G9, I9, q9⟩ => ?_
      have done : ∀ {s' : Shared} {G' : Hp}, Inv (blkH X s3 G3 scope inner its p) ([] ++ pinsAt its s7.heap) σ8 G' s' → Nx G' → ∃ m, m < n ∧ ∃ i G', Inv (blkH X s3 G3 scope inner its p) [] (wipe σ (own.map (·.2))) G' s' ∧ tn i s'.heap ∧ (∀ b ∈ its, G' b = none) ∧ W i m G' := fun {s' G'} I' nx => by
        obtain ⟨m', lt, w'⟩ := next G' nx
        have pinned : ∀ b ∈ its, ∀ o, s7.heap.get? b = some o → s'.heap.get? b = some o ∧ G' b = none := fun b hb o e =>
          have z := I'.pin (b, o) (List.mem_append_right _ (List.mem_append_right _ (mem_pinsAt hb e)))
          ⟨z.1, z.2.1⟩
        have len : (wipe σ (own.map (·.2))).length = σ8.length := by rw [← same8, wipe_length]
        refine ⟨m', lt, i + 1, G', (I'.unpinned (pins := [])).weak len (fun j v e => ?_), T.keep _ _ _ st7 fun b hb o e => (pinned b hb o e).1, fun b hb => ?_, w'⟩
        · rw [← same8] at e
          exact (wipe_some e).1
        · obtain ⟨o, e, _⟩ := T.obj _ _ st7 b hb
          exact (pinned b hb o e).2
      cases b with
      | false =>
        rw [if_neg Bool.false_ne_true] at q9 ⊢
        exact done I9 q9
      | true =>
        rw [if_pos rfl] at q9 ⊢
        refine thnF (pe.run _ s9 σ8 G9 _ I9 q9) fun z s10 ⟨yv, G10, I10, r10, acc, at10, few10, nx⟩ => ?_
        exact app_ok (X := (blkH X s3 G3 scope inner its p)) I10 at10 few10 r10 fun s11 I11 => done I11 nx
  exact codeAny_compStart_list loop (T.self X.A 0 _ _ _ st4 loop)
end
end Le
set_option maxHeartbeats 1000000
/-! walks over lists, tuples and a dict's keys while an exception is handled -/
namespace Le
open PySem PySem.Spec PyProof.Rows L2 L2H HotX
section
variable {prog : Program} {w : World} {A : Around} {E : Value → Shared → Prop} {s : Shared}
/-- a list's walk is over, an exception r being handled -/
theorem over_list {it t r : Addr} {i : Nat} {items : Array Value} {Q : Option Value → Shared → Prop} (hot : HotAt A r s.heap) (nit : r ≠ it) (a : s.heap.IsListIter it t i) (b : s.heap.IsList t items) (e : items[i]? = none)
    (q : ∀ h', Heap.ExtBut it s.heap h' → Q none { s with heap := h' }) : wpAny (model prog w) A (pyNext (.ref it)) Q E s := by
  obtain ⟨ob, g, _, dd⟩ := id a
  obtain ⟨_, gt, _, _, dt⟩ := b
  obtain ⟨hh, o1, vs1, g1, d1, c1⟩ := hot
  unfold pyNext
  refine wpAny_bind (wpAny_attempt (wpAny_callSpecial?_slot (name := Str.ofString "__next__") a.typeIs slot_listiter_next (wpAny_call_entry slot_listiter_next a.typeIs entry_listiter_next ?_ (args_listiter_next _))))
  show wpAny _ _ (field (.ref it) 0 >>= _) _ _ s ; refine wpAny_bind (wpAny_field g dd (x := .ref t) rfl ?_)
  show wpAny _ _ (if (Value.ref t == Value.none) = true then _ else _) _ _ s ; rw [if_neg (by simp)]
  show wpAny _ _ (field (.ref it) 1 >>= _) _ _ s ; refine wpAny_bind (wpAny_field g dd (x := .int i 0) rfl ?_)
  show wpAny _ _ (seqItems? (.ref t) >>= _) _ _ s ; refine wpAny_bind (wpAny_seqItems gt dt ?_)
  simp only [Int.toNat_natCast, e]
  refine wpAny_bind (wpAny_rule (wpAny_bind (wpAny_setField g dd (by simp) ?_)))
  show wpAny _ _ (newExc (.type "StopIteration") [] >>= _) _ _ _ ; refine wpAny_bind ?_ ; simp only [newExc, newTuple]
  refine wpAny_bind (wpAny_newObj_type (wpAny_bind (m := firstArgMember _ _) (wpAny_of_eq (a := Value.none) (by first | rfl | (simp only [firstArgMember]; rfl)) (wpAny_newObj_type ?_ (by size_fits)))) (by size_fits))
  have kept : ∀ {u : Obj}, s.heap.get? r = some u → (s.heap.update it (Obj.mapFields (·.setIfInBounds 0 .none))).get? r = some u := fun z => (Heap.get?_update_other _ _ (Ne.symm nit)).trans z
  have g2 := Heap.get?_push_of_some { cls := .type "tuple", data := .seq #[] } (kept g1)
  refine raiseNew_hot ⟨hh, o1, vs1, Heap.get?_push_of_some _ g2, d1, c1⟩ (Nat.ne_of_lt (Heap.lt_size g2)) (Heap.get?_push_size _ rfl) rfl (by first | (simp; done) | (simp; omega) | (simp only [Array.size_append]; simp; omega)) ?_
  refine wpAny_bind (wpAny_isInstance (T := "StopIteration") (b := true) ⟨_, Heap.get?_update_self _ (Heap.get?_push_size _ rfl) rfl, rfl⟩ isSubtype_stop (wpAny_pure (q _ fun c u nc z => ?_)))
  have z1 : (s.heap.update it (Obj.mapFields (·.setIfInBounds 0 .none))).get? c = some u := (Heap.get?_update_other _ _ (Ne.symm nc)).trans z
  have z2 := Heap.get?_push_of_some { cls := .type "tuple", data := .seq #[] } z1
  rw [Heap.get?_update_other _ _ (Nat.ne_of_gt (Heap.lt_size z2))]
  exact Heap.get?_push_of_some _ z2
/-- a tuple's walk is over, an exception r being handled -/
theorem over_tuple {it t r : Addr} {i : Nat} {items : Array Value} {Q : Option Value → Shared → Prop} (hot : HotAt A r s.heap) (nit : r ≠ it) (a : s.heap.IsTupleIter it t i) (b : s.heap.IsTuple t items) (e : items[i]? = none)
    (q : ∀ h', Heap.ExtBut it s.heap h' → Q none { s with heap := h' }) : wpAny (model prog w) A (pyNext (.ref it)) Q E s := by
  obtain ⟨ob, g, _, dd⟩ := id a
  obtain ⟨_, gt, _, _, dt⟩ := b
  obtain ⟨hh, o1, vs1, g1, d1, c1⟩ := hot
  unfold pyNext
  refine wpAny_bind (wpAny_attempt (wpAny_callSpecial?_slot (name := Str.ofString "__next__") a.typeIs F.slot_tuple_iterator_next (wpAny_call_entry F.slot_tuple_iterator_next a.typeIs F.entry_tuple_iterator_next ?_ (F.args_tuple_iterator_next_1 _))))
  show wpAny _ _ (field (.ref it) 0 >>= _) _ _ s ; refine wpAny_bind (wpAny_field g dd (x := .ref t) rfl ?_)
  show wpAny _ _ (if (Value.ref t == Value.none) = true then _ else _) _ _ s ; rw [if_neg (by simp)]
  show wpAny _ _ (field (.ref it) 1 >>= _) _ _ s ; refine wpAny_bind (wpAny_field g dd (x := .int i 0) rfl ?_)
  show wpAny _ _ (seqItems? (.ref t) >>= _) _ _ s ; refine wpAny_bind (wpAny_seqItems gt dt ?_)
  simp only [Int.toNat_natCast, e]
  refine wpAny_bind (wpAny_rule (wpAny_bind (wpAny_setField g dd (by simp) ?_)))
  show wpAny _ _ (newExc (.type "StopIteration") [] >>= _) _ _ _ ; refine wpAny_bind ?_ ; simp only [newExc, newTuple]
  refine wpAny_bind (wpAny_newObj_type (wpAny_bind (m := firstArgMember _ _) (wpAny_of_eq (a := Value.none) (by first | rfl | (simp only [firstArgMember]; rfl)) (wpAny_newObj_type ?_ (by size_fits)))) (by size_fits))
  have kept : ∀ {u : Obj}, s.heap.get? r = some u → (s.heap.update it (Obj.mapFields (·.setIfInBounds 0 .none))).get? r = some u := fun z => (Heap.get?_update_other _ _ (Ne.symm nit)).trans z
  have g2 := Heap.get?_push_of_some { cls := .type "tuple", data := .seq #[] } (kept g1)
  refine raiseNew_hot ⟨hh, o1, vs1, Heap.get?_push_of_some _ g2, d1, c1⟩ (Nat.ne_of_lt (Heap.lt_size g2)) (Heap.get?_push_size _ rfl) rfl (by first | (simp; done) | (simp; omega) | (simp only [Array.size_append]; simp; omega)) ?_
  refine wpAny_bind (wpAny_isInstance (T := "StopIteration") (b := true) ⟨_, Heap.get?_update_self _ (Heap.get?_push_size _ rfl) rfl, rfl⟩ isSubtype_stop (wpAny_pure (q _ fun c u nc z => ?_)))
  have z1 : (s.heap.update it (Obj.mapFields (·.setIfInBounds 0 .none))).get? c = some u := (Heap.get?_update_other _ _ (Ne.symm nc)).trans z
  have z2 := Heap.get?_push_of_some { cls := .type "tuple", data := .seq #[] } z1
  rw [Heap.get?_update_other _ _ (Nat.ne_of_gt (Heap.lt_size z2))]
  exact Heap.get?_push_of_some _ z2
/-- a walk over a dict's keys is over, an exception r being handled -/
theorem over_keys {it d r : Addr} {i n ep : Nat} {od : Obj} {es : Array DictEntry} {Q : Option Value → Shared → Prop} (hot : HotAt A r s.heap) (nit : r ≠ it) (a : s.heap.IsKeyIter it d i n ep) (god : s.heap.get? d = some od) (dod : od.data = .dict es ep) (many : es.size = n) (le : n ≤ i)
    (q : ∀ h', Heap.ExtBut it s.heap h' → Q none { s with heap := h' }) : wpAny (model prog w) A (pyNext (.ref it)) Q E s := by
  obtain ⟨ob, g, _, dd⟩ := id a
  obtain ⟨hh, o1, vs1, g1, d1, c1⟩ := hot
  have past : es.size ≤ i := by omega
  unfold pyNext
  refine wpAny_bind (wpAny_attempt (wpAny_callSpecial?_slot (name := Str.ofString "__next__") a.typeIs F.slot_dict_keyiterator_next (wpAny_call_entry F.slot_dict_keyiterator_next a.typeIs F.entry_dict_keyiterator_next ?_ (F.args_dict_keyiterator_next_1 _))))
  refine wpAny_bind (wpAny_pure ?_) ; refine wpAny_bind ?_ ; refine wpAny_bind ?_
  first | refine wpAny_bind (wpAny_typeNameOfWhole_keyiter a.typeIs (wpAny_pure ?_)) | refine wpAny_bind (wpAny_typeNameOf_keyiter a.typeIs (wpAny_pure ?_))
  refine wpAny_bind (wpAny_fieldsOf g dd ?_)
  simp only [show Builtin.Dict_items.ownsTuple "dict_keyiterator" = false by decide, Bool.false_eq_true, if_false]
  show wpAny _ _ (if (Value.ref d == Value.none) = true then _ else _) _ _ s ; rw [if_neg (by simp)]
  refine wpAny_bind (wpAny_pure (wpAny_bind (wpAny_dictEntries god dod ?_)))
  rw [if_neg (by rw [many] <;> simp)]
  refine wpAny_bind (wpAny_pure (wpAny_bind (wpAny_dictEpoch god dod ?_)))
  rw [if_neg (by simp)]
  refine wpAny_pure ?_ ; simp only [show ¬ ((i : Int) < 0) from by omega, if_false, Int.toNat_natCast, Array.getElem?_eq_none past] ; refine wpAny_bind ?_
  first | refine wpAny_bind (wpAny_typeNameOfWhole_keyiter a.typeIs (wpAny_pure ?_)) | refine wpAny_bind (wpAny_typeNameOf_keyiter a.typeIs (wpAny_pure ?_))
  show wpAny _ _ (setField (.ref it) 0 .none >>= _) _ _ s ; refine wpAny_bind (wpAny_setField g dd (by simp) ?_)
  show wpAny _ _ (newExc (.type "StopIteration") [] >>= _) _ _ _ ; refine wpAny_bind ?_ ; simp only [newExc, newTuple]
  refine wpAny_bind (wpAny_newObj_type (wpAny_bind (m := firstArgMember _ _) (wpAny_of_eq (a := Value.none) (by first | rfl | (simp only [firstArgMember]; rfl)) (wpAny_newObj_type ?_ (by size_fits)))) (by size_fits))
  have kept : ∀ {u : Obj}, s.heap.get? r = some u → (s.heap.update it (Obj.mapFields (·.setIfInBounds 0 .none))).get? r = some u := fun z => (Heap.get?_update_other _ _ (Ne.symm nit)).trans z
  have g2 := Heap.get?_push_of_some { cls := .type "tuple", data := .seq #[] } (kept g1)
  refine raiseNew_hot ⟨hh, o1, vs1, Heap.get?_push_of_some _ g2, d1, c1⟩ (Nat.ne_of_lt (Heap.lt_size g2)) (Heap.get?_push_size _ rfl) rfl (by first | (simp; done) | (simp; omega) | (simp only [Array.size_append]; simp; omega)) ?_
  refine wpAny_bind (wpAny_isInstance (T := "StopIteration") (b := true) ⟨_, Heap.get?_update_self _ (Heap.get?_push_size _ rfl) rfl, rfl⟩ isSubtype_stop (wpAny_pure (q _ fun c u nc z => ?_)))
  have z1 : (s.heap.update it (Obj.mapFields (·.setIfInBounds 0 .none))).get? c = some u := (Heap.get?_update_other _ _ (Ne.symm nc)).trans z
  have z2 := Heap.get?_push_of_some { cls := .type "tuple", data := .seq #[] } z1
  rw [Heap.get?_update_other _ _ (Nat.ne_of_gt (Heap.lt_size z2))]
  exact Heap.get?_push_of_some _ z2
end
theorem turn_listH {P : Program} {w : World} {K : PySem.W.Frag} {tg : Expr} (a it : Addr) : TurnH P w K tg (Itl K a) [it] it (fun i h => h.IsListIter it a i) where
  mem := List.mem_cons_self
  obj := fun i h st b hb => by
    rw [List.mem_singleton.mp hb]
    exact ⟨_, st.choose_spec.1, fun v z => by rw [st.choose_spec.2.2] at z; cases z⟩
  keep := fun i h h' st k => st.at fun o e => k it List.mem_cons_self o e
  item := by
    rintro X rfl rfl rfl _ i pins s σ H E I far st ⟨xs, x, hq, hx⟩
    obtain ⟨its, rel, place, _⟩ := I.list hq
    obtain ⟨u, hu, ru⟩ := rel.get hx
    obtain ⟨f0, f1, f2, f3, f4, f5⟩ := far it List.mem_cons_self
    refine wpAny_pyNext_list_item st (show s.heap.IsList a its.toArray from place.isList) (x := u) (by simpa using hu) fun h' st' sb => ?_
    have I1 : Inv X pins σ H { s with heap := h' } := I.turned (t' := s.toks) (fun b o hb e => (sb.2 b hb).trans e) f0 f1 f3 f4 f5
    obtain ⟨o, e, c, d⟩ := id st'
    exact ⟨u, rfl, go_of (s := { s with heap := h' }) e c d (by decide) ⟨x, H, I1, ru, ⟨rfl, fun ys hy => by rw [I.list_inj hy hq]; exact hx⟩, st', fun b hb => (far b hb).1⟩⟩
  done := by
    rintro X rfl rfl rfl ⟨p, ⟨hh, v1, e1, c1⟩, inP⟩ i pins s σ H E I far st ⟨xs, hq, hx⟩
    obtain ⟨its, rel, place, _⟩ := I.list hq
    obtain ⟨f0, f1, f2, f3, f4, f5⟩ := far it List.mem_cons_self
    have len := rel.length
    exact over_list (r := p.1) ⟨hh, p.2, v1, (I.pin p (List.mem_append_left _ inP)).1, e1, c1⟩ (f5 p (List.mem_append_left _ inP)) st (show s.heap.IsList a its.toArray from place.isList) (by simp; omega) fun h' eb => ⟨rfl, I.turned (t' := s.toks) (fun b o hb e => eb b o hb e) f0 f1 f3 f4 f5⟩
  self := fun _ _ _ _ _ st h => wpAny_pyIter_listiter st h
theorem turn_tupleH {P : Program} {w : World} {K : PySem.W.Frag} {tg : Expr} (a it : Addr) : TurnH P w K tg (Itt K a) [it] it (fun i h => h.IsTupleIter it a i) where
  mem := List.mem_cons_self
  obj := fun i h st b hb => by
    rw [List.mem_singleton.mp hb]
    exact ⟨_, st.choose_spec.1, fun v z => by rw [st.choose_spec.2.2] at z; cases z⟩
  keep := fun i h h' st k => st.at fun o e => k it List.mem_cons_self o e
  item := by
    rintro X rfl rfl rfl _ i pins s σ H E I far st ⟨xs, x, hq, hx⟩
    obtain ⟨its, rel, place, _⟩ := I.tuple hq
    obtain ⟨u, hu, ru⟩ := rel.get hx
    obtain ⟨f0, f1, f2, f3, f4, f5⟩ := far it List.mem_cons_self
    refine wpAny_pyNext_tuple_item st (show s.heap.IsTuple a its.toArray from place) (x := u) (by simpa using hu) fun h' st' sb => ?_
    have I1 : Inv X pins σ H { s with heap := h' } := I.turned (t' := s.toks) (fun b o hb e => (sb.2 b hb).trans e) f0 f1 f3 f4 f5
    obtain ⟨o, e, c, d⟩ := id st'
    exact ⟨u, rfl, go_of (s := { s with heap := h' }) e c d (by decide) ⟨x, H, I1, ru, ⟨rfl, fun ys hy => by rw [I.tuple_inj hy hq]; exact hx⟩, st', fun b hb => (far b hb).1⟩⟩
  done := by
    rintro X rfl rfl rfl ⟨p, ⟨hh, v1, e1, c1⟩, inP⟩ i pins s σ H E I far st ⟨xs, hq, hx⟩
    obtain ⟨its, rel, place, _⟩ := I.tuple hq
    obtain ⟨f0, f1, f2, f3, f4, f5⟩ := far it List.mem_cons_self
    have len := rel.length
    exact over_tuple (r := p.1) ⟨hh, p.2, v1, (I.pin p (List.mem_append_left _ inP)).1, e1, c1⟩ (f5 p (List.mem_append_left _ inP)) st (show s.heap.IsTuple a its.toArray from place) (by simp; omega) fun h' eb => ⟨rfl, I.turned (t' := s.toks) (fun b o hb e => eb b o hb e) f0 f1 f3 f4 f5⟩
  self := fun _ _ _ _ _ st h => wpAny_pyIter_tupleiter st h
theorem pi_listH {X : Cx} {tg l : Expr} {tl : TE} (hl : PE X l tl) : PIH X tg l (iList X.K tl) := by
  refine ⟨fun pins s σ H R I start => thn (hl.run pins s σ H _ I start) fun v s1 ⟨x, H1, I1, r1, a, ex, ⟨xs, hq⟩, q⟩ => ?_⟩
  subst ex
  cases r1
  obtain ⟨its, _, place, _⟩ := I1.list hq
  refine wpAny_pyIter_list (show s1.heap.IsList a its.toArray from place.isList) ⟨s1.heap.objs.size, [s1.heap.objs.size], _, _, H1, rfl, I1.kept (t' := s1.toks) fun b o e => Heap.get?_push_of_some _ e, turn_listH a _, ⟨_, Heap.get?_push_size _ rfl, rfl, rfl⟩, fun b hb => ?_, q⟩
  rw [List.mem_singleton.mp hb]
  exact I1.fpOk (Nat.le_refl _) (I1.hok.fresh (Nat.le_refl _))
theorem pi_tupleH {X : Cx} {tg l : Expr} {tl : TE} (hl : PE X l tl) : PIH X tg l (iTup X.K tl) := by
  refine ⟨fun pins s σ H R I start => thn (hl.run pins s σ H _ I start) fun v s1 ⟨x, H1, I1, r1, a, ex, ⟨xs, hq⟩, q⟩ => ?_⟩
  subst ex
  cases r1
  obtain ⟨its, _, place, _⟩ := I1.tuple hq
  refine wpAny_pyIter_tuple (show s1.heap.IsTuple a its.toArray from place) ⟨s1.heap.objs.size, [s1.heap.objs.size], _, _, H1, rfl, I1.kept (t' := s1.toks) fun b o e => Heap.get?_push_of_some _ e, turn_tupleH a _, ⟨_, Heap.get?_push_size _ rfl, rfl, rfl⟩, fun b hb => ?_, q⟩
  rw [List.mem_singleton.mp hb]
  exact I1.fpOk (Nat.le_refl _) (I1.hok.fresh (Nat.le_refl _))
end Le
/-! the face of a thing, asked where an exception is being handled -/
namespace Le
open PySem PySem.Spec PyProof.Rows L2 L2H HotX
section
variable {P : Program} {w : World} {K : PySem.W.Frag} {tg : Expr} {d : Addr} {o : Obj} {es : Array DictEntry} {ep : Nat}
theorem turn_keysH {kvs : List (Key × V)} (it : Addr) (hod : o.data = .dict es ep) : TurnH P w K tg (Itk d o kvs) [it] it (fun i h => h.IsKeyIter it d i kvs.length ep) where
  mem := List.mem_cons_self
  obj := fun i h st b hb => by
    rw [List.mem_singleton.mp hb]
    exact ⟨_, st.choose_spec.1, fun v z => by rw [st.choose_spec.2.2] at z; cases z⟩
  keep := fun i h h' st k => st.at fun oi e => k it List.mem_cons_self oi e
  item := by
    rintro X rfl rfl rfl _ i pins s σ H E I far st ⟨hd, hi⟩
    obtain ⟨f0, f1, f2, f3, f4, f5⟩ := far it List.mem_cons_self
    obtain ⟨hs, hgd, hx, es', ep', vs, hdt, hsz, kv, hm⟩ := I.frzK hd
    obtain ⟨rfl, rfl⟩ := dict_ep hod hdt
    obtain ⟨⟨k, v⟩, hkv⟩ : ∃ p, kvs[i]? = some p := ⟨kvs[i], List.getElem?_eq_getElem hi⟩
    obtain ⟨u, hu, ru⟩ := kv_get kv hkv
    have many : kvs.length = vs.length := Paired.length kv
    rw [many] at st
    refine wpAny_pyNext_dict_item st hm hu fun key h' hkey st' sb => ?_
    have I1 : Inv X pins σ H { s with heap := h' } := I.turned (t' := s.toks) (fun b ob hb e => (sb.2 b hb).trans e) f0 f1 f3 f4 f5
    obtain ⟨oi, e, c, dd⟩ := id st'
    refine ⟨key, rfl, go_of (s := { s with heap := h' }) e c dd (by decide) ⟨kV k, H, I1, relV_key (show keyIs k key = true from hkey), ⟨rfl, k, v, hkv, rfl⟩, ?_, fun b hb => (far b hb).1⟩⟩
    show h'.IsKeyIter it d (i + 1) kvs.length _ ; rw [many]
    exact st'
  done := by
    rintro X rfl rfl rfl ⟨p, ⟨hh, v1, e1, c1⟩, inP⟩ i pins s σ H E I far st ⟨hd, hi⟩
    obtain ⟨f0, f1, f2, f3, f4, f5⟩ := far it List.mem_cons_self
    obtain ⟨hs, hgd, hx, es', ep', vs, hdt, hsz, kv, hm⟩ := I.frzK hd
    obtain ⟨rfl, rfl⟩ := dict_ep hod hdt
    exact over_keys (r := p.1) ⟨hh, p.2, v1, (I.pin p (List.mem_append_left _ inP)).1, e1, c1⟩ (f5 p (List.mem_append_left _ inP)) st hgd hdt hsz hi fun h' eb => ⟨rfl, I.turned (t' := s.toks) (fun b ob hb e => eb b ob hb e) f0 f1 f3 f4 f5⟩
  self := fun A i s Q E st h => wpAny_pyIter_keyiter st h
end
theorem pi_keysH {X : Cx} {tg e : Expr} {td : TE} (he : PE X e td) : PIH X tg e (iKeysM td) := by
  refine ⟨fun pins s σ H R I start => thn (he.run pins s σ H _ I start) fun u s1 ⟨x, H1, I1, rx, d, o, kvs, ex, hd, q⟩ => ?_⟩
  subst ex
  obtain rfl : u = Value.ref d := rx
  obtain ⟨hs, hgd, hx, es, ep, vs, hdt, hsz, kv, hm⟩ := I1.frzK hd
  refine iter_keys hs hgd hx hdt ⟨s1.heap.objs.size, [s1.heap.objs.size], _, _, H1, rfl, I1.kept (t' := s1.toks) fun b o e => Heap.get?_push_of_some _ e, turn_keysH _ hdt, ⟨_, Heap.get?_push_size _ rfl, rfl, ?_⟩, fun b hb => ?_, q⟩
  · rw [hsz] <;> rfl
  · rw [List.mem_singleton.mp hb]
    exact I1.fpOk (Nat.le_refl _) (I1.hok.fresh (Nat.le_refl _))
section
variable {P : Program} {w : World} {K : PySem.W.Frag} {mg : Str → Option Value} {base : Heap}
/-- as Fun.ok, for a def that is called where an exception is being handled -/
theorem okHot {CX : CXT} {x qual : Str} {st : Stmt} {f : Addr} {fd : FuncData} {N ps : List Str} {k : Nat} {sp : Sp} (F : Fun K x qual st f fd) (S : FnScope N ps (defScope st)) (len : ∀ vs H Q E, sp vs H Q E → vs.length = ps.length)
    (body : ∀ (cdv : Value) (A : Around) (outer : List Env) (s : Shared) (H : Hp) (vs : List V) (Q : VK) (E : XK) (p : Addr × Obj), Hot1 A p → RoomH k (A.deeper (envOfC qual (defScope st) s.heap.objs.size f cdv)) → sp vs H Q E →
      ∃ t, PSs (cxH CX P w K mg base N qual (defScope st) f cdv A outer s H E p) (defBody st) t ∧ t { nx := fun _ H' => Q .non H', rt := Q } (L2.start N vs) H) : FnH P w K mg base CX (k + 1) f fd ps sp := by
  obtain ⟨_, _, _, _, _, _, _, _, _, rfl, at_, code⟩ := F.ex
  exact fn_ofH at_ code S len (body _)
end
end Le
namespace Wb
open PySem L2 L2H Le
section
variable {P : Program} {w : World} {K : PySem.W.Frag} {mg : Str → Option Value} {base : Heap} {f : Addr} {fd : FuncData}
theorem passH0 {X : Cx} {E : L2.St → XK} : ∀ σ, PassesAt CX0 X σ (E σ) := fun _ _ _ _ _ _ _ z => (show False from z).elim
theorem faceH_none : FnH P w K mg base CX0 1 f fd ["_law_thing"] (spFace K 0) :=
  ⟨fun vs H Q E h => by obtain ⟨v, d, rfl, z, _⟩ := h; exact z.elim, fun A outer s H args us vs Q E p hr hot pin e0 hb hv h => by obtain ⟨v, d, rfl, z, _⟩ := h; exact z.elim⟩
set_option maxHeartbeats 0 in
theorem faceH_more {n : Nat} (D : Fun K "_law_face" "_law_face" sFace f fd) (g : mg "_law_face" = some (.ref f)) (kp : PySem.W.keepIn K (.ref f) = true) (b : Binds K fd ["_law_thing"] []) (Z : FreeT mg)
    (G : FnH P w K mg base CX0 (n + 1) f fd ["_law_thing"] (spFace K n)) : FnH P w K mg base CX0 (n + 2) f fd ["_law_thing"] (spFace K (n + 1)) := by
  refine okHot D scFace (fun vs H Q E h => ?_) (fun cdv A outer s H vs Q E p hot hr h => ?_)
  · obtain ⟨v, d, rfl, _⟩ := h
    rfl
  · obtain ⟨v, d, rfl, th, k⟩ := h
    have units : (A.deeper (PyProof.Rows.envOfC "_law_face" (defScope sFace) s.heap.objs.size f cdv)).units + 1 < cLine := by have := hr.un; omega
    refine ⟨_, pss_cons (ps_if (pt_val (pe_callB call_isi (by rfl) Z.isi (by decide +kernel) (pa_cons (pv 0) (pa_cons (pe_bltn (v := .ty "tuple") (u := .type "tuple") (by rfl) Z.tup (by decide +kernel) rfl) pa_nil))))
        (pss_one (ps_ret (pe_op op_cat (pe_lst (pa_cons pe_str pa_nil))
          (pe_lcH (own := [("_law_part", 1)]) (g := gName 1) (tt := tYes) ⟨p, hot, List.mem_cons_self⟩ scFace.nd (pi_tupleH (pv 0)) (blkOk_by (N := NF) (sc := defScope sFace) (by decide +kernel)) (fun _ _ _ _ _ _ _ => pg_name (i := 1) scFace.nd rfl (.inl rfl)) (fun _ _ _ _ _ _ _ => pts_nil)
            (fun _ _ _ _ _ _ hb => (pe_callH (E := fun _ => E0) G hr (blkH_hot hb) rfl g kp b passH0 (pa_cons (pv 1) pa_nil))))))) pss_nil)
      (pss_cons (ps_if (pt_val (pe_callB call_isi (by rfl) Z.isi (by decide +kernel) (pa_cons (pv 0) (pa_cons (pe_bltn (v := .ty "list") (u := .type "list") (by rfl) Z.lst (by decide +kernel) rfl) pa_nil))))
        (pss_one (ps_ret (pe_op op_cat (pe_lst (pa_cons pe_str pa_nil))
          (pe_lcH (own := [("_law_part", 1)]) (g := gName 1) (tt := tYes) ⟨p, hot, List.mem_cons_self⟩ scFace.nd (pi_listH (pv 0)) (blkOk_by (N := NF) (sc := defScope sFace) (by decide +kernel)) (fun _ _ _ _ _ _ _ => pg_name (i := 1) scFace.nd rfl (.inl rfl)) (fun _ _ _ _ _ _ _ => pts_nil)
            (fun _ _ _ _ _ _ hb => (pe_callH (E := fun _ => E0) G hr (blkH_hot hb) rfl g kp b passH0 (pa_cons (pv 1) pa_nil))))))) pss_nil)
      (pss_cons (ps_if (pt_val (pe_callB call_isi (by rfl) Z.isi (by decide +kernel) (pa_cons (pv 0) (pa_cons (pe_bltn (v := .ty "dict") (u := .type "dict") (by rfl) Z.dct (by decide +kernel) rfl) pa_nil))))
        (pss_one (ps_ret (pe_op op_cat (pe_lst (pa_cons pe_str pa_nil))
          (pe_lock (pe_lcH (own := [("_law_key", 2)]) (g := gName 2) (tt := tYes) ⟨p, hot, List.mem_cons_self⟩ scFace.nd (pi_keysH (pv 0)) (blkOk_by (N := NF) (sc := defScope sFace) (by decide +kernel)) (fun _ _ _ _ _ _ _ => pg_name (i := 2) scFace.nd rfl (.inl rfl)) (fun _ _ _ _ _ _ _ => pts_nil)
            (fun _ _ _ _ _ _ hb => pe_lst (pa_cons (pe_callH (E := fun _ => E0) G hr (blkH_hot hb) rfl g kp b passH0 (pa_cons (pv 2) pa_nil)) (pa_cons (pe_callH (E := fun _ => E0) G hr (blkH_hot hb) rfl g kp b passH0 (pa_cons (pe_dget units (pv 0) (pv 2) (fun _ _ => rfl)) pa_nil)) pa_nil)))))))) pss_nil)
      (pss_one (ps_ret (pe_lst (pa_cons (pe_ifExp (pt_val (pe_callB call_isi (by rfl) Z.isi (by decide +kernel) (pa_cons (pv 0) (pa_cons (pe_bltn (v := .ty "bool") (u := .type "bool") (by rfl) Z.bool (by decide +kernel) rfl) pa_nil)))) pe_str pe_str) (pa_cons (pv 0) pa_nil))))))), ?_⟩
    rcases th with lf | ⟨a, xs, ds, rfl, ha, few, parts, rfl⟩ | ⟨a, xs, ds, rfl, ha, few, parts, rfl⟩ | ⟨a, ks, xs, ds, rfl, ha, nd, len, few, parts, rfl⟩
    · obtain ⟨t, c, d', ty, k1, k2, k3, k4, rfl, dp⟩ := leaf_ty (K := K) (H := H) lf
      refine ⟨_, rfl, _, _, .type t, .type "tuple", false, rfl, .ty "tuple", ty, k1, false, rfl, iteF ?_⟩
      refine ⟨_, rfl, _, _, .type t, .type "list", false, rfl, .ty "list", ty, k2, false, rfl, iteF ?_⟩
      refine ⟨_, rfl, _, _, .type t, .type "dict", false, rfl, .ty "dict", ty, k3, false, rfl, iteF ?_⟩
      refine ⟨_, rfl, _, _, .type t, .type "bool", c, rfl, .ty "bool", ty, k4, c, rfl, ?_⟩
      cases c with
      | true => exact iteT ⟨_, rfl, (by show 2 ≤ sizeLine; decide), fun q hq => k q _ hq (Same.new2 (Same.refl H) hq) (.lst (SqL.of ((New.at hq).trans upd_same)) (.cons (.str _) (.cons (dp _) .nil)))⟩
      | false => exact iteF ⟨_, rfl, (by show 2 ≤ sizeLine; decide), fun q hq => k q _ hq (Same.new2 (Same.refl H) hq) (.lst (SqL.of ((New.at hq).trans upd_same)) (.cons (.str _) (.cons (dp _) .nil)))⟩
    · refine ⟨_, rfl, _, _, .type "list", .type "tuple", false, rfl, .ty "tuple", .base (.lst ha), kit_ty (by decide +kernel), false, rfl, iteF ?_⟩
      refine ⟨_, rfl, _, _, .type "list", .type "list", true, rfl, .ty "list", .base (.lst ha), kit_ty (by decide +kernel), true, rfl, iteT ?_⟩
      have mk : ∀ L, H L = none → Same H (upd H L (.lst [.str "list"])) := fun L hL => Same.new2 (Same.refl H) hL
      refine ⟨(by show 1 ≤ sizeLine; decide), fun L hL => ⟨_, rfl, a, rfl, ⟨xs, SqL.of (mk L hL _ _ ha)⟩, fun D hD => ?_⟩⟩
      refine lc_it (walk_list (xs := xs)) (FacePv K (upd H L (.lst [.str "list"])) D ds) (FacePv.start hD) (fun i H3 _ q => SqL.of (q.same hD _ _ (mk L hL _ _ ha))) ?_ ?_
      · rintro i x H3 H3' hi q ⟨rfl, hx⟩
        obtain ⟨y, hy, th⟩ := parts.get hx
        refine ⟨rfl, _, rfl, x, y, rfl, th.same ((mk L hL).trans (q.same hD)), fun c H5 hc s5 d5 => q.step hD hy hc s5 d5 (by omega)⟩
      · rintro H3 q
        exact q.done hD hL parts.len few k
    · refine ⟨_, rfl, _, _, .type "tuple", .type "tuple", true, rfl, .ty "tuple", .base (.tup ha), kit_ty (by decide +kernel), true, rfl, iteT ?_⟩
      have mk : ∀ L, H L = none → Same H (upd H L (.lst [.str "tuple"])) := fun L hL => Same.new2 (Same.refl H) hL
      refine ⟨(by show 1 ≤ sizeLine; decide), fun L hL => ⟨_, rfl, a, rfl, ⟨xs, SqT.of (mk L hL _ _ ha)⟩, fun D hD => ?_⟩⟩
      refine lc_it (walk_tup (xs := xs)) (FacePv K (upd H L (.lst [.str "tuple"])) D ds) (FacePv.start hD) (fun i H3 _ q => SqT.of (q.same hD _ _ (mk L hL _ _ ha))) ?_ ?_
      · rintro i x H3 H3' hi q ⟨rfl, hx⟩
        obtain ⟨y, hy, th⟩ := parts.get hx
        refine ⟨rfl, _, rfl, x, y, rfl, th.same ((mk L hL).trans (q.same hD)), fun c H5 hc s5 d5 => q.step hD hy hc s5 d5 (by omega)⟩
      · rintro H3 q
        exact q.done hD hL parts.len few k
    · refine ⟨_, rfl, _, _, .type "dict", .type "tuple", false, rfl, .ty "tuple", .base (.dK ha), kit_ty (by decide +kernel), false, rfl, iteF ?_⟩
      refine ⟨_, rfl, _, _, .type "dict", .type "list", false, rfl, .ty "list", .base (.dK ha), kit_ty (by decide +kernel), false, rfl, iteF ?_⟩
      refine ⟨_, rfl, _, _, .type "dict", .type "dict", true, rfl, .ty "dict", .base (.dK ha), kit_ty (by decide +kernel), true, rfl, iteT ?_⟩
      have mk : ∀ L, H L = none → Same H (upd H L (.lst [.str "dict"])) := fun L hL => Same.new2 (Same.refl H) hL
      refine ⟨(by show 1 ≤ sizeLine; decide), fun L hL => ⟨a, .dK (kvsOf ks xs), mk L hL _ _ ha, trivial, fun od => ⟨_, rfl, a, od, _, rfl, upd_same, fun D hD => ?_⟩⟩⟩
      have klen : (kvsOf ks xs).length = xs.length := by unfold kvsOf; rw [List.length_zipWith]; omega
      have dlen : (List.zipWith keyD ks ds).length = xs.length := by have := parts.len; rw [List.length_zipWith]; omega
      refine lc_it (walk_keys (kvs := kvsOf ks xs)) (FacePv K (upd (upd H L (.lst [.str "dict"])) a (.frz od (.dK (kvsOf ks xs)))) D (List.zipWith keyD ks ds)) (FacePv.start hD) (fun i H3 _ q => q.same hD _ _ upd_same) ?_ ?_
      · rintro i x H3 H3' hi q ⟨rfl, kk, vv, hk, rfl⟩
        obtain ⟨kt, rfl, ek, ev⟩ := kvs_at hk
        obtain ⟨y, hy, th⟩ := parts.get ev
        have s3 := q.same hD
        have lo : Same (cut H a) H3' := cutH_to fun b o n h => s3 _ _ ((upd_ne n).trans (mk L hL _ _ h))
        refine ⟨rfl, _, rfl, .str kt, plainD (.str kt), rfl, ?_, fun c H5 hc s5 d5 => ⟨_, rfl, _, rfl, a, _, rfl, .inl ⟨kvsOf ks xs, Sum.inr kt, .inr ⟨od, s5 _ _ (s3 _ _ upd_same)⟩, rfl, (valV_at nd len ek ev).symm⟩, vv, y, rfl, th.same (lo.trans s5), fun c2 H6 hc2 s6 d6 => ?_⟩⟩
        · cases n with
          | zero => exact th.elim
          | succ m => exact .inl (.str kt)
        · refine ⟨(by show 2 ≤ sizeLine; decide), fun E hE => ?_⟩
          have s56 := s5.trans s6
          have nE3 := free_of s56 hE
          refine q.grow hD (y := keyD kt y) ?_ (s56.trans (Same.new2 (Same.refl _) hE)) (fun ys e => ?_) (by omega)
          · rw [List.getElem?_zipWith, ek, hy] <;> rfl
          · have nDE : E ≠ D := fun z => by
              rw [z, e] at nE3
              cases nE3
            have nB := free_of (q.same hD) nE3
            refine .lst (SqL.of (xs := [.ref c, .ref c2]) ((New.at (by rw [upd_ne nDE]; exact nB)).trans ?_)) (.cons (Dp.stay ?_ d5) (.cons (Dp.stay ?_ d6) .nil))
            · rw [upd_ne nDE, upd_same]
            · refine New.mono fun b o h1 h2 => ?_
              have n : b ≠ D := fun z => by
                rw [z, e] at h1
                cases h1
              have n2 : b ≠ E := ne_of_none (s6 _ _ h2) hE
              rw [upd_ne n, upd_ne n, upd_ne n2]
              exact ⟨free_of s3 h1, s6 _ _ h2⟩
            · refine New.mono fun b o h1 h2 => ?_
              have h1' := free_of s5 h1
              have n : b ≠ D := fun z => by
                rw [z, e] at h1'
                cases h1'
              have n2 : b ≠ E := ne_of_none h2 hE
              rw [upd_ne n, upd_ne n, upd_ne n2]
              exact ⟨free_of s3 h1', h2⟩
      · rintro H3 q
        refine ⟨q.same hD _ _ upd_same, (q.unlock hD (mk L hL _ _ ha)).done ?_ hL (klen.trans dlen.symm) (by omega) k⟩
        have nD : D ≠ a := fun z => by
          rw [z, upd_same] at hD
          cases hD
        exact (upd_ne nD).symm.trans hD
theorem ok_faceH (D' : Def K mg "_law_face" sFace ["_law_thing"] f fd) (Z : FreeT mg) : ∀ n, FnH P w K mg base CX0 (n + 1) f fd ["_law_thing"] (spFace K n)
  | 0 => faceH_none
  | n + 1 => faceH_more D'.F D'.g D'.kp D'.b Z (ok_faceH D' Z n)
end
end Wb
set_option maxHeartbeats 1000000
/-! C(e, ..) of an own class of errors with an own __init__, nothing being handled: its context is None -/
namespace Le
open PySem PySem.Spec PyProof.Rows L2
section
variable {X : Cx} {CX : CXT} {x : Str} {e : Expr} {es : List Expr} {ta : TA} {p pos : Pos} {C fI : Addr} {k : Nat} {fd : FuncData} {ps : List Str} {sp : Sp}
theorem pmk_calm (T : OexC X.K C) (ini : PySem.W.findIn X.K (.ref C) "__init__" = some (some (.ref fI))) (fun_ : PySem.W.typeIn X.K (.ref fI) = some (.type "function")) (F1 : FnOk X.prog X.w X.K X.mg X.base CX k fI fd ps sp) (hr : Room (k + 1) X.A) (hb : Binds X.K fd ps [])
    (quiet : Passes CX X fun _ _ _ => False) (gl : Gl X x) (gv : X.mg x = some (.ref C)) (ha : PA X (e :: es) ta) (nd : (x == ("__debug__" : Str)) = false := by decide) (st : starEach (e :: es) X.env = (false, eval e X.env) :: starEach es X.env := by rfl)
    (pl : (backTo pos (starEach es X.env)).any (·.1) = false := by rfl) : L2N.PMk X (.Call (.Name x p) (e :: es) [] pos) (tMkO C sp [] ta) := by
  intro pins s σ H Q I h
  obtain ⟨_, _, _, _, bm, _, _, _, _, _, _, _, _, _, _, cls, has⟩ := T.cls
  refine wpAny_Call_Name_kw (ld_glob I gl gv (PySem.W.callWith_K (h₀ := X.base) I.ok.mod.kin T.kC (thn (ha.run pos pins s σ H _ I h) fun us s1 ⟨vs, H1, I1, rel, few, goal⟩ => ⟨I1.kIn, ?_⟩) st pl) nd)
  obtain ⟨hp, g, dr, tk, os⟩ := s1
  obtain ⟨n, en⟩ : ∃ n, n = hp.objs.size + 1 := ⟨_, rfl⟩
  obtain ⟨h1, eh1⟩ : ∃ h1, h1 = (hp.push (PySem.W.kdv_tup us)).push (PySem.HandSPX.excO C hp.objs.size) := ⟨_, rfl⟩
  have up1 : hp.objs.size ≤ n := by rw [en]; exact Nat.le_succ _
  have fresh : H1 n = none := I1.hok.fresh up1
  have asked := goal n fresh
  rw [List.append_nil] at asked
  have kept : ∀ b o, hp.get? b = some o → h1.get? b = some o := fun b o z => by rw [eh1]; exact Heap.get?_push_of_some _ (Heap.get?_push_of_some _ z)
  have there : h1.get? n = some (PySem.HandSPX.excO C hp.objs.size) := by rw [eh1, en]; heap_get
  have I2 : Inv X pins σ (upd H1 n (exo n C none)) ⟨h1, g, dr, tk, os⟩ := I1.laid (t' := tk) (a := n) (o := exo n C none) (h' := h1) kept up1 (exo_ok there)
  have rel2 : Vals (V.ref n :: vs) (Value.ref n :: us) := .cons rfl rel
  have cnt : (Value.ref n :: us ++ []).length = ps.length := by rw [List.append_nil, ← rel2.length]; exact F1.len _ _ _ _ asked
  have b2 := hb _ (Value.ref n :: us) I2.kIn cnt
  rw [List.append_nil] at b2
  have small : us.length ≤ sizeLine := by rw [← Paired.length rel, sizeLine_eq]; omega
  show wpAny _ _ (call (.ref C) us) _ _ _
  have run := F1.run (X.A.under (.builtin "type.__call__" ⟨.ref C :: us, []⟩)) X.stack _ _ ⟨Value.ref n :: us, []⟩ (Value.ref n :: us) _ _ (fun _ _ _ => False) (hr.make C us []) (I2.env0.make C us []) b2 rel2 asked
  subst en
  subst eh1
  refine wpAny_call (PySem.HandSPX.call_own F.excBase_ValueError (fun Y => PySem.HandSPX.refsVE_contains Y bm has) (I1.kIn _ _ cls) (PySem.W.looks_findIn I1.kIn ini) (fun self => PySem.W.bind_fn I1.kIn self fun_) small (codeAny_mono run fun r s' q => ?_))
  cases r with
  | error er => exact quiet pins σ _ _ er s' I2 q
  | ok fl =>
    cases fl with
    | next => exact q.elim
    | brk => exact q.elim
    | cont => exact q.elim
    | ret u =>
      obtain ⟨v, H2, os2, bare2, un2, hok2, rv, ev, d, fs, ea, ed, hd1, q2⟩ := q
      subst ev
      obtain ⟨h2, g2, d2, t2, os'⟩ := s'
      obtain ⟨t0, G, J, kG, ge, hoe, na⟩ := mk_end0 (d2 := d2) (t2 := t2) I1 up1 kept un2 hok2 os2 bare2 ea ed hd1
      exact ⟨rv, hp.objs.size + 1, _, _, ⟨G, g2, d2, t2, os'⟩, _, .ref C, some d, rfl, J, kG, ge, hoe, ⟨rfl, rfl, fun vs hv => by cases hv; rfl⟩, rfl, rfl, na, rfl, bare2, raises_own T.exC T.tyC, q2⟩
end
end Le
set_option maxHeartbeats 1000000
/-! a def called with a lambda that may raise; of the exception it is kept that its context is None -/
namespace Le
open PySem PySem.Spec PyProof.Rows L2 LamX
/-- the context of the lambda's body -/
def lamX (X : Cx) (A : Around) (outer : List Env) (s : Shared) (H : Hp) (E : XK) (scope : Scope) (f c : Addr) : Cx :=
  (lamCx X A outer s H (fun _ _ _ => False) scope f c).wish fun u s' => wpAny (model X.prog X.w) (A.deeper (lamEnv X scope s.heap.objs.size f c)) (leaving (lamEnv X scope s.heap.objs.size f c) u) (fun _ s2 => L2N.CX X.prog X.w outer H s E u s2) (fun u2 s2 => L2N.CX X.prog X.w outer H s E u2 s2) s'
section
variable {X : Cx} {pins : List (Addr × Obj)} {σ : L2.St} {H HZ : Hp} {s s1 : Shared}
/-- act(), act the lambda, in the def that got it -/
theorem pe_actN {CXg : CXT} {Eg : XK} {Ng : List Str} {qg : Str} {sg : Scope} {g f c : Addr} {cdg pm ct : Value} {params : Arguments} {body : Expr} {scope : Scope} {k i : Nat} {a : Str} {pn : List (Addr × Obj)} {xe : Value → Shared → Prop} {W : WX} {t : XK → TE} {p1 p2 : Pos}
    (I : Inv X pins σ H s) (L : LamS X.env.scope scope) (there : s.heap.get? f = some (PySem.W.kla_obj "<lambda>" (X.env.qual ++ "<lambda>") params body scope (cloFrom X.env.cells scope.names []) pm c ct)) (nf : H f = none) (nfr : f ∉ frs X.stack)
    (noArgs : bindArgs (PySem.W.kla_fn "<lambda>" (X.env.qual ++ "<lambda>") params body scope (cloFrom X.env.cells scope.names []) pm (.ref c) ct) ⟨[], []⟩ = pure []) (tk : L2N.Takes ((cxOf CXg X.prog X.w X.K X.mg X.base Ng qg sg g cdg X.A X.stack s H Eg).tr pn xe) W)
    (hr : Room (k + 1) (X.A.deeper (envOfC qg sg s.heap.objs.size g cdg))) (inner : ∀ (A : Around) (outer : List Env) (s : Shared) (H : Hp) (E : XK), Room k (A.deeper (lamEnv X scope s.heap.objs.size f c)) → PE (lamX X A outer s H E scope f c) body (t E))
    (hN : Ng[i]? = some a) (hv : Vis sg a) (n1 : (a == ("__debug__" : Str)) = false := by decide) (n2 : (a == ("__classdict__" : Str)) = false := by decide) :
    PE ((cxOf CXg X.prog X.w X.K X.mg X.base Ng qg sg g cdg X.A X.stack s H Eg).tr pn xe) (.Call (.Name a p1) [] [] p2) (fun τ G Q => τ[i]? = some (some (.ref f)) ∧ G c = some (CodeO c (X.env.qual ++ "<lambda>")) ∧ t (fun cl d G' => W cl d τ G') σ G Q) := by
  refine ⟨fun pz sz τ G Q IZ ⟨hslot, hcode, goal⟩ => wpAny_Call_Name_kw (thn ((pe_var (pos := p1) (i := i) hN hv n1 n2).run pz sz τ G (fun v G1 => v = .ref f ∧ G1 = G) IZ ⟨.ref f, hslot, rfl, rfl⟩) fun u s1 ⟨v, G1, I1, rel, ev, eG⟩ => ?_)⟩
  subst ev
  rw [eG] at I1
  obtain rfl : u = Value.ref f := rel
  have still := I1.base.keep f _ there nf nfr (fun z => nomatch (show f ∈ ([] : List Addr) from z))
  have grown : Un (frs X.stack) [] H G s.heap s1.heap := I1.base
  obtain ⟨⟨oc, fs, t, g1, g2, g3⟩, _, _⟩ := I1.hok c _ hcode
  let E : XK := fun cl d G' => W cl d τ G'
  have ran : codeAny (model X.prog X.w) (X.A.deeper (envOfC qg sg s.heap.objs.size g cdg)) (.call (.ref f) ⟨[], []⟩) (CR (L2N.CX X.prog X.w) (envOfC qg sg s.heap.objs.size g cdg :: X.stack) X.prog X.w G s1 Q E) s1 := by
    refine PySem.W.kla_callFunE hr.depth still rfl L.co L.gen rfl ⟨c, oc, fs, t, rfl, g1, g2, g3⟩ ?_
    rw [noArgs]
    refine wpAny_pure (wpAny_newFunctionEnv (fun y hy => (L.own y hy).2) (fun y hy => absurd hy (by simp)) (fun h1 ns but => ⟨I1.nolimit.fresh _ but, ?_⟩) L.kind)
    have kept : ∀ b o, s1.heap.get? b = some o → h1.get? b = some o := fun b o z => but.extBut b o (Nat.ne_of_lt (Heap.lt_size z)) (Heap.get?_push_of_some _ z)
    have J := (lam_start2 (tk := s1.toks + ([] : List (Str × Value)).length) (E := fun _ _ _ => False) (c' := c) (f := f) I L I1.env0 hr.hd grown ns kept).wish fun u s' => wpAny (model X.prog X.w) ((X.A.deeper (envOfC qg sg s.heap.objs.size g cdg)).deeper (lamEnv X scope s1.heap.objs.size f c)) (leaving (lamEnv X scope s1.heap.objs.size f c) u)
      (fun _ s2 => L2N.CX X.prog X.w (envOfC qg sg s.heap.objs.size g cdg :: X.stack) G s1 E u s2) (fun u2 s2 => L2N.CX X.prog X.w (envOfC qg sg s.heap.objs.size g cdg :: X.stack) G s1 E u2 s2) s'
    refine PySem.W.kla_codeExpr (wpAny_mono ((inner _ _ s1 G E (hr.deeper _)).run [] _ _ G Q J goal) (fun v s' done => ?_) fun _ _ z => z)
    obtain ⟨v', G', J', rv, q⟩ := done
    exact ⟨v', G', J'.os, J'.bare, J'.base, J'.hok, rv, q⟩
  refine PySem.W.callWith_F0 ⟨_, _, _, _, still⟩ (wpAny_call (codeAny_mono ran fun r s' done => ?_))
  · cases r with
    | error e => exact tk e s' (L2N.XE.of_call I1 (fun _ _ _ h => h) done)
    | ok fl =>
      cases fl with
      | ret u => exact I1.after done
      | next => exact done.elim
      | brk => exact done.elim
      | cont => exact done.elim
end
end Le
set_option maxHeartbeats 1000000
/-! heard(lambda: ..): what the def that hears makes of the lambda's reading -/
namespace Le
open PySem PySem.Spec PyProof.Rows L2 LamX
/-- the context of the def at g that hears, called in X at s -/
abbrev heardCx (X : Cx) (Ng : List Str) (x : Str) (sg : Scope) (g : Addr) (cdg : Value) (s : Shared) (H : Hp) : Cx := cxOf C8.CX0 X.prog X.w X.K X.mg X.base Ng x sg g cdg X.A X.stack s H C8.E0
abbrev Act := XK → Hp → VK → Prop
def Hears (X : Cx) (Ng : List Str) (x : Str) (sg : Scope) (g : Addr) (cdg : Value) (bg : List Stmt) (a q : Str) (k : Nat) (TT : Act → Hp → VK → Prop) : Prop :=
  ∀ (f c : Addr) (s : Shared) (H : Hp) (Q : VK) (act : Act), Room k (X.A.deeper (envOfC x sg s.heap.objs.size g cdg)) →
    (∀ (W : WX) (pn : List (Addr × Obj)) (xe : Value → Shared → Prop) (p1 p2 : Pos), L2N.Takes ((heardCx X Ng x sg g cdg s H).tr pn xe) W →
      PE ((heardCx X Ng x sg g cdg s H).tr pn xe) (.Call (.Name a p1) [] [] p2) (fun τ G Q' => τ[0]? = some (some (.ref f)) ∧ G c = some (CodeO c q) ∧ act (fun cl d G' => W cl d τ G') G Q')) →
    H c = some (CodeO c q) → TT act H Q → ∃ t, PSs (heardCx X Ng x sg g cdg s H).nox bg t ∧ t { nx := fun _ H' => Q .non H', rt := Q } (L2.start Ng [.ref f]) H
section
variable {X : Cx}
/-- x(lambda: body) -/
theorem pe_heard {T : List (Addr × Str)} {TT : Act → Hp → VK → Prop} {x a : Str} {g c P : Addr} {k : Nat} {pg : Arguments} {bg : List Stmt} {sg : Scope} {dV kV doc pm cdv ct oc : Value} {an od : Option Addr} {osl : Array (Option Value)} {Ng : List Str} {params : Arguments} {body : Expr} {scope : Scope} {t : XK → TE} {p lp pos : Pos}
    (gl : Gl X x) (gv : X.mg x = some (.ref g)) (kp : PySem.W.keepIn X.K (.ref g) = true) (lk : X.K.lookup g = some ⟨oc, od, .func (PySem.W.fnOf x x pg bg sg dV kV doc pm an cdv ct), osl⟩) (cg : PySem.W.codeIn X.K cdv x = true)
    (bi : L2.Binds X.K (PySem.W.fnOf x x pg bg sg dV kV doc pm an cdv ct) [a] []) (Sg : FnScope Ng [a] sg) (hNg : Ng[0]? = some a) (va : Vis sg a) (hears : Hears X Ng x sg g cdv bg a (X.env.qual ++ "<lambda>") (k + 1) TT) (TB : TabB X.base X.mg c P) (code : X.env.code = .ref c)
    (inT : (P, X.env.qual ++ "<lambda>") ∈ T) (one : ∀ y ∈ T, y.1 = P → y.2 = X.env.qual ++ "<lambda>") (hr : Room (k + 2) X.A) (L : LamS X.env.scope scope) (nodef : defaultsOf params X.env = ([], []))
    (noArgs : ∀ (q : Str) (cl : List (Str × Addr)) (pm cv ctv : Value), bindArgs (PySem.W.kla_fn "<lambda>" q params body scope cl pm cv ctv) ⟨[], []⟩ = pure [])
    (inner : ∀ (A : Around) (outer : List Env) (s : Shared) (H : Hp) (E : XK) (f c' : Addr), Room k (A.deeper (lamEnv X scope s.heap.objs.size f c')) → PE (lamX X A outer s H E scope f c') body (t E))
    (n0 : (x == ("__debug__" : Str)) = false := by decide) (n1 : (a == ("__debug__" : Str)) = false := by decide) (n2 : (a == ("__classdict__" : Str)) = false := by decide) :
    PE X (.Call (.Name x p) [.Lambda params body scope lp] [] pos) (tLam T TT t) := by
  refine ⟨fun pins s σ H Q I ⟨tabs, goal⟩ => wpAny_Call_Name_kw (ld_glob I gl gv (PySem.W.callWith_K (h₀ := X.base) I.ok.mod.kin kp ?_ (by rfl) (by rfl)) n0)⟩
  show wpAny _ _ (spliced ((false, eval (.Lambda params body scope lp) X.env) :: backTo pos (starEach [] X.env))) _ _ s
  refine Calls.spliced_cons (lam_make2 I TB code inT one tabs nodef (L.has I.ok) fun f c' pm' ctv H1 s1 I1 eN T1 there nf nfr co => Calls.spliced_nil ⟨I1.kIn, ?_⟩)
  have ran : codeAny (model X.prog X.w) X.A (.call (.ref g) ⟨[.ref f], []⟩) (CR C8.CX0 X.stack X.prog X.w H1 s1 Q C8.E0) s1 :=
    run_ofS (N := Ng) (ps := [a]) (us := [.ref f]) (vs := [.ref f]) lk cg Sg hr I1.env0 (bi s1 [.ref f] I1.kIn rfl) (.cons rfl .nil) rfl fun hr1 =>
      let ⟨t1, ht, hq⟩ := hears f c' s1 H1 Q (fun E G Q' => t E σ G Q') hr1 (fun W pn xe p1 p2 tk => pe_actN (i := 0) (t := t) I1 L there nf nfr (noArgs _ _ _ _ _) tk hr1 (fun A outer s H E hr2 => inner A outer s H E f c' hr2) hNg va n1 n2) co (goal H1 eN T1)
      ⟨t1, ht.nox, hq⟩
  refine wpAny_call (codeAny_mono ran fun r s2 done => ?_)
  cases r with
  | error e => exact (show False from done).elim
  | ok fl =>
    cases fl with
    | ret u => exact I1.after done
    | next => exact done.elim
    | brk => exact done.elim
    | cont => exact done.elim
end
end Le
/-! the errors that the program raises itself: made, raised, asked for what they keep -/
namespace Wb
open PySem L2 PySem.Spec PyProof.Rows
section
variable {P : Program} {w : World} {K : PySem.W.Frag} {mg : Str → Option Value} {base : Heap}
/-- as Fun.ok, for a def that lets errors out; of their context it is told that it is None -/
theorem okN {x qual : Str} {st : Stmt} {f : Addr} {fd : FuncData} {N ps : List Str} {k : Nat} {sp : Sp} (F : Fun K x qual st f fd) (S : FnScope N ps (defScope st)) (len : ∀ vs H Q E, sp vs H Q E → vs.length = ps.length)
    (body : ∀ (cdv : Value) (A : Around) (outer : List Env) (s : Shared) (H : Hp) (vs : List V) (Q : VK) (E : XK), Room k (A.deeper (envOfC qual (defScope st) s.heap.objs.size f cdv)) → sp vs H Q E →
      ∃ t, PSs (cxOf (L2N.CX P w) P w K mg base N qual (defScope st) f cdv A outer s H E) (defBody st) t ∧ t { nx := fun _ H' => Q .non H', rt := Q } (L2.start N vs) H) : FnOk P w K mg base (L2N.CX P w) (k + 1) f fd ps sp := by
  obtain ⟨_, _, _, _, _, _, _, _, _, rfl, at_, code⟩ := F.ex
  exact fn_of at_ code S len (body _)
/-- what never raises keeps its promise whatever is told of errors -/
theorem FnOk.calm {CX : CXT} {k : Nat} {f : Addr} {fd : FuncData} {ps : List Str} {sp : Sp} (F : FnOk P w K mg base CX0 k f fd ps sp) : FnOk P w K mg base CX k f fd ps sp :=
  ⟨F.len, fun A outer s H args us vs Q E hr e0 hb r h => codeAny_mono (F.run A outer s H args us vs Q E hr e0 hb r h) fun res s' q => by
    cases res with
    | error e => exact (show False from q).elim
    | ok fl => cases fl <;> exact q⟩
theorem FnOk.either {CX : CXT} {k : Nat} {f : Addr} {fd : FuncData} {ps : List Str} {sp sp' : Sp} (F : FnOk P w K mg base CX k f fd ps sp) (G : FnOk P w K mg base CX k f fd ps sp') : FnOk P w K mg base CX k f fd ps (fun vs H Q E => sp vs H Q E ∨ sp' vs H Q E) :=
  ⟨fun vs H Q E h => h.elim (F.len vs H Q E) (G.len vs H Q E), fun A outer s H args us vs Q E hr e0 hb r h => h.elim (F.run A outer s H args us vs Q E hr e0 hb r) (G.run A outer s H args us vs Q E hr e0 hb r)⟩
end
def spErr (C : Addr) (g : Str) : Sp := fun vs H Q _ => ∃ (a : Addr) (y : V), vs = [.ref a, y] ∧ H a = some (exo a C none) ∧ ∀ d, H d = none → d ≠ a → Q .non (upd (upd H d (exd d [(g, y)])) a (exo a C (some d)))
/-- what the top has written of an error x whose attribute is g -/
structure ErrF (K : PySem.W.Frag) (mg : Str → Option Value) (x g qual : Str) (st : Stmt) (C f : Addr) (fd : FuncData) : Prop where
  o : OexC K C
  xf : XfC K C
  no : PySem.W.findIn K (.ref C) g = some none
  ini : PySem.W.findIn K (.ref C) "__init__" = some (some (.ref f))
  fn : PySem.W.typeIn K (.ref f) = some (.type "function")
  F : Fun K "__init__" qual st f fd
  b : Binds K fd ["self", g] []
  g : mg x = some (.ref C)
/-- raise C(y), y in slot i -/
def tBad (C : Addr) (g : Str) (W : WX) (i : Nat) : TS := fun _ σ H => ∃ v, σ[i]? = some (some v) ∧ ∀ d, H d = none → W (.ref C) (some d) σ (upd H d (.xd [(g, v)]))
theorem dict_left {H : Hp} {a d : Addr} {u1 u2 u3 o : HO} (ha : H a = none) (_ : d ≠ a) : upd (del (upd (upd (upd H a u1) d u2) a u3) a) d o = upd H d o := by
  funext b
  by_cases e : b = d
  · rw [e, upd_same, upd_same]
  · rw [upd_ne e, upd_ne e]
    by_cases e2 : b = a
    · rw [e2, del_same, ha]
    · rw [del_ne e2, upd_ne e2, upd_ne e, upd_ne e2]
section
variable {X : Cx} {W : WX} {C f : Addr} {fd : FuncData} {x g qual y : Str} {st : Stmt} {k i : Nat} {p p0 pos pos2 : Pos}
theorem ps_bad (E : ErrF X.K X.mg x g qual st C f fd) (F1 : FnOk X.prog X.w X.K X.mg X.base CX0 k f fd ["self", g] (spErr C g)) (hr : Room (k + 1) X.A) (calm : X.calm = true) (tk : L2N.Takes X W) (gl : Gl X x) (ha : PE X (.Name y p0) (tVar i))
    (nd : (x == ("__debug__" : Str)) = false := by decide) : PS X (.Raise (some (.Call (.Name x p) [.Name y p0] [] pos)) none pos2) (tBad C g W i) := by
  refine ⟨fun pins s σ H D I h => (L2N.ps_raise calm tk (Le.pmk_calm (CX := CX0) E.o E.ini E.fn F1 hr E.b (fun _ _ _ _ _ _ _ z => z.elim) gl E.g (pa_cons ha pa_nil) nd rfl rfl)).run pins s σ H D I ?_⟩
  obtain ⟨v, hv, q⟩ := h
  refine ⟨v, hv, (by show 1 ≤ 1000; decide), fun a na => ⟨a, v, rfl, upd_same, fun d nd ne => ⟨rfl, d, [(g, v)], upd_same, ?_, ?_, ?_⟩⟩⟩
  · rw [upd_ne ne, upd_same]
  · rw [upd_ne ne] at nd
    exact nd
  · have nd' : H d = none := by
      rw [upd_ne ne] at nd
      exact nd
    rw [dict_left na ne]
    exact q d nd'
end
section
variable {P : Program} {w : World} {K : PySem.W.Frag} {mg : Str → Option Value} {base : Heap} {C f : Addr} {fd : FuncData}
end
end Wb
/-! values of any sort, asked what they are -/
namespace Wb
open PySem L2 WbMin WbS
/-- a text as it may be passed -/
structure Tx (l : List Nat) : Prop where
  few : l.length ≤ 2000
  cod : ∀ c ∈ l, c < 1000
theorem Tx.fits {l : List Nat} (h : Tx l) : (S l).length ≤ sizeLine := by
  rw [S_len, sizeLine_eq]
  have := h.few
  omega
/-- a value of any sort, the pool p no part of it; d its face -/
def Any (p : Addr) (H : Hp) (x : V) (d : PyData) : Prop := Thing (cut H p) 5 x d ∧ (∀ z, x = .str z → ∃ l, z = S l ∧ Tx l) ∧ (∀ i, x = .int i → i < 2 ^ 1000) ∧ d.canLay0 = true ∧ PyData.depth d ≤ 60
theorem cut_but {p : Addr} {H H' : Hp} (b : But p H H') : Same (cut H p) (cut H' p) := fun c o h => by
  unfold cut at h ⊢
  by_cases e : c = p
  · rw [if_pos e] at h
    cases h
  · rw [if_neg e] at h ⊢
    exact b _ _ e h
theorem Any.but {p : Addr} {H H' : Hp} {x : V} {d : PyData} (h : Any p H x d) (b : But p H H') : Any p H' x d := ⟨h.1.same (cut_but b), h.2⟩
theorem Any.same {p : Addr} {H H' : Hp} {x : V} {d : PyData} (h : Any p H x d) (s : Same H H') : Any p H' x d := ⟨h.1.same (cut_same s), h.2⟩
theorem Any.thing {p : Addr} {H : Hp} {x : V} {d : PyData} (h : Any p H x d) : Thing H 5 x d := h.1.same (cutH_to fun _ _ _ e => e)
/-- what is neither a text nor an integer -/
inductive Neither (H : Hp) : V → Prop where
  | non : Neither H .non
  | bl (b : Bool) : Neither H (.bl b)
  | lst {a : Addr} {xs : List V} (h : H a = some (.lst xs)) : Neither H (.ref a)
  | tup {a : Addr} {xs : List V} (h : H a = some (.tup xs)) : Neither H (.ref a)
  | dK {a : Addr} {xs : List (Key × V)} (h : H a = some (.dK xs)) : Neither H (.ref a)
theorem Neither.same {H H' : Hp} {x : V} (h : Neither H x) (s : Same H H') : Neither H' x := by
  cases h with
  | non => exact .non
  | bl b => exact .bl b
  | lst h => exact .lst (s _ _ h)
  | tup h => exact .tup (s _ _ h)
  | dK h => exact .dK (s _ _ h)
theorem Any.sort {p : Addr} {H : Hp} {x : V} {d : PyData} (h : Any p H x d) : (∃ l, x = .str (S l) ∧ Tx l) ∨ (∃ i, x = .int i) ∨ Neither H x := by
  have th := h.thing
  rcases th with lf | ⟨a, xs, ds, rfl, ha, _⟩ | ⟨a, xs, ds, rfl, ha, _⟩ | ⟨a, ks, xs, ds, rfl, ha, _⟩
  · cases lf with
    | non => exact .inr (.inr .non)
    | bl b => exact .inr (.inr (.bl b))
    | int i => exact .inr (.inl ⟨i, rfl⟩)
    | str z =>
      obtain ⟨l, rfl, t⟩ := h.2.1 z rfl
      exact .inl ⟨l, rfl, t⟩
  · exact .inr (.inr (.lst ha))
  · exact .inr (.inr (.tup ha))
  · exact .inr (.inr (.dK ha))
theorem Neither.str {H : Hp} {K : PySem.W.Frag} {x : V} (h : Neither H x) : ∃ t, TyX K H x t ∧ PySem.W.kitOne K t (.type "str") = some false := by
  cases h with
  | non => exact ⟨_, .base .non, kit_ty (by decide +kernel)⟩
  | bl b => exact ⟨_, .base (.bl b), kit_ty (by decide +kernel)⟩
  | lst h => exact ⟨_, .base (.lst h), kit_ty (by decide +kernel)⟩
  | tup h => exact ⟨_, .base (.tup h), kit_ty (by decide +kernel)⟩
  | dK h => exact ⟨_, .base (.dK h), kit_ty (by decide +kernel)⟩
theorem Neither.int {H : Hp} {K : PySem.W.Frag} {x : V} (h : Neither H x) : ∃ (t : Value) (b : Bool), TyX K H x t ∧ PySem.W.kitOne K t (.type "int") = some b ∧ (b = true → PySem.W.kitOne K t (.type "bool") = some true) := by
  cases h with
  | non => exact ⟨_, false, .base .non, kit_ty (by decide +kernel), fun z => by cases z⟩
  | bl b => exact ⟨_, true, .base (.bl b), kit_ty (by decide +kernel), fun _ => kit_ty (by decide +kernel)⟩
  | lst h => exact ⟨_, false, .base (.lst h), kit_ty (by decide +kernel), fun z => by cases z⟩
  | tup h => exact ⟨_, false, .base (.tup h), kit_ty (by decide +kernel), fun z => by cases z⟩
  | dK h => exact ⟨_, false, .base (.dK h), kit_ty (by decide +kernel), fun z => by cases z⟩
/-! ### the answers -/
def okc (c : Nat) : Bool := decide (97 ≤ c) && decide (c ≤ 122)
def isWB (l : List Nat) : Bool := decide (1 ≤ l.length) && decide (l.length ≤ 600) && l.all okc
/-- a word -/
def wordB : V → Bool
  | .str z => isWB z.cps.toList
  | _ => false
/-- a word of these signs -/
def goodW (sg : List Nat) : V → Bool
  | .str z => isWB z.cps.toList && z.cps.toList.all fun c => decide (c ∈ sg)
  | _ => false
theorem Neither.word {H : Hp} {x : V} (h : Neither H x) : wordB x = false := by cases h <;> rfl
theorem Neither.good {H : Hp} {x : V} {sg : List Nat} (h : Neither H x) : goodW sg x = false := by cases h <;> rfl
section
variable {P : Program} {w : World} {K : PySem.W.Frag} {mg : Str → Option Value} {base : Heap} {f fI : Addr} {fd dI : FuncData}
end
end Wb
/-! faces of rows of answers, of a loop's row -/
namespace Wb
open PySem L2 WbMin WbS Lz
theorem Thing.up : ∀ {n : Nat} {H : Hp} {v : V} {d : PyData}, Thing H n v d → Thing H (n + 1) v d
  | 0, _, _, _, h => h.elim
  | _ + 1, _, _, _, .inl h => .inl h
  | _ + 1, _, _, _, .inr (.inl ⟨a, xs, ds, e, h, l, r, q⟩) => .inr (.inl ⟨a, xs, ds, e, h, l, r.imp fun _ _ z => Thing.up z, q⟩)
  | _ + 1, _, _, _, .inr (.inr (.inl ⟨a, xs, ds, e, h, l, r, q⟩)) => .inr (.inr (.inl ⟨a, xs, ds, e, h, l, r.imp fun _ _ z => Thing.up z, q⟩))
  | _ + 1, _, _, _, .inr (.inr (.inr ⟨a, ks, xs, ds, e, h, nd, l1, l, r, q⟩)) => .inr (.inr (.inr ⟨a, ks, xs, ds, e, h, nd, l1, l, r.imp fun _ _ z => Thing.up z, q⟩))
theorem lay_map {α : Type} {g : α → PyData} : ∀ {l : List α}, (∀ x ∈ l, (g x).canLay0 = true) → PyData.canLayAll0 (l.map g) = true
  | [], _ => rfl
  | x :: r, h => by
    show ((g x).canLay0 && PyData.canLayAll0 (r.map g)) = true
    rw [h x List.mem_cons_self, lay_map fun y q => h y (List.mem_cons_of_mem _ q)] <;> rfl
theorem depth_map {α : Type} {g : α → PyData} {n : Nat} : ∀ {l : List α}, (∀ x ∈ l, PyData.depth (g x) ≤ n) → PyData.depthAll (l.map g) ≤ n
  | [], _ => Nat.zero_le _
  | x :: r, h => by
    show max (PyData.depth (g x)) (PyData.depthAll (r.map g)) ≤ n
    have h1 := h x List.mem_cons_self
    have h2 := depth_map (n := n) fun y q => h y (List.mem_cons_of_mem _ q)
    omega
/-- the face of a tuple -/
def tupD (ds : List PyData) : PyData := .list (.str "tuple" :: ds)
theorem tup_lay {ds : List PyData} (h : PyData.canLayAll0 ds = true) : (tupD ds).canLay0 = true := by
  show ((PyData.strOk "tuple") && PyData.canLayAll0 ds) = true
  rw [str_tuple, h] <;> rfl
theorem tup_depth {ds : List PyData} {n : Nat} (h : PyData.depthAll ds ≤ n) : PyData.depth (tupD ds) ≤ n + 1 := by
  show max 0 (PyData.depthAll ds) + 1 ≤ n + 1
  omega
/-- things that stand one beside the other -/
theorem both_map {α : Type} {R : V → PyData → Prop} {g : α → V} {d : α → PyData} : ∀ {l : List α}, (∀ x ∈ l, R (g x) (d x)) → Both R (l.map g) (l.map d)
  | [], _ => .nil
  | x :: _, h => .cons (h x List.mem_cons_self) (both_map fun y q => h y (List.mem_cons_of_mem _ q))
theorem both_tups {α : Type} {R : V → PyData → Prop} {H : Hp} {g : α → List V} {d : α → PyData} : ∀ {as : List Addr} {l : List α}, Tups H as (l.map g) → (∀ a, ∀ x ∈ l, H a = some (.tup (g x)) → R (.ref a) (d x)) → Both R (as.map V.ref) (l.map d)
  | [], [], _, _ => .nil
  | _ :: _, x :: _, h, k => .cons (k _ x List.mem_cons_self h.1) (both_tups h.2 fun a y q => k a y (List.mem_cons_of_mem _ q))
  | [], _ :: _, h, _ => h.elim
  | _ :: _, [], h, _ => h.elim
/-! ### answers -/
theorem dp_tups {α : Type} {K : PySem.W.Frag} {H : Hp} {g : α → List V} {d : α → PyData} : ∀ {as : List Addr} {l : List α}, Tups H as (l.map g) → (∀ a, ∀ x ∈ l, H a = some (.tup (g x)) → Dp K H (.ref a) (d x)) → DpAll K H (as.map V.ref) (l.map d)
  | [], [], _, _ => .nil
  | _ :: _, x :: _, h, k => .cons (k _ x List.mem_cons_self h.1) (dp_tups h.2 fun a y q => k a y (List.mem_cons_of_mem _ q))
  | [], _ :: _, h, _ => h.elim
  | _ :: _, [], h, _ => h.elim
/-! ### rows -/
def strF (z : Str) : PyData := plainD (.str z)
theorem strF_lay {z : Str} (h : PyData.strOk z = true) : (strF z).canLay0 = true := by
  show ((PyData.strOk "plain") && (PyData.strOk z && true)) = true
  rw [str_plain, h] <;> rfl
def rowF (r : Row) : PyData := tupD [strF r.a, strF (S [r.c]), strF r.b, plainD (.int r.m)]
def trnF (r : Trn) : PyData := tupD [strF r.a, strF r.b, plainD (.int r.m)]
def loopF (L : LD) : PyData := tupD [strF (S L.sg), tupD (L.st.map strF), tupD (L.rows.map rowF), tupD (L.turns.map trnF), tupD (L.yes.map strF)]
theorem strs_both {H : Hp} {n : Nat} (zs : List Str) : Both (Thing H (n + 1)) (zs.map V.str) (zs.map strF) := both_map fun z _ => .inl (.str z)
theorem loopF_thing {H : Hp} {q : Addr} {L : LD} (O : L.Ok) (h : RowAt H q L) : Thing H 4 (.ref q) (loopF L) := by
  obtain ⟨t, r, u, y, as, bs, h0, ht, hr, hT, hu, hU, hy⟩ := h
  have sf : L.st.length ≤ 6 := O.sts.few
  have few := rows_few O
  have yf := yes_few O
  have la : as.length = L.rows.length := by rw [hT.length, List.length_map]
  have lb : bs.length = L.n := by rw [hU.length, List.length_map, turns_length]
  have lb6 : L.n ≤ 6 := O.sts.few
  refine .inr (.inr (.inl ⟨q, _, _, rfl, h0, by show 5 ≤ 1000; decide, ?_, rfl⟩))
  refine .cons (.inl (.str _)) (.cons ?_ (.cons ?_ (.cons ?_ (.cons ?_ .nil))))
  · exact .inr (.inr (.inl ⟨t, _, _, rfl, ht, by rw [List.length_map]; omega, strs_both _, rfl⟩))
  · refine .inr (.inr (.inl ⟨r, _, _, rfl, hr, by rw [List.length_map]; omega, both_tups (g := Row.v) (d := rowF) hT fun a ρ _ ha => ?_, rfl⟩))
    exact .inr (.inr (.inl ⟨a, _, _, rfl, ha, by show 4 ≤ 1000; decide, .cons (.inl (.str _)) (.cons (.inl (.str _)) (.cons (.inl (.str _)) (.cons (.inl (.int _)) .nil))), rfl⟩))
  · refine .inr (.inr (.inl ⟨u, _, _, rfl, hu, by rw [List.length_map]; omega, both_tups (g := Trn.v) (d := trnF) hU fun a ρ _ ha => ?_, rfl⟩))
    exact .inr (.inr (.inl ⟨a, _, _, rfl, ha, by show 3 ≤ 1000; decide, .cons (.inl (.str _)) (.cons (.inl (.str _)) (.cons (.inl (.int _)) .nil)), rfl⟩))
  · exact .inr (.inr (.inl ⟨y, _, _, rfl, hy, by rw [List.length_map]; omega, strs_both _, rfl⟩))
theorem sg_ok {L : LD} (O : L.Ok) : PyData.strOk (S L.sg) = true := ok_codes fun c hc => by
  have := O.sgs.low c hc
  omega
theorem all4 {a b c d : PyData} (h1 : a.canLay0 = true) (h2 : b.canLay0 = true) (h3 : c.canLay0 = true) (h4 : d.canLay0 = true) : PyData.canLayAll0 [a, b, c, d] = true := by
  show (a.canLay0 && (b.canLay0 && (c.canLay0 && (d.canLay0 && true)))) = true
  rw [h1, h2, h3, h4] <;> rfl
theorem all3 {a b c : PyData} (h1 : a.canLay0 = true) (h2 : b.canLay0 = true) (h3 : c.canLay0 = true) : PyData.canLayAll0 [a, b, c] = true := by
  show (a.canLay0 && (b.canLay0 && (c.canLay0 && true))) = true
  rw [h1, h2, h3] <;> rfl
theorem all5 {a b c d e : PyData} (h1 : a.canLay0 = true) (h2 : b.canLay0 = true) (h3 : c.canLay0 = true) (h4 : d.canLay0 = true) (h5 : e.canLay0 = true) : PyData.canLayAll0 [a, b, c, d, e] = true := by
  show (a.canLay0 && (b.canLay0 && (c.canLay0 && (d.canLay0 && (e.canLay0 && true))))) = true
  rw [h1, h2, h3, h4, h5] <;> rfl
theorem loopF_lay {L : LD} (O : L.Ok) : (loopF L).canLay0 = true := by
  refine tup_lay (all5 (strF_lay (sg_ok O)) (tup_lay (lay_map fun z hz => strF_lay (ok_st O hz))) (tup_lay (lay_map fun ρ hρ => ?_)) (tup_lay (lay_map fun ρ hρ => ?_)) (tup_lay (lay_map fun z hz => strF_lay (ok_st O (yes_sub z hz)))))
  · obtain ⟨i, c, hi, hc, rfl⟩ := rows_mem hρ
    exact tup_lay (all4 (strF_lay (ok_st O (nm_mem hi))) (strF_lay (ok_sign O hc)) (strF_lay (ok_st O (nm_mem (O.nxlt i c hi hc)))) (int_lay _))
  · obtain ⟨i, hi, rfl⟩ := List.mem_map.mp hρ
    have hi := List.mem_range.mp hi
    exact tup_lay (all3 (strF_lay (ok_st O (nm_mem hi))) (strF_lay (ok_st O (nm_mem (O.tnlt i hi)))) (int_lay _))
theorem strF_depth (z : Str) : PyData.depth (strF z) ≤ 1 := Nat.le_refl _
theorem loopF_depth (L : LD) : PyData.depth (loopF L) ≤ 5 := by
  have d1 : PyData.depth (tupD (L.st.map strF)) ≤ 2 := tup_depth (depth_map fun z _ => strF_depth z)
  have d2 : PyData.depth (tupD (L.rows.map rowF)) ≤ 3 := tup_depth (depth_map fun _ _ => show 2 ≤ 2 from Nat.le_refl _)
  have d3 : PyData.depth (tupD (L.turns.map trnF)) ≤ 3 := tup_depth (depth_map fun _ _ => show 2 ≤ 2 from Nat.le_refl _)
  have d4 : PyData.depth (tupD (L.yes.map strF)) ≤ 2 := tup_depth (depth_map fun z _ => strF_depth z)
  refine tup_depth (n := 4) ?_
  show max (PyData.depth (strF (S L.sg))) (max (PyData.depth (tupD (L.st.map strF))) (max (PyData.depth (tupD (L.rows.map rowF))) (max (PyData.depth (tupD (L.turns.map trnF))) (max (PyData.depth (tupD (L.yes.map strF))) 0)))) ≤ 4
  have := strF_depth (S L.sg)
  omega
end Wb
/-! an odd value: one of 27 -/
namespace Wb
open PySem L2 WbMin WbS
abbrev sLOdd : Stmt := top 58
def spOddA : Sp := fun vs H Q _ => ∃ p : Addr, vs = [.ref p] ∧ PoolAt H p ∧ ∀ (x : V) (d : PyData) (H' : Hp), Any p H' x d → PoolAt H' p → But p H H' → Q x H'
def Val (p : Addr) (H : Hp) (x : V) : Prop := ∃ d, Any p H x d
theorem cut_at {H : Hp} {a p : Addr} (n : a ≠ p) : cut H p a = H a := if_neg n
theorem Val.non {p : Addr} {H : Hp} : Val p H .non := ⟨_, .inl .non, (fun z e => by cases e), (fun i e => by cases e), by decide +kernel, by decide +kernel⟩
theorem Val.bl {p : Addr} {H : Hp} (b : Bool) : Val p H (.bl b) := ⟨_, .inl (.bl b), (fun z e => by cases e), (fun i e => by cases e), by cases b <;> decide +kernel, by cases b <;> decide +kernel⟩
theorem Val.int {p : Addr} {H : Hp} {i : Int} (h : i < 2 ^ 1000) : Val p H (.int i) := ⟨_, .inl (.int i), (fun z e => by cases e), (fun j e => by cases e; exact h), int_lay i, (by show 1 ≤ 60; decide)⟩
theorem Val.str {p : Addr} {H : Hp} {l : List Nat} (h : Tx l) : Val p H (.str (S l)) := ⟨_, .inl (.str _), (fun z e => by cases e; exact ⟨l, rfl, h⟩), (fun i e => by cases e), strF_lay (ok_codes fun c hc => by have := h.cod c hc; omega), (by show 1 ≤ 60; decide)⟩
theorem Val.lit {p : Addr} {H : Hp} {z : Str} (l : List Nat) (e : z.cps.toList = l) (h1 : l.length ≤ 2000) (h2 : ∀ c ∈ l, c < 1000) : Val p H (.str z) := by
  rw [S_eq e]
  exact .str ⟨h1, h2⟩
theorem Val.of {p a : Addr} {H : Hp} (h : ∃ d, Thing (cut H p) 5 (.ref a) d ∧ d.canLay0 = true ∧ PyData.depth d ≤ 60) : Val p H (.ref a) := ⟨h.choose, h.choose_spec.1, (fun z e => by cases e), (fun i e => by cases e), h.choose_spec.2⟩
theorem keepA {H : Hp} {a b : Addr} {o u : HO} (h : H a = some o) (n : H b = none) : upd H b u a = some o := (upd_ne (ne_of_none h n)).trans h
theorem keep5 {H : Hp} {e f g t L x : Addr} {o u1 u2 u3 u4 u5 u6 : HO} (h : H x = some o) (he : H e = none) (hf : upd H e u1 f = none) (hg : upd (upd H e u1) f u2 g = none) (ht : upd (upd (upd (upd H e u1) f u2) g u3) e u4 t = none)
    (hL : upd (upd (upd (upd (upd H e u1) f u2) g u3) e u4) t u5 L = none) : upd (upd (upd (upd (upd (upd H e u1) f u2) g u3) e u4) t u5) L u6 x = some o :=
  keepA (keepA ((upd_ne (ne_of_none h he)).trans (keepA (keepA (keepA h he) hf) hg)) ht) hL
theorem int_lt {d m : Int} (h0 : 0 ≤ d) (h1 : d < m) : ∃ j : Nat, d = (j : Int) ∧ (j : Int) < m := ⟨d.toNat, by omega, by omega⟩
section
variable {P : Program} {w : World} {K : PySem.W.Frag} {mg : Str → Option Value} {base : Heap} {f fD fW : Addr} {fd fdD dW : FuncData}
theorem scOdA : FnScope ["_law_pool_here", "_law_way"] ["_law_pool_here"] (defScope sLOdd) := ⟨rfl, rfl, rfl, by decide +kernel, rfl, by decide +kernel, by decide +kernel⟩
set_option maxHeartbeats 0 in
theorem ok_oddA (F : Fun K "_law_odd" "_law_odd" sLOdd f fd) (D : Def K mg "_law_draw" sDraw ["_law_pool_here", "_law_many"] fD fdD) (Z : Free mg) : FnOk P w K mg base CX0 2 f fd ["_law_pool_here"] spOddA := by
  have G : FnOk P w K mg base CX0 1 fD fdD ["_law_pool_here", "_law_many"] spDraw := ok_draw D.F Z.int Z.divmod
  refine F.ok scOdA (fun vs H Q E h => ?_) (fun cdv A outer s H vs Q E hr h => ?_)
  · obtain ⟨p, rfl, _⟩ := h
    rfl
  · obtain ⟨p, rfl, hp, k⟩ := h
    refine ⟨_, pss_cons (ps_set (i := 1) scOdA.nd rfl (.inl rfl) (pe_call G hr rfl D.g D.kp D.b .nil pass0 (pa_cons (pv 0) (pa_cons pe_int pa_nil))))
      (pss_cons (ps_if (pt_cmpR op_lt (pv 1) pe_int (nomark _)) (pss_one (ps_ret (pe_ix ix_list (pe_lst (pa_cons pe_non (pa_cons pe_bl (pa_cons pe_bl (pa_cons pe_int (pa_cons pe_int (pa_cons (pe_un un_neg pe_int) (pa_cons pe_int (pa_cons pe_int (pa_cons pe_int (pa_cons (pe_op op_pow pe_int pe_int) (pa_cons (pe_un un_neg (pe_op op_pow pe_int pe_int)) pa_nil)))))))))))) (pv 1) (fun _ _ => rfl)))) pss_nil)
      (pss_cons (ps_if (pt_cmpR op_lt (pv 1) pe_int (nomark _)) (pss_one (ps_ret (pe_ix ix_list (pe_lst (pa_cons pe_str (pa_cons pe_str (pa_cons pe_str (pa_cons pe_str (pa_cons pe_str (pa_cons pe_str (pa_cons pe_str (pa_cons pe_str pa_nil))))))))) (pe_op op_sub (pv 1) pe_int) (fun _ _ => rfl)))) pss_nil)
      (pss_cons (ps_if (pt_cmpR op_lt (pv 1) pe_int (nomark _)) (pss_one (ps_ret (pe_ix ix_list (pe_lst (pa_cons (pe_lst pa_nil) (pa_cons (pe_lst (pa_cons pe_str pa_nil)) (pa_cons pe_dnewK (pa_cons (pe_disp (pps_cons pe_str pe_int pps_nil) (by rfl) (by rfl) (fun z => by cases z) (by decide)) pa_nil))))) (pe_op op_sub (pv 1) pe_int) (fun _ _ => rfl)))) pss_nil)
      (pss_one (ps_ret (pe_ix ix_list (pe_lst (pa_cons (pe_tup pa_nil) (pa_cons (pe_tup (pa_cons pe_str pa_nil)) (pa_cons (pe_tup (pa_cons pe_int (pa_cons pe_int pa_nil))) (pa_cons (pe_tup (pa_cons (pe_lst pa_nil) (pa_cons (pe_disp (pps_cons pe_str (pe_tup (pa_cons pe_int (pa_cons (pe_lst pa_nil) pa_nil))) pps_nil) (by rfl) (by rfl) (fun z => by cases z) (by decide)) pa_nil))) pa_nil))))) (pe_op op_sub (pv 1) pe_int) (fun _ _ => rfl))))))), ?_⟩
    have pw : CPow 10 38 := by refine ⟨?_, ?_, ?_⟩ <;> decide
    refine ⟨_, rfl, p, _, rfl, by decide, by decide, hp, fun d H1 d0 d1 hp1 b1 => ?_⟩
    obtain ⟨j, rfl, j1⟩ := int_lt d0 d1
    have nil : ∀ {H' : Hp}, ∀ x ∈ ([] : List V), Val p H' x := fun x hx => nomatch hx
    have vc : ∀ {H' : Hp} {y : V} {ys : List V}, Val p H' y → (∀ x ∈ ys, Val p H' x) → ∀ x ∈ y :: ys, Val p H' x := fun h1 h2 x hx => by
      rcases List.mem_cons.mp hx with rfl | hx
      · exact h1
      · exact h2 x hx
    have fin : ∀ {H' : Hp} {L : Addr} {xs : List V} {i : Int} {n : Nat}, H' L = some (.lst xs) → i = (n : Int) → n < xs.length → (∀ x ∈ xs, Val p H' x) → PoolAt H' p → But p H H' → rIxL K (.ref L) (.int i) H' Q := fun {H' L xs i n} hL ei hn hv hp' hb' => by
      subst ei
      obtain ⟨x, hx⟩ : ∃ x, xs[n]? = some x := ⟨_, List.getElem?_eq_getElem hn⟩
      exact ⟨L, xs, _, x, rfl, rfl, SqL.of hL, atI_nat hx, let ⟨dd, hd⟩ := hv x (List.mem_of_getElem? hx)
      k x dd H' hd hp' hb'⟩
    refine ⟨_, rfl, _, _, rfl, rfl, _, rfl, ite2 (fun q => ?_) (fun q => ?_)⟩
    · have q' : j < 11 := by have := of_decide_eq_true q; omega
      refine ⟨_, rfl, _, _, rfl, rfl, pw, _, _, rfl, rfl, pw, _, rfl, (by show 11 ≤ sizeLine; decide), fun L hL => ⟨_, rfl, ?_⟩⟩
      have nL := hp1.ne hL
      refine fin upd_same rfl (by show j < 11; exact q') (vc .non (vc (.bl _) (vc (.bl _) (vc (.int ?_) (vc (.int ?_) (vc (.int ?_) (vc (.int ?_) (vc (.int ?_) (vc (.int ?_) (vc (.int ?_) (vc (.int ?_) nil))))))))))) (hp1.put nL) (b1.upd hL)
      all_goals decide +kernel
    have q1 : 11 ≤ j := by
      have z : ¬ ((j : Int) < 11) := fun z => q (decide_eq_true z)
      omega
    refine ⟨_, rfl, _, _, rfl, rfl, _, rfl, ite2 (fun r => ?_) (fun r => ?_)⟩
    · have r' : j < 19 := by have := of_decide_eq_true r; omega
      refine ⟨(by show 8 ≤ sizeLine; decide), fun L hL => ⟨_, rfl, _, _, rfl, rfl, ?_⟩⟩
      have nL := hp1.ne hL
      refine fin (n := j - 11) upd_same (by omega) (by show j - 11 < 8; omega) ?_ (hp1.put nL) (b1.upd hL)
      refine vc (Val.lit [] ?_ (by decide) (by decide)) (vc (Val.lit [97] ?_ (by decide) (by decide)) (vc (Val.lit [97, 98] ?_ (by decide) (by decide)) (vc (Val.lit [65] ?_ (by decide) (by decide)) (vc (Val.lit [97, 32, 98] ?_ (by decide) (by decide)) (vc (Val.lit [97, 97] ?_ (by decide) (by decide)) (vc (Val.lit [97, 10] ?_ (by decide) (by decide)) (vc (Val.lit [97, 98, 99, 100, 101] ?_ (by decide) (by decide)) nil))))))) <;> decide +kernel
    have r1 : 19 ≤ j := by
      have z : ¬ ((j : Int) < 19) := fun z => r (decide_eq_true z)
      omega
    refine ⟨_, rfl, _, _, rfl, rfl, _, rfl, ite2 (fun u => ?_) (fun u => ?_)⟩
    · have u' : j < 23 := by have := of_decide_eq_true u; omega
      refine ⟨(by show 0 ≤ sizeLine; decide), fun a ha => ⟨(by show 1 ≤ sizeLine; decide), fun b hb => fun c hc => fun d hd => ⟨upd_same, [(Sum.inr "a", .int 1)], rfl, by decide, (by show 4 ≤ sizeLine; decide), fun L hL => ⟨_, rfl, _, _, rfl, rfl, ?_⟩⟩⟩⟩
      have na := hp1.ne ha
      have p2 := hp1.put (o := .lst []) na
      have nb := p2.ne hb
      have p3 := p2.put (o := .lst [.str "a"]) nb
      have nc := p3.ne hc
      have p4 := p3.put (o := .dK []) nc
      have nd := p4.ne hd
      have p5 := (p4.put (o := .dK []) nd).put (o := .dK (mergeK [] [(Sum.inr "a", .int 1)])) nd
      have nL := p5.ne hL
      have d1 := ((((But.refl p _).upd (o := .lst []) ha).upd (o := .lst [.str "a"]) hb).upd (o := .dK []) hc).free hd nd
      have fa := keepA (u := .lst [.ref a, .ref b, .ref c, .ref d]) ((upd_ne (o := .dK (mergeK [] [(Sum.inr "a", .int 1)])) (ne_of_none (keepA (u := .dK []) (keepA (u := .lst [.str "a"]) upd_same hb) hc) hd)).trans (keepA (u := .dK []) (keepA (u := .dK []) (keepA (u := .lst [.str "a"]) (upd_same (o := .lst [])) hb) hc) hd)) hL
      have fb := keepA (u := .lst [.ref a, .ref b, .ref c, .ref d]) ((upd_ne (o := .dK (mergeK [] [(Sum.inr "a", .int 1)])) (ne_of_none (keepA (u := .dK []) upd_same hc) hd)).trans (keepA (u := .dK []) (keepA (u := .dK []) (upd_same (o := .lst [.str "a"])) hc) hd)) hL
      have fc := keepA (u := .lst [.ref a, .ref b, .ref c, .ref d]) ((upd_ne (o := .dK (mergeK [] [(Sum.inr "a", .int 1)])) (ne_of_none upd_same hd)).trans (keepA (u := .dK []) (upd_same (o := .dK [])) hd)) hL
      have fd' := keepA (u := .lst [.ref a, .ref b, .ref c, .ref d]) (upd_same (o := .dK (mergeK [] [(Sum.inr "a", .int 1)]))) hL
      have kH := ((((((b1.upd (o := .lst []) ha).upd (o := .lst [.str "a"]) hb).upd (o := .dK []) hc).upd (o := .dK []) hd).new (o := .dK (mergeK [] [(Sum.inr "a", .int 1)])) (b1.free d1 nd)).upd (o := .lst [.ref a, .ref b, .ref c, .ref d]) hL)
      refine fin (n := j - 19) upd_same (by omega) (by show j - 19 < 4; omega) (vc (.of ?_) (vc (.of ?_) (vc (.of ?_) (vc (.of ?_) nil)))) (p5.put nL) kH
      · exact ⟨_, .inr (.inl ⟨a, [], [], rfl, (cut_at na).trans fa, by decide, .nil, rfl⟩), by decide +kernel, by decide +kernel⟩
      · exact ⟨_, .inr (.inl ⟨b, [.str "a"], [_], rfl, (cut_at nb).trans fb, by decide, .cons (.inl (.str _)) .nil, rfl⟩), by decide +kernel, by decide +kernel⟩
      · exact ⟨_, .inr (.inr (.inr ⟨c, [], [], [], rfl, (cut_at nc).trans fc, .nil, rfl, by decide, .nil, rfl⟩)), by decide +kernel, by decide +kernel⟩
      · exact ⟨_, .inr (.inr (.inr ⟨d, ["a"], [.int 1], [_], rfl, (cut_at nd).trans fd', by decide, rfl, by decide, .cons (.inl (.int _)) .nil, rfl⟩)), by decide +kernel, by decide +kernel⟩
    · have u1 : 23 ≤ j := by
        have z : ¬ ((j : Int) < 23) := fun z => u (decide_eq_true z)
        omega
      refine ⟨(by show 0 ≤ sizeLine; decide), fun a ha => ⟨(by show 1 ≤ sizeLine; decide), fun b hb => ⟨(by show 2 ≤ sizeLine; decide), fun c hc => ⟨(by show 0 ≤ sizeLine; decide), fun d hd => fun e he => ⟨(by show 0 ≤ sizeLine; decide), fun f hf => ⟨(by show 2 ≤ sizeLine; decide), fun g hg => ?_⟩⟩⟩⟩⟩⟩
      have na := hp1.ne ha
      have p2 := hp1.put (o := .tup []) na
      have nb := p2.ne hb
      have p3 := p2.put (o := .tup [.str "a"]) nb
      have nc := p3.ne hc
      have p4 := p3.put (o := .tup [.int 0, .int 1]) nc
      have nd := p4.ne hd
      have p5 := p4.put (o := .lst []) nd
      have ne := p5.ne he
      have p6 := p5.put (o := .dK []) ne
      have nf := p6.ne hf
      have p7 := p6.put (o := .lst []) nf
      have ng := p7.ne hg
      have p8 := (p7.put (o := .tup [.int 1, .ref f]) ng).put (o := .dK (mergeK [] [(Sum.inr "a", .ref g)])) ne
      have eE : upd (upd (upd _ e (.dK [])) f (.lst [])) g (.tup [.int 1, .ref f]) e = some (.dK []) := keepA (keepA upd_same hf) hg
      refine ⟨eE, [(Sum.inr "a", .ref g)], rfl, (by show 1 ≤ 15; decide), (by show 2 ≤ sizeLine; decide), fun t ht => ⟨(by show 4 ≤ sizeLine; decide), fun L hL => ⟨_, rfl, _, _, rfl, rfl, ?_⟩⟩⟩
      have nt := p8.ne ht
      have p9 := p8.put (o := .tup [.ref d, .ref e]) nt
      have nL := p9.ne hL
      have e1 := (((((But.refl p _).upd (o := .tup []) ha).upd (o := .tup [.str "a"]) hb).upd (o := .tup [.int 0, .int 1]) hc).upd (o := .lst []) hd).free he ne
      have kH := ((((((((((b1.upd (o := .tup []) ha).upd (o := .tup [.str "a"]) hb).upd (o := .tup [.int 0, .int 1]) hc).upd (o := .lst []) hd).upd (o := .dK []) he).upd (o := .lst []) hf).upd (o := .tup [.int 1, .ref f]) hg).new (o := .dK (mergeK [] [(Sum.inr "a", .ref g)])) (b1.free e1 ne)).upd (o := .tup [.ref d, .ref e]) ht)).upd (o := .lst [.ref a, .ref b, .ref c, .ref t]) hL
      have ef := ne_of_none (upd_same (o := .dK [])) hf
      have eg := ne_of_none (keepA (u := .lst []) (upd_same (o := .dK [])) hf) hg
      have xa := keep5 (u6 := .lst [.ref a, .ref b, .ref c, .ref t]) (keepA (u := .lst []) (keepA (u := .tup [.int 0, .int 1]) (keepA (u := .tup [.str "a"]) (upd_same (o := .tup [])) hb) hc) hd) he hf hg ht hL
      have xb := keep5 (u6 := .lst [.ref a, .ref b, .ref c, .ref t]) (keepA (u := .lst []) (keepA (u := .tup [.int 0, .int 1]) (upd_same (o := .tup [.str "a"])) hc) hd) he hf hg ht hL
      have xc := keep5 (u6 := .lst [.ref a, .ref b, .ref c, .ref t]) (keepA (u := .lst []) (upd_same (o := .tup [.int 0, .int 1])) hd) he hf hg ht hL
      have xd := keep5 (u6 := .lst [.ref a, .ref b, .ref c, .ref t]) (upd_same (o := .lst [])) he hf hg ht hL
      have xe := keepA (u := .lst [.ref a, .ref b, .ref c, .ref t]) (keepA (u := .tup [.ref d, .ref e]) (upd_same (o := .dK (mergeK [] [(Sum.inr "a", .ref g)]))) ht) hL
      have xf := keepA (u := .lst [.ref a, .ref b, .ref c, .ref t]) (keepA (u := .tup [.ref d, .ref e]) ((upd_ne (o := .dK (mergeK [] [(Sum.inr "a", .ref g)])) ef.symm).trans (keepA (u := .tup [.int 1, .ref f]) (upd_same (o := .lst [])) hg)) ht) hL
      have xg := keepA (u := .lst [.ref a, .ref b, .ref c, .ref t]) (keepA (u := .tup [.ref d, .ref e]) ((upd_ne (o := .dK (mergeK [] [(Sum.inr "a", .ref g)])) eg.symm).trans (upd_same (o := .tup [.int 1, .ref f]))) ht) hL
      have xt := keepA (u := .lst [.ref a, .ref b, .ref c, .ref t]) (upd_same (o := .tup [.ref d, .ref e])) hL
      refine fin (n := j - 23) upd_same (by omega) (by show j - 23 < 4; omega) (vc (.of ?_) (vc (.of ?_) (vc (.of ?_) (vc (.of ?_) nil)))) (p9.put nL) kH
      · exact ⟨_, .inr (.inr (.inl ⟨a, [], [], rfl, (cut_at na).trans xa, by decide, .nil, rfl⟩)), by decide +kernel, by decide +kernel⟩
      · exact ⟨_, .inr (.inr (.inl ⟨b, [.str "a"], [_], rfl, (cut_at nb).trans xb, by decide, .cons (.inl (.str _)) .nil, rfl⟩)), by decide +kernel, by decide +kernel⟩
      · exact ⟨_, .inr (.inr (.inl ⟨c, [.int 0, .int 1], [_, _], rfl, (cut_at nc).trans xc, by decide, .cons (.inl (.int _)) (.cons (.inl (.int _)) .nil), rfl⟩)), by decide +kernel, by decide +kernel⟩
      · exact ⟨_, .inr (.inr (.inl ⟨t, [.ref d, .ref e], [_, _], rfl, (cut_at nt).trans xt, (by show 2 ≤ 1000; decide), .cons (.inr (.inl ⟨d, [], [], rfl, (cut_at nd).trans xd, by decide, .nil, rfl⟩)) (.cons (.inr (.inr (.inr ⟨e, ["a"], [.ref g], [_], rfl, (cut_at ne).trans xe, by decide, rfl, (by show 1 ≤ 1000; decide),
          .cons (.inr (.inr (.inl ⟨g, [.int 1, .ref f], [_, _], rfl, (cut_at eg.symm).trans ((cut_at ng).trans xg), (by show 2 ≤ 1000; decide), .cons (.inl (.int _)) (.cons (.inr (.inl ⟨f, [], [], rfl, (cut_at ef.symm).trans ((cut_at nf).trans xf), by decide, .nil, rfl⟩)) .nil), rfl⟩))) .nil, rfl⟩))) .nil), rfl⟩)), by decide +kernel, by decide +kernel⟩
end
end Wb
/-! _law_sum_heard: the row of a loop that a call returns, or the error's word and what it keeps -/
namespace Wb
open PySem L2 L2H WbMin WbS Lz Le
abbrev sSumHeard : Stmt := top 67
/-- what the top has written of a class of errors that is caught -/
structure CatchF (K : PySem.W.Frag) (mg : Str → Option Value) (x g : Str) (C : Addr) : Prop where
  xf : XfC K C
  no : PySem.W.findIn K (.ref C) g = some none
  g : mg x = some (.ref C)
structure SumC (K : PySem.W.Frag) (mg : Str → Option Value) (cL cO cN cM : Addr) : Prop where
  L : CatchF K mg "NotALoop" "given" cL
  O : CatchF K mg "OtherSigns" "given" cO
  N : CatchF K mg "InvalidNumber" "given" cN
  M : CatchF K mg "TooMany" "limit" cM
  ll : PySem.W.exmOne K (.ref cL) (.ref cL) = some true
  ol : PySem.W.exmOne K (.ref cO) (.ref cL) = some false
  oo : PySem.W.exmOne K (.ref cO) (.ref cO) = some true
  nl : PySem.W.exmOne K (.ref cN) (.ref cL) = some false
  no : PySem.W.exmOne K (.ref cN) (.ref cO) = some false
  nn : PySem.W.exmOne K (.ref cN) (.ref cN) = some true
  ml : PySem.W.exmOne K (.ref cM) (.ref cL) = some false
  mo : PySem.W.exmOne K (.ref cM) (.ref cO) = some false
  mn : PySem.W.exmOne K (.ref cM) (.ref cN) = some false
  mm : PySem.W.exmOne K (.ref cM) (.ref cM) = some true
/-- an error's word and what it keeps under which name -/
def SumErr (cL cO cN cM : Addr) (C : Addr) (wd g : Str) : Prop := C = cL ∧ wd = "thing" ∧ g = "given" ∨ C = cO ∧ wd = "signs" ∧ g = "given" ∨ C = cN ∧ wd = "number" ∧ g = "given" ∨ C = cM ∧ wd = "many" ∧ g = "limit"
def TellS (K : PySem.W.Frag) (H : Hp) (wd : Str) (d : PyData) (Q : VK) : Prop := ∀ (a : Addr) (H' : Hp), H a = none → Same H H' → Dp K (New H H') (.ref a) (.list [.str wd, d]) → Q (.ref a) H'
def FailsA (E : XK) (C : Addr) (g : Str) (x : V) (H : Hp) : Prop := ∀ (dx : Addr) (H' : Hp), Same H H' → H' dx = none → E (.ref C) (some dx) (upd H' dx (.xd [(g, x)]))
abbrev NSh : List Str := ["_law_act", "_law_told", "e"]
theorem scSh2 : FnScope NSh ["_law_act"] (defScope sSumHeard) := ⟨rfl, rfl, rfl, by decide +kernel, rfl, by decide +kernel, by decide +kernel⟩
theorem hot_suiteS {X : Cx} {r : Addr} {o : Obj} {cl : Value} {dd : Option Addr} {pn : List (Addr × Obj)} (z : L2N.Zn cl dd o) (hf : ∃ fs, o.data = .fields fs) : HotC (X.suite r ((r, o) :: pn)) := by
  obtain ⟨vs, hd⟩ := hf
  exact ⟨(r, o), ⟨rfl, vs, hd, z.2.2 vs hd⟩, List.mem_cons_self⟩
end Wb
/-! faces of own instances; lists that hold such faces compared -/
namespace Wb
open PySem L2 L2H WbMin WbS Lz Le
theorem kit_cb {K : PySem.W.Frag} {C : Addr} {T : String} (m : PySem.W.kitMeta T = true) (h : PySem.W.subIn K (.ref C) (.type T) = some false) : PySem.W.kitOne K (.ref C) (.type T) = some false := by
  unfold PySem.W.kitOne
  rw [if_neg (by intro z; have q := beq_iff_eq.mp z; cases q)]
  show (if PySem.W.kitMeta T = true then PySem.W.subIn K (.ref C) (.type T) else none) = some false
  rw [if_pos m]
  exact h
/-- what the face asks of an own class -/
structure FaceC (K : PySem.W.Frag) (C : Addr) : Prop where
  cl : Cls K C
  cc : PySem.W.findIn K (.ref C) "__class__" = some (some (.builtin "object.__class__"))
  cg : PySem.W.specialIn K (.builtin "object.__class__") "__get__" = some (some (.builtin "getset_descriptor.__get__"))
  ct : PySem.W.takesIn K (.builtin "object.__class__") = some true
  co : PySem.W.mroIn K C (.type "object") = some true
  st : PySem.W.subIn K (.ref C) (.type "tuple") = some false
  sl : PySem.W.subIn K (.ref C) (.type "list") = some false
  sd : PySem.W.subIn K (.ref C) (.type "dict") = some false
  sb : PySem.W.subIn K (.ref C) (.type "bool") = some false
def spFaceI (C : Addr) : Sp := fun vs H Q _ => ∃ (r dx : Addr) (fs : List (Str × V)), vs = [.ref r] ∧ H r = some (.ins C dx fs) ∧ ∀ (a : Addr) (H' : Hp), H a = none → Same H H' → H' a = some (.lst [.str "plain", .ref r]) → Q (.ref a) H'
section
variable {P : Program} {w : World} {K : PySem.W.Frag} {mg : Str → Option Value} {base : Heap} {f C : Addr} {fd : FuncData}
theorem FnH.either {CX : CXT} {k : Nat} {ps : List Str} {sp sp' : Sp} (F : FnH P w K mg base CX k f fd ps sp) (G : FnH P w K mg base CX k f fd ps sp') : FnH P w K mg base CX k f fd ps (fun vs H Q E => sp vs H Q E ∨ sp' vs H Q E) :=
  ⟨fun vs H Q E h => h.elim (F.len vs H Q E) (G.len vs H Q E), fun A outer s H args us vs Q E p hr hot pin e0 hb r h => h.elim (F.run A outer s H args us vs Q E p hr hot pin e0 hb r) (G.run A outer s H args us vs Q E p hr hot pin e0 hb r)⟩
set_option maxHeartbeats 0 in
theorem ok_faceI (D' : Def K mg "_law_face" sFace ["_law_thing"] f fd) (Z : FreeT mg) (FC : FaceC K C) : FnOk P w K mg base CX0 6 f fd ["_law_thing"] (spFaceI C) := by
  have D := D'.F
  have g := D'.g
  have kp := D'.kp
  have b := D'.b
  have G : FnOk P w K mg base CX0 5 f fd ["_law_thing"] (spFace K 4) := ok_face D' Z 4
  refine D.ok scFace (fun vs H Q E h => ?_) (fun cdv A outer s H vs Q E hr h => ?_)
  · obtain ⟨r, dx, fs, rfl, _⟩ := h
    rfl
  · obtain ⟨r, dx, fs, rfl, hR, k⟩ := h
    refine ⟨_, pss_cons (ps_if (pt_val (pe_callB call_isi (by rfl) Z.isi (by decide +kernel) (pa_cons (pv 0) (pa_cons (pe_bltn (v := .ty "tuple") (u := .type "tuple") (by rfl) Z.tup (by decide +kernel) rfl) pa_nil))))
        (pss_one (ps_ret (pe_op op_cat (pe_lst (pa_cons pe_str pa_nil))
          (pe_lc (own := [("_law_part", 1)]) (g := gName 1) (tt := tYes) rfl scFace.nd (pi_tup (pv 0)) (blkOk_by (N := NF) (sc := defScope sFace) (by decide +kernel)) (fun _ _ _ _ _ => pg_name (i := 1) scFace.nd rfl (.inl rfl)) (fun _ _ _ _ _ => pts_nil)
            (fun _ _ _ _ _ => pe_call G hr rfl g kp b .nil pass0 (pa_cons (pv 1) pa_nil)))))) pss_nil)
      (pss_cons (ps_if (pt_val (pe_callB call_isi (by rfl) Z.isi (by decide +kernel) (pa_cons (pv 0) (pa_cons (pe_bltn (v := .ty "list") (u := .type "list") (by rfl) Z.lst (by decide +kernel) rfl) pa_nil))))
        (pss_one (ps_ret (pe_op op_cat (pe_lst (pa_cons pe_str pa_nil))
          (pe_lc (own := [("_law_part", 1)]) (g := gName 1) (tt := tYes) rfl scFace.nd (pi_list (pv 0)) (blkOk_by (N := NF) (sc := defScope sFace) (by decide +kernel)) (fun _ _ _ _ _ => pg_name (i := 1) scFace.nd rfl (.inl rfl)) (fun _ _ _ _ _ => pts_nil)
            (fun _ _ _ _ _ => pe_call G hr rfl g kp b .nil pass0 (pa_cons (pv 1) pa_nil)))))) pss_nil)
      (pss_cons (ps_if (pt_val (pe_callB call_isi (by rfl) Z.isi (by decide +kernel) (pa_cons (pv 0) (pa_cons (pe_bltn (v := .ty "dict") (u := .type "dict") (by rfl) Z.dct (by decide +kernel) rfl) pa_nil))))
        (pss_one (ps_ret (pe_op op_cat (pe_lst (pa_cons pe_str pa_nil))
          (pe_lock (pe_lc (own := [("_law_key", 2)]) (g := gName 2) (tt := tYes) rfl scFace.nd (pi_keys (pv 0)) (blkOk_by (N := NF) (sc := defScope sFace) (by decide +kernel)) (fun _ _ _ _ _ => pg_name (i := 2) scFace.nd rfl (.inl rfl)) (fun _ _ _ _ _ => pts_nil)
            (fun _ _ _ _ _ => pe_lst (pa_cons (pe_call G hr rfl g kp b .nil pass0 (pa_cons (pv 2) pa_nil)) (pa_cons (pe_call G hr rfl g kp b .nil pass0 (pa_cons (pe_dget (hu_of hr) (pv 0) (pv 2) (fun _ _ => rfl)) pa_nil)) pa_nil)))))))) pss_nil)
      (pss_one (ps_ret (pe_lst (pa_cons (pe_ifExp (pt_val (pe_callB call_isi (by rfl) Z.isi (by decide +kernel) (pa_cons (pv 0) (pa_cons (pe_bltn (v := .ty "bool") (u := .type "bool") (by rfl) Z.bool (by decide +kernel) rfl) pa_nil)))) pe_str pe_str) (pa_cons (pv 0) pa_nil))))))), ?_⟩
    have tt : TyX K H (.ref r) (.ref C) := .base (.ins hR FC.cl FC.cc FC.cg FC.ct FC.co)
    refine ⟨_, rfl, _, _, .ref C, .type "tuple", false, rfl, .ty "tuple", tt, kit_cb (by decide +kernel) FC.st, false, rfl, iteF ?_⟩
    refine ⟨_, rfl, _, _, .ref C, .type "list", false, rfl, .ty "list", tt, kit_cb (by decide +kernel) FC.sl, false, rfl, iteF ?_⟩
    refine ⟨_, rfl, _, _, .ref C, .type "dict", false, rfl, .ty "dict", tt, kit_cb (by decide +kernel) FC.sd, false, rfl, iteF ?_⟩
    refine ⟨_, rfl, _, _, .ref C, .type "bool", false, rfl, .ty "bool", tt, kit_cb (by decide +kernel) FC.sb, false, rfl, iteF ?_⟩
    exact ⟨_, rfl, (by show 2 ≤ sizeLine; decide), fun q hq => k q _ hq (Same.put (Same.refl H) hq) upd_same⟩
set_option maxHeartbeats 0 in
theorem ok_faceIH (D' : Def K mg "_law_face" sFace ["_law_thing"] f fd) (Z : FreeT mg) (FC : FaceC K C) : FnH P w K mg base CX0 6 f fd ["_law_thing"] (spFaceI C) := by
  have D := D'.F
  have g := D'.g
  have kp := D'.kp
  have b := D'.b
  have G : FnH P w K mg base CX0 5 f fd ["_law_thing"] (spFace K 4) := ok_faceH D' Z 4
  refine okHot D scFace (fun vs H Q E h => ?_) (fun cdv A outer s H vs Q E p hot hr h => ?_)
  · obtain ⟨r, dx, fs, rfl, _⟩ := h
    rfl
  · obtain ⟨r, dx, fs, rfl, hR, k⟩ := h
    have units : (A.deeper (PyProof.Rows.envOfC "_law_face" (defScope sFace) s.heap.objs.size f cdv)).units + 1 < cLine := by have := hr.un; omega
    refine ⟨_, pss_cons (ps_if (pt_val (pe_callB call_isi (by rfl) Z.isi (by decide +kernel) (pa_cons (pv 0) (pa_cons (pe_bltn (v := .ty "tuple") (u := .type "tuple") (by rfl) Z.tup (by decide +kernel) rfl) pa_nil))))
        (pss_one (ps_ret (pe_op op_cat (pe_lst (pa_cons pe_str pa_nil))
          (pe_lcH (own := [("_law_part", 1)]) (g := gName 1) (tt := tYes) ⟨p, hot, List.mem_cons_self⟩ scFace.nd (pi_tupleH (pv 0)) (blkOk_by (N := NF) (sc := defScope sFace) (by decide +kernel)) (fun _ _ _ _ _ _ _ => pg_name (i := 1) scFace.nd rfl (.inl rfl)) (fun _ _ _ _ _ _ _ => pts_nil)
            (fun _ _ _ _ _ _ hb => (pe_callH (E := fun _ => E0) G hr (blkH_hot hb) rfl g kp b passH0 (pa_cons (pv 1) pa_nil))))))) pss_nil)
      (pss_cons (ps_if (pt_val (pe_callB call_isi (by rfl) Z.isi (by decide +kernel) (pa_cons (pv 0) (pa_cons (pe_bltn (v := .ty "list") (u := .type "list") (by rfl) Z.lst (by decide +kernel) rfl) pa_nil))))
        (pss_one (ps_ret (pe_op op_cat (pe_lst (pa_cons pe_str pa_nil))
          (pe_lcH (own := [("_law_part", 1)]) (g := gName 1) (tt := tYes) ⟨p, hot, List.mem_cons_self⟩ scFace.nd (pi_listH (pv 0)) (blkOk_by (N := NF) (sc := defScope sFace) (by decide +kernel)) (fun _ _ _ _ _ _ _ => pg_name (i := 1) scFace.nd rfl (.inl rfl)) (fun _ _ _ _ _ _ _ => pts_nil)
            (fun _ _ _ _ _ _ hb => (pe_callH (E := fun _ => E0) G hr (blkH_hot hb) rfl g kp b passH0 (pa_cons (pv 1) pa_nil))))))) pss_nil)
      (pss_cons (ps_if (pt_val (pe_callB call_isi (by rfl) Z.isi (by decide +kernel) (pa_cons (pv 0) (pa_cons (pe_bltn (v := .ty "dict") (u := .type "dict") (by rfl) Z.dct (by decide +kernel) rfl) pa_nil))))
        (pss_one (ps_ret (pe_op op_cat (pe_lst (pa_cons pe_str pa_nil))
          (pe_lock (pe_lcH (own := [("_law_key", 2)]) (g := gName 2) (tt := tYes) ⟨p, hot, List.mem_cons_self⟩ scFace.nd (pi_keysH (pv 0)) (blkOk_by (N := NF) (sc := defScope sFace) (by decide +kernel)) (fun _ _ _ _ _ _ _ => pg_name (i := 2) scFace.nd rfl (.inl rfl)) (fun _ _ _ _ _ _ _ => pts_nil)
            (fun _ _ _ _ _ _ hb => pe_lst (pa_cons (pe_callH (E := fun _ => E0) G hr (blkH_hot hb) rfl g kp b passH0 (pa_cons (pv 2) pa_nil)) (pa_cons (pe_callH (E := fun _ => E0) G hr (blkH_hot hb) rfl g kp b passH0 (pa_cons (pe_dget units (pv 0) (pv 2) (fun _ _ => rfl)) pa_nil)) pa_nil)))))))) pss_nil)
      (pss_one (ps_ret (pe_lst (pa_cons (pe_ifExp (pt_val (pe_callB call_isi (by rfl) Z.isi (by decide +kernel) (pa_cons (pv 0) (pa_cons (pe_bltn (v := .ty "bool") (u := .type "bool") (by rfl) Z.bool (by decide +kernel) rfl) pa_nil)))) pe_str pe_str) (pa_cons (pv 0) pa_nil))))))), ?_⟩
    have tt : TyX K H (.ref r) (.ref C) := .base (.ins hR FC.cl FC.cc FC.cg FC.ct FC.co)
    refine ⟨_, rfl, _, _, .ref C, .type "tuple", false, rfl, .ty "tuple", tt, kit_cb (by decide +kernel) FC.st, false, rfl, iteF ?_⟩
    refine ⟨_, rfl, _, _, .ref C, .type "list", false, rfl, .ty "list", tt, kit_cb (by decide +kernel) FC.sl, false, rfl, iteF ?_⟩
    refine ⟨_, rfl, _, _, .ref C, .type "dict", false, rfl, .ty "dict", tt, kit_cb (by decide +kernel) FC.sd, false, rfl, iteF ?_⟩
    refine ⟨_, rfl, _, _, .ref C, .type "bool", false, rfl, .ty "bool", tt, kit_cb (by decide +kernel) FC.sb, false, rfl, iteF ?_⟩
    exact ⟨_, rfl, (by show 2 ≤ sizeLine; decide), fun q hq => k q _ hq (Same.put (Same.refl H) hq) upd_same⟩
end
/-! ### a word and the face of one instance, twice -/
section
variable {X : Cx}
theorem two_vals {x y : V} {its : List Value} (h : Vals [x, y] its) : ∃ u v, its = [u, v] ∧ RelV x u ∧ RelV y v := by
  cases h with
  | cons r t =>
    cases t with
    | cons r2 t2 =>
      cases t2
      exact ⟨_, _, rfl, r, r2⟩
theorem eq_word {A : Around} {s : Shared} (z : Str) (t u : Tok) : SeqAt.EqAt A s (.str z t) (.str z u) true := by
  have h := SeqAt.EqAt.str_str (A := A) (s := s) z t z u
  rw [beq_self_eq_true] at h
  exact h
end
end Wb
/-! _law_sum_heard: where an error keeps a loop -/
namespace Wb
open PySem L2 L2H WbMin WbS Lz Le
theorem keepQ {H : Hp} {a b : Addr} {o u : HO} (h : H a = some o) (n : H b = none) : upd H b u a = some o := (upd_ne (ne_of_none h n)).trans h
def TellQ (H : Hp) (wd : Str) (r : Addr) (Q : VK) : Prop := ∀ (a f : Addr) (H' : Hp), H f = none → Same H H' → H' a = some (.lst [.str wd, .ref f]) → H' f = some (.lst [.str "plain", .ref r]) → Q (.ref a) H'
def spFaceQ (K : PySem.W.Frag) (C : Addr) : Sp := fun vs H Q E => spFace K 5 vs H Q E ∨ spFaceI C vs H Q E
def TTQ (K : PySem.W.Frag) (C T cL cO cN cM : Addr) : Le.Act → Hp → VK → Prop := fun act H Q =>
  (∃ L : LD, L.Ok ∧ (∀ (E : XK) (R : VK), (∀ (r : Addr) (H' : Hp), Same H H' → LoopAt C T H' r L → R (.ref r) H') → act E H R) ∧ TellS K H "loop" (loopF L) Q) ∨
    (∃ (Ce : Addr) (wd g : Str) (x : V) (d : PyData), SumErr cL cO cN cM Ce wd g ∧ Thing H 5 x d ∧ (∀ (E : XK) (R : VK), FailsA E Ce g x H → act E H R) ∧ TellS K H wd d Q) ∨
    ∃ (Ce : Addr) (wd g : Str) (r : Addr) (L : LD), SumErr cL cO cN cM Ce wd g ∧ LoopAt C T H r L ∧ (∀ (E : XK) (R : VK), FailsA E Ce g (.ref r) H → act E H R) ∧ TellQ H wd r Q
/-- what a suite does -/
def tSuiteQ (K : PySem.W.Frag) (CL : Addr) (wd g : Str) (C : Addr) : Suite := fun r cl dd => tSeq (tAsg (tLst (tCons (tC (.str wd)) (tCons (tCallS (spFaceQ K CL) (fun _ => E0) (tCons (tXf r cl dd C g (tVar 2)) tNil)) tNil))) (gName 1)) tNext
set_option maxHeartbeats 0 in
theorem hears_sumQ {X : Cx} {A : LA} {e : Addr} {q : Str} {k : Nat} {g fF cL cO cN cM : Addr} {dF : FuncData} {cdg : Value} (R : LoopF X.K X.mg A e) (DF : Def X.K X.mg "_law_face" sFace ["_law_thing"] fF dF) (Z : FreeT X.mg) (FC : FaceC X.K A.C) (S3 : SumC X.K X.mg cL cO cN cM) (k6 : 6 ≤ k) :
    Hears X NSh "_law_sum_heard" (defScope sSumHeard) g cdg (defBody sSumHeard) "_law_act" q k (TTQ X.K A.C A.T cL cO cN cM) := by
  have GF : FnOk X.prog X.w X.K X.mg X.base CX0 6 fF dF ["_law_thing"] (spFace X.K 5) := ok_face DF Z 5
  have GH : FnH X.prog X.w X.K X.mg X.base CX0 6 fF dF ["_law_thing"] (spFaceQ X.K A.C) := FnH.either (ok_faceH DF Z 5) (ok_faceIH DF Z FC)
  have GW : FnOk X.prog X.w X.K X.mg X.base CX0 1 A.fW A.dW ["self"] (spLoRow A.C) := ok_lorow R
  intro f c s H Q act hr0 call hc tt
  have hr : Room 6 (X.A.deeper (PyProof.Rows.envOfC "_law_sum_heard" (defScope sSumHeard) s.heap.objs.size g cdg)) := hr0.mono k6
  have hr2 : Room 2 (X.A.deeper (PyProof.Rows.envOfC "_law_sum_heard" (defScope sSumHeard) s.heap.objs.size g cdg)) := hr0.mono (by omega)
  have hrH := roomH_of hr
  refine ⟨_, pss_cons (ps_tryCls (l := [(.ref cL, 2, tSuiteQ X.K A.C "thing" "given" cL), (.ref cO, 2, tSuiteQ X.K A.C "signs" "given" cO), (.ref cN, 2, tSuiteQ X.K A.C "number" "given" cN), (.ref cM, 2, tSuiteQ X.K A.C "many" "limit" cM)]) rfl rfl scSh2.nd
        (fun W pn xe tk own => pss_one (ps_set (i := 1) scSh2.nd rfl (.inl rfl) (pe_lst (pa_cons pe_str (pa_cons (pe_call GF hr rfl DF.g DF.kp DF.b .nil pass0 (pa_cons (pe_prop (call W pn xe _ _ tk) R.L.cl R.hW GW hr2 R.bW .nil pass0 rfl) pa_nil)) pa_nil)))))
        (.as_ (n := "e") (i := 2) rfl rfl ⟨rfl, by decide, .inl S3.L.g⟩ (fun r o cl dd pn z hf => pss_one (ps_set (i := 1) scSh2.nd rfl (.inl rfl) (pe_lst (pa_cons pe_str (pa_cons (pe_callH (E := fun _ => E0) GH ⟨hrH.dp, hrH.un⟩ (hot_suiteS z hf) rfl DF.g DF.kp DF.b passH0 (pa_cons (pe_xf S3.L.xf S3.L.no z.zc hf (pv 2)) pa_nil)) pa_nil)))))
        (.as_ (n := "e") (i := 2) rfl rfl ⟨rfl, by decide, .inl S3.O.g⟩ (fun r o cl dd pn z hf => pss_one (ps_set (i := 1) scSh2.nd rfl (.inl rfl) (pe_lst (pa_cons pe_str (pa_cons (pe_callH (E := fun _ => E0) GH ⟨hrH.dp, hrH.un⟩ (hot_suiteS z hf) rfl DF.g DF.kp DF.b passH0 (pa_cons (pe_xf S3.O.xf S3.O.no z.zc hf (pv 2)) pa_nil)) pa_nil)))))
        (.as_ (n := "e") (i := 2) rfl rfl ⟨rfl, by decide, .inl S3.N.g⟩ (fun r o cl dd pn z hf => pss_one (ps_set (i := 1) scSh2.nd rfl (.inl rfl) (pe_lst (pa_cons pe_str (pa_cons (pe_callH (E := fun _ => E0) GH ⟨hrH.dp, hrH.un⟩ (hot_suiteS z hf) rfl DF.g DF.kp DF.b passH0 (pa_cons (pe_xf S3.N.xf S3.N.no z.zc hf (pv 2)) pa_nil)) pa_nil)))))
        (.as_ (n := "e") (i := 2) rfl rfl ⟨rfl, by decide, .inl S3.M.g⟩ (fun r o cl dd pn z hf => pss_one (ps_set (i := 1) scSh2.nd rfl (.inl rfl) (pe_lst (pa_cons pe_str (pa_cons (pe_callH (E := fun _ => E0) GH ⟨hrH.dp, hrH.un⟩ (hot_suiteS z hf) rfl DF.g DF.kp DF.b passH0 (pa_cons (pe_xf S3.M.xf S3.M.no z.zc hf (pv 2)) pa_nil)) pa_nil)))))
        (.rest _))))))
    (pss_one (ps_ret (pv 1))), ?_⟩
  have face : ∀ (R : VK), (∀ a H', Q (.ref a) H' → R (.ref a) H') → ∀ (wd : Str) (x : V) (d : PyData) (G : Hp), Same H G → Thing G 5 x d → TellS X.K H wd d Q → spFace X.K 5 [x] G (fun v2 H2 => [V.str wd, v2].length ≤ sizeLine ∧ ∀ (p : Addr), H2 p = none → R (.ref p) (upd H2 p (.lst [V.str wd, v2]))) E0 := fun R next wd x d G s1 th told => by
    refine ⟨x, d, rfl, th, fun b G1 hb s2 d2 => ⟨(by show 2 ≤ sizeLine; decide), fun a ha => next _ _ ?_⟩⟩
    have s3 := s1.trans s2
    refine told a _ (free_of s3 ha) (Same.new2 s3 (free_of s3 ha)) (.lst (SqL.of ((New.at (free_of s3 ha)).trans upd_same)) (.cons (.str _) (.cons (Dp.stay (New.mono fun c u h1 h2 => ⟨free_of s1 h1, ?_⟩) d2) .nil)))
    rw [upd_ne (ne_of_none h2 ha)]
    exact h2
  have faceQ : ∀ (R : VK), (∀ a H', Q (.ref a) H' → R (.ref a) H') → ∀ (wd : Str) (r : Addr) (L : LD) (G : Hp), Same H G → LoopAt A.C A.T G r L → TellQ H wd r Q → spFaceQ X.K A.C [.ref r] G (fun v2 H2 => [V.str wd, v2].length ≤ sizeLine ∧ ∀ (p : Addr), H2 p = none → R (.ref p) (upd H2 p (.lst [V.str wd, v2]))) E0 := fun R next wd r L G s1 LA told => by
    obtain ⟨dx, t, rr, u, y, tb, as, bs, h0, pr, TA⟩ := id LA
    refine .inr ⟨r, dx, _, rfl, h0, fun b G1 hb s2 hb1 => ⟨(by show 2 ≤ sizeLine; decide), fun a ha => next _ _ ?_⟩⟩
    exact told a b _ (free_of s1 hb) (Same.new2 (s1.trans s2) (free_of (s1.trans s2) ha)) upd_same (keepQ hb1 ha)
  rcases tt with ⟨L, O, run, told⟩ | ⟨Ce, wd, gg, x, d, is, th, run, told⟩ | ⟨Ce, wd, gg, r, L, is, LA, run, told⟩
  · refine ⟨rfl, hc, run _ _ fun r H' s1 LA => ?_⟩
    obtain ⟨dx, t, rr, u, y, tb, as, bs, h0, pr, TA⟩ := id LA
    obtain ⟨l1, l2, l3, l4, l5, l6⟩ := lf_look (S L.sg) t rr u y tb
    refine ⟨r, dx, _, rfl, h0, r, dx, t, rr, u, y, _, _, rfl, h0, l1, l2, l3, l4, l5, fun qr hqr => ?_⟩
    have s10 := Same.put (o := .tup [.str (S L.sg), .ref t, .ref rr, .ref u, .ref y]) (Same.refl H') hqr
    have RA : RowAt (upd H' qr (.tup [.str (S L.sg), .ref t, .ref rr, .ref u, .ref y])) qr L := (pr.same s10).row upd_same
    exact face (fun x H' => ∃ v, (some (some x) : Option (Option V)) = some (some v) ∧ Q v H') (fun a H' q => ⟨_, rfl, q⟩) "loop" (.ref qr) (loopF L) _ (s1.trans s10) (loopF_thing O RA).up told
  · refine ⟨rfl, hc, run _ _ fun dx H' s1 n => ?_⟩
    have s2 : Same H (upd H' dx (.xd [(gg, x)])) := Same.new2 s1 (free_of s1 n)
    have suite : ∀ (r : Addr) (wd' : Str), wd' = wd → tSuiteQ X.K A.C wd' gg Ce r (.ref Ce) (some dx) (offD { nx := fun σ' H'' => tRet (tVar 1) { nx := fun _ H' => Q .non H', rt := Q } σ' H'', rt := Q } 2) [some (.ref f), none, some (.ref r)] (upd H' dx (.xd [(gg, x)])) := by
      rintro r _ rfl
      refine ⟨_, rfl, rfl, rfl, dx, _, x, rfl, upd_same, List.lookup_cons_self, .inl ?_⟩
      exact face (fun x H' => ∃ v, (some (some x) : Option (Option V)) = some (some v) ∧ Q v H') (fun a H' q => ⟨_, rfl, q⟩) _ x d _ s2 (th.same s2) told
    rcases is with ⟨rfl, ew, rfl⟩ | ⟨rfl, ew, rfl⟩ | ⟨rfl, ew, rfl⟩ | ⟨rfl, ew, rfl⟩
    · exact ⟨true, S3.ll, fun _ r _ => suite r "thing" ew.symm, fun z => by cases z⟩
    · exact ⟨false, S3.ol, (fun z => by cases z), fun _ => ⟨true, S3.oo, fun _ r _ => suite r "signs" ew.symm, fun z => by cases z⟩⟩
    · exact ⟨false, S3.nl, (fun z => by cases z), fun _ => ⟨false, S3.no, (fun z => by cases z), fun _ => ⟨true, S3.nn, fun _ r _ => suite r "number" ew.symm, fun z => by cases z⟩⟩⟩
    · exact ⟨false, S3.ml, (fun z => by cases z), fun _ => ⟨false, S3.mo, (fun z => by cases z), fun _ => ⟨false, S3.mn, (fun z => by cases z), fun _ => ⟨true, S3.mm, fun _ r _ => suite r "many" ew.symm, fun z => by cases z⟩⟩⟩⟩
  · refine ⟨rfl, hc, run _ _ fun dx H' s1 n => ?_⟩
    have s2 : Same H (upd H' dx (.xd [(gg, .ref r)])) := Same.new2 s1 (free_of s1 n)
    have suite : ∀ (r0 : Addr) (wd' : Str), wd' = wd → tSuiteQ X.K A.C wd' gg Ce r0 (.ref Ce) (some dx) (offD { nx := fun σ' H'' => tRet (tVar 1) { nx := fun _ H' => Q .non H', rt := Q } σ' H'', rt := Q } 2) [some (.ref f), none, some (.ref r0)] (upd H' dx (.xd [(gg, .ref r)])) := by
      rintro r0 _ rfl
      refine ⟨_, rfl, rfl, rfl, dx, _, .ref r, rfl, upd_same, List.lookup_cons_self, ?_⟩
      exact faceQ (fun x H' => ∃ v, (some (some x) : Option (Option V)) = some (some v) ∧ Q v H') (fun a H' q => ⟨_, rfl, q⟩) _ r L _ s2 (LA.same s2) told
    rcases is with ⟨rfl, ew, rfl⟩ | ⟨rfl, ew, rfl⟩ | ⟨rfl, ew, rfl⟩ | ⟨rfl, ew, rfl⟩
    · exact ⟨true, S3.ll, fun _ r0 _ => suite r0 "thing" ew.symm, fun z => by cases z⟩
    · exact ⟨false, S3.ol, (fun z => by cases z), fun _ => ⟨true, S3.oo, fun _ r0 _ => suite r0 "signs" ew.symm, fun z => by cases z⟩⟩
    · exact ⟨false, S3.nl, (fun z => by cases z), fun _ => ⟨false, S3.no, (fun z => by cases z), fun _ => ⟨true, S3.nn, fun _ r0 _ => suite r0 "number" ew.symm, fun z => by cases z⟩⟩⟩
    · exact ⟨false, S3.ml, (fun z => by cases z), fun _ => ⟨false, S3.mo, (fun z => by cases z), fun _ => ⟨false, S3.mn, (fun z => by cases z), fun _ => ⟨true, S3.mm, fun _ r0 _ => suite r0 "many" ew.symm, fun z => by cases z⟩⟩⟩⟩
end Wb
/-! the program's loop of a model -/
namespace Wb
open PySem L2 WbMin WbS Lz
section
variable {P : Program} {w : World} {K : PySem.W.Frag} {mg : Str → Option Value} {base : Heap} {f fL : Addr} {fd dL : FuncData} {A : LA} {e : Addr}
theorem scLl : FnScope ["_law_model_here", "_law_line_here"] ["_law_model_here"] (defScope sLLoop) := ⟨rfl, rfl, rfl, by decide +kernel, rfl, by decide +kernel, by decide +kernel⟩
end
end Wb
/-! the program's loop of a model: its letters are ascending -/
namespace Wb
open PySem L2 WbMin WbS Lz
def spLLoop2 (C T : Addr) : Sp := fun vs H Q _ => ∃ (q : Addr) (L : LD), vs = [.ref q] ∧ L.Ok ∧ MdAt H q L ∧
  ∀ (r : Addr) (sg : List Nat) (H' : Hp), sg.Perm L.sg → PyProof.Rows.sortedS (sg.map sOne) = true → (L.srt sg).Ok → LoopAt C T H' r (L.srt sg) → H r = none → Same H H' → Q (.ref r) H'
section
variable {P : Program} {w : World} {K : PySem.W.Frag} {mg : Str → Option Value} {base : Heap} {f fL : Addr} {fd dL : FuncData} {A : LA} {e : Addr}
set_option maxHeartbeats 0 in
theorem ok_lloop2 (F : Fun K "_law_loop" "_law_loop" sLLoop f fd) (DL : Def K mg "_law_line" sLine ["_law_model_here"] fL dL) (D : LoopF K mg A e) (Z : Free mg) : FnOk P w K mg base CX0 6 f fd ["_law_model_here"] (spLLoop2 A.C A.T) := by
  have GL : FnOk P w K mg base CX0 1 fL dL ["_law_model_here"] spLine := ok_line DL.F D.tup D.sort
  have GI : FnOk P w K mg base CX0 4 A.fI A.dI ["self", "signs", "states", "rows", "turns", "yes"] (spLoInit A.C A.T) := ok_loinit D Z
  obtain ⟨its, kI⟩ := D.kI
  refine F.ok scLl (fun vs H Q E h => ?_) (fun cdv A' outer s H vs Q E hr h => ?_)
  · obtain ⟨q, L, rfl, _⟩ := h
    rfl
  · obtain ⟨q, L, rfl, O, M, k⟩ := h
    have hr1 : Room 1 _ := hr.mono (by decide)
    refine ⟨_, pss_cons (ps_set (i := 1) scLl.nd rfl (.inl rfl) (pe_call GL hr1 rfl DL.g DL.kp DL.b .nil pass0 (pa_cons (pv 0) pa_nil)))
      (pss_one (ps_ret (pe_makeK D.ML GI hr rfl D.gL kI pass0 (pa_cons (pe_ix ix_tup (pv 1) pe_int (fun _ _ => rfl)) (pa_cons (pe_ix ix_tup (pv 1) pe_int (fun _ _ => rfl)) (pa_cons (pe_ix ix_tup (pv 1) pe_int (fun _ _ => rfl)) (pa_cons (pe_ix ix_tup (pv 1) pe_int (fun _ _ => rfl)) pa_nil)))) (pk_cons (pe_ix ix_tup (pv 1) pe_int (fun _ _ => rfl)) pk_nil)))), ?_⟩
    refine ⟨_, rfl, q, L, rfl, O, M, fun r sg H1 p srt RA r0 s1 => ?_⟩
    obtain ⟨t, rr, u, y, as, bs, h0, ht, hrr, hT, hu, hU, hy⟩ := RA
    have ix : ∀ {j : Nat} {v : V}, [V.str (S (L.srt sg).sg), .ref t, .ref rr, .ref u, .ref y][j]? = some v → atI [V.str (S (L.srt sg).sg), .ref t, .ref rr, .ref u, .ref y] (j : Int) = some v := fun h => atI_nat h
    refine ⟨_, rfl, r, _, _, _, rfl, rfl, SqT.of h0, ix (j := 0) rfl, _, rfl, r, _, _, _, rfl, rfl, SqT.of h0, ix (j := 1) rfl, _, rfl, r, _, _, _, rfl, rfl, SqT.of h0, ix (j := 2) rfl, _, rfl, r, _, _, _, rfl, rfl, SqT.of h0, ix (j := 3) rfl, _, rfl, r, _, _, _, rfl, rfl, SqT.of h0, ix (j := 4) rfl, rfl, rfl, fun x dx hx hdx ne => ?_⟩
    have sm : Same H1 (L2.upd (L2.upd H1 dx (.own x)) x (.ins A.C dx [])) := Same.new' (Same.put (Same.refl H1) hdx) hx
    have pr : Prt (L.srt sg) t rr u y as bs H1 := ⟨ht, hrr, hT, hu, hU, hy⟩
    have OS := O.srt p
    refine ⟨H1, x, dx, t, rr, u, y, as, bs, L.srt sg, rfl, OS, srt, pr.same sm, sm, hx, upd_same, fun H2 s2 LA0 => ⟨rfl, ?_⟩⟩
    exact k x sg H2 p srt OS LA0 (none_of_same s1 hx) (s1.trans s2)
end
end Wb
/-! what is due for a sum or a difference -/
namespace Wb
open PySem L2 WbMin WbS Lz
abbrev sDueQ : Stmt := top 68
theorem eqvA_strs : ∀ xs ys : List Str, PyData.eqvAll (xs.map PyData.str) (ys.map PyData.str) = decide (xs = ys)
  | [], [] => rfl
  | [], _ :: _ => rfl
  | _ :: _, [] => rfl
  | x :: xs, y :: ys => by
    show (PyData.eqv (.str x) (.str y) && PyData.eqvAll (xs.map PyData.str) (ys.map PyData.str)) = _
    rw [eqvA_strs xs ys]
    show ((x == y) && decide (xs = ys)) = _
    rw [Bool.eq_iff_iff]
    simp
theorem eqv_strs (xs ys : List Str) : PyData.eqv (.list (xs.map PyData.str)) (.list (ys.map PyData.str)) = decide (xs = ys) := eqvA_strs xs ys
theorem sOnes_inj {a b : List Nat} (h : a.map sOne = b.map sOne) : a = b := by
  induction a generalizing b with
  | nil =>
    cases b with
    | nil => rfl
    | cons _ _ => cases h
  | cons x a ih =>
    cases b with
    | nil => cases h
    | cons y b =>
      injection h with h1 h2
      have e := S_inj h1
      injection e with e
      rw [e, ih h2]
def spDueQ (K : PySem.W.Frag) (C T : Addr) : Sp := fun vs H Q _ => ∃ (q1 q2 : Addr) (A B : LD) (sa sb : List Nat) (f : Int), vs = [.ref q1, .ref q2, .int f, .bl (decide (f = 1))] ∧ (f = 1 ∨ f = -1) ∧ A.Ok ∧ B.Ok ∧ PyProof.Rows.sortedS (A.sg.map sOne) = true ∧ PyProof.Rows.sortedS (B.sg.map sOne) = true ∧ sa.Perm A.sg ∧ sb.Perm B.sg ∧ (B.sg = A.sg → (allF A B).length ≤ 9) ∧ MdAt H q1 (A.srt sa) ∧ MdAt H q2 (B.srt sb) ∧
  (B.sg ≠ A.sg → ∀ (r a g : Addr) (H' : Hp), H r = none → H g = none → Same H H' → LoopAt C T H' r B → H' a = some (.lst [.str "signs", .ref g]) → H' g = some (.lst [.str "plain", .ref r]) → Q (.ref a) H') ∧
  (B.sg = A.sg → AllP A B (allF A B) → (allF A B).length ≤ 6 → TellS K H "loop" (loopF (A.sum B f (allF A B))) Q) ∧ (B.sg = A.sg → 6 < (allF A B).length → TellS K H "many" (plainD (.int 6)) Q)
section
variable {P : Program} {w : World} {K : PySem.W.Frag} {mg : Str → Option Value} {base : Heap} {f fF fP fL fLi : Addr} {fd dF dP dL dLi : FuncData} {A : LA} {e : Addr}
abbrev NDq : List Str := ["_law_near", "_law_far", "_law_times", "_law_both", "_law_model_here"]
theorem scDq : FnScope NDq ["_law_near", "_law_far", "_law_times", "_law_both"] (defScope sDueQ) := ⟨rfl, rfl, rfl, by decide +kernel, rfl, by decide +kernel, by decide +kernel⟩
set_option maxHeartbeats 2000000 in
theorem ok_dueQ (F : Fun K "_law_due" "_law_due" sDueQ f fd) (Z : Free mg) (ZT : FreeT mg) (FC : FaceC K A.C) (D : LoopF K mg A e) (mStr : mg "str" = none)
    (DF : Def K mg "_law_face" sFace ["_law_thing"] fF dF) (DP : Def K mg "_law_product" sProduct ["_law_near", "_law_far", "_law_times", "_law_both"] fP dP) (DL : Def K mg "_law_loop" sLLoop ["_law_model_here"] fL dL) (DLi : Def K mg "_law_line" sLine ["_law_model_here"] fLi dLi) :
    FnOk P w K mg base CX0 7 f fd ["_law_near", "_law_far", "_law_times", "_law_both"] (spDueQ K A.C A.T) := by
  have GF : FnOk P w K mg base CX0 6 fF dF ["_law_thing"] (spFaceQ K A.C) := FnOk.either (ok_face DF ZT 5) (ok_faceI DF ZT FC)
  have GP : FnOk P w K mg base CX0 1 fP dP ["_law_near", "_law_far", "_law_times", "_law_both"] spProductM := ok_productM DP.F Z D.sort mStr
  have GL : FnOk P w K mg base CX0 6 fL dL ["_law_model_here"] (spLLoop2 A.C A.T) := ok_lloop2 DL.F DLi D Z
  have GLi : FnOk P w K mg base CX0 1 fLi dLi ["_law_model_here"] spLine := ok_line DLi.F D.tup D.sort
  refine F.ok scDq (fun vs H Q E h => ?_) (fun cdv A' outer s H vs Q E hr h => ?_)
  · obtain ⟨q1, q2, La, Lb, sa, sb, kf, rfl, _⟩ := h
    rfl
  · obtain ⟨q1, q2, La, Lb, sa, sb, kf, rfl, way, OA, OB, srtA, srtB, pa0, pb0, nine, MA, MB, k1, k2, k3⟩ := h
    have hr1 : Room 1 _ := hr.mono (by decide)
    refine ⟨_, pss_cons (ps_if (pt_cmpR (op_neD hr.units) (pe_callB (call_sortedTx rfl) (by rfl) D.sort (by decide +kernel) (pa_cons (pe_ix ix_list (pv 0) pe_int (fun _ _ => rfl)) pa_nil)) (pe_callB (call_sortedTx rfl) (by rfl) D.sort (by decide +kernel) (pa_cons (pe_ix ix_list (pv 1) pe_int (fun _ _ => rfl)) pa_nil)) (nomark _))
        (pss_one (ps_ret (pe_lst (pa_cons pe_str (pa_cons (pe_call GF hr rfl DF.g DF.kp DF.b .nil pass0 (pa_cons (pe_call GL hr rfl DL.g DL.kp DL.b .nil pass0 (pa_cons (pv 1) pa_nil)) pa_nil)) pa_nil))))) pss_nil)
      (pss_cons (ps_set (i := 4) scDq.nd rfl (.inl rfl) (pe_call GP hr1 rfl DP.g DP.kp DP.b .nil pass0 (pa_cons (pv 0) (pa_cons (pv 1) (pa_cons (pv 2) (pa_cons (pv 3) pa_nil))))))
      (pss_one (ps_ret (pe_ifExp (pt_cmpR op_lt (pe_callB call_len_seq (by rfl) Z.len PySem.boot_len (pa_cons (pe_ix ix_list (pv 4) pe_int (fun _ _ => rfl)) pa_nil)) pe_int (nomark _))
        (pe_lst (pa_cons pe_str (pa_cons (pe_call GF hr rfl DF.g DF.kp DF.b .nil pass0 (pa_cons (pe_call GLi hr1 rfl DLi.g DLi.kp DLi.b .nil pass0 (pa_cons (pv 4) pa_nil)) pa_nil)) pa_nil)))
        (pe_lst (pa_cons pe_str (pa_cons (pe_call GF hr rfl DF.g DF.kp DF.b .nil pass0 (pa_cons pe_int pa_nil)) pa_nil))))))), ?_⟩
    have OAs : (La.srt sa).Ok := OA.srt pa0
    have OBs : (Lb.srt sb).Ok := OB.srt pb0
    have lsa : sa.length ≤ 4 := OAs.sgs.few
    have lsb : sb.length ≤ 4 := OBs.sgs.few
    obtain ⟨A1, S1, E1, O1, kv1, ws1, h0, _⟩ := id MA
    obtain ⟨A2, S2, E2, O2, kv2, ws2, g0, _⟩ := id MB
    refine ⟨_, rfl, q1, _, _, _, rfl, rfl, SqL.of h0, atI_nat (j := 0) rfl, S sa, rfl, by rw [S_len]; omega, fun ys1 p1 perm1 srt1 hp1 => ?_⟩
    have s1 := Same.put (o := .lst (ys1.map V.str)) (Same.refl H) hp1
    have hp1' : (L2.upd H p1 (.lst (ys1.map V.str))) p1 = some (.lst (ys1.map V.str)) := upd_same
    generalize L2.upd H p1 (.lst (ys1.map V.str)) = H1 at s1 hp1' ⊢
    refine ⟨_, rfl, q2, _, _, _, rfl, rfl, SqL.of (s1 _ _ g0), atI_nat (j := 0) rfl, S sb, rfl, by rw [S_len]; omega, fun ys2 p2 perm2 srt2 hp2 => ?_⟩
    have s2 := Same.put (o := .lst (ys2.map V.str)) (Same.refl H1) hp2
    have hp2' : (L2.upd H1 p2 (.lst (ys2.map V.str))) p2 = some (.lst (ys2.map V.str)) := upd_same
    generalize L2.upd H1 p2 (.lst (ys2.map V.str)) = H2 at s2 hp2' ⊢
    rw [S_cps] at perm1 perm2
    obtain rfl : ys1 = La.sg.map sOne := sorted_same srt1 srtA (perm1.trans (pa0.map sOne))
    obtain rfl : ys2 = Lb.sg.map sOne := sorted_same srt2 srtB (perm2.trans (pb0.map sOne))
    have ok1 : ∀ {L : LD}, L.Ok → ∀ z ∈ L.sg.map sOne, PyData.strOk z = true := fun {L} O z hz => by
      obtain ⟨c, hc, rfl⟩ := List.mem_map.mp hz
      exact ok_codes fun d hd => by
        rw [List.mem_singleton.mp hd]
        have := O.sgs.low c hc
        omega
    refine ⟨_, _, .lst (SqL.of (s2 _ _ hp1')) (dp_strs _), .lst (SqL.of hp2') (dp_strs _), shaped_strs (ok1 OA), shaped_strs (ok1 OB), _, rfl, ?_⟩
    rw [eqv_strs]
    have s12 := s1.trans s2
    by_cases eg : Lb.sg = La.sg
    case neg =>
      rw [decide_eq_false fun z => eg (sOnes_inj z).symm]
      refine iteT ⟨_, rfl, q2, _, rfl, OBs, MB.same s12, fun r sg' H3 perm' srt' ok' LA3 n3 s3 => ?_⟩
      obtain rfl : sg' = Lb.sg := sg_same srt' srtB (perm'.trans pb0) (List.Perm.refl _)
      have LA3 : LoopAt A.C A.T H3 r Lb := LA3
      obtain ⟨dx, t, rr, u, y, tb, as, bs, hR, pr, TA⟩ := id LA3
      refine .inr ⟨r, dx, _, rfl, hR, fun b G1 hb s4 hb1 => ⟨(by show 2 ≤ sizeLine; decide), fun a ha => ?_⟩⟩
      have s5 := Same.put (o := .lst [V.str (Str.ofString "signs"), .ref b]) (Same.refl G1) ha
      exact k1 eg r a b _ (none_of_same s12 n3) (none_of_same (s12.trans s3) hb) (s12.trans (s3.trans (s4.trans s5))) (LA3.same (s4.trans s5)) upd_same (s5 _ _ hb1)
    rw [eg, decide_eq_true rfl]
    refine iteF ?_
    refine ⟨_, rfl, _, rfl, _, rfl, _, rfl, q1, q2, La, Lb, sa, sb, kf, rfl, way, OA, OB, eg, srtA, pa0, eg ▸ pb0, nine eg, MA.same s12, MB.same s12, fun r H3 n3 s3 AP MS => ?_⟩
    obtain ⟨A3, S3, E3, O3, kv3, ws3, m0, mA, _⟩ := id MS
    obtain ⟨M, eM⟩ : ∃ M, M = La.sum Lb kf (allF La Lb) := ⟨_, rfl⟩
    have nM : M.st.length = (allF La Lb).length := by rw [eM]; exact sum_n La Lb kf _
    rw [← eM] at MS mA m0 k2
    have mA : H3 A3 = some (.lst (M.st.map V.str)) := mA
    refine ⟨_, rfl, r, _, _, _, rfl, rfl, SqL.of m0, atI_nat (j := 1) rfl, A3, _, rfl, .inl (SqL.of mA), _, _, rfl, rfl, _, rfl, ?_⟩
    rw [List.length_map, nM]
    have s13 := s12.trans s3
    by_cases six : (allF La Lb).length ≤ 6
    case neg =>
      refine ifn (by omega) ?_
      refine .inl ⟨.int 6, plainD (.int 6), rfl, .inl (.int 6), fun fC HC nC sC dpC => ⟨by show 2 ≤ sizeLine; decide, fun a ha => ?_⟩⟩
      have s5 := Same.put (o := .lst [V.str (Str.ofString "many"), .ref fC]) (Same.refl HC) ha
      refine k3 eg (by omega) a _ (none_of_same (s13.trans sC) ha) (s13.trans (sC.trans s5)) ?_
      refine .lst (SqL.of ((New.at (none_of_same (s13.trans sC) ha)).trans upd_same)) (.cons (.str _) (.cons (Dp.stay (New.mono fun c u h1 h2 => ⟨none_of_same s13 h1, ?_⟩) dpC) .nil))
      rw [upd_ne (ne_of_none h2 ha)]
      exact h2
    refine ifd (by omega) ?_
    have OM : M.Ok := eM ▸ OA.sum (AP.goes six)
    have OMs : (M.srt sa).Ok := OM.srt (by rw [eM]; exact pa0)
    refine ⟨_, rfl, r, _, rfl, OMs, MS, fun q sg' H4 perm' srt' RA n4 s4 => ?_⟩
    obtain rfl : sg' = M.sg := sg_same srt' (by rw [eM]; exact srtA) (perm'.trans (by rw [eM]; exact pa0)) (List.Perm.refl _)
    have RA : RowAt H4 q M := RA
    have s14 := s13.trans s4
    refine .inl ⟨.ref q, loopF M, rfl, (loopF_thing OM RA).up, fun fC HC nC sC dpC => ⟨by show 2 ≤ sizeLine; decide, fun a ha => ?_⟩⟩
    have s5 := Same.put (o := .lst [V.str (Str.ofString "loop"), .ref fC]) (Same.refl HC) ha
    refine k2 eg AP six a _ (none_of_same (s14.trans sC) ha) (s14.trans (sC.trans s5)) ?_
    refine .lst (SqL.of ((New.at (none_of_same (s14.trans sC) ha)).trans upd_same)) (.cons (.str _) (.cons (Dp.stay (New.mono fun c u h1 h2 => ⟨none_of_same s14 h1, ?_⟩) dpC) .nil))
    rw [upd_ne (ne_of_none h2 ha)]
    exact h2
end
end Wb
set_option maxHeartbeats 1000000
/-! own classes of errors with an own __init__ over any built-in class (ArithmeticError) -/
namespace Le
open PySem PySem.Spec PyProof.Rows L2
/-- what the written part says of such a class -/
structure OexA (K : PySem.W.Frag) (C : Addr) (tail : List Value) (newId : String) : Prop where
  own : PySem.W.excInitIn K C tail newId = true
  over : PySem.W.excOver K C tail = true
  dict : PySem.W.hasDictIn K C = true
  sa : PySem.W.findIn K (.ref C) "__setattr__" = some (some (.builtin "object.__setattr__"))
  exC : PySem.W.subIn K (.ref C) (.type "BaseException") = some true
  tyC : PySem.W.typeIn K (.ref C) = some (.type "type")
  kC : PySem.W.keepIn K (.ref C) = true
section
variable {X : Cx} {pins : List (Addr × Obj)} {σ : L2.St} {H : Hp} {s : Shared} {a C : Addr} {f : Str} {y : V} {u : Value} {Q : Unit → Shared → Prop} {E : Value → Shared → Prop} {A : Around} {B newId initId : String} {tail : List Value}
/-- two objects change: what stands at x, and a new one -/
theorem un_two {fs : List Addr} {hp h' : Heap} {x dx : Addr} {o1 o2 : HO} {u0 : HO} (hx : H x = some u0) (n1 : ∀ xs, u0 ≠ .tup xs) (n2 : ∀ o v, u0 ≠ .frz o v) (n3 : ∀ ps, u0 ≠ .tbl ps) (hd : H dx = none) (up : hp.objs.size ≤ dx) (there : ∃ o, h'.get? x = some o)
    (kept : ∀ b o, b ≠ x → hp.get? b = some o → h'.get? b = some o) : Un fs [] H (upd (upd H dx o1) x o2) hp h' := by
  have far : ∀ {b : Addr} {o : Obj}, hp.get? b = some o → b ≠ dx := fun z e => by
    have := Heap.lt_size z
    rw [e] at this
    exact absurd this (Nat.not_lt.mpr up)
  have off : ∀ {b : Addr}, H b = none → b ≠ x := fun n e => by
    rw [e, hx] at n
    cases n
  have same : ∀ {b : Addr} {o : HO}, H b = some o → o ≠ u0 → upd (upd H dx o1) x o2 b = some o := fun {b o} z ne => by
    have bx : b ≠ x := fun e => by
      rw [e, hx] at z
      exact ne (Option.some.inj z).symm
    rw [upd_ne bx, upd_ne (ne_of_none z hd)]
    exact z
  constructor
  case keep => exact fun b o z n _ _ => kept b o (off n) z
  case slot => exact fun b o z n _ _ => ⟨_, kept b o (off n) z⟩
  case free =>
    intro b o z n _
    rw [upd_ne (off n), upd_ne (far z), n]
  case there =>
    intro b o z _
    by_cases e : b = x
    · rw [e]
      exact there
    · exact ⟨_, kept b o e z⟩
  case tups => exact fun b xs z => same z fun e => n1 _ e.symm
  case frzs => exact fun b o v z => same z fun e => n2 _ _ e.symm
  case tbls => exact fun b ps z => ⟨#[], by rw [same z fun e => n3 _ e.symm]; simp⟩
/-- the first field of an exception that is being made -/
theorem first_field (SF : StoreFacts B tail "object.__setattr__" "object") (T : OexA X.K C tail newId) (I : Inv X pins σ H s) (e : H a = some (exo a C none)) (no : PySem.W.findIn X.K (.ref C) f = some none) (ry : RelV y u)
    (k : ∀ dx s', H dx = none → dx ≠ a → Inv X pins σ (upd (upd H dx (exd dx [(f, y)])) a (exo a C (some dx))) s' → Q () s') : wpAny (model X.prog X.w) A (setAttr (.ref a) f u) Q E s := by
  obtain ⟨t1, ho⟩ := exo_at I.hok e
  obtain ⟨hp, g, d, t, os⟩ := s
  obtain ⟨cd, hc, hd'⟩ := PySem.W.any_some T.dict
  have tk : PySem.W.takerIn X.K C f = some none := by
    unfold PySem.W.takerIn
    rw [no]
    rfl
  have xs : a ≠ hp.objs.size := Nat.ne_of_lt (Heap.lt_size ho)
  refine PySem.W.set_plain I.kIn (od := none) ⟨ho, rfl, rfl, trivial⟩ T.sa (PySem.W.osa_openX (od := none) SF I.kIn ⟨ho, rfl, rfl, trivial⟩ T.over tk fun b => ?_)
  refine wpAny_bind (wpAny_pure (wpAny_bind (PySem.W.instanceDict_exc ho (PySem.W.looks_clsIn I.kIn hc) hd' ?_)))
  refine PySem.HandSPX.store_in_new ⟨_, #[], 0, (Heap.get?_update_ne _ _ _ _ xs.symm).trans (Heap.get?_push_at rfl rfl), rfl, fun e he => absurd he (by simp), fun _ => rfl⟩ fun h' tk' hn hs => ?_
  have ho1 := Heap.get?_push_of_some (PySem.W.dictOf [] 0) ho
  have hx : h'.get? a = some ({ cls := .ref C, dict := some hp.objs.size, data := .fields #[.ref t1, .none, .none, .none, .bool false, .none] } : Obj) := (hs.2 a xs).trans (Heap.get?_update_self _ ho1 rfl)
  have kept : ∀ b o, b ≠ a → hp.get? b = some o → h'.get? b = some o := fun b o hb z =>
    (hs.2 b (Nat.ne_of_lt (Heap.lt_size z))).trans ((Heap.get?_update_ne _ _ _ _ hb).trans (Heap.get?_push_of_some _ z))
  have hnd : H hp.objs.size = none := I.hok.fresh (Nat.le_refl _)
  refine k hp.objs.size _ hnd xs.symm (I.un (t' := tk') (un_two e (fun _ => exo_tup) (fun _ _ => exo_frz) (fun _ => exo_tbl) hnd (Nat.le_refl _) ⟨_, hx⟩ kept) fun b o q => ?_)
  by_cases hb : b = a
  · rw [hb, upd_same] at q
    injection q with q
    rw [hb, ← q]
    exact exo_ok hx
  by_cases hd : b = hp.objs.size
  · rw [upd_ne hb, hd, upd_same] at q
    injection q with q
    rw [hd, ← q]
    exact exd_ok hn (relO_put (fs := []) ry fun _ => trivial)
  rw [upd_ne hb, upd_ne hd] at q
  refine (I.hok b o q).stay (fun c v hc z => kept c v ?_ z) (fun c hc => ?_) (fun c zs hc => ?_)
  · rcases hc with hc | hc
    · exact hc ▸ hb
    · exact at_ne e hc exo_own
  · exact (upd_ne (at_ne e hc exo_own)).trans ((upd_ne (ne_of_none hc hnd)).trans hc)
  · exact (upd_ne (at_ne e hc exo_tup)).trans ((upd_ne (ne_of_none hc hnd)).trans hc)
end
/-- self.f = e, e's value kept first -/
def tOstA (K : PySem.W.Frag) (tail : List Value) (newId : String) (f : Str) (to te : TE) : TS := fun D σ H => te σ H fun y H1 => to σ H1 fun x H2 => ∃ a C : Addr, x = .ref a ∧ OexA K C tail newId ∧ PySem.W.findIn K (.ref C) f = some none ∧ H2 a = some (exo a C none) ∧
  ∀ dx, H2 dx = none → dx ≠ a → D.nx σ (upd (upd H2 dx (exd dx [(f, y)])) a (exo a C (some dx)))
section
variable {X : Cx} {o e : Expr} {es : List Expr} {to te : TE} {ta : TA} {f x : Str} {p p' pos : Pos} {CX : CXT} {C fI : Addr} {k : Nat} {fd : FuncData} {ps : List Str} {sp : Sp} {B newId initId : String} {tail : List Value}
theorem ps_ostA (SF : StoreFacts B tail "object.__setattr__" "object") (ho : PE X o to) (he : PE X e te) (sw : swapsWith e (some (.Attribute o f p')) pos.line X.env = pure false := by rfl) : PS X (.Assign [.Attribute o f p'] e pos) (tOstA X.K tail newId f to te) := by
  refine ⟨fun pins s σ H D I h => plainObj_wpAny_Assign_Attribute (thn (he.run pins s σ H _ I h) fun v s1 ⟨y, H1, I1, r1, q1⟩ => ?_) sw⟩
  refine thn (ho.run pins s1 σ H1 _ I1 q1) fun w s2 ⟨z, H2, I2, r2, a, C, ez, T, no, ea, q⟩ => ?_
  rw [ez] at r2
  obtain rfl : w = Value.ref a := r2
  exact first_field SF T I2 ea no r1 fun dx s' n ne J => ⟨σ, _, J, q dx n ne⟩
theorem pmk_any (F : ExcBaseFacts B newId initId tail) (T : OexA X.K C tail newId) (ini : PySem.W.findIn X.K (.ref C) "__init__" = some (some (.ref fI))) (fun_ : PySem.W.typeIn X.K (.ref fI) = some (.type "function")) (F1 : FnOk X.prog X.w X.K X.mg X.base CX k fI fd ps sp) (hr : Room (k + 1) X.A) (hb : Binds X.K fd ps [])
    (quiet : Passes CX X fun _ _ _ => False) (gl : Gl X x) (gv : X.mg x = some (.ref C)) (ha : PA X (e :: es) ta) (nd : (x == ("__debug__" : Str)) = false := by decide) (st : starEach (e :: es) X.env = (false, eval e X.env) :: starEach es X.env := by rfl)
    (pl : (backTo pos (starEach es X.env)).any (·.1) = false := by rfl) : L2N.PMk X (.Call (.Name x p) (e :: es) [] pos) (tMkO C sp [] ta) := by
  intro pins s σ H Q I h
  refine wpAny_Call_Name_kw (ld_glob I gl gv (PySem.W.callWith_K (h₀ := X.base) I.ok.mod.kin T.kC (thn (ha.run pos pins s σ H _ I h) fun us s1 ⟨vs, H1, I1, rel, few, goal⟩ => ⟨I1.kIn, ?_⟩) st pl) nd)
  obtain ⟨_, _, _, _, bm, _, _, _, _, _, _, _, _, _, _, _, cls, has⟩ := PySem.W.excInit_of I1.kIn T.own
  obtain ⟨hp, g, dr, tk, os⟩ := s1
  obtain ⟨n, en⟩ : ∃ n, n = hp.objs.size + 1 := ⟨_, rfl⟩
  obtain ⟨h1, eh1⟩ : ∃ h1, h1 = (hp.push (PySem.W.kdv_tup us)).push (PySem.HandSPX.excO C hp.objs.size) := ⟨_, rfl⟩
  have up1 : hp.objs.size ≤ n := by rw [en]; exact Nat.le_succ _
  have fresh : H1 n = none := I1.hok.fresh up1
  have asked := goal n fresh
  rw [List.append_nil] at asked
  have kept : ∀ b o, hp.get? b = some o → h1.get? b = some o := fun b o z => by rw [eh1]; exact Heap.get?_push_of_some _ (Heap.get?_push_of_some _ z)
  have there : h1.get? n = some (PySem.HandSPX.excO C hp.objs.size) := by rw [eh1, en]; heap_get
  have I2 : Inv X pins σ (upd H1 n (exo n C none)) ⟨h1, g, dr, tk, os⟩ := I1.laid (t' := tk) (a := n) (o := exo n C none) (h' := h1) kept up1 (exo_ok there)
  have rel2 : Vals (V.ref n :: vs) (Value.ref n :: us) := .cons rfl rel
  have cnt : (Value.ref n :: us ++ []).length = ps.length := by rw [List.append_nil, ← rel2.length]; exact F1.len _ _ _ _ asked
  have b2 := hb _ (Value.ref n :: us) I2.kIn cnt
  rw [List.append_nil] at b2
  have small : us.length ≤ sizeLine := by rw [← Paired.length rel, sizeLine_eq]; omega
  show wpAny _ _ (call (.ref C) us) _ _ _
  have run := F1.run (X.A.under (.builtin "type.__call__" ⟨.ref C :: us, []⟩)) X.stack _ _ ⟨Value.ref n :: us, []⟩ (Value.ref n :: us) _ _ (fun _ _ _ => False) (hr.make C us []) (I2.env0.make C us []) b2 rel2 asked
  subst en
  subst eh1
  refine wpAny_call (PySem.HandSPX.call_own F has cls (PySem.W.looks_findIn I1.kIn ini) (fun self => PySem.W.bind_fn I1.kIn self fun_) small (codeAny_mono run fun r s' q => ?_))
  cases r with
  | error er => exact quiet pins σ _ _ er s' I2 q
  | ok fl =>
    cases fl with
    | next => exact q.elim
    | brk => exact q.elim
    | cont => exact q.elim
    | ret u =>
      obtain ⟨v, H2, os2, bare2, un2, hok2, rv, ev, d, fs, ea, ed, hd1, q2⟩ := q
      subst ev
      obtain ⟨h2, g2, d2, t2, os'⟩ := s'
      obtain ⟨t0, G, J, kG, ge, hoe, na⟩ := mk_end0 (d2 := d2) (t2 := t2) I1 up1 kept un2 hok2 os2 bare2 ea ed hd1
      exact ⟨rv, hp.objs.size + 1, _, _, ⟨G, g2, d2, t2, os'⟩, _, .ref C, some d, rfl, J, kG, ge, hoe, ⟨rfl, rfl, fun vs hv => by cases hv; rfl⟩, rfl, rfl, na, rfl, bare2, raises_own T.exC T.tyC, q2⟩
end
end Le
namespace Wb
open PySem L2 WbMin WbS Lz Le
abbrev aeTail : List Value := [.type "ArithmeticError", .type "Exception", .type "BaseException", .type "object"]
/-- what the top has written of an error x over ArithmeticError whose attribute is g -/
structure ErrFA (K : PySem.W.Frag) (mg : Str → Option Value) (x g qual : Str) (st : Stmt) (C f : Addr) (fd : FuncData) : Prop where
  o : OexA K C aeTail "ArithmeticError.__new__"
  xf : XfC K C
  no : PySem.W.findIn K (.ref C) g = some none
  ini : PySem.W.findIn K (.ref C) "__init__" = some (some (.ref f))
  fn : PySem.W.typeIn K (.ref f) = some (.type "function")
  F : Fun K "__init__" qual st f fd
  b : Binds K fd ["self", g] []
  g : mg x = some (.ref C)
/-- raise C(v) -/
def tBadV (C : Addr) (g : Str) (W : WX) (v : V) : TS := fun _ σ H => ∀ d, H d = none → W (.ref C) (some d) σ (upd H d (.xd [(g, v)]))
section
variable {X : Cx} {W : WX} {C f : Addr} {fd : FuncData} {x y g qual : Str} {st : Stmt} {k : Nat} {p p0 pos pos2 : Pos} {v : V}
theorem ps_badA (E : ErrFA X.K X.mg x g qual st C f fd) (F1 : FnOk X.prog X.w X.K X.mg X.base CX0 k f fd ["self", g] (spErr C g)) (hr : Room (k + 1) X.A) (calm : X.calm = true) (tk : L2N.Takes X W) (gl : Gl X x) (ha : PE X (.Name y p0) (tC v))
    (nd : (x == ("__debug__" : Str)) = false := by decide) : PS X (.Raise (some (.Call (.Name x p) [.Name y p0] [] pos)) none pos2) (tBadV C g W v) := by
  refine ⟨fun pins s σ H D I h => (L2N.ps_raise calm tk (Le.pmk_any (CX := CX0) F.excBase_ArithmeticError E.o E.ini E.fn F1 hr E.b (fun _ _ _ _ _ _ _ z => z.elim) gl E.g (pa_cons ha pa_nil) nd rfl rfl)).run pins s σ H D I ?_⟩
  refine ⟨(by show 1 ≤ 1000; decide), fun a na => ⟨a, v, rfl, upd_same, fun d nd ne => ⟨rfl, d, [(g, v)], upd_same, ?_, ?_, ?_⟩⟩⟩
  · rw [upd_ne ne, upd_same]
  · rw [upd_ne ne] at nd
    exact nd
  · have nd' : H d = none := by
      rw [upd_ne ne] at nd
      exact nd
    rw [dict_left na ne]
    exact h d nd'
end
section
variable {P : Program} {w : World} {K : PySem.W.Frag} {mg : Str → Option Value} {base : Heap} {cI fI : Addr} {dI : FuncData}
abbrev sErrTooMany : Stmt := inClass (top 27) 0
theorem scErrM : FnScope ["self", "limit"] ["self", "limit"] (defScope sErrTooMany) := ⟨rfl, rfl, rfl, by decide +kernel, rfl, by decide +kernel, by decide +kernel⟩
theorem ok_errM (E : ErrFA K mg "TooMany" "limit" "TooMany.__init__" sErrTooMany cI fI dI) : FnOk P w K mg base CX0 1 fI dI ["self", "limit"] (spErr cI "limit") := by
  refine E.F.ok scErrM (fun vs H Q E h => by obtain ⟨a, y, rfl, _⟩ := h; rfl) (fun cdv A outer s H vs Q E' hr h => ?_)
  obtain ⟨a, y, rfl, ha, k⟩ := h
  exact ⟨_, pss_one (ps_ostA PySem.F.store_ArithmeticError (pv 0) (pv 1)), _, rfl, _, rfl, a, cI, rfl, E.o, E.no, ha, k⟩
end
end Wb
/-! a loop begun in another state, by the program -/
namespace Wb
open PySem L2 WbMin WbS Lz
abbrev sLoopOf : Stmt := top 50
section
variable {P : Program} {w : World} {K : PySem.W.Frag} {mg : Str → Option Value} {base : Heap} {f fS : Addr} {fd dS : FuncData}
end
section
variable {P : Program} {w : World} {K : PySem.W.Frag} {mg : Str → Option Value} {base : Heap} {f fS : Addr} {fd dS : FuncData}
end
end Wb
/-! Loop.changed -/
namespace Wb
open PySem L2 WbMin WbS Lz
structure ChA where
  (fCh fic fcr flo : Addr)
  (dCh dic dcr dlo : FuncData)
def spLoopOf (C T : Addr) : Sp := fun vs H Q _ => ∃ (q t rr u y : Addr) (as bs : List Addr) (L : LD) (sg0 : List Nat) (rw : List Row) (tn : List Trn) (ye : List Str), vs = [.ref q] ∧ H q = some (.tup [.str (S sg0), .ref t, .ref rr, .ref u, .ref y]) ∧ L.Ok ∧ PyProof.Rows.sortedS (L.sg.map sOne) = true ∧ Told L sg0 rw tn ye ∧ PrtG L.st rw tn ye t rr u y as bs H ∧
  ∀ x H', H x = none → Same H H' → LoopAt C T H' x L → Q (.ref x) H'
section
variable {P : Program} {w : World} {K : PySem.W.Frag} {mg : Str → Option Value} {base : Heap} {A : LA} {B : ChA} {e : Addr}
theorem scLo : FnScope ["row", "signs", "states", "rows", "turns", "yes"] ["row"] (defScope sLoopOf) := ⟨rfl, rfl, rfl, by decide +kernel, rfl, by decide +kernel, by decide +kernel⟩
set_option maxHeartbeats 0 in
theorem ok_loopof (F : Fun K "_loop_of" "_loop_of" sLoopOf B.flo B.dlo) (D : LoopF K mg A e) (Z : Free mg) : FnOk P w K mg base CX0 6 B.flo B.dlo ["row"] (spLoopOf A.C A.T) := by
  have GI : FnOk P w K mg base CX0 4 A.fI A.dI ["self", "signs", "states", "rows", "turns", "yes"] (spLoInitG A.C A.T) := ok_loinitG D Z
  obtain ⟨its, kI⟩ := D.kI
  refine F.ok scLo (fun vs H Q E h => ?_) (fun cdv A' outer s H vs Q E hr h => ?_)
  · obtain ⟨q, t, rr, u, y, as, bs, L, sg0, rw, tn, ye, rfl, _⟩ := h
    rfl
  · obtain ⟨q, t, rr, u, y, as, bs, L, sg0, rw, tn, ye, rfl, hq, O, srt, TL, pr, k⟩ := h
    refine ⟨_, pss_cons (ps_asg (pv 0) (pg_tup (by rfl) (pgs_cons (pg_name (i := 1) scLo.nd rfl (.inl rfl)) (pgs_cons (pg_name (i := 2) scLo.nd rfl (.inl rfl)) (pgs_cons (pg_name (i := 3) scLo.nd rfl (.inl rfl)) (pgs_cons (pg_name (i := 4) scLo.nd rfl (.inl rfl)) (pgs_cons (pg_name (i := 5) scLo.nd rfl (.inl rfl)) pgs_nil)))))))
      (pss_one (ps_ret (pe_makeK D.ML GI hr rfl D.gL kI pass0 (pa_cons (pv 1) (pa_cons (pv 2) (pa_cons (pv 3) (pa_cons (pv 4) pa_nil)))) (pk_cons (pv 5) pk_nil)))), ?_⟩
    refine ⟨_, rfl, q, _, rfl, SqT.of hq, rfl, _, _, rfl, _, _, rfl, _, _, rfl, _, _, rfl, _, _, rfl, rfl, ?_⟩
    refine ⟨_, rfl, _, rfl, _, rfl, _, rfl, _, rfl, rfl, rfl, fun x dx hx hdx ne => ?_⟩
    have sm : Same H (L2.upd (L2.upd H dx (.own x)) x (.ins A.C dx [])) := Same.new' (Same.put (Same.refl H) hdx) hx
    refine ⟨H, x, dx, t, rr, u, y, as, bs, L, sg0, rw, tn, ye, rfl, O, srt, TL, pr.same sm, sm, hx, upd_same, fun H2 s2 LA0 => ⟨rfl, ?_⟩⟩
    exact k x H2 hx s2 LA0
end
end Wb
/-! a loop so many times: Loop.__mul__, Loop.__neg__ -/
namespace Wb
open PySem L2 WbMin WbS Lz
structure MulA where
  (fMu fNg fti flo : Addr)
  (dMu dNg dti dlo : FuncData)
theorem told_self {L : LD} (O : L.Ok) : Told L L.sg L.rows L.turns L.yes := by
  have tl := turns_length L
  have n6 : L.n ≤ 6 := O.sts.few
  refine ⟨.refl _, .refl _, by rw [turns_a]; exact O.sts.nd, fun ρ hρ => ?_, ?_, by omega, yes_nd O, yes_sub, yes_filter O, yes_few O⟩
  · obtain ⟨i, hi, rfl⟩ := List.mem_map.mp hρ
    have hi := List.mem_range.mp hi
    exact ⟨nm_mem hi, nm_mem (O.tnlt i hi)⟩
  · rw [st_is L, List.map_map]
    refine List.map_congr_left fun i hi => ?_
    exact turnOf_at (i := i) (by rw [turns_a]; exact O.sts.nd) (turns_at (List.mem_range.mp hi))
section
variable {P : Program} {w : World} {K : PySem.W.Frag} {mg : Str → Option Value} {base : Heap} {A : LA} {B : MulA} {e : Addr}
end
end Wb
/-! what an own class's special methods are worth: len(o), bool(o), str(o), o == p, o != p, o an instance of a class of the program's own -/
namespace WbO
open PySem PySem.W PySem.Spec PyProof.Rows
section
variable {prog : Program} {w : World} {A : Around} {E : Value → Shared → Prop} {s : Shared} {K : Frag} {x C f : Addr} {ox : Obj} {od : Option Obj}
end
end WbO
namespace WbO
open PySem PySem.Spec PyProof.Rows L2
section
variable {X : Cx} {CX : CXT} {k : Nat} {C g : Addr} {fd : FuncData} {ps : List Str} {sp : Sp} {E : XK}
/-- a def called at values, anywhere deeper -/
theorem run_at {pins : List (Addr × Obj)} {σ : L2.St} {H : Hp} {s : Shared} {Q : VK} {vs : List V} {us : List Value} {A' : Around} {E' : Value → Shared → Prop} (F : FnOk X.prog X.w X.K X.mg X.base CX k g fd ps sp) (hr : Room k A') (e0 : Env0 X.prog X.w X.K X.mg X.base A' X.stack s H)
    (hb : Binds X.K fd ps []) (hx : Passes CX X.nox E) (I : Inv X pins σ H s) (r : Vals vs us) (h : sp vs H Q E) : wpAny (model X.prog X.w) A' (call (.ref g) us) (EP X pins σ Q) E' s := by
  have hl : (us ++ ([] : List Value)).length = ps.length := by rw [List.append_nil, ← r.length]; exact F.len _ _ _ _ h
  have hB := hb s us I.kIn hl
  rw [List.append_nil] at hB
  refine wpAny_call (codeAny_mono (F.run A' X.stack s H ⟨us, []⟩ us vs Q E hr e0 hB r h) fun r s' hq => ?_)
  cases r with
  | error er => exact (hx pins σ H s er s' (I.wish _) hq).elim
  | ok fl =>
    cases fl with
    | ret u => exact I.after hq
    | next => exact hq.elim
    | brk => exact hq.elim
    | cont => exact hq.elim
end
end WbO
/-! o + p, o - p, o * i by own methods -/
namespace Lz
open PySem PySem.Spec PyProof.Rows L2 WbO
section
variable {X : Cx} {CX : CXT} {k : Nat} {C g : Addr} {fd : FuncData} {ps : List Str} {sp : Sp} {E : XK}
end
end Lz
/-! two loops of one row are equal; isinstance(x, Loop); states -/
namespace Wb
open PySem L2 WbMin WbS Lz WbO
abbrev sLoEq : Stmt := inClass (top 49) 17
structure EqA where
  (fEq fSs pSs : Addr)
  (dEq dSs : FuncData)
/-- what isinstance and == ask of Loop -/
structure IsiF (K : PySem.W.Frag) (C : Addr) : Prop where
  hcl : PySem.W.findIn K (.ref C) "__class__" = some (some (.builtin "object.__class__"))
  hgt : PySem.W.specialIn K (.builtin "object.__class__") "__get__" = some (some (.builtin "getset_descriptor.__get__"))
  htk : PySem.W.takesIn K (.builtin "object.__class__") = some true
  hob : PySem.W.mroIn K C (.type "object") = some true
structure EqF (K : PySem.W.Frag) (mg : Str → Option Value) (A : LA) (B : EqA) : Prop where
  F : Fun K "__eq__" "Loop.__eq__" sLoEq B.fEq B.dEq
  b : Binds K B.dEq ["self", "other"] []
  at_ : PySem.W.findIn K (.ref A.C) "__eq__" = some (some (.ref B.fEq))
  fn : PySem.W.isFn K (.ref B.fEq) = true
  nf : PySem.W.notFirst K A.C (.ref A.C) = true
/-! ### a row as data -/
def strP (z : Str) : PyData := .str z
def rowP (r : Row) : PyData := .tuple [.str r.a, .str (S [r.c]), .str r.b, .int r.m]
def trnP (r : Trn) : PyData := .tuple [.str r.a, .str r.b, .int r.m]
def loopP (L : LD) : PyData := .tuple [.str (S L.sg), .tuple (L.st.map strP), .tuple (L.rows.map rowP), .tuple (L.turns.map trnP), .tuple (L.yes.map strP)]
theorem dp_strP {K : PySem.W.Frag} {H : Hp} : ∀ zs : List Str, DpAll K H (zs.map V.str) (zs.map strP)
  | [] => .nil
  | z :: zs => .cons (.str z) (dp_strP zs)
theorem loopP_dp {K : PySem.W.Frag} {H : Hp} {q t rr u y : Addr} {as bs : List Addr} {L : LD} (pr : Prt L t rr u y as bs H) (hq : H q = some (.tup [.str (S L.sg), .ref t, .ref rr, .ref u, .ref y])) : Dp K H (.ref q) (loopP L) := by
  refine .tup (SqT.of hq) (.cons (.str _) (.cons (.tup (SqT.of pr.ht) (dp_strP _)) (.cons (.tup (SqT.of pr.hr) (dp_tups (g := Row.v) (d := rowP) pr.hT fun a r _ h => ?_)) (.cons (.tup (SqT.of pr.hu) (dp_tups (g := Trn.v) (d := trnP) pr.hU fun a r _ h => ?_)) (.cons (.tup (SqT.of pr.hy) (dp_strP _)) .nil)))))
  · exact .tup (SqT.of h) (.cons (.str _) (.cons (.str _) (.cons (.str _) (.cons (.int _) .nil))))
  · exact .tup (SqT.of h) (.cons (.str _) (.cons (.str _) (.cons (.int _) .nil)))
theorem loopP_lay {L : LD} (O : L.Ok) : (loopP L).canLay0 = true := by
  refine all5 (sg_ok O) (lay_map fun z hz => ok_st O hz) (lay_map fun ρ hρ => ?_) (lay_map fun ρ hρ => ?_) (lay_map fun z hz => ok_st O (yes_sub z hz))
  · obtain ⟨i, c, hi, hc, rfl⟩ := rows_mem hρ
    exact all4 (ok_st O (nm_mem hi)) (ok_sign O hc) (ok_st O (nm_mem (O.nxlt i c hi hc))) rfl
  · obtain ⟨i, hi, rfl⟩ := List.mem_map.mp hρ
    have hi := List.mem_range.mp hi
    exact all3 (ok_st O (nm_mem hi)) (ok_st O (nm_mem (O.tnlt i hi))) rfl
theorem loopP_shaped {L : LD} (O : L.Ok) : SeqAt.shaped (loopP L) = true := by
  refine shaped_of (loopP_lay O) ?_
  have d1 := depth_map (g := strP) (n := 0) (l := L.st) fun _ _ => show 0 ≤ 0 from Nat.le_refl _
  have d2 := depth_map (g := rowP) (n := 1) (l := L.rows) fun _ _ => show 1 ≤ 1 from Nat.le_refl _
  have d3 := depth_map (g := trnP) (n := 1) (l := L.turns) fun _ _ => show 1 ≤ 1 from Nat.le_refl _
  have d4 := depth_map (g := strP) (n := 0) (l := L.yes) fun _ _ => show 0 ≤ 0 from Nat.le_refl _
  show max 0 (max (PyData.depthAll (L.st.map strP) + 1) (max (PyData.depthAll (L.rows.map rowP) + 1) (max (PyData.depthAll (L.turns.map trnP) + 1) (max (PyData.depthAll (L.yes.map strP) + 1) 0)))) + 1 ≤ 64
  omega
theorem loopP_eqv {L : LD} (O : L.Ok) : PyData.eqv (loopP L) (loopP L) = true := SeqAt.eqv_refl _ (loopP_lay O)
/-! ### == -/
def spLoEq (C T : Addr) : Sp := fun vs H Q _ => ∃ (a b : Addr) (L : LD), vs = [.ref a, .ref b] ∧ LoopAt C T H a L ∧ LoopAt C T H b L ∧ L.Ok ∧ ∀ H', Same H H' → Q (.bl true) H'
section
variable {P : Program} {w : World} {K : PySem.W.Frag} {mg : Str → Option Value} {base : Heap} {A : LA} {B : EqA} {e : Addr}
theorem kit_self {K : PySem.W.Frag} {C : Addr} : PySem.W.kitOne K (.ref C) (.ref C) = some true := by
  unfold PySem.W.kitOne
  rw [if_pos (beq_self_eq_true _)]
theorem isi_loop {D : LTxt K mg A.C} {H : Hp} {r : Addr} {L : LD} (I : IsiF K A.C) (LA0 : LoopAt A.C A.T H r L) : TyX K H (.ref r) (.ref A.C) := by
  obtain ⟨dx, t, rr, u, y, tb, as, bs, h0, pr, TA⟩ := LA0
  exact .base (.ins h0 D.cl I.hcl I.hgt I.htk I.hob)
theorem scLE : FnScope ["self", "other"] ["self", "other"] (defScope sLoEq) := ⟨rfl, rfl, rfl, by decide +kernel, rfl, by decide +kernel, by decide +kernel⟩
set_option maxHeartbeats 0 in
theorem ok_loeq (D : LoopF K mg A e) (Z : Free mg) (EF : EqF K mg A B) (I : IsiF K A.C) : FnOk P w K mg base CX0 3 B.fEq B.dEq ["self", "other"] (spLoEq A.C A.T) := by
  have GW : FnOk P w K mg base CX0 1 A.fW A.dW ["self"] (spLoRow A.C) := ok_lorow D
  refine EF.F.ok scLE (fun vs H Q E h => ?_) (fun cdv A' outer s H vs Q E hr h => ?_)
  · obtain ⟨a, b, L, rfl, _⟩ := h
    rfl
  · obtain ⟨a, b, L, rfl, LA0, LB0, O, k⟩ := h
    refine ⟨_, pss_one (ps_ret (pe_and (pe_callB call_isi (by rfl) Z.isi (by decide +kernel) (pa_cons (pv 1) (pa_cons (pe_glob (v := .ref A.C) (by rfl) D.gL rfl) pa_nil)))
      (pe_one (pe_cmpR (op_eqD hr.units) (pe_prop (pv 0) D.L.cl D.hW GW hr D.bW .nil pass0 rfl) (pe_prop (pv 1) D.L.cl D.hW GW hr D.bW .nil pass0 rfl) (nomark _))))), ?_⟩
    obtain ⟨dx, t, rr, u, y, tb, as, bs, h0, pr, TA⟩ := id LA0
    obtain ⟨dx2, t2, rr2, u2, y2, tb2, as2, bs2, g0, pr2, TA2⟩ := id LB0
    obtain ⟨l1, l2, l3, l4, l5, l6⟩ := lf_look (S L.sg) t rr u y tb
    obtain ⟨m1, m2, m3, m4, m5, m6⟩ := lf_look (S L.sg) t2 rr2 u2 y2 tb2
    refine ⟨_, rfl, _, _, .ref A.C, .ref A.C, true, rfl, .own A.C, isi_loop (D := D.L) I LB0, kit_self, true, rfl, ?_⟩
    refine ⟨_, rfl, a, dx, _, rfl, h0, a, dx, t, rr, u, y, _, _, rfl, h0, l1, l2, l3, l4, l5, fun q hq => ?_⟩
    have s1 := Same.put (o := .tup [.str (S L.sg), .ref t, .ref rr, .ref u, .ref y]) (Same.refl H) hq
    have hq1 : (L2.upd H q (.tup [.str (S L.sg), .ref t, .ref rr, .ref u, .ref y])) q = some (.tup [.str (S L.sg), .ref t, .ref rr, .ref u, .ref y]) := upd_same
    generalize L2.upd H q (.tup [.str (S L.sg), .ref t, .ref rr, .ref u, .ref y]) = H1 at s1 hq1 ⊢
    refine ⟨_, rfl, b, dx2, _, rfl, s1 _ _ g0, b, dx2, t2, rr2, u2, y2, _, _, rfl, s1 _ _ g0, m1, m2, m3, m4, m5, fun q2 hq2 => ?_⟩
    have s2 := Same.put (o := .tup [.str (S L.sg), .ref t2, .ref rr2, .ref u2, .ref y2]) s1 hq2
    have hqq : (L2.upd H1 q2 (.tup [.str (S L.sg), .ref t2, .ref rr2, .ref u2, .ref y2])) q = some (.tup [.str (S L.sg), .ref t, .ref rr, .ref u, .ref y]) := (upd_ne (ne_of_none hq1 hq2)).trans hq1
    have hq22 : (L2.upd H1 q2 (.tup [.str (S L.sg), .ref t2, .ref rr2, .ref u2, .ref y2])) q2 = some (.tup [.str (S L.sg), .ref t2, .ref rr2, .ref u2, .ref y2]) := upd_same
    generalize L2.upd H1 q2 (.tup [.str (S L.sg), .ref t2, .ref rr2, .ref u2, .ref y2]) = H2 at s2 hqq hq22 ⊢
    refine ⟨_, _, loopP_dp (pr.same s2) hqq, loopP_dp (pr2.same s2) hq22, loopP_shaped O, loopP_shaped O, ?_⟩
    rw [loopP_eqv O]
    exact k H2 s2
end
end Wb
/-! two loops together: _sum_of, Loop.__add__, Loop.__sub__ -/
namespace Wb
open PySem L2 WbMin WbS Lz WbO
abbrev sSumOf : Stmt := top 51
abbrev sLoSg : Stmt := inClass (top 49) 1
abbrev sLoAdd : Stmt := inClass (top 49) 18
abbrev sLoSub : Stmt := inClass (top 49) 19
structure AddA where
  (fSg pSg fso fsr flo fAd fSu : Addr)
  (dSg dso dsr dlo dAd dSu : FuncData)
/-- what the top has written of + and - -/
structure AddF (K : PySem.W.Frag) (mg : Str → Option Value) (A : LA) (B : AddA) (S2 : SmA) : Prop where
  FSg : Fun K "signs" "Loop.signs" sLoSg B.fSg B.dSg
  bSg : Binds K B.dSg ["self"] []
  hSg : PropOf K A.C "signs" B.pSg B.fSg
  so : Def K mg "_sum_of" sSumOf ["one", "other", "factor"] B.fso B.dso
  sr : Def K mg "sum_row" sSumRow ["one", "other", "signs", "factor"] B.fsr B.dsr
  lo : Def K mg "_loop_of" sLoopOf ["row"] B.flo B.dlo
  sm : SmF K mg S2
  FAd : Fun K "__add__" "Loop.__add__" sLoAdd B.fAd B.dAd
  bAd : Binds K B.dAd ["self", "other"] []
  mAd : Meth K A.C "__add__" B.fAd
  FSu : Fun K "__sub__" "Loop.__sub__" sLoSub B.fSu B.dSu
  bSu : Binds K B.dSu ["self", "other"] []
  mSu : Meth K A.C "__sub__" B.fSu
  sf : PySem.W.selfFirst K A.C = true
  w : ∃ t : Tok, mg "MOST_STATES" = some (.int 6 t)
def spLoSg (C T : Addr) : Sp := fun vs H Q _ => ∃ (r : Addr) (L : LD), vs = [.ref r] ∧ LoopAt C T H r L ∧ Q (.str (S L.sg)) H
section
variable {P : Program} {w : World} {K : PySem.W.Frag} {mg : Str → Option Value} {base : Heap} {A : LA} {B : AddA} {S2 : SmA} {e : Addr}
theorem scSgP : FnScope ["self"] ["self"] (defScope sLoSg) := ⟨rfl, rfl, rfl, by decide +kernel, rfl, by decide +kernel, by decide +kernel⟩
theorem ok_losg (D : LoopF K mg A e) (AF : AddF K mg A B S2) : FnOk P w K mg base CX0 1 B.fSg B.dSg ["self"] (spLoSg A.C A.T) := by
  refine AF.FSg.ok scSgP (fun vs H Q E h => ?_) (fun cdv A' outer s H vs Q E hr h => ?_)
  · obtain ⟨r, L, rfl, _⟩ := h
    rfl
  · obtain ⟨r, L, rfl, ⟨dx, t, rr, u, y, tb, as, bs, h0, pr, TA⟩, k⟩ := h
    obtain ⟨l1, l2, l3, l4, l5, l6⟩ := lf_look (S L.sg) t rr u y tb
    exact ⟨_, pss_one (ps_ret (pe_fld (pv 0) rfl)), _, rfl, r, A.C, dx, _, _, rfl, h0, D.L.cl, D.L.n1, l1, k⟩
theorem scSum : FnScope ["one", "other", "factor", "row"] ["one", "other", "factor"] (defScope sSumOf) := ⟨rfl, rfl, rfl, by decide +kernel, rfl, by decide +kernel, by decide +kernel⟩
theorem scAd : FnScope ["self", "other"] ["self", "other"] (defScope sLoAdd) := ⟨rfl, rfl, rfl, by decide +kernel, rfl, by decide +kernel, by decide +kernel⟩
theorem scSu : FnScope ["self", "other"] ["self", "other"] (defScope sLoSub) := ⟨rfl, rfl, rfl, by decide +kernel, rfl, by decide +kernel, by decide +kernel⟩
end
end Wb
set_option maxHeartbeats 1000000
/-! o op y by o's own method, y of any built-in type -/
namespace PySem.W
open PySem Sem PySem.Calls PyProof.Rows Builtin
section
variable {prog : Program} {w : World} {A : Around} {E : Value → Shared → Prop} {s : Shared} {K : Frag} {base : Heap} {L a : Addr} {m : Str → Option Value} {oa : Obj} {C f : Addr} {od : Option Obj} {t : String}
/-- the left operand's own method, the right one's type is known by a look -/
theorem left_own {op : Operator} {y : Value} {fo ro rc : Option Value} {Q : Value → Shared → Prop} (fr : Fr base L s.heap m) (kin : K.In base) (inst : InstAt s.heap a oa C od) (ty : Looks (model prog w) s.heap (typeOf y) (.type t)) (first_ : selfFirst K C = true)
    (own : findIn K (.ref C) (PySem.dunder op.info.2) = some (some (.ref f))) (fn : isFn K (.ref f) = true) (rev : findIn K (.ref C) (dunderR op.info.2) = some rc) (py : rc = none ∨ ∃ g : Addr, rc = some (.ref g))
    (its : findIn K (.type t) (PySem.dunder op.info.2) = some fo) (itsR : findIn K (.type t) (dunderR op.info.2) = some ro) (sub : subIn K (.type t) (.ref C) = some false)
    (run : wpAny (model prog w) A (call (.ref f) [.ref a, y]) (CmpBack Q) E s) : wpAny (model prog w) A (binaryOp op (.ref a) y) Q E s := by
  have X := kin.keeps fr.keep
  obtain ⟨cd, rest, inCls, mro⟩ := ksp_first first_
  obtain ⟨sym, nm, ei⟩ : ∃ sym nm, op.info = (sym, nm) := ⟨op.info.1, op.info.2, rfl⟩
  rw [ei] at own rev its itsR
  dsimp only at own rev its itsR
  have tried := ksp_try X inst own fn run
  obtain ⟨hp, gs, dr, tk, os⟩ := s
  have l1 : Looks (model prog w) hp (typeOf (.ref a)) (.ref C) := inst.type
  have l2 : Looks (model prog w) hp (typeOf y) (.type t) := ty
  have l3 : Looks (model prog w) hp (fillsNumberSlot (.ref C) nm) true := fills_K X inCls mro own
  have l4 : Looks (model prog w) hp (fillsNumberSlot (.type t) nm) ((fo.isSome && !isSeqSlot fo) || (ro.isSome && !isSeqSlot ro)) := ksp_fillsT X its itsR
  have l5 : Looks (model prog w) hp (isSubtype (.type t) (.ref C)) false := looks_subIn X sub
  have l6 : Looks (model prog w) hp (numberSlotInPython (.ref C) nm) true := ksp_inPy X own rev py
  have l7 : Looks (model prog w) hp (numberSlotInPython (.type t) nm) false := Looks.of_pure rfl
  have l8 : Looks (model prog w) hp (typeLookup (.type t) (dunderR nm)) ro := looks_findIn X itsR
  obtain ⟨right, er⟩ : ∃ right, ((fo.isSome && !isSeqSlot fo) || (ro.isSome && !isSeqSlot ro)) = right := ⟨_, rfl⟩
  rw [er] at l4
  have unlike : (Value.ref C == Value.type t) = false := Bool.eq_false_iff.mpr fun q => by cases beq_iff_eq.mp q
  simp only [binaryOp, ei] ; refine wpAny_holding (wpAny_bind ?_) ; unfold binaryOp1
  refine wpAny_bind (l1.at (wpAny_bind (l2.at (wpAny_bind (l3.at ?_)))))
  simp only [unlike, Bool.false_eq_true, if_false]
  cases right with
  | false =>
    ksp_lk
    refine wpAny_mono tried (fun r s' back => ?_) fun _ _ e => e
    obtain ⟨v, rfl, q⟩ := back
    ksp_lk
    exact q
  | true =>
    ksp_lk
    refine wpAny_mono tried (fun r s' back => ?_) fun _ _ e => e
    obtain ⟨v, rfl, q⟩ := back
    ksp_lk
    exact q
end
end PySem.W
namespace Le
open PySem PySem.Spec PyProof.Rows L2
/-- what the class and a built-in type say of an operator -/
structure OpT (K : PySem.W.Frag) (C : Addr) (nm : String) (t : String) : Prop where
  its : ∃ fo, PySem.W.findIn K (.type t) (PySem.dunder nm) = some fo
  itsR : ∃ ro, PySem.W.findIn K (.type t) (PySem.dunderR nm) = some ro
  sub : PySem.W.subIn K (.type t) (.ref C) = some false
section
variable {X : Cx} {CX : CXT} {k : Nat} {C g : Addr} {fd : FuncData} {ps : List Str} {sp : Sp} {E : XK} {op : Operator}
def rOpU (K : PySem.W.Frag) (C : Addr) (nm : String) (sp : Sp) (E : XK) : R2 := fun x y H Q => ∃ (a dx : Addr) (fs : List (Str × V)) (t : String), x = .ref a ∧ H a = some (.ins C dx fs) ∧ TyX K H y (.type t) ∧ OpT K C nm t ∧ sp [.ref a, y] H Q E
theorem op_U (sf : PySem.W.selfFirst X.K C = true) (own : PySem.W.findIn X.K (.ref C) (PySem.dunder op.info.2) = some (some (.ref g))) (fn : PySem.W.isFn X.K (.ref g) = true) {rc : Option Value} (rev : PySem.W.findIn X.K (.ref C) (PySem.dunderR op.info.2) = some rc) (py : rc = none ∨ ∃ g : Addr, rc = some (.ref g))
    (F : FnOk X.prog X.w X.K X.mg X.base CX k g fd ps sp) (hr : Room k X.A) (hb : Binds X.K fd ps []) (hx : Passes CX X E) : OpR X (binaryOp op) (rOpU X.K C op.info.2 sp E) := by
  intro pins s σ H x y v u Q I rx ry h
  obtain ⟨a, dx, fs, t, rfl, ha, ty, T, q⟩ := h
  cases (show v = Value.ref a from rx)
  obtain ⟨mA, O, _⟩ := ins_get I.hok ha
  obtain ⟨od, J, _⟩ := O.look
  obtain ⟨m, hF⟩ := I.fr
  obtain ⟨Pp, kx, hP, _⟩ := kit_of I ry ty
  obtain ⟨_, i1⟩ := T.its
  obtain ⟨_, i2⟩ := T.itsR
  refine PySem.W.left_own hF I.ok.mod.kin J (kx.ty _ _ I.kIn hP) sf own fn rev py i1 i2 T.sub ?_
  have len : ([Value.ref a, u] ++ ([] : List Value)).length = ps.length := by
    rw [← F.len _ _ _ _ q]
    rfl
  have bound := hb s [.ref a, u] I.kIn len
  rw [List.append_nil] at bound
  refine wpAny_call (codeAny_mono (F.run X.A X.stack s H ⟨[.ref a, u], []⟩ [.ref a, u] [.ref a, y] Q E hr I.env0 bound (.cons rfl (.cons ry .nil)) q) fun res s' done => ?_)
  cases res with
  | error e => exact hx pins σ H s e s' I done
  | ok fl =>
    cases fl with
    | ret z =>
      obtain ⟨z', H', I', rz, qz⟩ := I.after done
      exact SlX.cmpback rz ⟨z', H', I', rz, qz⟩
    | next => exact False.elim done
    | brk => exact False.elim done
    | cont => exact False.elim done
end
end Le
/-! one + other, one - other, good or refused -/
namespace Wb
open PySem L2 WbMin WbS Lz WbO Le
abbrev sErrNotALoop : Stmt := inClass (top 20) 0
abbrev sErrOtherSigns : Stmt := inClass (top 21) 0
structure SerA where
  (cL cO cM fL fO fM : Addr)
  (dL dO dM : FuncData)
/-- the errors of sums -/
structure SerF (K : PySem.W.Frag) (mg : Str → Option Value) (S : SerA) : Prop where
  L : ErrF K mg "NotALoop" "given" "NotALoop.__init__" sErrNotALoop S.cL S.fL S.dL
  O : ErrF K mg "OtherSigns" "given" "OtherSigns.__init__" sErrOtherSigns S.cO S.fO S.dO
  M : ErrFA K mg "TooMany" "limit" "TooMany.__init__" sErrTooMany S.cM S.fM S.dM
def srtd (l : List Nat) : Prop := PyProof.Rows.sortedS (l.map sOne) = true
/-- one other thing: a loop or not -/
def SumWay (K : PySem.W.Frag) (C T : Addr) (S : SerA) (a : Addr) (A : LD) (f : Int) (x : V) (H : Hp) (Q : VK) (E : XK) : Prop :=
  LoopAt C T H a A ∧ A.Ok ∧ srtd A.sg ∧
  ((∃ (b : Addr) (B : LD), x = .ref b ∧ LoopAt C T H b B ∧ B.Ok ∧ (B.sg = A.sg → (allF A B).length ≤ 9) ∧
    (B.sg = A.sg → AllP A B (allF A B) → (allF A B).length ≤ 6 → ∀ (y : Addr) (H' : Hp), H y = none → Same H H' → LoopAt C T H' y (A.sum B f (allF A B)) → Q (.ref y) H') ∧
    (B.sg = A.sg → 6 < (allF A B).length → FailsA E S.cM "limit" (.int 6) H) ∧ (B.sg ≠ A.sg → FailsA E S.cO "given" (.ref b) H)) ∨
    ∃ ty, TyX K H x ty ∧ PySem.W.kitOne K ty (.ref C) = some false ∧ FailsA E S.cL "given" x H)
def spSumX (K : PySem.W.Frag) (C T : Addr) (S : SerA) : Sp := fun vs H Q E => ∃ (a : Addr) (A : LD) (x : V) (f : Int), vs = [.ref a, x, .int f] ∧ (f = 1 ∨ f = -1) ∧ SumWay K C T S a A f x H Q E
def spTwoX (K : PySem.W.Frag) (C T : Addr) (S : SerA) (f : Int) : Sp := fun vs H Q E => ∃ (a : Addr) (A : LD) (x : V), vs = [.ref a, x] ∧ SumWay K C T S a A f x H Q E
theorem FailsA.later {E : XK} {C : Addr} {g : Str} {x : V} {H H' : Hp} (h : FailsA E C g x H) (s : Same H H') : FailsA E C g x H' := fun dx G s2 n => h dx G (s.trans s2) n
section
variable {P : Program} {w : World} {K : PySem.W.Frag} {mg : Str → Option Value} {base : Heap} {A : LA} {B : AddA} {S2 : SmA} {Er : SerA} {e : Addr} {cI fI : Addr} {dI : FuncData}
theorem scErrL : FnScope ["self", "given"] ["self", "given"] (defScope sErrNotALoop) := ⟨rfl, rfl, rfl, by decide +kernel, rfl, by decide +kernel, by decide +kernel⟩
theorem ok_errL (E : ErrF K mg "NotALoop" "given" "NotALoop.__init__" sErrNotALoop cI fI dI) : FnOk P w K mg base CX0 1 fI dI ["self", "given"] (spErr cI "given") := by
  refine E.F.ok scErrL (fun vs H Q E h => by obtain ⟨a, y, rfl, _⟩ := h; rfl) (fun cdv A outer s H vs Q E' hr h => ?_)
  obtain ⟨a, y, rfl, ha, k⟩ := h
  exact ⟨_, pss_one (ps_ost (pv 0) (pv 1)), _, rfl, _, rfl, a, cI, rfl, E.o, E.no, .inl ⟨ha, k⟩⟩
theorem scErrO : FnScope ["self", "given"] ["self", "given"] (defScope sErrOtherSigns) := ⟨rfl, rfl, rfl, by decide +kernel, rfl, by decide +kernel, by decide +kernel⟩
theorem ok_errO (E : ErrF K mg "OtherSigns" "given" "OtherSigns.__init__" sErrOtherSigns cI fI dI) : FnOk P w K mg base CX0 1 fI dI ["self", "given"] (spErr cI "given") := by
  refine E.F.ok scErrO (fun vs H Q E h => by obtain ⟨a, y, rfl, _⟩ := h; rfl) (fun cdv A outer s H vs Q E' hr h => ?_)
  obtain ⟨a, y, rfl, ha, k⟩ := h
  exact ⟨_, pss_one (ps_ost (pv 0) (pv 1)), _, rfl, _, rfl, a, cI, rfl, E.o, E.no, .inl ⟨ha, k⟩⟩
set_option maxHeartbeats 2000000 in
theorem ok_sumofX (D : LoopF K mg A e) (Z : Free mg) (AF : AddF K mg A B S2) (I : IsiF K A.C) (SE : SerF K mg Er) : FnOk P w K mg base (L2N.CX P w) 7 B.fso B.dso ["one", "other", "factor"] (spSumX K A.C A.T Er) := by
  have GO : FnOk P w K mg base CX0 6 B.flo B.dlo ["row"] (spLoopOf A.C A.T) := ok_loopof (B := ⟨B.flo, B.flo, B.flo, B.flo, B.dlo, B.dlo, B.dlo, B.dlo⟩) AF.lo.F D Z
  have GR : FnOk P w K mg base CX0 2 B.fsr B.dsr ["one", "other", "signs", "factor"] (spSumRowA A.T) := ok_sumrowA AF.sr.F AF.sm D.T Z D.tup D.zip
  have GS : FnOk P w K mg base CX0 1 B.fSg B.dSg ["self"] (spLoSg A.C A.T) := ok_losg D AF
  have GL : FnOk P w K mg base CX0 1 Er.fL Er.dL ["self", "given"] (spErr Er.cL "given") := ok_errL SE.L
  have GOt : FnOk P w K mg base CX0 1 Er.fO Er.dO ["self", "given"] (spErr Er.cO "given") := ok_errO SE.O
  have GM : FnOk P w K mg base CX0 1 Er.fM Er.dM ["self", "limit"] (spErr Er.cM "limit") := ok_errM SE.M
  obtain ⟨t6, g6⟩ := AF.w
  refine okN AF.so.F scSum (fun vs H Q E h => ?_) (fun cdv A' outer s H vs Q E hr h => ?_)
  · obtain ⟨a, La, x, kf, rfl, _⟩ := h
    rfl
  · obtain ⟨a, La, x, kf, rfl, wayf, LA0, OA, srt, way⟩ := h
    have lo : -(2 ^ 64) < kf := by rcases wayf with rfl | rfl <;> decide
    have hi0 : kf < 2 ^ 64 := by rcases wayf with rfl | rfl <;> decide
    have hr1 : Room 1 _ := hr.mono (by decide)
    have hr2 : Room 2 _ := hr.mono (by decide)
    refine ⟨_, pss_cons (ps_if (pt_not (pt_val (pe_callB call_isi (by rfl) Z.isi (by decide +kernel) (pa_cons (pv 1) (pa_cons (pe_glob (v := .ref A.C) (by rfl) D.gL rfl) pa_nil))))) (pss_one (ps_bad SE.L GL hr2 rfl (L2N.takes_of rfl rfl rfl rfl) rfl (pv 1))) pss_nil)
      (pss_cons (ps_if (pt_cmpR op_ne (pe_prop (pv 0) D.L.cl AF.hSg GS hr2 AF.bSg .nil pass0 rfl) (pe_prop (pv 1) D.L.cl AF.hSg GS hr2 AF.bSg .nil pass0 rfl) (nomark _)) (pss_one (ps_bad SE.O GOt hr2 rfl (L2N.takes_of rfl rfl rfl rfl) rfl (pv 1))) pss_nil)
      (pss_cons (ps_set (i := 3) scSum.nd rfl (.inl rfl) (pe_call GR hr2 rfl AF.sr.g AF.sr.kp AF.sr.b .nil pass0 (pa_cons (pe_fld (pv 0) rfl) (pa_cons (pe_fld (pv 1) rfl) (pa_cons (pe_prop (pv 0) D.L.cl AF.hSg GS hr2 AF.bSg .nil pass0 rfl) (pa_cons (pv 2) pa_nil))))))
      (pss_cons (ps_if (pt_cmpR op_gt (pe_callB call_len_seq (by rfl) Z.len PySem.boot_len (pa_cons (pe_ix ix_tup (pv 3) pe_int (fun _ _ => rfl)) pa_nil)) (pe_glob (v := .int 6) (by rfl) g6 ⟨_, rfl⟩) (nomark _)) (pss_one (ps_badA SE.M GM hr2 rfl (L2N.takes_of rfl rfl rfl rfl) rfl (pe_glob (v := .int 6) (by rfl) g6 ⟨_, rfl⟩))) pss_nil)
      (pss_one (ps_ret (pe_call GO hr rfl AF.lo.g AF.lo.kp AF.lo.b .nil pass0 (pa_cons (pv 3) pa_nil))))))), ?_⟩
    rcases way with ⟨b, Lb, rfl, LB0, OB, nine, good, many, other⟩ | ⟨ty, tyx, kit, no⟩
    · obtain ⟨dx, t, rr, u, y, tb, as, bs, h0, pr, TA⟩ := id LA0
      obtain ⟨l1, l2, l3, l4, l5, l6⟩ := lf_look (S La.sg) t rr u y tb
      obtain ⟨dx2, t2, rr2, u2, y2, tb2, as2, bs2, g0, pr2, TB⟩ := id LB0
      obtain ⟨m1, m2, m3, m4, m5, m6⟩ := lf_look (S Lb.sg) t2 rr2 u2 y2 tb2
      refine ⟨_, rfl, _, _, .ref A.C, .ref A.C, true, rfl, .own A.C, isi_loop (D := D.L) I LB0, kit_self, true, rfl, iteF ?_⟩
      refine ⟨_, rfl, a, dx, _, rfl, h0, a, La, rfl, LA0, _, rfl, b, dx2, _, rfl, g0, b, Lb, rfl, LB0, rfl, _, rfl, ?_⟩
      by_cases eg : Lb.sg = La.sg
      case neg =>
        have en : (!decide (V.str (S La.sg) = V.str (S Lb.sg))) = true := by
          rw [decide_eq_false fun z => eg (S_inj (by injection z with z)).symm] <;> rfl
        rw [en]
        exact iteT ⟨_, rfl, fun dx' n => other eg dx' H (Same.refl H) n⟩
      have en : (!decide (V.str (S La.sg) = V.str (S Lb.sg))) = false := by
        rw [eg, decide_eq_true rfl] <;> rfl
      rw [en]
      refine iteF ?_
      refine ⟨_, rfl, a, A.C, dx, _, _, rfl, h0, D.L.cl, D.L.n6, l6, _, rfl, b, A.C, dx2, _, _, rfl, g0, D.L.cl, D.L.n6, m6, _, rfl, a, dx, _, rfl, h0, a, La, rfl, LA0, _, rfl, tb, tb2, La, Lb, kf, rfl, OA, OB, eg, lo, hi0, TA, TB, nine eg, fun q H1 AP q0 s1 RA => ?_⟩
      obtain ⟨t', rr', u', y', as', bs', hq, ht, hrr, hT, hu, hU, hy⟩ := RA
      have len : ((La.sum Lb kf (allF La Lb)).st.map V.str).length = (allF La Lb).length := by
        exact (List.length_map ..).trans (sum_n La Lb kf (allF La Lb))
      refine ⟨_, rfl, q, _, _, _, rfl, rfl, SqT.of hq, atI_nat (j := 1) rfl, t', _, rfl, .inr (SqT.of ht), _, _, rfl, rfl, _, rfl, ?_⟩
      rw [len]
      by_cases six : (allF La Lb).length ≤ 6
      case neg => exact ifd (by omega) fun d n => many eg (by omega) d H1 s1 n
      refine ifn (by omega) ?_
      have G := AP.goes six
      refine ⟨_, rfl, q, t', rr', u', y', as', bs', La.sum Lb kf (allF La Lb), La.sg, _, _, _, rfl, hq, OA.sum G, srt, told_self (OA.sum G), ⟨ht, hrr, hT, hu, hU, hy⟩, fun x H2 n2 s2 LX => ?_⟩
      exact good eg AP six x H2 (none_of_same s1 n2) (s1.trans s2) LX
    · exact ⟨_, rfl, _, _, ty, .ref A.C, false, rfl, .own A.C, tyx, kit, false, rfl, iteT ⟨_, rfl, fun dx' n => no dx' H (Same.refl H) n⟩⟩
theorem passNs {X : Cx} {E : XK} (tk : L2N.Takes X (fun cls d _ H => E cls d H)) : Passes (L2N.CX X.prog X.w) X E := L2N.passes_call tk fun _ _ _ _ h => h
set_option maxHeartbeats 0 in
theorem ok_loaddX (D : LoopF K mg A e) (Z : Free mg) (AF : AddF K mg A B S2) (I : IsiF K A.C) (SE : SerF K mg Er) : FnOk P w K mg base (L2N.CX P w) 8 B.fAd B.dAd ["self", "other"] (spTwoX K A.C A.T Er 1) := by
  have GS : FnOk P w K mg base (L2N.CX P w) 7 B.fso B.dso ["one", "other", "factor"] (spSumX K A.C A.T Er) := ok_sumofX D Z AF I SE
  refine okN AF.FAd scAd (fun vs H Q E h => ?_) (fun cdv A' outer s H vs Q E hr h => ?_)
  · obtain ⟨a, La, x, rfl, _⟩ := h
    rfl
  · obtain ⟨a, La, x, rfl, way⟩ := h
    refine ⟨_, pss_one (ps_ret (pe_call GS hr rfl AF.so.g AF.so.kp AF.so.b .nil (passNs (L2N.takes_of rfl rfl rfl rfl)) (pa_cons (pv 0) (pa_cons (pv 1) (pa_cons pe_int pa_nil))))), ?_⟩
    exact ⟨_, rfl, _, rfl, a, La, x, 1, rfl, .inl rfl, way⟩
set_option maxHeartbeats 0 in
theorem ok_losubX (D : LoopF K mg A e) (Z : Free mg) (AF : AddF K mg A B S2) (I : IsiF K A.C) (SE : SerF K mg Er) : FnOk P w K mg base (L2N.CX P w) 8 B.fSu B.dSu ["self", "other"] (spTwoX K A.C A.T Er (-1)) := by
  have GS : FnOk P w K mg base (L2N.CX P w) 7 B.fso B.dso ["one", "other", "factor"] (spSumX K A.C A.T Er) := ok_sumofX D Z AF I SE
  refine okN AF.FSu scSu (fun vs H Q E h => ?_) (fun cdv A' outer s H vs Q E hr h => ?_)
  · obtain ⟨a, La, x, rfl, _⟩ := h
    rfl
  · obtain ⟨a, La, x, rfl, way⟩ := h
    refine ⟨_, pss_one (ps_ret (pe_call GS hr rfl AF.so.g AF.so.kp AF.so.b .nil (passNs (L2N.takes_of rfl rfl rfl rfl)) (pa_cons (pv 0) (pa_cons (pv 1) (pa_cons (pe_un un_neg pe_int) pa_nil))))), ?_⟩
    exact ⟨_, rfl, _, rfl, _, rfl, a, La, x, -1, rfl, .inr rfl, way⟩
end
end Wb
/-! what stays while lambdas are made: all but the pool and the tables of code objects -/
namespace Wb
open PySem L2 WbMin WbS Lz Le LamX
/-- the heap without its tables -/
def noT (H : Hp) : Hp := fun b => match H b with
  | some (.tbl _) => none
  | o => o
theorem noT_at {H : Hp} {b : Addr} {o : HO} (h : H b = some o) (n : ∀ ps, o ≠ .tbl ps) : noT H b = some o := by
  unfold noT
  rw [h]
  cases o with
  | tbl ps => exact (n ps rfl).elim
  | _ => rfl
theorem noT_inv {H : Hp} {b : Addr} {o : HO} (h : noT H b = some o) : H b = some o ∧ ∀ ps, o ≠ .tbl ps := by
  unfold noT at h
  cases e : H b with
  | none =>
    rw [e] at h
    cases h
  | some u =>
    rw [e] at h
    cases u with
    | tbl ps => cases h
    | _ =>
      cases h
      exact ⟨rfl, fun ps z => by cases z⟩
def Bt (p : Addr) (H H' : Hp) : Prop := But p (noT H) H'
theorem Bt.of {p : Addr} {H H' : Hp} (b : But p H H') : Bt p H H' := fun c o n h => b c o n (noT_inv h).1
theorem Bt.same {p : Addr} {H H' : Hp} (s : Same H H') : Bt p H H' := fun c o _ h => s c o (noT_inv h).1
theorem Bt.ext {p : Addr} {H H' : Hp} (e : ExtN H H') : Bt p H H' := fun c o _ h => e c o (noT_inv h).1 (noT_inv h).2
theorem Bt.trans {p : Addr} {H H1 H2 : Hp} (a : Bt p H H1) (b : Bt p H1 H2) : Bt p H H2 := fun c o n h => b c o n (noT_at (a c o n h) (noT_inv h).2)
theorem PoolAt.noT {H : Hp} {p : Addr} (h : PoolAt H p) : PoolAt (noT H) p := by
  obtain ⟨a, b, c, e, r⟩ := h
  exact ⟨a, b, c, noT_at e (fun _ z => by cases z), r⟩
theorem PoolAt.ext {H H' : Hp} {p : Addr} (h : PoolAt H p) (s : ExtN H H') : PoolAt H' p := by
  obtain ⟨a, b, c, e, r⟩ := h
  exact ⟨a, b, c, s _ _ e (fun _ z => by cases z), r⟩
theorem Tups.noT {H : Hp} : ∀ {as : List Addr} {xs : List (List V)}, Tups H as xs → Tups (noT H) as xs
  | [], [], _ => trivial
  | _ :: _, _ :: _, h => ⟨noT_at h.1 (fun _ z => by cases z), Tups.noT h.2⟩
  | [], _ :: _, h => h.elim
  | _ :: _, [], h => h.elim
theorem Prt.noT {L : LD} {t rr u y : Addr} {as bs : List Addr} {H : Hp} (h : Prt L t rr u y as bs H) : Prt L t rr u y as bs (noT H) :=
  ⟨noT_at h.ht (fun _ z => by cases z), noT_at h.hr (fun _ z => by cases z), h.hT.noT, noT_at h.hu (fun _ z => by cases z), h.hU.noT, noT_at h.hy (fun _ z => by cases z)⟩
theorem LoopAt.noT {C T : Addr} {H : Hp} {r : Addr} {L : LD} : LoopAt C T H r L → LoopAt C T (noT H) r L := by
  rintro ⟨dx, t, rr, u, y, tb, as, bs, h0, pr, dx', dN, dX, dA, tX, tA, tY, xs, as', g0, hX, hx, hA, ha, hTX, hTA, hTY⟩
  have nt : ∀ {a : Addr} {o : HO}, H a = some o → (∀ ps, o ≠ .tbl ps) → Wb.noT H a = some o := noT_at
  exact ⟨dx, t, rr, u, y, tb, as, bs, nt h0 (fun _ z => by cases z), pr.noT, dx', dN, dX, dA, tX, tA, tY, xs, as', nt g0 (fun _ z => by cases z), nt hX (fun _ z => by cases z), hx.noT, nt hA (fun _ z => by cases z), ha.noT, nt hTX (fun _ z => by cases z), nt hTA (fun _ z => by cases z), nt hTY (fun _ z => by cases z)⟩
theorem MdAt.noT {H : Hp} {q : Addr} {L : LD} : MdAt H q L → MdAt (noT H) q L := fun ⟨A, Sd, Ed, O, kvs, ws, h0, hA, hS, hE, e2, e1, hO⟩ =>
  have tk : Tk H (Wb.noT H) := fun _ _ h => noT_at h (fun _ z => by cases z)
  ⟨A, Sd, Ed, O, kvs, ws, noT_at h0 (fun _ z => by cases z), noT_at hA (fun _ z => by cases z), noT_at hS (fun _ z => by cases z), noT_at hE (fun _ z => by cases z), fun i c hi hc => (e2 i c hi hc).tk tk, fun i hi => (e1 i hi).tk tk, by
    first
    | exact noT_at hO (fun _ z => by cases z)
    | exact (let ⟨os, h, g⟩ := hO ; ⟨os, noT_at h (fun _ z => by cases z), g⟩)⟩
theorem noT_cut {H : Hp} {a : Addr} : Same (noT (cut H a)) (cut (noT H) a) := fun b o h => by
  obtain ⟨h1, h2⟩ := noT_inv h
  unfold cut at h1 ⊢
  by_cases e : b = a
  · rw [if_pos e] at h1
    cases h1
  · rw [if_neg e] at h1 ⊢
    exact noT_at h1 h2
theorem Thing.noT : ∀ {n : Nat} {H : Hp} {v : V} {d : PyData}, Thing H n v d → Thing (noT H) n v d
  | 0, _, _, _, h => h.elim
  | _ + 1, _, _, _, .inl h => .inl h
  | _ + 1, _, _, _, .inr (.inl ⟨a, xs, ds, e, h, l, r, q⟩) => .inr (.inl ⟨a, xs, ds, e, noT_at h (fun _ z => by cases z), l, r.imp fun _ _ z => Thing.noT z, q⟩)
  | _ + 1, _, _, _, .inr (.inr (.inl ⟨a, xs, ds, e, h, l, r, q⟩)) => .inr (.inr (.inl ⟨a, xs, ds, e, noT_at h (fun _ z => by cases z), l, r.imp fun _ _ z => Thing.noT z, q⟩))
  | _ + 1, _, _, _, .inr (.inr (.inr ⟨a, ks, xs, ds, e, h, nd, l1, l, r, q⟩)) => .inr (.inr (.inr ⟨a, ks, xs, ds, e, noT_at h (fun _ z => by cases z), nd, l1, l, r.imp fun _ _ z => (Thing.noT z).same noT_cut, q⟩))
theorem Any.noT {p : Addr} {H : Hp} {x : V} {d : PyData} (h : Any p H x d) : Any p (noT H) x d := ⟨(Thing.noT h.1).same noT_cut, h.2⟩
theorem Any.bt {p : Addr} {H H' : Hp} {x : V} {d : PyData} (h : Any p H x d) (b : Bt p H H') : Any p H' x d := h.noT.but b
theorem LoopAt.bt {C T : Addr} {H H' : Hp} {p r : Addr} {L : LD} (h : LoopAt C T H r L) (hp : PoolAt H p) (b : Bt p H H') : LoopAt C T H' r L := h.noT.but hp.noT b
theorem MdAt.bt {H H' : Hp} {p q : Addr} {L : LD} (h : MdAt H q L) (hp : PoolAt H p) (b : Bt p H H') : MdAt H' q L := h.noT.but hp.noT b
/-- the tables stay while the pool changes -/
theorem Tabs.but {T : List (Addr × Str)} {H H' : Hp} {p : Addr} (t : Tabs T H) (hp : PoolAt H p) (b : But p H H') : Tabs T H' := fun y hy => by
  obtain ⟨ps, h1, h2, h3⟩ := t y hy
  refine ⟨ps, b _ _ (pool_other hp h1 fun _ _ _ q => by cases q) h1, h2, fun pos cv hc => ?_⟩
  obtain ⟨c, e1, e2⟩ := h3 pos cv hc
  exact ⟨c, e1, b _ _ (pool_other hp e2 fun _ _ _ q => by cases q) e2⟩
theorem heard_due {K : PySem.W.Frag} {H : Hp} {Q : VK} {a b : Addr} {d : PyData} (h1 : Dp K H (.ref a) d) (h2 : Dp K H (.ref b) d) (ok : d.canLay0 = true ∧ PyData.depth d ≤ 64) (k : Q (.bl false) H) : rNeD K (.ref a) (.ref b) H Q := by
  refine ⟨d, d, h1, h2, shaped_of ok.1 ok.2, shaped_of ok.1 ok.2, ?_⟩
  rw [SeqAt.eqv_refl _ ok.1]
  exact k
mutual
theorem Dp.noT {K : PySem.W.Frag} {H : Hp} : ∀ {v : V} {d : PyData}, Dp K H v d → Dp K (noT H) v d
  | _, _, .non => .non
  | _, _, .bl b => .bl b
  | _, _, .int i => .int i
  | _, _, .str x => .str x
  | _, _, .lst h r => .lst (by
      rcases h with (q | ⟨o, q⟩) | q
      · exact .inl (.inl (noT_at q (fun _ z => by cases z)))
      · exact .inl (.inr ⟨o, noT_at q (fun _ z => by cases z)⟩)
      · exact .inr q) (DpAll.noT r)
  | _, _, .tup h r => .tup (by
      rcases h with (q | ⟨o, q⟩) | q
      · exact .inl (.inl (noT_at q (fun _ z => by cases z)))
      · exact .inl (.inr ⟨o, noT_at q (fun _ z => by cases z)⟩)
      · exact .inr q) (DpAll.noT r)
theorem DpAll.noT {K : PySem.W.Frag} {H : Hp} : ∀ {vs : List V} {ds : List PyData}, DpAll K H vs ds → DpAll K (noT H) vs ds
  | _, _, .nil => .nil
  | _, _, .cons h r => .cons (Dp.noT h) (DpAll.noT r)
end
/-- all but tables stay -/
def Xt (H H' : Hp) : Prop := Same (noT H) H'
theorem Xt.of {H H' : Hp} (s : Same H H') : Xt H H' := fun b o h => s b o (noT_inv h).1
theorem Xt.ext {H H' : Hp} (e : ExtN H H') : Xt H H' := fun b o h => e b o (noT_inv h).1 (noT_inv h).2
theorem Xt.trans {H H1 H2 : Hp} (a : Xt H H1) (b : Xt H1 H2) : Xt H H2 := fun c o h => b c o (noT_at (a c o h) (noT_inv h).2)
theorem Xt.bt {p : Addr} {H H' : Hp} (x : Xt H H') : Bt p H H' := fun c o _ h => x c o h
theorem Any.xt {p : Addr} {H H' : Hp} {x : V} {d : PyData} (h : Any p H x d) (s : Xt H H') : Any p H' x d := h.noT.same s
theorem LoopAt.xt {C T : Addr} {H H' : Hp} {r : Addr} {L : LD} (h : LoopAt C T H r L) (s : Xt H H') : LoopAt C T H' r L := h.noT.same s
theorem PoolAt.xt {H H' : Hp} {p : Addr} (h : PoolAt H p) (s : Xt H H') : PoolAt H' p := h.noT.same s
theorem Dp.xt {K : PySem.W.Frag} {H H' : Hp} {v : V} {d : PyData} (h : Dp K H v d) (s : Xt H H') : Dp K H' v d := Dp.stay s (Dp.noT h)
end Wb
/-! o == v, o != v with a v of any type (out of k08's WbE) -/
namespace WbO
open PySem PySem.Spec PyProof.Rows L2
section
variable {X : Cx} {CX : CXT} {k : Nat} {C g : Addr} {fd : FuncData} {ps : List Str} {sp : Sp} {E : XK}
end
end WbO
/-! lists whose last items are compared by an own __eq__ -/
namespace PySem.SeqAt
open AutoSeq1 (wpAny_loadPart')
open MeetsSeq MeetsSeq2 MeetsSeq3
section
variable {prog : Program} {w : World} {items items2 : Array Value} {x1 x2 y1 y2 : Value}
/-- what lies at both lists -/
def Both2 (l b : Addr) (items items2 : Array Value) (n n2 : Nat) (dd dd2 : Option Addr) (sl sl2 : Array (Option Value)) (s : Shared) : Prop :=
  s.heap.get? l = some { cls := .type "list", dict := dd, data := .seq items n, slots := sl } ∧ s.heap.get? b = some { cls := .type "list", dict := dd2, data := .seq items2 n2, slots := sl2 }
/-- two lists of two -/
def Pair2 (l b : Addr) (s : Shared) : Prop := ∃ (items items2 : Array Value) (n n2 : Nat) (dd dd2 : Option Addr) (sl sl2 : Array (Option Value)), Both2 l b items items2 n n2 dd dd2 sl sl2 s ∧ items.size = 2 ∧ items2.size = 2
theorem ne_loop2 (hi : items = #[x1, x2]) (hi2 : items2 = #[y1, y2]) (l b : Addr) (n n2 : Nat) (dd dd2 : Option Addr) (sl sl2 : Array (Option Value)) :
    MeetsIn prog w (Builtin.«list.__eq__.loop» ⟨[.ref l, .ref b, rawInt 0, rawInt 3], []⟩)
      (fun A R s => Both2 l b items items2 n n2 dd dd2 sl sl2 s ∧ EqAt A.in1 s x1 y1 true ∧
        wpAny (model prog w) A.in1 (eqBool x2 y2) (fun c s' => c = true ∧ Pair2 l b s' ∧ R (.ok (.ret (.bool false))) s') (fun e s' => R (.error e) s') s) := by
  intro A R s h
  obtain ⟨hp, g, d, tk, os⟩ := s; obtain ⟨⟨hl, hb⟩, e1, e2⟩ := h
  have f0 : items[(0 : Int).toNat]? = some x1 := by rw [hi] <;> rfl
  have g0 : items2[(0 : Int).toNat]? = some y1 := by rw [hi2] <;> rfl
  have f1 : items[((0 : Int) + 1).toNat]? = some x2 := by rw [hi] <;> rfl
  have g1 : items2[((0 : Int) + 1).toNat]? = some y2 := by rw [hi2] <;> rfl
  clear hi hi2
  wp_walk using wpAny_loadPart' hl, wpAny_loadPart' hb
  rw [f0, g0]
  refine wpAny_bind (e1 prog w _ _ ?_)
  wp_walk
  refine ⟨plainId_quiet plain_eq_loop _, codeAny_builtin entry_eq_loop ?_⟩
  rw [Around.under_plainId plain_eq_loop _]
  wp_walk using wpAny_loadPart' hl, wpAny_loadPart' hb
  rw [f1, g1]
  refine wpAny_bind (wpAny_mono e2 (fun c s' z => ?_) fun _ _ e => e)
  obtain ⟨rfl, ⟨its, its2, m, m2, ee, ee2, sm, sm2, ⟨hl', hb'⟩, sz1, sz2⟩, q⟩ := z
  have f2 : its[((0 : Int) + 1 + 1).toNat]? = none := Array.getElem?_eq_none (by rw [sz1]; decide)
  have g2 : its2[((0 : Int) + 1 + 1).toNat]? = none := Array.getElem?_eq_none (by rw [sz2]; decide)
  obtain ⟨hp', g', d', tk', os'⟩ := s'
  wp_walk
  refine ⟨plainId_quiet plain_eq_loop _, codeAny_builtin entry_eq_loop ?_⟩
  rw [Around.under_plainId plain_eq_loop _]
  wp_walk using wpAny_loadPart' hl', wpAny_loadPart' hb'
  rw [f2, g2]
  wp_walk using wpAny_loadPart' hl', wpAny_loadPart' hb'
  show R (.ok (.ret (.bool (its.size != its2.size)))) _
  rw [sz1, sz2]
  exact q
theorem eq_loop2 (hi : items = #[x1, x2]) (hi2 : items2 = #[y1, y2]) (l b : Addr) (n n2 : Nat) (dd dd2 : Option Addr) (sl sl2 : Array (Option Value)) :
    MeetsIn prog w (Builtin.«list.__eq__.loop» ⟨[.ref l, .ref b, rawInt 0, rawInt 2], []⟩)
      (fun A R s => Both2 l b items items2 n n2 dd dd2 sl sl2 s ∧ EqAt A.in1 s x1 y1 true ∧
        wpAny (model prog w) A.in1 (eqBool x2 y2) (fun c s' => c = true ∧ Pair2 l b s' ∧ R (.ok (.ret (.bool true))) s') (fun e s' => R (.error e) s') s) := by
  intro A R s h
  obtain ⟨hp, g, d, tk, os⟩ := s; obtain ⟨⟨hl, hb⟩, e1, e2⟩ := h
  have f0 : items[(0 : Int).toNat]? = some x1 := by rw [hi] <;> rfl
  have g0 : items2[(0 : Int).toNat]? = some y1 := by rw [hi2] <;> rfl
  have f1 : items[((0 : Int) + 1).toNat]? = some x2 := by rw [hi] <;> rfl
  have g1 : items2[((0 : Int) + 1).toNat]? = some y2 := by rw [hi2] <;> rfl
  clear hi hi2
  wp_walk using wpAny_loadPart' hl, wpAny_loadPart' hb
  rw [f0, g0]
  refine wpAny_bind (e1 prog w _ _ ?_)
  wp_walk
  refine ⟨plainId_quiet plain_eq_loop _, codeAny_builtin entry_eq_loop ?_⟩
  rw [Around.under_plainId plain_eq_loop _]
  wp_walk using wpAny_loadPart' hl, wpAny_loadPart' hb
  rw [f1, g1]
  refine wpAny_bind (wpAny_mono e2 (fun c s' z => ?_) fun _ _ e => e)
  obtain ⟨rfl, ⟨its, its2, m, m2, ee, ee2, sm, sm2, ⟨hl', hb'⟩, sz1, sz2⟩, q⟩ := z
  have f2 : its[((0 : Int) + 1 + 1).toNat]? = none := Array.getElem?_eq_none (by rw [sz1]; decide)
  have g2 : its2[((0 : Int) + 1 + 1).toNat]? = none := Array.getElem?_eq_none (by rw [sz2]; decide)
  obtain ⟨hp', g', d', tk', os'⟩ := s'
  wp_walk
  refine ⟨plainId_quiet plain_eq_loop _, codeAny_builtin entry_eq_loop ?_⟩
  rw [Around.under_plainId plain_eq_loop _]
  wp_walk using wpAny_loadPart' hl', wpAny_loadPart' hb'
  rw [f2, g2]
  wp_walk using wpAny_loadPart' hl', wpAny_loadPart' hb'
  show R (.ok (.ret (.bool (its.size == its2.size)))) _
  rw [sz1, sz2]
  exact q
theorem list_ne2 (hi : items = #[x1, x2]) (hi2 : items2 = #[y1, y2]) (l b : Addr) (n n2 : Nat) (dd dd2 : Option Addr) (sl sl2 : Array (Option Value)) :
    MeetsIn prog w (Builtin.«list.__ne__» ⟨[.ref l, .ref b], []⟩)
      (fun A R s => Both2 l b items items2 n n2 dd dd2 sl sl2 s ∧ EqAt A.in1 s x1 y1 true ∧
        wpAny (model prog w) A.in1 (eqBool x2 y2) (fun c s' => c = true ∧ Pair2 l b s' ∧ R (.ok (.ret (.bool false))) s') (fun e s' => R (.error e) s') s) := by
  intro A R s h
  obtain ⟨hp, g, d, tk, os⟩ := s; obtain ⟨⟨hl, hb⟩, e1, e2⟩ := h
  have f3 := AutoSeq1.sub_list_list
  have hne : ¬ (items.size != items2.size) = true := by rw [hi, hi2]; show ¬ ((2 != 2) = true); decide
  wp_walk using wpAny_loadPart' hl, wpAny_loadPart' hb
  exact ⟨plainId_quiet plain_eq_loop _, codeAny_builtin entry_eq_loop (by
    rw [Around.under_plainId plain_eq_loop _]
    exact ne_loop2 hi hi2 l b n n2 dd dd2 sl sl2 A R _ ⟨⟨hl, hb⟩, e1, e2⟩)⟩
theorem list_eq2 (hi : items = #[x1, x2]) (hi2 : items2 = #[y1, y2]) (l b : Addr) (n n2 : Nat) (dd dd2 : Option Addr) (sl sl2 : Array (Option Value)) :
    MeetsIn prog w (Builtin.«list.__eq__» ⟨[.ref l, .ref b], []⟩)
      (fun A R s => Both2 l b items items2 n n2 dd dd2 sl sl2 s ∧ EqAt A.in1 s x1 y1 true ∧
        wpAny (model prog w) A.in1 (eqBool x2 y2) (fun c s' => c = true ∧ Pair2 l b s' ∧ R (.ok (.ret (.bool true))) s') (fun e s' => R (.error e) s') s) := by
  intro A R s h
  obtain ⟨hp, g, d, tk, os⟩ := s; obtain ⟨⟨hl, hb⟩, e1, e2⟩ := h
  have f3 := AutoSeq1.sub_list_list
  have hne : ¬ (items.size != items2.size) = true := by rw [hi, hi2]; show ¬ ((2 != 2) = true); decide
  wp_walk using wpAny_loadPart' hl, wpAny_loadPart' hb
  exact ⟨plainId_quiet plain_eq_loop _, codeAny_builtin entry_eq_loop (by
    rw [Around.under_plainId plain_eq_loop _]
    exact eq_loop2 hi hi2 l b n n2 dd dd2 sl sl2 A R _ ⟨⟨hl, hb⟩, e1, e2⟩)⟩
variable {A : Around} {E : Value → Shared → Prop} {s : Shared} {Q : Value → Shared → Prop}
theorem rc_ne2 {l b : Addr} (hl : s.heap.IsList l #[x1, x2]) (hb : s.heap.IsList b #[y1, y2]) (hu : A.units < cLine) (e1 : EqAt A.in1 s x1 y1 true)
    (e2 : wpAny (model prog w) A.in1 (eqBool x2 y2) (fun c s' => c = true ∧ Pair2 l b s' ∧ Q (.bool false) s') E s) : wpAny (model prog w) A (richCompare .NotEq (.ref l) (.ref b)) Q E s := by
  obtain ⟨⟨cls, dd, data, sl⟩, ho, hc, n, hd⟩ := id hl
  obtain ⟨⟨cls2, dd2, data2, sl2⟩, ho2, hc2, n2, hd2⟩ := id hb
  simp only at hc hd hc2 hd2
  subst hc hd hc2 hd2
  exact wpAny_richCompare_same_room (op := .NotEq) ⟨_, ho, rfl⟩ ⟨_, ho2, rfl⟩ F.slot_list_ne (call_meetsIn F.slot_list_ne ⟨_, ho, rfl⟩ F.entry_list_ne (F.args_list_ne_2 _ _) (list_ne2 rfl rfl l b n n2 dd dd2 sl sl2)
    ⟨⟨ho, ho2⟩, e1, wpAny_mono e2 (fun c s' z => ⟨z.1, z.2.1, show Value.bool false ≠ Value.notImplemented ∧ Q (.bool false) s' from ⟨(fun x => nomatch x), z.2.2⟩⟩) fun _ _ e => e⟩) hu
theorem rc_eq2 {l b : Addr} (hl : s.heap.IsList l #[x1, x2]) (hb : s.heap.IsList b #[y1, y2]) (hu : A.units < cLine) (e1 : EqAt A.in1 s x1 y1 true)
    (e2 : wpAny (model prog w) A.in1 (eqBool x2 y2) (fun c s' => c = true ∧ Pair2 l b s' ∧ Q (.bool true) s') E s) : wpAny (model prog w) A (richCompare .Eq (.ref l) (.ref b)) Q E s := by
  obtain ⟨⟨cls, dd, data, sl⟩, ho, hc, n, hd⟩ := id hl
  obtain ⟨⟨cls2, dd2, data2, sl2⟩, ho2, hc2, n2, hd2⟩ := id hb
  simp only at hc hd hc2 hd2
  subst hc hd hc2 hd2
  exact wpAny_richCompare_same_room (op := .Eq) ⟨_, ho, rfl⟩ ⟨_, ho2, rfl⟩ F.slot_list_eq (call_meetsIn F.slot_list_eq ⟨_, ho, rfl⟩ F.entry_list_eq (F.args_list_eq_2 _ _) (list_eq2 rfl rfl l b n n2 dd dd2 sl sl2)
    ⟨⟨ho, ho2⟩, e1, wpAny_mono e2 (fun c s' z => ⟨z.1, z.2.1, show Value.bool true ≠ Value.notImplemented ∧ Q (.bool true) s' from ⟨(fun x => nomatch x), z.2.2⟩⟩) fun _ _ e => e⟩) hu
/-- two things that are not the same one -/
theorem eqb_refs {l b : Addr} {Q : Bool → Shared → Prop} (hne : l ≠ b) (h : wpAny (model prog w) A (richCompare .Eq (.ref l) (.ref b)) (fun v s' => ∃ c, v = .bool c ∧ Q c s') E s) : wpAny (model prog w) A (eqBool (.ref l) (.ref b)) Q E s := by
  unfold eqBool
  refine wpAny_holding ?_
  refine wpAny_ite_split (fun hab => absurd (by have := eq_of_beq hab; injection this) hne) (fun _ => ?_)
  refine wpAny_bind (wpAny_mono h (fun v s' z => ?_) fun _ _ e => e)
  obtain ⟨c, rfl, q⟩ := z
  exact wpAny_truthy_bool q
end
end PySem.SeqAt
namespace Wb
open PySem L2 WbO
section
variable {X : Cx} {CX : CXT} {k : Nat} {C g : Addr} {fd : FuncData} {ps : List Str} {sp : Sp} {E : XK}
/-- ["w", ["plain", o]] != ["w", ["plain", p]]: o == p by o's own __eq__ -/
def rNeI (C : Addr) (sp : Sp) (E : XK) : R2 := fun x y H Q => ∃ (a b a2 b2 r1 r2 d1 d2 : Addr) (fs gs : List (Str × V)) (wd pl : Str), x = .ref a ∧ y = .ref b ∧ H a = some (.lst [.str wd, .ref a2]) ∧ H b = some (.lst [.str wd, .ref b2]) ∧ H a2 = some (.lst [.str pl, .ref r1]) ∧ H b2 = some (.lst [.str pl, .ref r2]) ∧
  H r1 = some (.ins C d1 fs) ∧ H r2 = some (.ins C d2 gs) ∧ a2 ≠ b2 ∧ r1 ≠ r2 ∧ sp [.ref r1, .ref r2] H (fun v H' => v = .bl true ∧ Same H H' ∧ Q (.bl false) H') E
theorem pair_of {pins : List (Addr × Obj)} {σ : L2.St} {H : Hp} {s : Shared} {a b : Addr} {x1 x2 y1 y2 : V} (I : Inv X pins σ H s) (h1 : H a = some (.lst [x1, x2])) (h2 : H b = some (.lst [y1, y2])) : SeqAt.Pair2 a b s := by
  obtain ⟨i1, r1, ⟨o1, n1, p1, c1, q1, e1⟩, _⟩ := I.list (SqL.of h1)
  obtain ⟨i2, r2, ⟨o2, n2, p2, c2, q2, e2⟩, _⟩ := I.list (SqL.of h2)
  obtain ⟨_, _, rfl, _⟩ := two_vals r1
  obtain ⟨_, _, rfl, _⟩ := two_vals r2
  obtain ⟨cl1, dd1, da1, sl1⟩ := o1
  obtain ⟨cl2, dd2, da2, sl2⟩ := o2
  simp only at c1 c2 e1 e2
  subst c1 c2 e1 e2
  exact ⟨_, _, _, _, _, _, _, _, ⟨p1, p2⟩, rfl, rfl⟩
theorem op_neI (hs : PySem.W.findIn X.K (.ref C) "__eq__" = some (some (.ref g))) (hf : PySem.W.isFn X.K (.ref g) = true) (nf : PySem.W.notFirst X.K C (.ref C) = true) (F : FnOk X.prog X.w X.K X.mg X.base CX k g fd ps sp) (hr : Room (k + 2) X.A) (hb : Binds X.K fd ps []) (hx : Passes CX X.nox E) : OpR X (compareOp .NotEq) (rNeI C sp E) := by
  intro pins s σ H x y v u Q I rx ry h
  obtain ⟨a, b, a2, b2, q1, q2, dd1, dd2, fs, gs, wd, pl, rfl, rfl, h1, h2, h3, h4, h5, h6, n1, n2, q⟩ := h
  cases rx
  cases ry
  obtain ⟨i1, r1, p1, _⟩ := I.list (SqL.of h1)
  obtain ⟨i2, r2, p2, _⟩ := I.list (SqL.of h2)
  obtain ⟨i3, r3, p3, _⟩ := I.list (SqL.of h3)
  obtain ⟨i4, r4, p4, _⟩ := I.list (SqL.of h4)
  obtain ⟨_, _, rfl, ⟨t1, rfl⟩, e1⟩ := two_vals r1
  obtain ⟨_, _, rfl, ⟨t2, rfl⟩, e2⟩ := two_vals r2
  obtain ⟨_, _, rfl, ⟨t3, rfl⟩, e3⟩ := two_vals r3
  obtain ⟨_, _, rfl, ⟨t4, rfl⟩, e4⟩ := two_vals r4
  cases e1
  cases e2
  cases e3
  cases e4
  obtain ⟨mA, O, _⟩ := ins_get I.hok h5
  obtain ⟨od, J, _⟩ := O.look
  obtain ⟨mB, O', _⟩ := ins_get I.hok h6
  obtain ⟨od', J', _⟩ := O'.look
  obtain ⟨m, hF⟩ := I.fr
  have un := hr.un
  have u1 : X.A.in1.units < cLine := by
    show X.A.units + 1 < cLine
    omega
  have u2 : X.A.in1.in1.units < cLine := by
    show X.A.units + 1 + 1 < cLine
    omega
  refine SeqAt.rc_ne2 (x1 := .str wd t1) (x2 := .ref a2) (y1 := .str wd t2) (y2 := .ref b2) p1.isList p2.isList (by omega) (eq_word wd t1 t2) (SeqAt.eqb_refs n1 ?_)
  refine SeqAt.rc_eq2 (x1 := .str pl t3) (x2 := .ref q1) (y1 := .str pl t4) (y2 := .ref q2) p3.isList p4.isList u1 (eq_word pl t3 t4) (SeqAt.eqb_refs n2 ?_)
  refine PySem.W.cmp_K (op := .Eq) (tb := .ref C) u2 hF I.ok.mod.kin J J'.type nf hs hf (wpAny_mono (run_at (vs := [.ref q1, .ref q2]) (us := [.ref q1, .ref q2]) F hr.in1.in1 I.env0.in1.in1 hb hx I (.cons rfl (.cons rfl .nil)) q) (fun z s' w => ?_) fun _ _ e => e)
  obtain ⟨z', H', I', rz, rfl, sm, qz⟩ := w
  cases (show z = Value.bool true from rz)
  refine SlX.cmpback (z := .bl true) (v := .bool true) rfl ⟨true, rfl, rfl, pair_of I' (sm _ _ h3) (sm _ _ h4), true, rfl, rfl, pair_of I' (sm _ _ h1) (sm _ _ h2), .bl false, H', I', rfl, qz⟩
end
end Wb
set_option maxHeartbeats 1000000
/-! o op p by o's own method, p of another own class that knows nothing of the operator -/
namespace PySem.W
open PySem Sem PySem.Calls PyProof.Rows Builtin
/-- a class of one's own that stands right under object -/
def mroTwo (K : Frag) (C : Addr) : Bool := match clsIn K C with
  | some cd => match cd.mro with
    | [.ref c, .type t] => c == C && t == "object"
    | _ => false
  | none => false
theorem mro_two {K : Frag} {C : Addr} (h : mroTwo K C = true) : ∃ cd, clsIn K C = some cd ∧ cd.mro = [.ref C, .type "object"] := by
  unfold mroTwo at h
  split at h
  · rename_i cd e
    split at h
    · rename_i c t e2
      rw [Bool.and_eq_true] at h
      obtain ⟨e3, e4⟩ := h
      have e3 := beq_iff_eq.mp e3
      have e4 := beq_iff_eq.mp e4
      subst e3 e4
      exact ⟨cd, e, e2⟩
    · cases h
  · cases h
section
variable {prog : Program} {w : World} {A : Around} {E : Value → Shared → Prop} {s : Shared} {K : Frag} {base : Heap} {L a : Addr} {m : Str → Option Value} {oa : Obj} {C D f : Addr} {od : Option Obj}
theorem fills_not {M : Model} {h : Heap} {nm : String} (X : K.In h) (two : mroTwo K D = true) (n1 : findIn K (.ref D) (PySem.dunder nm) = some none) (n2 : findIn K (.ref D) (dunderR nm) = some none)
    (n3 : findIn K (.type "object") (PySem.dunder nm) = some none) (n4 : findIn K (.type "object") (dunderR nm) = some none) : Looks M h (fillsNumberSlot (.ref D) nm) false := by
  intro A Q E s k q
  obtain ⟨cd, inC, mro⟩ := mro_two two
  unfold fillsNumberSlot
  refine wpAny_bind ((looks_clsIn X inC).andThen (f := fun cd : ClassData => Pure.pure cd.mro) .now A _ E s k ?_)
  rw [mro, List.anyM_cons]
  refine wpAny_bind ?_
  show wpAny M A (List.anyM _ [PySem.dunder nm, dunderR nm]) _ _ _
  rw [List.anyM_cons]
  refine wpAny_bind (wpAny_bind (looks_findIn X n1 A _ E s k ?_))
  refine wpAny_pure ?_
  rw [if_neg Bool.false_ne_true, List.anyM_cons]
  refine wpAny_bind (wpAny_bind (looks_findIn X n2 A _ E s k ?_))
  refine wpAny_pure ?_
  rw [if_neg Bool.false_ne_true, List.anyM_nil]
  refine wpAny_pure ?_
  rw [if_neg Bool.false_ne_true, List.anyM_cons]
  refine wpAny_bind (wpAny_bind (looks_findIn X n3 A _ E s k ?_))
  refine wpAny_bind (looks_findIn X n4 A _ E s k ?_)
  refine wpAny_pure ?_
  show wpAny M A (if (false || false) = true then _ else _) _ _ _
  rw [if_neg (by decide), List.anyM_nil]
  exact wpAny_pure q
theorem left_alone {op : Operator} {y : Value} {Q : Value → Shared → Prop} (fr : Fr base L s.heap m) (kin : K.In base) (inst : InstAt s.heap a oa C od) (ty : Looks (model prog w) s.heap (typeOf y) (.ref D)) (first_ : selfFirst K C = true)
    (own : findIn K (.ref C) (PySem.dunder op.info.2) = some (some (.ref f))) (fn : isFn K (.ref f) = true) (ne : C ≠ D) (two : mroTwo K D = true) (n1 : findIn K (.ref D) (PySem.dunder op.info.2) = some none) (n2 : findIn K (.ref D) (dunderR op.info.2) = some none)
    (n3 : findIn K (.type "object") (PySem.dunder op.info.2) = some none) (n4 : findIn K (.type "object") (dunderR op.info.2) = some none)
    (run : wpAny (model prog w) A (call (.ref f) [.ref a, y]) (CmpBack Q) E s) : wpAny (model prog w) A (binaryOp op (.ref a) y) Q E s := by
  have X := kin.keeps fr.keep
  obtain ⟨cd, rest, inCls, mro⟩ := ksp_first first_
  obtain ⟨sym, nm, ei⟩ : ∃ sym nm, op.info = (sym, nm) := ⟨op.info.1, op.info.2, rfl⟩
  rw [ei] at own n1 n2 n3 n4
  dsimp only at own n1 n2 n3 n4
  have tried := ksp_try X inst own fn run
  have l4 : Looks (model prog w) s.heap (fillsNumberSlot (.ref D) nm) false := fills_not X two n1 n2 n3 n4
  obtain ⟨hp, gs, dr, tk, os⟩ := s
  have l1 : Looks (model prog w) hp (typeOf (.ref a)) (.ref C) := inst.type
  have l2 : Looks (model prog w) hp (typeOf y) (.ref D) := ty
  have l3 : Looks (model prog w) hp (fillsNumberSlot (.ref C) nm) true := fills_K X inCls mro own
  have l4 : Looks (model prog w) hp (fillsNumberSlot (.ref D) nm) false := l4
  have unlike : (Value.ref C == Value.ref D) = false := Bool.eq_false_iff.mpr fun q => by
    have e := beq_iff_eq.mp q
    injection e with e
    exact ne e
  simp only [binaryOp, ei]
  refine wpAny_holding (wpAny_bind ?_)
  unfold binaryOp1
  refine wpAny_bind (l1.at (wpAny_bind (l2.at (wpAny_bind (l3.at ?_)))))
  simp only [unlike, Bool.false_eq_true, if_false]
  ksp_lk
  refine wpAny_mono tried (fun r s' back => ?_) fun _ _ e => e
  obtain ⟨v, rfl, q⟩ := back
  ksp_lk
  exact q
end
end PySem.W
namespace Le
open PySem PySem.Spec PyProof.Rows L2
/-- what an own class says of an operator: nothing -/
structure OpN (K : PySem.W.Frag) (C D : Addr) (nm : String) : Prop where
  ne : C ≠ D
  two : PySem.W.mroTwo K D = true
  n1 : PySem.W.findIn K (.ref D) (PySem.dunder nm) = some none
  n2 : PySem.W.findIn K (.ref D) (PySem.dunderR nm) = some none
  n3 : PySem.W.findIn K (.type "object") (PySem.dunder nm) = some none
  n4 : PySem.W.findIn K (.type "object") (PySem.dunderR nm) = some none
section
variable {X : Cx} {CX : CXT} {k : Nat} {C g : Addr} {fd : FuncData} {ps : List Str} {sp : Sp} {E : XK} {op : Operator}
/-- o op y: y of o's class, of another own one, or of a built-in type -/
def rOpW (K : PySem.W.Frag) (C : Addr) (nm : String) (sp : Sp) (E : XK) : R2 := fun x y H Q => ∃ (a dx : Addr) (fs : List (Str × V)), x = .ref a ∧ H a = some (.ins C dx fs) ∧
  ((∃ t : String, TyX K H y (.type t) ∧ OpT K C nm t) ∨ (∃ (b dy : Addr) (gs : List (Str × V)), y = .ref b ∧ H b = some (.ins C dy gs)) ∨ ∃ (D b dy : Addr) (gs : List (Str × V)), y = .ref b ∧ H b = some (.ins D dy gs) ∧ OpN K C D nm) ∧ sp [.ref a, y] H Q E
theorem op_W (sf : PySem.W.selfFirst X.K C = true) (own : PySem.W.findIn X.K (.ref C) (PySem.dunder op.info.2) = some (some (.ref g))) (fn : PySem.W.isFn X.K (.ref g) = true) {rc : Option Value} (rev : PySem.W.findIn X.K (.ref C) (PySem.dunderR op.info.2) = some rc) (py : rc = none ∨ ∃ g : Addr, rc = some (.ref g))
    (F : FnOk X.prog X.w X.K X.mg X.base CX k g fd ps sp) (hr : Room k X.A) (hb : Binds X.K fd ps []) (hx : Passes CX X E) : OpR X (binaryOp op) (rOpW X.K C op.info.2 sp E) := by
  intro pins s σ H x y v u Q I rx ry h
  obtain ⟨a, dx, fs, rfl, ha, way, q⟩ := h
  rcases way with ⟨t, ty, T⟩ | ⟨b, dy, gs, rfl, hb2⟩ | ⟨D, b, dy, gs, rfl, hb2, N⟩
  · exact op_U sf own fn rev py F hr hb hx pins s σ H _ y v u Q I rx ry ⟨a, dx, fs, t, rfl, ha, ty, T, q⟩
  all_goals
    cases (show v = Value.ref a from rx)
    cases (show u = Value.ref b from ry)
    obtain ⟨mA, O, _⟩ := ins_get I.hok ha
    obtain ⟨od, J, _⟩ := O.look
    obtain ⟨mB, O', _⟩ := ins_get I.hok hb2
    obtain ⟨od', J', _⟩ := O'.look
    obtain ⟨m, hF⟩ := I.fr
    have run : wpAny (model X.prog X.w) X.A (call (.ref g) [.ref a, .ref b]) (PySem.W.CmpBack (EP X pins σ Q)) X.xe s := by
      have len : ([Value.ref a, Value.ref b] ++ ([] : List Value)).length = ps.length := by
        rw [← F.len _ _ _ _ q]
        rfl
      have bound := hb s [.ref a, .ref b] I.kIn len
      rw [List.append_nil] at bound
      refine wpAny_call (codeAny_mono (F.run X.A X.stack s H ⟨[.ref a, .ref b], []⟩ [.ref a, .ref b] [.ref a, .ref b] Q E hr I.env0 bound (.cons rfl (.cons rfl .nil)) q) fun res s' done => ?_)
      cases res with
      | error e => exact hx pins σ H s e s' I done
      | ok fl =>
        cases fl with
        | ret z =>
          obtain ⟨z', H', I', rz, qz⟩ := I.after done
          exact SlX.cmpback rz ⟨z', H', I', rz, qz⟩
        | next => exact False.elim done
        | brk => exact False.elim done
        | cont => exact False.elim done
  · exact PySem.W.binop_K (op := op) hF I.ok.mod.kin J J'.type sf own fn run
  · exact PySem.W.left_alone hF I.ok.mod.kin J J'.type sf own fn N.ne N.two N.n1 N.n2 N.n3 N.n4 run
end
end Le
/-! a sum is asked, and what is due of it -/
namespace Wb
open PySem L2 WbMin WbS Lz WbO Le LamX
theorem MdAt.xt {H H' : Hp} {q : Addr} {L : LD} (h : MdAt H q L) (s : Xt H H') : MdAt H' q L := MdAt.same s h.noT
theorem mk_ok {d : PyData} {wd : Str} (hw : PyData.strOk wd = true) (h1 : d.canLay0 = true) (h2 : PyData.depth d ≤ 62) : (PyData.list [.str wd, d]).canLay0 = true ∧ PyData.depth (PyData.list [.str wd, d]) ≤ 64 := by
  refine ⟨?_, ?_⟩
  · show (PyData.strOk wd && (d.canLay0 && true)) = true
    rw [hw, h1] <;> rfl
  · show max 0 (max (PyData.depth d) 0) + 1 ≤ 64
    omega
/-- two loops and their models -/
structure TwoQ (C Tt : Addr) (r q qa qb : Addr) (A B : LD) (sa sb : List Nat) (T : List (Addr × Str)) (H : Hp) : Prop where
  LA : LoopAt C Tt H r A
  LB : LoopAt C Tt H q B
  MA : MdAt H qa (A.srt sa)
  MB : MdAt H qb (B.srt sb)
  tb : Tabs T H
structure TwoK (A B : LD) (sa sb : List Nat) : Prop where
  OA : A.Ok
  OB : B.Ok
  srA : srtd A.sg
  srB : srtd B.sg
  pa : sa.Perm A.sg
  pb : sb.Perm B.sg
  nine : B.sg = A.sg → (allF A B).length ≤ 9
section
variable {C Tt : Addr} {r q qa qb : Addr} {A B : LD} {sa sb : List Nat} {T : List (Addr × Str)} {H H' : Hp}
theorem TwoQ.xt (h : TwoQ C Tt r q qa qb A B sa sb T H) (x : Xt H H') (tb : Tabs T H') : TwoQ C Tt r q qa qb A B sa sb T H' := ⟨h.LA.xt x, h.LB.xt x, h.MA.xt x, h.MB.xt x, tb⟩
theorem TwoQ.same (h : TwoQ C Tt r q qa qb A B sa sb T H) (s : Same H H') : TwoQ C Tt r q qa qb A B sa sb T H' := h.xt (Xt.of s) (Tabs.ext h.tb s)
theorem TwoQ.swap (h : TwoQ C Tt r q qa qb A B sa sb T H) : TwoQ C Tt q r qb qa B A sb sa T H := ⟨h.LB, h.LA, h.MB, h.MA, h.tb⟩
end
theorem allF_few {A B : LD} (OA : A.Ok) (OB : B.Ok) (eg : B.sg = A.sg) : (allF A B).length ≤ A.n * B.n := by
  have AP := allF_all OA OB eg
  exact pairs_few AP.nd AP.lt
theorem rch_same {A : LD} {x : Nat × Nat} (h : Rch A A x) : x.1 = x.2 := by
  induction h with
  | z => rfl
  | nx _ _ ih => exact congrArg (fun i => A.nx i _) ih
  | tn _ ih => exact congrArg A.tn ih
theorem allF_same {A : LD} (OA : A.Ok) : (allF A A).length ≤ 6 := by
  have f : Fnd A A (allF A A) 36 := by
    unfold allF
    exact fndP_known 36
  have nd : ((allF A A).map Prod.fst).Nodup := List.pairwise_map.mpr (List.Pairwise.imp_of_mem (fun {a b} ha hb ne e => ne (Prod.ext e ((rch_same (f.rch a ha)).symm.trans (e.trans (rch_same (f.rch b hb)))))) f.nd)
  have := few_of_sub (List.range A.n) ((allF A A).map Prod.fst) nd fun i hi => by
    obtain ⟨x, hx, rfl⟩ := List.mem_map.mp hi
    exact List.mem_range.mpr ((f.rch x hx).lt OA OA rfl).1
  rw [List.length_map, List.length_range] at this
  exact Nat.le_trans this OA.sts.few
/-- the reading of heard(lambda: x + y) != due(..) -/
def rNeQ (K : PySem.W.Frag) (C Tt : Addr) : R2 := fun x y H R => rNeD K x y H R ∨ rNeI C (spLoEq C Tt) E0 x y H R
theorem sum_ask {K : PySem.W.Frag} {C Tt : Addr} {Er : SerA} {cN : Addr} {A B : LD} {r q qa qb : Addr} {sa sb : List Nat} {f : Int} {nm : String} {σ : L2.St} {H : Hp} {i j m1 m2 : Nat} {T : List (Addr × Str)} {R : VK} {tf : TE}
    (hi : σ[i]? = some (some (.ref r))) (hj : σ[j]? = some (some (.ref q))) (hm1 : σ[m1]? = some (some (.ref qa))) (hm2 : σ[m2]? = some (some (.ref qb))) (way : f = 1 ∨ f = -1) (htf : ∀ (Q : VK) (G : Hp), Q (.int f) G → tf σ G Q)
    (k0 : TwoK A B sa sb) (D : TwoQ C Tt r q qa qb A B sa sb T H) (k : ∀ H', Xt H H' → Tabs T H' → R (.bl false) H') :
    tLam T (TTQ K C Tt Er.cL Er.cO cN Er.cM) (fun E2 => tOp (rOpW K C nm (spTwoX K C Tt Er f) E2) (tVar i) (tVar j)) σ H (fun x H1 => tCall (spDueQ K C Tt) [] E0 (tCons (tVar m1) (tCons (tVar m2) (tCons tf (tCons (tC (.bl (decide (f = 1)))) tNil)))) σ H1 (fun y H2 => rNeQ K C Tt x y H2 R)) := by
  refine ⟨D.tb, fun H1 x1 tb1 => ?_⟩
  obtain ⟨OA, OB, srA, srB, pa, pb, nine⟩ := k0
  have D1 := D.xt (Xt.ext x1) tb1
  obtain ⟨dx, _, _, _, _, _, _, _, hR, _⟩ := id D1.LA
  obtain ⟨dq, _, _, _, _, _, _, _, hQ, _⟩ := id D1.LB
  by_cases eg : B.sg = A.sg
  case neg =>
    refine .inr (.inr ⟨Er.cO, "signs", "given", q, B, .inr (.inl ⟨rfl, rfl, rfl⟩), D1.LB, fun E R' fails => ⟨_, hi, _, hj, r, dx, _, rfl, hR, .inr (.inl ⟨q, dq, _, rfl, hQ⟩), r, A, .ref q, rfl, D1.LA, OA, srA, .inl ⟨q, B, rfl, D1.LB, OB, nine, (fun e => absurd e eg), (fun e => absurd e eg), fun _ => fails⟩⟩, fun a g H2 ng s2 h1 h2 => ?_⟩)
    have D2 := D1.same s2
    refine ⟨_, hm1, _, hm2, htf _ _ ⟨qa, qb, A, B, sa, sb, f, rfl, way, OA, OB, srA, srB, pa, pb, nine, D2.MA, D2.MB, fun _ r2 a2 g2 H3 nr2 ng2 s3 LB3 h3 h4 => .inr ?_, (fun e => absurd e eg), (fun e => absurd e eg)⟩⟩
    have LB2 := D2.LB.same s3
    obtain ⟨d1, _, _, _, _, _, _, _, hB1, _⟩ := id LB2
    obtain ⟨d2, _, _, _, _, _, _, _, hB2, _⟩ := id LB3
    obtain ⟨_, _, _, _, _, _, _, _, hB0, _⟩ := id D2.LB
    exact ⟨a, a2, g, g2, q, r2, d1, d2, _, _, _, _, rfl, rfl, s3 _ _ h1, h3, s3 _ _ h2, h4, hB1, hB2, ne_of_none h2 ng2, ne_of_none hB0 nr2, q, r2, B, rfl, LB2, LB3, OB, fun H4 s4 => ⟨rfl, s4, k H4 ((Xt.ext x1).trans (Xt.of (s2.trans (s3.trans s4)))) (Tabs.ext tb1 (s2.trans (s3.trans s4)))⟩⟩
  have AP := allF_all OA OB eg
  by_cases six : (allF A B).length ≤ 6
  case neg =>
    refine .inr (.inl ⟨Er.cM, "many", "limit", .int 6, plainD (.int 6), .inr (.inr (.inr ⟨rfl, rfl, rfl⟩)), .inl (.int 6), fun E R' fails => ⟨_, hi, _, hj, r, dx, _, rfl, hR, .inr (.inl ⟨q, dq, _, rfl, hQ⟩), r, A, .ref q, rfl, D1.LA, OA, srA, .inl ⟨q, B, rfl, D1.LB, OB, nine, (fun _ _ e => absurd e six), (fun _ _ => fails), (fun e => absurd eg e)⟩⟩, fun a H2 na s2 dp => ?_⟩)
    have D2 := D1.same s2
    refine ⟨_, hm1, _, hm2, htf _ _ ⟨qa, qb, A, B, sa, sb, f, rfl, way, OA, OB, srA, srB, pa, pb, nine, D2.MA, D2.MB, (fun e => absurd eg e), (fun _ _ e => absurd e six), fun _ _ a2 H3 na2 s3 dp3 => .inl ?_⟩⟩
    exact heard_due (Dp.stay s3 (Dp.stay New.sub dp)) (Dp.stay New.sub dp3) (mk_ok (by decide +kernel) (by decide +kernel) (by decide +kernel)) (k H3 ((Xt.ext x1).trans (Xt.of (s2.trans s3))) (Tabs.ext tb1 (s2.trans s3)))
  have OM : (A.sum B f (allF A B)).Ok := OA.sum (AP.goes six)
  refine .inl ⟨A.sum B f (allF A B), OM, fun E R' good => ⟨_, hi, _, hj, r, dx, _, rfl, hR, .inr (.inl ⟨q, dq, _, rfl, hQ⟩), r, A, .ref q, rfl, D1.LA, OA, srA, .inl ⟨q, B, rfl, D1.LB, OB, nine, (fun _ _ _ y H' _ s' L' => good y H' s' L'), (fun _ e => absurd six (Nat.not_le.mpr e)), (fun e => absurd eg e)⟩⟩, fun a H2 na s2 dp => ?_⟩
  have D2 := D1.same s2
  refine ⟨_, hm1, _, hm2, htf _ _ ⟨qa, qb, A, B, sa, sb, f, rfl, way, OA, OB, srA, srB, pa, pb, nine, D2.MA, D2.MB, (fun e => absurd eg e), (fun _ _ _ a2 H3 na2 s3 dp3 => .inl ?_), (fun _ e => absurd six (Nat.not_le.mpr e))⟩⟩
  exact heard_due (Dp.stay s3 (Dp.stay New.sub dp)) (Dp.stay New.sub dp3) (mk_ok (by decide +kernel) (loopF_lay OM) (Nat.le_trans (loopF_depth _) (by decide))) (k H3 ((Xt.ext x1).trans (Xt.of (s2.trans s3))) (Tabs.ext tb1 (s2.trans s3)))
end Wb
/-! things of any kind shuffled: a text, a tuple, a list -/
namespace WbT
open PySem PySem.Spec PyProof.Rows L2
section
variable {X : Cx}
theorem vals_signs : ∀ (l : List Nat) (us : List Value), us.length = l.length → (∀ (j : Nat) (v : Value), us[j]? = some v → ∃ c t, l[j]? = some c ∧ v = Value.str ⟨#[c]⟩ t) → Vals (l.map fun c => V.str ⟨#[c]⟩) us
  | [], [], _, _ => .nil
  | [], _ :: _, h, _ => by cases h
  | _ :: _, [], h, _ => by cases h
  | c :: l, u :: us, h, k => by
    obtain ⟨c', t, e1, e2⟩ := k 0 u rfl
    cases e1
    exact .cons ⟨t, e2⟩ (vals_signs l us (Nat.succ.inj h) fun j v q => k (j + 1) v q)
/-- list(z) of a text -/
theorem call_listS (hc : X.calm = true) : CallR X (.type "list") (fun xs H Q => ∃ z : Str, xs = [.str z] ∧ z.length ≤ sizeLine ∧ ∀ p, H p = none → Q (.ref p) (upd H p (.lst (z.cps.toList.map fun c => V.str ⟨#[c]⟩)))) := by
  intro pins s σ H xs us Q I r h
  obtain ⟨z, rfl, fits, q⟩ := h
  obtain ⟨u, rfl, t, rfl⟩ := vals1 r
  refine call_list_str (hn := fits) (I.ok.hd hc) z t fun h' tk acc c kept new items => ?_
  have rel : Vals (z.cps.toList.map fun c => V.str ⟨#[c]⟩) acc.toList := vals_signs _ _ (by rw [Array.length_toList, Array.length_toList]; exact items.1) fun j v e => by
    obtain ⟨c, u, e1, e2⟩ := items.2 j v (by rw [← Array.getElem?_toList]; exact e)
    exact ⟨c, u, by rw [Array.getElem?_toList]; exact e1, e2⟩
  have fits' : (z.cps.toList.map fun c => V.str ⟨#[c]⟩).length ≤ sizeLine := by rw [List.length_map, Array.length_toList]; exact fits
  exact ⟨.ref s.heap.objs.size, _, I.laid (t' := tk) kept (Nat.le_refl _) (show ObjOk X.prog X.w _ h' _ (.lst _) from ⟨fits', acc.toList, c, rel, new⟩), rfl, q _ (I.hok.fresh (Nat.le_refl _))⟩
end
end WbT
namespace Wb
open PySem L2 WbMin WbS Lz WbO WbT
abbrev sShuf : Stmt := top 56
theorem seq_nat {i n : Nat} (h : i < n) : seqIndex? (i : Int) n = some i := by
  unfold seqIndex?
  have h0 : ¬ ((i : Int) < 0) := by omega
  have h1 : ((i : Int) < (n : Int)) := by omega
  simp [h0, h1]
theorem perm_erase {α : Type} : ∀ {l : List α} {i : Nat} {x : α}, l[i]? = some x → (x :: l.eraseIdx i).Perm l
  | [], _, _, h => by cases h
  | y :: l, 0, x, h => by cases h; exact .refl _
  | y :: l, i + 1, x, h => by
    have ih := perm_erase (l := l) (i := i) h
    show (x :: y :: l.eraseIdx i).Perm (y :: l)
    exact (List.Perm.swap y x _).trans (ih.cons y)
/-- what stands at a text, a tuple, a list -/
inductive Its (H : Hp) : V → List V → Prop
  | str (l : List Nat) : Its H (.str (S l)) (l.map vOne)
  | tup {a : Addr} {xs : List V} (h : H a = some (.tup xs)) : Its H (.ref a) xs
  | lst {a : Addr} {xs : List V} (h : H a = some (.lst xs)) (n : ∀ x y z : Int, xs ≠ [.int x, .int y, .int z]) : Its H (.ref a) xs
theorem Its.but {H H' : Hp} {p : Addr} (hp : PoolAt H p) (b : But p H H') {v : V} {xs : List V} (h : Its H v xs) : Its H' v xs := by
  cases h with
  | str l => exact .str l
  | tup h => exact .tup (b _ _ (pool_other hp h fun _ _ _ q => by cases q) h)
  | lst h n => exact .lst (b _ _ (pool_other hp h fun x y z q => n x y z (by injection q)) h) n
def spShufA : Sp := fun vs H Q _ => ∃ (p : Addr) (v : V) (xs : List V), vs = [.ref p, v] ∧ Its H v xs ∧ xs.length ≤ 600 ∧ PoolAt H p ∧ ∀ (a : Addr) (ys : List V) (H' : Hp), H' a = some (.lst ys) → a ≠ p → ys.Perm xs → PoolAt H' p → But p H H' → Q (.ref a) H'
section
variable {P : Program} {w : World} {K : PySem.W.Frag} {mg : Str → Option Value} {base : Heap} {f fD : Addr} {fd fdD : FuncData}
theorem scSh : FnScope ["_law_pool_here", "_law_things", "_law_rest", "_law_found", "_law_turn"] ["_law_pool_here", "_law_things"] (defScope sShuf) := ⟨rfl, rfl, rfl, by decide +kernel, rfl, by decide +kernel, by decide +kernel⟩
/-- list(x), len(x) of such a thing -/
@[irreducible] def rLst (K : PySem.W.Frag) : List V → Hp → VK → Prop := fun xs H Q => (∃ p ys, xs = [.ref p] ∧ (SqL K H p ys ∨ SqT K H p ys) ∧ ∀ l, H l = none → Q (.ref l) (upd H l (.lst ys))) ∨ (∃ z : Str, xs = [.str z] ∧ z.length ≤ sizeLine ∧ ∀ p, H p = none → Q (.ref p) (upd H p (.lst (z.cps.toList.map fun c => V.str ⟨#[c]⟩))))
@[irreducible] def rLen (K : PySem.W.Frag) : List V → Hp → VK → Prop := fun xs H Q => (∃ p ys, xs = [.ref p] ∧ (SqL K H p ys ∨ SqT K H p ys) ∧ Q (.int ys.length) H) ∨ (∃ z, xs = [.str z] ∧ z.length ≤ sizeLine ∧ Q (.int z.length) H)
theorem its_lst {H : Hp} {v : V} {xs : List V} {Q : VK} (h : Its H v xs) (few : xs.length ≤ 600) (k : ∀ l, H l = none → Q (.ref l) (L2.upd H l (.lst xs))) : rLst K [v] H Q := by
  unfold rLst
  cases h with
  | str l =>
    refine .inr ⟨_, rfl, ?_, fun p hp => ?_⟩
    · rw [S_len, sizeLine_eq]
      rw [List.length_map] at few
      omega
    · rw [S_cps]
      exact k p hp
  | tup h => exact .inl ⟨_, _, rfl, .inr (SqT.of h), k⟩
  | lst h n => exact .inl ⟨_, _, rfl, .inl (SqL.of h), k⟩
theorem its_len {H : Hp} {v : V} {xs : List V} {Q : VK} (h : Its H v xs) (few : xs.length ≤ 600) (k : Q (.int xs.length) H) : rLen K [v] H Q := by
  unfold rLen
  cases h with
  | str l =>
    rw [List.length_map] at few k
    refine .inr ⟨_, rfl, ?_, ?_⟩
    · rw [S_len, sizeLine_eq]
      omega
    · rw [S_len]
      exact k
  | tup h => exact .inl ⟨_, _, rfl, .inr (SqT.of h), k⟩
  | lst h n => exact .inl ⟨_, _, rfl, .inl (SqL.of h), k⟩
theorem cr_lst {X : Cx} (hc : X.calm = true) : CallR X (.type "list") (rLst X.K) := by
  unfold rLst
  exact CallR.or call_list_of (call_listS hc)
theorem cr_len {X : Cx} : CallR X (.builtin "len") (rLen X.K) := by
  unfold rLen
  exact CallR.or call_len_seq call_len_str
set_option maxHeartbeats 0 in
theorem ok_shufA (F : Fun K "_law_shuffled" "_law_shuffled" sShuf f fd) (D : Def K mg "_law_draw" sDraw ["_law_pool_here", "_law_many"] fD fdD) (Z : Free mg) (mL : mg "list" = none) : FnOk P w K mg base CX0 2 f fd ["_law_pool_here", "_law_things"] spShufA := by
  have G : FnOk P w K mg base CX0 1 fD fdD ["_law_pool_here", "_law_many"] spDraw := ok_draw D.F Z.int Z.divmod
  refine F.ok scSh (fun vs H Q E h => ?_) (fun cdv A outer s H vs Q E hr h => ?_)
  · obtain ⟨p, v, xs, rfl, _⟩ := h
    rfl
  · obtain ⟨p, v, xs, rfl, hL, z1, hp, k⟩ := h
    refine ⟨_, pss_cons (ps_par (i := 2) (j := 3) (by rfl) scSh.nd rfl rfl (by decide) rfl rfl (pa_cons (pe_callTy (show CallR _ _ (rLst K) from cr_lst rfl) (by rfl) mL (by decide +kernel) (pa_cons (pv 1) pa_nil)) (pa_cons (pe_lst pa_nil) pa_nil)) (by rfl))
      (pss_cons (ps_for PassesOwn.never rfl (pi_range1 rfl Z.range (pa_cons (pe_callB (show CallR _ _ (rLen K) from cr_len) (by rfl) Z.len PySem.boot_len (pa_cons (pv 1) pa_nil)) pa_nil)) (pg_name (i := 4) scSh.nd rfl (.inl rfl))
        (pss_one (ps_expr (pe_bm PySem.F.plainAttrs_list PySem.F.slot_list_append PySem.F.type_list_append mt_append (pv 3) (pa_cons
          (pe_bm PySem.F.plainAttrs_list PySem.F.slot_list_pop PySem.F.type_list_pop mt_popAt (pv 2) (pa_cons (pe_call G hr rfl D.g D.kp D.b .nil pass0 (pa_cons (pv 0) (pa_cons (pe_callB call_len_seq (by rfl) Z.len PySem.boot_len (pa_cons (pv 2) pa_nil)) pa_nil))) pa_nil)) pa_nil)))))
      (pss_one (ps_ret (pv 3)))), ?_⟩
    refine ⟨_, rfl, its_lst hL z1 fun R hR => ?_⟩
    refine ⟨(by show 0 ≤ sizeLine; decide), fun F0 hF => ⟨_, _, rfl, ?_⟩⟩
    have nR := hp.ne hR
    have hF1 := hF
    have nFR : F0 ≠ R := fun z => by
      rw [z, upd_same] at hF
      cases hF
    rw [upd_ne nFR] at hF1
    have nF := hp.ne hF1
    have b0 : But p H (L2.upd (L2.upd H R (.lst xs)) F0 (.lst [])) := ((But.refl p H).upd (o := .lst xs) hR).upd (o := .lst []) hF
    refine ⟨_, rfl, its_len (hL.but hp b0) z1 ?_⟩
    refine ⟨_, rfl, by omega, by omega, for_it walk_range
      (fun i σ H' => ∃ (rest found : List V) (v4 : Option V), σ = [some (.ref p), some v, some (.ref R), some (.ref F0), v4] ∧ H' R = some (.lst rest) ∧ H' F0 = some (.lst found) ∧ (found ++ rest).Perm xs ∧ rest.length + i = xs.length ∧ found.length = i ∧ PoolAt H' p ∧ But p H H')
      ⟨xs, [], none, rfl, ?_, upd_same, .refl _, rfl, rfl, (hp.put nR).put nF, b0⟩ (fun _ _ _ _ _ => trivial) ?_ ?_⟩
    · rw [upd_ne nFR.symm, upd_same]
    · rintro i x σ H2 H2' hi ⟨rest, found, v4, rfl, h1, h2, pm, r1, r2, hp2, b2⟩ ⟨rfl, rfl⟩
      refine ⟨_, rfl, .inl ⟨rfl, _, SqL.of h2⟩, _, rfl, .inl ⟨rfl, _, SqL.of h1⟩, _, rfl, _, rfl, R, _, rfl, .inl (SqL.of h1), p, _, rfl, ?_, ?_, hp2, fun e H3 e0 e1 hp3 b3 => ?_⟩
      · omega
      · omega
      · obtain ⟨j, rfl⟩ := nat_of e0
        have hj : j < rest.length := by omega
        have g1 := b3 R _ nR h1
        have g2 := b3 F0 _ nF h2
        obtain ⟨z, hz⟩ : ∃ z, rest[j]? = some z := ⟨_, List.getElem?_eq_getElem hj⟩
        refine ⟨R, _, _, j, z, rfl, rfl, g1, by omega, by omega, seq_nat hj, hz, F0, _, _, rfl, rfl, (upd_ne nFR).trans g2, ?_, ?_⟩
        · rw [sizeLine_eq]; omega
        · refine ⟨rest.eraseIdx j, found ++ [z], _, rfl, ?_, upd_same, ?_, ?_, ?_, (hp3.put nR).put nF, ?_⟩
          · rw [upd_ne nFR.symm, upd_same]
          · rw [List.append_assoc]
            exact ((perm_erase hz).append_left found).trans pm
          · rw [List.length_eraseIdx, if_pos hj]; omega
          · rw [List.length_append, r2] <;> rfl
          · exact ((b2.trans b3).new hR).new hF1
    · rintro σ H2 ⟨rest, found, v4, rfl, h1, h2, pm, r1, r2, hp2, b2⟩
      have e0 : rest = [] := List.eq_nil_of_length_eq_zero (by omega)
      subst e0
      rw [List.append_nil] at pm
      exact ⟨_, rfl, k F0 found H2 h2 nF pm hp2 b2⟩
end
end Wb
/-! two models, mostly over the same letters -/
namespace Wb
open PySem L2 WbMin WbS Lz WbO WbT
abbrev sPairQ : Stmt := top 69
theorem perm_mapQ {α β : Type} (f : α → β) : ∀ {xs ys : List β}, xs.Perm ys → ∀ l : List α, xs = l.map f → ∃ l', l.Perm l' ∧ ys = l'.map f
  | _, _, .nil, l, e => ⟨l, .refl _, e⟩
  | _, _, .cons x p, [], e => nomatch e
  | _, _, .cons x p, a :: l, e => by
    injection e with e1 e2
    obtain ⟨l', q, e'⟩ := perm_mapQ f p l e2
    exact ⟨a :: l', q.cons a, by rw [e', e1] <;> rfl⟩
  | _, _, .swap x y r, [], e => nomatch e
  | _, _, .swap x y r, [_], e => by
    injection e with e1 e2
    cases e2
  | _, _, .swap x y r, a :: b :: l, e => by
    injection e with e1 e2
    injection e2 with e2 e3
    exact ⟨b :: a :: l, .swap _ _ _, by rw [e1, e2, e3] <;> rfl⟩
  | _, _, .trans p q, l, e => by
    obtain ⟨l1, p1, e1⟩ := perm_mapQ f p l e
    obtain ⟨l2, p2, e2⟩ := perm_mapQ f q l1 e1
    exact ⟨l2, p1.trans p2, e2⟩
def spPairQ : Sp := fun vs H Q _ => ∃ p : Addr, vs = [.ref p] ∧ PoolAt H p ∧ ∀ (t q1 q2 : Addr) (A B : LD) (H' : Hp), H' t = some (.tup [.ref q1, .ref q2]) → A.Ok → B.Ok → A.n * B.n ≤ 9 → MdAt H' q1 A → MdAt H' q2 B → PoolAt H' p → But p H H' → Q (.ref t) H'
section
variable {P : Program} {w : World} {K : PySem.W.Frag} {mg : Str → Option Value} {base : Heap} {f fD fS fG fN fNs fA fM : Addr} {fd dD dS dG dN dNs dA dM : FuncData}
abbrev NPq : List Str := ["_law_pool_here", "_law_abc", "_law_way", "_law_others", "_law_sizes"]
theorem scPq : FnScope NPq ["_law_pool_here"] (defScope sPairQ) := ⟨rfl, rfl, rfl, by decide +kernel, rfl, by decide +kernel, by decide +kernel⟩
set_option maxHeartbeats 2000000 in
theorem ok_pairQ (F : Fun K "_law_pair" "_law_pair" sPairQ f fd) (D : Def K mg "_law_draw" sDraw ["_law_pool_here", "_law_many"] fD dD) (DS : Def K mg "_law_shuffled" sShuf ["_law_pool_here", "_law_things"] fS dS) (DG : Def K mg "_law_signs" sSigns ["_law_pool_here", "_law_most"] fG dG)
    (DN : Def K mg "_law_name" sName ["_law_pool_here", "_law_found"] fN dN) (DNs : Def K mg "_law_names" sNames ["_law_pool_here", "_law_many"] fNs dNs) (DA : Def K mg "_law_amount" sAmount ["_law_pool_here", "_law_great"] fA dA) (DM : Def K mg "_law_model" sModel ["_law_pool_here", "_law_abc", "_law_most", "_law_great"] fM dM) (Z : Free mg) (mL : mg "list" = none) :
    FnOk P w K mg base CX0 5 f fd ["_law_pool_here"] spPairQ := by
  have GD : FnOk P w K mg base CX0 1 fD dD ["_law_pool_here", "_law_many"] spDraw := ok_draw D.F Z.int Z.divmod
  have GS : FnOk P w K mg base CX0 2 fS dS ["_law_pool_here", "_law_things"] spShufA := ok_shufA DS.F D Z mL
  have GG : FnOk P w K mg base CX0 2 fG dG ["_law_pool_here", "_law_most"] spSigns := ok_signs DG.F D Z.int Z.divmod Z.len Z.range
  have GM : FnOk P w K mg base CX0 4 fM dM ["_law_pool_here", "_law_abc", "_law_most", "_law_great"] spModelT := ok_modelT DM.F D DN DNs DA Z
  refine F.ok scPq (fun vs H Q E h => ?_) (fun cdv A outer s H vs Q E hr h => ?_)
  · obtain ⟨p, rfl, _⟩ := h
    rfl
  · obtain ⟨p, rfl, hp, k⟩ := h
    have hr1 : Room 1 _ := hr.mono (by decide)
    have hr2 : Room 2 _ := hr.mono (by decide)
    refine ⟨_, pss_cons (ps_par (i := 1) (j := 2) (by rfl) scPq.nd rfl rfl (by decide) rfl rfl (pa_cons (pe_call GG hr2 rfl DG.g DG.kp DG.b .nil pass0 (pa_cons (pv 0) (pa_cons pe_int pa_nil))) (pa_cons (pe_call GD hr1 rfl D.g D.kp D.b .nil pass0 (pa_cons (pv 0) (pa_cons pe_int pa_nil))) pa_nil)) (by rfl))
      (pss_cons (ps_set (i := 3) scPq.nd rfl (.inl rfl) (pe_joinE (pe_ifExp (pt_cmpR op_gt (pv 2) pe_int (nomark _)) (pe_join pe_str (pe_call GS hr2 rfl DS.g DS.kp DS.b .nil pass0 (pa_cons (pv 0) (pa_cons (pv 1) pa_nil)))) (pe_call GG hr2 rfl DG.g DG.kp DG.b .nil pass0 (pa_cons (pv 0) (pa_cons pe_int pa_nil))))))
      (pss_cons (ps_set (i := 4) scPq.nd rfl (.inl rfl) (pe_ix ix_list (pe_lst (pa_cons (pe_lst (pa_cons pe_int (pa_cons pe_int pa_nil))) (pa_cons (pe_lst (pa_cons pe_int (pa_cons pe_int pa_nil))) (pa_cons (pe_lst (pa_cons pe_int (pa_cons pe_int pa_nil))) (pa_cons (pe_lst (pa_cons pe_int (pa_cons pe_int pa_nil))) (pa_cons (pe_lst (pa_cons pe_int (pa_cons pe_int pa_nil))) (pa_cons (pe_lst (pa_cons pe_int (pa_cons pe_int pa_nil))) pa_nil)))))))
          (pe_call GD hr1 rfl D.g D.kp D.b .nil pass0 (pa_cons (pv 0) (pa_cons pe_int pa_nil))) (fun _ _ => rfl)))
      (pss_one (ps_ret (pe_tup (pa_cons (pe_call GM hr rfl DM.g DM.kp DM.b .nil pass0 (pa_cons (pv 0) (pa_cons (pv 1) (pa_cons (pe_ix ix_list (pv 4) pe_int (fun _ _ => rfl)) (pa_cons pe_bl pa_nil)))))
        (pa_cons (pe_call GM hr rfl DM.g DM.kp DM.b .nil pass0 (pa_cons (pv 0) (pa_cons (pv 3) (pa_cons (pe_ix ix_list (pv 4) pe_int (fun _ _ => rfl)) (pa_cons pe_bl pa_nil))))) pa_nil))))))), ?_⟩
    refine ⟨_, rfl, p, 4, rfl, by decide, by decide, hp, fun sg H1 lo nd pos le hp1 b1 => ⟨_, rfl, p, 6, rfl, by decide, by decide, hp1, fun d H2 d0 d1 hp2 b2 => ⟨_, _, rfl, ?_⟩⟩⟩
    have SG : Sgs sg := ⟨lo, nd, pos, by omega⟩
    refine ⟨fun v H' => ∃ sb, v = .str (S sb) ∧ Sgs sb ∧ PoolAt H' p ∧ But p H2 H', ?_, ?_⟩
    · refine ⟨_, rfl, _, _, rfl, rfl, _, rfl, ite2 (fun _ => ?_) (fun _ => ?_)⟩
      · refine ⟨⟨_, rfl⟩, _, rfl, _, rfl, p, _, _, rfl, .str sg, by rw [List.length_map]; omega, hp2, fun a1 ys1 H6 ha1 na1 pm1 hp6 b6 => ?_⟩
        obtain ⟨sg0, psg0, rfl⟩ := perm_mapQ vOne pm1.symm sg rfl
        have ls0 : sg0.length = sg.length := psg0.length_eq.symm
        have ha1' : H6 a1 = some (.lst ((sg0.map one).map V.str)) := by rw [ha1, List.map_map] <;> rfl
        refine ⟨_, a1, sg0.map one, rfl, rfl, .inl (SqL.of ha1'), ?_, ?_⟩
        · have e1 : ((sg0.map one).map fun x => x.length) = List.replicate sg0.length 1 := by
            rw [List.map_map]
            exact List.map_eq_replicate_iff.mpr fun _ _ => rfl
          have e2 : (Str.ofString "").length = 0 := by decide +kernel
          rw [e1, e2, List.sum_replicate_nat]
          omega
        rw [join_any]
        exact ⟨sg0, rfl, ⟨fun c hc => lo c (psg0.mem_iff.mpr hc), psg0.nodup_iff.mp nd, by omega, by omega⟩, hp6, b6⟩
      · exact ⟨_, rfl, p, 4, rfl, by decide, by decide, hp2, fun sb H6 lo' nd' pos' le' hp6 b6 => ⟨sb, rfl, ⟨lo', nd', pos', by omega⟩, hp6, b6⟩⟩
    rintro v H3 ⟨sb, rfl, SB, hp3, b3⟩
    refine ⟨by show 2 ≤ sizeLine; decide, fun l1 hl1 => ?_⟩
    have s1 := Same.put (o := .lst [V.int 3, .int 3]) (Same.refl H3) hl1
    have e1 : (L2.upd H3 l1 (.lst [V.int 3, .int 3])) l1 = some (.lst [V.int 3, .int 3]) := upd_same
    generalize L2.upd H3 l1 (.lst [V.int 3, .int 3]) = G1 at s1 e1 ⊢
    refine ⟨by show 2 ≤ sizeLine; decide, fun l2 hl2 => ?_⟩
    have s2 := Same.put (o := .lst [V.int 2, .int 3]) (Same.refl G1) hl2
    have e2 : (L2.upd G1 l2 (.lst [V.int 2, .int 3])) l2 = some (.lst [V.int 2, .int 3]) := upd_same
    generalize L2.upd G1 l2 (.lst [V.int 2, .int 3]) = G2 at s2 e2 ⊢
    refine ⟨by show 2 ≤ sizeLine; decide, fun l3 hl3 => ?_⟩
    have s3 := Same.put (o := .lst [V.int 6, .int 1]) (Same.refl G2) hl3
    have e3 : (L2.upd G2 l3 (.lst [V.int 6, .int 1])) l3 = some (.lst [V.int 6, .int 1]) := upd_same
    generalize L2.upd G2 l3 (.lst [V.int 6, .int 1]) = G3 at s3 e3 ⊢
    refine ⟨by show 2 ≤ sizeLine; decide, fun l4 hl4 => ?_⟩
    have s4 := Same.put (o := .lst [V.int 2, .int 2]) (Same.refl G3) hl4
    have e4 : (L2.upd G3 l4 (.lst [V.int 2, .int 2])) l4 = some (.lst [V.int 2, .int 2]) := upd_same
    generalize L2.upd G3 l4 (.lst [V.int 2, .int 2]) = G4 at s4 e4 ⊢
    refine ⟨by show 2 ≤ sizeLine; decide, fun l5 hl5 => ?_⟩
    have s5 := Same.put (o := .lst [V.int 1, .int 6]) (Same.refl G4) hl5
    have e5 : (L2.upd G4 l5 (.lst [V.int 1, .int 6])) l5 = some (.lst [V.int 1, .int 6]) := upd_same
    generalize L2.upd G4 l5 (.lst [V.int 1, .int 6]) = G5 at s5 e5 ⊢
    refine ⟨by show 2 ≤ sizeLine; decide, fun l6 hl6 => ?_⟩
    have s6 := Same.put (o := .lst [V.int 3, .int 2]) (Same.refl G5) hl6
    have e6 : (L2.upd G5 l6 (.lst [V.int 3, .int 2])) l6 = some (.lst [V.int 3, .int 2]) := upd_same
    generalize L2.upd G5 l6 (.lst [V.int 3, .int 2]) = G6 at s6 e6 ⊢
    refine ⟨by show 6 ≤ sizeLine; decide, fun L hL => ?_⟩
    have s7 := Same.put (o := .lst [V.ref l1, .ref l2, .ref l3, .ref l4, .ref l5, .ref l6]) (Same.refl G6) hL
    have e7 : (L2.upd G6 L (.lst [V.ref l1, .ref l2, .ref l3, .ref l4, .ref l5, .ref l6])) L = some (.lst [V.ref l1, .ref l2, .ref l3, .ref l4, .ref l5, .ref l6]) := upd_same
    generalize L2.upd G6 L (.lst [V.ref l1, .ref l2, .ref l3, .ref l4, .ref l5, .ref l6]) = G7 at s7 e7 ⊢
    have s27 := ((((s2.trans s3).trans s4).trans s5).trans s6).trans s7
    have hp7 := hp3.same (s1.trans s27)
    refine ⟨_, rfl, p, 6, rfl, by decide, by decide, hp7, fun dd H8 dd0 dd1 hp8 b8 => ?_⟩
    have two : ∀ {l : Addr} {m n : Int}, G7 l = some (.lst [V.int m, .int n]) → H8 l = some (.lst [V.int m, .int n]) := fun h => b8 _ _ (pool_other hp7 h fun x y z q => by cases q) h
    have f1 := two (s27 _ _ e1)
    have f2 := two (((((s3.trans s4).trans s5).trans s6).trans s7) _ _ e2)
    have f3 := two ((((s4.trans s5).trans s6).trans s7) _ _ e3)
    have f4 := two (((s5.trans s6).trans s7) _ _ e4)
    have f5 := two ((s6.trans s7) _ _ e5)
    have f6 := two (s7 _ _ e6)
    have f7 := b8 _ _ (pool_other hp7 e7 fun x y z q => by cases q) e7
    obtain ⟨j, rfl⟩ : ∃ j : Nat, dd = (j : Int) := ⟨dd.toNat, by omega⟩
    obtain ⟨l, m, n, hl, at_, m1, m6, n1, n6, mn⟩ : ∃ (l : Addr) (m n : Nat), H8 l = some (.lst [V.int (m : Nat), .int (n : Nat)]) ∧ [V.ref l1, .ref l2, .ref l3, .ref l4, .ref l5, .ref l6][j]? = some (.ref l) ∧ 1 ≤ m ∧ m ≤ 6 ∧ 1 ≤ n ∧ n ≤ 6 ∧ m * n ≤ 9 := by
      have hj : j < 6 := by omega
      rcases j with _ | _ | _ | _ | _ | _ | j
      · exact ⟨l1, 3, 3, f1, rfl, by decide, by decide, by decide, by decide, by decide⟩
      · exact ⟨l2, 2, 3, f2, rfl, by decide, by decide, by decide, by decide, by decide⟩
      · exact ⟨l3, 6, 1, f3, rfl, by decide, by decide, by decide, by decide, by decide⟩
      · exact ⟨l4, 2, 2, f4, rfl, by decide, by decide, by decide, by decide, by decide⟩
      · exact ⟨l5, 1, 6, f5, rfl, by decide, by decide, by decide, by decide, by decide⟩
      · exact ⟨l6, 3, 2, f6, rfl, by decide, by decide, by decide, by decide, by decide⟩
      · omega
    have b38 : But p H3 H8 := (But.of (s1.trans s27)).trans b8
    have b08 := ((b1.trans b2).trans b3).trans b38
    refine ⟨L, _, _, _, rfl, rfl, SqL.of f7, atI_nat at_, ?_⟩
    dsimp only [List.set]
    refine ⟨_, rfl, _, rfl, _, rfl, l, _, _, _, rfl, rfl, SqL.of hl, atI_nat (j := 0) rfl, p, sg, m, true, rfl, SG, by omega, by omega, hp8, fun q1 L1 H9 O1 T1 g1 n1' M1 _ hp9 b9 => ?_⟩
    have hl9 := b9 _ _ (pool_other hp8 hl fun x y z q => by cases q) hl
    refine ⟨_, rfl, _, rfl, _, rfl, l, _, _, _, rfl, rfl, SqL.of hl9, atI_nat (j := 1) rfl, p, sb, n, true, rfl, SB, by omega, by omega, hp9, fun q2 L2' H10 O2 T2 g2 n2' M2 _ hp10 b10 => ?_⟩
    refine ⟨by show 2 ≤ sizeLine; decide, fun t ht => ?_⟩
    have s11 := Same.put (o := .tup [V.ref q1, .ref q2]) (Same.refl H10) ht
    exact k t q1 q2 L1 L2' _ upd_same O1 O2 (Nat.le_trans (Nat.mul_le_mul (by omega) (by omega)) mn) ((M1.but hp9 b10).same s11) (M2.same s11) (hp10.same s11) ((b08.trans (b9.trans b10)).trans (But.of s11))
end
end Wb
/-! states -/
namespace Wb
open PySem L2 WbMin WbS Lz
section
variable {P : Program} {w : World} {K : PySem.W.Frag} {mg : Str → Option Value} {base : Heap} {A : LA} {e : Addr} {f fI : Addr} {fd dI : FuncData}
end
end Wb
namespace Wb
open PySem L2 WbMin WbS Lz Le LamX WbO
abbrev sRight : Stmt := top 70
structure DA where
  (cell pool draw shuf face odd signs name names amount model line lloop product heard due pair right : Addr)
  (dcell dpool ddraw dshuf dface dodd dsigns dname dnames damount dmodel dline dlloop dproduct dheard ddue dpair dright : FuncData)
structure Defs (K : PySem.W.Frag) (mg : Str → Option Value) (D : DA) : Prop where
  cell : Def K mg "_law_cell" sCell ["_law_script", "_law_k"] D.cell D.dcell
  pool : Def K mg "_law_pool" sPool ["_law_cell_here"] D.pool D.dpool
  draw : Def K mg "_law_draw" sDraw ["_law_pool_here", "_law_many"] D.draw D.ddraw
  shuf : Def K mg "_law_shuffled" sShuf ["_law_pool_here", "_law_things"] D.shuf D.dshuf
  face : Def K mg "_law_face" sFace ["_law_thing"] D.face D.dface
  odd : Def K mg "_law_odd" sLOdd ["_law_pool_here"] D.odd D.dodd
  signs : Def K mg "_law_signs" sSigns ["_law_pool_here", "_law_most"] D.signs D.dsigns
  name : Def K mg "_law_name" sName ["_law_pool_here", "_law_found"] D.name D.dname
  names : Def K mg "_law_names" sNames ["_law_pool_here", "_law_many"] D.names D.dnames
  amount : Def K mg "_law_amount" sAmount ["_law_pool_here", "_law_great"] D.amount D.damount
  model : Def K mg "_law_model" sModel ["_law_pool_here", "_law_abc", "_law_most", "_law_great"] D.model D.dmodel
  line : Def K mg "_law_line" sLine ["_law_model_here"] D.line D.dline
  lloop : Def K mg "_law_loop" sLLoop ["_law_model_here"] D.lloop D.dlloop
  product : Def K mg "_law_product" sProduct ["_law_near", "_law_far", "_law_times", "_law_both"] D.product D.dproduct
  heard : Def K mg "_law_sum_heard" sSumHeard ["_law_act"] D.heard D.dheard
  due : Def K mg "_law_due" sDueQ ["_law_near", "_law_far", "_law_times", "_law_both"] D.due D.ddue
  pair : Def K mg "_law_pair" sPairQ ["_law_pool_here"] D.pair D.dpair
  right : Def K mg "_law_right" sRight ["_law_pool_here"] D.right D.dright
/-- a def whose code object is known: it makes lambdas -/
structure FunT (K : PySem.W.Frag) (x qual : Str) (st : Stmt) (f : Addr) (fd : FuncData) (c : Addr) : Prop where
  ex : ∃ (oc : Value) (od : Option Addr) (kV doc pm : Value) (an : Option Addr) (ct : Value) (osl : Array (Option Value)),
    fd = PySem.W.fnOf x qual (defArgs st) (defBody st) (defScope st) .none kV doc pm an (.ref c) ct ∧ K.lookup f = some ⟨oc, od, .func fd, osl⟩ ∧ PySem.W.codeIn K (.ref c) qual = true
section
variable {P : Program} {w : World} {K : PySem.W.Frag} {mg : Str → Option Value} {base : Heap}
theorem okT {x qual : Str} {st : Stmt} {f c : Addr} {fd : FuncData} {N ps : List Str} {k : Nat} {sp : Sp} (F : FunT K x qual st f fd c) (S : FnScope N ps (defScope st)) (len : ∀ vs H Q E, sp vs H Q E → vs.length = ps.length)
    (body : ∀ (A : Around) (outer : List Env) (s : Shared) (H : Hp) (vs : List V) (Q : VK) (E : XK), Room k (A.deeper (PyProof.Rows.envOfC qual (defScope st) s.heap.objs.size f (.ref c))) → sp vs H Q E →
      ∃ t, PSs (cxOf CX0 P w K mg base N qual (defScope st) f (.ref c) A outer s H E).nox (defBody st) t ∧ t { nx := fun _ H' => Q .non H', rt := Q } (L2.start N vs) H) : FnOk P w K mg base CX0 (k + 1) f fd ps sp := by
  obtain ⟨_, _, _, _, _, _, _, _, rfl, at_, code⟩ := F.ex
  refine fn_of at_ code S len fun A outer s H vs Q E hr h => ?_
  obtain ⟨t, h1, q⟩ := body A outer s H vs Q E hr h
  exact ⟨t, h1.nox, q⟩
end
abbrev qLam : Str := "_law_right.<locals>.<lambda>"
abbrev L7 : List String := ["int", "bool", "NoneType", "str", "list", "tuple", "dict"]
theorem kit_ownQ {K : PySem.W.Frag} {C : Addr} {t : String} (h1 : PySem.W.isClsIn K C = true) (h2 : PySem.W.typeIn K (.ref C) = some (.type "type")) (h3 : PySem.W.subIn K (.type t) (.ref C) = some false) : PySem.W.kitOne K (.type t) (.ref C) = some false := by
  unfold PySem.W.kitOne
  rw [if_neg (by intro z; have q := beq_iff_eq.mp z; cases q)]
  unfold PySem.W.kitCls
  show (if ((PySem.W.clsIn K C).isSome && PySem.W.typeIn K (.ref C) == some (.type "type")) = true then PySem.W.subIn K (.type t) (.ref C) else none) = some false
  have h1' : (PySem.W.clsIn K C).isSome = true := h1
  rw [h1', h2, h3, if_pos (by rw [Bool.true_and]; exact beq_iff_eq.mpr rfl)]
/-- what + and - ask of the types of what stands right of them -/
structure OpsQ (K : PySem.W.Frag) (C : Addr) : Prop where
  o : ∀ nm t, (nm = "add" ∨ nm = "sub") → t ∈ L7 → OpT K C nm t
  k : ∀ t, t ∈ L7 → PySem.W.kitOne K (.type t) (.ref C) = some false
  sf : PySem.W.selfFirst K C = true
  rA : PySem.W.findIn K (.ref C) "__radd__" = some none
  rS : PySem.W.findIn K (.ref C) "__rsub__" = some none
theorem Thing.ty {K : PySem.W.Frag} {H : Hp} : ∀ {n : Nat} {v : V} {d : PyData}, Thing H n v d → ∃ t, TyX K H v (.type t) ∧ t ∈ L7
  | 0, _, _, h => h.elim
  | _ + 1, _, _, .inl h => by
    cases h with
    | non => exact ⟨"NoneType", .base .non, by simp⟩
    | bl b => exact ⟨"bool", .base (.bl b), by simp⟩
    | int i => exact ⟨"int", .base (.int i), by simp⟩
    | str x => exact ⟨"str", .base (.str x), by simp⟩
  | _ + 1, _, _, .inr (.inl ⟨a, xs, ds, e, h, _⟩) => ⟨"list", e ▸ .base (.lst h), by simp⟩
  | _ + 1, _, _, .inr (.inr (.inl ⟨a, xs, ds, e, h, _⟩)) => ⟨"tuple", e ▸ .base (.tup h), by simp⟩
  | _ + 1, _, _, .inr (.inr (.inr ⟨a, ks, xs, ds, e, h, _⟩)) => ⟨"dict", e ▸ .base (.dK h), by simp⟩
theorem odd_ask {K : PySem.W.Frag} {C Tt : Addr} {Er : SerA} {cN : Addr} {A : LD} {r : Addr} {f : Int} {nm : String} {σ : L2.St} {H : Hp} {i j : Nat} {T : List (Addr × Str)} {R : VK} {x : V} {d : PyData} (G : OpsQ K C) (hnm : nm = "add" ∨ nm = "sub")
    (hi : σ[i]? = some (some (.ref r))) (hj : σ[j]? = some (some x)) (LA : LoopAt C Tt H r A) (OA : A.Ok) (srA : srtd A.sg) (th : Thing H 5 x d) (lay : d.canLay0 = true) (dep : PyData.depth d ≤ 60) (tabs : Tabs T H) (k : ∀ H', Xt H H' → Tabs T H' → R (.bl false) H') :
    tLam T (TTQ K C Tt Er.cL Er.cO cN Er.cM) (fun E2 => tOp (rOpW K C nm (spTwoX K C Tt Er f) E2) (tVar i) (tVar j)) σ H (fun x H1 => tLst (tCons (tC (.str (Str.ofString "thing"))) (tCons (tCall (spFaceQ K C) [] E0 (tCons (tVar j) tNil)) tNil)) σ H1 (fun y H2 => rNeD K x y H2 R)) := by
  refine ⟨tabs, fun H1 x1 tb1 => ?_⟩
  have LA1 := LA.xt (Xt.ext x1)
  have th1 : Thing H1 5 x d := (Thing.noT th).same (Xt.ext x1)
  obtain ⟨dx, _, _, _, _, _, _, _, hR, _⟩ := id LA1
  obtain ⟨ty, tyx, mem⟩ := th1.ty (K := K)
  refine .inr (.inl ⟨Er.cL, "thing", "given", x, d, .inl ⟨rfl, rfl, rfl⟩, th1, fun E R' fails => ⟨_, hi, _, hj, r, dx, _, rfl, hR, .inl ⟨ty, tyx, G.o nm ty hnm mem⟩, r, A, x, rfl, LA1, OA, srA, .inr ⟨_, tyx, G.k ty mem, fails⟩⟩, fun a H2 na s2 dp => ?_⟩)
  refine ⟨_, hj, .inl ⟨x, d, rfl, th1.same s2, fun fC HC nC sC dpC => ⟨by show 2 ≤ sizeLine; decide, fun L hL => ?_⟩⟩⟩
  have sL := Same.put (o := .lst [.str (Str.ofString "thing"), .ref fC]) (Same.refl HC) hL
  exact heard_due (Dp.stay (sC.trans sL) (Dp.stay New.sub dp)) (.lst (SqL.of upd_same) (.cons (.str _) (.cons (Dp.stay sL (Dp.stay New.sub dpC)) .nil))) (mk_ok (by decide +kernel) lay (Nat.le_trans dep (by decide))) (k _ ((Xt.ext x1).trans (Xt.of (s2.trans (sC.trans sL)))) (Tabs.ext tb1 (s2.trans (sC.trans sL))))
def spRightT (c P : Addr) : Sp := fun vs H Q _ => ∃ p : Addr, vs = [.ref p] ∧ PoolAt H p ∧ Tabs [(P, qLam)] H ∧ ∀ H', Bt p H H' → Tabs [(P, qLam)] H' → Q (.bl true) H'
theorem TwoQ.but {C Tt : Addr} {r q qa qb p : Addr} {A B : LD} {sa sb : List Nat} {T : List (Addr × Str)} {H H' : Hp} (h : TwoQ C Tt r q qa qb A B sa sb T H) (hp : PoolAt H p) (b : But p H H') : TwoQ C Tt r q qa qb A B sa sb T H' := ⟨h.LA.but hp b, h.LB.but hp b, h.MA.but hp b, h.MB.but hp b, Tabs.but h.tb hp b⟩
abbrev NR : List Str := ["_law_pool_here", "_law_near", "_law_far", "_law_loop_here", "_law_mate", "_law_odd_here", "_law_rows_here"]
theorem scRi : FnScope NR ["_law_pool_here"] (defScope sRight) := ⟨rfl, rfl, rfl, by decide +kernel, rfl, by decide +kernel, by decide +kernel⟩
theorem estRi (p : Addr) : L2.start NR [V.ref p] = [some (V.ref p), none, none, none, none, none, none] := rfl
section
variable {P : Program} {w : World} {K : PySem.W.Frag} {mg : Str → Option Value} {base : Heap} {f c Pt e cN : Addr} {fd : FuncData} {A : LA} {B : AddA} {S2 : SmA} {Er : SerA} {BE : EqA} {D : DA}
set_option maxHeartbeats 8000000 in
theorem ok_right (F : FunT K "_law_right" "_law_right" sRight f fd c) (TB : TabB base mg c Pt) (Z : Free mg) (ZT : FreeT mg) (R : LoopF K mg A e) (AF : AddF K mg A B S2) (SE : SerF K mg Er) (EF : EqF K mg A BE) (I : IsiF K A.C) (FC : FaceC K A.C) (G : OpsQ K A.C) (S3 : SumC K mg Er.cL Er.cO cN Er.cM)
    (mStr : mg "str" = none) (D' : Defs K mg D) : FnOk P w K mg base CX0 11 f fd ["_law_pool_here"] (spRightT c Pt) := by
  have GD : FnOk P w K mg base CX0 1 D.draw D.ddraw ["_law_pool_here", "_law_many"] spDraw := ok_draw D'.draw.F Z.int Z.divmod
  have GP : FnOk P w K mg base CX0 5 D.pair D.dpair ["_law_pool_here"] spPairQ := ok_pairQ D'.pair.F D'.draw D'.shuf D'.signs D'.name D'.names D'.amount D'.model Z ZT.lst
  have GL : FnOk P w K mg base CX0 6 D.lloop D.dlloop ["_law_model_here"] (spLLoop2 A.C A.T) := ok_lloop2 D'.lloop.F D'.line R Z
  have GLi : FnOk P w K mg base CX0 1 D.line D.dline ["_law_model_here"] spLine := ok_line D'.line.F R.tup R.sort
  have GO : FnOk P w K mg base CX0 2 D.odd D.dodd ["_law_pool_here"] spOddA := ok_oddA D'.odd.F D'.draw Z
  have GF : FnOk P w K mg base CX0 6 D.face D.dface ["_law_thing"] (spFaceQ K A.C) := FnOk.either (ok_face D'.face ZT 5) (ok_faceI D'.face ZT FC)
  have GDu : FnOk P w K mg base CX0 7 D.due D.ddue ["_law_near", "_law_far", "_law_times", "_law_both"] (spDueQ K A.C A.T) := ok_dueQ D'.due.F Z ZT FC R mStr D'.face D'.product D'.lloop D'.line
  have GEq : FnOk P w K mg base CX0 3 BE.fEq BE.dEq ["self", "other"] (spLoEq A.C A.T) := ok_loeq R Z EF I
  have GW : FnOk P w K mg base CX0 1 A.fW A.dW ["self"] (spLoRow A.C) := ok_lorow R
  have GSg : FnOk P w K mg base CX0 1 B.fSg B.dSg ["self"] (spLoSg A.C A.T) := ok_losg R AF
  have GAd : FnOk P w K mg base (L2N.CX P w) 8 B.fAd B.dAd ["self", "other"] (spTwoX K A.C A.T Er 1) := ok_loaddX R Z AF I SE
  have GSu : FnOk P w K mg base (L2N.CX P w) 8 B.fSu B.dSu ["self", "other"] (spTwoX K A.C A.T Er (-1)) := ok_losubX R Z AF I SE
  obtain ⟨ocH, odH, kVH, docH, pmH, anH, cdvH, ctH, oslH, eH, lkH, cdH⟩ := D'.heard.F.ex
  have bH := D'.heard.b
  rw [eH] at lkH bH
  refine okT F scRi (fun vs H Q E h => by obtain ⟨p, rfl, _⟩ := h; rfl) (fun A' outer s H vs Q E hr h => ?_)
  obtain ⟨p, rfl, hp, tabs0, k⟩ := h
  have hr1 : Room 1 _ := hr.mono (by decide)
  have hr2' : Room 2 _ := hr.mono (by decide)
  have hr5 : Room 5 _ := hr.mono (by decide)
  have hr6 : Room 6 _ := hr.mono (by decide)
  have hr7 : Room 7 _ := hr.mono (by decide)
  refine ⟨_, pss_cons (ps_asg (pe_call GP hr5 rfl D'.pair.g D'.pair.kp D'.pair.b .nil pass0 (pa_cons (pv 0) pa_nil)) (pg_tup (by rfl) (pgs_cons (pg_name (i := 1) scRi.nd rfl (.inl rfl)) (pgs_cons (pg_name (i := 2) scRi.nd rfl (.inl rfl)) pgs_nil))))
    (pss_cons (ps_asg (pe_tup (pa_cons (pe_call GL hr6 rfl D'.lloop.g D'.lloop.kp D'.lloop.b .nil pass0 (pa_cons (pv 1) pa_nil)) (pa_cons (pe_call GL hr6 rfl D'.lloop.g D'.lloop.kp D'.lloop.b .nil pass0 (pa_cons (pv 2) pa_nil)) pa_nil))) (pg_tup (by rfl) (pgs_cons (pg_name (i := 3) scRi.nd rfl (.inr rfl)) (pgs_cons (pg_name (i := 4) scRi.nd rfl (.inr rfl)) pgs_nil))))
    (pss_cons (ps_join (ps_if (pt_cmpR (show OpR _ (compareOp .NotEq) (rNeQ K A.C A.T) from (op_neD hr.units).or (op_neI EF.at_ EF.fn EF.nf GEq hr5 EF.b pass0)) (pe_heard (T := [(Pt, qLam)]) (TT := TTQ K A.C A.T Er.cL Er.cO cN Er.cM) (k := 8) (Ng := NSh) (a := "_law_act") (by rfl) D'.heard.g D'.heard.kp lkH cdH bH scSh2 rfl (.inl rfl) (hears_sumQ R D'.face ZT FC S3 (by decide)) TB rfl (List.mem_singleton.mpr rfl) (fun y hy _ => congrArg Prod.snd (List.mem_singleton.mp hy)) hr (lamS_by (show lamSB (defScope sRight) _ = true by decide +kernel)) rfl (fun _ _ _ _ _ => rfl)
          (fun A2 outer2 s2 H2 E2 f2 c2 hr2 => pe_op (show OpR _ (binaryOp .Add) (rOpW K A.C "add" (spTwoX K A.C A.T Er 1) E2) from op_W (op := .Add) G.sf AF.mAd.at_ AF.mAd.fn G.rA (.inl rfl) GAd hr2 AF.bAd (passNs (L2N.takes_of rfl rfl rfl rfl))) (pv 3) (pv 4))) (pe_call GDu hr7 rfl D'.due.g D'.due.kp D'.due.b .nil pass0 (pa_cons (pv 1) (pa_cons (pv 2) (pa_cons pe_int (pa_cons pe_bl pa_nil))))) (nomark _)) (pss_one ps_never) pss_nil))
    (pss_cons (ps_join (ps_if (pt_cmpR (show OpR _ (compareOp .NotEq) (rNeQ K A.C A.T) from (op_neD hr.units).or (op_neI EF.at_ EF.fn EF.nf GEq hr5 EF.b pass0)) (pe_heard (T := [(Pt, qLam)]) (TT := TTQ K A.C A.T Er.cL Er.cO cN Er.cM) (k := 8) (Ng := NSh) (a := "_law_act") (by rfl) D'.heard.g D'.heard.kp lkH cdH bH scSh2 rfl (.inl rfl) (hears_sumQ R D'.face ZT FC S3 (by decide)) TB rfl (List.mem_singleton.mpr rfl) (fun y hy _ => congrArg Prod.snd (List.mem_singleton.mp hy)) hr (lamS_by (show lamSB (defScope sRight) _ = true by decide +kernel)) rfl (fun _ _ _ _ _ => rfl)
          (fun A2 outer2 s2 H2 E2 f2 c2 hr2 => pe_op (show OpR _ (binaryOp .Sub) (rOpW K A.C "sub" (spTwoX K A.C A.T Er (-1)) E2) from op_W (op := .Sub) G.sf AF.mSu.at_ AF.mSu.fn G.rS (.inl rfl) GSu hr2 AF.bSu (passNs (L2N.takes_of rfl rfl rfl rfl))) (pv 3) (pv 4))) (pe_call GDu hr7 rfl D'.due.g D'.due.kp D'.due.b .nil pass0 (pa_cons (pv 1) (pa_cons (pv 2) (pa_cons (pe_un un_neg pe_int) (pa_cons pe_bl pa_nil))))) (nomark _)) (pss_one ps_never) pss_nil))
    (pss_cons (ps_join (ps_if (pt_cmpR (show OpR _ (compareOp .NotEq) (rNeQ K A.C A.T) from (op_neD hr.units).or (op_neI EF.at_ EF.fn EF.nf GEq hr5 EF.b pass0)) (pe_heard (T := [(Pt, qLam)]) (TT := TTQ K A.C A.T Er.cL Er.cO cN Er.cM) (k := 8) (Ng := NSh) (a := "_law_act") (by rfl) D'.heard.g D'.heard.kp lkH cdH bH scSh2 rfl (.inl rfl) (hears_sumQ R D'.face ZT FC S3 (by decide)) TB rfl (List.mem_singleton.mpr rfl) (fun y hy _ => congrArg Prod.snd (List.mem_singleton.mp hy)) hr (lamS_by (show lamSB (defScope sRight) _ = true by decide +kernel)) rfl (fun _ _ _ _ _ => rfl)
          (fun A2 outer2 s2 H2 E2 f2 c2 hr2 => pe_op (show OpR _ (binaryOp .Sub) (rOpW K A.C "sub" (spTwoX K A.C A.T Er (-1)) E2) from op_W (op := .Sub) G.sf AF.mSu.at_ AF.mSu.fn G.rS (.inl rfl) GSu hr2 AF.bSu (passNs (L2N.takes_of rfl rfl rfl rfl))) (pv 4) (pv 3))) (pe_call GDu hr7 rfl D'.due.g D'.due.kp D'.due.b .nil pass0 (pa_cons (pv 2) (pa_cons (pv 1) (pa_cons (pe_un un_neg pe_int) (pa_cons pe_bl pa_nil))))) (nomark _)) (pss_one ps_never) pss_nil))
    (pss_cons (ps_join (ps_if (pt_cmpR (show OpR _ (compareOp .NotEq) (rNeQ K A.C A.T) from (op_neD hr.units).or (op_neI EF.at_ EF.fn EF.nf GEq hr5 EF.b pass0)) (pe_heard (T := [(Pt, qLam)]) (TT := TTQ K A.C A.T Er.cL Er.cO cN Er.cM) (k := 8) (Ng := NSh) (a := "_law_act") (by rfl) D'.heard.g D'.heard.kp lkH cdH bH scSh2 rfl (.inl rfl) (hears_sumQ R D'.face ZT FC S3 (by decide)) TB rfl (List.mem_singleton.mpr rfl) (fun y hy _ => congrArg Prod.snd (List.mem_singleton.mp hy)) hr (lamS_by (show lamSB (defScope sRight) _ = true by decide +kernel)) rfl (fun _ _ _ _ _ => rfl)
          (fun A2 outer2 s2 H2 E2 f2 c2 hr2 => pe_op (show OpR _ (binaryOp .Sub) (rOpW K A.C "sub" (spTwoX K A.C A.T Er (-1)) E2) from op_W (op := .Sub) G.sf AF.mSu.at_ AF.mSu.fn G.rS (.inl rfl) GSu hr2 AF.bSu (passNs (L2N.takes_of rfl rfl rfl rfl))) (pv 3) (pv 3))) (pe_call GDu hr7 rfl D'.due.g D'.due.kp D'.due.b .nil pass0 (pa_cons (pv 1) (pa_cons (pv 1) (pa_cons (pe_un un_neg pe_int) (pa_cons pe_bl pa_nil))))) (nomark _)) (pss_one ps_never) pss_nil))
    (pss_cons (ps_set (i := 5) scRi.nd rfl (.inr rfl) (pe_joinE (pe_ix ix_list (pe_lst (pa_cons (pe_call GO hr2' rfl D'.odd.g D'.odd.kp D'.odd.b .nil pass0 (pa_cons (pv 0) pa_nil)) (pa_cons (pe_prop (pv 3) R.L.cl R.hW GW hr2' R.bW .nil pass0 rfl) (pa_cons (pe_prop (pv 3) R.L.cl AF.hSg GSg hr2' AF.bSg .nil pass0 rfl) pa_nil)))) (pe_call GD hr1 rfl D'.draw.g D'.draw.kp D'.draw.b .nil pass0 (pa_cons (pv 0) (pa_cons pe_int pa_nil))) (fun _ _ => rfl))))
    (pss_cons (ps_join (ps_if (pt_cmpR (op_neD hr.units) (pe_heard (T := [(Pt, qLam)]) (TT := TTQ K A.C A.T Er.cL Er.cO cN Er.cM) (k := 8) (Ng := NSh) (a := "_law_act") (by rfl) D'.heard.g D'.heard.kp lkH cdH bH scSh2 rfl (.inl rfl) (hears_sumQ R D'.face ZT FC S3 (by decide)) TB rfl (List.mem_singleton.mpr rfl) (fun y hy _ => congrArg Prod.snd (List.mem_singleton.mp hy)) hr (lamS_by (show lamSB (defScope sRight) _ = true by decide +kernel)) rfl (fun _ _ _ _ _ => rfl)
          (fun A2 outer2 s2 H2 E2 f2 c2 hr2 => pe_op (show OpR _ (binaryOp .Add) (rOpW K A.C "add" (spTwoX K A.C A.T Er 1) E2) from op_W (op := .Add) G.sf AF.mAd.at_ AF.mAd.fn G.rA (.inl rfl) GAd hr2 AF.bAd (passNs (L2N.takes_of rfl rfl rfl rfl))) (pv 3) (pv 5))) (pe_lst (pa_cons pe_str (pa_cons (pe_call GF hr6 rfl D'.face.g D'.face.kp D'.face.b .nil pass0 (pa_cons (pv 5) pa_nil)) pa_nil))) (nomark _)) (pss_one ps_never) pss_nil))
    (pss_cons (ps_join (ps_if (pt_cmpR (op_neD hr.units) (pe_heard (T := [(Pt, qLam)]) (TT := TTQ K A.C A.T Er.cL Er.cO cN Er.cM) (k := 8) (Ng := NSh) (a := "_law_act") (by rfl) D'.heard.g D'.heard.kp lkH cdH bH scSh2 rfl (.inl rfl) (hears_sumQ R D'.face ZT FC S3 (by decide)) TB rfl (List.mem_singleton.mpr rfl) (fun y hy _ => congrArg Prod.snd (List.mem_singleton.mp hy)) hr (lamS_by (show lamSB (defScope sRight) _ = true by decide +kernel)) rfl (fun _ _ _ _ _ => rfl)
          (fun A2 outer2 s2 H2 E2 f2 c2 hr2 => pe_op (show OpR _ (binaryOp .Sub) (rOpW K A.C "sub" (spTwoX K A.C A.T Er (-1)) E2) from op_W (op := .Sub) G.sf AF.mSu.at_ AF.mSu.fn G.rS (.inl rfl) GSu hr2 AF.bSu (passNs (L2N.takes_of rfl rfl rfl rfl))) (pv 3) (pv 5))) (pe_lst (pa_cons pe_str (pa_cons (pe_call GF hr6 rfl D'.face.g D'.face.kp D'.face.b .nil pass0 (pa_cons (pv 5) pa_nil)) pa_nil))) (nomark _)) (pss_one ps_never) pss_nil))
    (pss_cons (ps_set (i := 6) scRi.nd rfl (.inl rfl) (pe_lst (pa_cons (pe_call GLi hr1 rfl D'.line.g D'.line.kp D'.line.b .nil pass0 (pa_cons (pv 1) pa_nil)) (pa_cons (pe_call GLi hr1 rfl D'.line.g D'.line.kp D'.line.b .nil pass0 (pa_cons (pv 2) pa_nil)) pa_nil))))
    (pss_one (ps_ret (pe_cmpR (op_eqD hr.units) (pe_call GF hr6 rfl D'.face.g D'.face.kp D'.face.b .nil pass0 (pa_cons (pe_lst (pa_cons (pe_prop (pv 3) R.L.cl R.hW GW hr2' R.bW .nil pass0 rfl) (pa_cons (pe_prop (pv 4) R.L.cl R.hW GW hr2' R.bW .nil pass0 rfl) pa_nil))) pa_nil)) (pe_call GF hr6 rfl D'.face.g D'.face.kp D'.face.b .nil pass0 (pa_cons (pv 6) pa_nil)) (nomark _))))))))))))), ?_⟩
  refine ⟨_, rfl, p, rfl, hp, fun t q1 q2 A0 B0 H1 ht OA OB n9 MA MB hp1 b1 => ⟨t, _, rfl, SqT.of ht, rfl, _, _, rfl, _, _, rfl, rfl, ?_⟩⟩
  have tb1 := Tabs.but tabs0 hp b1
  dsimp only [estRi, List.set]
  refine ⟨_, rfl, q1, A0, rfl, OA, MA, fun r sga H2 pa srA OAs LA nr s2 => ⟨_, rfl, q2, B0, rfl, OB, MB.same s2, fun q sgb H3 pb srB OBs LB nq s3 => ⟨by show 2 ≤ sizeLine; decide, fun T hT => ?_⟩⟩⟩
  have s4 := Same.put (o := .tup [V.ref r, .ref q]) (Same.refl H3) hT
  have hT4 : (L2.upd H3 T (.tup [V.ref r, .ref q])) T = some (.tup [V.ref r, .ref q]) := upd_same
  generalize L2.upd H3 T (.tup [V.ref r, .ref q]) = H4 at s4 hT4 ⊢
  refine ⟨T, _, rfl, SqT.of hT4, rfl, _, _, rfl, _, _, rfl, rfl, ?_⟩
  dsimp only [List.set]
  obtain ⟨A1, eA⟩ : ∃ A1, A1 = A0.srt sga := ⟨_, rfl⟩
  obtain ⟨B1, eB⟩ : ∃ B1, B1 = B0.srt sgb := ⟨_, rfl⟩
  have s14 := s2.trans (s3.trans s4)
  have D4 : TwoQ A.C A.T r q q1 q2 A1 B1 A0.sg B0.sg [(Pt, qLam)] H4 := ⟨eA ▸ LA.same (s3.trans s4), eB ▸ LB.same s4, by rw [eA]; exact MA.same s14, by rw [eB]; exact MB.same s14, Tabs.ext tb1 s14⟩
  have pa' : A0.sg.Perm A1.sg := by rw [eA]; exact pa.symm
  have pb' : B0.sg.Perm B1.sg := by rw [eB]; exact pb.symm
  have O1 : A1.Ok := eA ▸ OAs
  have O2 : B1.Ok := eB ▸ OBs
  have r1 : srtd A1.sg := by rw [eA]; exact srA
  have r2 : srtd B1.sg := by rw [eB]; exact srB
  have m9 : A1.n * B1.n ≤ 9 := by rw [eA, eB]; exact n9
  have K1 : TwoK A1 B1 A0.sg B0.sg := ⟨O1, O2, r1, r2, pa', pb', fun eg => Nat.le_trans (allF_few O1 O2 eg) m9⟩
  have K2 : TwoK B1 A1 B0.sg A0.sg := ⟨O2, O1, r2, r1, pb', pa', fun eg => Nat.le_trans (allF_few O2 O1 eg) (by rw [Nat.mul_comm]; exact m9)⟩
  have K3 : TwoK A1 A1 A0.sg A0.sg := ⟨O1, O1, r1, r1, pa', pa', fun _ => Nat.le_trans (allF_same O1) (by decide)⟩
  have hp4 := hp1.same s14
  have t4 : Bt p H H4 := Bt.of (b1.trans (But.of s14))
  clear LA LB MA MB hT hT4 s2 s3 s4 s14 hp1 b1 tb1 ht nr nq
  -- one + other
  refine ⟨fun σ' H' => σ' = [some (V.ref p), some (V.ref q1), some (V.ref q2), some (V.ref r), some (V.ref q), none, none] ∧ Xt H4 H' ∧ Tabs [(Pt, qLam)] H', sum_ask (f := 1) rfl rfl rfl rfl (.inl rfl) (fun _ _ h => h) K1 D4 (fun H' x' tb' => ⟨false, rfl, iteF ⟨rfl, x', tb'⟩⟩), ?_⟩
  rintro σ1 H5 ⟨rfl, x5, tb5⟩
  have D5 := D4.xt x5 tb5
  have hp5 := hp4.xt x5
  have t5 := t4.trans x5.bt
  clear D4 x5 tb5 hp4 t4
  -- one - other
  refine ⟨fun σ' H' => σ' = [some (V.ref p), some (V.ref q1), some (V.ref q2), some (V.ref r), some (V.ref q), none, none] ∧ Xt H5 H' ∧ Tabs [(Pt, qLam)] H', sum_ask (f := -1) rfl rfl rfl rfl (.inr rfl) (fun _ _ h => ⟨_, rfl, h⟩) K1 D5 (fun H' x' tb' => ⟨false, rfl, iteF ⟨rfl, x', tb'⟩⟩), ?_⟩
  rintro σ1 H6 ⟨rfl, x6, tb6⟩
  have D6 := D5.xt x6 tb6
  have hp6 := hp5.xt x6
  have t6 := t5.trans x6.bt
  clear D5 x6 tb6 hp5 t5
  -- other - one
  refine ⟨fun σ' H' => σ' = [some (V.ref p), some (V.ref q1), some (V.ref q2), some (V.ref r), some (V.ref q), none, none] ∧ Xt H6 H' ∧ Tabs [(Pt, qLam)] H', sum_ask (f := -1) rfl rfl rfl rfl (.inr rfl) (fun _ _ h => ⟨_, rfl, h⟩) K2 D6.swap (fun H' x' tb' => ⟨false, rfl, iteF ⟨rfl, x', tb'⟩⟩), ?_⟩
  rintro σ1 H7 ⟨rfl, x7, tb7⟩
  have D7 := D6.xt x7 tb7
  have hp7 := hp6.xt x7
  have t7 := t6.trans x7.bt
  clear D6 x7 tb7 hp6 t6
  -- one - one
  refine ⟨fun σ' H' => σ' = [some (V.ref p), some (V.ref q1), some (V.ref q2), some (V.ref r), some (V.ref q), none, none] ∧ Xt H7 H' ∧ Tabs [(Pt, qLam)] H', sum_ask (f := -1) rfl rfl rfl rfl (.inr rfl) (fun _ _ h => ⟨_, rfl, h⟩) K3 ⟨D7.LA, D7.LA, D7.MA, D7.MA, D7.tb⟩ (fun H' x' tb' => ⟨false, rfl, iteF ⟨rfl, x', tb'⟩⟩), ?_⟩
  rintro σ1 H8 ⟨rfl, x8, tb8⟩
  have D8 := D7.xt x8 tb8
  have hp8 := hp7.xt x8
  have t8 := t7.trans x8.bt
  clear D7 x8 tb8 hp7 t7
  -- another thing
  refine ⟨fun v H' => ∃ d, Thing H' 5 v d ∧ d.canLay0 = true ∧ PyData.depth d ≤ 60 ∧ PoolAt H' p ∧ But p H8 H', ?_, ?_⟩
  · refine ⟨_, rfl, p, rfl, hp8, fun x1 d1 G1 hx1 hpG1 bG1 => ?_⟩
    have DG := D8.but hp8 bG1
    obtain ⟨dx, t, rr, u, y, tb, as, bs, h0, pr, TA⟩ := id DG.LA
    obtain ⟨l1, l2, l3, l4, l5, l6⟩ := lf_look (S A1.sg) t rr u y tb
    refine ⟨_, rfl, r, dx, _, rfl, h0, r, dx, t, rr, u, y, _, _, rfl, h0, l1, l2, l3, l4, l5, fun qr hqr => ?_⟩
    have s1 := Same.put (o := .tup [.str (S A1.sg), .ref t, .ref rr, .ref u, .ref y]) (Same.refl G1) hqr
    have e1 : (L2.upd G1 qr (.tup [.str (S A1.sg), .ref t, .ref rr, .ref u, .ref y])) qr = some (.tup [.str (S A1.sg), .ref t, .ref rr, .ref u, .ref y]) := upd_same
    generalize L2.upd G1 qr (.tup [.str (S A1.sg), .ref t, .ref rr, .ref u, .ref y]) = G2 at s1 e1 ⊢
    refine ⟨_, rfl, r, dx, _, rfl, s1 _ _ h0, r, A1, rfl, DG.LA.same s1, by show 3 ≤ sizeLine; decide, fun L hL => ?_⟩
    have s2 := Same.put (o := .lst [x1, .ref qr, .str (S A1.sg)]) (Same.refl G2) hL
    have e2 : (L2.upd G2 L (.lst [x1, .ref qr, .str (S A1.sg)])) L = some (.lst [x1, .ref qr, .str (S A1.sg)]) := upd_same
    generalize L2.upd G2 L (.lst [x1, .ref qr, .str (S A1.sg)]) = G3 at s2 e2 ⊢
    have hpG3 := (hpG1.same s1).same s2
    refine ⟨_, rfl, p, 3, rfl, by decide, by decide, hpG3, fun g G4 g0 g1 hpG4 bG4 => ?_⟩
    have e4 := bG4 _ _ (pool_other hpG3 e2 fun a b c z => by
      injection z with z
      injection z with _ z
      injection z with z _
      cases z) e2
    have b84 : But p H8 G4 := (bG1.trans (But.of (s1.trans s2))).trans bG4
    obtain ⟨j, rfl⟩ : ∃ j : Nat, g = (j : Int) := ⟨g.toNat, by omega⟩
    have hj : j < 3 := by omega
    rcases j with _ | _ | _ | j
    · have hx4 := ((hx1.same s1).same s2).but bG4
      refine ⟨L, _, _, x1, rfl, rfl, SqL.of e4, atI_nat (j := 0) rfl, d1, hx4.1.same (fun b o h => ?_), hx4.2.2.2.1, hx4.2.2.2.2, hpG4, b84⟩
      unfold cut at h
      split at h
      · cases h
      · exact h
    · obtain ⟨_, _, _, ep, _⟩ := id hpG3
      have pr4 := Prt.but (fun x z => by cases z) ep bG4 ((pr.same s1).same s2)
      have q4 := bG4 _ _ (pool_other hpG3 (s2 _ _ e1) fun a b c z => by cases z) (s2 _ _ e1)
      exact ⟨L, _, _, .ref qr, rfl, rfl, SqL.of e4, atI_nat (j := 1) rfl, loopF A1, (loopF_thing O1 (pr4.row q4)).up, loopF_lay O1, Nat.le_trans (loopF_depth A1) (by decide), hpG4, b84⟩
    · refine ⟨L, _, _, .str (S A1.sg), rfl, rfl, SqL.of e4, atI_nat (j := 2) rfl, plainD (.str (S A1.sg)), .inl (.str _), ?_, by show max 0 (max 0 0) + 1 ≤ 60; decide, hpG4, b84⟩
      show (PyData.strOk "plain" && (PyData.strOk (S A1.sg) && true)) = true
      rw [ok_codes (fun c hc => by have := O1.sgs.low c hc; omega)]
      decide +kernel
    · omega
  rintro x H9 ⟨d, th, lay, dep, hp9, b9⟩
  have D9 := D8.but hp8 b9
  have t9 := t8.trans (Bt.of b9)
  clear D8 hp8 t8 b9
  dsimp only [List.set]
  refine ⟨fun σ' H' => σ' = [some (V.ref p), some (V.ref q1), some (V.ref q2), some (V.ref r), some (V.ref q), some x, none] ∧ Xt H9 H' ∧ Tabs [(Pt, qLam)] H', odd_ask G (.inl rfl) rfl rfl D9.LA O1 r1 th lay dep D9.tb (fun H' x' tb' => ⟨false, rfl, iteF ⟨rfl, x', tb'⟩⟩), ?_⟩
  rintro σ1 Ha ⟨rfl, xa, tba⟩
  have Da := D9.xt xa tba
  have ta := t9.trans xa.bt
  have tha : Thing Ha 5 x d := (Thing.noT th).same xa
  clear D9 t9 th hp9 xa tba
  refine ⟨fun σ' H' => σ' = [some (V.ref p), some (V.ref q1), some (V.ref q2), some (V.ref r), some (V.ref q), some x, none] ∧ Xt Ha H' ∧ Tabs [(Pt, qLam)] H', odd_ask G (.inr rfl) rfl rfl Da.LA O1 r1 tha lay dep Da.tb (fun H' x' tb' => ⟨false, rfl, iteF ⟨rfl, x', tb'⟩⟩), ?_⟩
  rintro σ1 Hb ⟨rfl, xb, tbb⟩
  have Db := Da.xt xb tbb
  have tb' := ta.trans xb.bt
  clear Da ta tha xb tbb
  dsimp only [List.set]
  have OAm : (A1.srt A0.sg).Ok := by rw [eA]; exact OA
  have OBm : (B1.srt B0.sg).Ok := by rw [eB]; exact OB
  refine ⟨_, rfl, q1, _, rfl, OAm, Db.MA, fun ra sg1 Hc pm1 sr1 RA na sc => ?_⟩
  obtain rfl : sg1 = A1.sg := sg_same sr1 r1 (pm1.trans pa') (List.Perm.refl _)
  have RA : RowAt Hc ra A1 := RA
  refine ⟨_, rfl, q2, _, rfl, OBm, Db.MB.same sc, fun rb sg2 Hd pm2 sr2 RB nb sd => ⟨by show 2 ≤ sizeLine; decide, fun L hL => ?_⟩⟩
  obtain rfl : sg2 = B1.sg := sg_same sr2 r2 (pm2.trans pb') (List.Perm.refl _)
  have RB : RowAt Hd rb B1 := RB
  have se := Same.put (o := .lst [V.ref ra, .ref rb]) (Same.refl Hd) hL
  have eL : (L2.upd Hd L (.lst [V.ref ra, .ref rb])) L = some (.lst [V.ref ra, .ref rb]) := upd_same
  generalize L2.upd Hd L (.lst [V.ref ra, .ref rb]) = He at se eL ⊢
  dsimp only [List.set]
  have sbe := sc.trans (sd.trans se)
  have De := Db.same sbe
  have thA : Thing He 4 (.ref ra) (loopF A1) := (loopF_thing O1 RA).same (sd.trans se)
  have thB : Thing He 4 (.ref rb) (loopF B1) := (loopF_thing O2 RB).same se
  obtain ⟨dd, edd⟩ : ∃ dd, dd = PyData.list [.str "list", loopF A1, loopF B1] := ⟨_, rfl⟩
  have lay : dd.canLay0 = true := by
    rw [edd]
    show (PyData.strOk "list" && ((loopF A1).canLay0 && ((loopF B1).canLay0 && true))) = true
    rw [loopF_lay O1, loopF_lay O2]
    decide +kernel
  have dep : PyData.depth dd ≤ 64 := by
    rw [edd]
    show max 0 (max (PyData.depth (loopF A1)) (max (PyData.depth (loopF B1)) 0)) + 1 ≤ 64
    have := loopF_depth A1
    have := loopF_depth B1
    omega
  obtain ⟨dx, t, rr, u, y, tb, as, bs, h0, pr, TA⟩ := id De.LA
  obtain ⟨l1, l2, l3, l4, l5, l6⟩ := lf_look (S A1.sg) t rr u y tb
  refine ⟨_, rfl, r, dx, _, rfl, h0, r, dx, t, rr, u, y, _, _, rfl, h0, l1, l2, l3, l4, l5, fun ra2 hra2 => ?_⟩
  have sf := Same.put (o := .tup [.str (S A1.sg), .ref t, .ref rr, .ref u, .ref y]) (Same.refl He) hra2
  have RA2 : RowAt (L2.upd He ra2 (.tup [.str (S A1.sg), .ref t, .ref rr, .ref u, .ref y])) ra2 A1 := (pr.same sf).row upd_same
  generalize L2.upd He ra2 (.tup [.str (S A1.sg), .ref t, .ref rr, .ref u, .ref y]) = Hf at sf RA2 ⊢
  obtain ⟨ex, t2, rr2, u2, y2, tb2, as2, bs2, g0, pr2, TB2⟩ := id (De.LB.same sf)
  obtain ⟨m1, m2, m3, m4, m5, m6⟩ := lf_look (S B1.sg) t2 rr2 u2 y2 tb2
  refine ⟨_, rfl, q, ex, _, rfl, g0, q, ex, t2, rr2, u2, y2, _, _, rfl, g0, m1, m2, m3, m4, m5, fun rb2 hrb2 => ?_⟩
  have sg' := Same.put (o := .tup [.str (S B1.sg), .ref t2, .ref rr2, .ref u2, .ref y2]) (Same.refl Hf) hrb2
  have RB2 : RowAt (L2.upd Hf rb2 (.tup [.str (S B1.sg), .ref t2, .ref rr2, .ref u2, .ref y2])) rb2 B1 := (pr2.same sg').row upd_same
  generalize L2.upd Hf rb2 (.tup [.str (S B1.sg), .ref t2, .ref rr2, .ref u2, .ref y2]) = Hg at sg' RB2 ⊢
  refine ⟨by show 2 ≤ sizeLine; decide, fun L2' hL2 => ?_⟩
  have sh := Same.put (o := .lst [V.ref ra2, .ref rb2]) (Same.refl Hg) hL2
  have eL2 : (L2.upd Hg L2' (.lst [V.ref ra2, .ref rb2])) L2' = some (.lst [V.ref ra2, .ref rb2]) := upd_same
  generalize L2.upd Hg L2' (.lst [V.ref ra2, .ref rb2]) = Hh at sh eL2 ⊢
  have thA2 : Thing Hh 4 (.ref ra2) (loopF A1) := (loopF_thing O1 RA2).same (sg'.trans sh)
  have thB2 : Thing Hh 4 (.ref rb2) (loopF B1) := (loopF_thing O2 RB2).same sh
  have seh := sf.trans (sg'.trans sh)
  have two2 : Thing Hh 5 (.ref L2') dd := .inr (.inl ⟨L2', _, [loopF A1, loopF B1], rfl, eL2, by show 2 ≤ 1000; decide, .cons thA2 (.cons thB2 .nil), edd⟩)
  have two1 : Thing Hh 5 (.ref L) dd := .inr (.inl ⟨L, _, [loopF A1, loopF B1], rfl, seh _ _ eL, by show 2 ≤ 1000; decide, .cons (thA.same seh) (.cons (thB.same seh) .nil), edd⟩)
  refine .inl ⟨.ref L2', dd, rfl, two2, fun f1 Hi nf1 si dp1 => ⟨_, rfl, .inl ⟨.ref L, dd, rfl, two1.same si, fun f2 Hj nf2 sj dp2 => ?_⟩⟩⟩
  refine ⟨dd, dd, Dp.stay sj (Dp.stay New.sub dp1), Dp.stay New.sub dp2, shaped_of lay dep, shaped_of lay dep, ?_⟩
  rw [SeqAt.eqv_refl _ lay]
  have sAll := sbe.trans (seh.trans (si.trans sj))
  exact k Hj (tb'.trans (Bt.same sAll)) (Tabs.ext Db.tb sAll)
end
end Wb
namespace Wb
open PySem L2 WbMin WbO WbS WbT Lz Le LamX
abbrev sLaw : Stmt := top 71
def spLawT (K : PySem.W.Frag) (Pt : Addr) : Sp := fun vs H Q _ => ∃ (a : Addr) (ns : List Int), vs = [.ref a] ∧ SqL K H a (ns.map V.int) ∧ ns.length ≤ 63 ∧ Tabs [(Pt, qLam)] H ∧ ∀ H', Q (.bl true) H'
theorem SqL.noT {K : PySem.W.Frag} {H : Hp} {a : Addr} {xs : List V} (h : SqL K H a xs) : SqL K (noT H) a xs := by
  rcases h with (q | ⟨o, q⟩) | q
  · exact .inl (.inl (noT_at q (fun _ z => by cases z)))
  · exact .inl (.inr ⟨o, noT_at q (fun _ z => by cases z)⟩)
  · exact .inr q
theorem Tabs.put {T : List (Addr × Str)} {H : Hp} {L : Addr} {xs : List V} {o : HO} (t : Tabs T H) (h : H L = some (.lst xs)) : Tabs T (upd H L o) := fun y hy => by
  obtain ⟨ps, h1, h2, h3⟩ := t y hy
  have n1 : y.1 ≠ L := ne_of h1 h fun z => by cases z
  refine ⟨ps, (upd_ne n1).trans h1, h2, fun pos cv hc => ?_⟩
  obtain ⟨c, e1, e2⟩ := h3 pos cv hc
  exact ⟨c, e1, (upd_ne (ne_of e2 h fun z => by cases z)).trans e2⟩
theorem Tabs.new {T : List (Addr × Str)} {H : Hp} {L : Addr} {o : HO} (t : Tabs T H) (h : H L = none) : Tabs T (upd H L o) := fun y hy => by
  obtain ⟨ps, h1, h2, h3⟩ := t y hy
  refine ⟨ps, (upd_ne (ne_of_none h1 h)).trans h1, h2, fun pos cv hc => ?_⟩
  obtain ⟨c, e1, e2⟩ := h3 pos cv hc
  exact ⟨c, e1, (upd_ne (ne_of_none e2 h)).trans e2⟩
section
variable {P : Program} {w : World} {K : PySem.W.Frag} {mg : Str → Option Value} {base : Heap} {f c Pt e cN : Addr} {fd : FuncData} {A : LA} {B : AddA} {S2 : SmA} {Er : SerA} {BE : EqA} {D : DA}
theorem scLa : FnScope ["_law_script", "_law_k"] ["_law_script"] (defScope sLaw) := ⟨rfl, rfl, rfl, by decide +kernel, rfl, by decide +kernel, by decide +kernel⟩
theorem ok_law (F : Fun K "law" "law" sLaw f fd) (TB : TabB base mg c Pt) (FT : FunT K "_law_right" "_law_right" sRight D.right D.dright c) (Z : Free mg) (ZT : FreeT mg) (R : LoopF K mg A e) (AF : AddF K mg A B S2) (SE : SerF K mg Er) (EF : EqF K mg A BE) (I : IsiF K A.C) (FC : FaceC K A.C) (G : OpsQ K A.C) (S3 : SumC K mg Er.cL Er.cO cN Er.cM)
    (mStr : mg "str" = none) (D' : Defs K mg D) : FnOk P w K mg base CX0 12 f fd ["_law_script"] (spLawT K Pt) := by
  have GC : FnOk P w K mg base CX0 1 D.cell D.dcell ["_law_script", "_law_k"] (spCell K) := ok_cell D'.cell.F Z.int Z.len
  have GP : FnOk P w K mg base CX0 1 D.pool D.dpool ["_law_cell_here"] spPool := ok_pool D'.pool.F Z.abs Z.int
  have GR : FnOk P w K mg base CX0 11 D.right D.dright ["_law_pool_here"] (spRightT c Pt) := ok_right FT TB Z ZT R AF SE EF I FC G S3 mStr D'
  refine F.ok scLa (fun vs H Q E h => ?_) (fun cdv A' outer s H vs Q E hr h => ?_)
  · obtain ⟨a, ns, rfl, _⟩ := h
    rfl
  · obtain ⟨a, ns, rfl, hS, hlen, tabs, k⟩ := h
    have hr1 : Room 1 _ := hr.mono (by decide)
    refine ⟨_, pss_one (ps_ret (pe_callB (cr_all rfl) (by rfl) Z.all (by decide +kernel) (pa_cons
      (pe_lc (own := [("_law_k", 1)]) (g := gName 1) (tt := tYes) rfl scLa.nd (pi_range1 rfl Z.range (pa_cons (pe_callB (call_max2 rfl) (by rfl) Z.max (by decide +kernel) (pa_cons pe_int (pa_cons
            (pe_callB (call_min2 rfl) (by rfl) Z.min (by decide +kernel) (pa_cons (pe_callB call_len_seq (by rfl) Z.len PySem.boot_len (pa_cons (pv 0) pa_nil)) (pa_cons pe_int pa_nil))) pa_nil))) pa_nil))
        (blkOk_by (N := ["_law_script", "_law_k"]) (sc := defScope sLaw) (by decide +kernel)) (fun _ _ _ _ _ => pg_name (i := 1) scLa.nd rfl (.inl rfl)) (fun _ _ _ _ _ => pts_nil)
        (fun _ _ _ _ _ => pe_call GR hr rfl D'.right.g D'.right.kp D'.right.b .nil pass0 (pa_cons (pe_call GP hr1 rfl D'.pool.g D'.pool.kp D'.pool.b .nil pass0 (pa_cons (pe_call GC hr1 rfl D'.cell.g D'.cell.kp D'.cell.b .nil pass0 (pa_cons (pv 0) (pa_cons (pv 1) pa_nil))) pa_nil)) pa_nil))) pa_nil))), ?_⟩
    have few : (ns.map V.int).length ≤ 63 := by rw [List.length_map]; exact hlen
    have all2 : ∀ n : Nat, (List.replicate n true).all id = true := fun n => List.all_eq_true.mpr fun b hb => by rw [List.eq_of_mem_replicate hb] <;> rfl
    refine ⟨_, rfl, a, _, rfl, .inl hS, _, _, rfl, _, _, rfl, _, rfl, ?_, ?_, fun L hL => lc_it walk_range (fun i H3 => H3 L = some (.lst ((List.replicate i true).map V.bl)) ∧ Xt H H3 ∧ Tabs [(Pt, qLam)] H3) ⟨upd_same, Xt.of (Same.put (Same.refl H) hL), Tabs.new tabs hL⟩ (fun _ _ _ _ => trivial) ?_ ?_⟩
    · split <;> split <;> omega
    · split <;> split <;> omega
    · rintro i x H3 H3' hi ⟨h1, h2, h3⟩ ⟨rfl, rfl⟩
      have hi' : i < 8 := by
        have q := hi
        split at q <;> (try split at q) <;> omega
      refine ⟨rfl, _, rfl, _, rfl, a, ns, _, rfl, Same.seq h2 (SqL.noT hS), hlen, by omega, by omega, fun n H4 s4 => ⟨_, rfl, fun p H5 np s5 hp => ⟨p, rfl, hp, Tabs.ext h3 (s4.trans s5), fun H6 b6 t6 => ?_⟩⟩⟩
      have h4 := s4 _ _ h1
      have s6 : Xt H H6 := fun b o e => by
        have q := s4 _ _ (h2 _ _ e)
        exact b6 b o (ne_of_none q np) (noT_at (s5 _ _ q) (noT_inv e).2)
      have hL6 := b6 L _ (ne_of_none h4 np) (noT_at (s5 _ _ h4) (fun _ z => by cases z))
      refine ⟨_, hL6, ?_, ?_, ?_, Tabs.put t6 hL6⟩
      · rw [List.length_map, List.length_replicate, sizeLine_eq]
        omega
      · rw [upd_same, List.replicate_succ', List.map_append] <;> rfl
      · exact fun b o e => by
          rw [upd_ne (ne_of_none (noT_inv e).1 hL)]
          exact s6 b o e
    · rintro H3 ⟨h1, h2, h3⟩
      refine ⟨L, _, rfl, SqL.of h1, ?_⟩
      rw [all2]
      exact k H3
end
end Wb
namespace Wb
open PySem L2 WbMin WbS Lz
set_option maxHeartbeats 0 in
theorem all_mk {l : PySem.W.OpenLaw} {w : World} {K : PySem.W.Frag} {h : Heap} {mg : Str → Option Value} {fa C T O  tD kD e e2 pSg pW : Addr} {t600 t4 t8 t6  : Tok} {rSg rW : List Value} {oc_tD : Value} {od_tD : Option Addr} {n_tD : Nat} {sl_tD : Array (Option Value)} (X : K.In h) (G : h.Ns mainGlobals mg) (hfa : mg "law" = some (.ref fa))
    {f_cell f_pool f_draw f_shuf f_face f_odd f_signs f_name f_names f_amount f_model f_line f_lloop f_product f_heard f_due f_pair f_right f_ksigns f_ksignof f_kfirst f_kisword f_kisname f_kisint f_kintfrom f_kstateof f_krowof f_kturnof f_kchst f_kchro f_kchtu f_kchye f_korro f_kortu f_korye f_lo f_so f_sr f_pf f_iy f_law f_mI f_mW f_mAn f_mSt f_mTx f_mGo f_mOf f_mtI f_mtG f_mcI f_mcP f_mcB f_mSg f_mAd f_mSu f_mEq : Addr} {od_cell an_cell od_pool an_pool od_draw an_draw od_shuf an_shuf od_face an_face od_odd an_odd od_signs an_signs od_name an_name od_names an_names od_amount an_amount od_model an_model od_line an_line od_lloop an_lloop od_product an_product od_heard an_heard od_due an_due od_pair an_pair od_right an_right od_ksigns an_ksigns od_ksignof an_ksignof od_kfirst an_kfirst od_kisword an_kisword od_kisname an_kisname od_kisint an_kisint od_kintfrom an_kintfrom od_kstateof an_kstateof od_krowof an_krowof od_kturnof an_kturnof od_kchst an_kchst od_kchro an_kchro od_kchtu an_kchtu od_kchye an_kchye od_korro an_korro od_kortu an_kortu od_korye an_korye od_lo an_lo od_so an_so od_sr an_sr od_pf an_pf od_iy an_iy od_law an_law od_mI an_mI od_mW an_mW od_mAn an_mAn od_mSt an_mSt od_mTx an_mTx od_mGo an_mGo od_mOf an_mOf od_mtI an_mtI od_mtG an_mtG od_mcI an_mcI od_mcP an_mcP od_mcB an_mcB od_mSg an_mSg od_mAd an_mAd od_mSu an_mSu od_mEq an_mEq : Option Addr} {sl_cell sl_pool sl_draw sl_shuf sl_face sl_odd sl_signs sl_name sl_names sl_amount sl_model sl_line sl_lloop sl_product sl_heard sl_due sl_pair sl_right sl_ksigns sl_ksignof sl_kfirst sl_kisword sl_kisname sl_kisint sl_kintfrom sl_kstateof sl_krowof sl_kturnof sl_kchst sl_kchro sl_kchtu sl_kchye sl_korro sl_kortu sl_korye sl_lo sl_so sl_sr sl_pf sl_iy sl_law sl_mI sl_mW sl_mAn sl_mSt sl_mTx sl_mGo sl_mOf sl_mtI sl_mtG sl_mcI sl_mcP sl_mcB sl_mSg sl_mAd sl_mSu sl_mEq : Array (Option Value)}
    {cRt PtR w0 : Addr}
    {oc_cR : Value}
    {od_cR : Option Addr}
    {sl_cR : Array (Option Value)}
    {vsR : Array Value}
    {om_add_int or_add_int : Option Value}
    {om_sub_int or_sub_int : Option Value}
    {om_add_bool or_add_bool : Option Value}
    {om_sub_bool or_sub_bool : Option Value}
    {om_add_NoneType or_add_NoneType : Option Value}
    {om_sub_NoneType or_sub_NoneType : Option Value}
    {om_add_str or_add_str : Option Value}
    {om_sub_str or_sub_str : Option Value}
    {om_add_list or_add_list : Option Value}
    {om_sub_list or_sub_list : Option Value}
    {om_add_tuple or_add_tuple : Option Value}
    {om_sub_tuple or_sub_tuple : Option Value}
    {om_add_dict or_add_dict : Option Value}
    {om_sub_dict or_sub_dict : Option Value}
    {cL : Addr}
    {cO : Addr}
    {cN : Addr}
    {cM : Addr}
    {NL f_eL : Addr}
    {nmL qL : Str}
    {bsL suL : List Value}
    {snL : List Str}
    {abL : Bool}
    {coL : Option Bool}
    {ddL : Option Addr}
    {xL_0 xL_1 xL_2 xL_3 xL_5 : Option Value}
    {od_eL an_eL : Option Addr}
    {sl_eL : Array (Option Value)}
    {oc_eL kv_eL dc_eL pm_eL cd_eL ct_eL : Value}
    {NO f_eO : Addr}
    {nmO qO : Str}
    {bsO suO : List Value}
    {snO : List Str}
    {abO : Bool}
    {coO : Option Bool}
    {ddO : Option Addr}
    {xO_0 xO_1 xO_2 xO_3 xO_5 : Option Value}
    {od_eO an_eO : Option Addr}
    {sl_eO : Array (Option Value)}
    {oc_eO kv_eO dc_eO pm_eO cd_eO ct_eO : Value}
    {f_eM : Addr}
    {od_eM an_eM : Option Addr}
    {sl_eM : Array (Option Value)}
    {oc_eM kv_eM dc_eM pm_eM cd_eM ct_eM : Value}
    {oc_cell kv_cell dc_cell pm_cell cd_cell ct_cell oc_pool kv_pool dc_pool pm_pool cd_pool ct_pool oc_draw kv_draw dc_draw pm_draw cd_draw ct_draw oc_shuf kv_shuf dc_shuf pm_shuf cd_shuf ct_shuf oc_face kv_face dc_face pm_face cd_face ct_face oc_odd kv_odd dc_odd pm_odd cd_odd ct_odd oc_signs kv_signs dc_signs pm_signs cd_signs ct_signs oc_name kv_name dc_name pm_name cd_name ct_name oc_names kv_names dc_names pm_names cd_names ct_names oc_amount kv_amount dc_amount pm_amount cd_amount ct_amount oc_model kv_model dc_model pm_model cd_model ct_model oc_line kv_line dc_line pm_line cd_line ct_line oc_lloop kv_lloop dc_lloop pm_lloop cd_lloop ct_lloop oc_product kv_product dc_product pm_product cd_product ct_product oc_heard kv_heard dc_heard pm_heard cd_heard ct_heard oc_due kv_due dc_due pm_due cd_due ct_due oc_pair kv_pair dc_pair pm_pair cd_pair ct_pair oc_right kv_right dc_right pm_right ct_right oc_ksigns kv_ksigns dc_ksigns pm_ksigns cd_ksigns ct_ksigns oc_ksignof kv_ksignof dc_ksignof pm_ksignof cd_ksignof ct_ksignof oc_kfirst kv_kfirst dc_kfirst pm_kfirst cd_kfirst ct_kfirst oc_kisword kv_kisword dc_kisword pm_kisword cd_kisword ct_kisword oc_kisname kv_kisname dc_kisname pm_kisname cd_kisname ct_kisname oc_kisint kv_kisint dc_kisint pm_kisint cd_kisint ct_kisint oc_kintfrom kv_kintfrom dc_kintfrom pm_kintfrom cd_kintfrom ct_kintfrom oc_kstateof kv_kstateof dc_kstateof pm_kstateof cd_kstateof ct_kstateof oc_krowof kv_krowof dc_krowof pm_krowof cd_krowof ct_krowof oc_kturnof kv_kturnof dc_kturnof pm_kturnof cd_kturnof ct_kturnof oc_kchst kv_kchst dc_kchst pm_kchst cd_kchst ct_kchst oc_kchro kv_kchro dc_kchro pm_kchro cd_kchro ct_kchro oc_kchtu kv_kchtu dc_kchtu pm_kchtu cd_kchtu ct_kchtu oc_kchye kv_kchye dc_kchye pm_kchye cd_kchye ct_kchye oc_korro kv_korro dc_korro pm_korro cd_korro ct_korro oc_kortu kv_kortu dc_kortu pm_kortu cd_kortu ct_kortu oc_korye kv_korye dc_korye pm_korye cd_korye ct_korye oc_lo kv_lo dc_lo pm_lo cd_lo ct_lo oc_so kv_so dc_so pm_so cd_so ct_so oc_sr kv_sr dc_sr pm_sr cd_sr ct_sr oc_pf kv_pf dc_pf pm_pf cd_pf ct_pf oc_iy kv_iy dc_iy pm_iy cd_iy ct_iy oc_law kv_law dc_law pm_law cd_law ct_law oc_mI dc_mI pm_mI cd_mI ct_mI oc_mW kv_mW dc_mW pm_mW cd_mW ct_mW oc_mAn kv_mAn dc_mAn pm_mAn cd_mAn ct_mAn oc_mSt kv_mSt dc_mSt pm_mSt cd_mSt ct_mSt oc_mTx kv_mTx dc_mTx pm_mTx cd_mTx ct_mTx oc_mGo kv_mGo dc_mGo pm_mGo cd_mGo ct_mGo oc_mOf kv_mOf dc_mOf pm_mOf cd_mOf ct_mOf oc_mtI kv_mtI dc_mtI pm_mtI cd_mtI ct_mtI oc_mtG kv_mtG dc_mtG pm_mtG cd_mtG ct_mtG oc_mcI kv_mcI dc_mcI pm_mcI cd_mcI ct_mcI oc_mcP kv_mcP dc_mcP pm_mcP cd_mcP ct_mcP oc_mcB kv_mcB dc_mcB pm_mcB cd_mcB ct_mcB oc_mSg kv_mSg dc_mSg pm_mSg cd_mSg ct_mSg oc_mAd kv_mAd dc_mAd pm_mAd cd_mAd ct_mAd oc_mSu kv_mSu dc_mSu pm_mSu cd_mSu ct_mSu oc_mEq kv_mEq dc_mEq pm_mEq cd_mEq ct_mEq : Value}
    (a_cell : PySem.W.nsIn K mainGlobals "_law_cell" = some (some (.ref f_cell)))
    (l_cell : K.lookup f_cell = some ⟨oc_cell, od_cell, .func (PySem.W.fnOf "_law_cell" "_law_cell" (defArgs sCell) (defBody sCell) (defScope sCell) .none kv_cell dc_cell pm_cell an_cell cd_cell ct_cell), sl_cell⟩)
    (c_cell : PySem.W.codeIn K cd_cell "_law_cell" = true)
    (k_cell : PySem.W.keepIn K (.ref f_cell) = true)
    (a_pool : PySem.W.nsIn K mainGlobals "_law_pool" = some (some (.ref f_pool)))
    (l_pool : K.lookup f_pool = some ⟨oc_pool, od_pool, .func (PySem.W.fnOf "_law_pool" "_law_pool" (defArgs sPool) (defBody sPool) (defScope sPool) .none kv_pool dc_pool pm_pool an_pool cd_pool ct_pool), sl_pool⟩)
    (c_pool : PySem.W.codeIn K cd_pool "_law_pool" = true)
    (k_pool : PySem.W.keepIn K (.ref f_pool) = true)
    (a_draw : PySem.W.nsIn K mainGlobals "_law_draw" = some (some (.ref f_draw)))
    (l_draw : K.lookup f_draw = some ⟨oc_draw, od_draw, .func (PySem.W.fnOf "_law_draw" "_law_draw" (defArgs sDraw) (defBody sDraw) (defScope sDraw) .none kv_draw dc_draw pm_draw an_draw cd_draw ct_draw), sl_draw⟩)
    (c_draw : PySem.W.codeIn K cd_draw "_law_draw" = true)
    (k_draw : PySem.W.keepIn K (.ref f_draw) = true)
    (a_shuf : PySem.W.nsIn K mainGlobals "_law_shuffled" = some (some (.ref f_shuf)))
    (l_shuf : K.lookup f_shuf = some ⟨oc_shuf, od_shuf, .func (PySem.W.fnOf "_law_shuffled" "_law_shuffled" (defArgs sShuf) (defBody sShuf) (defScope sShuf) .none kv_shuf dc_shuf pm_shuf an_shuf cd_shuf ct_shuf), sl_shuf⟩)
    (c_shuf : PySem.W.codeIn K cd_shuf "_law_shuffled" = true)
    (k_shuf : PySem.W.keepIn K (.ref f_shuf) = true)
    (a_face : PySem.W.nsIn K mainGlobals "_law_face" = some (some (.ref f_face)))
    (l_face : K.lookup f_face = some ⟨oc_face, od_face, .func (PySem.W.fnOf "_law_face" "_law_face" (defArgs sFace) (defBody sFace) (defScope sFace) .none kv_face dc_face pm_face an_face cd_face ct_face), sl_face⟩)
    (c_face : PySem.W.codeIn K cd_face "_law_face" = true)
    (k_face : PySem.W.keepIn K (.ref f_face) = true)
    (a_odd : PySem.W.nsIn K mainGlobals "_law_odd" = some (some (.ref f_odd)))
    (l_odd : K.lookup f_odd = some ⟨oc_odd, od_odd, .func (PySem.W.fnOf "_law_odd" "_law_odd" (defArgs sLOdd) (defBody sLOdd) (defScope sLOdd) .none kv_odd dc_odd pm_odd an_odd cd_odd ct_odd), sl_odd⟩)
    (c_odd : PySem.W.codeIn K cd_odd "_law_odd" = true)
    (k_odd : PySem.W.keepIn K (.ref f_odd) = true)
    (a_signs : PySem.W.nsIn K mainGlobals "_law_signs" = some (some (.ref f_signs)))
    (l_signs : K.lookup f_signs = some ⟨oc_signs, od_signs, .func (PySem.W.fnOf "_law_signs" "_law_signs" (defArgs sSigns) (defBody sSigns) (defScope sSigns) .none kv_signs dc_signs pm_signs an_signs cd_signs ct_signs), sl_signs⟩)
    (c_signs : PySem.W.codeIn K cd_signs "_law_signs" = true)
    (k_signs : PySem.W.keepIn K (.ref f_signs) = true)
    (a_name : PySem.W.nsIn K mainGlobals "_law_name" = some (some (.ref f_name)))
    (l_name : K.lookup f_name = some ⟨oc_name, od_name, .func (PySem.W.fnOf "_law_name" "_law_name" (defArgs sName) (defBody sName) (defScope sName) .none kv_name dc_name pm_name an_name cd_name ct_name), sl_name⟩)
    (c_name : PySem.W.codeIn K cd_name "_law_name" = true)
    (k_name : PySem.W.keepIn K (.ref f_name) = true)
    (a_names : PySem.W.nsIn K mainGlobals "_law_names" = some (some (.ref f_names)))
    (l_names : K.lookup f_names = some ⟨oc_names, od_names, .func (PySem.W.fnOf "_law_names" "_law_names" (defArgs sNames) (defBody sNames) (defScope sNames) .none kv_names dc_names pm_names an_names cd_names ct_names), sl_names⟩)
    (c_names : PySem.W.codeIn K cd_names "_law_names" = true)
    (k_names : PySem.W.keepIn K (.ref f_names) = true)
    (a_amount : PySem.W.nsIn K mainGlobals "_law_amount" = some (some (.ref f_amount)))
    (l_amount : K.lookup f_amount = some ⟨oc_amount, od_amount, .func (PySem.W.fnOf "_law_amount" "_law_amount" (defArgs sAmount) (defBody sAmount) (defScope sAmount) .none kv_amount dc_amount pm_amount an_amount cd_amount ct_amount), sl_amount⟩)
    (c_amount : PySem.W.codeIn K cd_amount "_law_amount" = true)
    (k_amount : PySem.W.keepIn K (.ref f_amount) = true)
    (a_model : PySem.W.nsIn K mainGlobals "_law_model" = some (some (.ref f_model)))
    (l_model : K.lookup f_model = some ⟨oc_model, od_model, .func (PySem.W.fnOf "_law_model" "_law_model" (defArgs sModel) (defBody sModel) (defScope sModel) .none kv_model dc_model pm_model an_model cd_model ct_model), sl_model⟩)
    (c_model : PySem.W.codeIn K cd_model "_law_model" = true)
    (k_model : PySem.W.keepIn K (.ref f_model) = true)
    (a_line : PySem.W.nsIn K mainGlobals "_law_line" = some (some (.ref f_line)))
    (l_line : K.lookup f_line = some ⟨oc_line, od_line, .func (PySem.W.fnOf "_law_line" "_law_line" (defArgs sLine) (defBody sLine) (defScope sLine) .none kv_line dc_line pm_line an_line cd_line ct_line), sl_line⟩)
    (c_line : PySem.W.codeIn K cd_line "_law_line" = true)
    (k_line : PySem.W.keepIn K (.ref f_line) = true)
    (a_lloop : PySem.W.nsIn K mainGlobals "_law_loop" = some (some (.ref f_lloop)))
    (l_lloop : K.lookup f_lloop = some ⟨oc_lloop, od_lloop, .func (PySem.W.fnOf "_law_loop" "_law_loop" (defArgs sLLoop) (defBody sLLoop) (defScope sLLoop) .none kv_lloop dc_lloop pm_lloop an_lloop cd_lloop ct_lloop), sl_lloop⟩)
    (c_lloop : PySem.W.codeIn K cd_lloop "_law_loop" = true)
    (k_lloop : PySem.W.keepIn K (.ref f_lloop) = true)
    (a_product : PySem.W.nsIn K mainGlobals "_law_product" = some (some (.ref f_product)))
    (l_product : K.lookup f_product = some ⟨oc_product, od_product, .func (PySem.W.fnOf "_law_product" "_law_product" (defArgs sProduct) (defBody sProduct) (defScope sProduct) .none kv_product dc_product pm_product an_product cd_product ct_product), sl_product⟩)
    (c_product : PySem.W.codeIn K cd_product "_law_product" = true)
    (k_product : PySem.W.keepIn K (.ref f_product) = true)
    (a_heard : PySem.W.nsIn K mainGlobals "_law_sum_heard" = some (some (.ref f_heard)))
    (l_heard : K.lookup f_heard = some ⟨oc_heard, od_heard, .func (PySem.W.fnOf "_law_sum_heard" "_law_sum_heard" (defArgs sSumHeard) (defBody sSumHeard) (defScope sSumHeard) .none kv_heard dc_heard pm_heard an_heard cd_heard ct_heard), sl_heard⟩)
    (c_heard : PySem.W.codeIn K cd_heard "_law_sum_heard" = true)
    (k_heard : PySem.W.keepIn K (.ref f_heard) = true)
    (a_due : PySem.W.nsIn K mainGlobals "_law_due" = some (some (.ref f_due)))
    (l_due : K.lookup f_due = some ⟨oc_due, od_due, .func (PySem.W.fnOf "_law_due" "_law_due" (defArgs sDueQ) (defBody sDueQ) (defScope sDueQ) .none kv_due dc_due pm_due an_due cd_due ct_due), sl_due⟩)
    (c_due : PySem.W.codeIn K cd_due "_law_due" = true)
    (k_due : PySem.W.keepIn K (.ref f_due) = true)
    (a_pair : PySem.W.nsIn K mainGlobals "_law_pair" = some (some (.ref f_pair)))
    (l_pair : K.lookup f_pair = some ⟨oc_pair, od_pair, .func (PySem.W.fnOf "_law_pair" "_law_pair" (defArgs sPairQ) (defBody sPairQ) (defScope sPairQ) .none kv_pair dc_pair pm_pair an_pair cd_pair ct_pair), sl_pair⟩)
    (c_pair : PySem.W.codeIn K cd_pair "_law_pair" = true)
    (k_pair : PySem.W.keepIn K (.ref f_pair) = true)
    (a_right : PySem.W.nsIn K mainGlobals "_law_right" = some (some (.ref f_right)))
    (l_right : K.lookup f_right = some ⟨oc_right, od_right, .func (PySem.W.fnOf "_law_right" "_law_right" (defArgs sRight) (defBody sRight) (defScope sRight) .none kv_right dc_right pm_right an_right (.ref cRt) ct_right), sl_right⟩)
    (c_right : PySem.W.codeIn K (.ref cRt) "_law_right" = true)
    (k_right : PySem.W.keepIn K (.ref f_right) = true)
    (a_ksigns : PySem.W.nsIn K mainGlobals "is_signs" = some (some (.ref f_ksigns)))
    (l_ksigns : K.lookup f_ksigns = some ⟨oc_ksigns, od_ksigns, .func (PySem.W.fnOf "is_signs" "is_signs" (defArgs sIsSigns) (defBody sIsSigns) (defScope sIsSigns) .none kv_ksigns dc_ksigns pm_ksigns an_ksigns cd_ksigns ct_ksigns), sl_ksigns⟩)
    (c_ksigns : PySem.W.codeIn K cd_ksigns "is_signs" = true)
    (k_ksigns : PySem.W.keepIn K (.ref f_ksigns) = true)
    (a_ksignof : PySem.W.nsIn K mainGlobals "is_sign_of" = some (some (.ref f_ksignof)))
    (l_ksignof : K.lookup f_ksignof = some ⟨oc_ksignof, od_ksignof, .func (PySem.W.fnOf "is_sign_of" "is_sign_of" (defArgs sSignOf) (defBody sSignOf) (defScope sSignOf) .none kv_ksignof dc_ksignof pm_ksignof an_ksignof cd_ksignof ct_ksignof), sl_ksignof⟩)
    (c_ksignof : PySem.W.codeIn K cd_ksignof "is_sign_of" = true)
    (k_ksignof : PySem.W.keepIn K (.ref f_ksignof) = true)
    (a_kfirst : PySem.W.nsIn K mainGlobals "first_wrong" = some (some (.ref f_kfirst)))
    (l_kfirst : K.lookup f_kfirst = some ⟨oc_kfirst, od_kfirst, .func (PySem.W.fnOf "first_wrong" "first_wrong" (defArgs sFirst) (defBody sFirst) (defScope sFirst) .none kv_kfirst dc_kfirst pm_kfirst an_kfirst cd_kfirst ct_kfirst), sl_kfirst⟩)
    (c_kfirst : PySem.W.codeIn K cd_kfirst "first_wrong" = true)
    (k_kfirst : PySem.W.keepIn K (.ref f_kfirst) = true)
    (a_kisword : PySem.W.nsIn K mainGlobals "is_word" = some (some (.ref f_kisword)))
    (l_kisword : K.lookup f_kisword = some ⟨oc_kisword, od_kisword, .func (PySem.W.fnOf "is_word" "is_word" (defArgs sIsWord) (defBody sIsWord) (defScope sIsWord) .none kv_kisword dc_kisword pm_kisword an_kisword cd_kisword ct_kisword), sl_kisword⟩)
    (c_kisword : PySem.W.codeIn K cd_kisword "is_word" = true)
    (k_kisword : PySem.W.keepIn K (.ref f_kisword) = true)
    (a_kisname : PySem.W.nsIn K mainGlobals "is_name" = some (some (.ref f_kisname)))
    (l_kisname : K.lookup f_kisname = some ⟨oc_kisname, od_kisname, .func (PySem.W.fnOf "is_name" "is_name" (defArgs sIsName) (defBody sIsName) (defScope sIsName) .none kv_kisname dc_kisname pm_kisname an_kisname cd_kisname ct_kisname), sl_kisname⟩)
    (c_kisname : PySem.W.codeIn K cd_kisname "is_name" = true)
    (k_kisname : PySem.W.keepIn K (.ref f_kisname) = true)
    (a_kisint : PySem.W.nsIn K mainGlobals "is_integer" = some (some (.ref f_kisint)))
    (l_kisint : K.lookup f_kisint = some ⟨oc_kisint, od_kisint, .func (PySem.W.fnOf "is_integer" "is_integer" (defArgs sIsInt) (defBody sIsInt) (defScope sIsInt) .none kv_kisint dc_kisint pm_kisint an_kisint cd_kisint ct_kisint), sl_kisint⟩)
    (c_kisint : PySem.W.codeIn K cd_kisint "is_integer" = true)
    (k_kisint : PySem.W.keepIn K (.ref f_kisint) = true)
    (a_kintfrom : PySem.W.nsIn K mainGlobals "is_integer_from" = some (some (.ref f_kintfrom)))
    (l_kintfrom : K.lookup f_kintfrom = some ⟨oc_kintfrom, od_kintfrom, .func (PySem.W.fnOf "is_integer_from" "is_integer_from" (defArgs sIsIntF) (defBody sIsIntF) (defScope sIsIntF) .none kv_kintfrom dc_kintfrom pm_kintfrom an_kintfrom cd_kintfrom ct_kintfrom), sl_kintfrom⟩)
    (c_kintfrom : PySem.W.codeIn K cd_kintfrom "is_integer_from" = true)
    (k_kintfrom : PySem.W.keepIn K (.ref f_kintfrom) = true)
    (a_kstateof : PySem.W.nsIn K mainGlobals "is_state_of" = some (some (.ref f_kstateof)))
    (l_kstateof : K.lookup f_kstateof = some ⟨oc_kstateof, od_kstateof, .func (PySem.W.fnOf "is_state_of" "is_state_of" (defArgs sStateOf) (defBody sStateOf) (defScope sStateOf) .none kv_kstateof dc_kstateof pm_kstateof an_kstateof cd_kstateof ct_kstateof), sl_kstateof⟩)
    (c_kstateof : PySem.W.codeIn K cd_kstateof "is_state_of" = true)
    (k_kstateof : PySem.W.keepIn K (.ref f_kstateof) = true)
    (a_krowof : PySem.W.nsIn K mainGlobals "is_row_of" = some (some (.ref f_krowof)))
    (l_krowof : K.lookup f_krowof = some ⟨oc_krowof, od_krowof, .func (PySem.W.fnOf "is_row_of" "is_row_of" (defArgs sRowOf) (defBody sRowOf) (defScope sRowOf) .none kv_krowof dc_krowof pm_krowof an_krowof cd_krowof ct_krowof), sl_krowof⟩)
    (c_krowof : PySem.W.codeIn K cd_krowof "is_row_of" = true)
    (k_krowof : PySem.W.keepIn K (.ref f_krowof) = true)
    (a_kturnof : PySem.W.nsIn K mainGlobals "is_turn_of" = some (some (.ref f_kturnof)))
    (l_kturnof : K.lookup f_kturnof = some ⟨oc_kturnof, od_kturnof, .func (PySem.W.fnOf "is_turn_of" "is_turn_of" (defArgs sTurnOf) (defBody sTurnOf) (defScope sTurnOf) .none kv_kturnof dc_kturnof pm_kturnof an_kturnof cd_kturnof ct_kturnof), sl_kturnof⟩)
    (c_kturnof : PySem.W.codeIn K cd_kturnof "is_turn_of" = true)
    (k_kturnof : PySem.W.keepIn K (.ref f_kturnof) = true)
    (a_kchst : PySem.W.nsIn K mainGlobals "check_states" = some (some (.ref f_kchst)))
    (l_kchst : K.lookup f_kchst = some ⟨oc_kchst, od_kchst, .func (PySem.W.fnOf "check_states" "check_states" (defArgs sChSt) (defBody sChSt) (defScope sChSt) .none kv_kchst dc_kchst pm_kchst an_kchst cd_kchst ct_kchst), sl_kchst⟩)
    (c_kchst : PySem.W.codeIn K cd_kchst "check_states" = true)
    (k_kchst : PySem.W.keepIn K (.ref f_kchst) = true)
    (a_kchro : PySem.W.nsIn K mainGlobals "check_rows" = some (some (.ref f_kchro)))
    (l_kchro : K.lookup f_kchro = some ⟨oc_kchro, od_kchro, .func (PySem.W.fnOf "check_rows" "check_rows" (defArgs sChRo) (defBody sChRo) (defScope sChRo) .none kv_kchro dc_kchro pm_kchro an_kchro cd_kchro ct_kchro), sl_kchro⟩)
    (c_kchro : PySem.W.codeIn K cd_kchro "check_rows" = true)
    (k_kchro : PySem.W.keepIn K (.ref f_kchro) = true)
    (a_kchtu : PySem.W.nsIn K mainGlobals "check_turns" = some (some (.ref f_kchtu)))
    (l_kchtu : K.lookup f_kchtu = some ⟨oc_kchtu, od_kchtu, .func (PySem.W.fnOf "check_turns" "check_turns" (defArgs sChTu) (defBody sChTu) (defScope sChTu) .none kv_kchtu dc_kchtu pm_kchtu an_kchtu cd_kchtu ct_kchtu), sl_kchtu⟩)
    (c_kchtu : PySem.W.codeIn K cd_kchtu "check_turns" = true)
    (k_kchtu : PySem.W.keepIn K (.ref f_kchtu) = true)
    (a_kchye : PySem.W.nsIn K mainGlobals "check_yes" = some (some (.ref f_kchye)))
    (l_kchye : K.lookup f_kchye = some ⟨oc_kchye, od_kchye, .func (PySem.W.fnOf "check_yes" "check_yes" (defArgs sChYe) (defBody sChYe) (defScope sChYe) .none kv_kchye dc_kchye pm_kchye an_kchye cd_kchye ct_kchye), sl_kchye⟩)
    (c_kchye : PySem.W.codeIn K cd_kchye "check_yes" = true)
    (k_kchye : PySem.W.keepIn K (.ref f_kchye) = true)
    (a_korro : PySem.W.nsIn K mainGlobals "ordered_rows" = some (some (.ref f_korro)))
    (l_korro : K.lookup f_korro = some ⟨oc_korro, od_korro, .func (PySem.W.fnOf "ordered_rows" "ordered_rows" (defArgs sOrRo) (defBody sOrRo) (defScope sOrRo) .none kv_korro dc_korro pm_korro an_korro cd_korro ct_korro), sl_korro⟩)
    (c_korro : PySem.W.codeIn K cd_korro "ordered_rows" = true)
    (k_korro : PySem.W.keepIn K (.ref f_korro) = true)
    (a_kortu : PySem.W.nsIn K mainGlobals "ordered_turns" = some (some (.ref f_kortu)))
    (l_kortu : K.lookup f_kortu = some ⟨oc_kortu, od_kortu, .func (PySem.W.fnOf "ordered_turns" "ordered_turns" (defArgs sOrTu) (defBody sOrTu) (defScope sOrTu) .none kv_kortu dc_kortu pm_kortu an_kortu cd_kortu ct_kortu), sl_kortu⟩)
    (c_kortu : PySem.W.codeIn K cd_kortu "ordered_turns" = true)
    (k_kortu : PySem.W.keepIn K (.ref f_kortu) = true)
    (a_korye : PySem.W.nsIn K mainGlobals "ordered_yes" = some (some (.ref f_korye)))
    (l_korye : K.lookup f_korye = some ⟨oc_korye, od_korye, .func (PySem.W.fnOf "ordered_yes" "ordered_yes" (defArgs sOrYe) (defBody sOrYe) (defScope sOrYe) .none kv_korye dc_korye pm_korye an_korye cd_korye ct_korye), sl_korye⟩)
    (c_korye : PySem.W.codeIn K cd_korye "ordered_yes" = true)
    (k_korye : PySem.W.keepIn K (.ref f_korye) = true)
    (a_lo : PySem.W.nsIn K mainGlobals "_loop_of" = some (some (.ref f_lo)))
    (l_lo : K.lookup f_lo = some ⟨oc_lo, od_lo, .func (PySem.W.fnOf "_loop_of" "_loop_of" (defArgs sLoopOf) (defBody sLoopOf) (defScope sLoopOf) .none kv_lo dc_lo pm_lo an_lo cd_lo ct_lo), sl_lo⟩)
    (c_lo : PySem.W.codeIn K cd_lo "_loop_of" = true)
    (k_lo : PySem.W.keepIn K (.ref f_lo) = true)
    (a_so : PySem.W.nsIn K mainGlobals "_sum_of" = some (some (.ref f_so)))
    (l_so : K.lookup f_so = some ⟨oc_so, od_so, .func (PySem.W.fnOf "_sum_of" "_sum_of" (defArgs sSumOf) (defBody sSumOf) (defScope sSumOf) .none kv_so dc_so pm_so an_so cd_so ct_so), sl_so⟩)
    (c_so : PySem.W.codeIn K cd_so "_sum_of" = true)
    (k_so : PySem.W.keepIn K (.ref f_so) = true)
    (a_sr : PySem.W.nsIn K mainGlobals "sum_row" = some (some (.ref f_sr)))
    (l_sr : K.lookup f_sr = some ⟨oc_sr, od_sr, .func (PySem.W.fnOf "sum_row" "sum_row" (defArgs sSumRow) (defBody sSumRow) (defScope sSumRow) .none kv_sr dc_sr pm_sr an_sr cd_sr ct_sr), sl_sr⟩)
    (c_sr : PySem.W.codeIn K cd_sr "sum_row" = true)
    (k_sr : PySem.W.keepIn K (.ref f_sr) = true)
    (a_pf : PySem.W.nsIn K mainGlobals "pairs_found" = some (some (.ref f_pf)))
    (l_pf : K.lookup f_pf = some ⟨oc_pf, od_pf, .func (PySem.W.fnOf "pairs_found" "pairs_found" (defArgs sPairsF) (defBody sPairsF) (defScope sPairsF) .none kv_pf dc_pf pm_pf an_pf cd_pf ct_pf), sl_pf⟩)
    (c_pf : PySem.W.codeIn K cd_pf "pairs_found" = true)
    (k_pf : PySem.W.keepIn K (.ref f_pf) = true)
    (a_iy : PySem.W.nsIn K mainGlobals "_is_yes" = some (some (.ref f_iy)))
    (l_iy : K.lookup f_iy = some ⟨oc_iy, od_iy, .func (PySem.W.fnOf "_is_yes" "_is_yes" (defArgs sIsYes) (defBody sIsYes) (defScope sIsYes) .none kv_iy dc_iy pm_iy an_iy cd_iy ct_iy), sl_iy⟩)
    (c_iy : PySem.W.codeIn K cd_iy "_is_yes" = true)
    (k_iy : PySem.W.keepIn K (.ref f_iy) = true)
    (a_law : PySem.W.nsIn K mainGlobals "law" = some (some (.ref f_law)))
    (l_law : K.lookup f_law = some ⟨oc_law, od_law, .func (PySem.W.fnOf "law" "law" (defArgs sLaw) (defBody sLaw) (defScope sLaw) .none kv_law dc_law pm_law an_law cd_law ct_law), sl_law⟩)
    (c_law : PySem.W.codeIn K cd_law "law" = true)
    (k_law : PySem.W.keepIn K (.ref f_law) = true)
    (aC : PySem.W.nsIn K mainGlobals "Loop" = some (some (.ref C)))
    (aT : PySem.W.nsIn K mainGlobals "Table" = some (some (.ref T)))
    (aO : PySem.W.nsIn K mainGlobals "Course" = some (some (.ref O)))
    (a_mI : PySem.W.findIn K (.ref C) "__init__" = some (some (.ref f_mI)))
    (i_mI : PySem.W.isFn K (.ref f_mI) = true)
    (l_mI : K.lookup f_mI = some ⟨oc_mI, od_mI, .func (PySem.W.fnOf "__init__" "Loop.__init__" (defArgs sLoInit) (defBody sLoInit) (defScope sLoInit) (.ref tD) (.ref kD) dc_mI pm_mI an_mI cd_mI ct_mI), sl_mI⟩)
    (c_mI : PySem.W.codeIn K cd_mI "Loop.__init__" = true)
    (k_mI : PySem.W.keepIn K (.ref f_mI) = true)
    (p_atW : PySem.W.findIn K (.ref C) "row" = some (some (.ref pW)))
    (p_getW : PySem.W.specialIn K (.ref pW) "__get__" = some (some (.builtin "property.__get__")))
    (p_takW : PySem.W.takesIn K (.ref pW) = some true)
    (p_recW : PySem.W.recIn K pW "property" = some (.ref f_mW :: rW))
    (l_mW : K.lookup f_mW = some ⟨oc_mW, od_mW, .func (PySem.W.fnOf "row" "Loop.row" (defArgs sLoRow) (defBody sLoRow) (defScope sLoRow) .none kv_mW dc_mW pm_mW an_mW cd_mW ct_mW), sl_mW⟩)
    (c_mW : PySem.W.codeIn K cd_mW "Loop.row" = true)
    (k_mW : PySem.W.keepIn K (.ref f_mW) = true)
    (a_mAn : PySem.W.findIn K (.ref C) "answer" = some (some (.ref f_mAn)))
    (i_mAn : PySem.W.isFn K (.ref f_mAn) = true)
    (l_mAn : K.lookup f_mAn = some ⟨oc_mAn, od_mAn, .func (PySem.W.fnOf "answer" "Loop.answer" (defArgs sLoAnswer) (defBody sLoAnswer) (defScope sLoAnswer) .none kv_mAn dc_mAn pm_mAn an_mAn cd_mAn ct_mAn), sl_mAn⟩)
    (c_mAn : PySem.W.codeIn K cd_mAn "Loop.answer" = true)
    (k_mAn : PySem.W.keepIn K (.ref f_mAn) = true)
    (a_mSt : PySem.W.findIn K (.ref C) "state" = some (some (.ref f_mSt)))
    (i_mSt : PySem.W.isFn K (.ref f_mSt) = true)
    (l_mSt : K.lookup f_mSt = some ⟨oc_mSt, od_mSt, .func (PySem.W.fnOf "state" "Loop.state" (defArgs sLoState) (defBody sLoState) (defScope sLoState) .none kv_mSt dc_mSt pm_mSt an_mSt cd_mSt ct_mSt), sl_mSt⟩)
    (c_mSt : PySem.W.codeIn K cd_mSt "Loop.state" = true)
    (k_mSt : PySem.W.keepIn K (.ref f_mSt) = true)
    (a_mTx : PySem.W.findIn K (.ref C) "_check_text" = some (some (.ref f_mTx)))
    (i_mTx : PySem.W.isFn K (.ref f_mTx) = true)
    (l_mTx : K.lookup f_mTx = some ⟨oc_mTx, od_mTx, .func (PySem.W.fnOf "_check_text" "Loop._check_text" (defArgs sLoText) (defBody sLoText) (defScope sLoText) .none kv_mTx dc_mTx pm_mTx an_mTx cd_mTx ct_mTx), sl_mTx⟩)
    (c_mTx : PySem.W.codeIn K cd_mTx "Loop._check_text" = true)
    (k_mTx : PySem.W.keepIn K (.ref f_mTx) = true)
    (a_mGo : PySem.W.findIn K (.ref C) "_gone" = some (some (.ref f_mGo)))
    (i_mGo : PySem.W.isFn K (.ref f_mGo) = true)
    (l_mGo : K.lookup f_mGo = some ⟨oc_mGo, od_mGo, .func (PySem.W.fnOf "_gone" "Loop._gone" (defArgs sLoGone) (defBody sLoGone) (defScope sLoGone) .none kv_mGo dc_mGo pm_mGo an_mGo cd_mGo ct_mGo), sl_mGo⟩)
    (c_mGo : PySem.W.codeIn K cd_mGo "Loop._gone" = true)
    (k_mGo : PySem.W.keepIn K (.ref f_mGo) = true)
    (a_mOf : PySem.W.findIn K (.ref C) "_answer_of" = some (some (.ref f_mOf)))
    (i_mOf : PySem.W.isFn K (.ref f_mOf) = true)
    (l_mOf : K.lookup f_mOf = some ⟨oc_mOf, od_mOf, .func (PySem.W.fnOf "_answer_of" "Loop._answer_of" (defArgs sLoOf) (defBody sLoOf) (defScope sLoOf) .none kv_mOf dc_mOf pm_mOf an_mOf cd_mOf ct_mOf), sl_mOf⟩)
    (c_mOf : PySem.W.codeIn K cd_mOf "Loop._answer_of" = true)
    (k_mOf : PySem.W.keepIn K (.ref f_mOf) = true)
    (a_mtI : PySem.W.findIn K (.ref T) "__init__" = some (some (.ref f_mtI)))
    (i_mtI : PySem.W.isFn K (.ref f_mtI) = true)
    (l_mtI : K.lookup f_mtI = some ⟨oc_mtI, od_mtI, .func (PySem.W.fnOf "__init__" "Table.__init__" (defArgs sTaInit) (defBody sTaInit) (defScope sTaInit) .none kv_mtI dc_mtI pm_mtI an_mtI cd_mtI ct_mtI), sl_mtI⟩)
    (c_mtI : PySem.W.codeIn K cd_mtI "Table.__init__" = true)
    (k_mtI : PySem.W.keepIn K (.ref f_mtI) = true)
    (a_mtG : PySem.W.findIn K (.ref T) "gone" = some (some (.ref f_mtG)))
    (i_mtG : PySem.W.isFn K (.ref f_mtG) = true)
    (l_mtG : K.lookup f_mtG = some ⟨oc_mtG, od_mtG, .func (PySem.W.fnOf "gone" "Table.gone" (defArgs sTaGone) (defBody sTaGone) (defScope sTaGone) .none kv_mtG dc_mtG pm_mtG an_mtG cd_mtG ct_mtG), sl_mtG⟩)
    (c_mtG : PySem.W.codeIn K cd_mtG "Table.gone" = true)
    (k_mtG : PySem.W.keepIn K (.ref f_mtG) = true)
    (a_mcI : PySem.W.findIn K (.ref O) "__init__" = some (some (.ref f_mcI)))
    (i_mcI : PySem.W.isFn K (.ref f_mcI) = true)
    (l_mcI : K.lookup f_mcI = some ⟨oc_mcI, od_mcI, .func (PySem.W.fnOf "__init__" "Course.__init__" (defArgs sCoInit) (defBody sCoInit) (defScope sCoInit) .none kv_mcI dc_mcI pm_mcI an_mcI cd_mcI ct_mcI), sl_mcI⟩)
    (c_mcI : PySem.W.codeIn K cd_mcI "Course.__init__" = true)
    (k_mcI : PySem.W.keepIn K (.ref f_mcI) = true)
    (a_mcP : PySem.W.findIn K (.ref O) "place" = some (some (.ref f_mcP)))
    (i_mcP : PySem.W.isFn K (.ref f_mcP) = true)
    (l_mcP : K.lookup f_mcP = some ⟨oc_mcP, od_mcP, .func (PySem.W.fnOf "place" "Course.place" (defArgs sCoPlace) (defBody sCoPlace) (defScope sCoPlace) .none kv_mcP dc_mcP pm_mcP an_mcP cd_mcP ct_mcP), sl_mcP⟩)
    (c_mcP : PySem.W.codeIn K cd_mcP "Course.place" = true)
    (k_mcP : PySem.W.keepIn K (.ref f_mcP) = true)
    (a_mcB : PySem.W.findIn K (.ref O) "behind" = some (some (.ref f_mcB)))
    (i_mcB : PySem.W.isFn K (.ref f_mcB) = true)
    (l_mcB : K.lookup f_mcB = some ⟨oc_mcB, od_mcB, .func (PySem.W.fnOf "behind" "Course.behind" (defArgs sCoBehind) (defBody sCoBehind) (defScope sCoBehind) .none kv_mcB dc_mcB pm_mcB an_mcB cd_mcB ct_mcB), sl_mcB⟩)
    (c_mcB : PySem.W.codeIn K cd_mcB "Course.behind" = true)
    (k_mcB : PySem.W.keepIn K (.ref f_mcB) = true)
    (p_atSg : PySem.W.findIn K (.ref C) "signs" = some (some (.ref pSg)))
    (p_getSg : PySem.W.specialIn K (.ref pSg) "__get__" = some (some (.builtin "property.__get__")))
    (p_takSg : PySem.W.takesIn K (.ref pSg) = some true)
    (p_recSg : PySem.W.recIn K pSg "property" = some (.ref f_mSg :: rSg))
    (l_mSg : K.lookup f_mSg = some ⟨oc_mSg, od_mSg, .func (PySem.W.fnOf "signs" "Loop.signs" (defArgs sLoSg) (defBody sLoSg) (defScope sLoSg) .none kv_mSg dc_mSg pm_mSg an_mSg cd_mSg ct_mSg), sl_mSg⟩)
    (c_mSg : PySem.W.codeIn K cd_mSg "Loop.signs" = true)
    (k_mSg : PySem.W.keepIn K (.ref f_mSg) = true)
    (a_mAd : PySem.W.findIn K (.ref C) "__add__" = some (some (.ref f_mAd)))
    (i_mAd : PySem.W.isFn K (.ref f_mAd) = true)
    (l_mAd : K.lookup f_mAd = some ⟨oc_mAd, od_mAd, .func (PySem.W.fnOf "__add__" "Loop.__add__" (defArgs sLoAdd) (defBody sLoAdd) (defScope sLoAdd) .none kv_mAd dc_mAd pm_mAd an_mAd cd_mAd ct_mAd), sl_mAd⟩)
    (c_mAd : PySem.W.codeIn K cd_mAd "Loop.__add__" = true)
    (k_mAd : PySem.W.keepIn K (.ref f_mAd) = true)
    (a_mSu : PySem.W.findIn K (.ref C) "__sub__" = some (some (.ref f_mSu)))
    (i_mSu : PySem.W.isFn K (.ref f_mSu) = true)
    (l_mSu : K.lookup f_mSu = some ⟨oc_mSu, od_mSu, .func (PySem.W.fnOf "__sub__" "Loop.__sub__" (defArgs sLoSub) (defBody sLoSub) (defScope sLoSub) .none kv_mSu dc_mSu pm_mSu an_mSu cd_mSu ct_mSu), sl_mSu⟩)
    (c_mSu : PySem.W.codeIn K cd_mSu "Loop.__sub__" = true)
    (k_mSu : PySem.W.keepIn K (.ref f_mSu) = true)
    (a_mEq : PySem.W.findIn K (.ref C) "__eq__" = some (some (.ref f_mEq)))
    (i_mEq : PySem.W.isFn K (.ref f_mEq) = true)
    (l_mEq : K.lookup f_mEq = some ⟨oc_mEq, od_mEq, .func (PySem.W.fnOf "__eq__" "Loop.__eq__" (defArgs sLoEq) (defBody sLoEq) (defScope sLoEq) .none kv_mEq dc_mEq pm_mEq an_mEq cd_mEq ct_mEq), sl_mEq⟩)
    (c_mEq : PySem.W.codeIn K cd_mEq "Loop.__eq__" = true)
    (k_mEq : PySem.W.keepIn K (.ref f_mEq) = true)
    (l_tD : K.lookup tD = some ⟨oc_tD, od_tD, .seq #[.ref e] n_tD, sl_tD⟩)
    (n_yes : PySem.W.nsIn K kD "yes" = some (some (.ref e2)))
    (pgC : PySem.W.plainGet K C Str.empty = true)
    (hdC : PySem.W.hasDictIn K C = true)
    (poC : PySem.W.plainOver K C = true)
    (saC : PySem.W.findIn K (.ref C) "__setattr__" = some (some (.builtin "object.__setattr__")))
    (mkC : PySem.W.makesIn K C = true)
    (kcC : PySem.W.keepIn K (.ref C) = true)
    (pgT : PySem.W.plainGet K T Str.empty = true)
    (hdT : PySem.W.hasDictIn K T = true)
    (poT : PySem.W.plainOver K T = true)
    (saT : PySem.W.findIn K (.ref T) "__setattr__" = some (some (.builtin "object.__setattr__")))
    (mkT : PySem.W.makesIn K T = true)
    (kcT : PySem.W.keepIn K (.ref T) = true)
    (pgO : PySem.W.plainGet K O Str.empty = true)
    (hdO : PySem.W.hasDictIn K O = true)
    (poO : PySem.W.plainOver K O = true)
    (saO : PySem.W.findIn K (.ref O) "__setattr__" = some (some (.builtin "object.__setattr__")))
    (mkO : PySem.W.makesIn K O = true)
    (kcO : PySem.W.keepIn K (.ref O) = true)
    (nC__signs : PySem.W.findIn K (.ref C) "_signs" = some none)
    (nC__states : PySem.W.findIn K (.ref C) "_states" = some none)
    (nC__rows : PySem.W.findIn K (.ref C) "_rows" = some none)
    (nC__turns : PySem.W.findIn K (.ref C) "_turns" = some none)
    (nC__yes : PySem.W.findIn K (.ref C) "_yes" = some none)
    (nC__table : PySem.W.findIn K (.ref C) "_table" = some none)
    (nT_number : PySem.W.findIn K (.ref T) "number" = some none)
    (nT_nexts : PySem.W.findIn K (.ref T) "nexts" = some none)
    (nT_amounts : PySem.W.findIn K (.ref T) "amounts" = some none)
    (nT_turn_nexts : PySem.W.findIn K (.ref T) "turn_nexts" = some none)
    (nT_turn_amounts : PySem.W.findIn K (.ref T) "turn_amounts" = some none)
    (nT_says : PySem.W.findIn K (.ref T) "says" = some none)
    (nO_path : PySem.W.findIn K (.ref O) "path" = some none)
    (nO_head : PySem.W.findIn K (.ref O) "head" = some none)
    (nO_again : PySem.W.findIn K (.ref O) "again" = some none)
    (gt600 : PySem.W.nsIn K mainGlobals "MOST_WORD" = some (some (.int 600 t600)))
    (gt4 : PySem.W.nsIn K mainGlobals "MOST_SIGNS" = some (some (.int 4 t4)))
    (gt8 : PySem.W.nsIn K mainGlobals "MOST_NAME" = some (some (.int 8 t8)))
    (gt6 : PySem.W.nsIn K mainGlobals "MOST_STATES" = some (some (.int 6 t6)))
    (cc : PySem.W.findIn K (.ref C) "__class__" = some (some (.builtin "object.__class__")))
    (cg : PySem.W.specialIn K (.builtin "object.__class__") "__get__" = some (some (.builtin "getset_descriptor.__get__")))
    (ctk : PySem.W.takesIn K (.builtin "object.__class__") = some true)
    (co : PySem.W.mroIn K C (.type "object") = some true)
    (sf : PySem.W.selfFirst K C = true)
    (rAd : PySem.W.findIn K (.ref C) "__radd__" = some none)
    (rSu : PySem.W.findIn K (.ref C) "__rsub__" = some none)
    (nf : PySem.W.notFirst K C (.ref C) = true)
    (icl : PySem.W.isClsIn K C = true)
    (tcl : PySem.W.typeIn K (.ref C) = some (.type "type"))
    (l_cR : K.lookup cRt = some ⟨oc_cR, od_cR, .fields vsR, sl_cR⟩)
    (v11 : (vsR[11]? : Option Value) = some (.ref PtR))
    (nP : K.lookup PtR = none)
    (sR_tuple : PySem.W.subIn K (.ref C) (.type "tuple") = some false)
    (sR_list : PySem.W.subIn K (.ref C) (.type "list") = some false)
    (sR_dict : PySem.W.subIn K (.ref C) (.type "dict") = some false)
    (sR_bool : PySem.W.subIn K (.ref C) (.type "bool") = some false)
    (im_add_int : PySem.W.findIn K (.type "int") "__add__" = some om_add_int)
    (ir_add_int : PySem.W.findIn K (.type "int") "__radd__" = some or_add_int)
    (im_sub_int : PySem.W.findIn K (.type "int") "__sub__" = some om_sub_int)
    (ir_sub_int : PySem.W.findIn K (.type "int") "__rsub__" = some or_sub_int)
    (su_int : PySem.W.subIn K (.type "int") (.ref C) = some false)
    (im_add_bool : PySem.W.findIn K (.type "bool") "__add__" = some om_add_bool)
    (ir_add_bool : PySem.W.findIn K (.type "bool") "__radd__" = some or_add_bool)
    (im_sub_bool : PySem.W.findIn K (.type "bool") "__sub__" = some om_sub_bool)
    (ir_sub_bool : PySem.W.findIn K (.type "bool") "__rsub__" = some or_sub_bool)
    (su_bool : PySem.W.subIn K (.type "bool") (.ref C) = some false)
    (im_add_NoneType : PySem.W.findIn K (.type "NoneType") "__add__" = some om_add_NoneType)
    (ir_add_NoneType : PySem.W.findIn K (.type "NoneType") "__radd__" = some or_add_NoneType)
    (im_sub_NoneType : PySem.W.findIn K (.type "NoneType") "__sub__" = some om_sub_NoneType)
    (ir_sub_NoneType : PySem.W.findIn K (.type "NoneType") "__rsub__" = some or_sub_NoneType)
    (su_NoneType : PySem.W.subIn K (.type "NoneType") (.ref C) = some false)
    (im_add_str : PySem.W.findIn K (.type "str") "__add__" = some om_add_str)
    (ir_add_str : PySem.W.findIn K (.type "str") "__radd__" = some or_add_str)
    (im_sub_str : PySem.W.findIn K (.type "str") "__sub__" = some om_sub_str)
    (ir_sub_str : PySem.W.findIn K (.type "str") "__rsub__" = some or_sub_str)
    (su_str : PySem.W.subIn K (.type "str") (.ref C) = some false)
    (im_add_list : PySem.W.findIn K (.type "list") "__add__" = some om_add_list)
    (ir_add_list : PySem.W.findIn K (.type "list") "__radd__" = some or_add_list)
    (im_sub_list : PySem.W.findIn K (.type "list") "__sub__" = some om_sub_list)
    (ir_sub_list : PySem.W.findIn K (.type "list") "__rsub__" = some or_sub_list)
    (su_list : PySem.W.subIn K (.type "list") (.ref C) = some false)
    (im_add_tuple : PySem.W.findIn K (.type "tuple") "__add__" = some om_add_tuple)
    (ir_add_tuple : PySem.W.findIn K (.type "tuple") "__radd__" = some or_add_tuple)
    (im_sub_tuple : PySem.W.findIn K (.type "tuple") "__sub__" = some om_sub_tuple)
    (ir_sub_tuple : PySem.W.findIn K (.type "tuple") "__rsub__" = some or_sub_tuple)
    (su_tuple : PySem.W.subIn K (.type "tuple") (.ref C) = some false)
    (im_add_dict : PySem.W.findIn K (.type "dict") "__add__" = some om_add_dict)
    (ir_add_dict : PySem.W.findIn K (.type "dict") "__radd__" = some or_add_dict)
    (im_sub_dict : PySem.W.findIn K (.type "dict") "__sub__" = some om_sub_dict)
    (ir_sub_dict : PySem.W.findIn K (.type "dict") "__rsub__" = some or_sub_dict)
    (su_dict : PySem.W.subIn K (.type "dict") (.ref C) = some false)
    (aXL : PySem.W.nsIn K mainGlobals "NotALoop" = some (some (.ref cL)))
    (exL : PySem.W.subIn K (.ref cL) (.type "BaseException") = some true)
    (tyL : PySem.W.typeIn K (.ref cL) = some (.type "type"))
    (gaL : PySem.W.findIn K (.ref cL) "__getattribute__" = some (some (.builtin "BaseException.__getattribute__")))
    (ggL : PySem.W.findIn K (.ref cL) "__getattr__" = some none)
    (hdLx : PySem.W.hasDictIn K cL = true)
    (noL : PySem.W.findIn K (.ref cL) "given" = some none)
    (aXO : PySem.W.nsIn K mainGlobals "OtherSigns" = some (some (.ref cO)))
    (exO : PySem.W.subIn K (.ref cO) (.type "BaseException") = some true)
    (tyO : PySem.W.typeIn K (.ref cO) = some (.type "type"))
    (gaO : PySem.W.findIn K (.ref cO) "__getattribute__" = some (some (.builtin "BaseException.__getattribute__")))
    (ggO : PySem.W.findIn K (.ref cO) "__getattr__" = some none)
    (hdOx : PySem.W.hasDictIn K cO = true)
    (noO : PySem.W.findIn K (.ref cO) "given" = some none)
    (aXN : PySem.W.nsIn K mainGlobals "InvalidNumber" = some (some (.ref cN)))
    (exN : PySem.W.subIn K (.ref cN) (.type "BaseException") = some true)
    (tyN : PySem.W.typeIn K (.ref cN) = some (.type "type"))
    (gaN : PySem.W.findIn K (.ref cN) "__getattribute__" = some (some (.builtin "BaseException.__getattribute__")))
    (ggN : PySem.W.findIn K (.ref cN) "__getattr__" = some none)
    (hdNx : PySem.W.hasDictIn K cN = true)
    (noN : PySem.W.findIn K (.ref cN) "given" = some none)
    (aXM : PySem.W.nsIn K mainGlobals "TooMany" = some (some (.ref cM)))
    (exM : PySem.W.subIn K (.ref cM) (.type "BaseException") = some true)
    (tyM : PySem.W.typeIn K (.ref cM) = some (.type "type"))
    (gaM : PySem.W.findIn K (.ref cM) "__getattribute__" = some (some (.builtin "BaseException.__getattribute__")))
    (ggM : PySem.W.findIn K (.ref cM) "__getattr__" = some none)
    (hdMx : PySem.W.hasDictIn K cM = true)
    (noM : PySem.W.findIn K (.ref cM) "limit" = some none)
    (sLL : PySem.W.subIn K (.ref cL) (.ref cL) = some true)
    (sOL : PySem.W.subIn K (.ref cO) (.ref cL) = some false)
    (sOO : PySem.W.subIn K (.ref cO) (.ref cO) = some true)
    (sNL : PySem.W.subIn K (.ref cN) (.ref cL) = some false)
    (sNO : PySem.W.subIn K (.ref cN) (.ref cO) = some false)
    (sNN : PySem.W.subIn K (.ref cN) (.ref cN) = some true)
    (sML : PySem.W.subIn K (.ref cM) (.ref cL) = some false)
    (sMO : PySem.W.subIn K (.ref cM) (.ref cO) = some false)
    (sMN : PySem.W.subIn K (.ref cM) (.ref cN) = some false)
    (sMM : PySem.W.subIn K (.ref cM) (.ref cM) = some true)
    (xLL : K.lookup cL = some (excClassObj nmL qL cL NL bsL (.ref w0 :: [.type "ValueError", .type "Exception", .type "BaseException", .type "object"]) true snL suL abL coL ddL xL_0 xL_1 xL_2 xL_3 xL_5 "ValueError.__new__"))
    (saLx : PySem.W.findIn K (.ref cL) "__setattr__" = some (some (.builtin "object.__setattr__")))
    (kcLx : PySem.W.keepIn K (.ref cL) = true)
    (iniL : PySem.W.findIn K (.ref cL) "__init__" = some (some (.ref f_eL)))
    (fnL : PySem.W.typeIn K (.ref f_eL) = some (.type "function"))
    (l_eL : K.lookup f_eL = some ⟨oc_eL, od_eL, .func (PySem.W.fnOf "__init__" "NotALoop.__init__" (defArgs sErrNotALoop) (defBody sErrNotALoop) (defScope sErrNotALoop) .none kv_eL dc_eL pm_eL an_eL cd_eL ct_eL), sl_eL⟩)
    (c_eL : PySem.W.codeIn K cd_eL "NotALoop.__init__" = true)
    (k_eL : PySem.W.keepIn K (.ref f_eL) = true)
    (xLO : K.lookup cO = some (excClassObj nmO qO cO NO bsO (.ref w0 :: [.type "ValueError", .type "Exception", .type "BaseException", .type "object"]) true snO suO abO coO ddO xO_0 xO_1 xO_2 xO_3 xO_5 "ValueError.__new__"))
    (saOx : PySem.W.findIn K (.ref cO) "__setattr__" = some (some (.builtin "object.__setattr__")))
    (kcOx : PySem.W.keepIn K (.ref cO) = true)
    (iniO : PySem.W.findIn K (.ref cO) "__init__" = some (some (.ref f_eO)))
    (fnO : PySem.W.typeIn K (.ref f_eO) = some (.type "function"))
    (l_eO : K.lookup f_eO = some ⟨oc_eO, od_eO, .func (PySem.W.fnOf "__init__" "OtherSigns.__init__" (defArgs sErrOtherSigns) (defBody sErrOtherSigns) (defScope sErrOtherSigns) .none kv_eO dc_eO pm_eO an_eO cd_eO ct_eO), sl_eO⟩)
    (c_eO : PySem.W.codeIn K cd_eO "OtherSigns.__init__" = true)
    (k_eO : PySem.W.keepIn K (.ref f_eO) = true)
    (owM : PySem.W.excInitIn K cM aeTail "ArithmeticError.__new__" = true)
    (ovM : PySem.W.excOver K cM aeTail = true)
    (saMx : PySem.W.findIn K (.ref cM) "__setattr__" = some (some (.builtin "object.__setattr__")))
    (kcMx : PySem.W.keepIn K (.ref cM) = true)
    (iniM : PySem.W.findIn K (.ref cM) "__init__" = some (some (.ref f_eM)))
    (fnM : PySem.W.typeIn K (.ref f_eM) = some (.type "function"))
    (l_eM : K.lookup f_eM = some ⟨oc_eM, od_eM, .func (PySem.W.fnOf "__init__" "TooMany.__init__" (defArgs sErrTooMany) (defBody sErrTooMany) (defScope sErrTooMany) .none kv_eM dc_eM pm_eM an_eM cd_eM ct_eM), sl_eM⟩)
    (c_eM : PySem.W.codeIn K cd_eM "TooMany.__init__" = true)
    (k_eM : PySem.W.keepIn K (.ref f_eM) = true)
    (z_int : PySem.W.nsIn K mainGlobals "int" = some none)
    (z_len : PySem.W.nsIn K mainGlobals "len" = some none)
    (z_range : PySem.W.nsIn K mainGlobals "range" = some none)
    (z_divmod : PySem.W.nsIn K mainGlobals "divmod" = some none)
    (z_abs : PySem.W.nsIn K mainGlobals "abs" = some none)
    (z_isinstance : PySem.W.nsIn K mainGlobals "isinstance" = some none)
    (z_str : PySem.W.nsIn K mainGlobals "str" = some none)
    (z_all : PySem.W.nsIn K mainGlobals "all" = some none)
    (z_min : PySem.W.nsIn K mainGlobals "min" = some none)
    (z_max : PySem.W.nsIn K mainGlobals "max" = some none)
    (z_set : PySem.W.nsIn K mainGlobals "set" = some none)
    (z_bool : PySem.W.nsIn K mainGlobals "bool" = some none)
    (z_tuple : PySem.W.nsIn K mainGlobals "tuple" = some none)
    (z_enumerate : PySem.W.nsIn K mainGlobals "enumerate" = some none)
    (z_zip : PySem.W.nsIn K mainGlobals "zip" = some none)
    (z_sorted : PySem.W.nsIn K mainGlobals "sorted" = some none)
    (z_list : PySem.W.nsIn K mainGlobals "list" = some none)
    (z_dict : PySem.W.nsIn K mainGlobals "dict" = some none) :
    ∃ (fd : FuncData) (c Pt : Addr), K.lookup Pt = none ∧ PySem.W.tabIn K "_law_right" = some (c, Pt) ∧ (∀ (s : Shared) (v : Value), BindsTo s fd ⟨[v], []⟩ [("_law_script", v)]) ∧ ∀ base : Heap, K.In base → base.Ns mainGlobals mg → LamX.TabB base mg c Pt → FnOk l.prog w K mg base CX0 12 fa fd ["_law_script"] (spLawT K Pt) := by
  have e0 := hfa.symm.trans (PySem.W.mg_of X G a_law)
  cases e0
  have LK : LTxt K mg C := ⟨⟨pgC, hdC, poC, saC⟩, nC__signs, nC__states, nC__rows, nC__turns, nC__yes, nC__table⟩
  have TK : TTxt K mg T := ⟨⟨pgT, hdT, poT, saT⟩, nT_number, nT_nexts, nT_amounts, nT_turn_nexts, nT_turn_amounts, nT_says⟩
  have OK : CTxt K mg O := ⟨⟨pgO, hdO, poO, saO⟩, nO_path, nO_head, nO_again⟩
  have Z_int := PySem.W.mg_none_of X G z_int
  have Z_len := PySem.W.mg_none_of X G z_len
  have Z_range := PySem.W.mg_none_of X G z_range
  have Z_divmod := PySem.W.mg_none_of X G z_divmod
  have Z_abs := PySem.W.mg_none_of X G z_abs
  have Z_isinstance := PySem.W.mg_none_of X G z_isinstance
  have Z_str := PySem.W.mg_none_of X G z_str
  have Z_all := PySem.W.mg_none_of X G z_all
  have Z_min := PySem.W.mg_none_of X G z_min
  have Z_max := PySem.W.mg_none_of X G z_max
  have Z_set := PySem.W.mg_none_of X G z_set
  have Z_bool := PySem.W.mg_none_of X G z_bool
  have Z_tuple := PySem.W.mg_none_of X G z_tuple
  have Z_enumerate := PySem.W.mg_none_of X G z_enumerate
  have Z_zip := PySem.W.mg_none_of X G z_zip
  have Z_sorted := PySem.W.mg_none_of X G z_sorted
  have Z_list := PySem.W.mg_none_of X G z_list
  have Z_dict := PySem.W.mg_none_of X G z_dict
  have Z : Free mg := ⟨Z_int, Z_len, Z_range, Z_divmod, Z_abs, Z_isinstance, Z_str, Z_all, Z_min, Z_max, Z_set, Z_bool⟩
  have F_cell := fun_mk (st := sCell) l_cell c_cell k_cell
  have b_cell := F_cell.binds (ps := ["_law_script", "_law_k"]) fun _ _ _ _ _ _ us hl => match us, hl with | [_, _], _ => rfl
  have D_cell : Def K mg "_law_cell" sCell ["_law_script", "_law_k"] f_cell _ := ⟨F_cell, PySem.W.mg_of X G a_cell, k_cell, b_cell⟩
  have F_pool := fun_mk (st := sPool) l_pool c_pool k_pool
  have b_pool := F_pool.binds (ps := ["_law_cell_here"]) fun _ _ _ _ _ _ us hl => match us, hl with | [_], _ => rfl
  have D_pool : Def K mg "_law_pool" sPool ["_law_cell_here"] f_pool _ := ⟨F_pool, PySem.W.mg_of X G a_pool, k_pool, b_pool⟩
  have F_draw := fun_mk (st := sDraw) l_draw c_draw k_draw
  have b_draw := F_draw.binds (ps := ["_law_pool_here", "_law_many"]) fun _ _ _ _ _ _ us hl => match us, hl with | [_, _], _ => rfl
  have D_draw : Def K mg "_law_draw" sDraw ["_law_pool_here", "_law_many"] f_draw _ := ⟨F_draw, PySem.W.mg_of X G a_draw, k_draw, b_draw⟩
  have F_shuf := fun_mk (st := sShuf) l_shuf c_shuf k_shuf
  have b_shuf := F_shuf.binds (ps := ["_law_pool_here", "_law_things"]) fun _ _ _ _ _ _ us hl => match us, hl with | [_, _], _ => rfl
  have D_shuf : Def K mg "_law_shuffled" sShuf ["_law_pool_here", "_law_things"] f_shuf _ := ⟨F_shuf, PySem.W.mg_of X G a_shuf, k_shuf, b_shuf⟩
  have F_face := fun_mk (st := sFace) l_face c_face k_face
  have b_face := F_face.binds (ps := ["_law_thing"]) fun _ _ _ _ _ _ us hl => match us, hl with | [_], _ => rfl
  have D_face : Def K mg "_law_face" sFace ["_law_thing"] f_face _ := ⟨F_face, PySem.W.mg_of X G a_face, k_face, b_face⟩
  have F_odd := fun_mk (st := sLOdd) l_odd c_odd k_odd
  have b_odd := F_odd.binds (ps := ["_law_pool_here"]) fun _ _ _ _ _ _ us hl => match us, hl with | [_], _ => rfl
  have D_odd : Def K mg "_law_odd" sLOdd ["_law_pool_here"] f_odd _ := ⟨F_odd, PySem.W.mg_of X G a_odd, k_odd, b_odd⟩
  have F_signs := fun_mk (st := sSigns) l_signs c_signs k_signs
  have b_signs := F_signs.binds (ps := ["_law_pool_here", "_law_most"]) fun _ _ _ _ _ _ us hl => match us, hl with | [_, _], _ => rfl
  have D_signs : Def K mg "_law_signs" sSigns ["_law_pool_here", "_law_most"] f_signs _ := ⟨F_signs, PySem.W.mg_of X G a_signs, k_signs, b_signs⟩
  have F_name := fun_mk (st := sName) l_name c_name k_name
  have b_name := F_name.binds (ps := ["_law_pool_here", "_law_found"]) fun _ _ _ _ _ _ us hl => match us, hl with | [_, _], _ => rfl
  have D_name : Def K mg "_law_name" sName ["_law_pool_here", "_law_found"] f_name _ := ⟨F_name, PySem.W.mg_of X G a_name, k_name, b_name⟩
  have F_names := fun_mk (st := sNames) l_names c_names k_names
  have b_names := F_names.binds (ps := ["_law_pool_here", "_law_many"]) fun _ _ _ _ _ _ us hl => match us, hl with | [_, _], _ => rfl
  have D_names : Def K mg "_law_names" sNames ["_law_pool_here", "_law_many"] f_names _ := ⟨F_names, PySem.W.mg_of X G a_names, k_names, b_names⟩
  have F_amount := fun_mk (st := sAmount) l_amount c_amount k_amount
  have b_amount := F_amount.binds (ps := ["_law_pool_here", "_law_great"]) fun _ _ _ _ _ _ us hl => match us, hl with | [_, _], _ => rfl
  have D_amount : Def K mg "_law_amount" sAmount ["_law_pool_here", "_law_great"] f_amount _ := ⟨F_amount, PySem.W.mg_of X G a_amount, k_amount, b_amount⟩
  have F_model := fun_mk (st := sModel) l_model c_model k_model
  have b_model := F_model.binds (ps := ["_law_pool_here", "_law_abc", "_law_most", "_law_great"]) fun _ _ _ _ _ _ us hl => match us, hl with | [_, _, _, _], _ => rfl
  have D_model : Def K mg "_law_model" sModel ["_law_pool_here", "_law_abc", "_law_most", "_law_great"] f_model _ := ⟨F_model, PySem.W.mg_of X G a_model, k_model, b_model⟩
  have F_line := fun_mk (st := sLine) l_line c_line k_line
  have b_line := F_line.binds (ps := ["_law_model_here"]) fun _ _ _ _ _ _ us hl => match us, hl with | [_], _ => rfl
  have D_line : Def K mg "_law_line" sLine ["_law_model_here"] f_line _ := ⟨F_line, PySem.W.mg_of X G a_line, k_line, b_line⟩
  have F_lloop := fun_mk (st := sLLoop) l_lloop c_lloop k_lloop
  have b_lloop := F_lloop.binds (ps := ["_law_model_here"]) fun _ _ _ _ _ _ us hl => match us, hl with | [_], _ => rfl
  have D_lloop : Def K mg "_law_loop" sLLoop ["_law_model_here"] f_lloop _ := ⟨F_lloop, PySem.W.mg_of X G a_lloop, k_lloop, b_lloop⟩
  have F_product := fun_mk (st := sProduct) l_product c_product k_product
  have b_product := F_product.binds (ps := ["_law_near", "_law_far", "_law_times", "_law_both"]) fun _ _ _ _ _ _ us hl => match us, hl with | [_, _, _, _], _ => rfl
  have D_product : Def K mg "_law_product" sProduct ["_law_near", "_law_far", "_law_times", "_law_both"] f_product _ := ⟨F_product, PySem.W.mg_of X G a_product, k_product, b_product⟩
  have F_heard := fun_mk (st := sSumHeard) l_heard c_heard k_heard
  have b_heard := F_heard.binds (ps := ["_law_act"]) fun _ _ _ _ _ _ us hl => match us, hl with | [_], _ => rfl
  have D_heard : Def K mg "_law_sum_heard" sSumHeard ["_law_act"] f_heard _ := ⟨F_heard, PySem.W.mg_of X G a_heard, k_heard, b_heard⟩
  have F_due := fun_mk (st := sDueQ) l_due c_due k_due
  have b_due := F_due.binds (ps := ["_law_near", "_law_far", "_law_times", "_law_both"]) fun _ _ _ _ _ _ us hl => match us, hl with | [_, _, _, _], _ => rfl
  have D_due : Def K mg "_law_due" sDueQ ["_law_near", "_law_far", "_law_times", "_law_both"] f_due _ := ⟨F_due, PySem.W.mg_of X G a_due, k_due, b_due⟩
  have F_pair := fun_mk (st := sPairQ) l_pair c_pair k_pair
  have b_pair := F_pair.binds (ps := ["_law_pool_here"]) fun _ _ _ _ _ _ us hl => match us, hl with | [_], _ => rfl
  have D_pair : Def K mg "_law_pair" sPairQ ["_law_pool_here"] f_pair _ := ⟨F_pair, PySem.W.mg_of X G a_pair, k_pair, b_pair⟩
  have F_right := fun_mk (st := sRight) l_right c_right k_right
  have b_right := F_right.binds (ps := ["_law_pool_here"]) fun _ _ _ _ _ _ us hl => match us, hl with | [_], _ => rfl
  have D_right : Def K mg "_law_right" sRight ["_law_pool_here"] f_right _ := ⟨F_right, PySem.W.mg_of X G a_right, k_right, b_right⟩
  have F_ksigns := fun_mk (st := sIsSigns) l_ksigns c_ksigns k_ksigns
  have b_ksigns := F_ksigns.binds (ps := ["value"]) fun _ _ _ _ _ _ us hl => match us, hl with | [_], _ => rfl
  have D_ksigns : Def K mg "is_signs" sIsSigns ["value"] f_ksigns _ := ⟨F_ksigns, PySem.W.mg_of X G a_ksigns, k_ksigns, b_ksigns⟩
  have F_ksignof := fun_mk (st := sSignOf) l_ksignof c_ksignof k_ksignof
  have b_ksignof := F_ksignof.binds (ps := ["value", "signs"]) fun _ _ _ _ _ _ us hl => match us, hl with | [_, _], _ => rfl
  have D_ksignof : Def K mg "is_sign_of" sSignOf ["value", "signs"] f_ksignof _ := ⟨F_ksignof, PySem.W.mg_of X G a_ksignof, k_ksignof, b_ksignof⟩
  have F_kfirst := fun_mk (st := sFirst) l_kfirst c_kfirst k_kfirst
  have b_kfirst := F_kfirst.binds (ps := ["values", "right"]) fun _ _ _ _ _ _ us hl => match us, hl with | [_, _], _ => rfl
  have D_kfirst : Def K mg "first_wrong" sFirst ["values", "right"] f_kfirst _ := ⟨F_kfirst, PySem.W.mg_of X G a_kfirst, k_kfirst, b_kfirst⟩
  have F_kisword := fun_mk (st := sIsWord) l_kisword c_kisword k_kisword
  have b_kisword := F_kisword.binds (ps := ["value"]) fun _ _ _ _ _ _ us hl => match us, hl with | [_], _ => rfl
  have D_kisword : Def K mg "is_word" sIsWord ["value"] f_kisword _ := ⟨F_kisword, PySem.W.mg_of X G a_kisword, k_kisword, b_kisword⟩
  have F_kisname := fun_mk (st := sIsName) l_kisname c_kisname k_kisname
  have b_kisname := F_kisname.binds (ps := ["value"]) fun _ _ _ _ _ _ us hl => match us, hl with | [_], _ => rfl
  have D_kisname : Def K mg "is_name" sIsName ["value"] f_kisname _ := ⟨F_kisname, PySem.W.mg_of X G a_kisname, k_kisname, b_kisname⟩
  have F_kisint := fun_mk (st := sIsInt) l_kisint c_kisint k_kisint
  have b_kisint := F_kisint.binds (ps := ["value"]) fun _ _ _ _ _ _ us hl => match us, hl with | [_], _ => rfl
  have D_kisint : Def K mg "is_integer" sIsInt ["value"] f_kisint _ := ⟨F_kisint, PySem.W.mg_of X G a_kisint, k_kisint, b_kisint⟩
  have F_kintfrom := fun_mk (st := sIsIntF) l_kintfrom c_kintfrom k_kintfrom
  have b_kintfrom := F_kintfrom.binds (ps := ["value", "least"]) fun _ _ _ _ _ _ us hl => match us, hl with | [_, _], _ => rfl
  have D_kintfrom : Def K mg "is_integer_from" sIsIntF ["value", "least"] f_kintfrom _ := ⟨F_kintfrom, PySem.W.mg_of X G a_kintfrom, k_kintfrom, b_kintfrom⟩
  have F_kstateof := fun_mk (st := sStateOf) l_kstateof c_kstateof k_kstateof
  have b_kstateof := F_kstateof.binds (ps := ["value", "states"]) fun _ _ _ _ _ _ us hl => match us, hl with | [_, _], _ => rfl
  have D_kstateof : Def K mg "is_state_of" sStateOf ["value", "states"] f_kstateof _ := ⟨F_kstateof, PySem.W.mg_of X G a_kstateof, k_kstateof, b_kstateof⟩
  have F_krowof := fun_mk (st := sRowOf) l_krowof c_krowof k_krowof
  have b_krowof := F_krowof.binds (ps := ["value", "signs", "states"]) fun _ _ _ _ _ _ us hl => match us, hl with | [_, _, _], _ => rfl
  have D_krowof : Def K mg "is_row_of" sRowOf ["value", "signs", "states"] f_krowof _ := ⟨F_krowof, PySem.W.mg_of X G a_krowof, k_krowof, b_krowof⟩
  have F_kturnof := fun_mk (st := sTurnOf) l_kturnof c_kturnof k_kturnof
  have b_kturnof := F_kturnof.binds (ps := ["value", "states"]) fun _ _ _ _ _ _ us hl => match us, hl with | [_, _], _ => rfl
  have D_kturnof : Def K mg "is_turn_of" sTurnOf ["value", "states"] f_kturnof _ := ⟨F_kturnof, PySem.W.mg_of X G a_kturnof, k_kturnof, b_kturnof⟩
  have F_kchst := fun_mk (st := sChSt) l_kchst c_kchst k_kchst
  have b_kchst := F_kchst.binds (ps := ["states"]) fun _ _ _ _ _ _ us hl => match us, hl with | [_], _ => rfl
  have D_kchst : Def K mg "check_states" sChSt ["states"] f_kchst _ := ⟨F_kchst, PySem.W.mg_of X G a_kchst, k_kchst, b_kchst⟩
  have F_kchro := fun_mk (st := sChRo) l_kchro c_kchro k_kchro
  have b_kchro := F_kchro.binds (ps := ["rows", "signs", "states"]) fun _ _ _ _ _ _ us hl => match us, hl with | [_, _, _], _ => rfl
  have D_kchro : Def K mg "check_rows" sChRo ["rows", "signs", "states"] f_kchro _ := ⟨F_kchro, PySem.W.mg_of X G a_kchro, k_kchro, b_kchro⟩
  have F_kchtu := fun_mk (st := sChTu) l_kchtu c_kchtu k_kchtu
  have b_kchtu := F_kchtu.binds (ps := ["turns", "states"]) fun _ _ _ _ _ _ us hl => match us, hl with | [_, _], _ => rfl
  have D_kchtu : Def K mg "check_turns" sChTu ["turns", "states"] f_kchtu _ := ⟨F_kchtu, PySem.W.mg_of X G a_kchtu, k_kchtu, b_kchtu⟩
  have F_kchye := fun_mk (st := sChYe) l_kchye c_kchye k_kchye
  have b_kchye := F_kchye.binds (ps := ["yes", "states"]) fun _ _ _ _ _ _ us hl => match us, hl with | [_, _], _ => rfl
  have D_kchye : Def K mg "check_yes" sChYe ["yes", "states"] f_kchye _ := ⟨F_kchye, PySem.W.mg_of X G a_kchye, k_kchye, b_kchye⟩
  have F_korro := fun_mk (st := sOrRo) l_korro c_korro k_korro
  have b_korro := F_korro.binds (ps := ["rows", "signs", "states"]) fun _ _ _ _ _ _ us hl => match us, hl with | [_, _, _], _ => rfl
  have D_korro : Def K mg "ordered_rows" sOrRo ["rows", "signs", "states"] f_korro _ := ⟨F_korro, PySem.W.mg_of X G a_korro, k_korro, b_korro⟩
  have F_kortu := fun_mk (st := sOrTu) l_kortu c_kortu k_kortu
  have b_kortu := F_kortu.binds (ps := ["turns", "states"]) fun _ _ _ _ _ _ us hl => match us, hl with | [_, _], _ => rfl
  have D_kortu : Def K mg "ordered_turns" sOrTu ["turns", "states"] f_kortu _ := ⟨F_kortu, PySem.W.mg_of X G a_kortu, k_kortu, b_kortu⟩
  have F_korye := fun_mk (st := sOrYe) l_korye c_korye k_korye
  have b_korye := F_korye.binds (ps := ["yes", "states"]) fun _ _ _ _ _ _ us hl => match us, hl with | [_, _], _ => rfl
  have D_korye : Def K mg "ordered_yes" sOrYe ["yes", "states"] f_korye _ := ⟨F_korye, PySem.W.mg_of X G a_korye, k_korye, b_korye⟩
  have F_lo := fun_mk (st := sLoopOf) l_lo c_lo k_lo
  have b_lo := F_lo.binds (ps := ["row"]) fun _ _ _ _ _ _ us hl => match us, hl with | [_], _ => rfl
  have D_lo : Def K mg "_loop_of" sLoopOf ["row"] f_lo _ := ⟨F_lo, PySem.W.mg_of X G a_lo, k_lo, b_lo⟩
  have F_so := fun_mk (st := sSumOf) l_so c_so k_so
  have b_so := F_so.binds (ps := ["one", "other", "factor"]) fun _ _ _ _ _ _ us hl => match us, hl with | [_, _, _], _ => rfl
  have D_so : Def K mg "_sum_of" sSumOf ["one", "other", "factor"] f_so _ := ⟨F_so, PySem.W.mg_of X G a_so, k_so, b_so⟩
  have F_sr := fun_mk (st := sSumRow) l_sr c_sr k_sr
  have b_sr := F_sr.binds (ps := ["one", "other", "signs", "factor"]) fun _ _ _ _ _ _ us hl => match us, hl with | [_, _, _, _], _ => rfl
  have D_sr : Def K mg "sum_row" sSumRow ["one", "other", "signs", "factor"] f_sr _ := ⟨F_sr, PySem.W.mg_of X G a_sr, k_sr, b_sr⟩
  have F_pf := fun_mk (st := sPairsF) l_pf c_pf k_pf
  have b_pf := F_pf.binds (ps := ["one", "other", "signs"]) fun _ _ _ _ _ _ us hl => match us, hl with | [_, _, _], _ => rfl
  have D_pf : Def K mg "pairs_found" sPairsF ["one", "other", "signs"] f_pf _ := ⟨F_pf, PySem.W.mg_of X G a_pf, k_pf, b_pf⟩
  have F_iy := fun_mk (st := sIsYes) l_iy c_iy k_iy
  have b_iy := F_iy.binds (ps := ["one_says", "other_says", "factor"]) fun _ _ _ _ _ _ us hl => match us, hl with | [_, _, _], _ => rfl
  have D_iy : Def K mg "_is_yes" sIsYes ["one_says", "other_says", "factor"] f_iy _ := ⟨F_iy, PySem.W.mg_of X G a_iy, k_iy, b_iy⟩
  have F_mI : FunD K "__init__" "Loop.__init__" (defArgs sLoInit) (defBody sLoInit) (defScope sLoInit) [.ref e] [("yes", .ref e2)] f_mI _ := ⟨⟨_, _, .ref tD, .ref kD, _, _, _, _, _, _, rfl, l_mI, c_mI, .inr ⟨by simp, tD, _, [.ref e], _, rfl, l_tD, rfl, .cons rfl .nil⟩, .inr ⟨kD, rfl, fun q hq => by rw [List.mem_singleton.mp hq]; exact ⟨_, n_yes, rfl⟩⟩⟩, k_mI⟩
  have kI := FunD_kbk (ps := ["self", "signs", "states", "rows", "turns", "yes"]) F_mI 5 ["yes"] Wb.gL (by simp) gL_rel fun T kV doc pm an cdv ct us its ws hu hi hw => match us, hu, its, hi, ws, hw with | [_, _, _, _, _], _, [_], _, [_], _ => ⟨_, rfl, rfl⟩
  have F_mW := fun_mk (st := sLoRow) l_mW c_mW k_mW
  have b_mW := F_mW.binds (ps := ["self"]) fun _ _ _ _ _ _ us hl => match us, hl with | [_], _ => rfl
  have P_mW : PropOf K C "row" pW f_mW := ⟨p_atW, p_getW, p_takW, ⟨_, p_recW⟩⟩
  have F_mAn := fun_mk (st := sLoAnswer) l_mAn c_mAn k_mAn
  have b_mAn := F_mAn.binds (ps := ["self", "text", "lap"]) fun _ _ _ _ _ _ us hl => match us, hl with | [_, _, _], _ => rfl
  have M_mAn : Meth K C "answer" f_mAn := ⟨a_mAn, i_mAn, k_mAn⟩
  have F_mSt := fun_mk (st := sLoState) l_mSt c_mSt k_mSt
  have b_mSt := F_mSt.binds (ps := ["self", "text", "rounds"]) fun _ _ _ _ _ _ us hl => match us, hl with | [_, _, _], _ => rfl
  have M_mSt : Meth K C "state" f_mSt := ⟨a_mSt, i_mSt, k_mSt⟩
  have F_mTx := fun_mk (st := sLoText) l_mTx c_mTx k_mTx
  have b_mTx := F_mTx.binds (ps := ["self", "text"]) fun _ _ _ _ _ _ us hl => match us, hl with | [_, _], _ => rfl
  have M_mTx : Meth K C "_check_text" f_mTx := ⟨a_mTx, i_mTx, k_mTx⟩
  have F_mGo := fun_mk (st := sLoGone) l_mGo c_mGo k_mGo
  have b_mGo := F_mGo.binds (ps := ["self", "text"]) fun _ _ _ _ _ _ us hl => match us, hl with | [_, _], _ => rfl
  have M_mGo : Meth K C "_gone" f_mGo := ⟨a_mGo, i_mGo, k_mGo⟩
  have F_mOf := fun_mk (st := sLoOf) l_mOf c_mOf k_mOf
  have b_mOf := F_mOf.binds (ps := ["self", "course", "counts", "lap"]) fun _ _ _ _ _ _ us hl => match us, hl with | [_, _, _, _], _ => rfl
  have M_mOf : Meth K C "_answer_of" f_mOf := ⟨a_mOf, i_mOf, k_mOf⟩
  have F_mtI := fun_mk (st := sTaInit) l_mtI c_mtI k_mtI
  have b_mtI := F_mtI.binds (ps := ["self", "row"]) fun _ _ _ _ _ _ us hl => match us, hl with | [_, _], _ => rfl
  have F_mtG := fun_mk (st := sTaGone) l_mtG c_mtG k_mtG
  have b_mtG := F_mtG.binds (ps := ["self", "text", "start"]) fun _ _ _ _ _ _ us hl => match us, hl with | [_, _, _], _ => rfl
  have M_mtG : Meth K T "gone" f_mtG := ⟨a_mtG, i_mtG, k_mtG⟩
  have F_mcI := fun_mk (st := sCoInit) l_mcI c_mcI k_mcI
  have b_mcI := F_mcI.binds (ps := ["self", "leads"]) fun _ _ _ _ _ _ us hl => match us, hl with | [_, _], _ => rfl
  have F_mcP := fun_mk (st := sCoPlace) l_mcP c_mcP k_mcP
  have b_mcP := F_mcP.binds (ps := ["self", "rounds"]) fun _ _ _ _ _ _ us hl => match us, hl with | [_, _], _ => rfl
  have M_mcP : Meth K O "place" f_mcP := ⟨a_mcP, i_mcP, k_mcP⟩
  have F_mcB := fun_mk (st := sCoBehind) l_mcB c_mcB k_mcB
  have b_mcB := F_mcB.binds (ps := ["self", "rounds"]) fun _ _ _ _ _ _ us hl => match us, hl with | [_, _], _ => rfl
  have M_mcB : Meth K O "behind" f_mcB := ⟨a_mcB, i_mcB, k_mcB⟩
  have F_mSg := fun_mk (st := sLoSg) l_mSg c_mSg k_mSg
  have b_mSg := F_mSg.binds (ps := ["self"]) fun _ _ _ _ _ _ us hl => match us, hl with | [_], _ => rfl
  have P_mSg : PropOf K C "signs" pSg f_mSg := ⟨p_atSg, p_getSg, p_takSg, ⟨_, p_recSg⟩⟩
  have F_mAd := fun_mk (st := sLoAdd) l_mAd c_mAd k_mAd
  have b_mAd := F_mAd.binds (ps := ["self", "other"]) fun _ _ _ _ _ _ us hl => match us, hl with | [_, _], _ => rfl
  have M_mAd : Meth K C "__add__" f_mAd := ⟨a_mAd, i_mAd, k_mAd⟩
  have F_mSu := fun_mk (st := sLoSub) l_mSu c_mSu k_mSu
  have b_mSu := F_mSu.binds (ps := ["self", "other"]) fun _ _ _ _ _ _ us hl => match us, hl with | [_, _], _ => rfl
  have M_mSu : Meth K C "__sub__" f_mSu := ⟨a_mSu, i_mSu, k_mSu⟩
  have F_mEq := fun_mk (st := sLoEq) l_mEq c_mEq k_mEq
  have b_mEq := F_mEq.binds (ps := ["self", "other"]) fun _ _ _ _ _ _ us hl => match us, hl with | [_, _], _ => rfl
  have M_mEq : Meth K C "__eq__" f_mEq := ⟨a_mEq, i_mEq, k_mEq⟩
  have R' : LoopF K mg ⟨C, T, O, f_mI, f_mW, f_mAn, f_mSt, f_mTx, f_mGo, f_mOf, pW, f_mtI, f_mtG, f_mcI, f_mcP, f_mcB, _, _, _, _, _, _, _, _, _, _, _, _, f_ksigns, f_ksignof, f_kfirst, f_kisword, f_kisname, f_kisint, f_kintfrom, f_kstateof, f_krowof, f_kturnof, f_kchst, f_kchro, f_kchtu, f_kchye, f_korro, f_kortu, f_korye, _, _, _, _, _, _, PySem.W.fnOf "is_integer_from" "is_integer_from" (defArgs sIsIntF) (defBody sIsIntF) (defScope sIsIntF) .none kv_kintfrom dc_kintfrom pm_kintfrom an_kintfrom cd_kintfrom ct_kintfrom, _, _, _, _, _, _, _, _, _, _⟩ e := ⟨LK, TK, OK, PySem.W.mg_of X G aT, PySem.W.mg_of X G aO, PySem.W.mg_of X G aC, ⟨mkC, a_mI, i_mI, kcC⟩, ⟨mkT, a_mtI, i_mtI, kcT⟩, ⟨mkO, a_mcI, i_mcI, kcO⟩, ⟨_, F_mI⟩, kI, F_mW, b_mW, P_mW, F_mAn, b_mAn, M_mAn, F_mSt, b_mSt, M_mSt, F_mTx, b_mTx, M_mTx, F_mGo, b_mGo, M_mGo, F_mOf, b_mOf, M_mOf, F_mtI, b_mtI, F_mtG, b_mtG, M_mtG, F_mcI, b_mcI, F_mcP, b_mcP, M_mcP, F_mcB, b_mcB, M_mcB, D_ksigns, D_ksignof, D_kfirst, D_kisword, D_kisname, D_kisint, D_kstateof, D_krowof, D_kturnof, D_kchst, D_kchro, D_kchtu, D_kchye, D_korro, D_kortu, D_korye, ⟨t600, PySem.W.mg_of X G gt600⟩, ⟨t4, PySem.W.mg_of X G gt4⟩, ⟨t8, PySem.W.mg_of X G gt8⟩, ⟨t6, PySem.W.mg_of X G gt6⟩, Z_tuple, Z_enumerate, Z_zip, Z_sorted⟩
  have D' : Defs K mg ⟨f_cell, f_pool, f_draw, f_shuf, f_face, f_odd, f_signs, f_name, f_names, f_amount, f_model, f_line, f_lloop, f_product, f_heard, f_due, f_pair, f_right, _, _, _, _, _, _, _, _, _, _, _, _, _, _, _, _, _, _⟩ := ⟨D_cell, D_pool, D_draw, D_shuf, D_face, D_odd, D_signs, D_name, D_names, D_amount, D_model, D_line, D_lloop, D_product, D_heard, D_due, D_pair, D_right⟩
  have ZT : FreeT mg := ⟨Z_isinstance, Z_tuple, Z_list, Z_dict, Z_bool⟩
  have GO : OpsQ K C := by
    refine ⟨?_, ?_, sf, rAd, rSu⟩
    · intro nm t n h
      simp only [List.mem_cons, List.not_mem_nil, or_false] at h
      rcases n with rfl | rfl
      · rcases h with rfl | rfl | rfl | rfl | rfl | rfl | rfl
        · exact ⟨⟨_, im_add_int⟩, ⟨_, ir_add_int⟩, su_int⟩
        · exact ⟨⟨_, im_add_bool⟩, ⟨_, ir_add_bool⟩, su_bool⟩
        · exact ⟨⟨_, im_add_NoneType⟩, ⟨_, ir_add_NoneType⟩, su_NoneType⟩
        · exact ⟨⟨_, im_add_str⟩, ⟨_, ir_add_str⟩, su_str⟩
        · exact ⟨⟨_, im_add_list⟩, ⟨_, ir_add_list⟩, su_list⟩
        · exact ⟨⟨_, im_add_tuple⟩, ⟨_, ir_add_tuple⟩, su_tuple⟩
        · exact ⟨⟨_, im_add_dict⟩, ⟨_, ir_add_dict⟩, su_dict⟩
      · rcases h with rfl | rfl | rfl | rfl | rfl | rfl | rfl
        · exact ⟨⟨_, im_sub_int⟩, ⟨_, ir_sub_int⟩, su_int⟩
        · exact ⟨⟨_, im_sub_bool⟩, ⟨_, ir_sub_bool⟩, su_bool⟩
        · exact ⟨⟨_, im_sub_NoneType⟩, ⟨_, ir_sub_NoneType⟩, su_NoneType⟩
        · exact ⟨⟨_, im_sub_str⟩, ⟨_, ir_sub_str⟩, su_str⟩
        · exact ⟨⟨_, im_sub_list⟩, ⟨_, ir_sub_list⟩, su_list⟩
        · exact ⟨⟨_, im_sub_tuple⟩, ⟨_, ir_sub_tuple⟩, su_tuple⟩
        · exact ⟨⟨_, im_sub_dict⟩, ⟨_, ir_sub_dict⟩, su_dict⟩
    · intro t h
      simp only [List.mem_cons, List.not_mem_nil, or_false] at h
      rcases h with rfl | rfl | rfl | rfl | rfl | rfl | rfl
      · exact kit_ownQ icl tcl su_int
      · exact kit_ownQ icl tcl su_bool
      · exact kit_ownQ icl tcl su_NoneType
      · exact kit_ownQ icl tcl su_str
      · exact kit_ownQ icl tcl su_list
      · exact kit_ownQ icl tcl su_tuple
      · exact kit_ownQ icl tcl su_dict
  have F_eL := fun_mk (st := sErrNotALoop) l_eL c_eL k_eL
  have b_eL := F_eL.binds (ps := ["self", "given"]) fun _ _ _ _ _ _ us hl => match us, hl with | [_, _], _ => rfl
  have EL : ErrF K mg "NotALoop" "given" "NotALoop.__init__" sErrNotALoop cL f_eL _ := ⟨⟨⟨_, _, _, _, _, _, _, _, _, _, _, _, _, _, _, xLL, (show PySem.HandSPX.refsVE [.type "ValueError", .type "Exception", .type "BaseException", .type "object"] = true by decide +kernel)⟩, saLx, exL, tyL, kcLx⟩, ⟨gaL, ggL, exL, hdLx⟩, noL, iniL, fnL, F_eL, b_eL, PySem.W.mg_of X G aXL⟩
  have F_eO := fun_mk (st := sErrOtherSigns) l_eO c_eO k_eO
  have b_eO := F_eO.binds (ps := ["self", "given"]) fun _ _ _ _ _ _ us hl => match us, hl with | [_, _], _ => rfl
  have EO : ErrF K mg "OtherSigns" "given" "OtherSigns.__init__" sErrOtherSigns cO f_eO _ := ⟨⟨⟨_, _, _, _, _, _, _, _, _, _, _, _, _, _, _, xLO, (show PySem.HandSPX.refsVE [.type "ValueError", .type "Exception", .type "BaseException", .type "object"] = true by decide +kernel)⟩, saOx, exO, tyO, kcOx⟩, ⟨gaO, ggO, exO, hdOx⟩, noO, iniO, fnO, F_eO, b_eO, PySem.W.mg_of X G aXO⟩
  have F_eM := fun_mk (st := sErrTooMany) l_eM c_eM k_eM
  have b_eM := F_eM.binds (ps := ["self", "limit"]) fun _ _ _ _ _ _ us hl => match us, hl with | [_, _], _ => rfl
  have EM : ErrFA K mg "TooMany" "limit" "TooMany.__init__" sErrTooMany cM f_eM _ := ⟨⟨owM, ovM, hdMx, saMx, exM, tyM, kcMx⟩, ⟨gaM, ggM, exM, hdMx⟩, noM, iniM, fnM, F_eM, b_eM, PySem.W.mg_of X G aXM⟩
  have S3 : SumC K mg cL cO cN cM := ⟨⟨⟨gaL, ggL, exL, hdLx⟩, noL, PySem.W.mg_of X G aXL⟩, ⟨⟨gaO, ggO, exO, hdOx⟩, noO, PySem.W.mg_of X G aXO⟩, ⟨⟨gaN, ggN, exN, hdNx⟩, noN, PySem.W.mg_of X G aXN⟩, ⟨⟨gaM, ggM, exM, hdMx⟩, noM, PySem.W.mg_of X G aXM⟩, PySem.W.exm_ref exL hdLx tyL sLL, PySem.W.exm_ref exL hdLx tyL sOL, PySem.W.exm_ref exO hdOx tyO sOO, PySem.W.exm_ref exL hdLx tyL sNL, PySem.W.exm_ref exO hdOx tyO sNO, PySem.W.exm_ref exN hdNx tyN sNN, PySem.W.exm_ref exL hdLx tyL sML, PySem.W.exm_ref exO hdOx tyO sMO, PySem.W.exm_ref exN hdNx tyN sMN, PySem.W.exm_ref exM hdMx tyM sMM⟩
  have FT : FunT K "_law_right" "_law_right" sRight f_right _ cRt := ⟨_, _, _, _, _, _, _, _, rfl, l_right, c_right⟩
  have ht : PySem.W.tabIn K "_law_right" = some (cRt, PtR) := by
    unfold PySem.W.tabIn
    rw [a_right]
    dsimp only
    rw [l_right]
    dsimp only [PySem.W.fnOf]
    rw [l_cR]
    dsimp only
    rw [v11]
  exact ⟨PySem.W.fnOf "law" "law" (defArgs sLaw) (defBody sLaw) (defScope sLaw) .none kv_law dc_law pm_law an_law cd_law ct_law, cRt, PtR, nP, ht, fun s v => .of_eq rfl, fun base _ _ TB => ok_law (fun_mk (st := sLaw) l_law c_law k_law) TB FT (B := ⟨f_mSg, pSg, f_so, f_sr, f_lo, f_mAd, f_mSu, _, _, _, _, _, _⟩) (S2 := ⟨f_pf, f_iy, _, _⟩) (Er := ⟨cL, cO, cM, f_eL, f_eO, f_eM, _, _, _⟩) (BE := ⟨f_mEq, f_mEq, f_mEq, _, PySem.W.fnOf "__eq__" "Loop.__eq__" (defArgs sLoEq) (defBody sLoEq) (defScope sLoEq) .none kv_mEq dc_mEq pm_mEq an_mEq cd_mEq ct_mEq⟩) Z ZT R' ⟨F_mSg, b_mSg, P_mSg, D_so, D_sr, D_lo, ⟨D_pf, D_iy⟩, F_mAd, b_mAd, M_mAd, F_mSu, b_mSu, M_mSu, sf, ⟨t6, PySem.W.mg_of X G gt6⟩⟩ ⟨EL, EO, EM⟩ ⟨F_mEq, b_mEq, a_mEq, i_mEq, nf⟩ ⟨cc, cg, ctk, co⟩ ⟨R'.L.cl, cc, cg, ctk, co, sR_tuple, sR_list, sR_dict, sR_bool⟩ GO S3 Z_str D'⟩
theorem walk {l : PySem.W.OpenLaw} {q : Program} {loose : List Str} {XP : (Str → Option Value) → Heap → Prop} {YP : World → Heap → Prop} {d d2 : DefRec} {K : Params → PySem.W.Frag} (hn : l.most = some 63) (hdf : d.params.defaults = []) (hY : ∀ (w : World) (h : Heap), YP w h → (K w.params).In h)
    (find : (PyProof.Rows.recsOf q).find? (fun e => e.name == Str.ofString "_law_right") = some d2)
    (F : ∀ (w : World) (mg : Str → Option Value) (fa : Addr) (h : Heap), (K w.params).In h → h.Ns mainGlobals mg → mg d.name = some (.ref fa) → ∃ (fd : FuncData) (c Pt : Addr), (K w.params).lookup Pt = none ∧ PySem.W.tabIn (K w.params) "_law_right" = some (c, Pt) ∧ (∀ (s : Shared) (u : Value), BindsTo s fd ⟨[u], []⟩ [("_law_script", u)]) ∧
      ∀ base : Heap, (K w.params).In base → base.Ns mainGlobals mg → LamX.TabB base mg c Pt → FnOk l.prog w (K w.params) mg base CX0 12 fa fd ["_law_script"] (spLawT (K w.params) Pt)) :
    PySem.W.WalkO q loose XP YP l.row.toRowW d [] (fun f vs => PySem.call f vs) := by
  refine Att.attach_callB hn hdf fun w s0 s1 mg mb fa o pm cd doc a vs ns G Y ho hd hcd hmg hobj hints hlen hbits hg => ?_
  have KX := hY w _ Y
  obtain ⟨fd, c, Pt, nP, ht, hb, hF⟩ := F w mg fa _ KX G.T.g hmg
  obtain ⟨hC, hT⟩ := PySem.W.tab_of G.T KX find ht
  refine LamX.law_callTs (k := 12) (cs := [(c, Pt)]) (fd := fd) (x := "_law_script") (CX := CX0) (sp := spLawT (K w.params) Pt) KX G.T.g G.T.b G.T.builtins G.T.nolimit hg ?_ ?_ ?_ G.T.bmain hobj hints (Nat.le_trans hlen (by decide)) ⟨rfl, by decide, by decide⟩ (fun base h1 h2 h3 => hF base h1 h2 (h3 _ List.mem_cons_self)) hb ?_ (fun _ _ _ z => z)
  · intro y hy
    rw [List.mem_singleton.mp hy]
    exact hT
  · intro y hy
    rw [List.mem_singleton.mp hy]
    exact nP
  · intro y hy
    rw [List.mem_singleton.mp hy]
    exact hC
  · intro H hH hS
    refine ⟨a, ns, rfl, hS, hlen, fun y hy => ?_, fun _ => rfl⟩
    rw [List.mem_singleton.mp hy]
    exact LamX.TabS.nil (hH _ List.mem_cons_self)
end Wb
local macro_rules
  | `(tactic| kernel_rfl%$tk) => do
    match tk.getInfo? with
    | some .none => Lean.Macro.throwUnsupported
    | _ =>
      let k : Lean.TSyntax `tactic := ⟨Lean.Syntax.node .none (← `(tactic| kernel_rfl)).raw.getKind #[Lean.Syntax.atom .none "kernel_rfl"]⟩
      `(tactic| first | (rename_i v0 v1; refine Wb.map_split (Wb.cast_to (Wb.run1 v0 v1) ?_) (Wb.cast_to (Wb.run2 v0 v1) ?_) ?_ <;> $k:tactic) | $k:tactic)
open PySem PySem.W PyProof.Rows in
set_option maxRecDepth 100000 in
set_option maxHeartbeats 0 in
theorem PySem.Challenge.cw_wherebegun_k22_sums_and_their_states_holds : PySem.Challenge.rw_wherebegun_k22_sums_and_their_states.Holds := by
  w_on; o_law; k_headL; (case hw => w_witness2)
  k_fill
  refine Wb.walk (l := PySem.Challenge.rw_wherebegun_k22_sums_and_their_states) rfl rfl (fun w h Y => PySem.W.kIn_of Y) rfl ?F
  case F =>
    intro w mg fa h KX G hmg
    refine' Wb.all_mk KX G hmg ?a_cell ?l_cell ?c_cell ?k_cell ?a_pool ?l_pool ?c_pool ?k_pool ?a_draw ?l_draw ?c_draw ?k_draw ?a_shuf ?l_shuf ?c_shuf ?k_shuf ?a_face ?l_face ?c_face ?k_face ?a_odd ?l_odd ?c_odd ?k_odd ?a_signs ?l_signs ?c_signs ?k_signs ?a_name ?l_name ?c_name ?k_name ?a_names ?l_names ?c_names ?k_names ?a_amount ?l_amount ?c_amount ?k_amount ?a_model ?l_model ?c_model ?k_model ?a_line ?l_line ?c_line ?k_line ?a_lloop ?l_lloop ?c_lloop ?k_lloop ?a_product ?l_product ?c_product ?k_product ?a_heard ?l_heard ?c_heard ?k_heard ?a_due ?l_due ?c_due ?k_due ?a_pair ?l_pair ?c_pair ?k_pair ?a_right ?l_right ?c_right ?k_right ?a_ksigns ?l_ksigns ?c_ksigns ?k_ksigns ?a_ksignof ?l_ksignof ?c_ksignof ?k_ksignof ?a_kfirst ?l_kfirst ?c_kfirst ?k_kfirst ?a_kisword ?l_kisword ?c_kisword ?k_kisword ?a_kisname ?l_kisname ?c_kisname ?k_kisname ?a_kisint ?l_kisint ?c_kisint ?k_kisint ?a_kintfrom ?l_kintfrom ?c_kintfrom ?k_kintfrom ?a_kstateof ?l_kstateof ?c_kstateof ?k_kstateof ?a_krowof ?l_krowof ?c_krowof ?k_krowof ?a_kturnof ?l_kturnof ?c_kturnof ?k_kturnof ?a_kchst ?l_kchst ?c_kchst ?k_kchst ?a_kchro ?l_kchro ?c_kchro ?k_kchro ?a_kchtu ?l_kchtu ?c_kchtu ?k_kchtu ?a_kchye ?l_kchye ?c_kchye ?k_kchye ?a_korro ?l_korro ?c_korro ?k_korro ?a_kortu ?l_kortu ?c_kortu ?k_kortu ?a_korye ?l_korye ?c_korye ?k_korye ?a_lo ?l_lo ?c_lo ?k_lo ?a_so ?l_so ?c_so ?k_so ?a_sr ?l_sr ?c_sr ?k_sr ?a_pf ?l_pf ?c_pf ?k_pf ?a_iy ?l_iy ?c_iy ?k_iy ?a_law ?l_law ?c_law ?k_law ?aC ?aT ?aO ?a_mI ?i_mI ?l_mI ?c_mI ?k_mI ?p_atW ?p_getW ?p_takW ?p_recW ?l_mW ?c_mW ?k_mW ?a_mAn ?i_mAn ?l_mAn ?c_mAn ?k_mAn ?a_mSt ?i_mSt ?l_mSt ?c_mSt ?k_mSt ?a_mTx ?i_mTx ?l_mTx ?c_mTx ?k_mTx ?a_mGo ?i_mGo ?l_mGo ?c_mGo ?k_mGo ?a_mOf ?i_mOf ?l_mOf ?c_mOf ?k_mOf ?a_mtI ?i_mtI ?l_mtI ?c_mtI ?k_mtI ?a_mtG ?i_mtG ?l_mtG ?c_mtG ?k_mtG ?a_mcI ?i_mcI ?l_mcI ?c_mcI ?k_mcI ?a_mcP ?i_mcP ?l_mcP ?c_mcP ?k_mcP ?a_mcB ?i_mcB ?l_mcB ?c_mcB ?k_mcB ?p_atSg ?p_getSg ?p_takSg ?p_recSg ?l_mSg ?c_mSg ?k_mSg ?a_mAd ?i_mAd ?l_mAd ?c_mAd ?k_mAd ?a_mSu ?i_mSu ?l_mSu ?c_mSu ?k_mSu ?a_mEq ?i_mEq ?l_mEq ?c_mEq ?k_mEq ?l_tD ?n_yes ?pgC ?hdC ?poC ?saC ?mkC ?kcC ?pgT ?hdT ?poT ?saT ?mkT ?kcT ?pgO ?hdO ?poO ?saO ?mkO ?kcO ?nC__signs ?nC__states ?nC__rows ?nC__turns ?nC__yes ?nC__table ?nT_number ?nT_nexts ?nT_amounts ?nT_turn_nexts ?nT_turn_amounts ?nT_says ?nO_path ?nO_head ?nO_again ?gt600 ?gt4 ?gt8 ?gt6 ?cc ?cg ?ctk ?co ?sf ?rAd ?rSu ?nf ?icl ?tcl ?l_cR ?v11 ?nP ?sR_tuple ?sR_list ?sR_dict ?sR_bool ?im_add_int ?ir_add_int ?im_sub_int ?ir_sub_int ?su_int ?im_add_bool ?ir_add_bool ?im_sub_bool ?ir_sub_bool ?su_bool ?im_add_NoneType ?ir_add_NoneType ?im_sub_NoneType ?ir_sub_NoneType ?su_NoneType ?im_add_str ?ir_add_str ?im_sub_str ?ir_sub_str ?su_str ?im_add_list ?ir_add_list ?im_sub_list ?ir_sub_list ?su_list ?im_add_tuple ?ir_add_tuple ?im_sub_tuple ?ir_sub_tuple ?su_tuple ?im_add_dict ?ir_add_dict ?im_sub_dict ?ir_sub_dict ?su_dict ?aXL ?exL ?tyL ?gaL ?ggL ?hdLx ?noL ?aXO ?exO ?tyO ?gaO ?ggO ?hdOx ?noO ?aXN ?exN ?tyN ?gaN ?ggN ?hdNx ?noN ?aXM ?exM ?tyM ?gaM ?ggM ?hdMx ?noM ?sLL ?sOL ?sOO ?sNL ?sNO ?sNN ?sML ?sMO ?sMN ?sMM ?xLL ?saLx ?kcLx ?iniL ?fnL ?l_eL ?c_eL ?k_eL ?xLO ?saOx ?kcOx ?iniO ?fnO ?l_eO ?c_eO ?k_eO ?owM ?ovM ?saMx ?kcMx ?iniM ?fnM ?l_eM ?c_eM ?k_eM ?z_int ?z_len ?z_range ?z_divmod ?z_abs ?z_isinstance ?z_str ?z_all ?z_min ?z_max ?z_set ?z_bool ?z_tuple ?z_enumerate ?z_zip ?z_sorted ?z_list ?z_dict
    (case a_cell => k_is)
    (case l_cell => k_is)
    (case c_cell => k_is)
    (case k_cell => k_is)
    (case a_pool => k_is)
    (case l_pool => k_is)
    (case c_pool => k_is)
    (case k_pool => k_is)
    (case a_draw => k_is)
    (case l_draw => k_is)
    (case c_draw => k_is)
    (case k_draw => k_is)
    (case a_shuf => k_is)
    (case l_shuf => k_is)
    (case c_shuf => k_is)
    (case k_shuf => k_is)
    (case a_face => k_is)
    (case l_face => k_is)
    (case c_face => k_is)
    (case k_face => k_is)
    (case a_odd => k_is)
    (case l_odd => k_is)
    (case c_odd => k_is)
    (case k_odd => k_is)
    (case a_signs => k_is)
    (case l_signs => k_is)
    (case c_signs => k_is)
    (case k_signs => k_is)
    (case a_name => k_is)
    (case l_name => k_is)
    (case c_name => k_is)
    (case k_name => k_is)
    (case a_names => k_is)
    (case l_names => k_is)
    (case c_names => k_is)
    (case k_names => k_is)
    (case a_amount => k_is)
    (case l_amount => k_is)
    (case c_amount => k_is)
    (case k_amount => k_is)
    (case a_model => k_is)
    (case l_model => k_is)
    (case c_model => k_is)
    (case k_model => k_is)
    (case a_line => k_is)
    (case l_line => k_is)
    (case c_line => k_is)
    (case k_line => k_is)
    (case a_lloop => k_is)
    (case l_lloop => k_is)
    (case c_lloop => k_is)
    (case k_lloop => k_is)
    (case a_product => k_is)
    (case l_product => k_is)
    (case c_product => k_is)
    (case k_product => k_is)
    (case a_heard => k_is)
    (case l_heard => k_is)
    (case c_heard => k_is)
    (case k_heard => k_is)
    (case a_due => k_is)
    (case l_due => k_is)
    (case c_due => k_is)
    (case k_due => k_is)
    (case a_pair => k_is)
    (case l_pair => k_is)
    (case c_pair => k_is)
    (case k_pair => k_is)
    (case a_right => k_is)
    (case l_right => k_is)
    (case c_right => k_is)
    (case k_right => k_is)
    (case a_ksigns => k_is)
    (case l_ksigns => k_is)
    (case c_ksigns => k_is)
    (case k_ksigns => k_is)
    (case a_ksignof => k_is)
    (case l_ksignof => k_is)
    (case c_ksignof => k_is)
    (case k_ksignof => k_is)
    (case a_kfirst => k_is)
    (case l_kfirst => k_is)
    (case c_kfirst => k_is)
    (case k_kfirst => k_is)
    (case a_kisword => k_is)
    (case l_kisword => k_is)
    (case c_kisword => k_is)
    (case k_kisword => k_is)
    (case a_kisname => k_is)
    (case l_kisname => k_is)
    (case c_kisname => k_is)
    (case k_kisname => k_is)
    (case a_kisint => k_is)
    (case l_kisint => k_is)
    (case c_kisint => k_is)
    (case k_kisint => k_is)
    (case a_kintfrom => k_is)
    (case l_kintfrom => k_is)
    (case c_kintfrom => k_is)
    (case k_kintfrom => k_is)
    (case a_kstateof => k_is)
    (case l_kstateof => k_is)
    (case c_kstateof => k_is)
    (case k_kstateof => k_is)
    (case a_krowof => k_is)
    (case l_krowof => k_is)
    (case c_krowof => k_is)
    (case k_krowof => k_is)
    (case a_kturnof => k_is)
    (case l_kturnof => k_is)
    (case c_kturnof => k_is)
    (case k_kturnof => k_is)
    (case a_kchst => k_is)
    (case l_kchst => k_is)
    (case c_kchst => k_is)
    (case k_kchst => k_is)
    (case a_kchro => k_is)
    (case l_kchro => k_is)
    (case c_kchro => k_is)
    (case k_kchro => k_is)
    (case a_kchtu => k_is)
    (case l_kchtu => k_is)
    (case c_kchtu => k_is)
    (case k_kchtu => k_is)
    (case a_kchye => k_is)
    (case l_kchye => k_is)
    (case c_kchye => k_is)
    (case k_kchye => k_is)
    (case a_korro => k_is)
    (case l_korro => k_is)
    (case c_korro => k_is)
    (case k_korro => k_is)
    (case a_kortu => k_is)
    (case l_kortu => k_is)
    (case c_kortu => k_is)
    (case k_kortu => k_is)
    (case a_korye => k_is)
    (case l_korye => k_is)
    (case c_korye => k_is)
    (case k_korye => k_is)
    (case a_lo => k_is)
    (case l_lo => k_is)
    (case c_lo => k_is)
    (case k_lo => k_is)
    (case a_so => k_is)
    (case l_so => k_is)
    (case c_so => k_is)
    (case k_so => k_is)
    (case a_sr => k_is)
    (case l_sr => k_is)
    (case c_sr => k_is)
    (case k_sr => k_is)
    (case a_pf => k_is)
    (case l_pf => k_is)
    (case c_pf => k_is)
    (case k_pf => k_is)
    (case a_iy => k_is)
    (case l_iy => k_is)
    (case c_iy => k_is)
    (case k_iy => k_is)
    (case a_law => k_is)
    (case l_law => k_is)
    (case c_law => k_is)
    (case k_law => k_is)
    (case aC => k_is)
    (case aT => k_is)
    (case aO => k_is)
    (case a_mI => k_is)
    (case i_mI => k_is)
    (case l_mI => k_is)
    (case c_mI => k_is)
    (case k_mI => k_is)
    (case p_atW => k_is)
    (case p_getW => k_is)
    (case p_takW => k_is)
    (case p_recW => k_is)
    (case l_mW => k_is)
    (case c_mW => k_is)
    (case k_mW => k_is)
    (case a_mAn => k_is)
    (case i_mAn => k_is)
    (case l_mAn => k_is)
    (case c_mAn => k_is)
    (case k_mAn => k_is)
    (case a_mSt => k_is)
    (case i_mSt => k_is)
    (case l_mSt => k_is)
    (case c_mSt => k_is)
    (case k_mSt => k_is)
    (case a_mTx => k_is)
    (case i_mTx => k_is)
    (case l_mTx => k_is)
    (case c_mTx => k_is)
    (case k_mTx => k_is)
    (case a_mGo => k_is)
    (case i_mGo => k_is)
    (case l_mGo => k_is)
    (case c_mGo => k_is)
    (case k_mGo => k_is)
    (case a_mOf => k_is)
    (case i_mOf => k_is)
    (case l_mOf => k_is)
    (case c_mOf => k_is)
    (case k_mOf => k_is)
    (case a_mtI => k_is)
    (case i_mtI => k_is)
    (case l_mtI => k_is)
    (case c_mtI => k_is)
    (case k_mtI => k_is)
    (case a_mtG => k_is)
    (case i_mtG => k_is)
    (case l_mtG => k_is)
    (case c_mtG => k_is)
    (case k_mtG => k_is)
    (case a_mcI => k_is)
    (case i_mcI => k_is)
    (case l_mcI => k_is)
    (case c_mcI => k_is)
    (case k_mcI => k_is)
    (case a_mcP => k_is)
    (case i_mcP => k_is)
    (case l_mcP => k_is)
    (case c_mcP => k_is)
    (case k_mcP => k_is)
    (case a_mcB => k_is)
    (case i_mcB => k_is)
    (case l_mcB => k_is)
    (case c_mcB => k_is)
    (case k_mcB => k_is)
    (case p_atSg => k_is)
    (case p_getSg => k_is)
    (case p_takSg => k_is)
    (case p_recSg => k_is)
    (case l_mSg => k_is)
    (case c_mSg => k_is)
    (case k_mSg => k_is)
    (case a_mAd => k_is)
    (case i_mAd => k_is)
    (case l_mAd => k_is)
    (case c_mAd => k_is)
    (case k_mAd => k_is)
    (case a_mSu => k_is)
    (case i_mSu => k_is)
    (case l_mSu => k_is)
    (case c_mSu => k_is)
    (case k_mSu => k_is)
    (case a_mEq => k_is)
    (case i_mEq => k_is)
    (case l_mEq => k_is)
    (case c_mEq => k_is)
    (case k_mEq => k_is)
    (case l_tD => k_is)
    (case n_yes => k_is)
    (case pgC => k_is)
    (case hdC => k_is)
    (case poC => k_is)
    (case saC => k_is)
    (case mkC => k_is)
    (case kcC => k_is)
    (case pgT => k_is)
    (case hdT => k_is)
    (case poT => k_is)
    (case saT => k_is)
    (case mkT => k_is)
    (case kcT => k_is)
    (case pgO => k_is)
    (case hdO => k_is)
    (case poO => k_is)
    (case saO => k_is)
    (case mkO => k_is)
    (case kcO => k_is)
    (case nC__signs => k_is)
    (case nC__states => k_is)
    (case nC__rows => k_is)
    (case nC__turns => k_is)
    (case nC__yes => k_is)
    (case nC__table => k_is)
    (case nT_number => k_is)
    (case nT_nexts => k_is)
    (case nT_amounts => k_is)
    (case nT_turn_nexts => k_is)
    (case nT_turn_amounts => k_is)
    (case nT_says => k_is)
    (case nO_path => k_is)
    (case nO_head => k_is)
    (case nO_again => k_is)
    (case gt600 => k_is)
    (case gt4 => k_is)
    (case gt8 => k_is)
    (case gt6 => k_is)
    (case cc => k_is)
    (case cg => k_is)
    (case ctk => k_is)
    (case co => k_is)
    (case sf => k_is)
    (case rAd => k_is)
    (case rSu => k_is)
    (case nf => k_is)
    (case icl => k_is)
    (case tcl => k_is)
    (case l_cR => k_is)
    (case v11 => exact rfl)
    (case nP => kernel_rfl)
    (case sR_tuple => k_is)
    (case sR_list => k_is)
    (case sR_dict => k_is)
    (case sR_bool => k_is)
    (case im_add_int => k_is)
    (case ir_add_int => k_is)
    (case im_sub_int => k_is)
    (case ir_sub_int => k_is)
    (case su_int => k_is)
    (case im_add_bool => k_is)
    (case ir_add_bool => k_is)
    (case im_sub_bool => k_is)
    (case ir_sub_bool => k_is)
    (case su_bool => k_is)
    (case im_add_NoneType => k_is)
    (case ir_add_NoneType => k_is)
    (case im_sub_NoneType => k_is)
    (case ir_sub_NoneType => k_is)
    (case su_NoneType => k_is)
    (case im_add_str => k_is)
    (case ir_add_str => k_is)
    (case im_sub_str => k_is)
    (case ir_sub_str => k_is)
    (case su_str => k_is)
    (case im_add_list => k_is)
    (case ir_add_list => k_is)
    (case im_sub_list => k_is)
    (case ir_sub_list => k_is)
    (case su_list => k_is)
    (case im_add_tuple => k_is)
    (case ir_add_tuple => k_is)
    (case im_sub_tuple => k_is)
    (case ir_sub_tuple => k_is)
    (case su_tuple => k_is)
    (case im_add_dict => k_is)
    (case ir_add_dict => k_is)
    (case im_sub_dict => k_is)
    (case ir_sub_dict => k_is)
    (case su_dict => k_is)
    (case aXL => k_is)
    (case exL => k_is)
    (case tyL => k_is)
    (case gaL => k_is)
    (case ggL => k_is)
    (case hdLx => k_is)
    (case noL => k_is)
    (case aXO => k_is)
    (case exO => k_is)
    (case tyO => k_is)
    (case gaO => k_is)
    (case ggO => k_is)
    (case hdOx => k_is)
    (case noO => k_is)
    (case aXN => k_is)
    (case exN => k_is)
    (case tyN => k_is)
    (case gaN => k_is)
    (case ggN => k_is)
    (case hdNx => k_is)
    (case noN => k_is)
    (case aXM => k_is)
    (case exM => k_is)
    (case tyM => k_is)
    (case gaM => k_is)
    (case ggM => k_is)
    (case hdMx => k_is)
    (case noM => k_is)
    (case sLL => k_is)
    (case sOL => k_is)
    (case sOO => k_is)
    (case sNL => k_is)
    (case sNO => k_is)
    (case sNN => k_is)
    (case sML => k_is)
    (case sMO => k_is)
    (case sMN => k_is)
    (case sMM => k_is)
    (case xLL => k_is)
    (case saLx => k_is)
    (case kcLx => k_is)
    (case iniL => k_is)
    (case fnL => k_is)
    (case l_eL => k_is)
    (case c_eL => k_is)
    (case k_eL => k_is)
    (case xLO => k_is)
    (case saOx => k_is)
    (case kcOx => k_is)
    (case iniO => k_is)
    (case fnO => k_is)
    (case l_eO => k_is)
    (case c_eO => k_is)
    (case k_eO => k_is)
    (case owM => kernel_rfl)
    (case ovM => kernel_rfl)
    (case saMx => k_is)
    (case kcMx => k_is)
    (case iniM => k_is)
    (case fnM => k_is)
    (case l_eM => k_is)
    (case c_eM => k_is)
    (case k_eM => k_is)
    (case z_int => k_is)
    (case z_len => k_is)
    (case z_range => k_is)
    (case z_divmod => k_is)
    (case z_abs => k_is)
    (case z_isinstance => k_is)
    (case z_str => k_is)
    (case z_all => k_is)
    (case z_min => k_is)
    (case z_max => k_is)
    (case z_set => k_is)
    (case z_bool => k_is)
    (case z_tuple => k_is)
    (case z_enumerate => k_is)
    (case z_zip => k_is)
    (case z_sorted => k_is)
    (case z_list => k_is)
    (case z_dict => k_is)
