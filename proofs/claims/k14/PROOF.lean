import PyProof.Rows.All
import Wide.All
import OpenK.AllK
import Wide.FinOn
import KE.OsRunLaw
import HandS.Zip
import HandS.ForMost
import HandS.Walk
import HandS.DictComp
import HandS.IsInst
import HandS.Property
import HandS.Wide
import HandS.MakeKw
import KE.DataMinMax
import PyProof.StrBlock2
import HandS.Strs
import PyProof.CollectStr
import PyProof.TupleOfSeq
import HandS.More
import KE.GoesMore
import KE.GoesEnum
import HandS.Deep
import HandS.TupAny
import HandS.ExcCtx
import HandS.TryMany
import HandS.HotCalls
import HandS.ExcField
import PyProof.Rows.TupIter
import HandS.Hot
import HandS.ExcInit
import HandS.ExcInitHot
import HandS.Lambda
import PyProof.Rows.StrMeet
import PyProof.Rows.SortStr
import HandS.MakeKwOnly
import KE.KCallOwn
import PyProof.Conv_bool
import PyProof.InstNe
import HandS.SlotsOwn
import HandS.Dict
import HandS.Style
import PyProof.TupleOfStr
import HandS.ExcIs
import HandS.EndTab
import KE.KNest
import PySem.Challenge.RW_wherebegun_k14_loops_refused
set_option Elab.async false
set_option maxRecDepth 100000
/-! the head: each look at what the top leaves by a run of its own; a component stands beside its value itself: beside a projection the kernel would compare the whole -/
namespace Wb
open PySem PySem.W PySem.Calls PyProof.Rows HeadRun
theorem map_split {α β γ δ : Type} {x : Option α} {A : α → β} {B : α → γ} {C : α → δ} {a : β} {b : γ} {c : δ} (h1 : x.map A = some a) (h2 : x.map B = some b) (h3 : x.map C = some c) : x.map (fun s => (A s, B s, C s)) = some (a, b, c) := by
  cases x with
  | none => cases h1
  | some v =>
    cases h1
    cases h2
    cases h3
    rfl
theorem map_pr {α β γ : Type} {x : Option α} {f : α → β × γ} {a : β} {b : γ} (h1 : x.map (fun s => (f s).1) = some a) (h2 : x.map (fun s => (f s).2) = some b) : x.map f = some (a, b) := by
  cases x with
  | none => cases h1
  | some v =>
    have e1 : (f v).1 = a := Option.some.inj h1
    have e2 : (f v).2 = b := Option.some.inj h2
    exact congrArg some (Prod.ext e1 e2)
theorem cast_to {G G' : Prop} (h : G') (e : G = G') : G := e ▸ h
abbrev Rk : OpenRow := OpenLaw.row PySem.Challenge.rw_wherebegun_k14_loops_refused
def keepK : List Nat := [0, 1, 2, 3, 4, 5, 7, 8, 9, 10, 11, 12, 13, 14, 16, 17, 18, 19, 20, 21] ++ [22, 23, 24, 25, 26, 27, 29, 30, 31, 32, 33, 34, 35, 36, 37, 38, 40, 42, 43, 44] ++ [45, 47, 49, 50, 51, 53, 54, 55, 56, 57, 58, 59, 60, 61, 62, 63, 64, 65, 66, 67] ++ [68, 69, 70, 71, 72, 73, 74, 75, 76, 77, 78, 79, 80, 81, 82, 83, 84]
def Qk : Program := { Rk.prog with main := { Rk.prog.main with body := keepK.filterMap fun i => Rk.prog.main.body[i]? } }
def lk : List Str := ["Loop"]
noncomputable def Xk (w : World) (os : OsState) : Option SharedT := endF (stepQ (denQ tabQ) Rk.prog w) 13372 Rk.prog w os
noncomputable def Sk (x : SharedT) := seenQ Qk lk (importedModules Rk.prog.main.body) (fun s => xlAt Qk [] s && recOk (RowW.records Rk.toRowW) s) x.abs
theorem run1 (w : World) (os : OsState) : (Xk w os).map (fun x => looksF Rk.prog (boot_heap w.params) x.abs) = some true := by
  kernel_rfl
theorem look0 (w : World) (os : OsState) : (Xk w os).map (fun x => (Sk x).1) = some (expectedOf Qk) := by
  kernel_rfl
theorem look1 (w : World) (os : OsState) : (Xk w os).map (fun x => (Sk x).2.1) = some (bltViewBooted) := by
  kernel_rfl
theorem look2 (w : World) (os : OsState) : (Xk w os).map (fun x => (Sk x).2.2.1) = some (true) := by
  kernel_rfl
theorem look3 (w : World) (os : OsState) : (Xk w os).map (fun x => (Sk x).2.2.2.1) = some (true) := by
  kernel_rfl
theorem look4 (w : World) (os : OsState) : (Xk w os).map (fun x => (Sk x).2.2.2.2.1) = some (pinGoodD (drecsOf Qk)) := by
  kernel_rfl
theorem look5 (w : World) (os : OsState) : (Xk w os).map (fun x => (Sk x).2.2.2.2.2.1) = some (plainGoodE Qk (looseW Qk lk)) := by
  kernel_rfl
theorem look6 (w : World) (os : OsState) : (Xk w os).map (fun x => (Sk x).2.2.2.2.2.2.1) = some (plainGoodD Qk lk) := by
  kernel_rfl
theorem look7 (w : World) (os : OsState) : (Xk w os).map (fun x => (Sk x).2.2.2.2.2.2.2.1) = some (wideGood Qk) := by
  kernel_rfl
theorem look8 (w : World) (os : OsState) : (Xk w os).map (fun x => (Sk x).2.2.2.2.2.2.2.2) = some (clsGoodW Qk lk) := by
  kernel_rfl
theorem run2 (w : World) (os : OsState) : (Xk w os).map (fun x => Sk x) = some (expectedOf Qk, bltViewBooted, true, true, pinGoodD (drecsOf Qk), plainGoodE Qk (looseW Qk lk), plainGoodD Qk lk, wideGood Qk, clsGoodW Qk lk) := map_pr (f := fun x => (Sk x)) (look0 w os) (map_pr (f := fun x => (Sk x).2) (look1 w os) (map_pr (f := fun x => (Sk x).2.2) (look2 w os) (map_pr (f := fun x => (Sk x).2.2.2) (look3 w os) (map_pr (f := fun x => (Sk x).2.2.2.2) (look4 w os) (map_pr (f := fun x => (Sk x).2.2.2.2.2) (look5 w os) (map_pr (f := fun x => (Sk x).2.2.2.2.2.2) (look6 w os) (map_pr (f := fun x => (Sk x).2.2.2.2.2.2.2) (look7 w os) (look8 w os))))))))
end Wb
set_option maxHeartbeats 1000000
/-! zip of two walks of any kind; then zip(a tuple, a list) -/
namespace Lz
open PySem PySem.Spec PyProof.Rows L2
/-- how one of the two is walked -/
structure Kind2 where
  It : Heap → Addr → Addr → Nat → Prop
  Src : Heap → Addr → Array Value → Prop
  obj : ∀ {h it l k}, It h it l k → ∃ o, h.get? it = some o ∧ ∀ v, o.data ≠ .cell v
  mvIt : ∀ {h h' it l k}, It h it l k → (∀ o, h.get? it = some o → h'.get? it = some o) → It h' it l k
  mvSrc : ∀ {h h' l xs}, Src h l xs → (∀ o, h.get? l = some o → h'.get? l = some o) → Src h' l xs
  item : ∀ {prog : Program} {w : World} {A : Around} {E : Value → Shared → Prop} {s : Shared} {it l : Addr} {i : Nat} {xs : Array Value} {x : Value} {Q : Value → Shared → Prop}, It s.heap it l i → Src s.heap l xs → xs[i]? = some x →
    (∀ h', It h' it l (i + 1) → Heap.SameBut it s.heap h' → Q x { s with heap := h' }) → wpAny (model prog w) A (Builtin.SmallTypes.nextOf (.ref it)) Q E s
  fin : ∀ {prog : Program} {w : World} {A : Around} {E : Value → Shared → Prop} {s : Shared} {it l : Addr} {i : Nat} {xs : Array Value} {Q : Value → Shared → Prop}, A.handled = none → It s.heap it l i → Src s.heap l xs → xs[i]? = none →
    (∀ h' e, Heap.ExtBut it s.heap h' → (∃ o, h'.get? e = some o ∧ o.cls = .type "StopIteration") → E (.ref e) { s with heap := h' }) → wpAny (model prog w) A (Builtin.SmallTypes.nextOf (.ref it)) Q E s
def kTup : Kind2 where
  It := fun h => h.IsTupleIter
  Src := fun h => h.IsTuple
  obj := fun ⟨o, e, _, d⟩ => ⟨o, e, fun v q => by rw [d] at q; cases q⟩
  mvIt := fun z k => z.at k
  mvSrc := fun ⟨o, e, r⟩ k => ⟨o, k o e, r⟩
  item := fun a b c d => RZ.nextOf_tuple_item a b c d
  fin := fun a b c d e => RZ.nextOf_tuple_end a b c d e
def kLst : Kind2 where
  It := fun h => h.IsListIter
  Src := fun h => h.IsList
  obj := fun ⟨o, e, _, d⟩ => ⟨o, e, fun v q => by rw [d] at q; cases q⟩
  mvIt := fun z k => z.at k
  mvSrc := fun ⟨o, e, r⟩ k => ⟨o, k o e, r⟩
  item := fun a b c d => wpAny_nextOf_list_item a b c d
  fin := fun a b c d e => wpAny_nextOf_list_end a b c d e
section
variable {prog : Program} {w : World} {A : Around} {E : Value → Shared → Prop} {s : Shared} {z TI TO i1 i2 l1 l2 : Addr} {k1 k2 : Nat} {xs ys : Array Value} {x y a b : Value} (U V : Kind2)
/-- both walks have an item more -/
theorem next_both {Q : Value → Shared → Prop} (D : ZipApart z TI TO i1 i2 l1 l2) (hz : IsZip s.heap z TI TO .none) (hTI : IsPair s.heap TI (.ref i1) (.ref i2)) (hTO : IsPair s.heap TO a b)
    (h1 : U.It s.heap i1 l1 k1) (h2 : V.It s.heap i2 l2 k2) (g1 : U.Src s.heap l1 xs) (g2 : V.Src s.heap l2 ys) (hx : xs[k1]? = some x) (hy : ys[k2]? = some y)
    (q : ∀ h', IsZip h' z TI TO (rawInt s.heap.objs.size) → IsPair h' TO x y → U.It h' i1 l1 (k1 + 1) → V.It h' i2 l2 (k2 + 1) → IsPair h' s.heap.objs.size x y → h'.objs.size = s.heap.objs.size + 1 →
      (∀ c o, c ≠ z → c ≠ TO → c ≠ i1 → c ≠ i2 → s.heap.get? c = some o → h'.get? c = some o) → Q (.ref s.heap.objs.size) { s with heap := h' }) :
    wpAny (model prog w) A (Builtin.«zip.__next__» ⟨[.ref z], []⟩) (fun fin s' => ∃ v, fin = .done (.ret v) ∧ Q v s') E s := by
  show wpAny _ _ (field (.ref z) 2 >>= _) _ _ _
  refine wpAny_bind (wpAny_field hz rfl (x := .bool false) rfl ?_)
  show wpAny _ _ (field (.ref z) 3 >>= _) _ _ _
  refine wpAny_bind (wpAny_field hz rfl (x := .ref TI) rfl (wpAny_bind (wpAny_seqItems hTI rfl ?_)))
  show wpAny _ _ (Builtin.SmallTypes.ownedTupleIsFree (.ref z) >>= _) _ _ _
  unfold Builtin.SmallTypes.ownedTupleIsFree
  refine wpAny_bind (wpAny_bind (wpAny_field hz rfl (x := .none) rfl (wpAny_pure ?_)))
  simp only [if_true]
  refine wpAny_bind (wpAny_rule (wpAny_bind (wpAny_field hz rfl (x := .ref TO) rfl (wpAny_bind (wpAny_setField_rec hz (by simp) fun ha za sa => wpAny_bind ?_)))))
  replace za : IsZip ha z TI TO .ellipsis := za
  simp only [List.zipIdx_cons, List.zipIdx_nil, List.forIn_cons, List.forIn_nil]
  refine wpAny_bind (wpAny_bind (wpAny_onRaise ?_))
  show wpAny _ _ (Builtin.SmallTypes.nextOf (.ref i1) >>= _) _ _ _
  have ea := sa.extBut
  refine wpAny_bind (U.item (U.mvIt h1 fun o e => ea _ _ D.i1z e) (U.mvSrc g1 fun o e => ea _ _ D.l1z e) hx fun hb u1 sb => wpAny_pure ?_)
  have eb := sb.extBut
  have TOb : IsPair hb TO a b := eb _ _ D.TOi1 (ea _ _ D.TOz hTO)
  refine wpAny_bind (wpAny_seqItems TOb rfl (wpAny_bind (wpAny_updateSeq_pair TOb fun hc TOc sc => ?_)))
  replace TOc : IsPair hc TO x b := TOc
  have ec := sc.extBut
  refine wpAny_bind (wpAny_letGo (wpAny_pure (wpAny_bind (wpAny_bind (wpAny_onRaise ?_)))))
  show wpAny _ _ (Builtin.SmallTypes.nextOf (.ref i2) >>= _) _ _ _
  refine wpAny_bind (V.item (V.mvIt h2 fun o e => ec _ _ D.TOi2.symm (eb _ _ D.i12.symm (ea _ _ D.i2z e))) (V.mvSrc g2 fun o e => ec _ _ D.l2TO (eb _ _ D.l2i1 (ea _ _ D.l2z e))) hy fun hd u2 sd => wpAny_pure ?_)
  have ed := sd.extBut
  have TOd : IsPair hd TO x b := ed _ _ D.TOi2 TOc
  refine wpAny_bind (wpAny_seqItems TOd rfl (wpAny_bind (wpAny_updateSeq_pair TOd fun he TOe se => ?_)))
  replace TOe : IsPair he TO x y := TOe
  have ee := se.extBut
  refine wpAny_bind (wpAny_letGo (wpAny_pure (wpAny_pure (wpAny_bind (wpAny_seqItems TOe rfl (wpAny_bind (wpAny_newTuple ?_)))))))
  have size : he.objs.size = s.heap.objs.size := by rw [se.1, sd.1, sc.1, sb.1, sa.1]
  have ze : IsZip he z TI TO .ellipsis := ee _ _ D.TOz.symm (ed _ _ D.i2z.symm (ec _ _ D.TOz.symm (eb _ _ D.i1z.symm za)))
  have ke : ∀ c o, c ≠ z → c ≠ TO → c ≠ i1 → c ≠ i2 → s.heap.get? c = some o → he.get? c = some o := fun c o n1 n2 n3 n4 e => ee _ _ n2 (ed _ _ n4 (ec _ _ n2 (eb _ _ n3 (ea _ _ n1 e))))
  have v1 : U.It he i1 l1 (k1 + 1) := U.mvIt u1 fun o e => ee _ _ D.TOi1.symm (ed _ _ D.i12 (ec _ _ D.TOi1.symm e))
  have v2 : V.It he i2 l2 (k2 + 1) := V.mvIt u2 fun o e => ee _ _ D.TOi2.symm e
  have zlt : z < he.objs.size := Heap.lt_size ze
  show wpAny _ _ (Builtin.SmallTypes.ownedTupleHandOut (.ref z) (.ref he.objs.size) >>= _) _ _ _
  unfold Builtin.SmallTypes.ownedTupleHandOut
  have zf : IsZip (he.push { cls := .type "tuple", data := .seq #[x, y] }) z TI TO .ellipsis := Heap.get?_push_of_some _ ze
  refine wpAny_bind (wpAny_bind (wpAny_setField_rec zf (by simp) fun hg zg sg => ?_))
  replace zg : IsZip hg z TI TO (rawInt he.objs.size) := zg
  refine wpAny_setField_rec zg (by simp) fun hh zh sh => ?_
  replace zh : IsZip hh z TI TO (rawInt he.objs.size) := zh
  have up : ∀ c o, c ≠ z → he.get? c = some o → hh.get? c = some o := fun c o n e => sh.extBut _ _ n (sg.extBut _ _ n (Heap.get?_push_of_some _ e))
  have pair : IsPair hh he.objs.size x y := sh.extBut _ _ (Nat.ne_of_gt zlt) (sg.extBut _ _ (Nat.ne_of_gt zlt) (Heap.get?_push_size _ rfl))
  have size2 : hh.objs.size = he.objs.size + 1 := by rw [sh.1, sg.1, Heap.size_push]
  rw [size] at zh pair size2
  refine wpAny_pure ⟨_, rfl, ?_⟩
  show Q (.ref he.objs.size) _
  rw [size]
  exact q hh zh (up _ _ D.TOz TOe) (U.mvIt v1 fun o e => up _ o D.i1z e) (V.mvIt v2 fun o e => up _ o D.i2z e) pair size2 fun c o n1 n2 n3 n4 e => up c o n1 (ke c o n1 n2 n3 n4 e)
/-- one of them has none -/
theorem next_none {Q : Fin → Shared → Prop} (hn : A.handled = none) (D : ZipApart z TI TO i1 i2 l1 l2) (hz : IsZip s.heap z TI TO .none) (hTI : IsPair s.heap TI (.ref i1) (.ref i2)) (hTO : IsPair s.heap TO a b)
    (h1 : U.It s.heap i1 l1 k1) (h2 : V.It s.heap i2 l2 k2) (g1 : U.Src s.heap l1 xs) (g2 : V.Src s.heap l2 ys) (over : xs[k1]? = none ∨ ys[k2]? = none)
    (q : ∀ h' e, (∀ c o, c ≠ z → c ≠ TO → c ≠ i1 → c ≠ i2 → s.heap.get? c = some o → h'.get? c = some o) → (∃ o, h'.get? e = some o ∧ o.cls = .type "StopIteration") → E (.ref e) { s with heap := h' }) :
    wpAny (model prog w) A (Builtin.«zip.__next__» ⟨[.ref z], []⟩) Q E s := by
  show wpAny _ _ (field (.ref z) 2 >>= _) _ _ _
  refine wpAny_bind (wpAny_field hz rfl (x := .bool false) rfl ?_)
  show wpAny _ _ (field (.ref z) 3 >>= _) _ _ _
  refine wpAny_bind (wpAny_field hz rfl (x := .ref TI) rfl (wpAny_bind (wpAny_seqItems hTI rfl ?_)))
  show wpAny _ _ (Builtin.SmallTypes.ownedTupleIsFree (.ref z) >>= _) _ _ _
  unfold Builtin.SmallTypes.ownedTupleIsFree
  refine wpAny_bind (wpAny_bind (wpAny_field hz rfl (x := .none) rfl (wpAny_pure ?_)))
  simp only [if_true]
  refine wpAny_bind (wpAny_rule (wpAny_bind (wpAny_field hz rfl (x := .ref TO) rfl (wpAny_bind (wpAny_setField_rec hz (by simp) fun ha za sa => wpAny_bind ?_)))))
  replace za : IsZip ha z TI TO .ellipsis := za
  simp only [List.zipIdx_cons, List.zipIdx_nil, List.forIn_cons, List.forIn_nil]
  refine wpAny_bind (wpAny_bind (wpAny_onRaise ?_))
  show wpAny _ _ (Builtin.SmallTypes.nextOf (.ref i1) >>= _) _ _ _
  have ea := sa.extBut
  have j1 := U.mvIt h1 fun o e => ea _ _ D.i1z e
  have f1 := U.mvSrc g1 fun o e => ea _ _ D.l1z e
  cases hx : xs[k1]? with
  | none =>
    refine wpAny_bind (U.fin hn j1 f1 hx fun hb e eb he => ?_)
    obtain ⟨oe, ho, hc⟩ := he
    have zb : IsZip hb z TI TO .ellipsis := eb _ _ D.i1z.symm za
    have nz : e ≠ z := fun t => by subst t; rw [zb] at ho; cases ho; simp at hc
    exact wpAny_setField_rec zb (by simp) fun hc' _ sc => q hc' e (fun c o n1 _ n3 _ t => sc.extBut _ _ n1 (eb _ _ n3 (ea _ _ n1 t))) ⟨oe, sc.extBut _ _ nz ho, hc⟩
  | some x =>
    have hy : ys[k2]? = none := over.elim (fun t => by rw [hx] at t; cases t) id
    refine wpAny_bind (U.item j1 f1 hx fun hb u1 sb => wpAny_pure ?_)
    have eb := sb.extBut
    have TOb : IsPair hb TO a b := eb _ _ D.TOi1 (ea _ _ D.TOz hTO)
    refine wpAny_bind (wpAny_seqItems TOb rfl (wpAny_bind (wpAny_updateSeq_pair TOb fun hc TOc sc => ?_)))
    have ec := sc.extBut
    refine wpAny_bind (wpAny_letGo (wpAny_pure (wpAny_bind (wpAny_bind (wpAny_onRaise ?_)))))
    show wpAny _ _ (Builtin.SmallTypes.nextOf (.ref i2) >>= _) _ _ _
    refine wpAny_bind (V.fin hn (V.mvIt h2 fun o e => ec _ _ D.TOi2.symm (eb _ _ D.i12.symm (ea _ _ D.i2z e))) (V.mvSrc g2 fun o e => ec _ _ D.l2TO (eb _ _ D.l2i1 (ea _ _ D.l2z e))) hy fun hd e ed he => ?_)
    obtain ⟨oe, ho, hc'⟩ := he
    have zd : IsZip hd z TI TO .ellipsis := ed _ _ D.i2z.symm (ec _ _ D.TOz.symm (eb _ _ D.i1z.symm za))
    have nz : e ≠ z := fun t => by subst t; rw [zd] at ho; cases ho; simp at hc'
    exact wpAny_setField_rec zd (by simp) fun hf _ sf => q hf e (fun c o n1 n2 n3 n4 t => sf.extBut _ _ n1 (ed _ _ n4 (ec _ _ n2 (eb _ _ n3 (ea _ _ n1 t))))) ⟨oe, sf.extBut _ _ nz ho, hc'⟩
end
end Lz
set_option maxHeartbeats 1000000
namespace Lz
open PySem PySem.Spec PyProof.Rows L2
section
variable {prog : Program} {w : World} {A : Around} {E : Value → Shared → Prop} {s : Shared} {z TI TO i1 i2 l1 l2 : Addr} {k1 k2 : Nat} {xs ys : Array Value} {x y a b : Value} (U V : Kind2)
theorem py_both {Q : Option Value → Shared → Prop} (D : ZipApart z TI TO i1 i2 l1 l2) (hz : IsZip s.heap z TI TO .none) (hTI : IsPair s.heap TI (.ref i1) (.ref i2)) (hTO : IsPair s.heap TO a b)
    (h1 : U.It s.heap i1 l1 k1) (h2 : V.It s.heap i2 l2 k2) (g1 : U.Src s.heap l1 xs) (g2 : V.Src s.heap l2 ys) (hx : xs[k1]? = some x) (hy : ys[k2]? = some y)
    (q : ∀ h', IsZip h' z TI TO (rawInt s.heap.objs.size) → IsPair h' TO x y → U.It h' i1 l1 (k1 + 1) → V.It h' i2 l2 (k2 + 1) → IsPair h' s.heap.objs.size x y → h'.objs.size = s.heap.objs.size + 1 →
      (∀ c o, c ≠ z → c ≠ TO → c ≠ i1 → c ≠ i2 → s.heap.get? c = some o → h'.get? c = some o) → Q (some (.ref s.heap.objs.size)) { s with heap := h' }) : wpAny (model prog w) A (pyNext (.ref z)) Q E s := by
  have ty : s.TypeIs (.ref z) "zip" := ⟨_, hz, rfl⟩
  unfold pyNext
  refine wpAny_bind (wpAny_attempt (wpAny_callSpecial?_slot (name := Str.ofString "__next__") ty F.slot_zip_next (wpAny_call_entry F.slot_zip_next ty F.entry_zip_next ?_ (F.args_zip_next_1 _))))
  exact next_both U V D hz hTI hTO h1 h2 g1 g2 hx hy fun h' a1 a2 a3 a4 a5 a6 a7 => wpAny_pure (q h' a1 a2 a3 a4 a5 a6 a7)
theorem py_none {Q : Option Value → Shared → Prop} (hn : A.handled = none) (D : ZipApart z TI TO i1 i2 l1 l2) (hz : IsZip s.heap z TI TO .none) (hTI : IsPair s.heap TI (.ref i1) (.ref i2)) (hTO : IsPair s.heap TO a b)
    (h1 : U.It s.heap i1 l1 k1) (h2 : V.It s.heap i2 l2 k2) (g1 : U.Src s.heap l1 xs) (g2 : V.Src s.heap l2 ys) (over : xs[k1]? = none ∨ ys[k2]? = none)
    (q : ∀ h', (∀ c o, c ≠ z → c ≠ TO → c ≠ i1 → c ≠ i2 → s.heap.get? c = some o → h'.get? c = some o) → Q none { s with heap := h' }) : wpAny (model prog w) A (pyNext (.ref z)) Q E s := by
  have ty : s.TypeIs (.ref z) "zip" := ⟨_, hz, rfl⟩
  unfold pyNext
  refine wpAny_bind (wpAny_attempt (wpAny_callSpecial?_slot (name := Str.ofString "__next__") ty F.slot_zip_next (wpAny_call_entry F.slot_zip_next ty F.entry_zip_next (next_none U V hn D hz hTI hTO h1 h2 g1 g2 over fun h' e hk he => ?_) (F.args_zip_next_1 _))))
  obtain ⟨o, ho, hc⟩ := he
  exact wpAny_bind (wpAny_isInstance (T := "StopIteration") (b := true) ⟨o, ho, hc⟩ isSubtype_stop (wpAny_pure (q _ hk)))
end
/-! ### zip(a tuple, a list) is made -/
abbrev m1 (h : Heap) (l1 : Addr) : Heap := h.push { cls := .type "tuple_iterator", data := .fields #[.ref l1, .int 0 0] }
abbrev m2 (h : Heap) (l1 l2 : Addr) : Heap := (m1 h l1).push { cls := .type "list_iterator", data := .fields #[.ref l2, .int 0 0] }
abbrev m3 (h : Heap) (l1 l2 : Addr) : Heap := (m2 h l1 l2).push { cls := .type "tuple", data := .seq #[.ref h.objs.size, .ref (m1 h l1).objs.size] }
abbrev m4 (h : Heap) (l1 l2 : Addr) : Heap := (m3 h l1 l2).push { cls := .type "tuple", data := .seq #[.none, .none] }
abbrev m5 (h : Heap) (l1 l2 : Addr) : Heap := (m4 h l1 l2).push { cls := .type "zip", data := .fields #[.none, .bool false, .bool false, .ref (m2 h l1 l2).objs.size, .ref (m3 h l1 l2).objs.size] }
theorem new_mixed (l1 l2 : Addr) (xs ys : Array Value) : Meets (Builtin.«zip.__new__» ⟨[.type "zip", .ref l1, .ref l2], []⟩) (fun _ R s => s.heap.IsTuple l1 xs ∧ s.heap.IsList l2 ys ∧ R (.ok (.ret (.ref (m4 s.heap l1 l2).objs.size))) { s with heap := m5 s.heap l1 l2 }) :=
  .of_wp fun prog w A R s h => by
    obtain ⟨hp, gs, dr, tk, os⟩ := s
    obtain ⟨t1, t2, h⟩ := h
    have hsub := sub_zip
    have isT : Heap.IsTuple (Shared.heap ⟨hp, gs, dr, tk, os⟩) l1 xs := t1
    have isL : Heap.IsList (Shared.heap ⟨hp.push { cls := .type "tuple_iterator", data := .fields #[.ref l1, .int 0 0] }, gs, dr, tk, os⟩) l2 ys := Heap.IsList.push t2 _
    wp_walk using wpAny_pyIter_tuple isT, wpAny_pyIter_list isL
    exact ⟨_, rfl, h⟩
section
variable {prog : Program} {w : World} {A : Around} {E : Value → Shared → Prop} {s : Shared}
theorem call_mixed {l1 l2 : Addr} {xs ys : Array Value} {Q : Value → Shared → Prop} (t1 : s.heap.IsTuple l1 xs) (t2 : s.heap.IsList l2 ys)
    (q : ∀ h', IsZip h' (s.heap.objs.size + 4) (s.heap.objs.size + 2) (s.heap.objs.size + 3) .none → IsPair h' (s.heap.objs.size + 2) (.ref s.heap.objs.size) (.ref (s.heap.objs.size + 1)) → IsPair h' (s.heap.objs.size + 3) .none .none →
      h'.IsTupleIter s.heap.objs.size l1 0 → h'.IsListIter (s.heap.objs.size + 1) l2 0 → (∀ c o, s.heap.get? c = some o → h'.get? c = some o) → Q (.ref (s.heap.objs.size + 4)) { s with heap := h' }) :
    wpAny (model prog w) A (call (.type "zip") [.ref l1, .ref l2]) Q E s := by
  refine callType_new F.called_zip (by decide) (F.typeCall_zip_2 _ _) (F.newCall_zip_2 _ _) (fun obj => F.args_object_init_3 obj _ _) F.entry_zip_new (new_mixed l1 l2 xs ys) ⟨t1, t2, ?_⟩
  have n1 : (m1 s.heap l1).objs.size = s.heap.objs.size + 1 := Heap.size_push ..
  have n2 : (m2 s.heap l1 l2).objs.size = s.heap.objs.size + 2 := (Heap.size_push ..).trans (congrArg (· + 1) n1)
  have n3 : (m3 s.heap l1 l2).objs.size = s.heap.objs.size + 3 := (Heap.size_push ..).trans (congrArg (· + 1) n2)
  have n4 : (m4 s.heap l1 l2).objs.size = s.heap.objs.size + 4 := (Heap.size_push ..).trans (congrArg (· + 1) n3)
  have on : ∀ (h : Heap) (o : Obj) {c : Addr} {u : Obj}, h.get? c = some u → (h.push o).get? c = some u := fun _ _ _ _ e => Heap.get?_push_of_some _ e
  have o5 : (m5 s.heap l1 l2).get? (m4 s.heap l1 l2).objs.size = some _ := Heap.get?_push_size _ rfl
  have o4 : (m5 s.heap l1 l2).get? (m3 s.heap l1 l2).objs.size = some _ := on _ _ (Heap.get?_push_size _ rfl)
  have o3 : (m5 s.heap l1 l2).get? (m2 s.heap l1 l2).objs.size = some _ := on _ _ (on _ _ (Heap.get?_push_size _ rfl))
  have o2 : (m5 s.heap l1 l2).get? (m1 s.heap l1).objs.size = some _ := on _ _ (on _ _ (on _ _ (Heap.get?_push_size _ rfl)))
  have o1 : (m5 s.heap l1 l2).get? s.heap.objs.size = some _ := on _ _ (on _ _ (on _ _ (on _ _ (Heap.get?_push_size _ rfl))))
  show _ ∧ _
  rw [n2, n3, n4] at o5
  rw [n1, n2] at o3
  rw [n3] at o4
  rw [n1] at o2
  rw [n4]
  exact ⟨⟨_, o5, rfl⟩, q _ o5 o3 o4 ⟨_, o1, rfl, rfl⟩ ⟨_, o2, rfl, rfl⟩ fun c o e => on _ _ (on _ _ (on _ _ (on _ _ (on _ _ e))))⟩
end
/-! ### its turns -/
def ItzM (K : PySem.W.Frag) (a b : Addr) : It :=
  ⟨fun i H => ∃ (xs ys : List V) (x y : V), SqT K H a xs ∧ SqL K H b ys ∧ xs[i]? = some x ∧ ys[i]? = some y,
    fun i H v H' => ∃ T x y, v = .ref T ∧ H T = none ∧ H' = upd H T (.tup [x, y]) ∧ (∀ xs, SqT K H a xs → xs[i]? = some x) ∧ ∀ ys, SqL K H b ys → ys[i]? = some y,
    fun i H => ∃ xs ys : List V, SqT K H a xs ∧ SqL K H b ys ∧ (xs.length ≤ i ∨ ys.length ≤ i)⟩
theorem five {c z TI TO i1 i2 : Addr} (h : c ∈ [z, TI, TO, i1, i2]) : c = z ∨ c = TI ∨ c = TO ∨ c = i1 ∨ c = i2 := by simpa using h
theorem turn_mixed {P : Program} {w : World} {K : PySem.W.Frag} {elts : List Expr} {kk : Nat} {tpos : Pos} {a b z TI TO i1 i2 : Addr} (D : ZipApart z TI TO i1 i2 a b) :
    Turn P w K (.Tuple elts kk tpos) (ItzM K a b) [z, TI, TO, i1, i2] z (fun i h => IsZip h z TI TO .none ∧ IsPair h TI (.ref i1) (.ref i2) ∧ (∃ x y, IsPair h TO x y) ∧ kTup.It h i1 a i ∧ kLst.It h i2 b i) where
  mem := by simp
  obj := fun i h st c hc => by
    obtain ⟨hz, hTI, ⟨x, y, hTO⟩, j1, j2⟩ := st
    rcases five hc with rfl | rfl | rfl | rfl | rfl
    · exact ⟨_, hz, fun v q => nomatch q⟩
    · exact ⟨_, hTI, fun v q => nomatch q⟩
    · exact ⟨_, hTO, fun v q => nomatch q⟩
    · exact kTup.obj j1
    · exact kLst.obj j2
  keep := fun i h h' st k => by
    obtain ⟨hz, hTI, ⟨x, y, hTO⟩, j1, j2⟩ := st
    exact ⟨k z (by simp) _ hz, k TI (by simp) _ hTI, ⟨x, y, k TO (by simp) _ hTO⟩, kTup.mvIt j1 fun o q => k i1 (by simp) o q, kLst.mvIt j2 fun o q => k i2 (by simp) o q⟩
  item := by
    intro X hP hw hK hc i pins s σ H E I hf st hg
    subst hP hw hK
    obtain ⟨hz, hTI, ⟨x0, y0, hTO⟩, j1, j2⟩ := st
    obtain ⟨xs, ys, x, y, qx, qy, hx, hy⟩ := hg
    obtain ⟨its, rv, p1, _⟩ := I.tuple qx
    obtain ⟨its2, rv2, p2, _⟩ := I.list qy
    obtain ⟨u, hu, ru⟩ := rv.get hx
    obtain ⟨u2, hu2, ru2⟩ := rv2.get hy
    have zlt : z < s.heap.objs.size := Heap.lt_size hz
    refine py_both kTup kLst D hz hTI hTO j1 j2 (show s.heap.IsTuple a its.toArray from p1) p2.isList (x := u) (y := u2) (by simpa using hu) (by simpa using hu2) fun h' z' TO' j1' j2' hT hsz hk => ?_
    refine ⟨_, rfl, wpAny_letOwnedTupleGo_zip (s := { s with heap := h' }) z' fun h'' z'' sb => ?_⟩
    have pair : h''.get? s.heap.objs.size = some { cls := .type "tuple", data := .seq #[u, u2] } := (sb.2 _ (Nat.ne_of_gt zlt)).trans hT
    have nw : ObjOk X.prog X.w (upd H s.heap.objs.size (.tup [x, y])) h'' s.heap.objs.size (.tup [x, y]) := ⟨by show 2 ≤ sizeLine; decide, [u, u2], .cons ru (.cons ru2 .nil), ⟨_, pair, rfl, _, rfl⟩⟩
    have I1 : Inv X pins σ (upd H s.heap.objs.size (.tup [x, y])) { s with heap := h'' } :=
      I.turnedNew (t' := s.toks) (ch := [z, TI, TO, i1, i2]) (fun c o hb q => (sb.2 c (fun t => hb (by simp [t]))).trans (hk c o (fun t => hb (by simp [t])) (fun t => hb (by simp [t])) (fun t => hb (by simp [t])) (fun t => hb (by simp [t])) q)) hf (Nat.le_refl _) nw
    refine ⟨.ref s.heap.objs.size, _, I1, rfl, ⟨_, x, y, rfl, I.hok.fresh (Nat.le_refl _), rfl, fun l hl => by rw [I.tuple_inj hl qx]; exact hx, fun l hl => by rw [I.list_inj hl qy]; exact hy⟩, ⟨z'', ?_, ⟨u, u2, ?_⟩, ?_, ?_⟩, fun c hcm => ?_⟩
    · exact (sb.2 _ D.TIz).trans (hk _ _ D.TIz D.TITO D.TIi1 D.TIi2 hTI)
    · exact (sb.2 _ D.TOz).trans TO'
    · exact kTup.mvIt j1' fun o q => (sb.2 _ D.i1z).trans q
    · exact kLst.mvIt j2' fun o q => (sb.2 _ D.i2z).trans q
    · have lt : c < s.heap.objs.size := by
        rcases five hcm with rfl | rfl | rfl | rfl | rfl
        · exact zlt
        · exact Heap.lt_size hTI
        · exact Heap.lt_size hTO
        · obtain ⟨_, e1, _⟩ := kTup.obj j1
          exact Heap.lt_size e1
        · obtain ⟨_, e2, _⟩ := kLst.obj j2
          exact Heap.lt_size e2
      rw [upd_ne (Nat.ne_of_lt lt)]
      exact (hf c hcm).1
  done := by
    intro X hP hw hK hc i pins s σ H E I hf st hg
    subst hP hw hK
    obtain ⟨hz, hTI, ⟨x0, y0, hTO⟩, j1, j2⟩ := st
    obtain ⟨xs, ys, qx, qy, over⟩ := hg
    obtain ⟨its, rv, p1, _⟩ := I.tuple qx
    obtain ⟨its2, rv2, p2, _⟩ := I.list qy
    have e1 := rv.length
    have e2 := rv2.length
    have none' : its.toArray[i]? = none ∨ its2.toArray[i]? = none := over.imp (fun q => by simp; omega) fun q => by simp; omega
    exact py_none kTup kLst (I.ok.hd hc) D hz hTI hTO j1 j2 (show s.heap.IsTuple a its.toArray from p1) p2.isList none' fun h' hk => ⟨rfl, I.turnedL (t' := s.toks) (ch := [z, TI, TO, i1, i2]) (fun c o hb q =>
      hk c o (fun t => hb (by simp [t])) (fun t => hb (by simp [t])) (fun t => hb (by simp [t])) (fun t => hb (by simp [t])) q) hf⟩
  self := fun A i s Q E st h => wpAny_pyIter_zip st.1 h
def iZipM (K : PySem.W.Frag) (ta : TA) : TI := fun σ H R => ta σ H fun vs H1 => ∃ a b xs ys, vs = [.ref a, .ref b] ∧ SqT K H1 a xs ∧ SqL K H1 b ys ∧ R (ItzM K a b) H1
theorem pi_zipM {X : Cx} {e e2 : Expr} {ta : TA} {p pos tpos : Pos} {elts : List Expr} {kk : Nat} (hg : Gl X "zip") (hm : X.mg "zip" = none) (ha : PA X [e, e2] ta)
    (hs : starEach [e, e2] X.env = (false, eval e X.env) :: starEach [e2] X.env := by rfl) (hpl : (backTo pos (starEach [e2] X.env)).any (·.1) = false := by rfl) :
    PI X (.Tuple elts kk tpos) (.Call (.Name "zip" p) [e, e2] [] pos) (iZipM X.K ta) := by
  refine ⟨fun pins s σ H R I h => Call_ (ld_blt I hg hm PyProof.Rows.boot_zip (PyProof.Rows.callWith_type1 (thn (ha.run pos pins s σ H _ I h) fun us s1 ⟨vs, H1, I1, r1, a, b, xs, ys, ex, qx, qy, q⟩ => ?_) hs hpl))⟩
  subst ex
  cases r1 with
  | cons ra rr =>
    cases rr with
    | cons rb rr =>
      cases rr
      cases ra
      cases rb
      obtain ⟨its, rv, p1, _⟩ := I1.tuple qx
      obtain ⟨its2, rv2, p2, _⟩ := I1.list qy
      obtain ⟨o1, ho1, _⟩ := id p1
      refine call_mixed (show s1.heap.IsTuple a its.toArray from p1) p2.isList fun h' hz hTI hTO j1 j2 hk => wpAny_pyIter_zip hz ?_
      have I2 : Inv X pins σ H1 { s1 with heap := h' } := I1.kept (t' := s1.toks) hk
      refine ⟨s1.heap.objs.size + 4, [s1.heap.objs.size + 4, s1.heap.objs.size + 2, s1.heap.objs.size + 3, s1.heap.objs.size, s1.heap.objs.size + 1], _, _, H1, rfl, I2, turn_mixed (PySem.W.ktu_apart s1.heap.objs.size a b (Heap.lt_size ho1) p2.lt), ⟨hz, hTI, ⟨_, _, hTO⟩, j1, j2⟩, fun c hc => ?_, q⟩
      have le : s1.heap.objs.size ≤ c := by
        rcases five hc with rfl | rfl | rfl | rfl | rfl
        · exact Nat.le_add_right _ _
        · exact Nat.le_add_right _ _
        · exact Nat.le_add_right _ _
        · exact Nat.le_refl _
        · exact Nat.le_add_right _ _
      exact I1.fpOk le (I1.hok.fresh le)
theorem walk_zipM {K : PySem.W.Frag} {a b : Addr} {xs ys : List V} {n : Nat} (hn : n = min xs.length ys.length) : Walk (ItzM K a b) n (fun H => SqT K H a xs ∧ SqL K H b ys) (YPair (fun i => xs[i]?) (fun i => ys[i]?)) := by
  subst hn
  refine ⟨fun i _ hi q => ?_, fun _ q => ⟨xs, ys, q.1, q.2, by omega⟩, fun i H v H' _ q y => ?_⟩
  · have h1 : i < xs.length := by omega
    have h2 : i < ys.length := by omega
    exact ⟨xs, ys, xs[i], ys[i], q.1, q.2, by simp [h1], by simp [h2]⟩
  · obtain ⟨T, x, z, e1, e2, e3, e4, e5⟩ := y
    exact ⟨T, x, z, e1, e2, e3, e4 xs q.1, e5 ys q.2⟩
end Lz
set_option maxHeartbeats 1000000
/-! {k: v for ..} with tuples as keys -/
namespace Lz
open PySem PySem.Spec PyProof.Rows L2
section
variable {X : Cx}
/-- d[t] = v by a comprehension, t a tuple that stands -/
theorem put_tup {pins : List (Addr × Obj)} {σ : L2.St} {H : Hp} {s : Shared} {E : Value → Shared → Prop} {D b : Addr} {kvs : List (List Key × V)} {k : List Key} {v : V} {r : Value} {Q : Unit → Shared → Prop} (hu : X.A.units + 1 < cLine) (I : Inv X pins σ H s) (hD : H D = some (.dT kvs)) (few : kvs.length < sizeLine)
    (hb : H b = some (.tup (k.map kV))) (rv : RelV v r) (q : ∀ s', Inv X pins σ (upd H D (.dT (putK kvs k v))) s' → Q () s') : wpAny (model X.prog X.w) X.A (dictSet D (.ref b) r) Q E s := by
  obtain ⟨z, hd, xs, rel, dd⟩ := dt_of I.hok hD
  have zx : xs.length ≤ sizeLine := by rw [← Paired.length rel]; exact z
  have zl : (putK kvs k v).length ≤ sizeLine := by have := length_putK kvs k v; omega
  refine wpAny_dictSet_heap (hsz := zx) (show X.A.units < cLine by omega) (key_of I.hok hb) dd fun h' dd' same => q _ ?_
  obtain ⟨o, es, ep, ho, h2, h3, h4, _, h5⟩ := dd'
  refine d_write I (by rw [hD]; exact True.intro) same ⟨o, ho⟩ ⟨zl, hd, _, (rel.put k hb rv).keeps fun c ys ec => ?_, o, es, ep, ho, h2, h3, h4, h5⟩
  rw [upd_ne (ne_of ec hD (fun z => nomatch z))]
  exact ec
/-- the reading: D the new dict -/
def tDt (wi : TI) (g : TG) (tt : TT) (tk tv : TE) (vs : List Nat) : TE := fun σ H Q => wi σ H fun J H1 => ∀ D, H1 D = none → ∃ W : Nat → Nat → Hp → Prop, (∃ m, W 0 m (upd H1 D (.dT []))) ∧ ∀ i m H, W i m H →
  (J.stop i H ∧ Q (.ref D) H) ∨ (J.go i H ∧ ∃ Nx : Hp → Prop, (∀ H', Nx H' → ∃ m', m' < m ∧ W (i + 1) m' H') ∧ ∀ x H', J.yld i H x H' → g x (wipe σ vs) H' fun σ2 H2 => wipe σ2 vs = wipe σ vs ∧ tt σ2 H2 fun b H3 =>
    if b = true then tk σ2 H3 fun y H4 => tv σ2 H4 fun z H5 => ∃ kvs k t, y = .ref t ∧ H5 t = some (.tup (k.map kV)) ∧ H5 D = some (.dT kvs) ∧ kvs.length < sizeLine ∧ Nx (upd H5 D (.dT (putK kvs k z))) else Nx H3)
variable {kx vx tg iter : Expr} {ifs : List Expr} {scope : Scope} {own : List (Str × Nat)} {pos : Pos} {wi : TI} {g : TG} {tt : TT} {tk tv : TE}
theorem pe_dcT (hc : X.calm = true) (hu : X.A.units + 1 < cLine) (hN : X.N.Nodup) (hi : PI X tg iter wi) (ok : BlkOk X.N X.env.scope scope own)
    (hg : ∀ (s : Shared) (H : Hp) (C : Addr) (cl : List (Str × Addr)) (fp : List Addr), PG (X.blk s H scope (compEnvC scope cl C X.env) fp) tg g) (ht : ∀ (s : Shared) (H : Hp) (C : Addr) (cl : List (Str × Addr)) (fp : List Addr), PTs (X.blk s H scope (compEnvC scope cl C X.env) fp) ifs tt)
    (hk : ∀ (s : Shared) (H : Hp) (C : Addr) (cl : List (Str × Addr)) (fp : List Addr), PE (X.blk s H scope (compEnvC scope cl C X.env) fp) kx tk) (he : ∀ (s : Shared) (H : Hp) (C : Addr) (cl : List (Str × Addr)) (fp : List Addr), PE (X.blk s H scope (compEnvC scope cl C X.env) fp) vx tv)
    (hs : ∀ x, foldedSetIterable iter X.env x = pure x := by intro _; rfl) : PE X (.DictComp kx vx [⟨tg, iter, ifs, 0⟩] scope pos) (tDt wi g tt tk tv (own.map (·.2))) := by
  refine ⟨fun pins s σ H Q I h => ?_⟩
  rw [arm_eval_DictComp]
  have cells : ∀ y ∈ scope.names, y.2 = .free → ∃ c, X.env.cells.lookup y.1 = some c := fun y hy e => (ok.free y hy e).elim (fun k => I.ok.has _ (.inl k)) fun k => I.ok.has _ (.inr k)
  refine wpAny_comprehension_free rfl hs (closure_ok cells) ok.kind (fun y hy e => by rw [ok.uniq y hy, e]) (thn (hi.run pins s σ H _ I h) fun xv s1 hx => thn hx fun itv s2 h2 => ?_)
  obtain ⟨it, fp, tn, J, H2, e, I2, T, st2, f2, q⟩ := h2
  subst e
  refine wpAny_newObj_type (newEnv_comp ?_)
  -- the new dict
  obtain ⟨D, eD⟩ : ∃ D, D = s2.heap.objs.size := ⟨_, rfl⟩
  have nD : H2 D = none := I2.hok.fresh (Nat.le_of_eq eD.symm)
  obtain ⟨W, ⟨m0, w0⟩, turn⟩ := q D nD
  obtain ⟨s3, es3⟩ : ∃ s3 : Shared, s3 = { s2 with heap := s2.heap.push { cls := .type "dict", data := .dict #[] } } := ⟨_, rfl⟩
  have hp3 : s3.heap = s2.heap.push { cls := .type "dict", data := .dict #[] } := by rw [es3]
  have I3 : Inv X pins σ (upd H2 D (.dT [])) s3 := by
    rw [es3, eD]
    exact I2.laid (t' := s2.toks) (fun b o e => Heap.get?_push_of_some _ e) (Nat.le_refl _) (dt_empty s2.heap I2.big)
  have lt2 : ∀ b ∈ fp, b < s2.heap.objs.size := fun b hb => let ⟨_, e, _⟩ := T.obj _ _ st2 b hb; Heap.lt_size e
  have f3 : ∀ b ∈ fp, FpOk X pins (upd H2 D (.dT [])) b ∧ b < s3.heap.objs.size := fun b hb => by
    have lt := lt2 b hb
    refine ⟨⟨(upd_ne (by rw [eD]; exact Nat.ne_of_lt lt)).trans (f2 b hb).1, (f2 b hb).2⟩, ?_⟩
    rw [hp3, Heap.size_push]
    exact Nat.lt_succ_of_lt lt
  have st3 : tn 0 s3.heap := T.keep _ _ _ st2 fun b _ o e => by rw [hp3]; exact Heap.get?_push_of_some _ e
  have I4 := block_start I3 ok hN f3
  have on : ∀ (P : ∀ (s : Shared) (H : Hp) (C : Addr) (cl : List (Str × Addr)) (fp : List Addr), Prop), (∀ s H C cl fp, P s H C cl fp) → P s3 (upd H2 D (.dT [])) s3.heap.objs.size (cellsFrom (s3.heap.objs.size + 1) scope.names (cloFrom X.env.cells scope.names [])) fp := fun P h => h _ _ _ _ _
  have pg := hg s3 (upd H2 D (.dT [])) s3.heap.objs.size (cellsFrom (s3.heap.objs.size + 1) scope.names (cloFrom X.env.cells scope.names [])) fp
  have pt := ht s3 (upd H2 D (.dT [])) s3.heap.objs.size (cellsFrom (s3.heap.objs.size + 1) scope.names (cloFrom X.env.cells scope.names [])) fp
  have pk := hk s3 (upd H2 D (.dT [])) s3.heap.objs.size (cellsFrom (s3.heap.objs.size + 1) scope.names (cloFrom X.env.cells scope.names [])) fp
  have pe := he s3 (upd H2 D (.dT [])) s3.heap.objs.size (cellsFrom (s3.heap.objs.size + 1) scope.names (cloFrom X.env.cells scope.names [])) fp
  rw [← eD, ← es3]
  generalize hce : compEnvC scope (cellsFrom (s3.heap.objs.size + 1) scope.names (cloFrom X.env.cells scope.names [])) s3.heap.objs.size X.env = ce at I4 pg pt pk pe
  show codeAny _ _ (.compStart (.DictComp kx vx [⟨tg, iter, ifs, 0⟩] scope pos) 0 (.ref it) (.ref D) (compEnvC scope (cellsFrom (s3.heap.objs.size + 1) scope.names (cloFrom X.env.cells scope.names [])) s3.heap.objs.size X.env)) _ { s3 with heap := pushCells (s3.heap.push { cls := .type "dict", data := .dict #[] }) scope.names }
  rw [hce]
  have cL : ce.locals = s3.heap.objs.size := by subst hce; rfl
  have n3 : ∀ b ∈ fp, (upd H2 D (.dT [])) b = none := fun b hb => (f3 b hb).1.1
  generalize upd H2 D (.dT []) = H3 at I3 I4 pg pt pk pe w0 n3 f3
  generalize hs4 : ({ s3 with heap := pushCells (s3.heap.push { cls := .type "dict", data := .dict #[] }) scope.names } : Shared) = s4 at I4 ⊢
  have st4 : tn 0 s4.heap := T.keep _ _ _ st3 fun b _ o e => by rw [← hs4]; exact pushCells_keeps _ _ _ _ (Heap.get?_push_of_some _ e)
  have room : X.A.units + 1 < cLine := hu
  have fpOk : ∀ {σ' : L2.St} {H' : Hp} {s' : Shared}, Inv (X.blk s3 H3 scope ce fp) [] σ' H' s' → (∀ b ∈ fp, H' b = none) → ∀ b ∈ fp, FpOk (X.blk s3 H3 scope ce fp) [] H' b := fun {σ' H' s'} I' n b hb =>
    ⟨n b hb, (I'.ok.exf b hb).1, I'.ok.exfs b hb, .inl hb, fun x c e => (I'.ok.exf b hb).2 x c e, fun p hp => nomatch (show p ∈ ([] : List (Addr × Obj)) from hp)⟩
  refine codeAny_compStart_dict (?loop) (T.self X.A 0 _ _ _ st4 ?loop)
  refine compLoop_anyD (fun n s' => ∃ i H', Inv (X.blk s3 H3 scope ce fp) [] (wipe σ (own.map (·.2))) H' s' ∧ tn i s'.heap ∧ (∀ b ∈ fp, H' b = none) ∧ W i n H') ?_ m0 ⟨0, H3, I4, st4, n3, w0⟩
  rintro n s5 ⟨i, H5, I5, st5, n5, w5⟩
  rcases turn i n H5 w5 with ⟨stop, qq⟩ | ⟨go, Nx, hNx, step⟩
  · refine thnF (T.done (X.blk s3 H3 scope ce fp) rfl rfl rfl hc i [] s5 _ H5 (fun _ _ => False) I5 (fpOk I5 n5) st5 stop) fun r s6 ⟨hr, I6⟩ => ?_
    subst hr
    have back : Inv X pins σ H5 s6 := I3.call' (ch := fp) I6.os I6.base I6.hok I6.bare fun b hb => ⟨(f3 b hb).1.2.2.2.1, (f3 b hb).1.2.1, (f3 b hb).1.2.2.2.2.1, (f3 b hb).1.2.2.2.2.2⟩
    have nC : H5 s3.heap.objs.size = none := cL ▸ (show H5 ce.locals = none from I6.free)
    obtain ⟨m, hn, _⟩ := I6.loc
    have hn : s6.heap.Ns ce.locals m := hn
    rw [cL] at hn
    refine ⟨m, hn, fun h'' sb => ?_⟩
    obtain ⟨f0, f1, f2', f3', f4, f5⟩ := I3.fpOk (Nat.le_refl _) nC
    exact ⟨.ref D, H5, back.turned (t' := s6.toks) (fun b o hb e => (sb.2 b hb).trans e) f0 f1 f3' f4 f5, rfl, qq⟩
  · refine thnF (T.item (X.blk s3 H3 scope ce fp) rfl rfl rfl hc i [] s5 _ H5 (fun _ _ => False) I5 (fpOk I5 n5) st5 go) fun r s6 ⟨u, hr, h6⟩ => ?_
    subst hr
    refine thnF h6 fun _ s7 ⟨x, H7, I7, r7, y7, st7, n7⟩ => ?_
    refine thnF (pg.run _ s7 _ H7 x u _ (I7.pinned (fpOk I7 n7) (T.obj _ _ st7)) r7 (step x H7 y7)) fun _ s8 ⟨σ8, H8, I8, hw8, q8⟩ => ?_
    refine thnF (pt.run _ s8 σ8 H8 _ I8 q8) fun b s9 ⟨H9, I9, q9⟩ => ?_
    have again : ∀ {s' : Shared} {H' : Hp}, Inv (X.blk s3 H3 scope ce fp) ([] ++ pinsAt fp s7.heap) σ8 H' s' → Nx H' → ∃ m, m < n ∧ ∃ i H', Inv (X.blk s3 H3 scope ce fp) [] (wipe σ (own.map (·.2))) H' s' ∧ tn i s'.heap ∧ (∀ b ∈ fp, H' b = none) ∧ W i m H' := fun {s' H'} I' nx => by
      obtain ⟨m', hm, w'⟩ := hNx H' nx
      have pin : ∀ b ∈ fp, ∀ o, s7.heap.get? b = some o → s'.heap.get? b = some o ∧ H' b = none := fun b hb o e =>
        let z := I'.pin (b, o) (List.mem_append_right _ (List.mem_append_right _ (mem_pinsAt hb e)))
        ⟨z.1, z.2.1⟩
      refine ⟨m', hm, i + 1, H', (I'.unpinned (pins := [])).weak (by rw [← hw8, wipe_length]) (fun j v e => ?_), T.keep _ _ _ st7 fun b hb o e => (pin b hb o e).1, fun b hb => ?_, w'⟩
      · rw [← hw8] at e
        exact (wipe_some e).1
      · obtain ⟨o, e, _⟩ := T.obj _ _ st7 b hb
        exact (pin b hb o e).2
    cases b with
    | false =>
      simp only [Bool.false_eq_true, if_false] at q9 ⊢
      exact again I9 q9
    | true =>
      simp only [if_true] at q9 ⊢
      refine thnF (pk.run _ s9 σ8 H9 _ I9 q9) fun z s10 ⟨yk, H10, I10, r10, q10⟩ => ?_
      refine thnF (pe.run _ s10 σ8 H10 _ I10 q10) fun z2 s11 ⟨yv, H11, I11, r11, kvs, k, t, ek, ht, hD, hz, nx⟩ => ?_
      subst ek
      cases (show z = Value.ref t from r10)
      exact put_tup (X := X.blk s3 H3 scope ce fp) room I11 hD hz ht r11 fun s12 I12 => again I12 nx
end
/-- over any walk -/
theorem dt_it {J : It} {n : Nat} {G : Hp → Prop} {Y : Nat → Hp → V → Hp → Prop} (w : Walk J n G Y) {g : TG} {tt : TT} {tk tv : TE} {vs : List Nat} {σ : L2.St} {H1 : Hp} {D : Addr} {Qd : Hp → Prop} (Pv : Nat → Hp → Prop) (h0 : Pv 0 (upd H1 D (.dT []))) (hG : ∀ i H, i ≤ n → Pv i H → G H)
    (hs : ∀ i x H H', i < n → Pv i H → Y i H x H' → g x (wipe σ vs) H' fun σ2 H2 => wipe σ2 vs = wipe σ vs ∧ tt σ2 H2 fun b H3 =>
      if b = true then tk σ2 H3 fun y H4 => tv σ2 H4 fun z H5 => ∃ kvs k t, y = .ref t ∧ H5 t = some (.tup (k.map kV)) ∧ H5 D = some (.dT kvs) ∧ kvs.length < sizeLine ∧ Pv (i + 1) (upd H5 D (.dT (putK kvs k z))) else Pv (i + 1) H3) (hd : ∀ H, Pv n H → Qd H) :
    ∃ W : Nat → Nat → Hp → Prop, (∃ m, W 0 m (upd H1 D (.dT []))) ∧ ∀ i m H, W i m H →
      (J.stop i H ∧ Qd H) ∨ (J.go i H ∧ ∃ Nx : Hp → Prop, (∀ H', Nx H' → ∃ m', m' < m ∧ W (i + 1) m' H') ∧ ∀ x H', J.yld i H x H' → g x (wipe σ vs) H' fun σ2 H2 => wipe σ2 vs = wipe σ vs ∧ tt σ2 H2 fun b H3 =>
        if b = true then tk σ2 H3 fun y H4 => tv σ2 H4 fun z H5 => ∃ kvs k t, y = .ref t ∧ H5 t = some (.tup (k.map kV)) ∧ H5 D = some (.dT kvs) ∧ kvs.length < sizeLine ∧ Nx (upd H5 D (.dT (putK kvs k z))) else Nx H3) := by
  refine ⟨fun i m H => m = n - i ∧ i ≤ n ∧ Pv i H, ⟨n, by simp, Nat.zero_le _, h0⟩, ?_⟩
  rintro i m H ⟨rfl, hi, p⟩
  by_cases lt : i < n
  · exact .inr ⟨w.goes i H lt (hG i H hi p), Pv (i + 1), fun H' p' => ⟨n - (i + 1), by omega, rfl, lt, p'⟩, fun x H' y => hs i x H H' lt p (w.yields i H x H' lt (hG i H hi p) y)⟩
  · have e : i = n := by omega
    subst e
    exact .inl ⟨w.stops H (hG _ H hi p), hd H p⟩
end Lz
namespace Wb
open PySem L2
def top (i : Nat) : Stmt := PySem.Challenge.pw_wherebegun_k14_loops_refused.main.body.getD i (.Pass ⟨0, 0, 0, 0⟩)
abbrev sCell : Stmt := top 53
abbrev sPool : Stmt := top 54
abbrev sDraw : Stmt := top 55
/-- all but what lies at p stays -/
def But (p : Addr) (H H' : Hp) : Prop := ∀ b o, b ≠ p → H b = some o → H' b = some o
theorem But.refl (p : Addr) (H : Hp) : But p H H := fun _ _ _ h => h
theorem But.trans {p : Addr} {H H1 H2 : Hp} (a : But p H H1) (b : But p H1 H2) : But p H H2 := fun c o n h => b c o n (a c o n h)
theorem But.of {p : Addr} {H H' : Hp} (a : Same H H') : But p H H' := fun c o _ h => a c o h
theorem But.upd {p q : Addr} {o : HO} {H H' : Hp} (a : But p H H') (n : H' q = none) : But p H (L2.upd H' q o) := fun c u k h => by
  rw [upd_ne (ne_of_none (a c u k h) n)]
  exact a c u k h
theorem But.here {p : Addr} {o : HO} {H H' : Hp} (a : But p H H') : But p H (L2.upd H' p o) := fun c u k h => by
  rw [upd_ne k]
  exact a c u k h
theorem Same.put {q : Addr} {o : HO} {H H' : Hp} (a : Same H H') (n : H' q = none) : Same H (L2.upd H' q o) := fun c u h => by
  rw [upd_ne (ne_of_none (a c u h) n)]
  exact a c u h
/-- a pool stands at p: three ints -/
def PoolAt (H : Hp) (p : Addr) : Prop := ∃ a b c : Int, H p = some (.lst [.int a, .int b, .int c]) ∧ 0 ≤ a ∧ a < 2147483648 ∧ 0 ≤ b
def spDraw : Sp := fun vs H Q _ => ∃ (p : Addr) (m : Int), vs = [.ref p, .int m] ∧ 0 < m ∧ m < 1073741824 ∧ PoolAt H p ∧
  ∀ (d : Int) (H' : Hp), 0 ≤ d → d < m → PoolAt H' p → But p H H' → Q (.int d) H'
def spPool : Sp := fun vs H Q _ => ∃ c : Int, vs = [.int c] ∧ ∀ (p : Addr) (H' : Hp), H p = none → Same H H' → PoolAt H' p → Q (.ref p) H'
def spCell (K : PySem.W.Frag) : Sp := fun vs H Q _ => ∃ (a : Addr) (ns : List Int) (k : Int), vs = [.ref a, .int k] ∧ SqL K H a (ns.map V.int) ∧ ns.length ≤ 63 ∧ 0 ≤ k ∧ k < 64 ∧
  ∀ (n : Int) (H' : Hp), Same H H' → Q (.int n) H'
theorem cut_int {ns : List Int} {lo hi : Option Int} {i : Nat} {y : V} (h : (cutV (ns.map V.int) lo hi)[i]? = some y) : ∃ u, y = V.int u := by
  have q := List.mem_of_getElem? h
  unfold cutV at q
  obtain ⟨u, _, e⟩ := List.mem_map.mp (List.mem_of_mem_drop (List.mem_of_mem_take q))
  exact ⟨u, e.symm⟩
section
variable {P : Program} {w : World} {K : PySem.W.Frag} {mg : Str → Option Value} {base : Heap}
theorem scP : FnScope ["_law_cell_here", "_law_digits"] ["_law_cell_here"] (defScope sPool) := ⟨rfl, rfl, rfl, by decide +kernel, rfl, by decide +kernel, by decide +kernel⟩
theorem ok_pool {f : Addr} {fd : FuncData} (F : Fun K "_law_pool" "_law_pool" sPool f fd) (mAbs : mg "abs" = none) (mInt : mg "int" = none) : FnOk P w K mg base CX0 1 f fd ["_law_cell_here"] spPool := by
  refine F.ok scP (fun vs H Q E h => ?_) (fun cdv A outer s H vs Q E hr h => ?_)
  · obtain ⟨c, rfl, _⟩ := h
    rfl
  · obtain ⟨c, rfl, k⟩ := h
    refine ⟨_, pss_cons (ps_set (i := 1) scP.nd rfl (.inl rfl) (pe_ifExp (PW.pt (pw_or (pt_cmpR op_lt (pv 0) pe_int (nomark _)) (pw_or1 (pt_cmpR op_ge (pv 0) (pe_op op_pow pe_int pe_int) (nomark _)))))
        (pe_callB call_abs (by rfl) mAbs (by decide +kernel) (pa_cons (pv 0) pa_nil)) pe_int))
      (pss_one (ps_ret (pe_lst (pa_cons (pe_op op_mod (pe_callTy call_int1 (by rfl) mInt (by decide +kernel) (pa_cons (pv 0) pa_nil)) pe_int) (pa_cons (pv 1) (pa_cons pe_int pa_nil)))))), ?_⟩
    have fin : ∀ d : Int, 0 ≤ d → (tRet (tLst (tCons (tOp (rI (fun x j => 0 < j) fun i j => V.int (i % j)) (tCB (fun xs H Q => (∃ i, xs = [V.int i] ∧ Q (V.int i) H) ∨ ∃ k, xs = [V.bl k] ∧ Q (V.int (if k = true then 1 else 0)) H) (tCons (tVar 0) tNil)) (tC (V.int 2147483587))) (tCons (tVar 1) (tCons (tC (V.int 0)) tNil)))))
        { nx := fun x H' => Q V.non H', rt := Q } [some (V.int c), some (V.int d)] H := fun d h0 => by
      refine ⟨_, rfl, .inl ⟨_, rfl, _, _, rfl, rfl, (by show (0 : Int) < 2147483587; decide), _, rfl, (by show 3 ≤ sizeLine; decide), fun p hp => ?_⟩⟩
      refine k p _ hp (Same.put (Same.refl H) hp) ⟨_, _, _, upd_same, ?_⟩
      omega
    refine ⟨_, rfl, _, _, rfl, rfl, _, rfl, ite2 (fun h1 => iteT ?_) (fun h1 => ?_)⟩
    · refine ⟨_, rfl, _, rfl, ?_⟩
      exact fin _ (by split <;> omega)
    · refine ⟨_, rfl, _, _, rfl, rfl, (by refine ⟨?_, ?_, ?_⟩ <;> decide), _, _, rfl, rfl, _, rfl, ?_⟩
      refine ite2 (fun h2 => ?_) (fun h2 => ?_)
      · refine ⟨_, rfl, _, rfl, ?_⟩
        exact fin _ (by split <;> omega)
      · exact fin 0 (by omega)
theorem scD : FnScope ["_law_pool_here", "_law_many", "_law_mixed", "_law_digit"] ["_law_pool_here", "_law_many"] (defScope sDraw) := ⟨rfl, rfl, rfl, by decide +kernel, rfl, by decide +kernel, by decide +kernel⟩
theorem ok_draw {f : Addr} {fd : FuncData} (F : Fun K "_law_draw" "_law_draw" sDraw f fd) (mInt : mg "int" = none) (mDm : mg "divmod" = none) : FnOk P w K mg base CX0 1 f fd ["_law_pool_here", "_law_many"] spDraw := by
  refine F.ok scD (fun vs H Q E h => ?_) (fun cdv A outer s H vs Q E hr h => ?_)
  · obtain ⟨p, m, rfl, _⟩ := h
    rfl
  · obtain ⟨p, m, rfl, m0, m1, ⟨a, b, c, hp, a0, a1, b0⟩, k⟩ := h
    refine ⟨_, pss_cons (ps_asg (pe_op op_add (pe_ix ix_list (pv 0) pe_int (fun _ _ => rfl)) pe_int) (pg_sub (pv 0) pe_int set_list))
      (pss_cons (ps_set (i := 2) scD.nd rfl (.inl rfl) (pe_op op_mod (pe_callTy call_int1 (by rfl) mInt (by decide +kernel) (pa_cons (pe_op op_add (pe_op op_add (pe_op op_mul (pe_ix ix_list (pv 0) pe_int (fun _ _ => rfl)) pe_int) (pe_op op_mul (pe_ix ix_list (pv 0) pe_int (fun _ _ => rfl)) pe_int)) pe_int) pa_nil)) pe_int))
      (pss_cons (ps_asg (pe_op op_mod (pe_callTy call_int1 (by rfl) mInt (by decide +kernel) (pa_cons (pe_op op_mul (pv 2) (pe_op op_add (pe_op op_fdiv (pv 2) pe_int) pe_int)) pa_nil)) pe_int) (pg_sub (pv 0) pe_int set_list))
      (pss_cons (ps_if (pt_cmpR op_gt (pe_ix ix_list (pv 0) pe_int (fun _ _ => rfl)) pe_int (nomark _))
          (pss_cons (ps_asg (pe_callB call_divmod (by rfl) mDm (by decide +kernel) (pa_cons (pe_ix ix_list (pv 0) pe_int (fun _ _ => rfl)) (pa_cons (pv 1) pa_nil))) (pg_tup (by rfl) (pgs_cons (pg_sub (pv 0) pe_int set_list) (pgs_cons (pg_name (i := 3) scD.nd rfl (.inl rfl)) pgs_nil))))
            (pss_one (ps_ret (pv 3)))) pss_nil)
      (pss_one (ps_ret (pe_op op_mod (pe_callTy call_int1 (by rfl) mInt (by decide +kernel) (pa_cons (pe_op op_fdiv (pe_ix ix_list (pv 0) pe_int (fun _ _ => rfl)) pe_int) pa_nil)) (pv 1))))))), ?_⟩
    refine ⟨_, rfl, p, _, _, _, rfl, rfl, SqL.of hp, rfl, _, _, rfl, rfl, _, rfl, p, _, _, 2, rfl, rfl, hp, rfl, ?_⟩
    have hp1 : (L2.upd H p (.lst [.int a, .int b, .int (c + 1)])) p = some (.lst [.int a, .int b, .int (c + 1)]) := upd_same
    refine ⟨_, rfl, p, _, _, _, rfl, rfl, SqL.of hp1, rfl, _, _, rfl, rfl, .inl ⟨by omega, by omega⟩, _, rfl, p, _, _, _, rfl, rfl, SqL.of hp1, rfl, _, _, rfl, rfl, .inr ⟨by decide, by decide⟩, _, _, rfl, rfl, _, _, rfl, rfl, .inl ⟨_, rfl, _, _, rfl, rfl, (by show (0 : Int) < 2147483587; decide), ?_⟩⟩
    have x0 : ∀ z : Int, 0 ≤ z % 2147483587 ∧ z % 2147483587 < 2147483587 := fun z => ⟨Int.emod_nonneg _ (by decide), Int.emod_lt_of_pos _ (by decide)⟩
    generalize hx : ((a * 50021 + (c + 1) * 69067 + 31) % 2147483587 : Int) = x
    have ⟨x1, x2⟩ : 0 ≤ x ∧ x < 2147483587 := by rw [← hx]; exact x0 _
    refine ⟨_, rfl, _, rfl, _, _, rfl, rfl, ⟨by decide, by decide⟩, _, _, rfl, rfl, _, _, rfl, rfl, .inl ⟨by omega, by omega⟩, .inl ⟨_, rfl, _, _, rfl, rfl, (by show (0 : Int) < 2147483629; decide), ?_⟩⟩
    have y0 : ∀ z : Int, 0 ≤ z % 2147483629 ∧ z % 2147483629 < 2147483629 := fun z => ⟨Int.emod_nonneg _ (by decide), Int.emod_lt_of_pos _ (by decide)⟩
    refine ⟨_, rfl, p, _, _, 0, rfl, rfl, hp1, rfl, ?_⟩
    refine ⟨_, rfl, p, _, _, _, rfl, rfl, SqL.of upd_same, rfl, _, _, rfl, rfl, _, rfl, ite2 (fun h1 => ?_) (fun h1 => ?_)⟩
    · refine ⟨_, rfl, p, _, _, _, rfl, rfl, SqL.of upd_same, rfl, _, rfl, _, _, rfl, ⟨m0, m1⟩, fun t ht => ?_⟩
      have npt : p ≠ t := ne_of_none upd_same ht
      refine ⟨t, _, rfl, SqT.of upd_same, rfl, _, _, rfl, _, rfl, p, _, _, 1, rfl, rfl, (upd_ne npt).trans upd_same, rfl, _, _, rfl, ?_⟩
      refine ⟨rfl, _, rfl, k _ _ (Int.emod_nonneg _ (by omega)) (Int.emod_lt_of_pos _ m0) ⟨_, _, _, upd_same, ?_⟩ (But.here (But.upd (But.here (But.here (But.refl p H))) ht))⟩
      refine ⟨(y0 _).1, Int.lt_trans (y0 _).2 (by decide), ?_⟩
      exact Int.ediv_nonneg b0 (Int.le_of_lt m0)
    · refine ⟨_, rfl, p, _, _, _, rfl, rfl, SqL.of upd_same, rfl, _, _, rfl, rfl, ⟨by decide, by decide⟩, .inl ⟨_, rfl, _, rfl, _, _, rfl, rfl, m0, ?_⟩⟩
      exact k _ _ (Int.emod_nonneg _ (by omega)) (Int.emod_lt_of_pos _ m0) ⟨_, _, _, upd_same, (y0 _).1, Int.lt_trans (y0 _).2 (by decide), b0⟩ (But.here (But.here (But.refl p H)))
theorem scC : FnScope ["_law_script", "_law_k", "_law_mixed", "_law_cell_here"] ["_law_script", "_law_k"] (defScope sCell) := ⟨rfl, rfl, rfl, by decide +kernel, rfl, by decide +kernel, by decide +kernel⟩
theorem ok_cell {f : Addr} {fd : FuncData} (F : Fun K "_law_cell" "_law_cell" sCell f fd) (mInt : mg "int" = none) (mLen : mg "len" = none) : FnOk P w K mg base CX0 1 f fd ["_law_script", "_law_k"] (spCell K) := by
  refine F.ok scC (fun vs H Q E h => ?_) (fun cdv A outer s H vs Q E hr h => ?_)
  · obtain ⟨a, ns, j, rfl, _⟩ := h
    rfl
  · obtain ⟨a, ns, j, rfl, hS, hlen, j0, j1, k⟩ := h
    refine ⟨_, pss_cons (ps_if (pt_cmpR op_lt (pv 1) (pe_callB call_len_seq (by rfl) mLen PySem.boot_len (pa_cons (pv 0) pa_nil)) (nomark _)) (pss_one (ps_ret (pe_ix ix_list (pv 0) (pv 1) (fun _ _ => rfl)))) pss_nil)
      (pss_cons (ps_set (i := 2) scC.nd rfl (.inl rfl) (pe_op op_add pe_int (pe_op op_mul (pe_op op_mul pe_int (pv 1)) (pv 1))))
      (pss_cons (ps_for PassesOwn.never rfl (pi_list (pe_slice sl_list (pv 0) po_none (po_some pe_int))) (pg_name (i := 3) scC.nd rfl (.inl rfl))
        (pss_one (ps_set (i := 2) scC.nd rfl (.inl rfl) (pe_op op_mod (pe_callTy call_int1 (by rfl) mInt (by decide +kernel) (pa_cons (pe_op op_add (pe_op op_mul (pv 2) pe_int) (pv 3)) pa_nil)) pe_int))))
      (pss_one (ps_ret (pv 2))))), ?_⟩
    refine ⟨_, rfl, _, rfl, a, _, rfl, .inl hS, _, _, rfl, rfl, _, rfl, ite2 (fun h1 => ?_) (fun h1 => ?_)⟩
    · have h2 : j < (ns.length : Int) := by
        have q := of_decide_eq_true h1
        rw [List.length_map] at q
        exact q
      have h3 : (ns.map V.int)[j.toNat]? = some (V.int (ns[j.toNat]'(by omega))) := by
        rw [List.getElem?_map, List.getElem?_eq_getElem (by omega)] <;> rfl
      have h4 : atI (ns.map V.int) j = some (V.int (ns[j.toNat]'(by omega))) := by
        have q := atI_nat h3
        rw [Int.toNat_of_nonneg j0] at q
        exact q
      exact ⟨_, rfl, _, rfl, a, _, _, _, rfl, rfl, hS, h4, k _ _ (Same.refl H)⟩
    · have b1 : (-(2 ^ 64) < (4093 : Int) ∧ (4093 : Int) < 2 ^ 64) := by decide
      refine ⟨_, rfl, _, _, rfl, rfl, .inl b1, _, rfl, _, _, rfl, rfl, .inr ⟨by omega, by omega⟩, _, _, rfl, rfl, ?_⟩
      refine ⟨_, rfl, _, rfl, a, _, rfl, hS, fun q hq => ?_⟩
      have sq : SqL K (L2.upd H q (.lst (cutV (ns.map V.int) none (some 4)))) q (cutV (ns.map V.int) none (some 4)) := SqL.of upd_same
      refine ⟨q, rfl, ⟨_, sq⟩, for_list (K := K) (a := q) (xs := cutV (ns.map V.int) none (some 4)) (fun i σ H' => ∃ (z : Int) (v : Option V), σ = [some (.ref a), some (.int j), some (.int z), v] ∧ Same H H' ∧ SqL K H' q (cutV (ns.map V.int) none (some 4)))
        ⟨_, none, rfl, Same.put (Same.refl H) hq, sq⟩ (fun i σ H' _ ⟨_, _, _, _, s⟩ => s) ?_ ?_⟩
      · rintro i y σ H' hi ⟨z, v, rfl, s1, s2⟩
        obtain ⟨u, rfl⟩ := cut_int hi
        exact ⟨_, rfl, _, _, rfl, rfl, .inr ⟨by decide, by decide⟩, _, rfl, _, _, rfl, rfl, .inl ⟨_, rfl, _, _, rfl, rfl, (by show (0 : Int) < 2147483629; decide), _, _, rfl, s1, s2⟩⟩
      · rintro σ H' ⟨z, v, rfl, s1, s2⟩
        exact ⟨_, rfl, k _ _ s1⟩
end
end Wb
/-! min(xs) of a list of texts; a text so many times -/
namespace WbMin
open PySem PySem.W PySem.Spec PyProof.Rows L2
theorem depthAll_strs : ∀ xs : List Str, PyData.depthAll (xs.map PyData.str) = 0
  | [] => rfl
  | x :: r => by
    show max (PyData.depth (.str x)) (PyData.depthAll (r.map PyData.str)) = 0
    rw [depthAll_strs r] <;> rfl
section
variable {X : Cx}
end
end WbMin
namespace Wb
open PySem L2 WbMin
abbrev sSigns : Stmt := top 60
/-- the text of these codes -/
def S (l : List Nat) : Str := ⟨l.toArray⟩
theorem S_cps (l : List Nat) : (S l).cps.toList = l := by simp [S]
theorem S_size (l : List Nat) : (S l).cps.size = l.length := by simp [S]
theorem S_len (l : List Nat) : (S l).length = l.length := S_size l
theorem S_of (z : Str) : S z.cps.toList = z := by cases z; simp [S]
theorem S_eq {z : Str} {l : List Nat} (h : z.cps.toList = l) : z = S l := by rw [← h, S_of]
theorem S_add (l m : List Nat) : S l ++ S m = S (l ++ m) := by
  show Str.append (S l) (S m) = S (l ++ m)
  simp [S, Str.append]
def one (c : Nat) : Str := ⟨#[c]⟩
theorem S_one (c : Nat) : one c = S [c] := rfl
def abc : List Nat := (List.range 26).map (· + 97)
theorem abc_is : ("abcdefghijklmnopqrstuvwxyz" : Str) = S abc := by decide +kernel
/-- small letters -/
def Low (l : List Nat) : Prop := ∀ c ∈ l, 97 ≤ c ∧ c ≤ 122
theorem abc_low : Low abc := by unfold Low abc; decide
theorem abc_len : abc.length = 26 := rfl
/-- a def of the top -/
structure Def (K : PySem.W.Frag) (mg : Str → Option Value) (x : Str) (st : Stmt) (ps : List Str) (f : Addr) (fd : FuncData) : Prop where
  F : Fun K x x st f fd
  g : mg x = some (.ref f)
  kp : PySem.W.keepIn K (.ref f) = true
  b : Binds K fd ps []
def spSigns : Sp := fun vs H Q _ => ∃ (p : Addr) (m : Int), vs = [.ref p, .int m] ∧ 0 < m ∧ m ≤ 26 ∧ PoolAt H p ∧
  ∀ (l : List Nat) (H' : Hp), Low l → l.Nodup → 0 < l.length → (l.length : Int) ≤ m → PoolAt H' p → But p H H' → Q (.str (S l)) H'
theorem drop_one (a : Nat) : ∀ ys : List Nat, ys.Nodup → ys.length ≤ (ys.filter fun c => !decide (c = a)).length + 1
  | [], _ => Nat.zero_le _
  | y :: r, nd => by
    obtain ⟨n1, n2⟩ := List.nodup_cons.mp nd
    by_cases e : y = a
    · have e1 : (r.filter fun c => !decide (c = a)) = r := List.filter_eq_self.mpr fun c hc => by
        have : c ≠ a := fun z => n1 (e ▸ z ▸ hc)
        simp [this]
      rw [List.filter_cons_of_neg (by simp [e]), e1] <;> exact Nat.le_refl _
    · rw [List.filter_cons_of_pos (by simp [e])]
      have := drop_one a r n2
      simp only [List.length_cons]
      omega
theorem left_len : ∀ (l xs : List Nat), xs.Nodup → xs.length ≤ (xs.filter fun c => !decide (c ∈ l)).length + l.length
  | [], xs, _ => by
    have e : (xs.filter fun c => !decide (c ∈ ([] : List Nat))) = xs := List.filter_eq_self.mpr (by simp)
    rw [e] <;> exact Nat.le_refl _
  | a :: l, xs, nd => by
    have ih := left_len l xs nd
    have e : (xs.filter fun c => !decide (c ∈ a :: l)) = ((xs.filter fun c => !decide (c ∈ l)).filter fun c => !decide (c = a)) := by
      rw [List.filter_filter]
      refine List.filter_congr fun c _ => ?_
      by_cases h1 : c = a <;> by_cases h2 : c ∈ l <;> simp [h1, h2]
    have := drop_one a _ (nd.filter fun c => !decide (c ∈ l))
    rw [e]
    simp only [List.length_cons]
    omega
theorem rest_pos {l : List Nat} (h : l.length < 26) : 0 < (abc.filter fun c => !decide (c ∈ l)).length := by
  have := left_len l abc (by unfold abc; decide)
  rw [abc_len] at this
  omega
theorem PoolAt.up {H : Hp} {p q : Addr} {o : HO} (h : PoolAt H p) (n : H q = none) : PoolAt (L2.upd H q o) p := by
  obtain ⟨a, b, c, e, r⟩ := h
  exact ⟨a, b, c, by rw [upd_ne (ne_of_none e n)]; exact e, r⟩
theorem PoolAt.ne {H : Hp} {p q : Addr} (h : PoolAt H p) (n : H q = none) : q ≠ p := by
  obtain ⟨a, b, c, e, r⟩ := h
  exact (ne_of_none e n).symm
theorem PoolAt.put {H : Hp} {p q : Addr} {o : HO} (h : PoolAt H p) (n : q ≠ p) : PoolAt (L2.upd H q o) p := by
  obtain ⟨a, b, c, e, r⟩ := h
  exact ⟨a, b, c, by rw [upd_ne n.symm]; exact e, r⟩
/-- a store at a thing that was not there at first -/
theorem But.new {p q : Addr} {o : HO} {H H' : Hp} (a : But p H H') (n : H q = none) : But p H (L2.upd H' q o) := fun c u k h => by
  rw [upd_ne (ne_of_none h n)]
  exact a c u k h
theorem But.free {p q : Addr} {H H' : Hp} (a : But p H H') (n : H' q = none) (ne : q ≠ p) : H q = none := by
  cases e : H q with
  | none => rfl
  | some o =>
    rw [a q o ne e] at n
    cases n
theorem take_more {α : Type} : ∀ {l : List α} {i : Nat} {x : α}, l[i]? = some x → l.take (i + 1) = l.take i ++ [x] := fun {l i x} h => by
  rw [List.take_add_one, h] <;> rfl
def vOne (c : Nat) : V := .str (one c)
section
variable {P : Program} {w : World} {K : PySem.W.Frag} {mg : Str → Option Value} {base : Heap} {f fD : Addr} {fd fdD : FuncData}
theorem scS : FnScope ["_law_pool_here", "_law_most", "_law_found", "_law_turn", "_law_rest", "_law_mark"] ["_law_pool_here", "_law_most"] (defScope sSigns) := ⟨rfl, rfl, rfl, by decide +kernel, rfl, by decide +kernel, by decide +kernel⟩
theorem ok_signs (F : Fun K "_law_signs" "_law_signs" sSigns f fd) (D : Def K mg "_law_draw" sDraw ["_law_pool_here", "_law_many"] fD fdD) (mInt : mg "int" = none) (mDm : mg "divmod" = none) (mLen : mg "len" = none) (mRange : mg "range" = none) :
    FnOk P w K mg base CX0 2 f fd ["_law_pool_here", "_law_most"] spSigns := by
  have G : FnOk P w K mg base CX0 1 fD fdD ["_law_pool_here", "_law_many"] spDraw := ok_draw D.F mInt mDm
  refine F.ok scS (fun vs H Q E h => ?_) (fun cdv A outer s H vs Q E hr h => ?_)
  · obtain ⟨p, m, rfl, _⟩ := h
    rfl
  · obtain ⟨p, m, rfl, m0, m1, hp, k⟩ := h
    refine ⟨_, pss_cons (ps_set (i := 2) scS.nd rfl (.inr rfl) pe_str)
      (pss_cons (ps_for PassesOwn.never rfl (pi_range1 rfl mRange (pa_cons (pe_op op_add pe_int (pe_call G hr rfl D.g D.kp D.b .nil pass0 (pa_cons (pv 0) (pa_cons (pv 1) pa_nil)))) pa_nil)) (pg_name (i := 3) scS.nd rfl (.inl rfl))
        (pss_cons (ps_setLc (i := 4) (own := [("_law_mark", 5)]) (g := gName 5) rfl scS.nd rfl rfl (sw_true rfl rfl rfl (by decide +kernel)) (pi_str pe_str) (blkOk_by (N := ["_law_pool_here", "_law_most", "_law_found", "_law_turn", "_law_rest", "_law_mark"]) (sc := defScope sSigns) (by decide +kernel))
            (fun _ _ _ _ _ => pg_name (i := 5) scS.nd rfl (.inl rfl)) (fun _ _ _ _ _ => pts_one (pt_cmpR op_notIn_sign (pv 5) (pv 2) rfl)) (fun _ _ _ _ _ => pv 5))
          (pss_one (ps_set (i := 2) scS.nd rfl (.inr rfl) (pe_op op_add_str (pv 2) (pe_ix ix_list (pv 4) (pe_call G hr rfl D.g D.kp D.b .nil pass0 (pa_cons (pv 0) (pa_cons (pe_callB call_len_seq (by rfl) mLen PySem.boot_len (pa_cons (pv 4) pa_nil)) pa_nil))) (fun _ _ => rfl)))))))
      (pss_one (ps_ret (pv 2)))), ?_⟩
    have e0 : (Str.ofString "" : Str) = S [] := by decide +kernel
    refine ⟨_, rfl, _, rfl, p, m, rfl, m0, by omega, hp, fun d H1 d0 d1 hp1 b1 => ⟨_, _, rfl, rfl, _, rfl, by omega, by omega, for_it walk_range
      (fun i σ H' => ∃ (l : List Nat) (v3 v4 v5 : Option V), σ = [some (.ref p), some (.int m), some (.str (S l)), v3, v4, v5] ∧ Low l ∧ l.Nodup ∧ l.length = i ∧ PoolAt H' p ∧ But p H H')
      ⟨[], none, none, none, by rw [← e0]; rfl, (fun c hc => nomatch hc), List.nodup_nil, rfl, hp1, b1⟩ (fun _ _ _ _ _ => trivial) ?_ ?_⟩⟩
    · rintro i x σ H2 H2' hi ⟨l, v3, v4, v5, rfl, lo, nd, ll, hp2, b2⟩ ⟨rfl, rfl⟩
      refine ⟨_, rfl, fun D hD => lc_it walk_str (fun j H3 => H3 D = some (.lst (((abc.take j).filter fun c => !decide (c ∈ l)).map vOne)) ∧ PoolAt H3 p ∧ But p H H3) ?_ (fun _ _ _ _ => trivial) ?_ ?_⟩
      · exact ⟨upd_same, hp2.up hD, b2.upd hD⟩
      · rintro j y H3 H3' hj ⟨h1, h2, h3⟩ ⟨rfl, c, hc, rfl⟩
        have hc' : abc[j]? = some c := by
          rw [abc_is] at hc
          simpa [S] using hc
        have hD0 : H D = none := b2.free hD (hp2.ne hD)
        refine ⟨rfl, _, rfl, _, rfl, c, S l, rfl, rfl, _, rfl, ite2 (fun q => ?_) (fun q => ?_)⟩
        · refine ⟨_, rfl, _, h1, ?_, ?_, h2.put (hp2.ne hD), h3.new hD0⟩
          · rw [List.length_map, sizeLine_eq]
            have := List.length_filter_le (fun c => !decide (c ∈ l)) (abc.take j)
            have := List.length_take_le' j abc
            rw [abc_len] at this
            omega
          · rw [upd_same, take_more hc', List.filter_append, List.map_append]
            rw [S_cps] at q
            rw [show ([c].filter fun c => !decide (c ∈ l)) = [c] from List.filter_cons_of_pos q] <;> rfl
        · refine ⟨?_, h2, h3⟩
          rw [S_cps] at q
          rw [h1, take_more hc', List.filter_append, show ([c].filter fun c => !decide (c ∈ l)) = [] from List.filter_cons_of_neg q, List.append_nil]
      · rintro H3 ⟨h1, h2, h3⟩
        have full : abc.take ("abcdefghijklmnopqrstuvwxyz" : Str).cps.size = abc := by rw [abc_is, S_size, List.take_length]
        rw [full] at h1
        have ne : 0 < (abc.filter fun c => !decide (c ∈ l)).length := rest_pos (by omega)
        refine ⟨_, rfl, _, rfl, _, rfl, _, rfl, D, _, rfl, .inl (SqL.of h1), p, _, rfl, ?_, ?_, h2, fun e H4 e0 e1 hp4 b4 => ?_⟩
        · rw [List.length_map]
          omega
        · rw [List.length_map]
          have := List.length_filter_le (fun c => !decide (c ∈ l)) abc
          rw [abc_len] at this
          omega
        · have e1' : e.toNat < (abc.filter fun c => !decide (c ∈ l)).length := by
            rw [List.length_map] at e1
            omega
          obtain ⟨c, hc⟩ : ∃ c, (abc.filter fun c => !decide (c ∈ l))[e.toNat]? = some c := ⟨_, List.getElem?_eq_getElem e1'⟩
          obtain ⟨c1, c2⟩ := List.mem_filter.mp (List.mem_of_getElem? hc)
          have c3 : c ∉ l := by simpa using c2
          have hat : atI ((abc.filter fun c => !decide (c ∈ l)).map vOne) e = some (vOne c) := by
            have q := atI_nat (xs := (abc.filter fun c => !decide (c ∈ l)).map vOne) (j := e.toNat) (v := vOne c) (by rw [List.getElem?_map, hc] <;> rfl)
            rwa [Int.toNat_of_nonneg e0] at q
          have h4 := b4 D _ (hp2.ne hD) h1
          refine ⟨D, _, _, _, rfl, rfl, SqL.of h4, hat, _, _, rfl, rfl, ?_, l ++ [c], some (.int (0 + (i : Nat))), some (.ref D), v5, ?_, fun z hz => ?_, ?_, ?_, hp4, h3.trans b4⟩
          · rw [S_len, sizeLine_eq]
            show l.length + 1 ≤ 16777216
            omega
          · rw [← S_add]
            rfl
          · rcases List.mem_append.mp hz with hz | hz
            · exact lo z hz
            · rw [List.mem_singleton.mp hz]
              exact abc_low c c1
          · rw [List.nodup_append]
            exact ⟨nd, by simp, fun a ha b hb q => c3 (by rw [← List.mem_singleton.mp hb, ← q]; exact ha)⟩
          · rw [List.length_append, ll] <;> rfl
    · rintro σ H2 ⟨l, v3, v4, v5, rfl, lo, nd, ll, hp2, b2⟩
      exact ⟨_, rfl, k l _ lo nd (by omega) (by omega) hp2 b2⟩
end
end Wb
namespace Wb
open PySem L2 WbMin
theorem one_cat : ∀ (l : List Nat) (c : Nat), Str.join (S []) ((c :: l).map one) = S (c :: l)
  | [], c => rfl
  | d :: l, c => by
    have ih := one_cat l d
    show one c ++ S [] ++ Str.join (S []) ((d :: l).map one) = S (c :: d :: l)
    rw [ih, S_one, S_add, S_add]
    rfl
theorem join_one {l : List Nat} (h : 0 < l.length) : Txt.join (Str.ofString "") (l.map one) = S l := by
  have e0 : (Str.ofString "" : Str) = S [] := by decide +kernel
  cases l with
  | nil => cases h
  | cons c l =>
    rw [e0]
    show Builtin.Str.glued (S []) ((c :: l).map one) = S (c :: l)
    rw [StrLaws.glued_eq_join]
    exact one_cat l c
end Wb
/-! set(xs) and len(set(xs)) of a list of texts, any of them, below the scanned bound -/
namespace WbSet
open PySem PySem.Spec PyProof.Rows
/-- the different ones, by their first places -/
def addNew (acc : List Str) (x : Str) : List Str := if x ∈ acc then acc else acc ++ [x]
def differ (xs : List Str) : List Str := xs.foldl addNew []
theorem addNew_mem (acc : List Str) (x k : Str) : k ∈ addNew acc x ↔ k ∈ acc ∨ k = x := by
  unfold addNew
  by_cases h : x ∈ acc
  · rw [if_pos h]
    exact ⟨.inl, fun q => q.elim id fun e => e ▸ h⟩
  · rw [if_neg h, List.mem_append, List.mem_singleton]
theorem addNew_len (acc : List Str) (x : Str) : (addNew acc x).length = if x ∈ acc then acc.length else acc.length + 1 := by
  unfold addNew
  by_cases h : x ∈ acc
  · rw [if_pos h, if_pos h]
  · rw [if_neg h, if_neg h, List.length_append] <;> rfl
theorem differ_more (xs : List Str) (x : Str) : differ (xs ++ [x]) = addNew (differ xs) x := by
  unfold differ
  rw [List.foldl_append] <;> rfl
theorem fold_le : ∀ (xs acc : List Str), (xs.foldl addNew acc).length ≤ acc.length + xs.length
  | [], acc => Nat.le_refl _
  | x :: r, acc => by
    have h1 := fold_le r (addNew acc x)
    have h2 : (addNew acc x).length ≤ acc.length + 1 := by rw [addNew_len]; split <;> omega
    show (r.foldl addNew (addNew acc x)).length ≤ acc.length + (r.length + 1)
    omega
theorem differ_le (xs : List Str) : (differ xs).length ≤ xs.length := by
  have h := fold_le xs []
  show (xs.foldl addNew []).length ≤ xs.length
  simpa using h
/-- what the set at a holds behind the first i -/
def Has (P : Program) (w : World) (h : Heap) (a : Addr) (ys : List Str) : Prop := h.SetOf (strKind P w) a (fun k => decide (k ∈ ys)) ys.length
section
variable {prog : Program} {w : World} {A : Around} {R : Result → Shared → Prop} {I : Addr} {fp wr : List Addr} {G : Array GenState → Array GenState → Prop} {n : Nat} {P : Nat → Value → Prop} {St : Nat → Shared → Prop}
theorem Has.keep {h h' : Heap} {a : Addr} {ys : List Str} (q : Has prog w h a ys) (k : ∀ o, h.get? a = some o → h'.get? a = some o) : Has prog w h' a ys := by
  obtain ⟨o, es, ep, t, ho, r⟩ := q
  exact ⟨o, es, ep, t, k o ho, r⟩
theorem Has.more {h : Heap} {a : Addr} {ys : List Str} {x : Str} (q : h.SetOf (strKind prog w) a (fun j => decide (j ∈ ys) || decide (j = x)) (if decide (x ∈ ys) = true then ys.length else ys.length + 1)) : Has prog w h a (addNew ys x) := by
  refine SetOf_congr q (fun k => ?_) ?_
  · rw [← Bool.decide_or]
    exact decide_eq_decide.mpr (addNew_mem ys x k).symm
  · rw [addNew_len]
    by_cases e : x ∈ ys
    · rw [if_pos e, if_pos (decide_eq_true e)]
    · rw [if_neg e, if_neg (fun z => e (of_decide_eq_true z))]
theorem turns (W : WalksS prog w A.in1 I fp wr G n P St) (T : Addr) (nT : T ∉ fp) (xs : List Str) (lx : xs.length = n) (few : n + 1 < scanBound) (told : ∀ i v, P i v → ∃ x t, xs[i]? = some x ∧ v = .str x t) :
    ∀ (left i : Nat) (s : Shared), n - i = left → i ≤ n → St i s → Has prog w s.heap T (differ (xs.take i)) →
      (∀ s', Moved (T :: wr) G s s' → Has prog w s'.heap T (differ xs) → R (.ok (.ret .none)) s') → codeAny (model prog w) A (.builtin "set.update.loop" ⟨[.ref T, .ref I], []⟩) R s := by
  have nTw : T ∉ wr := fun q => nT (W.sub _ q)
  have wider : ∀ b ∈ wr, b ∈ T :: wr := fun _ q => List.mem_cons_of_mem _ q
  intro left
  induction left with
  | zero =>
    intro i s e1 e2 hst has fin
    obtain rfl : i = n := by omega
    refine codeAny_builtin PyProof.Rows.F.entry_set_update_loop ?_ ; rw [Around.under_plainId PyProof.Rows.F.plain_set_update_loop _]
    show wpAny _ A.in1 (pyNext (.ref I) >>= _) _ _ s ; refine wpAny_bind (W.done s _ _ hst fun s1 mv => ?_)
    show wpAny _ A.in1 (ret Value.none) _ _ s1
    refine wpAny_pure (fin s1 (mv.mono wider) ?_)
    rw [← lx, List.take_length] at has
    exact has.keep fun o e => mv.heap T o nTw e
  | succ left ih =>
    intro i s e1 e2 hst has fin
    have lt : i < n := by omega
    refine codeAny_builtin PyProof.Rows.F.entry_set_update_loop ?_ ; rw [Around.under_plainId PyProof.Rows.F.plain_set_update_loop _]
    show wpAny _ A.in1 (pyNext (.ref I) >>= _) _ _ s ; refine wpAny_bind (W.item i s _ _ lt hst fun v s1 hP hst1 mv => ?_)
    obtain ⟨x, t, hx, rfl⟩ := told i v hP
    have has1 : Has prog w s1.heap T (differ (xs.take i)) := has.keep fun o e => mv.heap T o nTw e
    have room : (differ (xs.take i)).length + 1 < scanBound := by
      have := differ_le (xs.take i)
      rw [List.length_take] at this
      omega
    have step : differ (xs.take (i + 1)) = addNew (differ (xs.take i)) x := by
      rw [← differ_more, List.take_add_one, hx] <;> rfl
    show wpAny _ A.in1 (holding [Value.str x t] (setAdd T (.str x t)) >>= _) _ _ s1 ; refine wpAny_bind (wpAny_holding ?_)
    unfold setAdd ; refine wpAny_holding (wpAny_bind ((strKind prog w).pyHash (k := x) (strKind_is _ _ _ _) ?_))
    refine wpAny_setAddHashed_of (knd := strKind prog w) (s := { s1 with toks := s1.toks + 1 }) (strKind_is _ _ _ _) rfl has1 room fun h2 but new => ?_
    have has2 : Has prog w h2 T (differ (xs.take (i + 1))) := by rw [step]; exact Has.more new
    refine wpAny_pure ⟨plainId_quiet PyProof.Rows.F.plain_set_update_loop _, ih (i + 1) _ (by omega) lt (W.frame _ s1 _ _ hst1 (Nat.le_succ _) fun b hb o e => ?_) has2 fun s2 mv2 has3 => fin s2 (Moved.trans W.gtrans ((mv.mono wider).then_heap (Nat.le_succ _) fun b o hb e => ?_) mv2) has3⟩
    · rw [but.2 b fun q => nT (q ▸ hb)] ; exact e
    · rw [but.2 b fun q => hb (q ▸ List.mem_cons_self)] ; exact e
end
section
variable {prog : Program} {w : World} {A : Around} {E : Value → Shared → Prop} {s : Shared}
/-- the set object that set() makes first -/
abbrev setO (led : Bool) : Obj := { cls := .type "set", dict := none, data := .set #[] 0 (.fresh 0 0 led) }
end
end WbSet
namespace WbSet
open PySem PySem.Spec PyProof.Rows L2
variable {X : Cx}
end WbSet
/-! sorted of a text, of a tuple of texts; len(set(z)) of a text -/
namespace WbS
open PySem PySem.Spec PyProof.Rows L2
section
variable {X : Cx}
def sOne (c : Nat) : Str := ⟨#[c]⟩
/-- a new list of these texts, sorted -/
theorem sort_new {pins : List (Addr × Obj)} {σ : L2.St} {H : Hp} {s : Shared} {Q : VK} {us : List Value} {ks : List Str} (I : Inv X pins σ H s) (hS : StrsAre us ks) (h64 : ks.length < 64) (q : ∀ ys p, ys.Perm ks → sortedS ys = true → H p = none → Q (.ref p) (upd H p (.lst (ys.map V.str)))) :
    wpAny (model X.prog X.w) X.A.in1 (newList us >>= fun l => holding [l] (call (.builtin "list.sort") [l] []) >>= fun _ => ret l) (fun fin s' => ∃ v, fin = .done (.ret v) ∧ ∃ x H', Inv X pins σ H' s' ∧ RelV x v ∧ Q x H') X.xe s := by
  have hal : us.length = ks.length := hS.len_eq
  refine wpAny_bind (wpAny_newList ?_ (by rw [hal, sizeLine_eq]; omega))
  have hoL : (s.heap.push (seqObj "list" us.toArray 0)).get? s.heap.objs.size = some (seqObj "list" us.toArray 0) := Heap.get?_push_size _ rfl
  show wpAny _ _ _ _ _ { s with heap := s.heap.push (seqObj "list" us.toArray 0) }
  refine wpAny_bind (wpAny_holding (wpAny_call_entry PyProof.Rows.slot_list_sort ⟨_, hoL, rfl⟩ PyProof.Rows.entry_list_sort
    (list_sort_treeK strKind_oneLt (s := { s with heap := s.heap.push (seqObj "list" us.toArray 0) }) hoL hS.keysOf (fun v₁ v₂ rest e => keyKind_strs (by rw [← e]; exact hS)) (by rw [hal]; exact h64) fun st' hp hs => ⟨_, rfl, ?_⟩)
    (PyProof.Rows.args_list_sort _)))
  obtain ⟨ys, g1, g2, g3⟩ := sorted_out_str hS hp hs
  obtain ⟨e', he'⟩ := PyProof.Rows.sortedHeap_at (vs := us) (out := (arrOf st').map (·.2)) hoL
  have hlen : (ys.map V.str).length ≤ sizeLine := by
    rw [List.length_map, g2.length_eq]
    exact Nat.le_trans (Nat.le_of_lt h64) (by decide)
  refine wpAny_pure ⟨_, rfl, .ref s.heap.objs.size, upd H s.heap.objs.size (.lst (ys.map V.str)), I.laid (t' := s.toks) (fun b u e => ?_) (Nat.le_refl _)
    (show ObjOk X.prog X.w _ _ _ (.lst (ys.map V.str)) from ⟨hlen, ((arrOf st').map (·.2)).toList, e', vals_of_strs g1, by rw [Array.toArray_toList]; exact he'⟩), rfl, q ys _ g2 g3 (I.hok.fresh (Nat.le_refl _))⟩
  have hb : b < s.heap.objs.size := Heap.lt_size e
  rw [PyProof.Rows.sortedHeap_old (Nat.ne_of_lt hb) (by rw [size_push']; exact Nat.lt_succ_of_lt hb)]
  exact Heap.get?_push_of_some _ e
theorem call_sortedTx (hcalm : X.calm = true) : CallR X (.builtin "sorted") (fun xs H Q => ∃ z : Str, xs = [.str z] ∧ z.length < 64 ∧ ∀ ys p, ys.Perm (z.cps.toList.map sOne) → sortedS ys = true → H p = none → Q (.ref p) (upd H p (.lst (ys.map V.str)))) := by
  intro pins s σ H xs us Q I r q
  obtain ⟨z, rfl, h64, q⟩ := q
  obtain ⟨u, rfl, t, rfl⟩ := vals1 r
  have h16 : z.cps.size ≤ sizeLine := by
    have : z.cps.size < 64 := h64
    rw [sizeLine_eq]; omega
  refine Calls.call_function_entry PyProof.Rows.kind_sorted PyProof.Rows.plain_sorted PyProof.Rows.entry_sorted (PyProof.Rows.args_sorted1 _) ?_
  unfold Builtin.«sorted»
  refine wpAny_bind (m := checkCount "sorted" 1 1 _) (wpAny_pure ?_)
  refine wpAny_bind (wpAny_collect_str (A := X.A.in1) (I.ok.hd hcalm) z t (fun s' acc hk e1 e2 e3 hacc => ?_) h16)
  obtain ⟨h', g', d', tk, os'⟩ := s'
  obtain rfl : g' = s.gens := e1
  obtain rfl : d' = s.drawn := e2
  obtain rfl : os' = s.os := e3
  have hS : StrsAre acc.toList (z.cps.toList.map sOne) := strs_at (by rw [Array.length_toList, hacc.1, List.length_map, Array.length_toList]) fun j v e => by
    obtain ⟨c, u, a1, a2⟩ := hacc.2 j v (by rw [← Array.getElem?_toList]; exact e)
    exact ⟨sOne c, u, by rw [List.getElem?_map, Array.getElem?_toList, a1] <;> rfl, a2⟩
  have I1 : Inv X pins σ H { s with heap := h', toks := tk } := I.kept hk
  exact sort_new I1 hS (by rw [List.length_map, Array.length_toList]; exact h64) q
end
end WbS
namespace WbSet
open PySem PySem.Spec PyProof.Rows
def signs (x : Str) : List Str := x.cps.toList.map fun c => ⟨#[c]⟩
theorem signs_told {x : Str} {i : Nat} {v : Value} (h : SignAt x i v) : ∃ y t, (signs x)[i]? = some y ∧ v = .str y t := by
  obtain ⟨c, u, e1, e2⟩ := h
  refine ⟨⟨#[c]⟩, u, ?_, e2⟩
  unfold signs
  rw [List.getElem?_map, Array.getElem?_toList, e1] <;> rfl
section
variable {prog : Program} {w : World} {A : Around} {E : Value → Shared → Prop} {s : Shared}
set_option maxHeartbeats 3200000 in
theorem call_setT {x : Str} {u : Tok} {Q : Value → Shared → Prop} (calm : A.handled = none) (few : x.cps.size + 1 < scanBound)
    (k : ∀ (h' : Heap) (tk : Nat), Has prog w h' s.heap.objs.size (differ (signs x)) → (∀ b o, b < s.heap.objs.size → s.heap.get? b = some o → h'.get? b = some o) → Q (.ref s.heap.objs.size) { s with heap := h', toks := tk }) :
    wpAny (model prog w) A (call (.type "set") [.str x u]) Q E s := by
  obtain ⟨c, tl, mro⟩ := PySem.F.called_set.mro
  have f1 := PySem.F.called_set.made
  have f2 := PySem.F.called_set.sub
  refine wpAny_call (codeAny_of_tree ?_) ; show wpAny _ _ (callAny (.type "set") _) _ _ _
  refine wpAny_pure ⟨Code.quiet_builtin _ (by decide +kernel), codeAny_builtin PySem.F.entry_type_call ?_⟩ ; rw [Around.under_plain (weight_type_call_type "set" [.str x u] []) rfl]
  have f3 := PySem.F.called_set.notType
  have f4 := PySem.F.called_set.canCreate
  have f5 := PySem.F.typeCall_set_1 (.str x u)
  repeat (any_goals (first | assumption | wp_step))
  refine codeAny_mono (code_set_new_1 (.str x u) (E := E) (Q₁ := fun v s1 => ∃ led : Bool, v = .ref s.heap.objs.size ∧ s1 = { s with heap := s.heap.push (setO led) }) fun led => ⟨led, rfl, rfl⟩) fun r s1 hr => ?_
  cases r with
  | error e => exact hr
  | ok fl =>
    cases fl with
    | ret v =>
      obtain ⟨led, rfl, rfl⟩ := hr
      have g1 : (s.heap.push (setO led)).get? s.heap.objs.size = some (setO led) := Heap.get?_push_size _ rfl
      have g2 : Shared.TypeIs { s with heap := s.heap.push (setO led) } (.ref s.heap.objs.size) "set" := ⟨_, g1, rfl⟩
      have f6 := PySem.F.called_set.init.lookup
      have f7 := PySem.F.called_set.init.bind (.ref s.heap.objs.size)
      repeat (any_goals (first | assumption | wp_step))
      refine codeAny_mono (codeAny_call_builtin (R := wants (fun r s2 => r = .none ∧ ∃ h' tk, s2 = { s with heap := h', toks := tk } ∧ Has prog w h' s.heap.objs.size (differ (signs x)) ∧ (∀ b o, b < s.heap.objs.size → s.heap.get? b = some o → h'.get? b = some o)) E) PySem.F.called_set.init.plain PySem.F.entry_set_init (check_set_init_1 g2 ?_)) fun r2 s2 hr2 => ?_
      · have f8 := PySem.F.sub_str_set
        have f9 := PySem.F.sub_str_frozenset
        have f10 : (Value.type "str" == Value.type "dict") = false := by decide
        unfold Builtin.«set.__init__» noKeywords Builtin.Frozenset.updateFrom
        generalize hit : pyIter = it
        wp_walk
        subst hit
        refine wpAny_pyIter_str fun o St W hst => (wpAny_bind (wpAny_runValue ?_))
        have calm3 : A.in1.in1.in1.handled = none := by simp [calm]
        have sz : (s.heap.push (setO led)).objs.size = s.heap.objs.size + 1 := Heap.size_push _ _
        have ne2 : s.heap.objs.size ∉ [(s.heap.push (setO led)).objs.size] := by
          intro q
          have q := List.mem_singleton.mp q
          rw [sz] at q; exact absurd q (Nat.ne_of_lt (Nat.lt_succ_self _))
        have lx : (signs x).length = x.cps.size := by unfold signs; rw [List.length_map, Array.length_toList]
        refine turns ((W _ calm3).toS) s.heap.objs.size ne2 (signs x) lx few (fun i v hv => signs_told hv) (x.cps.size - 0) 0 _ (by omega) (Nat.zero_le _) hst ?start ?fin
        case start =>
          have g4 : ((s.heap.push (setO led)).push o).get? s.heap.objs.size = some (setO led) := Heap.get?_push_of_some _ g1
          exact SetOf_congr ((setObjOf_fresh (knd := strKind prog w) led).setOf g4 (by unfold scanBound; omega)) (fun _ => rfl) rfl
        case fin =>
          intro s3 mv has
          obtain ⟨h3, g3', d3, tk3, os3⟩ := s3
          obtain rfl : g3' = s.gens := mv.gens
          obtain rfl : d3 = s.drawn := mv.drawn
          obtain rfl : os3 = s.os := mv.os
          show wpAny _ _ _ _ _ _ ; refine wpAny_pure ?_ ; show wpAny _ _ (ret Value.none) _ _ _
          refine wpAny_pure ⟨rfl, h3, tk3, rfl, has, fun b o hb e => mv.heap b o ?_ (Heap.get?_push_of_some _ (Heap.get?_push_of_some _ e))⟩
          intro q
          rcases List.mem_cons.mp q with q | q
          · exact absurd q (Nat.ne_of_lt hb)
          · have q2 := List.mem_singleton.mp q
            rw [sz] at q2
            exact absurd q2 (Nat.ne_of_lt (Nat.lt_succ_of_lt hb))
      · cases r2 with
        | error e => exact hr2
        | ok fl2 =>
          cases fl2 with
          | ret r =>
            obtain ⟨rfl, h', tk, rfl, has, kept⟩ := hr2
            repeat (any_goals (first | assumption | wp_step))
            exact k _ _ has kept
          | _ => exact hr2.elim
    | _ => exact hr.elim
end
end WbSet
namespace WbSet
open PySem PySem.Spec PyProof.Rows L2
variable {X : Cx}
/-- len(set(z)), z a text -/
def tLenSetT (ta : TE) : TE := fun σ H Q => ta σ H fun x H1 => ∃ z : Str, x = .str z ∧ z.length ≤ 4000 ∧ Q (.int (differ (signs z)).length) H1
theorem pe_lenSetT {a : Expr} {ta : TE} {p p2 q pos : Pos} (hc : X.calm = true) (hg : Gl X "len") (hm : X.mg "len" = none) (hg2 : Gl X "set") (hm2 : X.mg "set" = none) (ha : PE X a ta)
    (na : starEach [a] X.env = (false, eval a X.env) :: starEach [] X.env := by rfl) : PE X (.Call (.Name "len" p) [.Call (.Name "set" p2) [a] [] q] [] pos) (tLenSetT ta) := by
  refine ⟨fun pins s σ H Q I h => Call_ (ld_blt I hg hm boot_len ?_)⟩
  refine callWith_builtin1 (args_cons (Call_ (ld_blt I hg2 hm2 boot_set ?_)) rfl) rfl rfl
  refine callWith_type1 (args_cons (thn (ha.run pins s σ H _ I h) fun v s1 ⟨x, H1, I1, r1, q1⟩ => args_nil ?_) na) na rfl
  obtain ⟨z, rfl, few, q1⟩ := q1
  obtain ⟨u, rfl⟩ := r1
  have few' : z.cps.size ≤ 4000 := few
  refine call_setT (I1.ok.hd hc) (by unfold scanBound; omega) fun h' tk has kept => args_nil ?_
  obtain ⟨o, es, ep, t, ho, hex, hd, _, _, _, hf, hn⟩ := has
  have I2 : Inv X pins σ H1 { s1 with heap := h', toks := tk } := I1.kept fun b o e => kept b o (Heap.lt_size e) e
  have le := differ_le (signs z)
  have ll : (signs z).length = z.cps.size := by unfold signs; rw [List.length_map, Array.length_toList]
  exact call_len_set ho hex hd hf (by rw [hn]; omega) ⟨.int (differ (signs z)).length, H1, I2.tok _, ⟨_, by rw [hn]⟩, q1⟩
end WbSet
namespace Wb
open PySem L2 WbMin WbS
abbrev sIsInt : Stmt := top 8
abbrev sIsWord : Stmt := top 10
abbrev sIsSigns : Stmt := top 11
abbrev sSignOf : Stmt := top 12
/-- a word as it is passed -/
structure IsW (l : List Nat) : Prop where
  low : Low l
  pos : 0 < l.length
  few : l.length ≤ 600
theorem IsW.fits {l : List Nat} (h : IsW l) : (S l).length ≤ sizeLine := by
  rw [S_len, sizeLine_eq]
  have := h.few
  omega
def spIsWord : Sp := fun vs H Q _ => ∃ l : List Nat, vs = [.str (S l)] ∧ IsW l ∧ ∀ H', Same H H' → Q (.bl true) H'
/-- the built-ins that nobody has put another thing in the place of -/
structure Free (mg : Str → Option Value) : Prop where
  int : mg "int" = none
  len : mg "len" = none
  range : mg "range" = none
  divmod : mg "divmod" = none
  abs : mg "abs" = none
  isi : mg "isinstance" = none
  str : mg "str" = none
  all : mg "all" = none
  min : mg "min" = none
  max : mg "max" = none
  set : mg "set" = none
  bool : mg "bool" = none
theorem ifd {p A B : Prop} [Decidable p] (hp : p) (h : A) : if decide p = true then A else B := by
  rw [if_pos (decide_eq_true hp)]
  exact h
theorem ifn {p A B : Prop} [Decidable p] (hp : ¬ p) (h : B) : if decide p = true then A else B := by
  rw [if_neg (fun q => hp (of_decide_eq_true q))]
  exact h
theorem iteS {p A B : Prop} [Decidable p] (hp : ¬ p) (h : A) : if (!decide p) = true then A else B := by
  rw [decide_eq_false hp]
  exact h
theorem Same.new' {q : Addr} {o : HO} {H H' : Hp} (a : Same H H') (n : H q = none) : Same H (L2.upd H' q o) := fun c u h => by
  rw [upd_ne (ne_of_none h n)]
  exact a c u h
/-! ### lists without doubles -/
theorem few_of_sub {α : Type} [DecidableEq α] : ∀ (l xs : List α), xs.Nodup → (∀ x ∈ xs, x ∈ l) → xs.length ≤ l.length
  | [], xs, _, h => by
    cases xs with
    | nil => exact Nat.le_refl _
    | cons x r => exact absurd (h x List.mem_cons_self) (List.not_mem_nil)
  | a :: l, xs, nd, h => by
    have e : (xs.filter fun c => !decide (c = a)).length ≤ l.length := few_of_sub l _ (nd.filter _) fun x hx => by
      obtain ⟨h1, h2⟩ := List.mem_filter.mp hx
      rcases List.mem_cons.mp (h x h1) with q | q
      · simp [q] at h2
      · exact q
    have d : xs.length ≤ (xs.filter fun c => !decide (c = a)).length + 1 := by
      clear e h
      induction xs with
      | nil => exact Nat.zero_le _
      | cons y r ih =>
        obtain ⟨n1, n2⟩ := List.nodup_cons.mp nd
        by_cases q : y = a
        · have e1 : (r.filter fun c => !decide (c = a)) = r := List.filter_eq_self.mpr fun c hc => by
            have : c ≠ a := fun z => n1 (q ▸ z ▸ hc)
            simp [this]
          rw [List.filter_cons_of_neg (by simp [q]), e1] <;> exact Nat.le_refl _
        · rw [List.filter_cons_of_pos (by simp [q])]
          have := ih n2
          simp only [List.length_cons]
          omega
    simp only [List.length_cons]
    omega
theorem same_count {α : Type} [DecidableEq α] {xs ys : List α} (nx : xs.Nodup) (ny : ys.Nodup) (h : ∀ x, x ∈ xs ↔ x ∈ ys) : xs.length = ys.length :=
  Nat.le_antisymm (few_of_sub ys xs nx fun x q => (h x).mp q) (few_of_sub xs ys ny fun x q => (h x).mpr q)
theorem fold_mem (x : Str) : ∀ (xs acc : List Str), x ∈ xs.foldl WbSet.addNew acc ↔ x ∈ acc ∨ x ∈ xs
  | [], acc => by simp
  | y :: r, acc => by
    rw [List.foldl_cons, fold_mem x r, WbSet.addNew_mem, List.mem_cons, or_assoc]
theorem fold_nodup : ∀ (xs acc : List Str), acc.Nodup → (xs.foldl WbSet.addNew acc).Nodup
  | [], _, h => h
  | y :: r, acc, h => fold_nodup r _ (by
    unfold WbSet.addNew
    by_cases q : y ∈ acc
    · rw [if_pos q] <;> exact h
    · rw [if_neg q, List.nodup_append]
      exact ⟨h, by simp, fun a ha b hb e => q (by rw [← List.mem_singleton.mp hb, ← e]; exact ha)⟩)
theorem differ_mem (x : Str) (xs : List Str) : x ∈ WbSet.differ xs ↔ x ∈ xs := by
  unfold WbSet.differ
  rw [fold_mem]
  simp
theorem differ_nodup (xs : List Str) : (WbSet.differ xs).Nodup := fold_nodup xs [] List.nodup_nil
theorem S_inj {l m : List Nat} (h : S l = S m) : l = m := by rw [← S_cps l, h, S_cps]
theorem getD_at {l : List Nat} {i : Nat} (h : i < l.length) : l[i]? = some (l.getD i 0) := by
  rw [List.getD_eq_getElem?_getD, List.getElem?_eq_getElem h] <;> rfl
/-- the signs of a kind, in any order -/
structure Sgs (l : List Nat) : Prop where
  low : Low l
  nd : l.Nodup
  pos : 0 < l.length
  few : l.length ≤ 4
theorem Sgs.w {l : List Nat} (h : Sgs l) : IsW l := ⟨h.low, h.pos, by have := h.few; omega⟩
def spIsSigns : Sp := fun vs H Q _ => ∃ l, vs = [.str (S l)] ∧ Sgs l ∧ ∀ H', Same H H' → Q (.bl true) H'
def spSignOf : Sp := fun vs H Q _ => ∃ (c : Nat) (sg : List Nat), vs = [.str (S [c]), .str (S sg)] ∧ c ∈ sg ∧ Q (.bl true) H
theorem flat_strs (zs : List Str) : (zs.map V.str).all flatV = true := by rw [List.all_map]; exact List.all_eq_true.mpr fun _ _ => rfl
theorem inV_strs (z : Str) (zs : List Str) : inV (.str z) (zs.map V.str) = decide (z ∈ zs) := by
  unfold inV
  rw [List.any_map, Bool.eq_iff_iff, List.any_eq_true, decide_eq_true_iff]
  constructor
  · rintro ⟨y, hy, e⟩
    have e' : (y == z) = true := e
    rw [← beq_iff_eq.mp e']
    exact hy
  · intro h
    exact ⟨z, h, beq_self_eq_true z⟩
theorem take_nd {α : Type} [DecidableEq α] {l : List α} {i : Nat} {x : α} (nd : l.Nodup) (h : l[i]? = some x) : x ∉ l.take i := by
  intro m
  obtain ⟨j, hj, e⟩ := List.getElem_of_mem m
  rw [List.length_take] at hj
  rw [List.getElem_take] at e
  obtain ⟨hi, e2⟩ := List.getElem?_eq_some_iff.mp h
  exact (List.pairwise_iff_getElem.mp nd) j i (by omega) hi (by omega) (e.trans e2.symm)
section
variable {P : Program} {w : World} {K : PySem.W.Frag} {mg : Str → Option Value} {base : Heap} {f fD fS fW : Addr} {fd fdD fdS dW : FuncData}
theorem scIW : FnScope ["value", "sign"] ["value"] (defScope sIsWord) := ⟨rfl, rfl, rfl, by decide +kernel, rfl, by decide +kernel, by decide +kernel⟩
theorem ok_isword (F : Fun K "is_word" "is_word" sIsWord f fd) (Z : Free mg) (t6 : Tok) (g6 : mg "MOST_WORD" = some (.int 600 t6)) : FnOk P w K mg base CX0 1 f fd ["value"] spIsWord := by
  refine F.ok scIW (fun vs H Q E h => ?_) (fun cdv A outer s H vs Q E hr h => ?_)
  · obtain ⟨l, rfl, _⟩ := h
    rfl
  · obtain ⟨l, rfl, W, k⟩ := h
    refine ⟨_, pss_cons (ps_if (PW.pt (pw_or (pt_not (pt_val (pe_callB call_isi (by rfl) Z.isi (by decide +kernel) (pa_cons (pv 0) (pa_cons (pe_bltn (v := .ty "str") (u := .type "str") (by rfl) Z.str (by decide +kernel) rfl) pa_nil)))))
        (pw_or1 (pt_not (pt_chain op_le op_le pe_int (pe_callB call_len_str (by rfl) Z.len PySem.boot_len (pa_cons (pv 0) pa_nil)) (pe_glob (v := .int 600) (by rfl) g6 ⟨_, rfl⟩)))))) (pss_one (ps_never)) pss_nil)
      (pss_one (ps_ret (pe_callB (cr_all rfl) (by rfl) Z.all (by decide +kernel) (pa_cons
        (pe_lc (own := [("sign", 1)]) (g := gName 1) (tt := tYes) rfl scIW.nd (pi_str (pv 0)) (blkOk_by (N := ["value", "sign"]) (sc := defScope sIsWord) (by decide +kernel)) (fun _ _ _ _ _ => pg_name (i := 1) scIW.nd rfl (.inl rfl)) (fun _ _ _ _ _ => pts_nil)
          (fun _ _ _ _ _ => pe_chain op_le_str op_le_str pe_str (pv 1) pe_str)) pa_nil)))), ?_⟩
    have len1 : 1 ≤ ((S l).length : Int) := by rw [S_len]; have := W.pos; omega
    have len2 : ((S l).length : Int) ≤ 600 := by rw [S_len]; have := W.few; omega
    refine ⟨_, rfl, _, _, .type "str", .type "str", true, rfl, .ty "str", .base (.str _), kit_ty (by decide +kernel), true, rfl, ?_⟩
    refine ⟨_, rfl, _, rfl, W.fits, _, _, rfl, rfl, _, rfl, ifd len1 ⟨_, _, rfl, rfl, _, rfl, iteNS len2 ?_⟩⟩
    refine ⟨_, rfl, _, rfl, fun D hD => lc_it walk_str (fun i H3 => H3 D = some (.lst ((List.replicate i true).map V.bl)) ∧ Same H H3) ⟨upd_same, Same.put (Same.refl H) hD⟩ (fun _ _ _ _ => trivial) ?_ ?_⟩
    · rintro i x H3 H3' hi ⟨h1, h2⟩ ⟨rfl, c, hc, rfl⟩
      have mem : c ∈ l := by
        have q := Array.mem_of_getElem? hc
        simpa [S] using q
      have c12 := W.low c mem
      have la : ¬ (([c] : List Nat) < [97]) := by rw [List.cons_lt_cons_iff]; simp; omega
      have lz : ¬ (([122] : List Nat) < [c]) := by rw [List.cons_lt_cons_iff]; simp; omega
      have ea : ("a" : Str).cps.toList = [97] := by decide +kernel
      have ez : ("z" : Str).cps.toList = [122] := by decide +kernel
      refine ⟨rfl, _, rfl, _, _, rfl, rfl, _, rfl, iteS (by rw [ea]; exact la) ⟨_, _, rfl, rfl, ?_⟩⟩
      rw [ez, decide_eq_false (show ¬ (([122] : List Nat) < (⟨#[c]⟩ : Str).cps.toList) from lz)]
      refine ⟨_, h1, ?_, ?_, Same.new' h2 hD⟩
      · rw [List.length_map, List.length_replicate, sizeLine_eq]
        have := W.few
        rw [S_size] at hi
        omega
      · rw [upd_same, List.replicate_succ', List.map_append] <;> rfl
    · rintro H3 ⟨h1, h2⟩
      refine ⟨D, _, rfl, SqL.of h1, ?_⟩
      have e : (List.replicate (S l).cps.size true).all id = true := List.all_eq_true.mpr fun b hb => by rw [List.eq_of_mem_replicate hb] <;> rfl
      show Q (.bl ((List.replicate (S l).cps.size true).all id)) H3
      rw [e]
      exact k H3 h2
theorem scSg : FnScope ["value"] ["value"] (defScope sIsSigns) := ⟨rfl, rfl, rfl, by decide +kernel, rfl, by decide +kernel, by decide +kernel⟩
theorem ok_issigns (F : Fun K "is_signs" "is_signs" sIsSigns f fd) (Z : Free mg) (DW : Def K mg "is_word" sIsWord ["value"] fW dW) (t6 : Tok) (g6 : mg "MOST_WORD" = some (.int 600 t6)) (t4 : Tok) (g4 : mg "MOST_SIGNS" = some (.int 4 t4)) : FnOk P w K mg base CX0 2 f fd ["value"] spIsSigns := by
  have GW : FnOk P w K mg base CX0 1 fW dW ["value"] spIsWord := ok_isword DW.F Z t6 g6
  refine F.ok scSg (fun vs H Q E h => ?_) (fun cdv A outer s H vs Q E hr h => ?_)
  · obtain ⟨l, rfl, _⟩ := h
    rfl
  · obtain ⟨l, rfl, G, k⟩ := h
    refine ⟨_, pss_one (ps_ret (pe_and (pe_call GW hr rfl DW.g DW.kp DW.b .nil pass0 (pa_cons (pv 0) pa_nil)) (pe_and (pe_cmpR op_le (pe_callB call_len_str (by rfl) Z.len PySem.boot_len (pa_cons (pv 0) pa_nil)) (pe_glob (v := .int 4) (by rfl) g4 ⟨_, rfl⟩) (nomark _))
      (pe_one (pe_cmpR op_eq (WbSet.pe_lenSetT rfl (by rfl) Z.len (by rfl) Z.set (pv 0)) (pe_callB call_len_str (by rfl) Z.len PySem.boot_len (pa_cons (pv 0) pa_nil)) (nomark _)))))), ?_⟩
    have few := G.few
    refine ⟨_, rfl, l, rfl, G.w, fun H1 s1 => ⟨true, rfl, _, rfl, _, rfl, G.w.fits, _, _, rfl, rfl, _, rfl, ifd (by rw [S_len]; omega) ?_⟩⟩
    refine ⟨_, rfl, S l, rfl, by rw [S_len]; omega, _, rfl, _, rfl, G.w.fits, rfl, ?_⟩
    have e : (WbSet.differ (WbSet.signs (S l))).length = (S l).length := by
      have nd : (WbSet.signs (S l)).Nodup := by
        unfold WbSet.signs
        rw [S_cps]
        exact List.Pairwise.map _ (fun a b h q => h (by injection q with q; injection q with q; injection q)) G.nd
      rw [same_count (differ_nodup _) nd (fun x => differ_mem x _)]
      unfold WbSet.signs
      rw [List.length_map, S_cps, S_len]
    rw [e, decide_eq_true rfl]
    exact k H1 s1
theorem scSO : FnScope ["value", "signs"] ["value", "signs"] (defScope sSignOf) := ⟨rfl, rfl, rfl, by decide +kernel, rfl, by decide +kernel, by decide +kernel⟩
theorem ok_signof (F : Fun K "is_sign_of" "is_sign_of" sSignOf f fd) (Z : Free mg) : FnOk P w K mg base CX0 1 f fd ["value", "signs"] spSignOf := by
  refine F.ok scSO (fun vs H Q E h => ?_) (fun cdv A outer s H vs Q E hr h => ?_)
  · obtain ⟨c, sg, rfl, _⟩ := h
    rfl
  · obtain ⟨c, sg, rfl, m, k⟩ := h
    refine ⟨_, pss_one (ps_ret (pe_and (pe_callB call_isi (by rfl) Z.isi (by decide +kernel) (pa_cons (pv 0) (pa_cons (pe_bltn (v := .ty "str") (u := .type "str") (by rfl) Z.str (by decide +kernel) rfl) pa_nil)))
      (pe_and (pe_cmpR op_eq (pe_callB call_len_str (by rfl) Z.len PySem.boot_len (pa_cons (pv 0) pa_nil)) pe_int (nomark _)) (pe_one (pe_cmpR op_in_sign (pv 0) (pv 1) rfl))))), ?_⟩
    refine ⟨_, rfl, _, _, .type "str", .type "str", true, rfl, .ty "str", .base (.str _), kit_ty (by decide +kernel), true, rfl, ?_⟩
    refine ⟨_, rfl, _, rfl, (by rw [S_len, sizeLine_eq]; show 1 ≤ _; decide), rfl, _, rfl, ifd (by rw [S_len] <;> rfl) ?_⟩
    refine ⟨_, rfl, _, rfl, c, S sg, rfl, rfl, ?_⟩
    rw [S_cps, decide_eq_true m]
    exact k
end
end Wb
/-! the parts of a loop, asked whether they are right -/
namespace Wb
open PySem L2 WbMin WbS Lz
abbrev sIsName : Stmt := top 13
abbrev sStateOf : Stmt := top 29
abbrev sRowOf : Stmt := top 30
abbrev sTurnOf : Stmt := top 31
/-- a name -/
structure IsNm (l : List Nat) : Prop where
  pos : 0 < l.length
  few : l.length ≤ 8
  hd : 97 ≤ l.getD 0 0 ∧ l.getD 0 0 ≤ 122
  ok : ∀ c ∈ l, (97 ≤ c ∧ c ≤ 122) ∨ (48 ≤ c ∧ c ≤ 57)
theorem IsNm.fits {l : List Nat} (h : IsNm l) : (S l).length ≤ sizeLine := by
  rw [S_len, sizeLine_eq]
  have := h.few
  omega
def spIsName : Sp := fun vs H Q _ => ∃ l, vs = [.str (S l)] ∧ IsNm l ∧ ∀ H', Same H H' → Q (.bl true) H'
def spStateOf : Sp := fun vs H Q _ => ∃ (z : Str) (t : Addr) (st : List Str), vs = [.str z, .ref t] ∧ H t = some (.tup (st.map V.str)) ∧ z ∈ st ∧ Q (.bl true) H
def spIsIntT : Sp := fun vs H Q _ => ∃ i : Int, vs = [.int i] ∧ Q (.bl true) H
def spRowOf : Sp := fun vs H Q _ => ∃ (r t : Addr) (sg : List Nat) (st : List Str) (a b : Str) (c : Nat) (m : Int), vs = [.ref r, .str (S sg), .ref t] ∧ H r = some (.tup [.str a, .str (S [c]), .str b, .int m]) ∧ H t = some (.tup (st.map V.str)) ∧ a ∈ st ∧ b ∈ st ∧ c ∈ sg ∧ Q (.bl true) H
def spTurnOf : Sp := fun vs H Q _ => ∃ (r t : Addr) (st : List Str) (a b : Str) (m : Int), vs = [.ref r, .ref t] ∧ H r = some (.tup [.str a, .str b, .int m]) ∧ H t = some (.tup (st.map V.str)) ∧ a ∈ st ∧ b ∈ st ∧ Q (.bl true) H
theorem iteSn {p A B : Prop} [Decidable p] (hp : p) (h : B) : if (!decide p) = true then A else B := by
  rw [decide_eq_true hp]
  exact h
theorem ifd1 {p A B : Prop} [Decidable p] (hp : ¬ p) (h : A) : if (!decide p) = true then A else B := by
  rw [decide_eq_false hp]
  exact h
theorem iteNN {p A B : Prop} [Decidable p] (hp : ¬ p) (h : B) : if (!(!decide p)) = true then A else B := by
  rw [decide_eq_false hp]
  exact h
theorem all_reps (n : Nat) : (List.replicate n true).all id = true := List.all_eq_true.mpr fun b hb => by rw [List.eq_of_mem_replicate hb] <;> rfl
theorem cps_a : ("a" : Str).cps.toList = [97] := by decide +kernel
theorem cps_z : ("z" : Str).cps.toList = [122] := by decide +kernel
theorem cps_0 : ("0" : Str).cps.toList = [48] := by decide +kernel
theorem cps_9 : ("9" : Str).cps.toList = [57] := by decide +kernel
theorem not_lt1 {c d : Nat} (h : d ≤ c) : ¬ (([c] : List Nat) < [d]) := by
  rw [List.cons_lt_cons_iff]
  simp
  omega
theorem is_lt1 {c d : Nat} (h : c < d) : ([c] : List Nat) < [d] := by
  rw [List.cons_lt_cons_iff]
  exact .inl h
section
variable {P : Program} {w : World} {K : PySem.W.Frag} {mg : Str → Option Value} {base : Heap} {f fS fO fI : Addr} {fd dS dO dI : FuncData}
theorem scII : FnScope ["value"] ["value"] (defScope sIsInt) := ⟨rfl, rfl, rfl, by decide +kernel, rfl, by decide +kernel, by decide +kernel⟩
theorem ok_isintT (F : Fun K "is_integer" "is_integer" sIsInt f fd) (Z : Free mg) : FnOk P w K mg base CX0 1 f fd ["value"] spIsIntT := by
  refine F.ok scII (fun vs H Q E h => ?_) (fun cdv A outer s H vs Q E hr h => ?_)
  · obtain ⟨n, rfl, _⟩ := h
    rfl
  · obtain ⟨n, rfl, k⟩ := h
    refine ⟨_, pss_one (ps_ret (pe_and (pe_callB call_isi (by rfl) Z.isi (by decide +kernel) (pa_cons (pv 0) (pa_cons (pe_bltn (v := .ty "int") (u := .type "int") (by rfl) Z.int (by decide +kernel) rfl) pa_nil)))
      (pe_one (pe_not (pe_callB call_isi (by rfl) Z.isi (by decide +kernel) (pa_cons (pv 0) (pa_cons (pe_bltn (v := .ty "bool") (u := .type "bool") (by rfl) Z.bool (by decide +kernel) rfl) pa_nil))))))), ?_⟩
    exact ⟨_, rfl, _, _, .type "int", .type "int", true, rfl, .ty "int", .base (.int _), kit_ty (by decide +kernel), true, rfl, _, rfl, _, _, .type "int", .type "bool", false, rfl, .ty "bool", .base (.int _), kit_ty (by decide +kernel), _, rfl, k⟩
theorem scNm : FnScope ["value", "character"] ["value"] (defScope sIsName) := ⟨rfl, rfl, rfl, by decide +kernel, rfl, by decide +kernel, by decide +kernel⟩
theorem ok_isname (F : Fun K "is_name" "is_name" sIsName f fd) (Z : Free mg) (t8 : Tok) (g8 : mg "MOST_NAME" = some (.int 8 t8)) : FnOk P w K mg base CX0 1 f fd ["value"] spIsName := by
  refine F.ok scNm (fun vs H Q E h => ?_) (fun cdv A outer s H vs Q E hr h => ?_)
  · obtain ⟨l, rfl, _⟩ := h
    rfl
  · obtain ⟨l, rfl, W, k⟩ := h
    refine ⟨_, pss_cons (ps_if (PW.pt (pw_or (pt_not (pt_val (pe_callB call_isi (by rfl) Z.isi (by decide +kernel) (pa_cons (pv 0) (pa_cons (pe_bltn (v := .ty "str") (u := .type "str") (by rfl) Z.str (by decide +kernel) rfl) pa_nil)))))
        (pw_or (pt_not (pt_chain op_le op_le pe_int (pe_callB call_len_str (by rfl) Z.len PySem.boot_len (pa_cons (pv 0) pa_nil)) (pe_glob (v := .int 8) (by rfl) g8 ⟨_, rfl⟩)))
        (pw_or1 (pt_not (pt_chain op_le_str op_le_str pe_str (pe_ix ix_str (pv 0) pe_int (fun _ _ => rfl)) pe_str)))))) (pss_one ps_never) pss_nil)
      (pss_one (ps_ret (pe_callB (cr_all rfl) (by rfl) Z.all (by decide +kernel) (pa_cons
        (pe_lc (own := [("character", 1)]) (g := gName 1) (tt := tYes) rfl scNm.nd (pi_str (pv 0)) (blkOk_by (N := ["value", "character"]) (sc := defScope sIsName) (by decide +kernel)) (fun _ _ _ _ _ => pg_name (i := 1) scNm.nd rfl (.inl rfl)) (fun _ _ _ _ _ => pts_nil)
          (fun _ _ _ _ _ => pe_or (pe_chain op_le_str op_le_str pe_str (pv 1) pe_str) (pe_one (pe_chain op_le_str op_le_str pe_str (pv 1) pe_str)))) pa_nil)))), ?_⟩
    have pos := W.pos
    have len1 : 1 ≤ ((S l).length : Int) := by rw [S_len]; omega
    have len2 : ((S l).length : Int) ≤ 8 := by rw [S_len]; have := W.few; omega
    refine ⟨_, rfl, _, _, .type "str", .type "str", true, rfl, .ty "str", .base (.str _), kit_ty (by decide +kernel), true, rfl, ?_⟩
    refine ⟨_, rfl, _, rfl, W.fits, _, _, rfl, rfl, _, rfl, ifd len1 ⟨_, _, rfl, rfl, _, rfl, ?_⟩⟩
    refine iteNS len2 ?_
    have hd := W.hd
    refine ⟨_, rfl, _, _, l.getD 0 0, rfl, rfl, W.fits, by rw [S_cps]; exact atI_nat (j := 0) (getD_at pos), _, _, rfl, rfl, _, rfl, ifd1 (by rw [cps_a]; exact not_lt1 hd.1) ⟨_, _, rfl, rfl, ?_⟩⟩
    refine ⟨_, rfl, iteNN (show ¬ (("z" : Str).cps.toList < [l.getD 0 0]) from by rw [cps_z]; exact not_lt1 hd.2) ?_⟩
    refine ⟨_, rfl, _, rfl, fun D hD => lc_it walk_str (fun i H3 => H3 D = some (.lst ((List.replicate i true).map V.bl)) ∧ Same H H3) ⟨upd_same, Same.put (Same.refl H) hD⟩ (fun _ _ _ _ => trivial) ?_ ?_⟩
    · rintro i x H3 H3' hi ⟨h1, h2⟩ ⟨rfl, c, hc, rfl⟩
      have mem : c ∈ l := by
        have q := Array.mem_of_getElem? hc
        simpa [S] using q
      have fin : ∀ t : Bool, t = true → ∃ xs, H3' D = some (.lst xs) ∧ xs.length < sizeLine ∧ (L2.upd H3' D (.lst (xs ++ [.bl t]))) D = some (.lst ((List.replicate (i + 1) true).map V.bl)) ∧ Same H (L2.upd H3' D (.lst (xs ++ [.bl t]))) := by
        rintro _ rfl
        refine ⟨_, h1, ?_, ?_, Same.new' h2 hD⟩
        · rw [List.length_map, List.length_replicate, sizeLine_eq]
          have := W.few
          rw [S_size] at hi
          omega
        · rw [upd_same, List.replicate_succ', List.map_append] <;> rfl
      rcases W.ok c mem with q | q
      · refine ⟨rfl, _, rfl, _, _, rfl, rfl, _, rfl, ifd1 (by rw [cps_a]; exact not_lt1 q.1) ⟨_, _, rfl, rfl, ?_⟩⟩
        have e : (decide (("z" : Str).cps.toList < (⟨#[c]⟩ : Str).cps.toList)) = false := decide_eq_false (by rw [cps_z]; exact not_lt1 q.2)
        refine ⟨true, by rw [e] <;> rfl, fin true rfl⟩
      · refine ⟨rfl, _, rfl, _, _, rfl, rfl, _, rfl, iteSn (show ([c] : List Nat) < ("a" : Str).cps.toList by rw [cps_a]; exact is_lt1 (by omega)) ?_⟩
        refine ⟨false, rfl, ?_⟩
        refine ⟨_, rfl, _, _, rfl, rfl, _, rfl, ifd1 (show ¬ (([c] : List Nat) < ("0" : Str).cps.toList) by rw [cps_0]; exact not_lt1 q.1) ⟨_, _, rfl, rfl, ?_⟩⟩
        have e : (decide (("9" : Str).cps.toList < (⟨#[c]⟩ : Str).cps.toList)) = false := decide_eq_false (by rw [cps_9]; exact not_lt1 q.2)
        exact fin _ (by rw [e] <;> rfl)
    · rintro H3 ⟨h1, h2⟩
      refine ⟨D, _, rfl, SqL.of h1, ?_⟩
      show Q (.bl ((List.replicate (S l).cps.size true).all id)) H3
      rw [all_reps]
      exact k H3 h2
theorem scSt : FnScope ["value", "states"] ["value", "states"] (defScope sStateOf) := ⟨rfl, rfl, rfl, by decide +kernel, rfl, by decide +kernel, by decide +kernel⟩
theorem ok_stateof (F : Fun K "is_state_of" "is_state_of" sStateOf f fd) (Z : Free mg) : FnOk P w K mg base CX0 1 f fd ["value", "states"] spStateOf := by
  refine F.ok scSt (fun vs H Q E h => ?_) (fun cdv A outer s H vs Q E hr h => ?_)
  · obtain ⟨z, t, st, rfl, _⟩ := h
    rfl
  · obtain ⟨z, t, st, rfl, ht, m, k⟩ := h
    refine ⟨_, pss_one (ps_ret (pe_and (pe_callB call_isi (by rfl) Z.isi (by decide +kernel) (pa_cons (pv 0) (pa_cons (pe_bltn (v := .ty "str") (u := .type "str") (by rfl) Z.str (by decide +kernel) rfl) pa_nil)))
      (pe_one (pe_cmpR op_in_seq (pv 0) (pv 1) (by rfl))))), ?_⟩
    refine ⟨_, rfl, _, _, .type "str", .type "str", true, rfl, .ty "str", .base (.str _), kit_ty (by decide +kernel), true, rfl, ?_⟩
    refine ⟨_, rfl, _, rfl, t, _, rfl, .inr (SqT.of ht), rfl, flat_strs _, ?_⟩
    rw [inV_strs, decide_eq_true m]
    exact k
theorem scRo : FnScope ["value", "signs", "states", "state", "sign", "further", "amount"] ["value", "signs", "states"] (defScope sRowOf) := ⟨rfl, rfl, rfl, by decide +kernel, rfl, by decide +kernel, by decide +kernel⟩
theorem ok_rowof (F : Fun K "is_row_of" "is_row_of" sRowOf f fd) (Z : Free mg) (mT : mg "tuple" = none) (DS : Def K mg "is_state_of" sStateOf ["value", "states"] fS dS) (DO : Def K mg "is_sign_of" sSignOf ["value", "signs"] fO dO) (DI : Def K mg "is_integer" sIsInt ["value"] fI dI) : FnOk P w K mg base CX0 2 f fd ["value", "signs", "states"] spRowOf := by
  have GS : FnOk P w K mg base CX0 1 fS dS ["value", "states"] spStateOf := ok_stateof DS.F Z
  have GO : FnOk P w K mg base CX0 1 fO dO ["value", "signs"] spSignOf := ok_signof DO.F Z
  have GI : FnOk P w K mg base CX0 1 fI dI ["value"] spIsIntT := ok_isintT DI.F Z
  refine F.ok scRo (fun vs H Q E h => ?_) (fun cdv A outer s H vs Q E hr h => ?_)
  · obtain ⟨r, t, sg, st, a, b, c, m, rfl, _⟩ := h
    rfl
  · obtain ⟨r, t, sg, st, a, b, c, m, rfl, hR, ht, ha, hb, hc, k⟩ := h
    refine ⟨_, pss_cons (ps_if (PW.pt (pw_or (pt_not (pt_val (pe_callB call_isi (by rfl) Z.isi (by decide +kernel) (pa_cons (pv 0) (pa_cons (pe_bltn (v := .ty "tuple") (u := .type "tuple") (by rfl) mT (by decide +kernel) rfl) pa_nil)))))
        (pw_or1 (pt_cmpR op_ne (pe_callB call_len_seq (by rfl) Z.len PySem.boot_len (pa_cons (pv 0) pa_nil)) pe_int (nomark _))))) (pss_one ps_never) pss_nil)
      (pss_cons (ps_asg (pv 0) (pg_tup (by rfl) (pgs_cons (pg_name (i := 3) scRo.nd rfl (.inl rfl)) (pgs_cons (pg_name (i := 4) scRo.nd rfl (.inl rfl)) (pgs_cons (pg_name (i := 5) scRo.nd rfl (.inl rfl)) (pgs_cons (pg_name (i := 6) scRo.nd rfl (.inl rfl)) pgs_nil))))))
      (pss_cons (ps_if (PW.pt (pw_or (pt_not (pt_val (pe_call GS hr rfl DS.g DS.kp DS.b .nil pass0 (pa_cons (pv 3) (pa_cons (pv 2) pa_nil)))))
        (pw_or1 (pt_not (pt_val (pe_call GO hr rfl DO.g DO.kp DO.b .nil pass0 (pa_cons (pv 4) (pa_cons (pv 1) pa_nil)))))))) (pss_one ps_never) pss_nil)
      (pss_one (ps_ret (pe_and (pe_call GS hr rfl DS.g DS.kp DS.b .nil pass0 (pa_cons (pv 5) (pa_cons (pv 2) pa_nil))) (pe_one (pe_call GI hr rfl DI.g DI.kp DI.b .nil pass0 (pa_cons (pv 6) pa_nil)))))))), ?_⟩
    refine ⟨_, rfl, _, _, .type "tuple", .type "tuple", true, rfl, .ty "tuple", .base (.tup hR), kit_ty (by decide +kernel), true, rfl, ?_⟩
    refine ⟨_, rfl, r, _, rfl, .inr (SqT.of hR), rfl, _, rfl, iteNS rfl ?_⟩
    refine ⟨_, rfl, r, _, rfl, SqT.of hR, rfl, _, _, rfl, _, _, rfl, _, _, rfl, _, _, rfl, rfl, ?_⟩
    refine ⟨_, rfl, _, rfl, _, t, st, rfl, ht, ha, true, rfl, _, rfl, _, rfl, c, sg, rfl, hc, true, rfl, ?_⟩
    refine ⟨_, rfl, _, rfl, _, t, st, rfl, ht, hb, true, rfl, _, rfl, m, rfl, ?_⟩
    exact k
theorem scTn : FnScope ["value", "states", "state", "further", "amount"] ["value", "states"] (defScope sTurnOf) := ⟨rfl, rfl, rfl, by decide +kernel, rfl, by decide +kernel, by decide +kernel⟩
theorem ok_turnof (F : Fun K "is_turn_of" "is_turn_of" sTurnOf f fd) (Z : Free mg) (mT : mg "tuple" = none) (DS : Def K mg "is_state_of" sStateOf ["value", "states"] fS dS) (DI : Def K mg "is_integer" sIsInt ["value"] fI dI) : FnOk P w K mg base CX0 2 f fd ["value", "states"] spTurnOf := by
  have GS : FnOk P w K mg base CX0 1 fS dS ["value", "states"] spStateOf := ok_stateof DS.F Z
  have GI : FnOk P w K mg base CX0 1 fI dI ["value"] spIsIntT := ok_isintT DI.F Z
  refine F.ok scTn (fun vs H Q E h => ?_) (fun cdv A outer s H vs Q E hr h => ?_)
  · obtain ⟨r, t, st, a, b, m, rfl, _⟩ := h
    rfl
  · obtain ⟨r, t, st, a, b, m, rfl, hR, ht, ha, hb, k⟩ := h
    refine ⟨_, pss_cons (ps_if (PW.pt (pw_or (pt_not (pt_val (pe_callB call_isi (by rfl) Z.isi (by decide +kernel) (pa_cons (pv 0) (pa_cons (pe_bltn (v := .ty "tuple") (u := .type "tuple") (by rfl) mT (by decide +kernel) rfl) pa_nil)))))
        (pw_or1 (pt_cmpR op_ne (pe_callB call_len_seq (by rfl) Z.len PySem.boot_len (pa_cons (pv 0) pa_nil)) pe_int (nomark _))))) (pss_one ps_never) pss_nil)
      (pss_cons (ps_asg (pv 0) (pg_tup (by rfl) (pgs_cons (pg_name (i := 2) scTn.nd rfl (.inl rfl)) (pgs_cons (pg_name (i := 3) scTn.nd rfl (.inl rfl)) (pgs_cons (pg_name (i := 4) scTn.nd rfl (.inl rfl)) pgs_nil)))))
      (pss_one (ps_ret (pe_and (pe_call GS hr rfl DS.g DS.kp DS.b .nil pass0 (pa_cons (pv 2) (pa_cons (pv 1) pa_nil))) (pe_and (pe_call GS hr rfl DS.g DS.kp DS.b .nil pass0 (pa_cons (pv 3) (pa_cons (pv 1) pa_nil))) (pe_one (pe_call GI hr rfl DI.g DI.kp DI.b .nil pass0 (pa_cons (pv 4) pa_nil)))))))), ?_⟩
    refine ⟨_, rfl, _, _, .type "tuple", .type "tuple", true, rfl, .ty "tuple", .base (.tup hR), kit_ty (by decide +kernel), true, rfl, ?_⟩
    refine ⟨_, rfl, r, _, rfl, .inr (SqT.of hR), rfl, _, rfl, iteNS rfl ?_⟩
    refine ⟨_, rfl, r, _, rfl, SqT.of hR, rfl, _, _, rfl, _, _, rfl, _, _, rfl, rfl, ?_⟩
    refine ⟨_, rfl, _, rfl, _, t, st, rfl, ht, ha, true, rfl, _, rfl, _, rfl, _, t, st, rfl, ht, hb, true, rfl, _, rfl, m, rfl, ?_⟩
    exact k
end
end Wb
/-! enumerate(t), t a tuple -/
namespace WbS
open PySem PySem.Spec PyProof.Rows
open AutoSeq1 (wpAny_loadPart')
set_option maxHeartbeats 1000000 in
theorem meets_enumT {v : Value} {o : Obj} {H : Heap → Prop} (B : Begins v o H) :
    Meets (Builtin.«enumerate.__new__» ⟨[.type "enumerate", v], []⟩) (fun _ R s => H s.heap ∧
      R (.ok (.ret (.ref (s.heap.push o).objs.size))) { s with heap := (s.heap.push o).push { cls := .type "enumerate", data := .fields #[.none, .bool false, .ref s.heap.objs.size, rawInt 0, .none, .none] } }) :=
  .of_wp fun prog w A R s h => by
    obtain ⟨hp, g, d, tk, os⟩ := s; obtain ⟨h1, h⟩ := h
    have hsub := sub_enumerate
    have q1 : ∀ {A' : Around} {E : Value → Shared → Prop} {Q : Value → Shared → Prop}, Q (.ref hp.objs.size) ⟨hp.push o, g, d, tk, os⟩ → wpAny (model prog w) A' (pyIter v) Q E ⟨hp, g, d, tk, os⟩ :=
      fun q => B.iter prog w _ _ ⟨hp, g, d, tk, os⟩ _ h1 q
    wp_walk using q1
    refine wpAny_stack_any fun st => wpAny_pure ?_
    split
    · rename_i c _ _ _ _ _
      cases (c == Value.type "enumerate")
      · wp_walk using q1
        exact ⟨_, rfl, h⟩
      · wp_walk using q1
        exact ⟨_, rfl, h⟩
    · wp_walk using q1
      exact ⟨_, rfl, h⟩
section
variable {prog : Program} {w : World} {A : Around} {E : Value → Shared → Prop} {s : Shared}
theorem enum1_begins {v : Value} {o : Obj} {H : Heap → Prop} {Q : Value → Shared → Prop} (B : Begins v o H) (h1 : H s.heap)
    (h : ∀ h', IsEnum h' (s.heap.objs.size + 1) s.heap.objs.size 0 .none → h'.get? s.heap.objs.size = some o → h'.objs.size = s.heap.objs.size + 2 →
      (∀ b o, s.heap.get? b = some o → h'.get? b = some o) → Q (.ref (s.heap.objs.size + 1)) { s with heap := h' }) :
    wpAny (model prog w) A (call (.type "enumerate") [v]) Q E s := by
  refine callType_new F.called_enumerate (by decide) (F.typeCall_enumerate_1 _) (F.newCall_enumerate_1 _) (fun obj => F.args_object_init_2 obj _) F.entry_enumerate_new
    (meets_enumT B) ⟨h1, ?_⟩
  have hz : (s.heap.push o).objs.size = s.heap.objs.size + 1 := Heap.size_push ..
  show _ ∧ _
  rw [hz]
  have he : IsEnum ((s.heap.push o).push { cls := .type "enumerate", data := .fields #[.none, .bool false, .ref s.heap.objs.size, rawInt 0, .none, .none] }) (s.heap.objs.size + 1) s.heap.objs.size 0 .none := by
    have := Heap.get?_push_size (s.heap.push o) (o := { cls := .type "enumerate", data := .fields #[.none, .bool false, .ref s.heap.objs.size, rawInt 0, .none, .none] }) rfl
    rw [hz] at this; exact this
  refine ⟨⟨_, he, rfl⟩, h _ he (Heap.get?_push_of_some _ (Heap.get?_push_size _ B.free)) (by rw [Heap.size_push, hz]) fun b o x => Heap.get?_push_of_some _ (Heap.get?_push_of_some _ x)⟩
end
end WbS
namespace WbS
open PySem PySem.Spec PyProof.Rows L2
/-- the tuple at a as it stands at each turn, each item in a new pair -/
def IteT (K : PySem.W.Frag) (a : Addr) : It :=
  ⟨fun i H => ∃ (xs : List V) (x : V), SqT K H a xs ∧ xs[i]? = some x, fun i H v H' => ∃ T x, v = .ref T ∧ H T = none ∧ H' = upd H T (.tup [.int (i : Nat), x]) ∧ ∀ xs, SqT K H a xs → xs[i]? = some x, fun i H => ∃ xs : List V, SqT K H a xs ∧ xs.length = i⟩
theorem turn_enumT {P : Program} {w : World} {K : PySem.W.Frag} {elts : List Expr} {kk : Nat} {tpos : Pos} (a e it : Addr) :
    Turn P w K (.Tuple elts kk tpos) (IteT K a) [e, it] e (fun i h => (∃ old, IsEnum h e it ((i : Nat) : Int) old) ∧ h.IsTupleIter it a i ∧ e ≠ it ∧ e ≠ a ∧ a ≠ it) where
  mem := by simp
  obj := fun i h st b hb => by
    obtain ⟨⟨old, he⟩, ⟨o, ho, hc, hd⟩, _⟩ := st
    have e' : b = e ∨ b = it := by simpa using hb
    rcases e' with z | z
    · rw [z]; exact ⟨_, he, fun v q => nomatch q⟩
    · rw [z]; exact ⟨o, ho, fun v q => by rw [hd] at q; cases q⟩
  keep := fun i h h' st k => let ⟨⟨old, he⟩, hi, hne⟩ := st; ⟨⟨old, k e (by simp) _ he⟩, hi.at fun o q => k it (by simp) o q, hne⟩
  item := by
    intro X hP hw hK hc i pins s σ H E I hf st hg
    subst hP hw hK
    obtain ⟨⟨old, he⟩, hit, hne, hea, hai⟩ := st
    obtain ⟨xs, x, hq, hx⟩ := hg
    obtain ⟨its, rv, p, hz⟩ := I.tuple hq
    obtain ⟨u, hu, ru⟩ := rv.get hx
    have hel : e < s.heap.objs.size := Heap.lt_size he
    have hil : it < s.heap.objs.size := by obtain ⟨_, q, _⟩ := hit; exact Heap.lt_size q
    have hlt : i < its.toArray.size := by
      have q := List.getElem?_eq_some_iff.mp hu
      obtain ⟨q, _⟩ := q
      simpa using q
    refine wpAny_pyNext_enum_itemD (Draws.tuple (A := X.A.in1) (I.ok.hd hc) it a hai its.toArray) he ⟨hit, p⟩ hlt hne (by simp [hne, hea]) fun x' h' tk hP ho hit' hT hsz hk => ?_
    obtain rfl : x' = u := by
      have q1 : its.toArray[i]? = some x' := hP
      have q2 : its.toArray[i]? = some u := by simpa using hu
      rw [q1] at q2
      exact Option.some.inj q2
    refine ⟨_, rfl, wpAny_letOwnedTupleGo_enum (s := { s with heap := h', toks := tk + 1 }) ho fun h'' he' sb => ?_⟩
    have hT2 : h''.get? s.heap.objs.size = some { cls := .type "tuple", data := .seq #[.int i tk, x'] } := (sb.2 _ (Nat.ne_of_gt hel)).trans hT
    have new : ObjOk X.prog X.w (upd H s.heap.objs.size (.tup [.int (i : Nat), x])) h'' s.heap.objs.size (.tup [.int (i : Nat), x]) :=
      ⟨by show 2 ≤ sizeLine; decide, [.int i tk, x'], .cons ⟨_, rfl⟩ (.cons ru .nil), ⟨_, hT2, rfl, _, rfl⟩⟩
    have I1 : Inv X pins σ (upd H s.heap.objs.size (.tup [.int (i : Nat), x])) { s with heap := h'', toks := tk + 1 } :=
      I.turnedNew (ch := [e, it]) (fun b ob hb q => (sb.2 b (fun z => hb (by simp [z]))).trans (hk b ob (fun z => hb (by simp [z])) (fun z => hb (by simp [z])) q)) hf (Nat.le_refl _) new
    refine ⟨.ref s.heap.objs.size, _, I1, rfl, ⟨_, x, rfl, I.hok.fresh (Nat.le_refl _), rfl, fun ys hy => by rw [I.tuple_inj hy hq]; exact hx⟩, ⟨⟨x', ?_⟩, hit'.1.at fun o q => (sb.2 it (Ne.symm hne)).trans q, hne, hea, hai⟩, fun b hb => ?_⟩
    · have e1 : ((i + 1 : Nat) : Int) = (i : Int) + 1 := by omega
      rw [e1]; exact he'
    · have hb' : b < s.heap.objs.size := by
        have e' : b = e ∨ b = it := by simpa using hb
        rcases e' with z | z
        · rw [z]; exact hel
        · rw [z]; exact hil
      rw [upd_ne (Nat.ne_of_lt hb')]
      exact (hf b hb).1
  done := by
    intro X hP hw hK hc i pins s σ H E I hf st hg
    subst hP hw hK
    obtain ⟨⟨old, he⟩, hit, hne, hea, hai⟩ := st
    obtain ⟨xs, hq, hx⟩ := hg
    obtain ⟨its, rv, p, hz⟩ := I.tuple hq
    obtain ⟨f0, f1, f2, f3, f4, f5⟩ := hf it (by simp)
    have hl := rv.length
    have en : its.toArray.size = i := by simp; omega
    refine wpAny_pyNext_enum_endD (n := its.toArray.size) (Draws.tuple (A := X.A.in1) (I.ok.hd hc) it a hai its.toArray) he ⟨by rw [en]; exact hit, p⟩ fun h' eb => ⟨rfl, I.turned (t' := s.toks) (fun b o hb q => eb b o hb q) f0 f1 f3 f4 f5⟩
  self := fun A i s Q E st h => let ⟨⟨_, he⟩, _⟩ := st; wpAny_pyIter_enum he h
def iEnumT (K : PySem.W.Frag) (ta : TA) : TI := fun σ H R => ta σ H fun vs H1 => ∃ a xs, vs = [.ref a] ∧ SqT K H1 a xs ∧ R (IteT K a) H1
theorem pi_enumT {X : Cx} {e : Expr} {ta : TA} {p pos tpos : Pos} {elts : List Expr} {kk : Nat} (hg : Gl X "enumerate") (hm : X.mg "enumerate" = none) (ha : PA X [e] ta) (hs : starEach [e] X.env = [(false, eval e X.env)] := by rfl) :
    PI X (.Tuple elts kk tpos) (.Call (.Name "enumerate" p) [e] [] pos) (iEnumT X.K ta) := by
  refine ⟨fun pins s σ H R I h => ?_⟩
  refine Call_ (ld_blt I hg hm boot_enumerate (PyProof.Rows.callWith_type1 (thn (ha.run pos pins s σ H _ I h) fun us s1 ⟨vs, H1, I1, r1, q1⟩ => ?_) hs rfl))
  obtain ⟨a, xs, ex, hq, q⟩ := q1
  subst ex
  cases r1 with
  | cons r rr =>
    cases rr
    cases r
    obtain ⟨its, rv, p', hz⟩ := I1.tuple hq
    have hal : a < s1.heap.objs.size := by obtain ⟨_, q, _⟩ := p'; exact Heap.lt_size q
    refine enum1_begins (begins_tuple a its.toArray) p' fun h' he hit hsz hk => wpAny_pyIter_enum he ?_
    have I2 : Inv X pins σ H1 { s1 with heap := h' } := I1.kept (t' := s1.toks) hk
    refine ⟨s1.heap.objs.size + 1, [s1.heap.objs.size + 1, s1.heap.objs.size], _, _, H1, rfl, I2, turn_enumT a (s1.heap.objs.size + 1) s1.heap.objs.size, ⟨⟨.none, he⟩, ⟨_, hit, rfl, rfl⟩, Nat.succ_ne_self _, Nat.ne_of_gt (Nat.lt_succ_of_lt hal), Nat.ne_of_lt hal⟩, fun b hb => ?_, q⟩
    have e' : b = s1.heap.objs.size + 1 ∨ b = s1.heap.objs.size := by simpa using hb
    have hle : s1.heap.objs.size ≤ b := by
      rcases e' with z | z
      · rw [z]; exact Nat.le_add_right _ _
      · rw [z]; exact Nat.le_refl _
    exact I1.fpOk hle (I1.hok.fresh hle)
theorem walk_enumT {K : PySem.W.Frag} {a : Addr} {xs : List V} : Walk (IteT K a) xs.length (fun H => SqT K H a xs) (YPair (fun i => some (.int (i : Nat))) (fun i => xs[i]?)) := by
  refine ⟨fun i _ hi q => ⟨xs, xs[i], q, by simp [hi]⟩, fun _ q => ⟨xs, q, rfl⟩, fun i H v H' _ q y => ?_⟩
  obtain ⟨T, x, h1, h2, h3, h4⟩ := y
  exact ⟨T, .int (i : Nat), x, h1, h2, h3, rfl, h4 xs q⟩
end WbS
/-! first_wrong of texts and of pairs -/
namespace Wb
open PySem L2 WbMin WbS Lz
abbrev sFirst : Stmt := top 14
theorem un65 {k : Nat} {A : Around} (r : Room k A) : A.units + 65 < cLine := by have := r.un; omega
/-- tuples that stand -/
def Tups (H : Hp) : List Addr → List (List V) → Prop
  | [], [] => True
  | a :: as, x :: xs => H a = some (.tup x) ∧ Tups H as xs
  | _, _ => False
theorem Tups.length {H : Hp} : ∀ {as : List Addr} {xs : List (List V)}, Tups H as xs → as.length = xs.length
  | [], [], _ => rfl
  | _ :: _, _ :: _, h => congrArg (· + 1) (Tups.length h.2)
  | [], _ :: _, h => h.elim
  | _ :: _, [], h => h.elim
theorem Tups.same {H H' : Hp} (s : Same H H') : ∀ {as : List Addr} {xs : List (List V)}, Tups H as xs → Tups H' as xs
  | [], [], _ => trivial
  | _ :: _, _ :: _, h => ⟨s _ _ h.1, Tups.same s h.2⟩
  | [], _ :: _, h => h.elim
  | _ :: _, [], h => h.elim
theorem Tups.get {H : Hp} : ∀ {as : List Addr} {xs : List (List V)} {i : Nat} {a : Addr} {x : List V}, Tups H as xs → as[i]? = some a → xs[i]? = some x → H a = some (.tup x)
  | [], _, _, _, _, _, h, _ => nomatch h
  | _ :: _, [], _, _, _, h, _, _ => h.elim
  | b :: as, y :: xs, 0, a, x, h, e, f => by
    cases e
    cases f
    exact h.1
  | b :: as, y :: xs, i + 1, a, x, h, e, f => Tups.get h.2 e f
theorem Tups.snoc {H : Hp} {a : Addr} {x : List V} (n : H a = some (.tup x)) : ∀ {as : List Addr} {xs : List (List V)}, Tups H as xs → Tups H (as ++ [a]) (xs ++ [x])
  | [], [], _ => ⟨n, trivial⟩
  | _ :: _, _ :: _, h => ⟨h.1, Tups.snoc n h.2⟩
  | [], _ :: _, h => h.elim
  | _ :: _, [], h => h.elim
theorem Tups.take {H : Hp} : ∀ {as : List Addr} {xs : List (List V)} (i : Nat), Tups H as xs → Tups H (as.take i) (xs.take i)
  | [], [], i, _ => by rw [List.take_nil, List.take_nil]; exact trivial
  | [], _ :: _, _, h => h.elim
  | _ :: _, [], _, h => h.elim
  | _ :: _, _ :: _, 0, _ => trivial
  | _ :: _, _ :: _, i + 1, h => ⟨h.1, Tups.take i h.2⟩
/-- two texts, as data and as a value -/
def pD (p : Str × Str) : PyData := .tuple [.str p.1, .str p.2]
def pV (p : Str × Str) : List V := [.str p.1, .str p.2]
theorem dp_pair {K : PySem.W.Frag} {H : Hp} {a : Addr} {p : Str × Str} (h : H a = some (.tup (pV p))) : Dp K H (.ref a) (pD p) := .tup (SqT.of h) (.cons (.str _) (.cons (.str _) .nil))
theorem dp_pairs {K : PySem.W.Frag} {H : Hp} : ∀ {as : List Addr} {ps : List (Str × Str)}, Tups H as (ps.map pV) → DpAll K H (as.map V.ref) (ps.map pD)
  | [], [], _ => .nil
  | _ :: _, _ :: _, h => .cons (dp_pair h.1) (dp_pairs h.2)
  | [], _ :: _, h => h.elim
  | _ :: _, [], h => h.elim
def okP (p : Str × Str) : Prop := PyData.strOk p.1 = true ∧ PyData.strOk p.2 = true
theorem can_pairs : ∀ {ps : List (Str × Str)}, (∀ p ∈ ps, okP p) → PyData.canLayAll0 (ps.map pD) = true
  | [], _ => rfl
  | p :: r, h => by
    show ((PyData.strOk p.1 && (PyData.strOk p.2 && true)) && PyData.canLayAll0 (r.map pD)) = true
    rw [(h p List.mem_cons_self).1, (h p List.mem_cons_self).2, can_pairs fun y q => h y (List.mem_cons_of_mem _ q)] <;> rfl
theorem depth_pairs : ∀ ps : List (Str × Str), PyData.depthAll (ps.map pD) ≤ 1
  | [] => Nat.zero_le _
  | p :: r => by
    show max 1 (PyData.depthAll (r.map pD)) ≤ 1
    have := depth_pairs r
    omega
theorem shaped_pairs {ps : List (Str × Str)} (h : ∀ p ∈ ps, okP p) : SeqAt.shaped (.list (ps.map pD)) = true := by
  have d : PyData.depth (.list (ps.map pD)) ≤ 64 := by
    show PyData.depthAll (ps.map pD) + 1 ≤ 64
    have := depth_pairs ps
    omega
  unfold SeqAt.shaped
  rw [decide_eq_true d]
  show (PyData.canLayAll0 (ps.map pD) && true) = true
  rw [can_pairs h] <;> rfl
theorem shaped_pair {p : Str × Str} (h : okP p) : SeqAt.shaped (pD p) = true := by
  show ((PyData.strOk p.1 && (PyData.strOk p.2 && true)) && decide (_ ≤ 64)) = true
  rw [h.1, h.2] <;> rfl
theorem eqv_pair (p q : Str × Str) : PyData.eqv (pD p) (pD q) = decide (p = q) := by
  show ((p.1 == q.1) && ((p.2 == q.2) && true)) = decide (p = q)
  rw [Bool.eq_iff_iff]
  simp [Prod.ext_iff]
theorem any_pair (p : Str × Str) (ps : List (Str × Str)) : ((ps.map pD).any fun z => PyData.eqv z (pD p)) = decide (p ∈ ps) := by
  rw [List.any_map, Bool.eq_iff_iff, List.any_eq_true, decide_eq_true_iff]
  constructor
  · rintro ⟨y, hy, e⟩
    have e' : PyData.eqv (pD y) (pD p) = true := e
    rw [eqv_pair] at e'
    rw [← of_decide_eq_true e']
    exact hy
  · intro h
    exact ⟨p, h, by show PyData.eqv (pD p) (pD p) = true; rw [eqv_pair, decide_eq_true rfl]⟩
def spFirst : Sp := fun vs H Q _ => ∃ (t L : Addr) (ps : List Str), vs = [.ref t, .ref L] ∧ H t = some (.tup (ps.map V.str)) ∧ H L = some (.lst ((List.replicate ps.length true).map V.bl)) ∧ ps.Nodup ∧ ∀ H', Same H H' → Q .non H'
def spFirstL : Sp := fun vs H Q _ => ∃ (t L : Addr) (ps : List Str), vs = [.ref t, .ref L] ∧ H t = some (.lst (ps.map V.str)) ∧ H L = some (.lst ((List.replicate ps.length true).map V.bl)) ∧ ps.Nodup ∧ ∀ H', Same H H' → Q .non H'
def spFirstP : Sp := fun vs H Q _ => ∃ (t L : Addr) (as : List Addr) (ps : List (Str × Str)), vs = [.ref t, .ref L] ∧ H t = some (.lst (as.map V.ref)) ∧ Tups H as (ps.map pV) ∧ H L = some (.lst ((List.replicate ps.length true).map V.bl)) ∧ ps.Nodup ∧ (∀ p ∈ ps, okP p) ∧ ∀ H', Same H H' → Q .non H'
section
variable {P : Program} {w : World} {K : PySem.W.Frag} {mg : Str → Option Value} {base : Heap} {f : Addr} {fd : FuncData}
theorem scFw : FnScope ["values", "right", "index", "value"] ["values", "right"] (defScope sFirst) := ⟨rfl, rfl, rfl, by decide +kernel, rfl, by decide +kernel, by decide +kernel⟩
theorem ok_first (F : Fun K "first_wrong" "first_wrong" sFirst f fd) (mE : mg "enumerate" = none) : FnOk P w K mg base CX0 1 f fd ["values", "right"] spFirst := by
  refine F.ok scFw (fun vs H Q E h => ?_) (fun cdv A outer s H vs Q E hr h => ?_)
  · obtain ⟨t, L, ps, rfl, _⟩ := h
    rfl
  · obtain ⟨t, L, ps, rfl, ht, hL, nd, k⟩ := h
    refine ⟨_, pss_cons (ps_for PassesOwn.never rfl (pi_enumT (by rfl) mE (pa_cons (pv 0) pa_nil)) (pg_tup (by rfl) (pgs_cons (pg_name (i := 2) scFw.nd rfl (.inl rfl)) (pgs_cons (pg_name (i := 3) scFw.nd rfl (.inl rfl)) pgs_nil)))
        (pss_one (ps_if (PW.pt (pw_or (pt_not (pt_val (pe_ix ix_list (pv 1) (pv 2) (fun _ _ => rfl)))) (pw_or1 (pt_cmpR op_in_seq (pv 3) (pe_slice sl_tup (pv 0) po_none (po_some (pv 2))) (by rfl))))) (pss_one ps_never) pss_nil)))
      (pss_one (ps_ret pe_non)), ?_⟩
    refine ⟨_, rfl, t, _, rfl, SqT.of ht, for_it walk_enumT (fun i σ H' => ∃ v2 v3 : Option V, σ = [some (.ref t), some (.ref L), v2, v3] ∧ Same H H') ⟨none, none, rfl, Same.refl H⟩ (fun _ _ _ _ h => by obtain ⟨_, _, _, h⟩ := h; exact SqT.of (h _ _ ht)) ?_ ?_⟩
    · rintro i x σ H2 H3 hi ⟨v2, v3, rfl, s2⟩ ⟨T, a, b, rfl, hT, rfl, ea, eb⟩
      cases ea
      dsimp only at eb
      rw [List.getElem?_map] at eb
      obtain ⟨z, hz, rfl⟩ := Option.map_eq_some_iff.mp eb
      have hi' : i < ps.length := by rw [List.length_map] at hi; exact hi
      have sT := Same.put (o := .tup [.int (i : Nat), .str z]) s2 hT
      refine ⟨T, _, rfl, SqT.of upd_same, rfl, _, _, rfl, _, _, rfl, rfl, ?_⟩
      refine ⟨_, rfl, _, rfl, L, _, _, .bl true, rfl, rfl, SqL.of (sT _ _ hL), ?_, true, rfl, ?_⟩
      · refine atI_nat ?_
        rw [List.getElem?_map, List.getElem?_replicate, if_pos hi'] <;> rfl
      have ec : cutV (ps.map V.str) none (some ((i : Nat) : Int)) = (ps.take i).map V.str := by
        unfold cutV
        rw [HT.sIx_none, HT.sIx_nat, List.length_map, Nat.min_eq_left (Nat.le_of_lt hi')]
        show (ps.map V.str).take i = _
        rw [List.map_take]
      refine ⟨_, rfl, _, rfl, _, rfl, _, rfl, t, _, rfl, SqT.of (sT _ _ ht), ?_, fun u hu => ?_⟩
      · rintro ⟨_, q⟩
        rw [HT.sIx_nat, List.length_map] at q
        omega
      · rw [ec]
        refine ⟨u, _, rfl, .inr (SqT.of upd_same), rfl, flat_strs _, _, rfl, ?_⟩
        have no : inV (.str z) ((ps.take i).map V.str) = false := by
          rw [inV_strs]
          exact decide_eq_false (take_nd nd hz)
        show if inV (.str z) ((ps.take i).map V.str) = true then _ else _
        rw [no, if_neg Bool.false_ne_true]
        exact ⟨_, _, rfl, Same.put sT hu⟩
    · rintro σ H2 ⟨v2, v3, rfl, s2⟩
      exact k H2 s2
theorem ok_firstL (F : Fun K "first_wrong" "first_wrong" sFirst f fd) (mE : mg "enumerate" = none) : FnOk P w K mg base CX0 1 f fd ["values", "right"] spFirstL := by
  refine F.ok scFw (fun vs H Q E h => ?_) (fun cdv A outer s H vs Q E hr h => ?_)
  · obtain ⟨t, L, ps, rfl, _⟩ := h
    rfl
  · obtain ⟨t, L, ps, rfl, ht, hL, nd, k⟩ := h
    refine ⟨_, pss_cons (ps_for PassesOwn.never rfl (pi_enum (by rfl) mE (pa_cons (pv 0) pa_nil)) (pg_tup (by rfl) (pgs_cons (pg_name (i := 2) scFw.nd rfl (.inl rfl)) (pgs_cons (pg_name (i := 3) scFw.nd rfl (.inl rfl)) pgs_nil)))
        (pss_one (ps_if (PW.pt (pw_or (pt_not (pt_val (pe_ix ix_list (pv 1) (pv 2) (fun _ _ => rfl)))) (pw_or1 (pt_cmpR op_in_seq (pv 3) (pe_slice sl_list (pv 0) po_none (po_some (pv 2))) (by rfl))))) (pss_one ps_never) pss_nil)))
      (pss_one (ps_ret pe_non)), ?_⟩
    refine ⟨_, rfl, t, _, rfl, SqL.of ht, for_it walk_enum (fun i σ H' => ∃ v2 v3 : Option V, σ = [some (.ref t), some (.ref L), v2, v3] ∧ Same H H') ⟨none, none, rfl, Same.refl H⟩ (fun _ _ _ _ h => by obtain ⟨_, _, _, h⟩ := h; exact SqL.of (h _ _ ht)) ?_ ?_⟩
    · rintro i x σ H2 H3 hi ⟨v2, v3, rfl, s2⟩ ⟨T, a, b, rfl, hT, rfl, ea, eb⟩
      cases ea
      dsimp only at eb
      rw [List.getElem?_map] at eb
      obtain ⟨z, hz, rfl⟩ := Option.map_eq_some_iff.mp eb
      have hi' : i < ps.length := by rw [List.length_map] at hi; exact hi
      have sT := Same.put (o := .tup [.int (i : Nat), .str z]) s2 hT
      refine ⟨T, _, rfl, SqT.of upd_same, rfl, _, _, rfl, _, _, rfl, rfl, ?_⟩
      refine ⟨_, rfl, _, rfl, L, _, _, .bl true, rfl, rfl, SqL.of (sT _ _ hL), ?_, true, rfl, ?_⟩
      · refine atI_nat ?_
        rw [List.getElem?_map, List.getElem?_replicate, if_pos hi'] <;> rfl
      have ec : cutV (ps.map V.str) none (some ((i : Nat) : Int)) = (ps.take i).map V.str := by
        unfold cutV
        rw [HT.sIx_none, HT.sIx_nat, List.length_map, Nat.min_eq_left (Nat.le_of_lt hi')]
        show (ps.map V.str).take i = _
        rw [List.map_take]
      refine ⟨_, rfl, _, rfl, _, rfl, _, rfl, t, _, rfl, SqL.of (sT _ _ ht), fun u hu => ?_⟩
      · rw [ec]
        refine ⟨u, _, rfl, .inl (SqL.of upd_same), rfl, flat_strs _, _, rfl, ?_⟩
        have no : inV (.str z) ((ps.take i).map V.str) = false := by
          rw [inV_strs]
          exact decide_eq_false (take_nd nd hz)
        show if inV (.str z) ((ps.take i).map V.str) = true then _ else _
        rw [no, if_neg Bool.false_ne_true]
        exact ⟨_, _, rfl, Same.put sT hu⟩
    · rintro σ H2 ⟨v2, v3, rfl, s2⟩
      exact k H2 s2
theorem ok_firstP (F : Fun K "first_wrong" "first_wrong" sFirst f fd) (mE : mg "enumerate" = none) : FnOk P w K mg base CX0 1 f fd ["values", "right"] spFirstP := by
  refine F.ok scFw (fun vs H Q E h => ?_) (fun cdv A outer s H vs Q E hr h => ?_)
  · obtain ⟨t, L, as, ps, rfl, _⟩ := h
    rfl
  · obtain ⟨t, L, as, ps, rfl, ht, hT0, hL, nd, oks, k⟩ := h
    have len : as.length = ps.length := by rw [hT0.length, List.length_map]
    refine ⟨_, pss_cons (ps_for PassesOwn.never rfl (pi_enum (by rfl) mE (pa_cons (pv 0) pa_nil)) (pg_tup (by rfl) (pgs_cons (pg_name (i := 2) scFw.nd rfl (.inl rfl)) (pgs_cons (pg_name (i := 3) scFw.nd rfl (.inl rfl)) pgs_nil)))
        (pss_one (ps_if (PW.pt (pw_or (pt_not (pt_val (pe_ix ix_list (pv 1) (pv 2) (fun _ _ => rfl)))) (pw_or1 (pt_cmpR (op_inD (un65 hr)) (pv 3) (pe_slice sl_list (pv 0) po_none (po_some (pv 2))) (by rfl))))) (pss_one ps_never) pss_nil)))
      (pss_one (ps_ret pe_non)), ?_⟩
    refine ⟨_, rfl, t, _, rfl, SqL.of ht, for_it walk_enum (fun i σ H' => ∃ v2 v3 : Option V, σ = [some (.ref t), some (.ref L), v2, v3] ∧ Same H H') ⟨none, none, rfl, Same.refl H⟩ (fun _ _ _ _ h => by obtain ⟨_, _, _, h⟩ := h; exact SqL.of (h _ _ ht)) ?_ ?_⟩
    · rintro i x σ H2 H3 hi ⟨v2, v3, rfl, s2⟩ ⟨T, a, b, rfl, hT, rfl, ea, eb⟩
      cases ea
      dsimp only at eb
      rw [List.getElem?_map] at eb
      obtain ⟨z, hz, rfl⟩ := Option.map_eq_some_iff.mp eb
      have hi' : i < as.length := by rw [List.length_map] at hi; exact hi
      have hip : i < ps.length := by omega
      have sT := Same.put (o := .tup [.int (i : Nat), .ref z]) s2 hT
      refine ⟨T, _, rfl, SqT.of upd_same, rfl, _, _, rfl, _, _, rfl, rfl, ?_⟩
      refine ⟨_, rfl, _, rfl, L, _, _, .bl true, rfl, rfl, SqL.of (sT _ _ hL), ?_, true, rfl, ?_⟩
      · refine atI_nat ?_
        rw [List.getElem?_map, List.getElem?_replicate, if_pos hip] <;> rfl
      have ec : cutV (as.map V.ref) none (some ((i : Nat) : Int)) = (as.take i).map V.ref := by
        unfold cutV
        rw [HT.sIx_none, HT.sIx_nat, List.length_map, Nat.min_eq_left (Nat.le_of_lt hi')]
        show (as.map V.ref).take i = _
        rw [List.map_take]
      refine ⟨_, rfl, _, rfl, _, rfl, _, rfl, t, _, rfl, SqL.of (sT _ _ ht), fun u hu => ?_⟩
      · rw [ec]
        obtain ⟨p, hp⟩ : ∃ p, ps[i]? = some p := ⟨ps[i], List.getElem?_eq_getElem hip⟩
        have sU := Same.put (o := .lst ((as.take i).map V.ref)) sT hu
        have tu := hT0.same sU
        have tz : _ = some (HO.tup (pV p)) := tu.get hz (by rw [List.getElem?_map, hp] <;> rfl)
        have tt := tu.take i
        rw [← List.map_take] at tt
        refine ⟨pD p, (ps.take i).map pD, dp_pair tz, .lst (SqL.of upd_same) (dp_pairs tt), shaped_pair (oks p (List.mem_of_getElem? hp)), shaped_pairs (fun q hq => oks q (List.mem_of_mem_take hq)), _, rfl, ?_⟩
        have no : (((ps.take i).map pD).any fun z => PyData.eqv z (pD p)) = false := by
          rw [any_pair]
          exact decide_eq_false (take_nd nd hp)
        rw [no]
        exact ⟨_, _, rfl, sU⟩
    · rintro σ H2 ⟨v2, v3, rfl, s2⟩
      exact k H2 s2
end
end Wb
/-! the parts of a loop, checked -/
namespace Wb
open PySem L2 WbMin WbS Lz
abbrev sChSt : Stmt := top 32
abbrev sChRo : Stmt := top 33
abbrev sChTu : Stmt := top 34
abbrev sChYe : Stmt := top 35
/-- the names of states -/
structure Sts (st : List Str) : Prop where
  of : ∀ z ∈ st, ∃ l, z = S l ∧ IsNm l
  nd : st.Nodup
  pos : 0 < st.length
  few : st.length ≤ 6
/-- a row of a loop: state, sign, next state, amount -/
structure Row where
  a : Str
  c : Nat
  b : Str
  m : Int
def Row.v (r : Row) : List V := [.str r.a, .str (S [r.c]), .str r.b, .int r.m]
def Row.k (r : Row) : Str × Str := (r.a, S [r.c])
/-- a turn: state, next state, amount -/
structure Trn where
  a : Str
  b : Str
  m : Int
def Trn.v (r : Trn) : List V := [.str r.a, .str r.b, .int r.m]
def spChSt : Sp := fun vs H Q _ => ∃ (t : Addr) (st : List Str), vs = [.ref t] ∧ H t = some (.tup (st.map V.str)) ∧ Sts st ∧ ∀ H', Same H H' → Q .non H'
def spChYe : Sp := fun vs H Q _ => ∃ (y t : Addr) (ye st : List Str), vs = [.ref y, .ref t] ∧ H y = some (.tup (ye.map V.str)) ∧ H t = some (.tup (st.map V.str)) ∧ (∀ z ∈ ye, z ∈ st) ∧ ye.Nodup ∧ ye.length ≤ 6 ∧ ∀ H', Same H H' → Q .non H'
def spChTu : Sp := fun vs H Q _ => ∃ (y t : Addr) (as : List Addr) (tn : List Trn) (st : List Str), vs = [.ref y, .ref t] ∧ H y = some (.tup (as.map V.ref)) ∧ Tups H as (tn.map Trn.v) ∧ H t = some (.tup (st.map V.str)) ∧ (∀ r ∈ tn, r.a ∈ st ∧ r.b ∈ st) ∧ (tn.map Trn.a).Nodup ∧ tn.length ≤ 6 ∧ ∀ H', Same H H' → Q .non H'
def spChRo : Sp := fun vs H Q _ => ∃ (y t : Addr) (sg : List Nat) (as : List Addr) (rw : List Row) (st : List Str), vs = [.ref y, .str (S sg), .ref t] ∧ H y = some (.tup (as.map V.ref)) ∧ Tups H as (rw.map Row.v) ∧ H t = some (.tup (st.map V.str)) ∧ (∀ r ∈ rw, r.a ∈ st ∧ r.c ∈ sg ∧ r.b ∈ st) ∧ (rw.map Row.k).Nodup ∧ (∀ r ∈ rw, okP r.k) ∧ sg.length ≤ 4 ∧ st.length ≤ 6 ∧ rw.length = sg.length * st.length ∧ ∀ H', Same H H' → Q .non H'
theorem whole_le {n : Nat} {k : Nat} (h : n ≤ k) : HT.sIx n n (some (k : Int)) = n := by
  rw [HT.sIx_nat]
  omega
section
variable {P : Program} {w : World} {K : PySem.W.Frag} {mg : Str → Option Value} {base : Heap} {f fN fF fS fO fI fR : Addr} {fd dN dF dS dO dI dR : FuncData}
theorem scCS : FnScope ["states", "first", "wrong", "state"] ["states"] (defScope sChSt) := ⟨rfl, rfl, rfl, by decide +kernel, rfl, by decide +kernel, by decide +kernel⟩
theorem ok_chst (F : Fun K "check_states" "check_states" sChSt f fd) (Z : Free mg) (mT : mg "tuple" = none) (mE : mg "enumerate" = none) (t8 : Tok) (g8 : mg "MOST_NAME" = some (.int 8 t8)) (t6 : Tok) (g6 : mg "MOST_STATES" = some (.int 6 t6)) (DN : Def K mg "is_name" sIsName ["value"] fN dN) (DF : Def K mg "first_wrong" sFirst ["values", "right"] fF dF) : FnOk P w K mg base CX0 2 f fd ["states"] spChSt := by
  have GN : FnOk P w K mg base CX0 1 fN dN ["value"] spIsName := ok_isname DN.F Z t8 g8
  have GF : FnOk P w K mg base CX0 1 fF dF ["values", "right"] spFirst := ok_first DF.F mE
  refine F.ok scCS (fun vs H Q E h => ?_) (fun cdv A outer s H vs Q E hr h => ?_)
  · obtain ⟨t, st, rfl, _⟩ := h
    rfl
  · obtain ⟨t, st, rfl, ht, G, k⟩ := h
    refine ⟨_, pss_cons (ps_if (PW.pt (pw_or (pt_not (pt_val (pe_callB call_isi (by rfl) Z.isi (by decide +kernel) (pa_cons (pv 0) (pa_cons (pe_bltn (v := .ty "tuple") (u := .type "tuple") (by rfl) mT (by decide +kernel) rfl) pa_nil))))) (pw_or1 (pt_cmpR op_eq (pe_callB call_len_seq (by rfl) Z.len PySem.boot_len (pa_cons (pv 0) pa_nil)) pe_int (nomark _))))) (pss_one ps_never) pss_nil)
      (pss_cons (ps_set (i := 1) scCS.nd rfl (.inl rfl) (pe_slice sl_tupA (pv 0) po_none (po_some (pe_glob (v := .int 6) (by rfl) g6 ⟨_, rfl⟩))))
      (pss_cons (ps_set (i := 2) scCS.nd rfl (.inl rfl) (pe_call GF hr rfl DF.g DF.kp DF.b .nil pass0 (pa_cons (pv 1) (pa_cons
          (pe_lc (own := [("state", 3)]) (g := gName 3) (tt := tYes) rfl scCS.nd (pi_tup (pv 1)) (blkOk_by (N := ["states", "first", "wrong", "state"]) (sc := defScope sChSt) (by decide +kernel)) (fun _ _ _ _ _ => pg_name (i := 3) scCS.nd rfl (.inl rfl)) (fun _ _ _ _ _ => pts_nil)
            (fun _ _ _ _ _ => pe_call GN hr rfl DN.g DN.kp DN.b .nil pass0 (pa_cons (pv 3) pa_nil))) pa_nil))))
      (pss_cons (ps_if (pt_cmpR op_notN (pv 2) pe_non (nomark _)) (pss_one ps_never) pss_nil)
      (pss_one (ps_if (pt_cmpR op_gt (pe_callB call_len_seq (by rfl) Z.len PySem.boot_len (pa_cons (pv 0) pa_nil)) (pe_glob (v := .int 6) (by rfl) g6 ⟨_, rfl⟩) (nomark _)) (pss_one ps_never) pss_nil))))), ?_⟩
    have few := G.few
    have pos := G.pos
    refine ⟨_, rfl, _, _, .type "tuple", .type "tuple", true, rfl, .ty "tuple", .base (.tup ht), kit_ty (by decide +kernel), true, rfl, ?_⟩
    refine ⟨_, rfl, t, _, rfl, .inr (SqT.of ht), rfl, _, rfl, ifn (fun e => by injection e with e; rw [List.length_map] at e; omega) ?_⟩
    refine ⟨_, rfl, _, rfl, t, _, rfl, SqT.of ht, fun _ => ?_, fun no => absurd ⟨rfl, whole_le (by rw [List.length_map]; exact few)⟩ no⟩
    refine ⟨_, rfl, _, rfl, t, rfl, ⟨_, SqT.of ht⟩, fun D hD => lc_it (walk_tup (xs := st.map V.str)) (fun i H3 => H3 D = some (.lst ((List.replicate i true).map V.bl)) ∧ Same H H3) ⟨upd_same, Same.put (Same.refl H) hD⟩ (fun _ _ _ h => SqT.of (h.2 _ _ ht)) ?_ ?_⟩
    · rintro i x H3 H3' hi ⟨h1, h2⟩ ⟨rfl, hx⟩
      rw [List.getElem?_map] at hx
      obtain ⟨z, hz, rfl⟩ := Option.map_eq_some_iff.mp hx
      rw [List.length_map] at hi
      obtain ⟨l, rfl, N⟩ := G.of z (List.mem_of_getElem? hz)
      refine ⟨rfl, _, rfl, l, rfl, N, fun H4 s4 => ⟨_, s4 _ _ h1, ?_, ?_, Same.new' (h2.trans s4) hD⟩⟩
      · rw [List.length_map, List.length_replicate, sizeLine_eq]
        omega
      · rw [upd_same, List.replicate_succ', List.map_append] <;> rfl
    · rintro H3 ⟨h1, h2⟩
      rw [List.length_map] at h1
      refine ⟨t, D, st, rfl, h2 _ _ ht, h1, G.nd, fun H4 s4 => ?_⟩
      refine ⟨_, rfl, rfl, _, rfl, ?_⟩
      show if (!decide (V.non = V.non)) = true then _ else _
      rw [decide_eq_true rfl]
      refine iteF ⟨_, rfl, t, _, rfl, .inr (SqT.of ((h2.trans s4) _ _ ht)), _, _, rfl, rfl, _, rfl, ifn (by rw [List.length_map]; omega) ?_⟩
      exact k H4 (h2.trans s4)
theorem scCY : FnScope ["yes", "states", "wrong", "state"] ["yes", "states"] (defScope sChYe) := ⟨rfl, rfl, rfl, by decide +kernel, rfl, by decide +kernel, by decide +kernel⟩
theorem ok_chye (F : Fun K "check_yes" "check_yes" sChYe f fd) (Z : Free mg) (mT : mg "tuple" = none) (mE : mg "enumerate" = none) (DS : Def K mg "is_state_of" sStateOf ["value", "states"] fS dS) (DF : Def K mg "first_wrong" sFirst ["values", "right"] fF dF) : FnOk P w K mg base CX0 2 f fd ["yes", "states"] spChYe := by
  have GS : FnOk P w K mg base CX0 1 fS dS ["value", "states"] spStateOf := ok_stateof DS.F Z
  have GF : FnOk P w K mg base CX0 1 fF dF ["values", "right"] spFirst := ok_first DF.F mE
  refine F.ok scCY (fun vs H Q E h => ?_) (fun cdv A outer s H vs Q E hr h => ?_)
  · obtain ⟨y, t, ye, st, rfl, _⟩ := h
    rfl
  · obtain ⟨y, t, ye, st, rfl, hy, ht, sub, nd, few, k⟩ := h
    refine ⟨_, pss_cons (ps_if (pt_not (pt_val (pe_callB call_isi (by rfl) Z.isi (by decide +kernel) (pa_cons (pv 0) (pa_cons (pe_bltn (v := .ty "tuple") (u := .type "tuple") (by rfl) mT (by decide +kernel) rfl) pa_nil))))) (pss_one ps_never) pss_nil)
      (pss_cons (ps_set (i := 2) scCY.nd rfl (.inl rfl) (pe_call GF hr rfl DF.g DF.kp DF.b .nil pass0 (pa_cons (pv 0) (pa_cons
          (pe_lc (own := [("state", 3)]) (g := gName 3) (tt := tYes) rfl scCY.nd (pi_tup (pv 0)) (blkOk_by (N := ["yes", "states", "wrong", "state"]) (sc := defScope sChYe) (by decide +kernel)) (fun _ _ _ _ _ => pg_name (i := 3) scCY.nd rfl (.inl rfl)) (fun _ _ _ _ _ => pts_nil)
            (fun _ _ _ _ _ => pe_call GS hr rfl DS.g DS.kp DS.b .nil pass0 (pa_cons (pv 3) (pa_cons (pv 1) pa_nil)))) pa_nil))))
      (pss_one (ps_if (pt_cmpR op_notN (pv 2) pe_non (nomark _)) (pss_one ps_never) pss_nil))), ?_⟩
    refine ⟨_, rfl, _, _, .type "tuple", .type "tuple", true, rfl, .ty "tuple", .base (.tup hy), kit_ty (by decide +kernel), true, rfl, ?_⟩
    refine ⟨_, rfl, _, rfl, y, rfl, ⟨_, SqT.of hy⟩, fun D hD => lc_it (walk_tup (xs := ye.map V.str)) (fun i H3 => H3 D = some (.lst ((List.replicate i true).map V.bl)) ∧ Same H H3) ⟨upd_same, Same.put (Same.refl H) hD⟩ (fun _ _ _ h => SqT.of (h.2 _ _ hy)) ?_ ?_⟩
    · rintro i x H3 H3' hi ⟨h1, h2⟩ ⟨rfl, hx⟩
      rw [List.getElem?_map] at hx
      obtain ⟨z, hz, rfl⟩ := Option.map_eq_some_iff.mp hx
      rw [List.length_map] at hi
      refine ⟨rfl, _, rfl, _, rfl, z, t, st, rfl, h2 _ _ ht, sub z (List.mem_of_getElem? hz), _, h1, ?_, ?_, Same.new' h2 hD⟩
      · rw [List.length_map, List.length_replicate, sizeLine_eq]
        omega
      · rw [upd_same, List.replicate_succ', List.map_append] <;> rfl
    · rintro H3 ⟨h1, h2⟩
      rw [List.length_map] at h1
      refine ⟨y, D, ye, rfl, h2 _ _ hy, h1, nd, fun H4 s4 => ?_⟩
      refine ⟨_, rfl, rfl, _, rfl, ?_⟩
      show if (!decide (V.non = V.non)) = true then _ else _
      rw [decide_eq_true rfl]
      exact iteF (k H4 (h2.trans s4))
abbrev NCT : List Str := ["turns", "states", "right", "wrong", "turn", "fine"]
theorem scCT : FnScope NCT ["turns", "states"] (defScope sChTu) := ⟨rfl, rfl, rfl, by decide +kernel, rfl, by decide +kernel, by decide +kernel⟩
theorem ok_chtu (F : Fun K "check_turns" "check_turns" sChTu f fd) (Z : Free mg) (mT : mg "tuple" = none) (mE : mg "enumerate" = none) (mZ : mg "zip" = none) (DR : Def K mg "is_turn_of" sTurnOf ["value", "states"] fR dR) (DS : Def K mg "is_state_of" sStateOf ["value", "states"] fS dS) (DI : Def K mg "is_integer" sIsInt ["value"] fI dI) (DF : Def K mg "first_wrong" sFirst ["values", "right"] fF dF) : FnOk P w K mg base CX0 3 f fd ["turns", "states"] spChTu := by
  have GR : FnOk P w K mg base CX0 2 fR dR ["value", "states"] spTurnOf := ok_turnof DR.F Z mT DS DI
  have GF : FnOk P w K mg base CX0 1 fF dF ["values", "right"] spFirstL := ok_firstL DF.F mE
  refine F.ok scCT (fun vs H Q E h => ?_) (fun cdv A outer s H vs Q E hr h => ?_)
  · obtain ⟨y, t, as, tn, st, rfl, _⟩ := h
    rfl
  · obtain ⟨y, t, as, tn, st, rfl, hy, hT, ht, sub, nd, few, k⟩ := h
    have hr1 : Room 1 _ := hr.mono (by decide)
    have len : as.length = tn.length := by rw [hT.length, List.length_map]
    refine ⟨_, pss_cons (ps_if (pt_not (pt_val (pe_callB call_isi (by rfl) Z.isi (by decide +kernel) (pa_cons (pv 0) (pa_cons (pe_bltn (v := .ty "tuple") (u := .type "tuple") (by rfl) mT (by decide +kernel) rfl) pa_nil))))) (pss_one ps_never) pss_nil)
      (pss_cons (ps_setLc (i := 2) (own := [("turn", 4)]) (g := gName 4) (tt := tYes) rfl scCT.nd rfl rfl (sw_true rfl rfl rfl (by decide +kernel)) (pi_tup (pv 0)) (blkOk_by (N := NCT) (sc := defScope sChTu) (by decide +kernel)) (fun _ _ _ _ _ => pg_name (i := 4) scCT.nd rfl (.inl rfl)) (fun _ _ _ _ _ => pts_nil)
            (fun _ _ _ _ _ => pe_call GR hr rfl DR.g DR.kp DR.b .nil pass0 (pa_cons (pv 4) (pa_cons (pv 1) pa_nil))))
      (pss_cons (ps_set (i := 3) scCT.nd rfl (.inl rfl) (pe_call GF hr1 rfl DF.g DF.kp DF.b .nil pass0 (pa_cons
          (pe_lc (own := [("turn", 4), ("fine", 5)]) (g := gTup K 2 (gCons (gName 4) (gCons (gName 5) gNil))) (tt := tYes) rfl scCT.nd (pi_zipM (by rfl) mZ (pa_cons (pv 0) (pa_cons (pv 2) pa_nil))) (blkOk_by (N := NCT) (sc := defScope sChTu) (by decide +kernel)) (fun _ _ _ _ _ => pg_tup (by rfl) (pgs_cons (pg_name (i := 4) scCT.nd rfl (.inl rfl)) (pgs_cons (pg_name (i := 5) scCT.nd rfl (.inl rfl)) pgs_nil))) (fun _ _ _ _ _ => pts_nil)
            (fun _ _ _ _ _ => pe_ifExp (pt_val (pv 5)) (pe_ix (show IxR _ (rIxT K) from ix_tup) (pv 4) pe_int (fun _ _ => rfl)) pe_non)) (pa_cons (pv 2) pa_nil))))
      (pss_one (ps_if (pt_cmpR op_notN (pv 3) pe_non (nomark _)) (pss_one ps_never) pss_nil)))), ?_⟩
    refine ⟨_, rfl, _, _, .type "tuple", .type "tuple", true, rfl, .ty "tuple", .base (.tup hy), kit_ty (by decide +kernel), true, rfl, ?_⟩
    refine ⟨_, rfl, y, rfl, ⟨_, SqT.of hy⟩, fun D hD => lc_it (walk_tup (xs := as.map V.ref)) (fun i H3 => H3 D = some (.lst ((List.replicate i true).map V.bl)) ∧ Same H H3) ⟨upd_same, Same.put (Same.refl H) hD⟩ (fun _ _ _ h => SqT.of (h.2 _ _ hy)) ?_ ?_⟩
    · rintro i x H3 H3' hi ⟨h1, h2⟩ ⟨rfl, hx⟩
      rw [List.getElem?_map] at hx
      obtain ⟨r, hz, rfl⟩ := Option.map_eq_some_iff.mp hx
      rw [List.length_map] at hi
      have hi' : i < tn.length := by omega
      have hr' : tn[i]? = some tn[i] := List.getElem?_eq_getElem hi'
      have hv := (hT.same h2).get hz (by rw [List.getElem?_map, hr'] <;> rfl)
      obtain ⟨m1, m2⟩ := sub tn[i] (List.getElem_mem hi')
      refine ⟨rfl, _, rfl, _, rfl, r, t, st, _, _, _, rfl, hv, h2 _ _ ht, m1, m2, _, h1, ?_, ?_, Same.new' h2 hD⟩
      · rw [List.length_map, List.length_replicate, sizeLine_eq]
        omega
      · rw [upd_same, List.replicate_succ', List.map_append] <;> rfl
    · rintro H3 ⟨h1, h2⟩
      rw [List.length_map] at h1
      have hy3 := h2 _ _ hy
      have hT3 := hT.same h2
      refine ⟨_, rfl, _, rfl, y, D, _, _, rfl, SqT.of hy3, SqL.of h1, fun D2 hD2 => lc_it (walk_zipM (n := tn.length) (xs := as.map V.ref) (ys := (List.replicate as.length true).map V.bl) (by rw [List.length_map, List.length_map, List.length_replicate]; omega)) (fun i H4 => H4 D2 = some (.lst (((tn.take i).map Trn.a).map V.str)) ∧ Same H3 H4) ⟨upd_same, Same.put (Same.refl H3) hD2⟩ (fun _ _ _ h => ⟨SqT.of (h.2 _ _ hy3), SqL.of (h.2 _ _ h1)⟩) ?_ ?_⟩
      · rintro i x H4 H5 hi ⟨g1, g2⟩ ⟨T, a, b, rfl, nT, rfl, ea, eb⟩
        dsimp only at ea eb
        rw [List.getElem?_map] at ea
        obtain ⟨r, hz, rfl⟩ := Option.map_eq_some_iff.mp ea
        rw [List.getElem?_map, List.getElem?_replicate, if_pos (by omega)] at eb
        cases eb
        have hr' : tn[i]? = some tn[i] := List.getElem?_eq_getElem hi
        have sT := Same.put (o := .tup [.ref r, .bl true]) g2 nT
        have hv := (hT3.same sT).get hz (by rw [List.getElem?_map, hr'] <;> rfl)
        have nDT : D2 ≠ T := ne_of_none g1 nT
        refine ⟨T, _, rfl, SqT.of upd_same, rfl, _, _, rfl, _, _, rfl, rfl, ?_⟩
        have e1 : ((tn.take i).map Trn.a).map V.str ++ [V.str tn[i].a] = ((tn.take (i + 1)).map Trn.a).map V.str := by
          rw [List.take_succ, hr', List.map_append, List.map_append] <;> rfl
        refine ⟨rfl, _, rfl, true, rfl, _, rfl, _, _, _, _, rfl, rfl, SqT.of hv, atI_nat (j := 0) rfl, _, (upd_ne nDT).trans g1, ?_, ?_, Same.new' sT hD2⟩
        · rw [List.length_map, List.length_map, List.length_take, sizeLine_eq]
          omega
        · rw [upd_same]
          exact congrArg (fun z => some (HO.lst z)) e1
      · rintro H4 ⟨g1, g2⟩
        rw [List.take_length] at g1
        refine ⟨_, rfl, D2, D, tn.map Trn.a, rfl, g1, ?_, nd, fun H5 s5 => ?_⟩
        · rw [List.length_map, ← len]
          exact g2 _ _ h1
        refine ⟨_, rfl, rfl, _, rfl, ?_⟩
        show if (!decide (V.non = V.non)) = true then _ else _
        rw [decide_eq_true rfl]
        exact iteF (k H5 ((h2.trans g2).trans s5))
end
end Wb
/-! the rows of a loop, checked -/
namespace Wb
open PySem L2 WbMin WbS Lz
theorem Tups.upd {H : Hp} {D : Addr} {o : HO} : ∀ {as : List Addr} {xs : List (List V)}, (∀ c ∈ as, c ≠ D) → Tups H as xs → Tups (L2.upd H D o) as xs
  | [], [], _, _ => trivial
  | a :: as, _ :: _, n, h => ⟨(upd_ne (n a List.mem_cons_self)).trans h.1, Tups.upd (fun c q => n c (List.mem_cons_of_mem _ q)) h.2⟩
  | [], _ :: _, _, h => h.elim
  | _ :: _, [], _, h => h.elim
section
variable {P : Program} {w : World} {K : PySem.W.Frag} {mg : Str → Option Value} {base : Heap} {f fN fF fS fO fI fR : Addr} {fd dN dF dS dO dI dR : FuncData}
abbrev NCR : List Str := ["rows", "signs", "states", "right", "wrong", "row", "fine"]
theorem scCR : FnScope NCR ["rows", "signs", "states"] (defScope sChRo) := ⟨rfl, rfl, rfl, by decide +kernel, rfl, by decide +kernel, by decide +kernel⟩
theorem ok_chro (F : Fun K "check_rows" "check_rows" sChRo f fd) (Z : Free mg) (mT : mg "tuple" = none) (mE : mg "enumerate" = none) (mZ : mg "zip" = none) (DR : Def K mg "is_row_of" sRowOf ["value", "signs", "states"] fR dR) (DS : Def K mg "is_state_of" sStateOf ["value", "states"] fS dS) (DO : Def K mg "is_sign_of" sSignOf ["value", "signs"] fO dO) (DI : Def K mg "is_integer" sIsInt ["value"] fI dI) (DF : Def K mg "first_wrong" sFirst ["values", "right"] fF dF) : FnOk P w K mg base CX0 3 f fd ["rows", "signs", "states"] spChRo := by
  have GR : FnOk P w K mg base CX0 2 fR dR ["value", "signs", "states"] spRowOf := ok_rowof DR.F Z mT DS DO DI
  have GF : FnOk P w K mg base CX0 1 fF dF ["values", "right"] spFirstP := ok_firstP DF.F mE
  refine F.ok scCR (fun vs H Q E h => ?_) (fun cdv A outer s H vs Q E hr h => ?_)
  · obtain ⟨y, t, sg, as, tn, st, rfl, _⟩ := h
    rfl
  · obtain ⟨y, t, sg, as, tn, st, rfl, hy, hT, ht, sub, nd, oks, fs, fst, lenR, k⟩ := h
    have hr1 : Room 1 _ := hr.mono (by decide)
    have len : as.length = tn.length := by rw [hT.length, List.length_map]
    have small : tn.length ≤ 24 := by rw [lenR]; exact Nat.mul_le_mul fs fst
    refine ⟨_, pss_cons (ps_if (pt_not (pt_val (pe_callB call_isi (by rfl) Z.isi (by decide +kernel) (pa_cons (pv 0) (pa_cons (pe_bltn (v := .ty "tuple") (u := .type "tuple") (by rfl) mT (by decide +kernel) rfl) pa_nil))))) (pss_one ps_never) pss_nil)
      (pss_cons (ps_setLc (i := 3) (own := [("row", 5)]) (g := gName 5) (tt := tYes) rfl scCR.nd rfl rfl (sw_true rfl rfl rfl (by decide +kernel)) (pi_tup (pv 0)) (blkOk_by (N := NCR) (sc := defScope sChRo) (by decide +kernel)) (fun _ _ _ _ _ => pg_name (i := 5) scCR.nd rfl (.inl rfl)) (fun _ _ _ _ _ => pts_nil)
            (fun _ _ _ _ _ => pe_call GR hr rfl DR.g DR.kp DR.b .nil pass0 (pa_cons (pv 5) (pa_cons (pv 1) (pa_cons (pv 2) pa_nil)))))
      (pss_cons (ps_set (i := 4) scCR.nd rfl (.inl rfl) (pe_call GF hr1 rfl DF.g DF.kp DF.b .nil pass0 (pa_cons
          (pe_lc (own := [("row", 5), ("fine", 6)]) (g := gTup K 2 (gCons (gName 5) (gCons (gName 6) gNil))) (tt := tYes) rfl scCR.nd (pi_zipM (by rfl) mZ (pa_cons (pv 0) (pa_cons (pv 3) pa_nil))) (blkOk_by (N := NCR) (sc := defScope sChRo) (by decide +kernel)) (fun _ _ _ _ _ => pg_tup (by rfl) (pgs_cons (pg_name (i := 5) scCR.nd rfl (.inl rfl)) (pgs_cons (pg_name (i := 6) scCR.nd rfl (.inl rfl)) pgs_nil))) (fun _ _ _ _ _ => pts_nil)
            (fun _ _ _ _ _ => pe_ifExp (pt_val (pv 6)) (pe_slice (show SlR _ (rSlT K) from sl_tup) (pv 5) po_none (po_some pe_int)) pe_non)) (pa_cons (pv 3) pa_nil))))
      (pss_cons (ps_if (pt_cmpR op_notN (pv 4) pe_non (nomark _)) (pss_one ps_never) pss_nil)
      (pss_one (ps_if (pt_cmpR op_lt (pe_callB call_len_seq (by rfl) Z.len PySem.boot_len (pa_cons (pv 0) pa_nil)) (pe_op op_mul (pe_callB call_len_str (by rfl) Z.len PySem.boot_len (pa_cons (pv 1) pa_nil)) (pe_callB call_len_seq (by rfl) Z.len PySem.boot_len (pa_cons (pv 2) pa_nil))) (nomark _)) (pss_one ps_never) pss_nil))))), ?_⟩
    refine ⟨_, rfl, _, _, .type "tuple", .type "tuple", true, rfl, .ty "tuple", .base (.tup hy), kit_ty (by decide +kernel), true, rfl, ?_⟩
    refine ⟨_, rfl, y, rfl, ⟨_, SqT.of hy⟩, fun D hD => lc_it (walk_tup (xs := as.map V.ref)) (fun i H3 => H3 D = some (.lst ((List.replicate i true).map V.bl)) ∧ Same H H3) ⟨upd_same, Same.put (Same.refl H) hD⟩ (fun _ _ _ h => SqT.of (h.2 _ _ hy)) ?_ ?_⟩
    · rintro i x H3 H3' hi ⟨h1, h2⟩ ⟨rfl, hx⟩
      rw [List.getElem?_map] at hx
      obtain ⟨r, hz, rfl⟩ := Option.map_eq_some_iff.mp hx
      rw [List.length_map] at hi
      have hi' : i < tn.length := by omega
      have hr' : tn[i]? = some tn[i] := List.getElem?_eq_getElem hi'
      have hv := (hT.same h2).get hz (by rw [List.getElem?_map, hr'] <;> rfl)
      obtain ⟨m1, m2, m3⟩ := sub tn[i] (List.getElem_mem hi')
      refine ⟨rfl, _, rfl, _, rfl, _, rfl, r, t, sg, st, _, _, _, _, rfl, hv, h2 _ _ ht, m1, m3, m2, _, h1, ?_, ?_, Same.new' h2 hD⟩
      · rw [List.length_map, List.length_replicate, sizeLine_eq]
        omega
      · rw [upd_same, List.replicate_succ', List.map_append] <;> rfl
    · rintro H3 ⟨h1, h2⟩
      rw [List.length_map] at h1
      have hy3 := h2 _ _ hy
      have hT3 := hT.same h2
      refine ⟨_, rfl, _, rfl, y, D, _, _, rfl, SqT.of hy3, SqL.of h1, fun D2 hD2 => lc_it (walk_zipM (n := tn.length) (xs := as.map V.ref) (ys := (List.replicate as.length true).map V.bl) (by rw [List.length_map, List.length_map, List.length_replicate]; omega)) (fun i H4 => ∃ bs : List Addr, H4 D2 = some (.lst (bs.map V.ref)) ∧ Tups H4 bs (((tn.take i).map Row.k).map pV) ∧ (∀ c ∈ bs, c ≠ D2) ∧ Same H3 H4) ⟨[], upd_same, trivial, (fun _ q => nomatch q), Same.put (Same.refl H3) hD2⟩ (fun _ _ _ h => by obtain ⟨_, _, _, _, h⟩ := h; exact ⟨SqT.of (h _ _ hy3), SqL.of (h _ _ h1)⟩) ?_ ?_⟩
      · rintro i x H4 H5 hi ⟨bs, g1, g3, g4, g2⟩ ⟨T, a, b, rfl, nT, rfl, ea, eb⟩
        dsimp only at ea eb
        rw [List.getElem?_map] at ea
        obtain ⟨r, hz, rfl⟩ := Option.map_eq_some_iff.mp ea
        rw [List.getElem?_map, List.getElem?_replicate, if_pos (by omega)] at eb
        cases eb
        have hr' : tn[i]? = some tn[i] := List.getElem?_eq_getElem hi
        have s0 := Same.put (o := .tup [.ref r, .bl true]) (Same.refl H4) nT
        have sT := g2.trans s0
        have hv := (hT3.same sT).get hz (by rw [List.getElem?_map, hr'] <;> rfl)
        have lb : bs.length = i := by rw [g3.length, List.length_map, List.length_map, List.length_take]; omega
        refine ⟨T, _, rfl, SqT.of upd_same, rfl, _, _, rfl, _, _, rfl, rfl, ?_⟩
        refine ⟨rfl, _, rfl, true, rfl, _, rfl, _, rfl, r, _, rfl, SqT.of hv, fun q => absurd (show HT.sIx 4 4 (some 2) = 4 from q.2) (by decide), fun u hu => ?_⟩
        have s5 := Same.put (o := .tup (cutV (Row.v tn[i]) none (some 2))) s0 hu
        refine ⟨_, s5 _ _ g1, ?_, bs ++ [u], ?_, ?_, ?_, ?_⟩
        · rw [List.length_map, sizeLine_eq]
          omega
        · rw [upd_same, List.map_append] <;> rfl
        · have e1 : ((tn.take (i + 1)).map Row.k).map pV = ((tn.take i).map Row.k).map pV ++ [pV tn[i].k] := by
            rw [List.take_add_one, hr', List.map_append, List.map_append] <;> rfl
          rw [e1]
          have nu : u ≠ D2 := fun z => ne_of_none (s0 _ _ g1) hu z.symm
          have n2 : ∀ c ∈ bs ++ [u], c ≠ D2 := fun c hc => (List.mem_append.mp hc).elim (g4 c) fun q => by rw [List.mem_singleton.mp q]; exact nu
          exact Tups.upd n2 (Tups.snoc upd_same (g3.same s5))
        · intro c hc
          exact (List.mem_append.mp hc).elim (g4 c) fun q z => ne_of_none (s0 _ _ g1) hu (((List.mem_singleton.mp q).symm.trans z).symm)
        · exact Same.new' (g2.trans s5) hD2
      · rintro H4 ⟨bs, g1, g3, g4, g2⟩
        rw [List.take_length] at g3
        have ht4 := (h2.trans g2) _ _ ht
        refine ⟨_, rfl, D2, D, bs, tn.map Row.k, rfl, g1, g3, ?_, nd, ?_, fun H5 s5 => ?_⟩
        · rw [List.length_map, ← len]
          exact g2 _ _ h1
        · intro p hp
          obtain ⟨r, hr5, rfl⟩ := List.mem_map.mp hp
          exact oks r hr5
        refine ⟨_, rfl, rfl, _, rfl, ?_⟩
        show if (!decide (V.non = V.non)) = true then _ else _
        rw [decide_eq_true rfl]
        refine iteF ?_
        have s6 := (h2.trans g2).trans s5
        have fitS : (S sg).length ≤ sizeLine := by rw [S_len, sizeLine_eq]; omega
        refine ⟨_, rfl, y, _, rfl, .inr (SqT.of (s6 _ _ hy)), _, rfl, _, rfl, fitS, _, rfl, t, _, rfl, .inr (SqT.of (s6 _ _ ht)), _, _, rfl, rfl, .inl ?_, _, _, rfl, rfl, _, rfl, ifn ?_ (k H5 s6)⟩
        · rw [S_len]
          omega
        · rw [S_len, List.length_map, List.length_map, len, lenR]
          push_cast
          omega
end
end Wb
/-! first_wrong, good or bad -/
namespace Wb
open PySem L2 WbMin WbS Lz
/-- whether the one at i is wrong: no key, or a key that stood before -/
def badAt {α : Type} [DecidableEq α] (l : List (Option α)) (i : Nat) : Bool := match l[i]? with
  | some (some a) => decide (some a ∈ l.take i)
  | _ => true
/-- the first that is wrong -/
def fwO {α : Type} [DecidableEq α] (l : List (Option α)) : Option Nat := (List.range l.length).find? (badAt l)
def opI : Option Nat → V
  | none => .non
  | some i => .int (i : Nat)
section
variable {α : Type} [DecidableEq α] {l : List (Option α)} {i : Nat}
theorem find_hit {p : Nat → Bool} : ∀ {n i : Nat}, i < n → p i = true → (∀ j, j < i → p j = false) → (List.range n).find? p = some i := fun {n i} hi h pre => by
  rw [List.find?_range_eq_some]
  exact ⟨h, List.mem_range.mpr hi, fun j hj => by rw [pre j hj]; rfl⟩
theorem fwO_hit (hi : i < l.length) (h : badAt l i = true) (pre : ∀ j, j < i → badAt l j = false) : fwO l = some i := find_hit hi h pre
theorem fwO_none (pre : ∀ j, j < l.length → badAt l j = false) : fwO l = none := by
  unfold fwO
  rw [List.find?_eq_none]
  intro j hj
  rw [pre j (List.mem_range.mp hj)]
  exact Bool.false_ne_true
theorem badAt_some {a : α} (h : l[i]? = some (some a)) : badAt l i = decide (some a ∈ l.take i) := by
  unfold badAt
  rw [h]
theorem badAt_non (h : l[i]? = some none) : badAt l i = true := by
  unfold badAt
  rw [h]
/-- before the first wrong one stand keys, no two alike -/
theorem fw_pre : ∀ {i : Nat}, i ≤ l.length → (∀ j, j < i → badAt l j = false) → ∃ ks : List α, ks.length = i ∧ l.take i = ks.map some ∧ ks.Nodup
  | 0, _, _ => ⟨[], rfl, rfl, List.nodup_nil⟩
  | i + 1, hi, pre => by
    obtain ⟨ks, h1, h2, h3⟩ := fw_pre (i := i) (by omega) fun j hj => pre j (by omega)
    have hl : l[i]? = some l[i] := List.getElem?_eq_getElem (by omega)
    have b := pre i (by omega)
    cases e : l[i] with
    | none =>
      rw [e] at hl
      rw [badAt_non hl] at b
      cases b
    | some a =>
      rw [e] at hl
      rw [badAt_some hl, h2, decide_eq_false_iff_not] at b
      refine ⟨ks ++ [a], by rw [List.length_append, h1]; rfl, ?_, ?_⟩
      · rw [List.take_add_one, hl, h2, List.map_append] <;> rfl
      · rw [List.nodup_append]
        refine ⟨h3, List.nodup_cons.mpr ⟨List.not_mem_nil, List.nodup_nil⟩, ?_⟩
        rintro x hx y hy rfl
        rw [List.mem_singleton] at hy
        subst hy
        exact b (List.mem_map.mpr ⟨_, hx, rfl⟩)
theorem mem_some {a : α} {ks : List α} : decide (some a ∈ ks.map some) = decide (a ∈ ks) := by
  refine decide_eq_decide.mpr ⟨fun h => ?_, fun h => List.mem_map.mpr ⟨_, h, rfl⟩⟩
  obtain ⟨b, hb, e⟩ := List.mem_map.mp h
  cases e
  exact hb
end
/-- texts stand where keys are told -/
def KeyT (l : List (Option Str)) (xs : List V) : Prop := l.length = xs.length ∧ ∀ (i : Nat) (z : Str), l[i]? = some (some z) → xs[i]? = some (V.str z)
/-- pairs of texts stand where keys are told -/
def KeyP (H : Hp) (l : List (Option (Str × Str))) (xs : List V) : Prop := l.length = xs.length ∧ ∀ (i : Nat) (p : Str × Str), l[i]? = some (some p) → okP p ∧ ∃ a, xs[i]? = some (V.ref a) ∧ H a = some (.tup (pV p))
theorem KeyT.take {l : List (Option Str)} {xs : List V} (h : KeyT l xs) {i : Nat} {ks : List Str} (hk : ks.length = i) (e : l.take i = ks.map some) : xs.take i = ks.map V.str := by
  refine List.ext_getElem? fun j => ?_
  rw [List.getElem?_map]
  by_cases hj : j < i
  · rw [List.getElem?_take_of_lt hj]
    have hk' : ks[j]? = some ks[j] := List.getElem?_eq_getElem (by omega)
    have q : (l.take i)[j]? = some (some ks[j]) := by rw [e, List.getElem?_map, hk'] <;> rfl
    rw [List.getElem?_take_of_lt hj] at q
    rw [h.2 j _ q, hk'] <;> rfl
  · rw [List.getElem?_eq_none (by rw [List.length_take]; omega), List.getElem?_eq_none (by omega)] <;> rfl
theorem KeyP.take {H : Hp} {l : List (Option (Str × Str))} {xs : List V} (h : KeyP H l xs) : ∀ {i : Nat} {ks : List (Str × Str)}, ks.length = i → l.take i = ks.map some → ∃ as : List Addr, xs.take i = as.map V.ref ∧ Tups H as (ks.map pV) ∧ ∀ p ∈ ks, okP p := fun {i ks} hk e => by
  have at_ : ∀ j, j < i → ∃ (p : Str × Str) (a : Addr), ks[j]? = some p ∧ okP p ∧ xs[j]? = some (V.ref a) ∧ H a = some (.tup (pV p)) := fun j hj => by
    have hk' : ks[j]? = some ks[j] := List.getElem?_eq_getElem (by omega)
    have q : (l.take i)[j]? = some (some ks[j]) := by rw [e, List.getElem?_map, hk'] <;> rfl
    rw [List.getElem?_take_of_lt hj] at q
    obtain ⟨o, a, h1, h2⟩ := h.2 j _ q
    exact ⟨_, a, hk', o, h1, h2⟩
  have main : ∀ n, n ≤ i → ∃ as : List Addr, xs.take n = as.map V.ref ∧ Tups H as ((ks.take n).map pV) := fun n => by
    induction n with
    | zero => exact fun _ => ⟨[], rfl, trivial⟩
    | succ n ih =>
      intro hn
      obtain ⟨as, h1, h2⟩ := ih (by omega)
      obtain ⟨p, a, e1, o, e2, e3⟩ := at_ n (by omega)
      refine ⟨as ++ [a], ?_, ?_⟩
      · rw [List.take_add_one, e2, h1, List.map_append] <;> rfl
      · have q : ((ks.take (n + 1)).map pV) = (ks.take n).map pV ++ [pV p] := by rw [List.take_add_one, e1, List.map_append] <;> rfl
        rw [q]
        exact Tups.snoc e3 h2
  obtain ⟨as, h1, h2⟩ := main i (Nat.le_refl i)
  rw [show ks.take i = ks from by rw [← hk, List.take_length]] at h2
  refine ⟨as, h1, h2, fun p hp => ?_⟩
  obtain ⟨j, hj, rfl⟩ := List.getElem_of_mem hp
  obtain ⟨p, a, e1, o, _⟩ := at_ j (by omega)
  rw [List.getElem?_eq_getElem hj] at e1
  cases e1
  exact o
theorem KeyP.same {H H' : Hp} {l : List (Option (Str × Str))} {xs : List V} (h : KeyP H l xs) (s : Same H H') : KeyP H' l xs := ⟨h.1, fun i p e => by
  obtain ⟨o, a, h1, h2⟩ := h.2 i p e
  exact ⟨o, a, h1, s _ _ h2⟩⟩
def flV {α : Type} (l : List (Option α)) : List V := (l.map Option.isSome).map V.bl
def spFirstA : Sp := fun vs H Q _ => ∃ (t L : Addr) (xs : List V) (l : List (Option Str)), vs = [.ref t, .ref L] ∧ H t = some (.tup xs) ∧ KeyT l xs ∧ H L = some (.lst (flV l)) ∧ ∀ H', Same H H' → Q (opI (fwO l)) H'
def spFirstAL : Sp := fun vs H Q _ => ∃ (t L : Addr) (xs : List V) (l : List (Option Str)), vs = [.ref t, .ref L] ∧ H t = some (.lst xs) ∧ KeyT l xs ∧ H L = some (.lst (flV l)) ∧ ∀ H', Same H H' → Q (opI (fwO l)) H'
def spFirstAP : Sp := fun vs H Q _ => ∃ (t L : Addr) (xs : List V) (l : List (Option (Str × Str))), vs = [.ref t, .ref L] ∧ H t = some (.lst xs) ∧ KeyP H l xs ∧ H L = some (.lst (flV l)) ∧ ∀ H', Same H H' → Q (opI (fwO l)) H'
theorem flV_at {α : Type} {l : List (Option α)} {i : Nat} {o : Option α} (h : l[i]? = some o) : (flV l)[i]? = some (.bl o.isSome) := by
  unfold flV
  rw [List.getElem?_map, List.getElem?_map, h] <;> rfl
theorem cut_take {xs : List V} {i : Nat} (hi : i ≤ xs.length) : cutV xs none (some ((i : Nat) : Int)) = xs.take i := by
  unfold cutV
  rw [HT.sIx_none, HT.sIx_nat, Nat.min_eq_left hi]
  rfl
section
variable {P : Program} {w : World} {K : PySem.W.Frag} {mg : Str → Option Value} {base : Heap} {f : Addr} {fd : FuncData}
set_option maxHeartbeats 1600000 in
theorem ok_firstA (F : Fun K "first_wrong" "first_wrong" sFirst f fd) (mE : mg "enumerate" = none) : FnOk P w K mg base CX0 1 f fd ["values", "right"] spFirstA := by
  refine F.ok scFw (fun vs H Q E h => ?_) (fun cdv A outer s H vs Q E hr h => ?_)
  · obtain ⟨t, L, xs, l, rfl, _⟩ := h
    rfl
  · obtain ⟨t, L, xs, l, rfl, ht, kt, hL, k⟩ := h
    refine ⟨_, pss_cons (ps_for PassesOwn.never rfl (pi_enumT (by rfl) mE (pa_cons (pv 0) pa_nil)) (pg_tup (by rfl) (pgs_cons (pg_name (i := 2) scFw.nd rfl (.inl rfl)) (pgs_cons (pg_name (i := 3) scFw.nd rfl (.inl rfl)) pgs_nil)))
        (pss_one (ps_if (PW.pt (pw_or (pt_not (pt_val (pe_ix ix_list (pv 1) (pv 2) (fun _ _ => rfl)))) (pw_or1 (pt_cmpR op_in_seq (pv 3) (pe_slice sl_tup (pv 0) po_none (po_some (pv 2))) (by rfl))))) (pss_one (ps_ret (pv 2))) pss_nil)))
      (pss_one (ps_ret pe_non)), ?_⟩
    refine ⟨_, rfl, t, _, rfl, SqT.of ht, for_it walk_enumT (fun i σ H' => ∃ v2 v3 : Option V, σ = [some (.ref t), some (.ref L), v2, v3] ∧ Same H H' ∧ ∀ j, j < i → badAt l j = false) ⟨none, none, rfl, Same.refl H, fun j hj => absurd hj (Nat.not_lt_zero j)⟩ (fun _ _ _ _ h => by obtain ⟨_, _, _, h, _⟩ := h; exact SqT.of (h _ _ ht)) ?_ ?_⟩
    · rintro i x σ H2 H3 hi ⟨v2, v3, rfl, s2, pre⟩ ⟨T, a, b, rfl, hT, rfl, ea, eb⟩
      cases ea
      dsimp only at eb
      have hil : i < l.length := by rw [kt.1]; exact hi
      have sT := Same.put (o := .tup [.int (i : Nat), b]) s2 hT
      have hl : l[i]? = some l[i] := List.getElem?_eq_getElem hil
      refine ⟨T, _, rfl, SqT.of upd_same, rfl, _, _, rfl, _, _, rfl, rfl, ?_⟩
      refine ⟨_, rfl, _, rfl, L, _, _, .bl l[i].isSome, rfl, rfl, SqL.of (sT _ _ hL), atI_nat (flV_at hl), l[i].isSome, rfl, ?_⟩
      cases e : l[i] with
      | none =>
        rw [e] at hl
        rw [fwO_hit hil (badAt_non hl) pre] at k
        exact ⟨_, rfl, k _ sT⟩
      | some z =>
        rw [e] at hl
        obtain ⟨ks, k1, k2, k3⟩ := fw_pre (Nat.le_of_lt hil) pre
        have ez := kt.2 i z hl
        rw [ez] at eb
        cases eb
        refine ⟨_, rfl, _, rfl, _, rfl, _, rfl, t, _, rfl, SqT.of (sT _ _ ht), ?_, fun u hu => ?_⟩
        · rintro ⟨_, q⟩
          rw [HT.sIx_nat] at q
          omega
        · rw [cut_take (Nat.le_of_lt hi), kt.take k1 k2]
          refine ⟨u, _, rfl, .inr (SqT.of upd_same), rfl, flat_strs _, _, rfl, ?_⟩
          have ebad : badAt l i = inV (.str z) (ks.map V.str) := by rw [inV_strs, badAt_some hl, k2, mem_some]
          show if inV (.str z) (ks.map V.str) = true then _ else _
          rw [← ebad]
          cases eb2 : badAt l i with
          | true =>
            rw [fwO_hit hil eb2 pre] at k
            exact ⟨_, rfl, k _ (Same.put sT hu)⟩
          | false =>
            refine ⟨_, _, rfl, Same.put sT hu, fun j hj => ?_⟩
            rcases Nat.lt_succ_iff_lt_or_eq.mp hj with hj | rfl
            · exact pre j hj
            · exact eb2
    · rintro σ H2 ⟨v2, v3, rfl, s2, pre⟩
      rw [fwO_none fun j hj => pre j (by rw [kt.1] at hj; exact hj)] at k
      exact k H2 s2
set_option maxHeartbeats 1600000 in
theorem ok_firstAL (F : Fun K "first_wrong" "first_wrong" sFirst f fd) (mE : mg "enumerate" = none) : FnOk P w K mg base CX0 1 f fd ["values", "right"] spFirstAL := by
  refine F.ok scFw (fun vs H Q E h => ?_) (fun cdv A outer s H vs Q E hr h => ?_)
  · obtain ⟨t, L, xs, l, rfl, _⟩ := h
    rfl
  · obtain ⟨t, L, xs, l, rfl, ht, kt, hL, k⟩ := h
    refine ⟨_, pss_cons (ps_for PassesOwn.never rfl (pi_enum (by rfl) mE (pa_cons (pv 0) pa_nil)) (pg_tup (by rfl) (pgs_cons (pg_name (i := 2) scFw.nd rfl (.inl rfl)) (pgs_cons (pg_name (i := 3) scFw.nd rfl (.inl rfl)) pgs_nil)))
        (pss_one (ps_if (PW.pt (pw_or (pt_not (pt_val (pe_ix ix_list (pv 1) (pv 2) (fun _ _ => rfl)))) (pw_or1 (pt_cmpR op_in_seq (pv 3) (pe_slice sl_list (pv 0) po_none (po_some (pv 2))) (by rfl))))) (pss_one (ps_ret (pv 2))) pss_nil)))
      (pss_one (ps_ret pe_non)), ?_⟩
    refine ⟨_, rfl, t, _, rfl, SqL.of ht, for_it walk_enum (fun i σ H' => ∃ v2 v3 : Option V, σ = [some (.ref t), some (.ref L), v2, v3] ∧ Same H H' ∧ ∀ j, j < i → badAt l j = false) ⟨none, none, rfl, Same.refl H, fun j hj => absurd hj (Nat.not_lt_zero j)⟩ (fun _ _ _ _ h => by obtain ⟨_, _, _, h, _⟩ := h; exact SqL.of (h _ _ ht)) ?_ ?_⟩
    · rintro i x σ H2 H3 hi ⟨v2, v3, rfl, s2, pre⟩ ⟨T, a, b, rfl, hT, rfl, ea, eb⟩
      cases ea
      dsimp only at eb
      have hil : i < l.length := by rw [kt.1]; exact hi
      have sT := Same.put (o := .tup [.int (i : Nat), b]) s2 hT
      have hl : l[i]? = some l[i] := List.getElem?_eq_getElem hil
      refine ⟨T, _, rfl, SqT.of upd_same, rfl, _, _, rfl, _, _, rfl, rfl, ?_⟩
      refine ⟨_, rfl, _, rfl, L, _, _, .bl l[i].isSome, rfl, rfl, SqL.of (sT _ _ hL), atI_nat (flV_at hl), l[i].isSome, rfl, ?_⟩
      cases e : l[i] with
      | none =>
        rw [e] at hl
        rw [fwO_hit hil (badAt_non hl) pre] at k
        exact ⟨_, rfl, k _ sT⟩
      | some z =>
        rw [e] at hl
        obtain ⟨ks, k1, k2, k3⟩ := fw_pre (Nat.le_of_lt hil) pre
        have ez := kt.2 i z hl
        rw [ez] at eb
        cases eb
        refine ⟨_, rfl, _, rfl, _, rfl, _, rfl, t, _, rfl, SqL.of (sT _ _ ht), fun u hu => ?_⟩
        · rw [cut_take (Nat.le_of_lt hi), kt.take k1 k2]
          refine ⟨u, _, rfl, .inl (SqL.of upd_same), rfl, flat_strs _, _, rfl, ?_⟩
          have ebad : badAt l i = inV (.str z) (ks.map V.str) := by rw [inV_strs, badAt_some hl, k2, mem_some]
          show if inV (.str z) (ks.map V.str) = true then _ else _
          rw [← ebad]
          cases eb2 : badAt l i with
          | true =>
            rw [fwO_hit hil eb2 pre] at k
            exact ⟨_, rfl, k _ (Same.put sT hu)⟩
          | false =>
            refine ⟨_, _, rfl, Same.put sT hu, fun j hj => ?_⟩
            rcases Nat.lt_succ_iff_lt_or_eq.mp hj with hj | rfl
            · exact pre j hj
            · exact eb2
    · rintro σ H2 ⟨v2, v3, rfl, s2, pre⟩
      rw [fwO_none fun j hj => pre j (by rw [kt.1] at hj; exact hj)] at k
      exact k H2 s2
set_option maxHeartbeats 1600000 in
theorem ok_firstAP (F : Fun K "first_wrong" "first_wrong" sFirst f fd) (mE : mg "enumerate" = none) : FnOk P w K mg base CX0 1 f fd ["values", "right"] spFirstAP := by
  refine F.ok scFw (fun vs H Q E h => ?_) (fun cdv A outer s H vs Q E hr h => ?_)
  · obtain ⟨t, L, xs, l, rfl, _⟩ := h
    rfl
  · obtain ⟨t, L, xs, l, rfl, ht, kt, hL, k⟩ := h
    refine ⟨_, pss_cons (ps_for PassesOwn.never rfl (pi_enum (by rfl) mE (pa_cons (pv 0) pa_nil)) (pg_tup (by rfl) (pgs_cons (pg_name (i := 2) scFw.nd rfl (.inl rfl)) (pgs_cons (pg_name (i := 3) scFw.nd rfl (.inl rfl)) pgs_nil)))
        (pss_one (ps_if (PW.pt (pw_or (pt_not (pt_val (pe_ix ix_list (pv 1) (pv 2) (fun _ _ => rfl)))) (pw_or1 (pt_cmpR (op_inD (un65 hr)) (pv 3) (pe_slice sl_list (pv 0) po_none (po_some (pv 2))) (by rfl))))) (pss_one (ps_ret (pv 2))) pss_nil)))
      (pss_one (ps_ret pe_non)), ?_⟩
    refine ⟨_, rfl, t, _, rfl, SqL.of ht, for_it walk_enum (fun i σ H' => ∃ v2 v3 : Option V, σ = [some (.ref t), some (.ref L), v2, v3] ∧ Same H H' ∧ ∀ j, j < i → badAt l j = false) ⟨none, none, rfl, Same.refl H, fun j hj => absurd hj (Nat.not_lt_zero j)⟩ (fun _ _ _ _ h => by obtain ⟨_, _, _, h, _⟩ := h; exact SqL.of (h _ _ ht)) ?_ ?_⟩
    · rintro i x σ H2 H3 hi ⟨v2, v3, rfl, s2, pre⟩ ⟨T, a, b, rfl, hT, rfl, ea, eb⟩
      cases ea
      dsimp only at eb
      have hil : i < l.length := by rw [kt.1]; exact hi
      have sT := Same.put (o := .tup [.int (i : Nat), b]) s2 hT
      have hl : l[i]? = some l[i] := List.getElem?_eq_getElem hil
      refine ⟨T, _, rfl, SqT.of upd_same, rfl, _, _, rfl, _, _, rfl, rfl, ?_⟩
      refine ⟨_, rfl, _, rfl, L, _, _, .bl l[i].isSome, rfl, rfl, SqL.of (sT _ _ hL), atI_nat (flV_at hl), l[i].isSome, rfl, ?_⟩
      cases e : l[i] with
      | none =>
        rw [e] at hl
        rw [fwO_hit hil (badAt_non hl) pre] at k
        exact ⟨_, rfl, k _ sT⟩
      | some z =>
        rw [e] at hl
        obtain ⟨ks, k1, k2, k3⟩ := fw_pre (Nat.le_of_lt hil) pre
        obtain ⟨oz, a, ez, _⟩ := kt.2 i z hl
        rw [ez] at eb
        cases eb
        refine ⟨_, rfl, _, rfl, _, rfl, _, rfl, t, _, rfl, SqL.of (sT _ _ ht), fun u hu => ?_⟩
        · have sU := Same.put (o := .lst (cutV xs none (some ((i : Nat) : Int)))) sT hu
          obtain ⟨as, a1, a2, a3⟩ := (kt.same sU).take k1 k2
          obtain ⟨_, a', ez', haz⟩ := (kt.same sU).2 i z hl
          rw [ez] at ez'
          cases ez'
          have hU : (L2.upd (L2.upd H2 T (.tup [.int (i : Nat), .ref a])) u (.lst (cutV xs none (some ((i : Nat) : Int))))) u = some (.lst (as.map V.ref)) := by
            rw [← a1, ← cut_take (Nat.le_of_lt hi)]
            exact upd_same
          refine ⟨pD z, ks.map pD, dp_pair haz, .lst (SqL.of hU) (dp_pairs a2), shaped_pair oz, shaped_pairs a3, _, rfl, ?_⟩
          have ebad : badAt l i = ((ks.map pD).any fun y => PyData.eqv y (pD z)) := by
            rw [any_pair, badAt_some hl, k2, mem_some]
            exact decide_eq_decide.mpr Iff.rfl
          rw [← ebad]
          cases eb2 : badAt l i with
          | true =>
            rw [fwO_hit hil eb2 pre] at k
            exact ⟨_, rfl, k _ (Same.put sT hu)⟩
          | false =>
            refine ⟨_, _, rfl, Same.put sT hu, fun j hj => ?_⟩
            rcases Nat.lt_succ_iff_lt_or_eq.mp hj with hj | rfl
            · exact pre j hj
            · exact eb2
    · rintro σ H2 ⟨v2, v3, rfl, s2, pre⟩
      rw [fwO_none fun j hj => pre j (by rw [kt.1] at hj; exact hj)] at k
      exact k H2 s2
end
end Wb
set_option maxHeartbeats 1000000
/-! try: .. except X as n: .. except Y as n: .. and so on, the clauses behind the one that takes it unlooked at -/
namespace Le
open PySem PySem.Spec PyProof.Rows L2
/-- a suite's ways out, where the clause's name i goes -/
def offD (D : Ends) (i : Nat) : Ends where
  nx := fun τ G => D.nx (τ.set i none) G
  rt := D.rt
  bk := fun τ G => D.bk (τ.set i none) G
  ct := fun τ G => D.ct (τ.set i none) G
abbrev Suite := Addr → Value → Option Addr → TS
/-- the wish of the clauses, one by one -/
def wCls (K : PySem.W.Frag) (D : Ends) : List (Value × Nat × Suite) → WX
  | [] => fun _ _ _ _ => False
  | (c, i, t) :: more => fun cl dd τ G => ∃ yes, PySem.W.exmOne K cl c = some yes ∧ (yes = true → ∀ r, G r = none → t r cl dd (offD D i) (τ.set i (some (.ref r))) G) ∧ (yes = false → wCls K D more cl dd τ G)
inductive Clauses (X : Cx) : List ExceptHandler → List (Value × Nat × Suite) → Prop
  | rest (hds : List ExceptHandler) : Clauses X hds []
  | as_ {x n : Str} {c : Value} {i : Nat} {t : Suite} {b : Stmt} {bs : List Stmt} {p p' : Pos} {hds : List ExceptHandler} {more : List (Value × Nat × Suite)} (at_ : X.N[i]? = some n) (lo : X.env.kindOf n = some .local) (nm : Names X x c)
      (suite : ∀ (r : Addr) (o : Obj) (cl : Value) (dd : Option Addr) (pn : List (Addr × Obj)), L2N.Zn cl dd o → (∃ fs, o.data = .fields fs) → PSs (X.suite r ((r, o) :: pn)) (b :: bs) (t r cl dd)) (tl : Clauses X hds more) :
      Clauses X (.ExceptHandler (some (.Name x p)) (some n) (b :: bs) p' :: hds) ((c, i, t) :: more)
section
variable {X : Cx} {pins : List (Addr × Obj)} {τ : L2.St} {G : Hp} {D : Ends}
/-- the exception r is on the ground, the state without it is known: the clauses take it -/
theorem taken {r : Addr} {B : Heap} {cl : Value} {dd : Option Addr} {sI s : Shared} (hN : X.N.Nodup) (J : Inv X pins τ G sI) (far : ∀ b o, sI.heap.get? b = some o → b ∉ frs X.stack → B.get? b = some o) (hs : X.stack = X.env :: X.outer) (hf : X.env.frame = some X.env.locals)
    (up : sI.heap.UpToSlots s.heap) (sos : s.os = sI.os) (sb : AllBare s.gens) (nr : G r = none) (fly : HandSPX.FlyingZ B (X.env :: X.outer) r (L2N.Zn cl dd) s.heap) :
    ∀ {hds : List ExceptHandler} {l : List (Value × Nat × Suite)}, Clauses X hds l → wCls X.K D l cl dd τ G → wpAny (model X.prog X.w) X.A (handleBy (.ref r) X.env hds) (SP X pins D) X.xe s := by
  have okX := J.ok
  have grounded : ∀ {h : Heap}, HandSPX.FlyingZ B (X.env :: X.outer) r (L2N.Zn cl dd) h → sI.heap.UpToSlots h → Inv X pins τ G { s with heap := h } := fun {h} fl u =>
    J.landed (s' := { s with heap := h }) far fl.1 u sos sb
  obtain ⟨o1, fs1, g1, z1, d1⟩ := fly.there
  have out : r ∉ frs (X.env :: X.outer) := fun m => by
    obtain ⟨_, o2, g2, nof⟩ := fly.2.2.1.mem m
    rw [g1] at g2
    cases g2
    exact nof _ d1
  have offL : r ≠ X.env.locals := fun q => out (List.mem_filterMap.mpr ⟨X.env, List.mem_cons_self, by rw [hf, q]⟩)
  have offF : r ∉ X.fs := fun m => by
    obtain ⟨en, hen, q⟩ := List.mem_filterMap.mp m
    exact out (List.mem_filterMap.mpr ⟨en, List.mem_cons_of_mem _ hen, q⟩)
  have J1 : Inv X pins τ G s := grounded (h := s.heap) fly up
  intro hds l hk
  induction hk with
  | rest _ => exact fun no => no.elim
  | @as_ x n c i t b bs p p' hds more at_ lo nm suite tl ih =>
    rintro ⟨yes, hy, onYes, onNo⟩
    have inS := J1.suite g1 d1 nr offL offF
    have ty : PySem.W.Looks (model X.prog X.w) s.heap (typeOf (.ref r)) cl := fun A' Q' E' s' st q => wpAny_typeOf_ref (st _ _ g1) (by rw [z1.1]; exact q)
    have asked := PySem.W.exm_one (M := model X.prog X.w) J1.kIn ty hy
    have named : ∀ {Q' : Value → Shared → Prop} {E' : Value → Shared → Prop}, Q' c s → wpAny (model X.prog X.w) (X.A.mark (some (.ref r))) (eval (.Name x p) X.env) Q' E' s := fun {Q' E'} q => by
      obtain ⟨gl, nd, way⟩ := nm
      rcases way with m | ⟨m, bt, nn⟩
      · exact ld_glob (X := X.suite r ((r, o1) :: (X.pn ++ pins))) inS gl m q nd
      · exact ld_blt (X := X.suite r ((r, o1) :: (X.pn ++ pins))) inS gl m bt q nn nd
    refine wpAny_handleBy_cons (codeAny_handlers_test (named (asked.here ?_))) (by intro q; cases q)
    cases yes with
    | false => exact ih (onNo rfl)
    | true =>
      refine codeAny_handlers_suite_as (HandSPX.lands_againZ fly fun h' fly' u' => ?_)
      obtain ⟨o2, fs2, g2, z2, d2⟩ := fly'.there
      have J2 := grounded fly' (up.trans u')
      refine store_ok (X := X.suite r ((r, o2) :: (X.pn ++ pins))) (v := .ref r) (J2.suite g2 d2 nr offL offF) hN at_ (.inl lo) rfl (fun s3 I3 => ?_) (.inr lo)
      have leave : ∀ {τ' : L2.St} {G' : Hp} {s4 : Shared} {Q' : Shared → Prop}, Inv (X.suite r ((r, o2) :: (X.pn ++ pins))) [] τ' G' s4 → (∀ s5, Inv X pins (τ'.set i none) G' s5 → Q' s5) →
          wpAny (model X.prog X.w) X.A (do bindName X.env n .none; unbindBehindTheSuite X.env n p') (fun _ s5 => Q' s5) X.xe s4 := fun {τ' G' s4 Q'} I4 q => gone_ok (I4.unsuite okX) hN at_ lo q
      refine wpAny_mono ((suite r o2 cl dd (X.pn ++ pins) z2 ⟨_, d2⟩).run [] s3 _ G _ I3 (onYes rfl r nr)) (fun w s4 done => ?_) (fun _ _ no => no.elim)
      cases w with
      | next =>
        obtain ⟨_, _, I4, q⟩ := done
        exact leave I4 fun s5 I5 => ⟨_, _, I5, q⟩
      | brk =>
        obtain ⟨_, _, I4, q⟩ := done
        exact leave I4 fun s5 I5 => ⟨_, _, I5, q⟩
      | cont =>
        obtain ⟨_, _, I4, q⟩ := done
        exact leave I4 fun s5 I5 => ⟨_, _, I5, q⟩
      | ret u =>
        obtain ⟨_, _, _, I4, rel, q⟩ := done
        exact leave I4 fun s5 I5 => ⟨_, _, _, I5, rel, q⟩
/-- try: body, then the clauses -/
theorem ps_tryCls {body : List Stmt} {h0 : ExceptHandler} {hds : List ExceptHandler} {l : List (Value × Nat × Suite)} {pos : Pos} {tb : WX → TS} (hs : X.stack = X.env :: X.outer) (hf : X.env.frame = some X.env.locals) (hN : X.N.Nodup)
    (hb : ∀ (W : WX) (pn : List (Addr × Obj)) (xe : Value → Shared → Prop), L2N.Takes (X.tr pn xe) W → PassesOwn (model X.prog X.w) X.A X.env xe → PSs (X.tr pn xe) body (tb W)) (hc : Clauses X (h0 :: hds) l) :
    PS X (.Try body (h0 :: hds) [] [] pos) (fun D σ H => tb (wCls X.K D l) D σ H) := by
  refine ⟨fun pins s σ H D I start => wpAny_Try_except ?_⟩
  have okX := I.ok
  have frames : X.A.frames = some (X.env :: X.outer) := by rw [okX.frames, hs]
  refine wpAny_mono ((hb (wCls X.K D l) (X.pn ++ pins) _ (fun u s' air => ?capt) PassesOwn.looking).run [] s σ H D (I.toTry _) start) (fun w s' done => ?_) (fun _ _ q => q)
  case capt =>
    obtain ⟨r, B, sI, _, τ, G, cl, dd, rfl, J, far, up, sky, nr, sos, sb, w⟩ := air
    have sky : Sky B (X.env :: X.outer) r (L2N.Zn cl dd) X.env.locals s'.heap := by rw [← hs]; exact sky
    exact L2N.Sky.land L2N.Zn.steady frames hf sky fun h1 fly u1 => taken (s := { s' with heap := h1 }) hN (J.ofTry okX) far hs hf (up.trans u1) sos sb nr fly hc w
  cases w with
  | next =>
    obtain ⟨_, _, I', q⟩ := done
    exact wpAny_execs_nil ⟨_, _, I'.ofTry okX, q⟩
  | brk =>
    obtain ⟨_, _, I', q⟩ := done
    exact ⟨_, _, I'.ofTry okX, q⟩
  | cont =>
    obtain ⟨_, _, I', q⟩ := done
    exact ⟨_, _, I'.ofTry okX, q⟩
  | ret u =>
    obtain ⟨_, _, _, I', rel, q⟩ := done
    exact ⟨_, _, _, I'.ofTry okX, rel, q⟩
end
end Le
set_option maxHeartbeats 1000000
/-! a, b = x, y where an exception is being handled -/
namespace Le
open PySem PySem.Spec PyProof.Rows L2 HotX
section
variable {prog : Program} {w : World} {A : Around} {E : Value → Shared → Prop} {s : Shared}
/-- a tuple's walk is over, an exception r being handled -/
theorem over_hot {it t r : Addr} {i : Nat} {items : Array Value} {Q : Option Value → Shared → Prop} (hot : HotAt A r s.heap) (nit : r ≠ it) (a : IsTupIter s.heap it t i) (b : IsTup s.heap t items) (e : items[i]? = none)
    (q : ∀ h', Heap.ExtBut it s.heap h' → Q none { s with heap := h' }) : wpAny (model prog w) A (pyNext (.ref it)) Q E s := by
  obtain ⟨ob, g, _, dd⟩ := id a
  obtain ⟨_, gt, _, _, dt⟩ := b
  obtain ⟨hh, o1, vs1, g1, d1, c1⟩ := hot
  unfold pyNext
  refine wpAny_bind (wpAny_attempt (wpAny_callSpecial?_slot (name := Str.ofString "__next__") a.typeIs slot_tupleiter_next (wpAny_call_entry slot_tupleiter_next a.typeIs entry_tupleiter_next ?_ (args_tupleiter_next _))))
  show wpAny _ _ (field (.ref it) 0 >>= _) _ _ s ; refine wpAny_bind (wpAny_field g dd (x := .ref t) rfl ?_)
  show wpAny _ _ (if (Value.ref t == Value.none) = true then _ else _) _ _ s ; rw [if_neg (by simp)]
  show wpAny _ _ (field (.ref it) 1 >>= _) _ _ s ; refine wpAny_bind (wpAny_field g dd (x := .int i 0) rfl ?_)
  show wpAny _ _ (seqItems? (.ref t) >>= _) _ _ s ; refine wpAny_bind (wpAny_seqItems gt dt ?_)
  simp only [Int.toNat_natCast, e]
  refine wpAny_bind (wpAny_rule (wpAny_bind (wpAny_setField g dd (by simp) ?_)))
  show wpAny _ _ (newExc (.type "StopIteration") [] >>= _) _ _ _ ; refine wpAny_bind ?_ ; simp only [newExc, newTuple]
  refine wpAny_bind (wpAny_newObj_type (wpAny_bind (m := firstArgMember _ _) (wpAny_of_eq (a := Value.none) (by first | rfl | (simp only [firstArgMember]; rfl)) (wpAny_newObj_type ?_ (by size_fits)))) (by size_fits))
  have kept : ∀ {u : Obj}, s.heap.get? r = some u → (s.heap.update it (Obj.mapFields (·.setIfInBounds 0 .none))).get? r = some u := fun z => (Heap.get?_update_other _ _ (Ne.symm nit)).trans z
  have g2 := Heap.get?_push_of_some { cls := .type "tuple", data := .seq #[] } (kept g1)
  refine raiseNew_hot ⟨hh, o1, vs1, Heap.get?_push_of_some _ g2, d1, c1⟩ (Nat.ne_of_lt (Heap.lt_size g2)) (Heap.get?_push_size _ rfl) rfl (by first | (simp; done) | (simp; omega) | (simp only [Array.size_append]; simp; omega)) ?_
  refine wpAny_bind (wpAny_isInstance (T := "StopIteration") (b := true) ⟨_, Heap.get?_update_self _ (Heap.get?_push_size _ rfl) rfl, rfl⟩ isSubtype_stop (wpAny_pure (q _ fun c u nc z => ?_)))
  have z1 : (s.heap.update it (Obj.mapFields (·.setIfInBounds 0 .none))).get? c = some u := (Heap.get?_update_other _ _ (Ne.symm nc)).trans z
  have z2 := Heap.get?_push_of_some { cls := .type "tuple", data := .seq #[] } z1
  rw [Heap.get?_update_other _ _ (Nat.ne_of_gt (Heap.lt_size z2))]
  exact Heap.get?_push_of_some _ z2
/-- a tuple taken apart, an exception r being handled -/
theorem apart_hot {t r : Addr} {items : Array Value} {Q : List Value → Shared → Prop} (hot : HotAt A r s.heap) (b : IsTup s.heap t items) (q : ∀ h', Heap.ExtBut s.heap.objs.size s.heap h' → Q items.toList { s with heap := h' }) :
    wpAny (model prog w) A (unpackItems (.ref t) items.size none) Q E s := by
  obtain ⟨hh, o1, vs1, g1, d1, c1⟩ := hot
  have nt : t ≠ s.heap.objs.size := let ⟨_, g, _⟩ := b; Nat.ne_of_lt (Heap.lt_size g)
  have nr : r ≠ s.heap.objs.size := Nat.ne_of_lt (Heap.lt_size g1)
  unfold unpackItems notIterableAtAll
  refine wpAny_bind (wpAny_bind (wpAny_specialOf b.typeIs slot_tuple_iter.lookup (wpAny_pure ?_)))
  simp only [Bool.false_eq_true, if_false]
  refine wpAny_bind (wpAny_holding (iter_tuple b (wpAny_bind (wpAny_holding (draw_tuple nt items.size 0 _ _ ⟨_, Heap.get?_push_size _ rfl, rfl, rfl⟩ (b.push _) (by omega) fun h1 a1 sb => ?_)))))
  have whole : (items.toList.drop 0).take items.size = items.toList := by rw [List.drop_zero]; exact List.take_of_length_le (by simp)
  rw [whole, if_neg (by simp)]
  have g2 : h1.get? r = some o1 := sb.extBut _ _ nr (Heap.get?_push_of_some _ g1)
  refine wpAny_bind (wpAny_holding (over_hot ⟨hh, o1, vs1, g2, d1, c1⟩ nr a1 ((b.push _).extBut sb.extBut nt) (by simp) fun h2 x2 => ?_))
  simp only [Option.isSome_none, Bool.false_eq_true, if_false]
  exact wpAny_pure (q h2 fun c u nc z => x2 c u nc (sb.extBut c u nc (Heap.get?_push_of_some _ z)))
end
/-- a, b = x, y with plain local names, an exception being handled -/
theorem ps_parH {X : Cx} {i j : Nat} {x y : Str} {a b : Expr} {ta : TA} {px py pt pos : Pos} {kt k2 : Nat} {pt2 : Pos} (hot : L2H.HotC X) (hN : X.N.Nodup) (hi : X.N[i]? = some x) (hj : X.N[j]? = some y) (ne : i ≠ j) (hx : X.env.scope.names.lookup x = some .local) (hy : X.env.scope.names.lookup y = some .local) (ha : PA X [a, b] ta)
    (sw : swappedStores [.Tuple [.Name x px, .Name y py] kt pt] (.Tuple [a, b] k2 pt2) X.env = pure (some [x, y])) (sole : swapsWithSole [.Tuple [.Name x px, .Name y py] kt pt] (.Tuple [a, b] k2 pt2) pos.line X.env = pure false := by rfl) :
    PS X (.Assign [.Tuple [.Name x px, .Name y py] kt pt] (.Tuple [a, b] k2 pt2) pos) (tPar i j ta) := by
  refine ⟨fun pins s σ H D I h => ?_⟩
  rw [exec_Assign_arm]
  refine wpAny_bind (wpAny_standAt ?_)
  rw [sole]
  refine wpAny_bind (wpAny_pure ?_)
  rw [if_neg (by decide)]
  refine wpAny_bind (Tuple_ (thn (ha.run _ pins s σ H _ I h) fun us s1 ⟨vs, H1, I1, r1, v, w, ev, q⟩ => ?_))
  subst ev
  obtain ⟨u1, u2, eu, rv, rw'⟩ : ∃ u1 u2, us = [u1, u2] ∧ RelV v u1 ∧ RelV w u2 := by
    cases r1 with
    | cons p1 more =>
      cases more with
      | cons p2 none_ =>
        cases none_
        exact ⟨_, _, rfl, p1, p2⟩
  subst eu
  refine wpAny_newObj_type ?_ (by show 2 ≤ sizeLine; decide)
  have kp : ∀ c o, s1.heap.get? c = some o → (s1.heap.push { cls := .type "tuple", data := .seq [u1, u2].toArray }).get? c = some o := fun c o z => Heap.get?_push_of_some _ z
  have I2 : Inv X pins σ H1 { s1 with heap := s1.heap.push { cls := .type "tuple", data := .seq [u1, u2].toArray } } := I1.kept (t' := s1.toks) kp
  obtain ⟨r, hr⟩ := hot.at I2
  rw [sw]
  refine wpAny_bind (wpAny_pure ?_)
  show wpAny (model X.prog X.w) X.A (rule "assign.swapped-stores" >>= fun _ => unpackItems (.ref s1.heap.objs.size) 2 none >>= fun items => assignInOrder [fun v => bindName X.env y v, fun v => bindName X.env x v] items.reverse >>= fun _ => pure Flow.next) _ _ _
  refine wpAny_bind (wpAny_rule (wpAny_bind (apart_hot (items := #[u1, u2]) hr (IsTup.new s1.heap _) fun h' ext => ?_)))
  have I3 := I2.kept (h' := h') (t' := s1.toks) fun c o z => ext c o (Nat.ne_of_lt (Heap.lt_size z)) z
  refine wpAny_bind ?_
  show wpAny _ _ (assignInOrder [fun v => bindName X.env y v, fun v => bindName X.env x v] [u2, u1]) _ _ _
  refine assignInOrder_cons (wpAny_bindName (store_ok I3 hN hj (.inl hy) rw' (fun s2 I4 => ?_) (.inr hy)))
  refine assignInOrder_cons (wpAny_bindName (store_ok I4 hN hi (.inl hx) rv (fun s3 I5 => assignInOrder_nil (wpAny_pure ?_)) (.inr hx)))
  rw [List.set_comm _ _ (Ne.symm ne)] at I5
  exact ⟨_, H1, I5, q⟩
end Le
set_option maxHeartbeats 1000000
/-! C(e, ..) of an own class of errors with an own __init__, nothing being handled: its context is None -/
namespace Le
open PySem PySem.Spec PyProof.Rows L2
section
variable {X : Cx} {CX : CXT} {x : Str} {e : Expr} {es : List Expr} {ta : TA} {p pos : Pos} {C fI : Addr} {k : Nat} {fd : FuncData} {ps : List Str} {sp : Sp}
theorem pmk_calm (T : OexC X.K C) (ini : PySem.W.findIn X.K (.ref C) "__init__" = some (some (.ref fI))) (fun_ : PySem.W.typeIn X.K (.ref fI) = some (.type "function")) (F1 : FnOk X.prog X.w X.K X.mg X.base CX k fI fd ps sp) (hr : Room (k + 1) X.A) (hb : Binds X.K fd ps [])
    (quiet : Passes CX X fun _ _ _ => False) (gl : Gl X x) (gv : X.mg x = some (.ref C)) (ha : PA X (e :: es) ta) (nd : (x == ("__debug__" : Str)) = false := by decide) (st : starEach (e :: es) X.env = (false, eval e X.env) :: starEach es X.env := by rfl)
    (pl : (backTo pos (starEach es X.env)).any (·.1) = false := by rfl) : L2N.PMk X (.Call (.Name x p) (e :: es) [] pos) (tMkO C sp [] ta) := by
  intro pins s σ H Q I h
  obtain ⟨_, _, _, _, bm, _, _, _, _, _, _, _, _, _, _, cls, has⟩ := T.cls
  refine wpAny_Call_Name_kw (ld_glob I gl gv (PySem.W.callWith_K (h₀ := X.base) I.ok.mod.kin T.kC (thn (ha.run pos pins s σ H _ I h) fun us s1 ⟨vs, H1, I1, rel, few, goal⟩ => ⟨I1.kIn, ?_⟩) st pl) nd)
  obtain ⟨hp, g, dr, tk, os⟩ := s1
  obtain ⟨n, en⟩ : ∃ n, n = hp.objs.size + 1 := ⟨_, rfl⟩
  obtain ⟨h1, eh1⟩ : ∃ h1, h1 = (hp.push (PySem.W.kdv_tup us)).push (PySem.HandSPX.excO C hp.objs.size) := ⟨_, rfl⟩
  have up1 : hp.objs.size ≤ n := by rw [en]; exact Nat.le_succ _
  have fresh : H1 n = none := I1.hok.fresh up1
  have asked := goal n fresh
  rw [List.append_nil] at asked
  have kept : ∀ b o, hp.get? b = some o → h1.get? b = some o := fun b o z => by rw [eh1]; exact Heap.get?_push_of_some _ (Heap.get?_push_of_some _ z)
  have there : h1.get? n = some (PySem.HandSPX.excO C hp.objs.size) := by rw [eh1, en]; heap_get
  have I2 : Inv X pins σ (upd H1 n (exo n C none)) ⟨h1, g, dr, tk, os⟩ := I1.laid (t' := tk) (a := n) (o := exo n C none) (h' := h1) kept up1 (exo_ok there)
  have rel2 : Vals (V.ref n :: vs) (Value.ref n :: us) := .cons rfl rel
  have cnt : (Value.ref n :: us ++ []).length = ps.length := by rw [List.append_nil, ← rel2.length]; exact F1.len _ _ _ _ asked
  have b2 := hb _ (Value.ref n :: us) I2.kIn cnt
  rw [List.append_nil] at b2
  have small : us.length ≤ sizeLine := by rw [← Paired.length rel, sizeLine_eq]; omega
  show wpAny _ _ (call (.ref C) us) _ _ _
  have run := F1.run (X.A.under (.builtin "type.__call__" ⟨.ref C :: us, []⟩)) X.stack _ _ ⟨Value.ref n :: us, []⟩ (Value.ref n :: us) _ _ (fun _ _ _ => False) (hr.make C us []) (I2.env0.make C us []) b2 rel2 asked
  subst en
  subst eh1
  refine wpAny_call (PySem.HandSPX.call_own F.excBase_ValueError (fun Y => PySem.HandSPX.refsVE_contains Y bm has) (I1.kIn _ _ cls) (PySem.W.looks_findIn I1.kIn ini) (fun self => PySem.W.bind_fn I1.kIn self fun_) small (codeAny_mono run fun r s' q => ?_))
  cases r with
  | error er => exact quiet pins σ _ _ er s' I2 q
  | ok fl =>
    cases fl with
    | next => exact q.elim
    | brk => exact q.elim
    | cont => exact q.elim
    | ret u =>
      obtain ⟨v, H2, os2, bare2, un2, hok2, rv, ev, d, fs, ea, ed, hd1, q2⟩ := q
      subst ev
      obtain ⟨h2, g2, d2, t2, os'⟩ := s'
      obtain ⟨t0, G, J, kG, ge, hoe, na⟩ := mk_end0 (d2 := d2) (t2 := t2) I1 up1 kept un2 hok2 os2 bare2 ea ed hd1
      exact ⟨rv, hp.objs.size + 1, _, _, ⟨G, g2, d2, t2, os'⟩, _, .ref C, some d, rfl, J, kG, ge, hoe, ⟨rfl, rfl, fun vs hv => by cases hv; rfl⟩, rfl, rfl, na, rfl, bare2, raises_own T.exC T.tyC, q2⟩
end
end Le
set_option maxHeartbeats 1000000
/-! a def called with a lambda that may raise; of the exception it is kept that its context is None -/
namespace Le
open PySem PySem.Spec PyProof.Rows L2 LamX
/-- the context of the lambda's body -/
def lamX (X : Cx) (A : Around) (outer : List Env) (s : Shared) (H : Hp) (E : XK) (scope : Scope) (f c : Addr) : Cx :=
  (lamCx X A outer s H (fun _ _ _ => False) scope f c).wish fun u s' => wpAny (model X.prog X.w) (A.deeper (lamEnv X scope s.heap.objs.size f c)) (leaving (lamEnv X scope s.heap.objs.size f c) u) (fun _ s2 => L2N.CX X.prog X.w outer H s E u s2) (fun u2 s2 => L2N.CX X.prog X.w outer H s E u2 s2) s'
section
variable {X : Cx} {pins : List (Addr × Obj)} {σ : L2.St} {H HZ : Hp} {s s1 : Shared}
/-- act(), act the lambda, in the def that got it -/
theorem pe_actN {CXg : CXT} {Eg : XK} {Ng : List Str} {qg : Str} {sg : Scope} {g f c : Addr} {cdg pm ct : Value} {params : Arguments} {body : Expr} {scope : Scope} {k i : Nat} {a : Str} {pn : List (Addr × Obj)} {xe : Value → Shared → Prop} {W : WX} {t : XK → TE} {p1 p2 : Pos}
    (I : Inv X pins σ H s) (L : LamS X.env.scope scope) (there : s.heap.get? f = some (PySem.W.kla_obj "<lambda>" (X.env.qual ++ "<lambda>") params body scope (cloFrom X.env.cells scope.names []) pm c ct)) (nf : H f = none) (nfr : f ∉ frs X.stack)
    (noArgs : bindArgs (PySem.W.kla_fn "<lambda>" (X.env.qual ++ "<lambda>") params body scope (cloFrom X.env.cells scope.names []) pm (.ref c) ct) ⟨[], []⟩ = pure []) (tk : L2N.Takes ((cxOf CXg X.prog X.w X.K X.mg X.base Ng qg sg g cdg X.A X.stack s H Eg).tr pn xe) W)
    (hr : Room (k + 1) (X.A.deeper (envOfC qg sg s.heap.objs.size g cdg))) (inner : ∀ (A : Around) (outer : List Env) (s : Shared) (H : Hp) (E : XK), Room k (A.deeper (lamEnv X scope s.heap.objs.size f c)) → PE (lamX X A outer s H E scope f c) body (t E))
    (hN : Ng[i]? = some a) (hv : Vis sg a) (n1 : (a == ("__debug__" : Str)) = false := by decide) (n2 : (a == ("__classdict__" : Str)) = false := by decide) :
    PE ((cxOf CXg X.prog X.w X.K X.mg X.base Ng qg sg g cdg X.A X.stack s H Eg).tr pn xe) (.Call (.Name a p1) [] [] p2) (fun τ G Q => τ[i]? = some (some (.ref f)) ∧ G c = some (CodeO c (X.env.qual ++ "<lambda>")) ∧ t (fun cl d G' => W cl d τ G') σ G Q) := by
  refine ⟨fun pz sz τ G Q IZ ⟨hslot, hcode, goal⟩ => wpAny_Call_Name_kw (thn ((pe_var (pos := p1) (i := i) hN hv n1 n2).run pz sz τ G (fun v G1 => v = .ref f ∧ G1 = G) IZ ⟨.ref f, hslot, rfl, rfl⟩) fun u s1 ⟨v, G1, I1, rel, ev, eG⟩ => ?_)⟩
  subst ev
  rw [eG] at I1
  obtain rfl : u = Value.ref f := rel
  have still := I1.base.keep f _ there nf nfr (fun z => nomatch (show f ∈ ([] : List Addr) from z))
  have grown : Un (frs X.stack) [] H G s.heap s1.heap := I1.base
  obtain ⟨⟨oc, fs, t, g1, g2, g3⟩, _, _⟩ := I1.hok c _ hcode
  let E : XK := fun cl d G' => W cl d τ G'
  have ran : codeAny (model X.prog X.w) (X.A.deeper (envOfC qg sg s.heap.objs.size g cdg)) (.call (.ref f) ⟨[], []⟩) (CR (L2N.CX X.prog X.w) (envOfC qg sg s.heap.objs.size g cdg :: X.stack) X.prog X.w G s1 Q E) s1 := by
    refine PySem.W.kla_callFunE hr.depth still rfl L.co L.gen rfl ⟨c, oc, fs, t, rfl, g1, g2, g3⟩ ?_
    rw [noArgs]
    refine wpAny_pure (wpAny_newFunctionEnv (fun y hy => (L.own y hy).2) (fun y hy => absurd hy (by simp)) (fun h1 ns but => ⟨I1.nolimit.fresh _ but, ?_⟩) L.kind)
    have kept : ∀ b o, s1.heap.get? b = some o → h1.get? b = some o := fun b o z => but.extBut b o (Nat.ne_of_lt (Heap.lt_size z)) (Heap.get?_push_of_some _ z)
    have J := (lam_start2 (tk := s1.toks + ([] : List (Str × Value)).length) (E := fun _ _ _ => False) (c' := c) (f := f) I L I1.env0 hr.hd grown ns kept).wish fun u s' => wpAny (model X.prog X.w) ((X.A.deeper (envOfC qg sg s.heap.objs.size g cdg)).deeper (lamEnv X scope s1.heap.objs.size f c)) (leaving (lamEnv X scope s1.heap.objs.size f c) u)
      (fun _ s2 => L2N.CX X.prog X.w (envOfC qg sg s.heap.objs.size g cdg :: X.stack) G s1 E u s2) (fun u2 s2 => L2N.CX X.prog X.w (envOfC qg sg s.heap.objs.size g cdg :: X.stack) G s1 E u2 s2) s'
    refine PySem.W.kla_codeExpr (wpAny_mono ((inner _ _ s1 G E (hr.deeper _)).run [] _ _ G Q J goal) (fun v s' done => ?_) fun _ _ z => z)
    obtain ⟨v', G', J', rv, q⟩ := done
    exact ⟨v', G', J'.os, J'.bare, J'.base, J'.hok, rv, q⟩
  refine PySem.W.callWith_F0 ⟨_, _, _, _, still⟩ (wpAny_call (codeAny_mono ran fun r s' done => ?_))
  · cases r with
    | error e => exact tk e s' (L2N.XE.of_call I1 (fun _ _ _ h => h) done)
    | ok fl =>
      cases fl with
      | ret u => exact I1.after done
      | next => exact done.elim
      | brk => exact done.elim
      | cont => exact done.elim
end
end Le
set_option maxHeartbeats 1000000
/-! heard(lambda: ..): what the def that hears makes of the lambda's reading -/
namespace Le
open PySem PySem.Spec PyProof.Rows L2 LamX
/-- the context of the def at g that hears, called in X at s -/
abbrev heardCx (X : Cx) (Ng : List Str) (x : Str) (sg : Scope) (g : Addr) (cdg : Value) (s : Shared) (H : Hp) : Cx := cxOf C8.CX0 X.prog X.w X.K X.mg X.base Ng x sg g cdg X.A X.stack s H C8.E0
abbrev Act := XK → Hp → VK → Prop
def Hears (X : Cx) (Ng : List Str) (x : Str) (sg : Scope) (g : Addr) (cdg : Value) (bg : List Stmt) (a q : Str) (k : Nat) (TT : Act → Hp → VK → Prop) : Prop :=
  ∀ (f c : Addr) (s : Shared) (H : Hp) (Q : VK) (act : Act), Room k (X.A.deeper (envOfC x sg s.heap.objs.size g cdg)) →
    (∀ (W : WX) (pn : List (Addr × Obj)) (xe : Value → Shared → Prop) (p1 p2 : Pos), L2N.Takes ((heardCx X Ng x sg g cdg s H).tr pn xe) W →
      PE ((heardCx X Ng x sg g cdg s H).tr pn xe) (.Call (.Name a p1) [] [] p2) (fun τ G Q' => τ[0]? = some (some (.ref f)) ∧ G c = some (CodeO c q) ∧ act (fun cl d G' => W cl d τ G') G Q')) →
    H c = some (CodeO c q) → TT act H Q → ∃ t, PSs (heardCx X Ng x sg g cdg s H).nox bg t ∧ t { nx := fun _ H' => Q .non H', rt := Q } (L2.start Ng [.ref f]) H
section
variable {X : Cx}
/-- x(lambda: body) -/
theorem pe_heard {T : List (Addr × Str)} {TT : Act → Hp → VK → Prop} {x a : Str} {g c P : Addr} {k : Nat} {pg : Arguments} {bg : List Stmt} {sg : Scope} {dV kV doc pm cdv ct oc : Value} {an od : Option Addr} {osl : Array (Option Value)} {Ng : List Str} {params : Arguments} {body : Expr} {scope : Scope} {t : XK → TE} {p lp pos : Pos}
    (gl : Gl X x) (gv : X.mg x = some (.ref g)) (kp : PySem.W.keepIn X.K (.ref g) = true) (lk : X.K.lookup g = some ⟨oc, od, .func (PySem.W.fnOf x x pg bg sg dV kV doc pm an cdv ct), osl⟩) (cg : PySem.W.codeIn X.K cdv x = true)
    (bi : L2.Binds X.K (PySem.W.fnOf x x pg bg sg dV kV doc pm an cdv ct) [a] []) (Sg : FnScope Ng [a] sg) (hNg : Ng[0]? = some a) (va : Vis sg a) (hears : Hears X Ng x sg g cdv bg a (X.env.qual ++ "<lambda>") (k + 1) TT) (TB : TabB X.base X.mg c P) (code : X.env.code = .ref c)
    (inT : (P, X.env.qual ++ "<lambda>") ∈ T) (one : ∀ y ∈ T, y.1 = P → y.2 = X.env.qual ++ "<lambda>") (hr : Room (k + 2) X.A) (L : LamS X.env.scope scope) (nodef : defaultsOf params X.env = ([], []))
    (noArgs : ∀ (q : Str) (cl : List (Str × Addr)) (pm cv ctv : Value), bindArgs (PySem.W.kla_fn "<lambda>" q params body scope cl pm cv ctv) ⟨[], []⟩ = pure [])
    (inner : ∀ (A : Around) (outer : List Env) (s : Shared) (H : Hp) (E : XK) (f c' : Addr), Room k (A.deeper (lamEnv X scope s.heap.objs.size f c')) → PE (lamX X A outer s H E scope f c') body (t E))
    (n0 : (x == ("__debug__" : Str)) = false := by decide) (n1 : (a == ("__debug__" : Str)) = false := by decide) (n2 : (a == ("__classdict__" : Str)) = false := by decide) :
    PE X (.Call (.Name x p) [.Lambda params body scope lp] [] pos) (tLam T TT t) := by
  refine ⟨fun pins s σ H Q I ⟨tabs, goal⟩ => wpAny_Call_Name_kw (ld_glob I gl gv (PySem.W.callWith_K (h₀ := X.base) I.ok.mod.kin kp ?_ (by rfl) (by rfl)) n0)⟩
  show wpAny _ _ (spliced ((false, eval (.Lambda params body scope lp) X.env) :: backTo pos (starEach [] X.env))) _ _ s
  refine Calls.spliced_cons (lam_make2 I TB code inT one tabs nodef (L.has I.ok) fun f c' pm' ctv H1 s1 I1 eN T1 there nf nfr co => Calls.spliced_nil ⟨I1.kIn, ?_⟩)
  have ran : codeAny (model X.prog X.w) X.A (.call (.ref g) ⟨[.ref f], []⟩) (CR C8.CX0 X.stack X.prog X.w H1 s1 Q C8.E0) s1 :=
    run_ofS (N := Ng) (ps := [a]) (us := [.ref f]) (vs := [.ref f]) lk cg Sg hr I1.env0 (bi s1 [.ref f] I1.kIn rfl) (.cons rfl .nil) rfl fun hr1 =>
      let ⟨t1, ht, hq⟩ := hears f c' s1 H1 Q (fun E G Q' => t E σ G Q') hr1 (fun W pn xe p1 p2 tk => pe_actN (i := 0) (t := t) I1 L there nf nfr (noArgs _ _ _ _ _) tk hr1 (fun A outer s H E hr2 => inner A outer s H E f c' hr2) hNg va n1 n2) co (goal H1 eN T1)
      ⟨t1, ht.nox, hq⟩
  refine wpAny_call (codeAny_mono ran fun r s2 done => ?_)
  cases r with
  | error e => exact (show False from done).elim
  | ok fl =>
    cases fl with
    | ret u => exact I1.after done
    | next => exact done.elim
    | brk => exact done.elim
    | cont => exact done.elim
end
end Le
/-! the parts of a loop, put in order -/
namespace Wb
open PySem L2 WbMin WbS Lz
abbrev sOrRo : Stmt := top 36
abbrev sOrTu : Stmt := top 37
abbrev sOrYe : Stmt := top 38
section
variable {κ : Type} [DecidableEq κ]
theorem valV_zip_none : ∀ {ks : List κ} {vs : List V} {k : κ}, k ∉ ks → valV (ks.zip vs) k = none
  | [], _, _, _ => rfl
  | _ :: _, [], _, _ => rfl
  | a :: ks, v :: vs, k, h => by
    rw [List.zip_cons_cons, valV_neg (fun e => h (by rw [← e]; exact List.mem_cons_self))]
    exact valV_zip_none fun q => h (List.mem_cons_of_mem _ q)
theorem valV_zip_get : ∀ {ks : List κ} {vs : List V} {i : Nat} {k : κ} {v : V}, ks.Nodup → ks[i]? = some k → vs[i]? = some v → valV (ks.zip vs) k = some v
  | [], _, _, _, _, _, h, _ => nomatch h
  | _ :: _, [], _, _, _, _, _, h => nomatch h
  | a :: ks, v :: vs, 0, k, w, _, h, e => by
    cases h
    cases e
    rw [List.zip_cons_cons, valV_pos rfl]
  | a :: ks, v :: vs, i + 1, k, w, nd, h, e => by
    have n := List.nodup_cons.mp nd
    rw [List.zip_cons_cons, valV_neg (fun z => n.1 (by rw [show a = k from z]; exact List.mem_of_getElem? h))]
    exact valV_zip_get n.2 h e
theorem putK_zip {ks : List κ} {vs : List V} {k : κ} {v : V} (h : k ∉ ks) (l : ks.length = vs.length) : putK (ks.zip vs) k v = (ks ++ [k]).zip (vs ++ [v]) := by
  rw [putK_new v (valV_zip_none h), List.zip_append l] <;> rfl
end
theorem un2 {k : Nat} {A : Around} (r : Room k A) : A.units + 1 < cLine := by have := r.un; omega
/-- keys of a dict -/
def kk (p : Str × Str) : List Key := [.inr p.1, .inr p.2]
theorem kk_inj {p q : Str × Str} (h : kk p = kk q) : p = q := by
  cases p
  cases q
  injection h with h1 h2
  injection h2 with h2 _
  injection h1 with h1
  injection h2 with h2
  dsimp only at h1 h2
  subst h1
  subst h2
  rfl
theorem nodup_kk {ps : List (Str × Str)} (h : ps.Nodup) : (ps.map kk).Nodup := List.Pairwise.map _ (fun _ _ n e => n (kk_inj e)) h
theorem it_go {J : It} {n : Nat} {G : Hp → Prop} {Y : Nat → Hp → V → Hp → Prop} (w : Walk J n G Y) (Pv : Nat → Hp → Prop) {H0 : Hp} {Qd : Hp → Prop} {body : V → Hp → (Hp → Prop) → Prop} (h0 : Pv 0 H0) (hl : ∀ i H, i ≤ n → Pv i H → G H)
    (hs : ∀ i x H H', i < n → Pv i H → Y i H x H' → body x H' (Pv (i + 1))) (hd : ∀ H, Pv n H → Qd H) :
    ∃ W : Nat → Nat → Hp → Prop, (∃ m, W 0 m H0) ∧ ∀ i m H, W i m H → (J.stop i H ∧ Qd H) ∨ (J.go i H ∧ ∃ Nx : Hp → Prop, (∀ H', Nx H' → ∃ m', m' < m ∧ W (i + 1) m' H') ∧ ∀ x H', J.yld i H x H' → body x H' Nx) := by
  refine ⟨fun i m H => m = n - i ∧ i ≤ n ∧ Pv i H, ⟨n, by simp, Nat.zero_le _, h0⟩, ?_⟩
  rintro i m H ⟨rfl, hi, p⟩
  have q := hl i H hi p
  by_cases hlt : i < n
  · exact .inr ⟨w.goes i H hlt q, Pv (i + 1), fun H' p' => ⟨n - (i + 1), by omega, rfl, hlt, p'⟩, fun x H' y => hs i x H H' hlt p (w.yields i H x H' hlt q y)⟩
  · have e : i = n := by omega
    subst e
    exact .inl ⟨w.stops H q, hd H p⟩
theorem none_of_same {H H' : Hp} {l : Addr} (s : Same H H') (n : H' l = none) : H l = none := by
  cases e : H l with
  | none => rfl
  | some o =>
    rw [s _ _ e] at n
    cases n
theorem not_taken {α β : Type} [DecidableEq α] {f : α → β} (inj : ∀ {a b}, f a = f b → a = b) {l : List α} {i : Nat} {x : α} (nd : l.Nodup) (h : l[i]? = some x) : f x ∉ (l.take i).map f := fun m => by
  obtain ⟨q, hq, e⟩ := List.mem_map.mp m
  exact take_nd nd h (inj e ▸ hq)
theorem take_snoc_map {α β : Type} {f : α → β} {l : List α} {i : Nat} {x : α} (h : l[i]? = some x) : (l.take (i + 1)).map f = (l.take i).map f ++ [f x] := by
  rw [List.take_add_one, h, List.map_append] <;> rfl
/-- bs: the rows by state and sign -/
def RowsBy (st : List Str) (sg : List Nat) (ks : List (Str × Str)) (as bs : List Addr) : Prop := bs.length = st.length * sg.length ∧
  ∀ (i j : Nat) (z : Str) (c : Nat), st[i]? = some z → sg[j]? = some c → ∃ (m : Nat) (a : Addr), ks[m]? = some (z, S [c]) ∧ as[m]? = some a ∧ bs[i * sg.length + j]? = some a
def spOrRo : Sp := fun vs H Q _ => ∃ (y t : Addr) (sg : List Nat) (as bs : List Addr) (rw : List Row) (st : List Str), vs = [.ref y, .str (S sg), .ref t] ∧ H y = some (.tup (as.map V.ref)) ∧ Tups H as (rw.map Row.v) ∧ H t = some (.tup (st.map V.str)) ∧ (rw.map Row.k).Nodup ∧ rw.length ≤ 24 ∧
  RowsBy st sg (rw.map Row.k) as bs ∧ bs.length ≤ 24 ∧ ∀ r H', H r = none → Same H H' → H' r = some (.tup (bs.map V.ref)) → Q (.ref r) H'
section
variable {P : Program} {w : World} {K : PySem.W.Frag} {mg : Str → Option Value} {base : Heap} {f : Addr} {fd : FuncData}
abbrev NOR : List Str := ["rows", "signs", "states", "found", "row", "state", "sign"]
theorem scOR : FnScope NOR ["rows", "signs", "states"] (defScope sOrRo) := ⟨rfl, rfl, rfl, by decide +kernel, rfl, by decide +kernel, by decide +kernel⟩
set_option maxHeartbeats 0 in
theorem ok_orro (F : Fun K "ordered_rows" "ordered_rows" sOrRo f fd) (mT : mg "tuple" = none) : FnOk P w K mg base CX0 1 f fd ["rows", "signs", "states"] spOrRo := by
  refine F.ok scOR (fun vs H Q E h => ?_) (fun cdv A outer s H vs Q E hr h => ?_)
  · obtain ⟨y, t, sg, as, bs, rw, st, rfl, _⟩ := h
    rfl
  · obtain ⟨y, t, sg, as, bs, tn, st, rfl, hy, hT, ht, nd, small, R, bl, k⟩ := h
    have len : as.length = tn.length := by rw [hT.length, List.length_map]
    refine ⟨_, pss_cons (ps_set (i := 3) scOR.nd rfl (.inr rfl) (pe_dcT (own := [("row", 4)]) (g := gName 4) (tt := tYes) rfl (un2 hr) scOR.nd (pi_tup (pv 0)) (blkOk_by (N := NOR) (sc := defScope sOrRo) (by decide +kernel)) (fun _ _ _ _ _ => pg_name (i := 4) scOR.nd rfl (.inl rfl)) (fun _ _ _ _ _ => pts_nil)
        (fun _ _ _ _ _ => pe_slice (show SlR _ (rSlT K) from sl_tup) (pv 4) po_none (po_some pe_int)) (fun _ _ _ _ _ => pv 4)))
      (pss_one (ps_ret (pe_callTy call_tuple_of (by rfl) mT (by decide +kernel) (pa_cons
      (pe_lc2 (own := [("state", 5), ("sign", 6)]) (vs1 := [6]) (g := gName 5) (g1 := gName 6) (tt := tYes) (tt1 := tYes) rfl scOR.nd (pi_tup (pv 2)) (blkOk_by (N := NOR) (sc := defScope sOrRo) (by decide +kernel)) (by decide) (fun _ _ _ _ _ => pg_name (i := 5) scOR.nd rfl (.inl rfl)) (fun _ _ _ _ _ => pts_nil)
        (fun _ _ _ _ _ => pi_str (pv 1)) (fun _ _ _ _ _ => pg_name (i := 6) scOR.nd rfl (.inl rfl)) (fun _ _ _ _ _ => pts_nil) (fun _ _ _ _ _ => pe_dget (un2 hr) (pv 3) (pe_tup (pa_cons (pv 5) (pa_cons (pv 6) pa_nil))) (fun _ _ => rfl))) pa_nil)))), ?_⟩
    refine ⟨_, rfl, y, rfl, ⟨_, SqT.of hy⟩, fun D hD => dt_it (walk_tup (xs := as.map V.ref)) (fun i H3 => H3 D = some (.dT ((((tn.map Row.k).take i).map kk).zip ((as.take i).map V.ref))) ∧ Same H H3) ⟨upd_same, Same.put (Same.refl H) hD⟩ (fun _ _ _ h => SqT.of (h.2 _ _ hy)) ?_ ?_⟩
    · rintro i x H3 H3' hi ⟨h1, h2⟩ ⟨rfl, hx⟩
      rw [List.getElem?_map] at hx
      obtain ⟨r, hz, rfl⟩ := Option.map_eq_some_iff.mp hx
      rw [List.length_map] at hi
      have hi' : i < tn.length := by omega
      have hr' : tn[i]? = some tn[i] := List.getElem?_eq_getElem hi'
      have hk' : (tn.map Row.k)[i]? = some tn[i].k := by rw [List.getElem?_map, hr'] <;> rfl
      have hv := (hT.same h2).get hz (by rw [List.getElem?_map, hr'] <;> rfl)
      have lz : (((tn.map Row.k).take i).map kk).length = ((as.take i).map V.ref).length := by
        rw [List.length_map, List.length_map, List.length_take, List.length_take, List.length_map, len]
      refine ⟨rfl, _, rfl, _, rfl, r, _, rfl, SqT.of hv, fun q => absurd (show HT.sIx 4 4 (some 2) = 4 from q.2) (by decide), fun u hu => ?_⟩
      have s5 := Same.put (o := .tup (cutV (Row.v tn[i]) none (some 2))) (Same.refl H3') hu
      refine ⟨_, rfl, _, kk tn[i].k, u, rfl, upd_same, s5 _ _ h1, ?_, ?_, Same.new' (h2.trans s5) hD⟩
      · rw [List.length_zip, List.length_map, List.length_map, List.length_take, List.length_take, sizeLine_eq]
        omega
      · rw [upd_same, putK_zip (not_taken kk_inj nd hk') lz, take_snoc_map hk', take_snoc_map hz]
    · rintro H3 ⟨h1, h2⟩
      rw [List.length_map, List.take_length, List.take_of_length_le (by rw [List.length_map]; omega)] at h1
      have ht3 := h2 _ _ ht
      obtain ⟨lb, R⟩ := R
      refine ⟨_, rfl, t, rfl, ⟨_, SqT.of ht3⟩, fun D2 hD2 => it_go (walk_tup (xs := st.map V.str)) (fun i H4 => H4 D2 = some (.lst ((bs.take (i * sg.length)).map V.ref)) ∧ Same H3 H4) ⟨by rw [Nat.zero_mul]; exact upd_same, Same.put (Same.refl H3) hD2⟩ (fun _ _ _ h => SqT.of (h.2 _ _ ht3)) ?_ ?_⟩
      · rintro i x H4 H4' hi ⟨g1, g2⟩ ⟨rfl, hx⟩
        rw [List.getElem?_map] at hx
        obtain ⟨z, hz, rfl⟩ := Option.map_eq_some_iff.mp hx
        refine ⟨rfl, _, rfl, _, rfl, it_go walk_str (fun j H5 => H5 D2 = some (.lst ((bs.take (i * sg.length + j)).map V.ref)) ∧ Same H3 H5) ⟨g1, g2⟩ (fun _ _ _ _ => trivial) ?_ ?_⟩
        · rintro j x H5 H5' hj ⟨e1, e2⟩ ⟨rfl, c, hc, rfl⟩
          have hc' : sg[j]? = some c := by simpa [S] using hc
          obtain ⟨m, a, m1, m2, m3⟩ := R i j z c hz hc'
          have val : valV (((tn.map Row.k).map kk).zip (as.map V.ref)) (kk (z, S [c])) = some (.ref a) := valV_zip_get (nodup_kk nd) (by rw [List.getElem?_map, m1] <;> rfl) (by rw [List.getElem?_map, m2] <;> rfl)
          refine ⟨rfl, _, rfl, _, rfl, _, rfl, (by rw [sizeLine_eq]; show 2 ≤ _; decide), fun u hu => ?_⟩
          have s6 := Same.put (o := .tup [.str z, .str (S [c])]) (Same.refl H5') hu
          refine ⟨D, .ref a, rfl, val ▸ DGet.t (k := kk (z, S [c])) ((e2.trans s6) _ _ h1) upd_same, ?_⟩
          refine ⟨_, s6 _ _ e1, ?_, ?_, Same.new' (e2.trans s6) hD2⟩
          · rw [List.length_map, sizeLine_eq]
            have := List.length_take_le' (i * sg.length + j) bs
            omega
          · rw [upd_same, ← Nat.add_assoc, take_snoc_map m3]
        · rintro H5 ⟨e1, e2⟩
          rw [S_size] at e1
          refine ⟨?_, e2⟩
          rw [e1, Nat.add_mul, Nat.one_mul]
      · rintro H4 ⟨g1, g2⟩
        rw [List.length_map, List.take_of_length_le (by rw [lb]; exact Nat.le_refl _)] at g1
        exact ⟨D2, _, rfl, .inl ⟨SqL.of g1, fun l hl => k l _ (none_of_same (h2.trans g2) hl) (Same.put (h2.trans g2) hl) upd_same⟩⟩
end
end Wb
/-! turns and yes states, put in order -/
namespace Wb
open PySem L2 WbMin WbS Lz
theorem dc_it {J : It} {n : Nat} {G : Hp → Prop} {Y : Nat → Hp → V → Hp → Prop} (w : Walk J n G Y) {g : TG} {tt : TT} {tk tv : TE} {vs : List Nat} {σ : L2.St} {H1 : Hp} {D : Addr} {Qd : Hp → Prop} (Pv : Nat → Hp → Prop) (h0 : Pv 0 (L2.upd H1 D (.dK []))) (hG : ∀ i H, i ≤ n → Pv i H → G H)
    (hs : ∀ i x H H', i < n → Pv i H → Y i H x H' → g x (wipe σ vs) H' fun σ2 H2 => wipe σ2 vs = wipe σ vs ∧ tt σ2 H2 fun b H3 =>
      if b = true then tk σ2 H3 fun y H4 => tv σ2 H4 fun z H5 => ∃ kvs k, y = kV k ∧ H5 D = some (.dK kvs) ∧ kvs.length < sizeLine ∧ Pv (i + 1) (L2.upd H5 D (.dK (putK kvs k z))) else Pv (i + 1) H3) (hd : ∀ H, Pv n H → Qd H) :
    ∃ W : Nat → Nat → Hp → Prop, (∃ m, W 0 m (L2.upd H1 D (.dK []))) ∧ ∀ i m H, W i m H →
      (J.stop i H ∧ Qd H) ∨ (J.go i H ∧ ∃ Nx : Hp → Prop, (∀ H', Nx H' → ∃ m', m' < m ∧ W (i + 1) m' H') ∧ ∀ x H', J.yld i H x H' → g x (wipe σ vs) H' fun σ2 H2 => wipe σ2 vs = wipe σ vs ∧ tt σ2 H2 fun b H3 =>
        if b = true then tk σ2 H3 fun y H4 => tv σ2 H4 fun z H5 => ∃ kvs k, y = kV k ∧ H5 D = some (.dK kvs) ∧ kvs.length < sizeLine ∧ Nx (L2.upd H5 D (.dK (putK kvs k z))) else Nx H3) := by
  refine ⟨fun i m H => m = n - i ∧ i ≤ n ∧ Pv i H, ⟨n, by simp, Nat.zero_le _, h0⟩, ?_⟩
  rintro i m H ⟨rfl, hi, p⟩
  by_cases lt : i < n
  · exact .inr ⟨w.goes i H lt (hG i H hi p), Pv (i + 1), fun H' p' => ⟨n - (i + 1), by omega, rfl, lt, p'⟩, fun x H' y => hs i x H H' lt p (w.yields i H x H' lt (hG i H hi p) y)⟩
  · have e : i = n := by omega
    subst e
    exact .inl ⟨w.stops H (hG _ H hi p), hd H p⟩
/-- the key that a text is -/
def k1 (z : Str) : Key := .inr z
theorem k1_inj {p q : Str} (h : k1 p = k1 q) : p = q := by
  injection h
theorem nodup_k1 {ps : List Str} (h : ps.Nodup) : (ps.map k1).Nodup := List.Pairwise.map _ (fun _ _ n e => n (k1_inj e)) h
/-- the turn of a state -/
def turnOf (tn : List Trn) (z : Str) : Trn := (tn.find? fun r => decide (r.a = z)).getD ⟨z, z, 0⟩
theorem turnOf_at {tn : List Trn} (nd : (tn.map Trn.a).Nodup) {i : Nat} {r : Trn} (h : tn[i]? = some r) : turnOf tn r.a = r := by
  unfold turnOf
  induction tn generalizing i with
  | nil => cases h
  | cons q tn ih =>
    have n := List.nodup_cons.mp (show (q.a :: tn.map Trn.a).Nodup from nd)
    cases i with
    | zero =>
      cases h
      rw [List.find?_cons_of_pos (by simp)] <;> rfl
    | succ i =>
      rw [List.find?_cons_of_neg]
      · exact ih n.2 h
      · intro e
        exact n.1 (by rw [of_decide_eq_true e]; exact List.mem_map_of_mem (List.mem_of_getElem? h))
def spOrTu : Sp := fun vs H Q _ => ∃ (y t : Addr) (as : List Addr) (tn : List Trn) (st : List Str), vs = [.ref y, .ref t] ∧ H y = some (.tup (as.map V.ref)) ∧ Tups H as (tn.map Trn.v) ∧ H t = some (.tup (st.map V.str)) ∧ (tn.map Trn.a).Nodup ∧ tn.length ≤ 6 ∧ st.length ≤ 6 ∧
  ∀ r bs H', H r = none → Same H H' → H' r = some (.tup (bs.map V.ref)) → Tups H' bs ((st.map (turnOf tn)).map Trn.v) → Q (.ref r) H'
def spOrYe : Sp := fun vs H Q _ => ∃ (y t : Addr) (ye st : List Str), vs = [.ref y, .ref t] ∧ H y = some (.tup (ye.map V.str)) ∧ H t = some (.tup (st.map V.str)) ∧ st.length ≤ 6 ∧
  ∀ r H', H r = none → Same H H' → H' r = some (.tup ((st.filter fun z => decide (z ∈ ye)).map V.str)) → Q (.ref r) H'
section
variable {P : Program} {w : World} {K : PySem.W.Frag} {mg : Str → Option Value} {base : Heap} {f : Addr} {fd : FuncData}
abbrev NOY : List Str := ["yes", "states", "state"]
theorem scOY : FnScope NOY ["yes", "states"] (defScope sOrYe) := ⟨rfl, rfl, rfl, by decide +kernel, rfl, by decide +kernel, by decide +kernel⟩
theorem ok_orye (F : Fun K "ordered_yes" "ordered_yes" sOrYe f fd) (mT : mg "tuple" = none) : FnOk P w K mg base CX0 1 f fd ["yes", "states"] spOrYe := by
  refine F.ok scOY (fun vs H Q E h => ?_) (fun cdv A outer s H vs Q E hr h => ?_)
  · obtain ⟨y, t, ye, st, rfl, _⟩ := h
    rfl
  · obtain ⟨y, t, ye, st, rfl, hy, ht, few, k⟩ := h
    refine ⟨_, pss_one (ps_ret (pe_callTy call_tuple_of (by rfl) mT (by decide +kernel) (pa_cons
      (pe_lc (own := [("state", 2)]) (g := gName 2) rfl scOY.nd (pi_tup (pv 1)) (blkOk_by (N := NOY) (sc := defScope sOrYe) (by decide +kernel)) (fun _ _ _ _ _ => pg_name (i := 2) scOY.nd rfl (.inl rfl)) (fun _ _ _ _ _ => pts_one (pt_cmpR (show OpR _ _ (rIn K false) from op_in_seq) (pv 2) (pv 0) (by rfl)))
        (fun _ _ _ _ _ => pv 2)) pa_nil))), ?_⟩
    refine ⟨_, rfl, t, rfl, ⟨_, SqT.of ht⟩, fun D hD => lc_it (walk_tup (xs := st.map V.str)) (fun i H3 => H3 D = some (.lst (((st.take i).filter fun z => decide (z ∈ ye)).map V.str)) ∧ Same H H3) ⟨upd_same, Same.put (Same.refl H) hD⟩ (fun _ _ _ h => SqT.of (h.2 _ _ ht)) ?_ ?_⟩
    · rintro i x H3 H3' hi ⟨h1, h2⟩ ⟨rfl, hx⟩
      rw [List.getElem?_map] at hx
      obtain ⟨z, hz, rfl⟩ := Option.map_eq_some_iff.mp hx
      refine ⟨rfl, _, rfl, _, rfl, y, _, rfl, .inr (SqT.of (h2 _ _ hy)), rfl, flat_strs _, _, rfl, ?_⟩
      rw [show inV (.str z) (ye.map V.str) = decide (z ∈ ye) from inV_strs z ye]
      refine ite2 (fun q => ?_) (fun q => ?_)
      · refine ⟨_, rfl, _, h1, ?_, ?_, Same.new' h2 hD⟩
        · rw [List.length_map, sizeLine_eq]
          have := List.length_filter_le (fun z => decide (z ∈ ye)) (st.take i)
          have := List.length_take_le' i st
          omega
        · rw [upd_same, List.take_add_one, hz, List.filter_append, List.map_append]
          rw [show ((some z).toList.filter fun z => decide (z ∈ ye)) = [z] from List.filter_cons_of_pos q] <;> rfl
      · refine ⟨?_, h2⟩
        rw [h1, List.take_add_one, hz, List.filter_append, show ((some z).toList.filter fun z => decide (z ∈ ye)) = [] from List.filter_cons_of_neg q, List.append_nil]
    · rintro H3 ⟨h1, h2⟩
      rw [List.length_map, List.take_length] at h1
      exact ⟨D, _, rfl, .inl ⟨SqL.of h1, fun l hl => k l _ (none_of_same h2 hl) (Same.put h2 hl) upd_same⟩⟩
abbrev NOT : List Str := ["turns", "states", "found", "turn", "state"]
theorem scOT : FnScope NOT ["turns", "states"] (defScope sOrTu) := ⟨rfl, rfl, rfl, by decide +kernel, rfl, by decide +kernel, by decide +kernel⟩
theorem ok_ortu (F : Fun K "ordered_turns" "ordered_turns" sOrTu f fd) (mT : mg "tuple" = none) : FnOk P w K mg base CX0 1 f fd ["turns", "states"] spOrTu := by
  refine F.ok scOT (fun vs H Q E h => ?_) (fun cdv A outer s H vs Q E hr h => ?_)
  · obtain ⟨y, t, as, tn, st, rfl, _⟩ := h
    rfl
  · obtain ⟨y, t, as, tn, st, rfl, hy, hT, ht, nd, few, fst, k⟩ := h
    have len : as.length = tn.length := by rw [hT.length, List.length_map]
    refine ⟨_, pss_cons (ps_set (i := 2) scOT.nd rfl (.inr rfl) (pe_dc (own := [("turn", 3)]) (g := gName 3) (tt := tYes) rfl scOT.nd (pi_tup (pv 0)) (blkOk_by (N := NOT) (sc := defScope sOrTu) (by decide +kernel)) (fun _ _ _ _ _ => pg_name (i := 3) scOT.nd rfl (.inl rfl)) (fun _ _ _ _ _ => pts_nil)
        (fun _ _ _ _ _ => pe_ix (show IxR _ (rIxT K) from ix_tup) (pv 3) pe_int (fun _ _ => rfl)) (fun _ _ _ _ _ => pv 3)))
      (pss_one (ps_ret (pe_callTy call_tuple_of (by rfl) mT (by decide +kernel) (pa_cons
      (pe_lc (own := [("state", 4)]) (g := gName 4) (tt := tYes) rfl scOT.nd (pi_tup (pv 1)) (blkOk_by (N := NOT) (sc := defScope sOrTu) (by decide +kernel)) (fun _ _ _ _ _ => pg_name (i := 4) scOT.nd rfl (.inl rfl)) (fun _ _ _ _ _ => pts_nil)
        (fun _ _ _ _ _ => pe_dget2 (un2 hr) (pv 2) (pv 4) (pe_tup (pa_cons (pv 4) (pa_cons (pv 4) (pa_cons pe_int pa_nil)))) ⟨rfl, rfl, rfl, rfl⟩)) pa_nil)))), ?_⟩
    refine ⟨_, rfl, y, rfl, ⟨_, SqT.of hy⟩, fun D hD => dc_it (walk_tup (xs := as.map V.ref)) (fun i H3 => H3 D = some (.dK ((((tn.map Trn.a).take i).map k1).zip ((as.take i).map V.ref))) ∧ Same H H3) ⟨upd_same, Same.put (Same.refl H) hD⟩ (fun _ _ _ h => SqT.of (h.2 _ _ hy)) ?_ ?_⟩
    · rintro i x H3 H3' hi ⟨h1, h2⟩ ⟨rfl, hx⟩
      rw [List.getElem?_map] at hx
      obtain ⟨r, hz, rfl⟩ := Option.map_eq_some_iff.mp hx
      rw [List.length_map] at hi
      have hi' : i < tn.length := by omega
      have hr' : tn[i]? = some tn[i] := List.getElem?_eq_getElem hi'
      have hk' : (tn.map Trn.a)[i]? = some tn[i].a := by rw [List.getElem?_map, hr'] <;> rfl
      have hv := (hT.same h2).get hz (by rw [List.getElem?_map, hr'] <;> rfl)
      have lz : (((tn.map Trn.a).take i).map k1).length = ((as.take i).map V.ref).length := by
        rw [List.length_map, List.length_map, List.length_take, List.length_take, List.length_map, len]
      refine ⟨rfl, _, rfl, _, _, _, _, rfl, rfl, SqT.of hv, atI_nat (j := 0) rfl, _, rfl, _, k1 tn[i].a, rfl, h1, ?_, ?_, Same.new' h2 hD⟩
      · rw [List.length_zip, List.length_map, List.length_map, List.length_take, List.length_take, sizeLine_eq]
        omega
      · rw [upd_same, putK_zip (not_taken k1_inj nd hk') lz, take_snoc_map hk', take_snoc_map hz]
    · rintro H3 ⟨h1, h2⟩
      rw [List.length_map, List.take_length, List.take_of_length_le (by rw [List.length_map]; omega)] at h1
      have ht3 := h2 _ _ ht
      refine ⟨_, rfl, t, rfl, ⟨_, SqT.of ht3⟩, fun D2 hD2 => lc_it (walk_tup (xs := st.map V.str)) (fun i H4 => ∃ bs : List Addr, H4 D2 = some (.lst (bs.map V.ref)) ∧ Tups H4 bs (((st.take i).map (turnOf tn)).map Trn.v) ∧ (∀ c ∈ bs, c ≠ D2) ∧ Same H3 H4) ⟨[], upd_same, trivial, (fun _ q => nomatch q), Same.put (Same.refl H3) hD2⟩ (fun _ _ _ h => by obtain ⟨_, _, _, _, h⟩ := h; exact SqT.of (h _ _ ht3)) ?_ ?_⟩
      · rintro i x H4 H4' hi ⟨bs, g1, g3, g4, g2⟩ ⟨rfl, hx⟩
        rw [List.getElem?_map] at hx
        obtain ⟨z, hz, rfl⟩ := Option.map_eq_some_iff.mp hx
        rw [List.length_map] at hi
        have lb : bs.length = i := by rw [g3.length, List.length_map, List.length_map, List.length_take]; omega
        refine ⟨rfl, _, rfl, D, rfl, .inl ⟨_, .inl (g2 _ _ h1)⟩, _, rfl, _, rfl, _, rfl, ?_⟩
        refine ⟨(by rw [sizeLine_eq]; show 3 ≤ _; decide), fun u hu => ?_⟩
        have s6 := Same.put (o := .tup [.str z, .str z, .int 0]) (Same.refl H4') hu
        have fin : ∀ (c : Addr) (r : Trn), L2.upd H4' u (.tup [.str z, .str z, .int 0]) c = some (.tup r.v) → turnOf tn z = r → ∃ acc, L2.upd H4' u (.tup [.str z, .str z, .int 0]) D2 = some (.lst acc) ∧ acc.length < sizeLine ∧ ∃ bs, L2.upd (L2.upd H4' u (.tup [.str z, .str z, .int 0])) D2 (.lst (acc ++ [.ref c])) D2 = some (.lst (bs.map V.ref)) ∧
            Tups (L2.upd (L2.upd H4' u (.tup [.str z, .str z, .int 0])) D2 (.lst (acc ++ [.ref c]))) bs (((st.take (i + 1)).map (turnOf tn)).map Trn.v) ∧ (∀ c ∈ bs, c ≠ D2) ∧ Same H3 (L2.upd (L2.upd H4' u (.tup [.str z, .str z, .int 0])) D2 (.lst (acc ++ [.ref c]))) := by
          intro c r hc e
          have nc : c ≠ D2 := fun q => by
            rw [q, s6 _ _ g1] at hc
            cases hc
          have n2 : ∀ a ∈ bs ++ [c], a ≠ D2 := fun a ha => (List.mem_append.mp ha).elim (g4 a) fun q => by rw [List.mem_singleton.mp q]; exact nc
          refine ⟨_, s6 _ _ g1, ?_, bs ++ [c], ?_, ?_, n2, Same.new' (g2.trans s6) hD2⟩
          · rw [List.length_map, sizeLine_eq]
            omega
          · rw [upd_same, List.map_append] <;> rfl
          · have e1 : ((st.take (i + 1)).map (turnOf tn)).map Trn.v = ((st.take i).map (turnOf tn)).map Trn.v ++ [r.v] := by
              rw [List.take_add_one, hz, List.map_append, List.map_append, ← e] <;> rfl
            rw [e1]
            exact Tups.upd n2 (Tups.snoc hc (g3.same s6))
        by_cases m : z ∈ tn.map Trn.a
        · obtain ⟨r, hr5, rfl⟩ := List.mem_map.mp m
          obtain ⟨j, hj, ej⟩ := List.getElem_of_mem hr5
          have ej' : tn[j]? = some r := by rw [List.getElem?_eq_getElem hj, ej]
          have ea : as[j]? = some as[j] := List.getElem?_eq_getElem (by omega)
          have val : valV (((tn.map Trn.a).map k1).zip (as.map V.ref)) (k1 r.a) = some (.ref as[j]) := valV_zip_get (i := j) (nodup_k1 nd) (by rw [List.getElem?_map, List.getElem?_map, ej'] <;> rfl) (by rw [List.getElem?_map, ea] <;> rfl)
          have hv := ((hT.same (h2.trans g2)).same s6).get ea (by rw [List.getElem?_map, ej'] <;> rfl)
          exact ⟨some (.ref as[j]), val ▸ DGet.k (k := k1 r.a) ((g2.trans s6) _ _ h1), fin _ r hv (turnOf_at nd ej')⟩
        · have val : valV (((tn.map Trn.a).map k1).zip (as.map V.ref)) (k1 z) = none := valV_zip_none fun q => by
            obtain ⟨y', hy', e⟩ := List.mem_map.mp q
            exact m (k1_inj e ▸ hy')
          have no : turnOf tn z = ⟨z, z, 0⟩ := by
            unfold turnOf
            rw [List.find?_eq_none.mpr fun r hr5 e => m (by rw [← of_decide_eq_true e]; exact List.mem_map_of_mem hr5)] <;> rfl
          exact ⟨none, val ▸ DGet.k (k := k1 z) ((g2.trans s6) _ _ h1), fin u ⟨z, z, 0⟩ upd_same no⟩
      · rintro H4 ⟨bs, g1, g3, g4, g2⟩
        rw [List.length_map, List.take_length] at g3
        refine ⟨D2, _, rfl, .inl ⟨SqL.of g1, fun l hl => k l bs _ (none_of_same (h2.trans g2) hl) (Same.put (h2.trans g2) hl) upd_same (g3.same (Same.put (Same.refl H4) hl))⟩⟩
end
end Wb
/-! a loop in numbers -/
namespace Wb
open PySem L2 WbMin WbS Lz
abbrev sTaInit : Stmt := inClass (top 47) 0
abbrev sTaGone : Stmt := inClass (top 47) 1
/-- a loop: signs, names of states, next states, amounts, turns, their amounts, yes states -/
structure LD where
  sg : List Nat
  st : List Str
  nx : Nat → Nat → Nat
  am : Nat → Nat → Int
  tn : Nat → Nat
  ta : Nat → Int
  ys : Nat → Bool
def LD.n (L : LD) : Nat := L.st.length
def LD.nm (L : LD) (i : Nat) : Str := L.st.getD i (S [])
structure LD.Ok (L : LD) : Prop where
  sgs : Sgs L.sg
  sts : Sts L.st
  nxlt : ∀ i c, i < L.n → c ∈ L.sg → L.nx i c < L.n
  tnlt : ∀ i, i < L.n → L.tn i < L.n
def LD.row (L : LD) (i c : Nat) : Row := ⟨L.nm i, c, L.nm (L.nx i c), L.am i c⟩
def LD.rows (L : LD) : List Row := (List.range L.n).flatMap fun i => L.sg.map (L.row i)
def LD.turn (L : LD) (i : Nat) : Trn := ⟨L.nm i, L.nm (L.tn i), L.ta i⟩
def LD.turns (L : LD) : List Trn := (List.range L.n).map L.turn
def LD.yes (L : LD) : List Str := ((List.range L.n).filter L.ys).map L.nm
/-- what a row of a loop reads -/
def RowAt (H : Hp) (q : Addr) (L : LD) : Prop := ∃ (t r u y : Addr) (as bs : List Addr), H q = some (.tup [.str (S L.sg), .ref t, .ref r, .ref u, .ref y]) ∧ H t = some (.tup (L.st.map V.str)) ∧ H r = some (.tup (as.map V.ref)) ∧ Tups H as (L.rows.map Row.v) ∧ H u = some (.tup (bs.map V.ref)) ∧ Tups H bs (L.turns.map Trn.v) ∧ H y = some (.tup (L.yes.map V.str))
def tf (dN dX dA tX tA tY : Addr) : List (Str × V) := putF "says" (.ref tY) (putF "turn_amounts" (.ref tA) (putF "turn_nexts" (.ref tX) (putF "amounts" (.ref dA) (putF "nexts" (.ref dX) (putF "number" (.ref dN) [])))))
def kS (c : Nat) : Key := .inr (S [c])
/-- the table stands -/
def TableAt (C : Addr) (H : Hp) (r : Addr) (L : LD) : Prop := ∃ (dx dN dX dA tX tA tY : Addr) (xs as : List Addr), H r = some (.ins C dx (tf dN dX dA tX tA tY)) ∧
  H dX = some (.dK ((L.sg.map kS).zip (xs.map V.ref))) ∧ Tups H xs (L.sg.map fun c => (List.range L.n).map fun i => V.int (L.nx i c : Nat)) ∧
  H dA = some (.dK ((L.sg.map kS).zip (as.map V.ref))) ∧ Tups H as (L.sg.map fun c => (List.range L.n).map fun i => V.int (L.am i c)) ∧
  H tX = some (.tup ((List.range L.n).map fun i => V.int (L.tn i : Nat))) ∧ H tA = some (.tup ((List.range L.n).map fun i => V.int (L.ta i))) ∧ H tY = some (.tup ((List.range L.n).map fun i => V.bl (L.ys i)))
def spTaInit (C : Addr) : Sp := fun vs H Q _ => ∃ (H0 : Hp) (r dx q : Addr) (L : LD), vs = [.ref r, .ref q] ∧ L.Ok ∧ RowAt H q L ∧ Same H0 H ∧ H0 r = none ∧ H r = some (.ins C dx []) ∧ ∀ H' : Hp, Same H0 H' → TableAt C H' r L → Q .non H'
/-- what the top has written of the class -/
structure TTxt (K : PySem.W.Frag) (mg : Str → Option Value) (C : Addr) : Prop where
  cl : Cls K C
  n1 : NoAttr K C "number"
  n2 : NoAttr K C "nexts"
  n3 : NoAttr K C "amounts"
  n4 : NoAttr K C "turn_nexts"
  n5 : NoAttr K C "turn_amounts"
  n6 : NoAttr K C "says"
/-! ### the mathematics of rows -/
theorem filt_one {c : Nat} : ∀ {sg : List Nat}, sg.Nodup → c ∈ sg → (sg.filter fun x => decide (x = c)) = [c]
  | [], _, h => nomatch h
  | a :: sg, nd, h => by
    have n := List.nodup_cons.mp nd
    by_cases q : a = c
    · subst q
      have e : (sg.filter fun x => decide (x = a)) = [] := List.filter_eq_nil_iff.mpr fun x hx e => n.1 ((of_decide_eq_true e) ▸ hx)
      rw [List.filter_cons_of_pos (by simp), e]
    · rw [List.filter_cons_of_neg (by simp [q])]
      exact filt_one n.2 ((List.mem_cons.mp h).resolve_left fun e => q e.symm)
theorem filt_rows {c i : Nat} (L : LD) (nd : L.sg.Nodup) (h : c ∈ L.sg) : ((L.sg.map (L.row i)).filter fun r => decide (r.c = c)) = [L.row i c] := by
  rw [List.filter_map, show ((fun r : Row => decide (r.c = c)) ∘ L.row i) = fun x => decide (x = c) from rfl, filt_one nd h] <;> rfl
theorem flat_one {α β : Type} (g : α → β) : ∀ l : List α, (l.flatMap fun i => [g i]) = l.map g
  | [] => rfl
  | x :: l => by rw [List.flatMap_cons, flat_one g l] <;> rfl
theorem rows_filter {L : LD} (nd : L.sg.Nodup) {c : Nat} (h : c ∈ L.sg) : (L.rows.filter fun r => decide (r.c = c)) = (List.range L.n).map fun i => L.row i c := by
  unfold LD.rows
  rw [List.filter_flatMap, ← flat_one]
  congr 1
  funext i
  exact filt_rows L nd h
theorem rows_mem {L : LD} {r : Row} (h : r ∈ L.rows) : ∃ i c, i < L.n ∧ c ∈ L.sg ∧ r = L.row i c := by
  obtain ⟨i, hi, h⟩ := List.mem_flatMap.mp h
  obtain ⟨c, hc, rfl⟩ := List.mem_map.mp h
  exact ⟨i, c, List.mem_range.mp hi, hc, rfl⟩
theorem rows_length (L : LD) : L.rows.length = L.n * L.sg.length := by
  unfold LD.rows
  rw [List.length_flatMap, show ((List.range L.n).map fun a => (L.sg.map (L.row a)).length) = List.replicate L.n L.sg.length from by
    rw [List.map_eq_replicate_iff.mpr (fun _ _ => List.length_map ..), List.length_range], List.sum_replicate_nat]
def nums (L : LD) : List (Key × V) := (L.st.map k1).zip ((List.range L.n).map fun i => V.int (i : Nat))
theorem nm_at {L : LD} {j : Nat} (h : j < L.n) : L.st[j]? = some (L.nm j) := by
  unfold LD.nm
  rw [List.getD_eq_getElem?_getD, List.getElem?_eq_getElem h] <;> rfl
theorem num_at {L : LD} (O : L.Ok) {j : Nat} (h : j < L.n) : valV (nums L) (k1 (L.nm j)) = some (.int (j : Nat)) :=
  valV_zip_get (i := j) (nodup_k1 O.sts.nd) (by rw [List.getElem?_map, nm_at h] <;> rfl) (by rw [List.getElem?_map, List.getElem?_range h] <;> rfl)
theorem kS_inj {p q : Nat} (h : kS p = kS q) : p = q := by
  injection h with h
  have := S_inj h
  injection this
def nmV (L : LD) (r : Row) : V := (valV (nums L) (k1 r.b)).getD .non
theorem nmV_row {L : LD} (O : L.Ok) {i c : Nat} (hi : i < L.n) (hc : c ∈ L.sg) : nmV L (L.row i c) = .int (L.nx i c : Nat) := by
  unfold nmV
  rw [show (L.row i c).b = L.nm (L.nx i c) from rfl, num_at O (O.nxlt i c hi hc)] <;> rfl
def byC (L : LD) (c k : Nat) : List Row := (L.rows.take k).filter fun r => decide (r.c = c)
theorem byC_yes {L : LD} {c k : Nat} {r : Row} (h : L.rows[k]? = some r) (e : r.c = c) : byC L c (k + 1) = byC L c k ++ [r] := by
  unfold byC
  rw [List.take_add_one, h, List.filter_append, show ((some r).toList.filter fun r => decide (r.c = c)) = [r] from List.filter_cons_of_pos (decide_eq_true e)]
theorem byC_no {L : LD} {c k : Nat} {r : Row} (h : L.rows[k]? = some r) (e : r.c ≠ c) : byC L c (k + 1) = byC L c k := by
  unfold byC
  rw [List.take_add_one, h, List.filter_append, show ((some r).toList.filter fun r => decide (r.c = c)) = [] from List.filter_cons_of_neg (fun q => e (of_decide_eq_true q)), List.append_nil]
theorem byC_few {L : LD} {c k : Nat} : (byC L c k).length ≤ L.rows.length := Nat.le_trans (List.length_filter_le _ _) (List.length_take_le' k _)
theorem byC_all {L : LD} (nd : L.sg.Nodup) {c : Nat} (h : c ∈ L.sg) : byC L c L.rows.length = (List.range L.n).map fun i => L.row i c := by
  unfold byC
  rw [List.take_length, rows_filter nd h]
theorem rows_few {L : LD} (O : L.Ok) : L.rows.length ≤ 24 := by
  rw [rows_length]
  exact Nat.mul_le_mul O.sts.few O.sgs.few
theorem sign_eq {a c : Nat} : decide (V.str (S [a]) = V.str (S [c])) = decide (a = c) := by
  rw [decide_eq_decide]
  constructor
  · intro e
    injection e with e
    have := S_inj e
    injection this
  · rintro rfl
    rfl
theorem turns_length (L : LD) : L.turns.length = L.n := by
  unfold LD.turns
  rw [List.length_map, List.length_range]
theorem turns_at {L : LD} {k : Nat} (h : k < L.n) : L.turns[k]? = some (L.turn k) := by
  unfold LD.turns
  rw [List.getElem?_map, List.getElem?_range h] <;> rfl
theorem bs_len {L : LD} {H : Hp} {bs : List Addr} (h : Tups H bs (L.turns.map Trn.v)) : bs.length = L.n := by
  rw [h.length, List.length_map, turns_length]
theorem nm_inj {L : LD} (O : L.Ok) {i j : Nat} (hi : i < L.n) (hj : j < L.n) (h : L.nm i = L.nm j) : i = j := by
  have a := nm_at hi
  have b := nm_at hj
  rw [h] at a
  exact (List.getElem?_inj hi O.sts.nd).mp (a.trans b.symm)
theorem yes_at {L : LD} (O : L.Ok) {k : Nat} (h : k < L.n) : decide (L.nm k ∈ L.yes) = L.ys k := by
  rw [Bool.eq_iff_iff, decide_eq_true_iff]
  unfold LD.yes
  constructor
  · intro m
    obtain ⟨j, hj, e⟩ := List.mem_map.mp m
    obtain ⟨j1, j2⟩ := List.mem_filter.mp hj
    rw [← nm_inj O (List.mem_range.mp j1) h e]
    exact j2
  · intro m
    exact List.mem_map.mpr ⟨k, List.mem_filter.mpr ⟨List.mem_range.mpr h, m⟩, rfl⟩
/-- the parts of a row stand -/
structure Prt (L : LD) (t rr u y : Addr) (as bs : List Addr) (H : Hp) : Prop where
  ht : H t = some (.tup (L.st.map V.str))
  hr : H rr = some (.tup (as.map V.ref))
  hT : Tups H as (L.rows.map Row.v)
  hu : H u = some (.tup (bs.map V.ref))
  hU : Tups H bs (L.turns.map Trn.v)
  hy : H y = some (.tup (L.yes.map V.str))
theorem Tups.but {H H' : Hp} {p : Addr} {o : HO} (no : ∀ x, o ≠ .tup x) (hp : H p = some o) (s : But p H H') : ∀ {as : List Addr} {xs : List (List V)}, Tups H as xs → Tups H' as xs
  | [], [], _ => trivial
  | a :: _, x :: _, h => ⟨s _ _ (ne_of h.1 hp fun e => no x e.symm) h.1, Tups.but no hp s h.2⟩
  | [], _ :: _, h => h.elim
  | _ :: _, [], h => h.elim
theorem Prt.but {L : LD} {t rr u y : Addr} {as bs : List Addr} {H H' : Hp} {p : Addr} {o : HO} (no : ∀ x, o ≠ .tup x) (hp : H p = some o) (s : But p H H') (h : Prt L t rr u y as bs H) : Prt L t rr u y as bs H' :=
  ⟨s _ _ (ne_of h.ht hp fun e => no _ e.symm) h.ht, s _ _ (ne_of h.hr hp fun e => no _ e.symm) h.hr, h.hT.but no hp s, s _ _ (ne_of h.hu hp fun e => no _ e.symm) h.hu, h.hU.but no hp s, s _ _ (ne_of h.hy hp fun e => no _ e.symm) h.hy⟩
theorem Prt.same {L : LD} {t rr u y : Addr} {as bs : List Addr} {H H' : Hp} (s : Same H H') (h : Prt L t rr u y as bs H) : Prt L t rr u y as bs H' :=
  ⟨s _ _ h.ht, s _ _ h.hr, h.hT.same s, s _ _ h.hu, h.hU.same s, s _ _ h.hy⟩
theorem k_in_S {l : List Nat} {i : Nat} {c : Nat} (h : (S l).cps[i]? = some c) : l[i]? = some c := by simpa [S] using h
def rTupOf (K : PySem.W.Frag) : List V → Hp → VK → Prop := fun xs H Q => ∃ p ys, xs = [.ref p] ∧ ((SqL K H p ys ∧ ∀ l, H l = none → Q (.ref l) (L2.upd H l (.tup ys))) ∨ (SqT K H p ys ∧ Q (.ref p) H))
section
variable {P : Program} {w : World} {K : PySem.W.Frag} {mg : Str → Option Value} {base : Heap} {f C : Addr} {fd : FuncData}
abbrev NTI : List Str := ["self", "row", "signs", "states", "rows", "turns", "yes", "at", "state", "sign", "told"]
theorem scTI : FnScope NTI ["self", "row"] (defScope sTaInit) := ⟨rfl, rfl, rfl, by decide +kernel, rfl, by decide +kernel, by decide +kernel⟩
def scNx : Scope := { kind := .function, names := [(".0", .local), ("sign", .cell), ("tuple", .globalImplicit), ("rows", .cell), ("self", .cell)], isGenerator := false, isCoroutine := false }
def scAm : Scope := { kind := .function, names := [(".0", .local), ("sign", .cell), ("tuple", .globalImplicit), ("rows", .cell)], isGenerator := false, isCoroutine := false }
set_option maxHeartbeats 0 in
theorem ok_tainit (F : Fun K "__init__" "Table.__init__" sTaInit f fd) (T : TTxt K mg C) (Z : Free mg) (mT : mg "tuple" = none) (mE : mg "enumerate" = none) : FnOk P w K mg base CX0 1 f fd ["self", "row"] (spTaInit C) := by
  refine F.ok scTI (fun vs H Q E h => ?_) (fun cdv A outer s H vs Q E hr h => ?_)
  · obtain ⟨H0, r, dx, q, L, rfl, _⟩ := h
    rfl
  · obtain ⟨H0, r, dx, q, L, rfl, O, RA, s0, r0, hp, k⟩ := h
    refine ⟨_, pss_cons (ps_asg (pv 1) (pg_tup (by rfl) (pgs_cons (pg_name (i := 2) scTI.nd rfl (.inl rfl)) (pgs_cons (pg_name (i := 3) scTI.nd rfl (.inl rfl)) (pgs_cons (pg_name (i := 4) scTI.nd rfl (.inr rfl)) (pgs_cons (pg_name (i := 5) scTI.nd rfl (.inl rfl)) (pgs_cons (pg_name (i := 6) scTI.nd rfl (.inr rfl)) pgs_nil)))))))
      (pss_cons (ps_fld (pv 0) (pe_dc (own := [("at", 7), ("state", 8)]) (g := gTup K 2 (gCons (gName 7) (gCons (gName 8) gNil))) (tt := tYes) rfl scTI.nd (pi_enumT (by rfl) mE (pa_cons (pv 3) pa_nil)) (blkOk_by (N := NTI) (sc := defScope sTaInit) (by decide +kernel)) (fun _ _ _ _ _ => pg_tup (by rfl) (pgs_cons (pg_name (i := 7) scTI.nd rfl (.inl rfl)) (pgs_cons (pg_name (i := 8) scTI.nd rfl (.inl rfl)) pgs_nil))) (fun _ _ _ _ _ => pts_nil)
        (fun _ _ _ _ _ => pv 8) (fun _ _ _ _ _ => pv 7)) rfl)
      (pss_cons (ps_fld (pv 0) (pe_dc (own := [("sign", 9)]) (g := gName 9) (tt := tYes) rfl scTI.nd (pi_str (pv 2)) (blkOk_by (N := NTI) (sc := defScope sTaInit) (by decide +kernel)) (fun _ _ _ _ _ => pg_name (i := 9) scTI.nd rfl (.inr rfl)) (fun _ _ _ _ _ => pts_nil)
        (fun _ _ _ _ _ => pv 9) (fun _ _ _ _ _ => pe_callTy (show CallR _ (.type "tuple") (rTupOf K) from call_tuple_of) (by rfl) mT (by decide +kernel) (pa_cons (by
            refine pe_lc (wi := iTup K (tVar 4)) (own := [("told", 10)]) (g := gName 10) rfl scTI.nd ?hi (blkOk_by (N := NTI) (sc := scNx) (by decide +kernel)) (fun _ _ _ _ _ => pg_name (i := 10) scTI.nd rfl (.inl rfl)) (fun _ _ _ _ _ => pts_one (pt_cmpR op_eq (pe_ix (show IxR _ (rIxT K) from ix_tup) (pv 10) pe_int (fun _ _ => rfl)) (pv 9) (nomark _)))
              (fun _ _ _ _ _ => pe_dget (un2 hr) (show PE _ _ (tFld K (tVar 0) "number") from pe_fld (pv 0) rfl) (pe_ix (show IxR _ (rIxT K) from ix_tup) (pv 10) pe_int (fun _ _ => rfl)) (fun _ _ => rfl))
            case hi => exact pi_tup (pv 4)) pa_nil))) rfl)
      (pss_cons (ps_fld (pv 0) (pe_dc (own := [("sign", 9)]) (g := gName 9) (tt := tYes) rfl scTI.nd (pi_str (pv 2)) (blkOk_by (N := NTI) (sc := defScope sTaInit) (by decide +kernel)) (fun _ _ _ _ _ => pg_name (i := 9) scTI.nd rfl (.inr rfl)) (fun _ _ _ _ _ => pts_nil)
        (fun _ _ _ _ _ => pv 9) (fun _ _ _ _ _ => pe_callTy (show CallR _ (.type "tuple") (rTupOf K) from call_tuple_of) (by rfl) mT (by decide +kernel) (pa_cons (by
            refine pe_lc (wi := iTup K (tVar 4)) (own := [("told", 10)]) (g := gName 10) rfl scTI.nd ?hi (blkOk_by (N := NTI) (sc := scAm) (by decide +kernel)) (fun _ _ _ _ _ => pg_name (i := 10) scTI.nd rfl (.inl rfl)) (fun _ _ _ _ _ => pts_one (pt_cmpR op_eq (pe_ix (show IxR _ (rIxT K) from ix_tup) (pv 10) pe_int (fun _ _ => rfl)) (pv 9) (nomark _)))
              (fun _ _ _ _ _ => pe_ix (show IxR _ (rIxT K) from ix_tup) (pv 10) pe_int (fun _ _ => rfl))
            case hi => exact pi_tup (pv 4)) pa_nil))) rfl)
      (pss_cons (ps_fld (pv 0) (pe_callTy call_tuple_of (by rfl) mT (by decide +kernel) (pa_cons (pe_lc (own := [("told", 10)]) (g := gName 10) (tt := tYes) rfl scTI.nd (pi_tup (pv 5)) (blkOk_by (N := NTI) (sc := defScope sTaInit) (by decide +kernel)) (fun _ _ _ _ _ => pg_name (i := 10) scTI.nd rfl (.inl rfl)) (fun _ _ _ _ _ => pts_nil)
        (fun _ _ _ _ _ => pe_dget (un2 hr) (show PE _ _ (tFld K (tVar 0) "number") from pe_fld (pv 0) rfl) (pe_ix (show IxR _ (rIxT K) from ix_tup) (pv 10) pe_int (fun _ _ => rfl)) (fun _ _ => rfl))) pa_nil)) rfl)
      (pss_cons (ps_fld (pv 0) (pe_callTy call_tuple_of (by rfl) mT (by decide +kernel) (pa_cons (pe_lc (own := [("told", 10)]) (g := gName 10) (tt := tYes) rfl scTI.nd (pi_tup (pv 5)) (blkOk_by (N := NTI) (sc := defScope sTaInit) (by decide +kernel)) (fun _ _ _ _ _ => pg_name (i := 10) scTI.nd rfl (.inl rfl)) (fun _ _ _ _ _ => pts_nil)
        (fun _ _ _ _ _ => pe_ix (show IxR _ (rIxT K) from ix_tup) (pv 10) pe_int (fun _ _ => rfl))) pa_nil)) rfl)
      (pss_one (ps_fld (pv 0) (pe_callTy call_tuple_of (by rfl) mT (by decide +kernel) (pa_cons (pe_lc (own := [("state", 8)]) (g := gName 8) (tt := tYes) rfl scTI.nd (pi_tup (pv 3)) (blkOk_by (N := NTI) (sc := defScope sTaInit) (by decide +kernel)) (fun _ _ _ _ _ => pg_name (i := 8) scTI.nd rfl (.inl rfl)) (fun _ _ _ _ _ => pts_nil)
        (fun _ _ _ _ _ => pe_cmpR (show OpR _ _ (rIn K false) from op_in_seq) (pv 8) (pv 6) (by rfl))) pa_nil)) rfl))))))), ?_⟩
    obtain ⟨t, rr, u, y, as, bs, hq, ht, hrw, hT, hu, hU, hy⟩ := RA
    refine ⟨_, rfl, q, _, rfl, SqT.of hq, rfl, _, _, rfl, _, _, rfl, _, _, rfl, _, _, rfl, _, _, rfl, rfl, ?_⟩
    have pr : Prt L t rr u y as bs H := ⟨ht, hrw, hT, hu, hU, hy⟩
    have sf := O.sts.few
    have n6 : L.n ≤ 6 := sf
    have sg4 := O.sgs.few
    -- number
    refine ⟨_, rfl, t, _, rfl, SqT.of ht, fun dN hN => dc_it (WbS.walk_enumT (xs := L.st.map V.str)) (fun i H3 => H3 dN = some (.dK (((L.st.take i).map k1).zip ((List.range i).map fun i => V.int (i : Nat)))) ∧ Same H H3) ⟨upd_same, Same.put (Same.refl H) hN⟩ (fun _ _ _ h => SqT.of (h.2 _ _ ht)) ?_ ?_⟩
    · rintro i x H3 H4 hi ⟨h1, h2⟩ ⟨T', a, b, rfl, nT, rfl, ea, eb⟩
      cases ea
      dsimp only at eb
      rw [List.getElem?_map] at eb
      obtain ⟨z, hz, rfl⟩ := Option.map_eq_some_iff.mp eb
      rw [List.length_map] at hi
      have s3 := Same.put (o := .tup [.int (i : Nat), .str z]) (Same.refl H3) nT
      refine ⟨T', _, rfl, SqT.of upd_same, rfl, _, _, rfl, _, _, rfl, rfl, ?_⟩
      refine ⟨rfl, _, rfl, _, rfl, _, k1 z, rfl, s3 _ _ h1, ?_, ?_, Same.new' (h2.trans s3) hN⟩
      · rw [List.length_zip, List.length_map, List.length_map, List.length_range, List.length_take, sizeLine_eq]
        omega
      · rw [upd_same, putK_zip (not_taken k1_inj O.sts.nd hz) (by rw [List.length_map, List.length_map, List.length_range, List.length_take]; omega), take_snoc_map hz, List.range_succ, List.map_append] <;> rfl
    · rintro H1 ⟨h1, h2⟩
      rw [List.length_map, List.take_length] at h1
      have hN1 : H1 dN = some (.dK (nums L)) := h1
      have hr1 := h2 _ _ hp
      refine ⟨_, rfl, r, C, dx, _, rfl, hr1, T.cl, T.n1, (by show 0 < 1000; decide), ?_⟩
      have B1 : But r H (L2.upd H1 r (.ins C dx (putF "number" (.ref dN) []))) := But.here (But.of h2)
      have S1 : Same H0 (L2.upd H1 r (.ins C dx (putF "number" (.ref dN) []))) := Same.new' (s0.trans h2) r0
      have hN2 : (L2.upd H1 r (.ins C dx (putF "number" (.ref dN) []))) dN = some (.dK (nums L)) := (upd_ne (ne_of hN1 hr1 (by intro q; cases q))).trans hN1
      have hr2 : (L2.upd H1 r (.ins C dx (putF "number" (.ref dN) []))) r = some (.ins C dx (putF "number" (.ref dN) [])) := upd_same
      generalize L2.upd H1 r (.ins C dx (putF "number" (.ref dN) [])) = H2 at B1 S1 hN2 hr2 ⊢
      have pr2 : Prt L t rr u y as bs H2 := pr.but (fun x => by intro q; cases q) hp B1
      clear h1 hN1 hr1
      -- nexts
      refine ⟨_, rfl, _, rfl, fun dX hX => dc_it walk_str (fun i H3 => ∃ xs : List Addr, H3 dX = some (.dK (((L.sg.take i).map kS).zip (xs.map V.ref))) ∧ Tups H3 xs ((L.sg.take i).map fun c => (List.range L.n).map fun i => V.int (L.nx i c : Nat)) ∧ Same H2 H3) ⟨[], upd_same, trivial, Same.put (Same.refl H2) hX⟩ (fun _ _ _ _ => trivial) ?_ ?_⟩
      · rintro i x H3 H4 hi ⟨xs, h1, h3, h4⟩ ⟨rfl, c, hc, rfl⟩
        have hc' : L.sg[i]? = some c := k_in_S hc
        rw [S_size] at hi
        have cm : c ∈ L.sg := List.mem_of_getElem? hc'
        have pr3 := pr2.same h4
        have lx : xs.length = i := by rw [h3.length, List.length_map, List.length_take]; omega
        have la : as.length = L.rows.length := by rw [pr.hT.length, List.length_map]
        refine ⟨rfl, _, rfl, _, rfl, rr, rfl, ⟨_, SqT.of pr3.hr⟩, fun D hD => lc_it (walk_tup (xs := as.map V.ref)) (fun k H5 => H5 D = some (.lst ((byC L c k).map (nmV L))) ∧ Same H4 H5) ⟨upd_same, Same.put (Same.refl H4) hD⟩ (fun _ _ _ h => SqT.of (h.2 _ _ pr3.hr)) ?_ ?_⟩
        · rintro k' x H5 H6 hk ⟨g1, g2⟩ ⟨rfl, hx⟩
          rw [List.getElem?_map] at hx
          obtain ⟨b, hb, rfl⟩ := Option.map_eq_some_iff.mp hx
          rw [List.length_map] at hk
          have hrw' : L.rows[k']? = some L.rows[k'] := List.getElem?_eq_getElem (by omega)
          generalize L.rows[k'] = ρ at hrw'
          have hv := (pr3.same g2).hT.get hb (by rw [List.getElem?_map, hrw'] <;> rfl)
          obtain ⟨i', c', hi', hc'', rfl⟩ := rows_mem (List.mem_of_getElem? hrw')
          have hr3 := g2 _ _ (h4 _ _ hr2)
          have hN3 := g2 _ _ (h4 _ _ hN2)
          refine ⟨rfl, _, rfl, _, _, _, _, rfl, rfl, SqT.of hv, atI_nat (j := 1) rfl, _, rfl, rfl, _, rfl, ?_⟩
          show if decide (V.str (S [c']) = V.str (S [c])) = true then _ else _
          rw [sign_eq]
          refine ite2 (fun e => ?_) (fun e => ?_)
          · have val := num_at O (O.nxlt i' c' hi' hc'')
            refine ⟨_, rfl, r, C, dx, _, _, rfl, hr3, T.cl, T.n1, by rw [lookup_putF, if_pos rfl], _, rfl, _, _, _, _, rfl, rfl, SqT.of hv, atI_nat (j := 2) rfl, dN, .int (L.nx i' c' : Nat), rfl, val ▸ DGet.k (k := k1 (L.nm (L.nx i' c'))) hN3, _, g1, ?_, ?_, Same.new' g2 hD⟩
            · rw [List.length_map, sizeLine_eq]
              have := byC_few (L := L) (c := c) (k := k')
              have := rows_few O
              omega
            · rw [upd_same, byC_yes hrw' (of_decide_eq_true e), List.map_append, ← nmV_row O hi' hc''] <;> rfl
          · exact ⟨by rw [g1, byC_no hrw' (fun q => e (decide_eq_true q))], g2⟩
        · rintro H5 ⟨g1, g2⟩
          have e2 : (byC L c as.length).map (nmV L) = (List.range L.n).map fun i => V.int (L.nx i c : Nat) := by
            rw [la, byC_all O.sgs.nd cm, List.map_map]
            exact List.map_congr_left fun j hj => nmV_row O (List.mem_range.mp hj) cm
          rw [List.length_map, e2] at g1
          refine ⟨D, _, rfl, .inl ⟨SqL.of g1, fun l hl => ?_⟩⟩
          have s5 := Same.put (o := .tup ((List.range L.n).map fun i => V.int (L.nx i c : Nat))) g2 hl
          refine ⟨_, kS c, rfl, s5 _ _ h1, ?_, xs ++ [l], ?_, ?_, Same.new' (h4.trans s5) hX⟩
          · rw [List.length_zip, List.length_map, List.length_map, List.length_take, sizeLine_eq]
            omega
          · rw [upd_same, putK_zip (not_taken kS_inj O.sgs.nd hc') (by rw [List.length_map, List.length_map, List.length_take]; omega), take_snoc_map hc', List.map_append] <;> rfl
          · rw [take_snoc_map hc']
            exact Tups.but (fun x => by intro q; cases q) (s5 _ _ h1) (But.here (But.refl dX _)) (Tups.snoc upd_same (h3.same s5))
      · rintro H3 ⟨xs, h1, h3, h4⟩
        rw [S_size, List.take_length] at h1 h3
        refine ⟨_, rfl, r, C, dx, _, rfl, h4 _ _ hr2, T.cl, T.n2, (by show 1 < 1000; decide), ?_⟩
        have hr3 := h4 _ _ hr2
        generalize ef : putF "nexts" (.ref dX) (putF "number" (.ref dN) []) = fs3
        have lk3 : fs3.lookup ("number" : Str) = some (.ref dN) := by rw [← ef, lookup_putF, if_neg (by decide +kernel), lookup_putF, if_pos rfl]
        have ln3 : fs3.length = 2 := by rw [← ef] <;> rfl
        have B2 : But r H (L2.upd H3 r (.ins C dx fs3)) := But.here (B1.trans (But.of h4))
        have S2 : Same H0 (L2.upd H3 r (.ins C dx fs3)) := Same.new' (S1.trans h4) r0
        have hN4 : (L2.upd H3 r (.ins C dx fs3)) dN = some (.dK (nums L)) := (upd_ne (ne_of (h4 _ _ hN2) hr3 (by intro q; cases q))).trans (h4 _ _ hN2)
        have hX4 : (L2.upd H3 r (.ins C dx fs3)) dX = some (.dK ((L.sg.map kS).zip (xs.map V.ref))) := (upd_ne (ne_of h1 hr3 (by intro q; cases q))).trans h1
        have hx4 : Tups (L2.upd H3 r (.ins C dx fs3)) xs (L.sg.map fun c => (List.range L.n).map fun i => V.int (L.nx i c : Nat)) := Tups.but (fun x => by intro q; cases q) hr3 (But.here (But.refl r _)) h3
        have hr4 : (L2.upd H3 r (.ins C dx fs3)) r = some (.ins C dx fs3) := upd_same
        generalize L2.upd H3 r (.ins C dx fs3) = H4 at B2 S2 hN4 hX4 hx4 hr4 ⊢
        have pr4 : Prt L t rr u y as bs H4 := pr.but (fun x => by intro q; cases q) hp B2
        clear h1 h3 h4 hr3 B1 S1 hN2 hr2 pr2 hX
        -- amounts
        refine ⟨_, rfl, _, rfl, fun dA hA => dc_it walk_str (fun i H3 => ∃ xs : List Addr, H3 dA = some (.dK (((L.sg.take i).map kS).zip (xs.map V.ref))) ∧ Tups H3 xs ((L.sg.take i).map fun c => (List.range L.n).map fun i => V.int (L.am i c)) ∧ Same H4 H3) ⟨[], upd_same, trivial, Same.put (Same.refl H4) hA⟩ (fun _ _ _ _ => trivial) ?_ ?_⟩
        · rintro i x H5 H6 hi ⟨xs2, h1, h3, h4⟩ ⟨rfl, c, hc, rfl⟩
          have hc' : L.sg[i]? = some c := k_in_S hc
          rw [S_size] at hi
          have cm : c ∈ L.sg := List.mem_of_getElem? hc'
          have pr3 := pr4.same h4
          have lx : xs2.length = i := by rw [h3.length, List.length_map, List.length_take]; omega
          have la : as.length = L.rows.length := by rw [pr.hT.length, List.length_map]
          refine ⟨rfl, _, rfl, _, rfl, rr, rfl, ⟨_, SqT.of pr3.hr⟩, fun D hD => lc_it (walk_tup (xs := as.map V.ref)) (fun k H7 => H7 D = some (.lst ((byC L c k).map fun r => V.int r.m)) ∧ Same H6 H7) ⟨upd_same, Same.put (Same.refl H6) hD⟩ (fun _ _ _ h => SqT.of (h.2 _ _ pr3.hr)) ?_ ?_⟩
          · rintro k' x H7 H8 hk ⟨g1, g2⟩ ⟨rfl, hx⟩
            rw [List.getElem?_map] at hx
            obtain ⟨b, hb, rfl⟩ := Option.map_eq_some_iff.mp hx
            rw [List.length_map] at hk
            have hrw' : L.rows[k']? = some L.rows[k'] := List.getElem?_eq_getElem (by omega)
            generalize L.rows[k'] = ρ at hrw'
            have hv := (pr3.same g2).hT.get hb (by rw [List.getElem?_map, hrw'] <;> rfl)
            obtain ⟨i', c', hi', hc'', rfl⟩ := rows_mem (List.mem_of_getElem? hrw')
            refine ⟨rfl, _, rfl, _, _, _, _, rfl, rfl, SqT.of hv, atI_nat (j := 1) rfl, _, rfl, rfl, _, rfl, ?_⟩
            show if decide (V.str (S [c']) = V.str (S [c])) = true then _ else _
            rw [sign_eq]
            refine ite2 (fun e => ?_) (fun e => ?_)
            · refine ⟨_, rfl, _, _, _, _, rfl, rfl, SqT.of hv, atI_nat (j := 3) rfl, _, g1, ?_, ?_, Same.new' g2 hD⟩
              · rw [List.length_map, sizeLine_eq]
                have := byC_few (L := L) (c := c) (k := k')
                have := rows_few O
                omega
              · rw [upd_same, byC_yes hrw' (of_decide_eq_true e), List.map_append] <;> rfl
            · exact ⟨by rw [g1, byC_no hrw' (fun q => e (decide_eq_true q))], g2⟩
          · rintro H7 ⟨g1, g2⟩
            have e2 : ((byC L c as.length).map fun r => V.int r.m) = (List.range L.n).map fun i => V.int (L.am i c) := by
              rw [la, byC_all O.sgs.nd cm, List.map_map]
              rfl
            rw [List.length_map, e2] at g1
            refine ⟨D, _, rfl, .inl ⟨SqL.of g1, fun l hl => ?_⟩⟩
            have s5 := Same.put (o := .tup ((List.range L.n).map fun i => V.int (L.am i c))) g2 hl
            refine ⟨_, kS c, rfl, s5 _ _ h1, ?_, xs2 ++ [l], ?_, ?_, Same.new' (h4.trans s5) hA⟩
            · rw [List.length_zip, List.length_map, List.length_map, List.length_take, sizeLine_eq]
              omega
            · rw [upd_same, putK_zip (not_taken kS_inj O.sgs.nd hc') (by rw [List.length_map, List.length_map, List.length_take]; omega), take_snoc_map hc', List.map_append] <;> rfl
            · rw [take_snoc_map hc']
              exact Tups.but (fun x => by intro q; cases q) (s5 _ _ h1) (But.here (But.refl dA _)) (Tups.snoc upd_same (h3.same s5))
        · rintro H5 ⟨xs2, h1, h3, h4⟩
          rw [S_size, List.take_length] at h1 h3
          refine ⟨_, rfl, r, C, dx, _, rfl, h4 _ _ hr4, T.cl, T.n3, (by omega), ?_⟩
          have lk3 := lk3
          have ln4 : (3 : Nat) = 3 := rfl
          have hrH := h4 _ _ hr4
          generalize ef4 : putF "amounts" (.ref dA) fs3 = fs4
          have lk4 : fs4.lookup ("number" : Str) = some (.ref dN) := by rw [← ef4, lookup_putF, if_neg (by decide +kernel)]; exact lk3
          have B4 : But r H (L2.upd H5 r (.ins C dx fs4)) := But.here (B2.trans (But.of h4))
          have S4 : Same H0 (L2.upd H5 r (.ins C dx fs4)) := Same.new' (S2.trans h4) r0
          have hN14 : (L2.upd H5 r (.ins C dx fs4)) dN = some (.dK (nums L)) := (upd_ne (ne_of (h4 _ _ hN4) hrH (by intro q; cases q))).trans (h4 _ _ hN4)
          have hX14 : (L2.upd H5 r (.ins C dx fs4)) dX = some (.dK ((L.sg.map kS).zip (xs.map V.ref))) := (upd_ne (ne_of (h4 _ _ hX4) hrH (by intro q; cases q))).trans (h4 _ _ hX4)
          have hx14 : Tups (L2.upd H5 r (.ins C dx fs4)) xs (L.sg.map fun c => (List.range L.n).map fun i => V.int (L.nx i c : Nat)) := Tups.but (fun x => by intro q; cases q) hrH (But.here (But.refl r _)) (hx4.same h4)
          have hA14 : (L2.upd H5 r (.ins C dx fs4)) dA = some (.dK ((L.sg.map kS).zip (xs2.map V.ref))) := (upd_ne (ne_of h1 hrH (by intro q; cases q))).trans h1
          have ha14 : Tups (L2.upd H5 r (.ins C dx fs4)) xs2 (L.sg.map fun c => (List.range L.n).map fun i => V.int (L.am i c)) := Tups.but (fun x => by intro q; cases q) hrH (But.here (But.refl r _)) h3
          have hr14 : (L2.upd H5 r (.ins C dx fs4)) r = some (.ins C dx fs4) := upd_same
          generalize L2.upd H5 r (.ins C dx fs4) = H14 at B4 S4 hN14 hX14 hx14 hA14 ha14 hr14 ⊢
          have pr14 : Prt L t rr u y as bs H14 := pr.but (fun x => by intro q; cases q) hp B4
          -- turn_nexts
          refine ⟨_, rfl, u, rfl, ⟨_, SqT.of pr14.hu⟩, fun D hD => lc_it (walk_tup (xs := bs.map V.ref)) (fun k H5 => H5 D = some (.lst ((List.range k).map fun i => V.int (L.tn i : Nat))) ∧ Same H14 H5) ⟨upd_same, Same.put (Same.refl H14) hD⟩ (fun _ _ _ h => SqT.of (h.2 _ _ pr14.hu)) ?_ ?_⟩
          · rintro k' x H5 H6 hk ⟨g1, g2⟩ ⟨rfl, hx⟩
            rw [List.getElem?_map] at hx
            obtain ⟨b, hb, rfl⟩ := Option.map_eq_some_iff.mp hx
            rw [List.length_map] at hk
            have hk6 : k' < L.n := by have q := pr.hU.length; rw [List.length_map, turns_length] at q; omega
            have hv := (pr14.same g2).hU.get hb (by rw [List.getElem?_map, turns_at hk6] <;> rfl)
            refine ⟨rfl, _, rfl, r, C, dx, _, _, rfl, g2 _ _ hr14, T.cl, T.n1, lk4, _, rfl, _, _, _, _, rfl, rfl, SqT.of hv, atI_nat (j := 1) rfl, dN, .int (L.tn k' : Nat), rfl, num_at O (O.tnlt k' hk6) ▸ DGet.k (k := k1 (L.nm (L.tn k'))) (g2 _ _ hN14), _, g1, ?_, ?_, Same.new' g2 hD⟩
            · rw [List.length_map, List.length_range, sizeLine_eq]
              omega
            · rw [upd_same, List.range_succ, List.map_append] <;> rfl
          · rintro H7 ⟨g1, g2⟩
            rw [List.length_map, bs_len pr.hU] at g1
            refine ⟨D, _, rfl, .inl ⟨SqL.of g1, fun tX hl => ?_⟩⟩
            have s5 := Same.put (o := .tup ((List.range L.n).map fun i => V.int (L.tn i : Nat))) g2 hl
            have hl5 : (L2.upd H7 tX (.tup ((List.range L.n).map fun i => V.int (L.tn i : Nat)))) tX = some (.tup ((List.range L.n).map fun i => V.int (L.tn i : Nat))) := upd_same
            generalize L2.upd H7 tX (.tup ((List.range L.n).map fun i => V.int (L.tn i : Nat))) = H8 at s5 hl5 ⊢
            refine ⟨_, rfl, r, C, dx, _, rfl, s5 _ _ hr14, T.cl, T.n4, (by rw [← ef4, ← ef]; show 3 < 1000; decide), ?_⟩
            have hrH := s5 _ _ hr14
            generalize ef5 : putF "turn_nexts" (.ref tX) fs4 = fs5
            have lk5 : fs5.lookup ("number" : Str) = some (.ref dN) := by rw [← ef5, lookup_putF, if_neg (by decide +kernel)]; exact lk4
            have B5 : But r H (L2.upd H8 r (.ins C dx fs5)) := But.here (B4.trans (But.of s5))
            have S5 : Same H0 (L2.upd H8 r (.ins C dx fs5)) := Same.new' (S4.trans s5) r0
            have hN15 : (L2.upd H8 r (.ins C dx fs5)) dN = some (.dK (nums L)) := (upd_ne (ne_of (s5 _ _ hN14) hrH (by intro q; cases q))).trans (s5 _ _ hN14)
            have hX15 : (L2.upd H8 r (.ins C dx fs5)) dX = some (.dK ((L.sg.map kS).zip (xs.map V.ref))) := (upd_ne (ne_of (s5 _ _ hX14) hrH (by intro q; cases q))).trans (s5 _ _ hX14)
            have hx15 : Tups (L2.upd H8 r (.ins C dx fs5)) xs (L.sg.map fun c => (List.range L.n).map fun i => V.int (L.nx i c : Nat)) := Tups.but (fun x => by intro q; cases q) hrH (But.here (But.refl r _)) (hx14.same s5)
            have hA15 : (L2.upd H8 r (.ins C dx fs5)) dA = some (.dK ((L.sg.map kS).zip (xs2.map V.ref))) := (upd_ne (ne_of (s5 _ _ hA14) hrH (by intro q; cases q))).trans (s5 _ _ hA14)
            have ha15 : Tups (L2.upd H8 r (.ins C dx fs5)) xs2 (L.sg.map fun c => (List.range L.n).map fun i => V.int (L.am i c)) := Tups.but (fun x => by intro q; cases q) hrH (But.here (But.refl r _)) (ha14.same s5)
            have hTX15 : (L2.upd H8 r (.ins C dx fs5)) tX = some (.tup ((List.range L.n).map fun i => V.int (L.tn i : Nat))) := (upd_ne (ne_of hl5 hrH (by intro q; cases q))).trans hl5
            have hr15 : (L2.upd H8 r (.ins C dx fs5)) r = some (.ins C dx fs5) := upd_same
            generalize L2.upd H8 r (.ins C dx fs5) = H15 at B5 S5 hN15 hX15 hx15 hA15 ha15 hTX15 hr15 ⊢
            have pr15 : Prt L t rr u y as bs H15 := pr.but (fun x => by intro q; cases q) hp B5
            -- turn_amounts
            refine ⟨_, rfl, u, rfl, ⟨_, SqT.of pr15.hu⟩, fun D hD => lc_it (walk_tup (xs := bs.map V.ref)) (fun k H5 => H5 D = some (.lst ((List.range k).map fun i => V.int (L.ta i))) ∧ Same H15 H5) ⟨upd_same, Same.put (Same.refl H15) hD⟩ (fun _ _ _ h => SqT.of (h.2 _ _ pr15.hu)) ?_ ?_⟩
            · rintro k' x H5 H6 hk ⟨g1, g2⟩ ⟨rfl, hx⟩
              rw [List.getElem?_map] at hx
              obtain ⟨b, hb, rfl⟩ := Option.map_eq_some_iff.mp hx
              rw [List.length_map] at hk
              have hk6 : k' < L.n := by have q := pr.hU.length; rw [List.length_map, turns_length] at q; omega
              have hv := (pr15.same g2).hU.get hb (by rw [List.getElem?_map, turns_at hk6] <;> rfl)
              refine ⟨rfl, _, rfl, _, _, _, _, rfl, rfl, SqT.of hv, atI_nat (j := 2) rfl, _, g1, ?_, ?_, Same.new' g2 hD⟩
              · rw [List.length_map, List.length_range, sizeLine_eq]
                omega
              · rw [upd_same, List.range_succ, List.map_append] <;> rfl
            · rintro H7 ⟨g1, g2⟩
              rw [List.length_map, bs_len pr.hU] at g1
              refine ⟨D, _, rfl, .inl ⟨SqL.of g1, fun tA hl => ?_⟩⟩
              have s5 := Same.put (o := .tup ((List.range L.n).map fun i => V.int (L.ta i))) g2 hl
              have hl5 : (L2.upd H7 tA (.tup ((List.range L.n).map fun i => V.int (L.ta i)))) tA = some (.tup ((List.range L.n).map fun i => V.int (L.ta i))) := upd_same
              generalize L2.upd H7 tA (.tup ((List.range L.n).map fun i => V.int (L.ta i))) = H8 at s5 hl5 ⊢
              refine ⟨_, rfl, r, C, dx, _, rfl, s5 _ _ hr15, T.cl, T.n5, (by rw [← ef5, ← ef4, ← ef]; show 4 < 1000; decide), ?_⟩
              have hrH := s5 _ _ hr15
              generalize ef6 : putF "turn_amounts" (.ref tA) fs5 = fs6
              have lk6 : fs6.lookup ("number" : Str) = some (.ref dN) := by rw [← ef6, lookup_putF, if_neg (by decide +kernel)]; exact lk5
              have B6 : But r H (L2.upd H8 r (.ins C dx fs6)) := But.here (B5.trans (But.of s5))
              have S6 : Same H0 (L2.upd H8 r (.ins C dx fs6)) := Same.new' (S5.trans s5) r0
              have hN16 : (L2.upd H8 r (.ins C dx fs6)) dN = some (.dK (nums L)) := (upd_ne (ne_of (s5 _ _ hN15) hrH (by intro q; cases q))).trans (s5 _ _ hN15)
              have hX16 : (L2.upd H8 r (.ins C dx fs6)) dX = some (.dK ((L.sg.map kS).zip (xs.map V.ref))) := (upd_ne (ne_of (s5 _ _ hX15) hrH (by intro q; cases q))).trans (s5 _ _ hX15)
              have hx16 : Tups (L2.upd H8 r (.ins C dx fs6)) xs (L.sg.map fun c => (List.range L.n).map fun i => V.int (L.nx i c : Nat)) := Tups.but (fun x => by intro q; cases q) hrH (But.here (But.refl r _)) (hx15.same s5)
              have hA16 : (L2.upd H8 r (.ins C dx fs6)) dA = some (.dK ((L.sg.map kS).zip (xs2.map V.ref))) := (upd_ne (ne_of (s5 _ _ hA15) hrH (by intro q; cases q))).trans (s5 _ _ hA15)
              have ha16 : Tups (L2.upd H8 r (.ins C dx fs6)) xs2 (L.sg.map fun c => (List.range L.n).map fun i => V.int (L.am i c)) := Tups.but (fun x => by intro q; cases q) hrH (But.here (But.refl r _)) (ha15.same s5)
              have hTX16 : (L2.upd H8 r (.ins C dx fs6)) tX = some (.tup ((List.range L.n).map fun i => V.int (L.tn i : Nat))) := (upd_ne (ne_of (s5 _ _ hTX15) hrH (by intro q; cases q))).trans (s5 _ _ hTX15)
              have hTA16 : (L2.upd H8 r (.ins C dx fs6)) tA = some (.tup ((List.range L.n).map fun i => V.int (L.ta i))) := (upd_ne (ne_of hl5 hrH (by intro q; cases q))).trans hl5
              have hr16 : (L2.upd H8 r (.ins C dx fs6)) r = some (.ins C dx fs6) := upd_same
              generalize L2.upd H8 r (.ins C dx fs6) = H16 at B6 S6 hN16 hX16 hx16 hA16 ha16 hTX16 hTA16 hr16 ⊢
              have pr16 : Prt L t rr u y as bs H16 := pr.but (fun x => by intro q; cases q) hp B6
              -- says
              refine ⟨_, rfl, t, rfl, ⟨_, SqT.of pr16.ht⟩, fun D hD => lc_it (walk_tup (xs := L.st.map V.str)) (fun k H5 => H5 D = some (.lst ((List.range k).map fun i => V.bl (L.ys i))) ∧ Same H16 H5) ⟨upd_same, Same.put (Same.refl H16) hD⟩ (fun _ _ _ h => SqT.of (h.2 _ _ pr16.ht)) ?_ ?_⟩
              · rintro k' x H5 H6 hk ⟨g1, g2⟩ ⟨rfl, hx⟩
                rw [List.getElem?_map] at hx
                rw [List.length_map] at hk
                rw [nm_at (L := L) hk] at hx
                cases hx
                refine ⟨rfl, _, rfl, _, rfl, y, _, rfl, .inr (SqT.of ((pr16.same g2).hy)), rfl, flat_strs _, _, g1, ?_, ?_, Same.new' g2 hD⟩
                · rw [List.length_map, List.length_range, sizeLine_eq]
                  omega
                · rw [upd_same, inV_strs, yes_at O hk, List.range_succ, List.map_append] <;> rfl
              · rintro H7 ⟨g1, g2⟩
                rw [List.length_map, show L.st.length = L.n from rfl] at g1
                refine ⟨D, _, rfl, .inl ⟨SqL.of g1, fun tY hl => ?_⟩⟩
                have s5 := Same.put (o := .tup ((List.range L.n).map fun i => V.bl (L.ys i))) g2 hl
                have hl5 : (L2.upd H7 tY (.tup ((List.range L.n).map fun i => V.bl (L.ys i)))) tY = some (.tup ((List.range L.n).map fun i => V.bl (L.ys i))) := upd_same
                generalize L2.upd H7 tY (.tup ((List.range L.n).map fun i => V.bl (L.ys i))) = H8 at s5 hl5 ⊢
                refine ⟨_, rfl, r, C, dx, _, rfl, s5 _ _ hr16, T.cl, T.n6, (by rw [← ef6, ← ef5, ← ef4, ← ef]; show 5 < 1000; decide), ?_⟩
                have hrH := s5 _ _ hr16
                generalize ef7 : putF "says" (.ref tY) fs6 = fs7
                have lk7 : fs7.lookup ("number" : Str) = some (.ref dN) := by rw [← ef7, lookup_putF, if_neg (by decide +kernel)]; exact lk6
                have B7 : But r H (L2.upd H8 r (.ins C dx fs7)) := But.here (B6.trans (But.of s5))
                have S7 : Same H0 (L2.upd H8 r (.ins C dx fs7)) := Same.new' (S6.trans s5) r0
                have hN17 : (L2.upd H8 r (.ins C dx fs7)) dN = some (.dK (nums L)) := (upd_ne (ne_of (s5 _ _ hN16) hrH (by intro q; cases q))).trans (s5 _ _ hN16)
                have hX17 : (L2.upd H8 r (.ins C dx fs7)) dX = some (.dK ((L.sg.map kS).zip (xs.map V.ref))) := (upd_ne (ne_of (s5 _ _ hX16) hrH (by intro q; cases q))).trans (s5 _ _ hX16)
                have hx17 : Tups (L2.upd H8 r (.ins C dx fs7)) xs (L.sg.map fun c => (List.range L.n).map fun i => V.int (L.nx i c : Nat)) := Tups.but (fun x => by intro q; cases q) hrH (But.here (But.refl r _)) (hx16.same s5)
                have hA17 : (L2.upd H8 r (.ins C dx fs7)) dA = some (.dK ((L.sg.map kS).zip (xs2.map V.ref))) := (upd_ne (ne_of (s5 _ _ hA16) hrH (by intro q; cases q))).trans (s5 _ _ hA16)
                have ha17 : Tups (L2.upd H8 r (.ins C dx fs7)) xs2 (L.sg.map fun c => (List.range L.n).map fun i => V.int (L.am i c)) := Tups.but (fun x => by intro q; cases q) hrH (But.here (But.refl r _)) (ha16.same s5)
                have hTX17 : (L2.upd H8 r (.ins C dx fs7)) tX = some (.tup ((List.range L.n).map fun i => V.int (L.tn i : Nat))) := (upd_ne (ne_of (s5 _ _ hTX16) hrH (by intro q; cases q))).trans (s5 _ _ hTX16)
                have hTA17 : (L2.upd H8 r (.ins C dx fs7)) tA = some (.tup ((List.range L.n).map fun i => V.int (L.ta i))) := (upd_ne (ne_of (s5 _ _ hTA16) hrH (by intro q; cases q))).trans (s5 _ _ hTA16)
                have hTY17 : (L2.upd H8 r (.ins C dx fs7)) tY = some (.tup ((List.range L.n).map fun i => V.bl (L.ys i))) := (upd_ne (ne_of hl5 hrH (by intro q; cases q))).trans hl5
                have hr17 : (L2.upd H8 r (.ins C dx fs7)) r = some (.ins C dx fs7) := upd_same
                generalize L2.upd H8 r (.ins C dx fs7) = H17 at B7 S7 hN17 hX17 hx17 hA17 ha17 hTX17 hTA17 hTY17 hr17 ⊢
                have pr17 : Prt L t rr u y as bs H17 := pr.but (fun x => by intro q; cases q) hp B7
                refine k H17 S7 ⟨dx, dN, dX, dA, tX, tA, tY, xs, xs2, ?_, hX17, hx17, hA17, ha17, hTX17, hTA17, hTY17⟩
                rw [hr17, ← ef7, ← ef6, ← ef5, ← ef4, ← ef] <;> rfl
end
end Wb
/-! one round by the table -/
namespace Wb
open PySem L2 WbMin WbS Lz
def LD.stp (L : LD) (p : Nat × Int) (c : Nat) : Nat × Int := (L.nx p.1 c, p.2 + L.am p.1 c)
def LD.wk (L : LD) (w : List Nat) (i : Nat) : Nat × Int := w.foldl L.stp (i, 0)
def LD.gone (L : LD) (w : List Nat) (i : Nat) : Nat × Int := (L.tn (L.wk w i).1, (L.wk w i).2 + L.ta (L.wk w i).1)
theorem wk_lt {L : LD} (O : L.Ok) {i : Nat} (hi : i < L.n) : ∀ {w : List Nat}, (∀ c ∈ w, c ∈ L.sg) → (L.wk w i).1 < L.n := by
  intro w
  unfold LD.wk
  have gen : ∀ (w : List Nat) (p : Nat × Int), p.1 < L.n → (∀ c ∈ w, c ∈ L.sg) → (w.foldl L.stp p).1 < L.n := by
    intro w
    induction w with
    | nil => exact fun p h _ => h
    | cons c w ih => exact fun p h hw => ih _ (O.nxlt _ _ h (hw c List.mem_cons_self)) fun d hd => hw d (List.mem_cons_of_mem _ hd)
  exact fun hw => gen w (i, 0) hi hw
theorem gone_lt {L : LD} (O : L.Ok) {i : Nat} (hi : i < L.n) {w : List Nat} (hw : ∀ c ∈ w, c ∈ L.sg) : (L.gone w i).1 < L.n := O.tnlt _ (wk_lt O hi hw)
theorem TableAt.same {C : Addr} {H H' : Hp} {r : Addr} {L : LD} (s : Same H H') (h : TableAt C H r L) : TableAt C H' r L := by
  obtain ⟨dx, dN, dX, dA, tX, tA, tY, xs, as, h0, hX, hx, hA, ha, hTX, hTA, hTY⟩ := h
  exact ⟨dx, dN, dX, dA, tX, tA, tY, xs, as, s _ _ h0, s _ _ hX, hx.same s, s _ _ hA, ha.same s, s _ _ hTX, s _ _ hTA, s _ _ hTY⟩
theorem TableAt.but {C D : Addr} {H H' : Hp} {r tb dx : Addr} {fs : List (Str × V)} {L : LD} (h : TableAt C H tb L) (n : tb ≠ r) (hr : H r = some (.ins D dx fs)) (s : But r H H') : TableAt C H' tb L := by
  obtain ⟨dx, dN, dX, dA, tX, tA, tY, xs, as, h0, hX, hx, hA, ha, hTX, hTA, hTY⟩ := h
  exact ⟨dx, dN, dX, dA, tX, tA, tY, xs, as, s _ _ n h0, s _ _ (ne_of hX hr (by intro q; cases q)) hX, hx.but (fun x => by intro q; cases q) hr s, s _ _ (ne_of hA hr (by intro q; cases q)) hA, ha.but (fun x => by intro q; cases q) hr s, s _ _ (ne_of hTX hr (by intro q; cases q)) hTX, s _ _ (ne_of hTA hr (by intro q; cases q)) hTA, s _ _ (ne_of hTY hr (by intro q; cases q)) hTY⟩
theorem ne_of_none' {H : Hp} {a b : Addr} {o : HO} (h : H a = some o) (h' : H b = none) : b ≠ a := (ne_of_none h h').symm
theorem map_get {α β : Type} {g : α → β} {l : List α} {j : Nat} {x : α} (h : l[j]? = some x) : (l.map g)[j]? = some (g x) := by
  rw [List.getElem?_map, h] <;> rfl
section
variable {P : Program} {w : World} {K : PySem.W.Frag} {mg : Str → Option Value} {base : Heap} {f C : Addr} {fd : FuncData}
end
end Wb
/-! where a map leads, again and again -/
namespace Wb
open PySem L2 WbMin WbS Lz
abbrev sCoInit : Stmt := inClass (top 40) 0
abbrev sCoPlace : Stmt := inClass (top 40) 1
abbrev sCoBehind : Stmt := inClass (top 40) 2
/-- the state behind m rounds -/
def it (g : Nat → Nat) : Nat → Nat
  | 0 => 0
  | m + 1 => g (it g m)
theorem it_lt {g : Nat → Nat} {n : Nat} (h0 : 0 < n) (h : ∀ i, i < n → g i < n) : ∀ m, it g m < n
  | 0 => h0
  | m + 1 => h _ (it_lt h0 h m)
theorem it_add {g : Nat → Nat} {a b : Nat} (h : it g a = it g b) : ∀ d, it g (a + d) = it g (b + d)
  | 0 => h
  | d + 1 => congrArg g (it_add h d)
/-- what a course knows: k states, those from h on come again -/
structure Crs (g : Nat → Nat) (n k h : Nat) : Prop where
  lt : h < k
  le : k ≤ n
  eq : it g k = it g h
  nd : ∀ i j, i < j → j < k → it g i ≠ it g j
theorem Crs.mul {g : Nat → Nat} {n k h : Nat} (c : Crs g n k h) : ∀ (q m : Nat), h ≤ m → it g (m + q * (k - h)) = it g m
  | 0, m, _ => by rw [Nat.zero_mul, Nat.add_zero]
  | q + 1, m, hm => by
    have e : m + (q + 1) * (k - h) = k + (m - h + q * (k - h)) := by
      have := c.lt
      rw [Nat.add_mul]
      omega
    rw [e, it_add c.eq, show h + (m - h + q * (k - h)) = m + q * (k - h) by omega, Crs.mul c q m hm]
theorem Crs.place {g : Nat → Nat} {n k h m : Nat} (c : Crs g n k h) (hm : k ≤ m) : h + (m - h) % (k - h) < k ∧ it g (h + (m - h) % (k - h)) = it g m := by
  have lt := c.lt
  have pos : 0 < k - h := by omega
  have := Nat.mod_lt (m - h) pos
  refine ⟨by omega, ?_⟩
  have e := c.mul ((m - h) / (k - h)) (h + (m - h) % (k - h)) (by omega)
  have d := Nat.mod_add_div (m - h) (k - h)
  rw [Nat.mul_comm] at d
  rw [← e]
  congr 1
  omega
def nat (g : Nat → Nat) (k : Nat) : List V := (List.range k).map fun m => V.int (it g m : Nat)
def cf (p : Addr) (h k : Nat) : List (Str × V) := putF "again" (.int ((k : Int) - (h : Int))) (putF "head" (.int (h : Nat)) (putF "path" (.ref p) []))
/-- the course stands -/
def CourseAt (C : Addr) (H : Hp) (r : Addr) (g : Nat → Nat) (k h : Nat) : Prop := ∃ dx p, H r = some (.ins C dx (cf p h k)) ∧ H p = some (.lst (nat g k))
theorem CourseAt.same {C : Addr} {H H' : Hp} {r : Addr} {g : Nat → Nat} {k h : Nat} (s : Same H H') : CourseAt C H r g k h → CourseAt C H' r g k h := fun ⟨dx, p, a, b⟩ => ⟨dx, p, s _ _ a, s _ _ b⟩
structure CTxt (K : PySem.W.Frag) (mg : Str → Option Value) (C : Addr) : Prop where
  cl : Cls K C
  n1 : NoAttr K C "path"
  n2 : NoAttr K C "head"
  n3 : NoAttr K C "again"
section
variable {X : Cx}
end
section
variable {P : Program} {w : World} {K : PySem.W.Frag} {mg : Str → Option Value} {base : Heap} {f fP C : Addr} {fd dP : FuncData}
end
end Wb
/-! sorted texts: one order alone -/
namespace Wb
open PySem L2 WbMin WbS
theorem not_lt_trans {a b c : List Nat} (h1 : ¬ b < a) (h2 : ¬ c < b) : ¬ c < a := fun q => by
  have h1' : a ≤ b := h1
  have h2' : b ≤ c := h2
  exact List.le_trans h1' h2' q
def leS (a b : Str) : Prop := ¬ b.cps.toList < a.cps.toList
theorem leS_trans {a b c : Str} (h1 : leS a b) (h2 : leS b c) : leS a c := not_lt_trans h1 h2
theorem lt_of_ltCps {a b : List Nat} : PySem.Spec.ltCps a b = false ↔ ¬ a < b := by
  rw [PyProof.Rows.ltCps_eq, decide_eq_false_iff_not]
theorem rising_pw : ∀ (l : List Str) (p : Str), PyProof.Rows.risingS p l = true → (p :: l).Pairwise leS
  | [], p, _ => List.pairwise_singleton _ _
  | x :: r, p, h => by
    have h' : (!PySem.Spec.ltCps x.cps.toList p.cps.toList && PyProof.Rows.risingS x r) = true := h
    rw [Bool.and_eq_true, Bool.not_eq_true'] at h'
    have px : leS p x := lt_of_ltCps.mp h'.1
    have ih := rising_pw r x h'.2
    refine List.pairwise_cons.mpr ⟨fun y hy => ?_, ih⟩
    rcases List.mem_cons.mp hy with rfl | hy
    · exact px
    · exact leS_trans px ((List.pairwise_cons.mp ih).1 y hy)
theorem sorted_pw : ∀ {l : List Str}, PyProof.Rows.sortedS l = true → l.Pairwise leS
  | [], _ => .nil
  | x :: r, h => rising_pw r x h
theorem pw_sorted {l : List Str} (h : l.Pairwise leS) : PyProof.Rows.sortedS l = true :=
  PyProof.Rows.sortedS_of_pairwise l (h.imp fun {a b} q => lt_of_ltCps.mpr q)
theorem leS_anti {a b : Str} (h1 : leS a b) (h2 : leS b a) : a = b := by
  have e : a.cps.toList = b.cps.toList := List.le_antisymm h1 h2
  rw [← S_of a, ← S_of b, e]
theorem sort_unique : ∀ {ys zs : List Str}, ys.Pairwise leS → zs.Pairwise leS → ys.Perm zs → ys = zs
  | [], zs, _, _, p => (List.Perm.nil_eq p)
  | y :: r, [], _, _, p => by cases List.Perm.eq_nil p
  | y :: r, z :: t, h1, h2, p => by
    have my : y ∈ z :: t := p.mem_iff.mp List.mem_cons_self
    have mz : z ∈ y :: r := p.mem_iff.mpr List.mem_cons_self
    have e : y = z := by
      rcases List.mem_cons.mp my with e | my
      · exact e
      · rcases List.mem_cons.mp mz with e | mz
        · exact e.symm
        · exact leS_anti ((List.pairwise_cons.mp h1).1 z mz) ((List.pairwise_cons.mp h2).1 y my)
    subst e
    rw [sort_unique (List.pairwise_cons.mp h1).2 (List.pairwise_cons.mp h2).2 (List.Perm.cons_inv p)]
/-- two sorted orders of the same texts -/
theorem sorted_same {ys zs : List Str} (h1 : PyProof.Rows.sortedS ys = true) (h2 : PyProof.Rows.sortedS zs = true) (p : ys.Perm zs) : ys = zs := sort_unique (sorted_pw h1) (sorted_pw h2) p
theorem perm_codes {ys : List Str} {l : List Nat} (h : ys.Perm (l.map sOne)) : ∃ m : List Nat, m.Perm l ∧ ys = m.map sOne := by
  have dec : ∀ c, (sOne c).cps.getD 0 0 = c := fun c => rfl
  refine ⟨ys.map fun z => z.cps.getD 0 0, ?_, ?_⟩
  · have q := h.map fun z => z.cps.getD 0 0
    rw [List.map_map, show (fun z : Str => z.cps.getD 0 0) ∘ sOne = id from funext dec, List.map_id] at q
    exact q
  · rw [List.map_map]
    have q : ∀ y ∈ ys, (sOne ∘ fun z : Str => z.cps.getD 0 0) y = y := fun y hy => by
      obtain ⟨c, _, rfl⟩ := List.mem_map.mp (h.mem_iff.mp hy)
      rfl
    exact (List.map_id' ys ▸ List.map_congr_left q).symm
theorem map_one {a b : List Nat} (h : a.map sOne = b.map sOne) : a = b := by
  have dec : ∀ l : List Nat, (l.map sOne).map (fun z : Str => z.cps.getD 0 0) = l := fun l => by
    rw [List.map_map, show (fun z : Str => z.cps.getD 0 0) ∘ sOne = id from funext fun _ => rfl, List.map_id]
  rw [← dec a, h, dec]
theorem sg_same {a b c : List Nat} (h1 : PyProof.Rows.sortedS (a.map sOne) = true) (h2 : PyProof.Rows.sortedS (b.map sOne) = true) (p1 : a.Perm c) (p2 : b.Perm c) : a = b :=
  map_one (sorted_same h1 h2 ((p1.trans p2.symm).map sOne))
theorem Sgs.perm {a b : List Nat} (h : Sgs b) (p : a.Perm b) : Sgs a := ⟨fun c hc => h.low c (p.mem_iff.mp hc), p.nodup_iff.mpr h.nd, by rw [p.length_eq]; exact h.pos, by rw [p.length_eq]; exact h.few⟩
end Wb
/-! a loop is made -/
namespace Wb
open PySem L2 WbMin WbS Lz
abbrev sLoInit : Stmt := inClass (top 49) 0
abbrev sLoRow : Stmt := inClass (top 49) 6
abbrev sLoAnswer : Stmt := inClass (top 49) 9
abbrev sLoState : Stmt := inClass (top 49) 10
abbrev sLoText : Stmt := inClass (top 49) 14
abbrev sLoGone : Stmt := inClass (top 49) 15
abbrev sLoOf : Stmt := inClass (top 49) 16
theorem FunD_ok' {P : Program} {w : World} {K : PySem.W.Frag} {mg : Str → Option Value} {base : Heap} {x qual : Str} {params : Arguments} {body : List Stmt} {scope : Scope} {dvs : List V} {kws : List (Str × V)} {f : Addr} {fd : FuncData} {N ps : List Str} {k : Nat} {sp : Sp} (F : FunD K x qual params body scope dvs kws f fd) (S : FnScope N ps scope) (len : ∀ vs H Q E, sp vs H Q E → vs.length = ps.length)
    (hbody : ∀ (cdv : Value) (A : Around) (outer : List Env) (s : Shared) (H : Hp) (vs : List V) (Q : VK) (E : XK), Room k (A.deeper (PyProof.Rows.envOfC qual scope s.heap.objs.size f cdv)) → sp vs H Q E →
      ∃ t, PSs (cxOf CX0 P w K mg base N qual scope f cdv A outer s H E).nox body t ∧ t { nx := fun _ H' => Q .non H', rt := Q } (start N vs) H) : FnOk P w K mg base CX0 (k + 1) f fd ps sp :=
  F.ok S len fun cdv A outer s H vs Q E hr hsp => by
    obtain ⟨t, h, q⟩ := hbody cdv A outer s H vs Q E hr hsp
    exact ⟨t, h.nox, q⟩
/-- n positional values, keywords by name; the positional defaults stand in a tuple -/
theorem FunD_kbk {K : PySem.W.Frag} {x qual : Str} {params : Arguments} {body : List Stmt} {scope : Scope} {dvs : List V} {kws : List (Str × V)} {f : Addr} {fd : FuncData} {ps : List Str} (F : FunD K x qual params body scope dvs kws f fd) (n : Nat) (ks : List Str) (g : {α : Type} → List α → List α → List α → List α) (hd : dvs ≠ [])
    (hrel : ∀ {vs ds zs : List V} {us its ws : List Value}, Vals vs us → Vals ds its → Vals zs ws → Vals (g vs ds zs) (g us its ws))
    (h : ∀ (T : Addr) (kV doc pm : Value) (an : Option Addr) (cdv ct : Value) (us its ws : List Value), us.length = n → its.length = dvs.length → ws.length = ks.length →
      ∃ k, bindArgs (PySem.W.fnOf x qual params body scope (.ref T) kV doc pm an cdv ct) ⟨us, ks.zip ws⟩ = seqItems? (.ref T) >>= k ∧ k (some its.toArray) = pure (ps.zip (g us its ws))) :
    ∃ its : List Value, KBn K fd ps n ks (fun us ws => g us its ws) (fun vs zs => g vs dvs zs) := by
  obtain ⟨oc, od, dV, kV, doc, pm, an, cdv, ct, osl, rfl, lk, hcd, hD, hK⟩ := F.ex
  rcases hD with ⟨e, _⟩ | ⟨_, T, o, its, m, rfl, lT, oT, rT⟩
  · exact absurd e hd
  · refine ⟨its, ⟨fun s us ws X l1 l2 => ?_, fun r1 r2 => hrel r1 rT r2⟩⟩
    obtain ⟨k, e1, e2⟩ := h T kV doc pm an cdv ct us its ws l1 rT.length.symm l2
    refine BindsTo.of_looks fun M => ?_
    rw [e1]
    exact looks_items X lT oT (.of_pure e2)
/-- Loop(signs, states, rows, turns, yes=yes) -/
def gL {α : Type} : List α → List α → List α → List α
  | [r, a, b, c, d], _, [y] => [r, a, b, c, d, y]
  | _, _, _ => []
theorem gL_rel {vs ds zs : List V} {us its ws : List Value} (a : Vals vs us) (b : Vals ds its) (c : Vals zs ws) : Vals (gL vs ds zs) (gL us its ws) := by
  cases a with
  | nil => exact .nil
  | cons p1 a => cases a with
    | nil => exact .nil
    | cons p2 a => cases a with
      | nil => exact .nil
      | cons p3 a => cases a with
        | nil => exact .nil
        | cons p4 a => cases a with
          | nil => exact .nil
          | cons p5 a => cases a with
            | cons _ _ => exact .nil
            | nil => cases c with
              | nil => exact .nil
              | cons q t => cases t with
                | cons _ _ => exact .nil
                | nil => exact .cons p1 (.cons p2 (.cons p3 (.cons p4 (.cons p5 (.cons q .nil)))))
def lf (z : Str) (t rr u y tb : Addr) : List (Str × V) := putF "_table" (.ref tb) (putF "_yes" (.ref y) (putF "_turns" (.ref u) (putF "_rows" (.ref rr) (putF "_states" (.ref t) (putF "_signs" (.str z) [])))))
/-- a loop stands at r: its class C, its table's class T -/
def LoopAt (C T : Addr) (H : Hp) (r : Addr) (L : LD) : Prop := ∃ (dx t rr u y tb : Addr) (as bs : List Addr), H r = some (.ins C dx (lf (S L.sg) t rr u y tb)) ∧ Prt L t rr u y as bs H ∧ TableAt T H tb L
theorem LoopAt.same {C T : Addr} {H H' : Hp} {r : Addr} {L : LD} (s : Same H H') : LoopAt C T H r L → LoopAt C T H' r L := fun ⟨dx, t, rr, u, y, tb, as, bs, a, b, c⟩ => ⟨dx, t, rr, u, y, tb, as, bs, s _ _ a, b.same s, c.same s⟩
/-- what the top has written of Loop -/
structure LTxt (K : PySem.W.Frag) (mg : Str → Option Value) (C : Addr) : Prop where
  cl : Cls K C
  n1 : NoAttr K C "_signs"
  n2 : NoAttr K C "_states"
  n3 : NoAttr K C "_rows"
  n4 : NoAttr K C "_turns"
  n5 : NoAttr K C "_yes"
  n6 : NoAttr K C "_table"
structure LA where
  (C T O fI fW fAn fSt fTx fGo fOf pW tI tG cI cP cB : Addr)
  (dI dW dAn dSt dTx dGo dOf etI etG ecI ecP ecB : FuncData)
  (signs signof first isword isname isint intfrom stateof rowof turnof chst chro chtu chye orro ortu orye : Addr)
  (dsigns dsignof dfirst disword disname disint dintfrom dstateof drowof dturnof dchst dchro dchtu dchye dorro dortu dorye : FuncData)
/-- what the top has written of loops, tables and courses -/
structure LoopF (K : PySem.W.Frag) (mg : Str → Option Value) (A : LA) (e : Addr) : Prop where
  L : LTxt K mg A.C
  T : TTxt K mg A.T
  O : CTxt K mg A.O
  gT : mg "Table" = some (.ref A.T)
  gO : mg "Course" = some (.ref A.O)
  gL : mg "Loop" = some (.ref A.C)
  ML : Mk K A.C A.fI
  MT : Mk K A.T A.tI
  MO : Mk K A.O A.cI
  FI : ∃ y : V, FunD K "__init__" "Loop.__init__" (defArgs sLoInit) (defBody sLoInit) (defScope sLoInit) [.ref e] [("yes", y)] A.fI A.dI
  kI : ∃ its : List Value, KBn K A.dI ["self", "signs", "states", "rows", "turns", "yes"] 5 ["yes"] (fun us ws => Wb.gL us its ws) (fun vs zs => Wb.gL vs [.ref e] zs)
  FW : Fun K "row" "Loop.row" sLoRow A.fW A.dW
  bW : Binds K A.dW ["self"] []
  hW : PropOf K A.C "row" A.pW A.fW
  FAn : Fun K "answer" "Loop.answer" sLoAnswer A.fAn A.dAn
  bAn : Binds K A.dAn ["self", "text", "lap"] []
  mAn : Meth K A.C "answer" A.fAn
  FSt : Fun K "state" "Loop.state" sLoState A.fSt A.dSt
  bSt : Binds K A.dSt ["self", "text", "rounds"] []
  mSt : Meth K A.C "state" A.fSt
  FTx : Fun K "_check_text" "Loop._check_text" sLoText A.fTx A.dTx
  bTx : Binds K A.dTx ["self", "text"] []
  mTx : Meth K A.C "_check_text" A.fTx
  FGo : Fun K "_gone" "Loop._gone" sLoGone A.fGo A.dGo
  bGo : Binds K A.dGo ["self", "text"] []
  mGo : Meth K A.C "_gone" A.fGo
  FOf : Fun K "_answer_of" "Loop._answer_of" sLoOf A.fOf A.dOf
  bOf : Binds K A.dOf ["self", "course", "counts", "lap"] []
  mOf : Meth K A.C "_answer_of" A.fOf
  TI : Fun K "__init__" "Table.__init__" sTaInit A.tI A.etI
  bTI : Binds K A.etI ["self", "row"] []
  TG : Fun K "gone" "Table.gone" sTaGone A.tG A.etG
  bTG : Binds K A.etG ["self", "text", "start"] []
  mTG : Meth K A.T "gone" A.tG
  OI : Fun K "__init__" "Course.__init__" sCoInit A.cI A.ecI
  bOI : Binds K A.ecI ["self", "leads"] []
  OP : Fun K "place" "Course.place" sCoPlace A.cP A.ecP
  bOP : Binds K A.ecP ["self", "rounds"] []
  mOP : Meth K A.O "place" A.cP
  OB : Fun K "behind" "Course.behind" sCoBehind A.cB A.ecB
  bOB : Binds K A.ecB ["self", "rounds"] []
  mOB : Meth K A.O "behind" A.cB
  signs : Def K mg "is_signs" sIsSigns ["value"] A.signs A.dsigns
  signof : Def K mg "is_sign_of" sSignOf ["value", "signs"] A.signof A.dsignof
  first : Def K mg "first_wrong" sFirst ["values", "right"] A.first A.dfirst
  isword : Def K mg "is_word" sIsWord ["value"] A.isword A.disword
  isname : Def K mg "is_name" sIsName ["value"] A.isname A.disname
  isint : Def K mg "is_integer" sIsInt ["value"] A.isint A.disint
  stateof : Def K mg "is_state_of" sStateOf ["value", "states"] A.stateof A.dstateof
  rowof : Def K mg "is_row_of" sRowOf ["value", "signs", "states"] A.rowof A.drowof
  turnof : Def K mg "is_turn_of" sTurnOf ["value", "states"] A.turnof A.dturnof
  chst : Def K mg "check_states" sChSt ["states"] A.chst A.dchst
  chro : Def K mg "check_rows" sChRo ["rows", "signs", "states"] A.chro A.dchro
  chtu : Def K mg "check_turns" sChTu ["turns", "states"] A.chtu A.dchtu
  chye : Def K mg "check_yes" sChYe ["yes", "states"] A.chye A.dchye
  orro : Def K mg "ordered_rows" sOrRo ["rows", "signs", "states"] A.orro A.dorro
  ortu : Def K mg "ordered_turns" sOrTu ["turns", "states"] A.ortu A.dortu
  orye : Def K mg "ordered_yes" sOrYe ["yes", "states"] A.orye A.dorye
  w600 : ∃ t : Tok, mg "MOST_WORD" = some (.int 600 t)
  w4 : ∃ t : Tok, mg "MOST_SIGNS" = some (.int 4 t)
  w8 : ∃ t : Tok, mg "MOST_NAME" = some (.int 8 t)
  w6 : ∃ t : Tok, mg "MOST_STATES" = some (.int 6 t)
  tup : mg "tuple" = none
  enum : mg "enumerate" = none
  zip : mg "zip" = none
  sort : mg "sorted" = none
/-! ### the mathematics -/
theorem nm_mem {L : LD} {i : Nat} (h : i < L.n) : L.nm i ∈ L.st := List.mem_of_getElem? (nm_at h)
theorem rows_key_nd {L : LD} (O : L.Ok) : (L.rows.map Row.k).Nodup := by
  unfold LD.rows
  rw [List.map_flatMap]
  have inner : ∀ i, ((L.sg.map (L.row i)).map Row.k) = L.sg.map fun c => (L.nm i, S [c]) := fun i => by rw [List.map_map] <;> rfl
  have e : ((List.range L.n).flatMap fun i => (L.sg.map (L.row i)).map Row.k) = (List.range L.n).flatMap fun i => L.sg.map fun c => (L.nm i, S [c]) := by
    congr 1
    funext i
    exact inner i
  rw [e]
  have gen : ∀ l : List Nat, l.Nodup → (∀ i ∈ l, i < L.n) → (l.flatMap fun i => L.sg.map fun c => (L.nm i, S [c])).Nodup := by
    intro l
    induction l with
    | nil => exact fun _ _ => List.nodup_nil
    | cons a l ih =>
      intro nd hl
      obtain ⟨h1, h2⟩ := List.nodup_cons.mp nd
      rw [List.flatMap_cons, List.nodup_append]
      refine ⟨List.Pairwise.map _ (fun b c h q => h (by
        injection q with _ q
        have := S_inj q
        injection this)) O.sgs.nd, ih h2 fun i hi => hl i (List.mem_cons_of_mem _ hi), fun x hx y hy q => ?_⟩
      subst q
      obtain ⟨c, _, rfl⟩ := List.mem_map.mp hx
      obtain ⟨b, hb, hy⟩ := List.mem_flatMap.mp hy
      obtain ⟨d, _, q⟩ := List.mem_map.mp hy
      injection q with q _
      have := nm_inj O (hl b (List.mem_cons_of_mem _ hb)) (hl a List.mem_cons_self) q
      exact h1 (this ▸ hb)
  exact gen _ List.nodup_range fun i hi => List.mem_range.mp hi
theorem rows_at {L : LD} {i j : Nat} {c : Nat} (hi : i < L.n) (hc : L.sg[j]? = some c) : L.rows[i * L.sg.length + j]? = some (L.row i c) := by
  have hj : j < L.sg.length := (List.getElem?_eq_some_iff.mp hc).1
  unfold LD.rows
  have gen : ∀ (l : List Nat) (i : Nat), i < l.length → (l.flatMap fun i => L.sg.map (L.row i))[i * L.sg.length + j]? = some (L.row (l.getD i 0) c) := by
    intro l
    induction l with
    | nil => exact fun _ h => nomatch h
    | cons a l ih =>
      intro i hi
      rw [List.flatMap_cons]
      cases i with
      | zero =>
        rw [Nat.zero_mul, Nat.zero_add, List.getElem?_append_left (by rw [List.length_map]; exact hj), List.getElem?_map, hc] <;> rfl
      | succ i =>
        rw [List.getElem?_append_right (by rw [List.length_map, Nat.add_mul]; omega), List.length_map, show (i + 1) * L.sg.length + j - L.sg.length = i * L.sg.length + j by rw [Nat.add_mul]; omega]
        exact ih i (by simpa using hi)
  have q := gen (List.range L.n) i (by rw [List.length_range]; exact hi)
  rw [q, List.getD_eq_getElem?_getD, List.getElem?_range hi] <;> rfl
theorem ok_st {L : LD} (O : L.Ok) {z : Str} (h : z ∈ L.st) : PyData.strOk z = true := by
  obtain ⟨l, rfl, N⟩ := O.sts.of z h
  unfold PyData.strOk
  rw [Array.all_eq_true]
  intro i hi
  have m : (S l).cps[i] ∈ l := by
    have q : (S l).cps[i] ∈ (S l).cps.toList := Array.mem_toList_iff.mpr (Array.getElem_mem hi)
    rwa [S_cps] at q
  have q := N.ok _ m
  simp only [decide_eq_true_eq]
  omega
theorem ok_sign {L : LD} (O : L.Ok) {c : Nat} (h : c ∈ L.sg) : PyData.strOk (S [c]) = true := by
  have q := O.sgs.low c h
  unfold PyData.strOk
  rw [Array.all_eq_true]
  intro i hi
  have m : (S [c]).cps[i] ∈ [c] := by
    have q : (S [c]).cps[i] ∈ (S [c]).cps.toList := Array.mem_toList_iff.mpr (Array.getElem_mem hi)
    rwa [S_cps] at q
  rw [List.mem_singleton.mp m]
  simp only [decide_eq_true_eq]
  omega
theorem turns_a {L : LD} : L.turns.map Trn.a = L.st := by
  refine List.ext_getElem? fun i => ?_
  rw [List.getElem?_map]
  by_cases h : i < L.n
  · rw [turns_at h, nm_at h] <;> rfl
  · have h' : ¬ i < L.st.length := h
    rw [List.getElem?_eq_none (by rw [turns_length]; omega), List.getElem?_eq_none (by omega)] <;> rfl
theorem yes_filter {L : LD} (O : L.Ok) : (L.st.filter fun z => decide (z ∈ L.yes)) = L.yes := by
  have e : L.st = (List.range L.n).map L.nm := by
    refine List.ext_getElem? fun i => ?_
    by_cases h : i < L.n
    · rw [nm_at h, List.getElem?_map, List.getElem?_range h] <;> rfl
    · have h' : ¬ i < L.st.length := h
      rw [List.getElem?_eq_none (by omega), List.getElem?_eq_none (by rw [List.length_map, List.length_range]; omega)]
  conv => lhs; rw [e]
  rw [List.filter_map]
  unfold LD.yes
  congr 1
  refine List.filter_congr fun i hi => ?_
  exact yes_at O (List.mem_range.mp hi)
theorem yes_sub {L : LD} : ∀ z ∈ L.yes, z ∈ L.st := fun z hz => by
  obtain ⟨i, hi, rfl⟩ := List.mem_map.mp hz
  exact nm_mem (List.mem_range.mp (List.mem_filter.mp hi).1)
theorem yes_nd {L : LD} (O : L.Ok) : L.yes.Nodup := by
  rw [← yes_filter O]
  exact O.sts.nd.filter _
theorem yes_few {L : LD} (O : L.Ok) : L.yes.length ≤ 6 := by
  rw [← yes_filter O]
  exact Nat.le_trans (List.length_filter_le _ _) O.sts.few
end Wb
/-! a loop is made: the defs -/
namespace Wb
open PySem L2 WbMin WbS Lz
theorem Prt.row {L : LD} {t rr u y q : Addr} {as bs : List Addr} {H : Hp} (h : Prt L t rr u y as bs H) (e : H q = some (.tup [.str (S L.sg), .ref t, .ref rr, .ref u, .ref y])) : RowAt H q L :=
  ⟨t, rr, u, y, as, bs, e, h.ht, h.hr, h.hT, h.hu, h.hU, h.hy⟩
def spLoRow (C : Addr) : Sp := fun vs H Q _ => ∃ (r dx t rr u y : Addr) (fs : List (Str × V)) (z : Str), vs = [.ref r] ∧ H r = some (.ins C dx fs) ∧ fs.lookup ("_signs" : Str) = some (.str z) ∧ fs.lookup ("_states" : Str) = some (.ref t) ∧ fs.lookup ("_rows" : Str) = some (.ref rr) ∧ fs.lookup ("_turns" : Str) = some (.ref u) ∧ fs.lookup ("_yes" : Str) = some (.ref y) ∧
  ∀ q, H q = none → Q (.ref q) (L2.upd H q (.tup [.str z, .ref t, .ref rr, .ref u, .ref y]))
section
variable {P : Program} {w : World} {K : PySem.W.Frag} {mg : Str → Option Value} {base : Heap} {A : LA} {e : Addr}
theorem scLR : FnScope ["self"] ["self"] (defScope sLoRow) := ⟨rfl, rfl, rfl, by decide +kernel, rfl, by decide +kernel, by decide +kernel⟩
theorem ok_lorow (D : LoopF K mg A e) : FnOk P w K mg base CX0 1 A.fW A.dW ["self"] (spLoRow A.C) := by
  refine D.FW.ok scLR (fun vs H Q E h => ?_) (fun cdv A' outer s H vs Q E hr h => ?_)
  · obtain ⟨r, dx, t, rr, u, y, fs, z, rfl, _⟩ := h
    rfl
  · obtain ⟨r, dx, t, rr, u, y, fs, z, rfl, h0, l1, l2, l3, l4, l5, k⟩ := h
    refine ⟨_, pss_one (ps_ret (pe_tup (pa_cons (pe_fld (pv 0) rfl) (pa_cons (pe_fld (pv 0) rfl) (pa_cons (pe_fld (pv 0) rfl) (pa_cons (pe_fld (pv 0) rfl) (pa_cons (pe_fld (pv 0) rfl) pa_nil))))))), ?_⟩
    exact ⟨_, rfl, r, A.C, dx, _, _, rfl, h0, D.L.cl, D.L.n1, l1, _, rfl, r, A.C, dx, _, _, rfl, h0, D.L.cl, D.L.n2, l2, _, rfl, r, A.C, dx, _, _, rfl, h0, D.L.cl, D.L.n3, l3, _, rfl, r, A.C, dx, _, _, rfl, h0, D.L.cl, D.L.n4, l4, _, rfl, r, A.C, dx, _, _, rfl, h0, D.L.cl, D.L.n5, l5, (by show 5 ≤ sizeLine; decide), fun q hq => k q hq⟩
theorem scLI : FnScope ["self", "signs", "states", "rows", "turns", "yes"] ["self", "signs", "states", "rows", "turns", "yes"] (defScope sLoInit) := ⟨rfl, rfl, rfl, by decide +kernel, rfl, by decide +kernel, by decide +kernel⟩
end
end Wb
/-! a loop is asked -/
namespace Wb
open PySem L2 WbMin WbS Lz
abbrev sIsIntF : Stmt := top 9
/-- where a round leads, and its count -/
def LD.lead (L : LD) (w : List Nat) (i : Nat) : Nat := (L.gone w i).1
def LD.cnt (L : LD) (w : List Nat) (i : Nat) : Int := (L.gone w i).2
theorem lf_none (z : Str) (t rr u y tb : Addr) : (lf z t rr u y tb).lookup ("_check_text" : Str) = none ∧ (lf z t rr u y tb).lookup ("_gone" : Str) = none ∧ (lf z t rr u y tb).lookup ("_answer_of" : Str) = none ∧ (lf z t rr u y tb).lookup ("answer" : Str) = none ∧ (lf z t rr u y tb).lookup ("state" : Str) = none := by
  unfold lf
  refine ⟨?_, ?_, ?_, ?_, ?_⟩ <;> (repeat rw [lookup_putF, if_neg (by decide +kernel)]) <;> rfl
section
variable {P : Program} {w : World} {K : PySem.W.Frag} {mg : Str → Option Value} {base : Heap} {A : LA} {e : Addr} {f fI : Addr} {fd dI : FuncData}
end
end Wb
/-! the errors that the program raises itself: made, raised, asked for what they keep -/
namespace Wb
open PySem L2 PySem.Spec PyProof.Rows
section
variable {P : Program} {w : World} {K : PySem.W.Frag} {mg : Str → Option Value} {base : Heap}
/-- as Fun.ok, for a def that lets errors out; of their context it is told that it is None -/
theorem okN {x qual : Str} {st : Stmt} {f : Addr} {fd : FuncData} {N ps : List Str} {k : Nat} {sp : Sp} (F : Fun K x qual st f fd) (S : FnScope N ps (defScope st)) (len : ∀ vs H Q E, sp vs H Q E → vs.length = ps.length)
    (body : ∀ (cdv : Value) (A : Around) (outer : List Env) (s : Shared) (H : Hp) (vs : List V) (Q : VK) (E : XK), Room k (A.deeper (envOfC qual (defScope st) s.heap.objs.size f cdv)) → sp vs H Q E →
      ∃ t, PSs (cxOf (L2N.CX P w) P w K mg base N qual (defScope st) f cdv A outer s H E) (defBody st) t ∧ t { nx := fun _ H' => Q .non H', rt := Q } (L2.start N vs) H) : FnOk P w K mg base (L2N.CX P w) (k + 1) f fd ps sp := by
  obtain ⟨_, _, _, _, _, _, _, _, _, rfl, at_, code⟩ := F.ex
  exact fn_of at_ code S len (body _)
/-- what never raises keeps its promise whatever is told of errors -/
theorem FnOk.calm {CX : CXT} {k : Nat} {f : Addr} {fd : FuncData} {ps : List Str} {sp : Sp} (F : FnOk P w K mg base CX0 k f fd ps sp) : FnOk P w K mg base CX k f fd ps sp :=
  ⟨F.len, fun A outer s H args us vs Q E hr e0 hb r h => codeAny_mono (F.run A outer s H args us vs Q E hr e0 hb r h) fun res s' q => by
    cases res with
    | error e => exact (show False from q).elim
    | ok fl => cases fl <;> exact q⟩
theorem FnOk.either {CX : CXT} {k : Nat} {f : Addr} {fd : FuncData} {ps : List Str} {sp sp' : Sp} (F : FnOk P w K mg base CX k f fd ps sp) (G : FnOk P w K mg base CX k f fd ps sp') : FnOk P w K mg base CX k f fd ps (fun vs H Q E => sp vs H Q E ∨ sp' vs H Q E) :=
  ⟨fun vs H Q E h => h.elim (F.len vs H Q E) (G.len vs H Q E), fun A outer s H args us vs Q E hr e0 hb r h => h.elim (F.run A outer s H args us vs Q E hr e0 hb r) (G.run A outer s H args us vs Q E hr e0 hb r)⟩
end
def spErr (C : Addr) (g : Str) : Sp := fun vs H Q _ => ∃ (a : Addr) (y : V), vs = [.ref a, y] ∧ H a = some (exo a C none) ∧ ∀ d, H d = none → d ≠ a → Q .non (upd (upd H d (exd d [(g, y)])) a (exo a C (some d)))
/-- what the top has written of an error x whose attribute is g -/
structure ErrF (K : PySem.W.Frag) (mg : Str → Option Value) (x g qual : Str) (st : Stmt) (C f : Addr) (fd : FuncData) : Prop where
  o : OexC K C
  xf : XfC K C
  no : PySem.W.findIn K (.ref C) g = some none
  ini : PySem.W.findIn K (.ref C) "__init__" = some (some (.ref f))
  fn : PySem.W.typeIn K (.ref f) = some (.type "function")
  F : Fun K "__init__" qual st f fd
  b : Binds K fd ["self", g] []
  g : mg x = some (.ref C)
/-- raise C(y), y in slot i -/
def tBad (C : Addr) (g : Str) (W : WX) (i : Nat) : TS := fun _ σ H => ∃ v, σ[i]? = some (some v) ∧ ∀ d, H d = none → W (.ref C) (some d) σ (upd H d (.xd [(g, v)]))
theorem dict_left {H : Hp} {a d : Addr} {u1 u2 u3 o : HO} (ha : H a = none) (_ : d ≠ a) : upd (del (upd (upd (upd H a u1) d u2) a u3) a) d o = upd H d o := by
  funext b
  by_cases e : b = d
  · rw [e, upd_same, upd_same]
  · rw [upd_ne e, upd_ne e]
    by_cases e2 : b = a
    · rw [e2, del_same, ha]
    · rw [del_ne e2, upd_ne e2, upd_ne e, upd_ne e2]
section
variable {X : Cx} {W : WX} {C f : Addr} {fd : FuncData} {x g qual y : Str} {st : Stmt} {k i : Nat} {p p0 pos pos2 : Pos}
theorem ps_bad (E : ErrF X.K X.mg x g qual st C f fd) (F1 : FnOk X.prog X.w X.K X.mg X.base CX0 k f fd ["self", g] (spErr C g)) (hr : Room (k + 1) X.A) (calm : X.calm = true) (tk : L2N.Takes X W) (gl : Gl X x) (ha : PE X (.Name y p0) (tVar i))
    (nd : (x == ("__debug__" : Str)) = false := by decide) : PS X (.Raise (some (.Call (.Name x p) [.Name y p0] [] pos)) none pos2) (tBad C g W i) := by
  refine ⟨fun pins s σ H D I h => (L2N.ps_raise calm tk (Le.pmk_calm (CX := CX0) E.o E.ini E.fn F1 hr E.b (fun _ _ _ _ _ _ _ z => z.elim) gl E.g (pa_cons ha pa_nil) nd rfl rfl)).run pins s σ H D I ?_⟩
  obtain ⟨v, hv, q⟩ := h
  refine ⟨v, hv, (by show 1 ≤ 1000; decide), fun a na => ⟨a, v, rfl, upd_same, fun d nd ne => ⟨rfl, d, [(g, v)], upd_same, ?_, ?_, ?_⟩⟩⟩
  · rw [upd_ne ne, upd_same]
  · rw [upd_ne ne] at nd
    exact nd
  · have nd' : H d = none := by
      rw [upd_ne ne] at nd
      exact nd
    rw [dict_left na ne]
    exact q d nd'
end
section
variable {P : Program} {w : World} {K : PySem.W.Frag} {mg : Str → Option Value} {base : Heap} {C f : Addr} {fd : FuncData}
end
end Wb
/-! the ways of a statement, an expression and a test brought together -/
namespace Lz
open PySem PySem.Spec PyProof.Rows L2
section
variable {X : Cx}
def tJoin (t : TS) : TS := fun D σ H => ∃ T : L2.St → Hp → Prop, t { D with nx := T } σ H ∧ ∀ σ' H', T σ' H' → D.nx σ' H'
theorem ps_join {st : Stmt} {t : TS} (h : PS X st t) : PS X st (tJoin t) := by
  refine ⟨fun pins s σ H D I ⟨T, q, k⟩ => thn (h.run pins s σ H _ I q) fun f s' z => ?_⟩
  cases f with
  | next => obtain ⟨σ', H', I', w⟩ := z; exact ⟨σ', H', I', k _ _ w⟩
  | ret u => exact z
  | brk => exact z
  | cont => exact z
def tJoinE (t : TE) : TE := fun σ H Q => ∃ T : V → Hp → Prop, t σ H T ∧ ∀ x H', T x H' → Q x H'
theorem pe_joinE {e : Expr} {t : TE} (h : PE X e t) : PE X e (tJoinE t) := by
  refine ⟨fun pins s σ H Q I ⟨T, q, k⟩ => thn (h.run pins s σ H _ I q) fun f s' z => ?_⟩
  obtain ⟨x, H', I', r, w⟩ := z
  exact ⟨x, H', I', r, k _ _ w⟩
end
end Lz
namespace Wb
open PySem L2 WbMin WbS Lz
abbrev sName : Stmt := top 62
abbrev sNames : Stmt := top 63
abbrev sAmount : Stmt := top 64
def spName : Sp := fun vs H Q _ => ∃ (p F : Addr) (zs : List Str), vs = [.ref p, .ref F] ∧ PoolAt H p ∧ H F = some (.lst (zs.map V.str)) ∧ (∀ z ∈ zs, ∃ l, z = S l ∧ IsNm l) ∧ zs.length ≤ 8 ∧
  ∀ (l : List Nat) (H' : Hp), IsNm l → S l ∉ zs → PoolAt H' p → But p H H' → Q (.str (S l)) H'
def spNames : Sp := fun vs H Q _ => ∃ (p : Addr) (m : Nat), vs = [.ref p, .int (m : Nat)] ∧ 0 < m ∧ m ≤ 6 ∧ PoolAt H p ∧
  ∀ (a : Addr) (st : List Str) (H' : Hp), Sts st → st.length = m → H' a = some (.lst (st.map V.str)) → H a = none → PoolAt H' p → But p H H' → Q (.ref a) H'
def spAmount : Sp := fun vs H Q _ => ∃ (p : Addr) (b : Bool), vs = [.ref p, .bl b] ∧ PoolAt H p ∧ ∀ (m : Int) (H' : Hp), m.natAbs < 2 ^ 100 → PoolAt H' p → But p H H' → Q (.int m) H'
theorem join_any (l : List Nat) : Txt.join (Str.ofString "") (l.map one) = S l := by
  cases l with
  | cons c l => exact join_one (Nat.succ_pos _)
  | nil =>
    have e0 : (Str.ofString "" : Str) = S [] := by decide +kernel
    rw [e0]
    show Builtin.Str.glued (S []) [] = S []
    rw [StrLaws.glued_eq_join] <;> rfl
theorem pool_ne {H : Hp} {p F : Addr} {zs : List Str} (hp : PoolAt H p) (h : H F = some (.lst (zs.map V.str))) : F ≠ p := by
  obtain ⟨x, y, z, e3, _⟩ := hp
  intro q
  subst q
  rw [e3] at h
  injection h with q
  injection q with q
  cases zs with
  | nil => cases q
  | cons a zs => cases q
theorem nat_of {d : Int} (h : 0 ≤ d) : ∃ n : Nat, d = (n : Int) := ⟨d.toNat, (Int.toNat_of_nonneg h).symm⟩
def marks : List Nat := abc ++ (List.range 10).map (· + 48)
theorem marks_is : ("abcdefghijklmnopqrstuvwxyz0123456789" : Str) = S marks := by decide +kernel
theorem marks_len : marks.length = 36 := rfl
theorem marks_ok : ∀ c ∈ marks, (97 ≤ c ∧ c ≤ 122) ∨ (48 ≤ c ∧ c ≤ 57) := by unfold marks abc; decide
theorem marks_lo : ∀ i, i < 26 → 97 ≤ marks.getD i 0 ∧ marks.getD i 0 ≤ 122 := by unfold marks abc; decide
theorem cut_to {l : List Nat} {i : Nat} : cutS (S l) none (some (i : Int)) = S (l.take i) := by
  show S _ = S _
  rw [HT.sIx_none, HT.sIx_nat, S_len, S_cps, List.drop_zero, Nat.sub_zero]
  refine congrArg S ?_
  by_cases h : i ≤ l.length
  · rw [Nat.min_eq_left h]
  · rw [Nat.min_eq_right (by omega), List.take_length, List.take_of_length_le (by omega)]
theorem cut_from {l : List Nat} {i : Nat} : cutS (S l) (some (i : Int)) none = S (l.drop i) := by
  show S _ = S _
  rw [HT.sIx_none, HT.sIx_nat, S_len, S_cps]
  refine congrArg S ?_
  by_cases h : i ≤ l.length
  · rw [Nat.min_eq_left h]
    exact List.take_of_length_le (by rw [List.length_drop]; omega)
  · rw [Nat.min_eq_right (by omega), Nat.sub_self, List.take_zero, List.drop_eq_nil_of_le (by omega)]
theorem eqv_nil {α : Type} (f : α → PyData) : ∀ zs : List α, PyData.eqv (.list (zs.map f)) (.list []) = zs.isEmpty
  | [] => rfl
  | _ :: _ => rfl
theorem dp_strs {K : PySem.W.Frag} {H : Hp} : ∀ zs : List Str, DpAll K H (zs.map V.str) (zs.map PyData.str)
  | [] => .nil
  | z :: r => .cons (.str z) (dp_strs r)
theorem can_strs : ∀ {zs : List Str}, (∀ z ∈ zs, PyData.strOk z = true) → PyData.canLayAll0 (zs.map PyData.str) = true
  | [], _ => rfl
  | z :: r, h => by
    show (PyData.strOk z && PyData.canLayAll0 (r.map PyData.str)) = true
    rw [h z List.mem_cons_self, can_strs fun y q => h y (List.mem_cons_of_mem _ q)] <;> rfl
theorem shaped_strs {zs : List Str} (h : ∀ z ∈ zs, PyData.strOk z = true) : SeqAt.shaped (.list (zs.map PyData.str)) = true := by
  have d : PyData.depth (.list (zs.map PyData.str)) = 1 := by
    show PyData.depthAll (zs.map PyData.str) + 1 = 1
    rw [depthAll_strs]
  unfold SeqAt.shaped
  rw [d]
  show (PyData.canLayAll0 (zs.map PyData.str) && decide (1 ≤ 64)) = true
  rw [can_strs h] <;> rfl
theorem ok_codes {l : List Nat} (h : ∀ c ∈ l, c < 1000) : PyData.strOk (S l) = true := by
  unfold PyData.strOk
  rw [Array.all_eq_true]
  intro i hi
  have m : (S l).cps[i] ∈ l := by
    have q : (S l).cps[i] ∈ (S l).cps.toList := Array.mem_toList_iff.mpr (Array.getElem_mem hi)
    rwa [S_cps] at q
  have q := h _ m
  simp only [decide_eq_true_eq]
  omega
theorem IsNm.low {l : List Nat} (h : IsNm l) : ∀ c ∈ l, c < 1000 := fun c hc => by
  have := h.ok c hc
  omega
/-- the spare names -/
def spare : List Str := (marks.take 9).map fun c => S [122, c]
theorem spare_nm : ∀ z ∈ spare, ∃ l, z = S l ∧ IsNm l := fun z hz => by
  obtain ⟨c, hc, rfl⟩ := List.mem_map.mp hz
  refine ⟨_, rfl, by show 0 < 2; decide, by show 2 ≤ 8; decide, ⟨by show 97 ≤ 122; decide, by show 122 ≤ 122; decide⟩, fun d hd => ?_⟩
  rcases List.mem_cons.mp hd with rfl | hd
  · exact .inl ⟨by decide, by decide⟩
  · rw [List.mem_singleton.mp hd]
    exact marks_ok c (List.mem_of_mem_take hc)
theorem spare_nd : spare.Nodup := List.Pairwise.map _ (fun a b n e => n (by
  have q := S_inj e
  injection q with _ q
  injection q)) (show (marks.take 9).Nodup by unfold marks abc; decide)
theorem spare_len : spare.length = 9 := rfl
theorem spare_left {zs : List Str} (h : zs.length ≤ 8) (x : Str) : 0 < ((x :: spare).filter fun z => !decide (z ∈ zs)).length := by
  apply Nat.pos_of_ne_zero
  intro e
  have all : ∀ z ∈ spare, z ∈ zs := fun z hz => by
    have q := List.filter_eq_nil_iff.mp (List.eq_nil_of_length_eq_zero e) z (List.mem_cons_of_mem _ hz)
    simpa using q
  have := few_of_sub zs spare spare_nd all
  rw [spare_len] at this
  omega
section
variable {P : Program} {w : World} {K : PySem.W.Frag} {mg : Str → Option Value} {base : Heap} {f fD fN : Addr} {fd fdD dN : FuncData}
abbrev NNm : List Str := ["_law_pool_here", "_law_found", "_law_marks", "_law_near", "_law_turn", "_law_old", "_law_at", "_law_spares", "_law_mate", "_law_mark"]
theorem scNN : FnScope NNm ["_law_pool_here", "_law_found"] (defScope sName) := ⟨rfl, rfl, rfl, by decide +kernel, rfl, by decide +kernel, by decide +kernel⟩
set_option maxHeartbeats 0 in
theorem ok_name (F : Fun K "_law_name" "_law_name" sName f fd) (D : Def K mg "_law_draw" sDraw ["_law_pool_here", "_law_many"] fD fdD) (Z : Free mg) : FnOk P w K mg base CX0 2 f fd ["_law_pool_here", "_law_found"] spName := by
  have G : FnOk P w K mg base CX0 1 fD fdD ["_law_pool_here", "_law_many"] spDraw := ok_draw D.F Z.int Z.divmod
  refine F.ok scNN (fun vs H Q E h => ?_) (fun cdv A outer s H vs Q E hr h => ?_)
  · obtain ⟨p, F, zs, rfl, _⟩ := h
    rfl
  · obtain ⟨p, F, zs, rfl, hp, hF, nms, few, k⟩ := h
    refine ⟨_, pss_cons (ps_set (i := 2) scNN.nd rfl (.inr rfl) pe_str)
      (pss_cons (ps_set (i := 3) scNN.nd rfl (.inl rfl) (pe_ix ix_str (pv 2) (pe_call G hr rfl D.g D.kp D.b .nil pass0 (pa_cons (pv 0) (pa_cons pe_int pa_nil))) (fun _ _ => rfl)))
      (pss_cons (ps_set (i := 3) scNN.nd rfl (.inl rfl) (pe_op op_add_str (pv 3) (pe_join pe_str
        (pe_lc (own := [("_law_turn", 4)]) (g := gName 4) (tt := tYes) rfl scNN.nd (pi_range1 rfl Z.range (pa_cons (pe_call G hr rfl D.g D.kp D.b .nil pass0 (pa_cons (pv 0) (pa_cons pe_int pa_nil))) pa_nil))
          (blkOk_by (N := NNm) (sc := defScope sName) (by decide +kernel)) (fun _ _ _ _ _ => pg_name (i := 4) scNN.nd rfl (.inl rfl)) (fun _ _ _ _ _ => pts_nil)
          (fun _ _ _ _ _ => pe_ix ix_str (pv 2) (pe_call G hr rfl D.g D.kp D.b .nil pass0 (pa_cons (pv 0) (pa_cons pe_int pa_nil))) (fun _ _ => rfl))))))
      (pss_cons (ps_join (ps_if (PW.pt (pw_and (pt_cmpR (op_neD hr.units) (pv 1) (pe_lst pa_nil) (nomark _)) (pw_and1 (pt_cmpR op_gt (pe_call G hr rfl D.g D.kp D.b .nil pass0 (pa_cons (pv 0) (pa_cons pe_int pa_nil))) pe_int (nomark _)))))
        (pss_cons (ps_set (i := 5) scNN.nd rfl (.inl rfl) (pe_ix ix_list (pv 1) (pe_call G hr rfl D.g D.kp D.b .nil pass0 (pa_cons (pv 0) (pa_cons (pe_callB call_len_seq (by rfl) Z.len PySem.boot_len (pa_cons (pv 1) pa_nil)) pa_nil))) (fun _ _ => rfl)))
        (pss_cons (ps_set (i := 6) scNN.nd rfl (.inl rfl) (pe_op op_add pe_int (pe_call G hr rfl D.g D.kp D.b .nil pass0 (pa_cons (pv 0) (pa_cons (pe_callB call_len_str (by rfl) Z.len PySem.boot_len (pa_cons (pv 5) pa_nil)) pa_nil)))))
        (pss_one (ps_set (i := 3) scNN.nd rfl (.inl rfl) (pe_slice sl_str (pe_op op_add_str (pe_op op_add_str (pe_slice sl_str (pv 5) po_none (po_some (pv 6))) (pe_ix ix_str (pv 2) (pe_call G hr rfl D.g D.kp D.b .nil pass0 (pa_cons (pv 0) (pa_cons pe_int pa_nil))) (fun _ _ => rfl)))
          (pe_slice sl_str (pv 5) (po_some (pe_op op_add (pv 6) (pe_call G hr rfl D.g D.kp D.b .nil pass0 (pa_cons (pv 0) (pa_cons pe_int pa_nil))))) po_none)) po_none (po_some pe_int)))))) pss_nil))
      (pss_cons (ps_setLc (i := 7) (own := [("_law_mate", 8)]) (g := gName 8) rfl scNN.nd rfl rfl (sw_true rfl rfl rfl (by decide +kernel)) (pi_list (pe_op op_cat (pe_lst (pa_cons (pv 3) pa_nil))
          (pe_lc (own := [("_law_mark", 9)]) (g := gName 9) (tt := tYes) rfl scNN.nd (pi_str (pe_slice sl_str (pv 2) po_none (po_some pe_int))) (blkOk_by (N := NNm) (sc := defScope sName) (by decide +kernel)) (fun _ _ _ _ _ => pg_name (i := 9) scNN.nd rfl (.inl rfl)) (fun _ _ _ _ _ => pts_nil) (fun _ _ _ _ _ => pe_op op_add_str pe_str (pv 9)))))
          (blkOk_by (N := NNm) (sc := defScope sName) (by decide +kernel)) (fun _ _ _ _ _ => pg_name (i := 8) scNN.nd rfl (.inl rfl)) (fun _ _ _ _ _ => pts_one (pt_cmpR (show OpR _ _ (rIn K true) from op_notIn_seq) (pv 8) (pv 1) (by rfl))) (fun _ _ _ _ _ => pv 8))
      (pss_one (ps_ret (pe_ix ix_list (pv 7) pe_int (fun _ _ => rfl)))))))), ?_⟩
    have sM : ("abcdefghijklmnopqrstuvwxyz0123456789" : Str).length ≤ sizeLine := by rw [marks_is, S_len, marks_len, sizeLine_eq]; decide
    have pick : ∀ {e : Int}, 0 ≤ e → e < 36 → ∃ c ∈ marks, atI ("abcdefghijklmnopqrstuvwxyz0123456789" : Str).cps.toList e = some c := fun {e} e0 e1 => by
      obtain ⟨i, rfl⟩ := nat_of e0
      refine ⟨marks.getD i 0, ?_, ?_⟩
      · have q := getD_at (l := marks) (i := i) (by rw [marks_len]; omega)
        exact List.mem_of_getElem? q
      · rw [marks_is, S_cps]
        exact atI_nat (getD_at (by rw [marks_len]; omega))
    have nF := pool_ne hp hF
    refine ⟨_, rfl, _, rfl, p, _, rfl, by decide, by decide, hp, fun d H1 d0 d1 hp1 b1 => ?_⟩
    obtain ⟨i0, rfl⟩ := nat_of d0
    have i0' : i0 < 26 := by omega
    refine ⟨_, _, marks.getD i0 0, rfl, rfl, sM, by rw [marks_is, S_cps]; exact atI_nat (getD_at (by rw [marks_len]; omega)), ?_⟩
    have c0 := marks_lo i0 i0'
    generalize marks.getD i0 0 = c at c0 ⊢
    refine ⟨_, rfl, ⟨_, rfl⟩, _, rfl, p, _, rfl, by decide, by decide, hp1, fun m H2 m0 m1 hp2 b2 => ?_⟩
    have b2 := b1.trans b2
    refine ⟨_, rfl, by omega, by omega, fun D0 hD => ?_⟩
    have hD0 : H D0 = none := b2.free hD (hp2.ne hD)
    have nD := hp2.ne hD
    refine lc_it walk_range (fun i H3 => ∃ l : List Nat, H3 D0 = some (.lst (l.map vOne)) ∧ l.length = i ∧ (∀ c ∈ l, c ∈ marks) ∧ PoolAt H3 p ∧ But p H H3) ⟨[], upd_same, rfl, (fun c hc => nomatch hc), hp2.up hD, b2.upd hD⟩ (fun _ _ _ _ => trivial) ?_ ?_
    · rintro i x H3 H3' hi ⟨l, h1, ll, sub, h2, h3⟩ ⟨rfl, rfl⟩
      refine ⟨rfl, _, rfl, _, rfl, p, _, rfl, by decide, by decide, h2, fun e H4 e0 e1 hp4 b4 => ?_⟩
      obtain ⟨c, cm, hat⟩ := pick e0 e1
      refine ⟨_, _, c, rfl, rfl, sM, hat, _, b4 D0 _ nD h1, ?_, l ++ [c], ?_, ?_, fun z hz => ?_, hp4.put nD, (h3.trans b4).new hD0⟩
      · rw [List.length_map, sizeLine_eq]; omega
      · rw [upd_same, List.map_append] <;> rfl
      · rw [List.length_append, ll] <;> rfl
      · rcases List.mem_append.mp hz with hz | hz
        · exact sub z hz
        · rw [List.mem_singleton.mp hz]
          exact cm
    · rintro H3 ⟨l, h1, ll, sub, hp3, b3⟩
      have l7 : l.length ≤ 7 := by omega
      have h1' : H3 D0 = some (.lst ((l.map one).map V.str)) := by rw [h1, List.map_map] <;> rfl
      refine ⟨_, D0, l.map one, rfl, rfl, .inl (SqL.of h1'), ?_, ?_⟩
      · have e1 : ((l.map one).map fun x => x.length) = List.replicate l.length 1 := by
          rw [List.map_map]
          exact List.map_eq_replicate_iff.mpr fun _ _ => rfl
        have e2 : (Str.ofString "").length = 0 := by decide +kernel
        rw [e1, e2, List.sum_replicate_nat]
        omega
      rw [join_any]
      refine ⟨_, _, rfl, rfl, by rw [S_len, sizeLine_eq]; show 1 + l.length ≤ 16777216; omega, ?_⟩
      have en : (⟨#[c]⟩ : Str) ++ S l = S (c :: l) := by
        rw [show (⟨#[c]⟩ : Str) = S [c] from rfl, S_add] <;> rfl
      rw [en]
      have nm0 : IsNm (c :: l) := ⟨Nat.succ_pos _, by show l.length + 1 ≤ 8; omega, c0, fun d hd => by
        rcases List.mem_cons.mp hd with rfl | hd
        · exact .inl c0
        · exact marks_ok d (sub d hd)⟩
      refine ⟨fun σ H' => ∃ (l : List Nat) (v5 v6 : Option V), σ = [some (.ref p), some (.ref F), some (.str ("abcdefghijklmnopqrstuvwxyz0123456789" : Str)), some (.str (S l)), none, v5, v6, none, none, none] ∧ IsNm l ∧ PoolAt H' p ∧ But p H H', ?_, ?_⟩
      · have hF3 := b3 F _ nF hF
        refine ⟨_, rfl, by show 0 ≤ sizeLine; decide, fun M hM => ?_⟩
        have nM := hp3.ne hM
        have hF4 : (L2.upd H3 M (.lst [])) F = some (.lst (zs.map V.str)) := ((But.refl p H3).upd hM) _ _ nF hF3
        have hp4 := hp3.put (o := .lst []) nM
        have b4 := b3.upd (o := .lst []) hM
        have hM4 : (L2.upd H3 M (.lst [])) M = some (.lst []) := upd_same
        generalize L2.upd H3 M (.lst []) = H4 at hF4 hp4 b4 hM4 ⊢
        have oks : ∀ z ∈ zs, PyData.strOk z = true := fun z hz => by
          obtain ⟨l, rfl, N⟩ := nms z hz
          exact ok_codes N.low
        refine ⟨.list (zs.map PyData.str), .list [], .lst (SqL.of hF4) (dp_strs zs), .lst (SqL.of hM4) .nil, shaped_strs oks, rfl, _, rfl, ?_⟩
        rw [eqv_nil]
        show if (!zs.isEmpty) = true then _ else _
        cases hz : zs.isEmpty with
        | true => exact iteF (iteF ⟨c :: l, none, none, rfl, nm0, hp4, b4⟩)
        | false =>
          refine iteT ?_
          have zpos : 0 < zs.length := by
            cases zs with
            | nil => cases hz
            | cons _ _ => exact Nat.succ_pos _
          refine ⟨_, rfl, p, _, rfl, by decide, by decide, hp4, fun d H5 d0 d1 hp5 b5 => ?_⟩
          have b45 := b4.trans b5
          refine ⟨_, _, rfl, rfl, _, rfl, ite2 (fun _ => ?_) (fun _ => ⟨c :: l, none, none, rfl, nm0, hp5, b45⟩)⟩
          have hF5 := b5 F _ nF hF4
          refine ⟨_, rfl, _, rfl, _, rfl, F, _, rfl, .inl (SqL.of hF5), p, _, rfl, by rw [List.length_map]; omega, by rw [List.length_map]; omega, hp5, fun e H6 e0 e1 hp6 b6 => ?_⟩
          rw [List.length_map] at e1
          obtain ⟨j, rfl⟩ := nat_of e0
          have hj : j < zs.length := by omega
          have ez : zs[j]? = some zs[j] := List.getElem?_eq_getElem hj
          obtain ⟨lo, eo, No⟩ := nms _ (List.mem_of_getElem? ez)
          rw [eo] at ez
          have b56 := b45.trans b6
          have npos := No.pos
          have nfew := No.few
          refine ⟨F, _, _, _, rfl, rfl, SqL.of (b6 F _ nF hF5), atI_nat (map_get (g := V.str) ez), ?_⟩
          refine ⟨_, rfl, _, rfl, _, rfl, No.fits, p, _, rfl, by rw [S_len]; omega, by rw [S_len]; omega, hp6, fun e H7 e0 e1 hp7 b7 => ?_⟩
          rw [S_len] at e1
          obtain ⟨a, rfl⟩ := nat_of e0
          have ha : a < lo.length := by omega
          have b67 := b56.trans b7
          refine ⟨_, _, rfl, rfl, ?_⟩
          have e1a : (1 : Int) + (a : Int) = ((1 + a : Nat) : Int) := by omega
          refine ⟨_, rfl, _, rfl, _, rfl, S lo, rfl, No.fits, ?_⟩
          rw [e1a, cut_to]
          refine ⟨_, rfl, _, rfl, p, _, rfl, by decide, by decide, hp7, fun e H8 e0 e1 hp8 b8 => ?_⟩
          obtain ⟨x, xm, hat⟩ := pick e0 e1
          have b78 := b67.trans b8
          refine ⟨_, _, x, rfl, rfl, sM, hat, ?_⟩
          refine ⟨_, _, rfl, rfl, by rw [S_len, sizeLine_eq, List.length_take]; show _ + 1 ≤ 16777216; omega, ?_⟩
          rw [show (⟨#[x]⟩ : Str) = S [x] from rfl, S_add]
          refine ⟨_, rfl, _, rfl, _, rfl, p, _, rfl, by decide, by decide, hp8, fun e H9 e0 e1 hp9 b9 => ?_⟩
          obtain ⟨b, rfl⟩ := nat_of e0
          have b89 := b78.trans b9
          refine ⟨_, _, rfl, rfl, _, rfl, S lo, rfl, No.fits, ?_⟩
          have e1b : (1 : Int) + (a : Int) + (b : Int) = ((1 + a + b : Nat) : Int) := by omega
          rw [e1b, cut_from]
          refine ⟨_, _, rfl, rfl, by rw [S_len, S_len, sizeLine_eq, List.length_append, List.length_take, List.length_drop]; show _ + 1 + _ ≤ 16777216; omega, ?_⟩
          rw [S_add]
          refine ⟨8, rfl, _, rfl, by rw [S_len, sizeLine_eq, List.length_append, List.length_append, List.length_take, List.length_drop]; show _ + 1 + _ ≤ 16777216; omega, ?_⟩
          rw [show (8 : Int) = ((8 : Nat) : Int) from rfl, cut_to]
          refine ⟨((lo.take (1 + a) ++ [x]) ++ lo.drop (1 + a + b)).take 8, _, _, rfl, ?_, hp9, b89⟩
          cases lo with
          | nil => exact absurd npos (Nat.lt_irrefl 0)
          | cons y lo =>
            rw [show 1 + a = a + 1 from Nat.add_comm 1 a, List.take_succ_cons]
            refine ⟨?_, ?_, ?_, fun d hd => ?_⟩
            · show 0 < (y :: _).length
              exact Nat.succ_pos _
            · rw [List.length_take]; omega
            · exact No.hd
            · have hd := List.mem_of_mem_take hd
              rcases List.mem_append.mp hd with hd | hd
              · rcases List.mem_append.mp hd with hd | hd
                · exact No.ok d (by
                    rcases List.mem_cons.mp hd with rfl | hd
                    · exact List.mem_cons_self
                    · exact List.mem_cons_of_mem _ (List.mem_of_mem_take hd))
                · rw [List.mem_singleton.mp hd]
                  exact marks_ok x xm
              · exact No.ok d (List.mem_of_mem_drop hd)
      · rintro σ H4 ⟨l, v5, v6, rfl, N, hp4, b4⟩
        have hF4 := b4 F _ nF hF
        refine ⟨_, rfl, by show 1 ≤ sizeLine; decide, fun M hM => ?_⟩
        have nM := hp4.ne hM
        have hM5 : (L2.upd H4 M (.lst [.str (S l)])) M = some (.lst [.str (S l)]) := upd_same
        have hp5 := hp4.put (o := .lst [.str (S l)]) nM
        have b5 := b4.upd (o := .lst [.str (S l)]) hM
        generalize L2.upd H4 M (.lst [.str (S l)]) = H5 at hM5 hp5 b5 ⊢
        refine ⟨_, rfl, 9, rfl, _, rfl, sM, _, rfl, fun E0 hE => ?_⟩
        have nE := hp5.ne hE
        rw [show (9 : Int) = ((9 : Nat) : Int) from rfl, marks_is, cut_to]
        refine lc_it walk_str (fun i H6 => H6 E0 = some (.lst ((((marks.take 9).take i).map fun c => S [122, c]).map V.str)) ∧ Same H5 H6) ⟨upd_same, Same.put (Same.refl H5) hE⟩ (fun _ _ _ _ => trivial) ?_ ?_
        · rintro i x H6 H6' hi ⟨g1, g2⟩ ⟨rfl, c, hc, rfl⟩
          have hc' : (marks.take 9)[i]? = some c := k_in_S hc
          rw [S_size] at hi
          have l9 : (marks.take 9).length = 9 := rfl
          refine ⟨rfl, _, rfl, _, _, rfl, rfl, by show 1 + 1 ≤ sizeLine; decide, _, g1, ?_, ?_, Same.new' g2 hE⟩
          · rw [List.length_map, List.length_map, List.length_take, sizeLine_eq]
            omega
          · rw [upd_same, take_more hc', List.map_append, List.map_append] <;> rfl
        · rintro H6 ⟨g1, g2⟩
          have g1 : H6 E0 = some (.lst (spare.map V.str)) := g1
          have hM6 := g2 _ _ hM5
          have hp6 : PoolAt H6 p := by
            obtain ⟨a, b, c, e, r⟩ := hp5
            exact ⟨a, b, c, g2 _ _ e, r⟩
          have b6 := b5.trans (But.of g2)
          refine ⟨M, E0, _, _, rfl, rfl, hM6, g1, by rw [List.length_map, spare_len, sizeLine_eq]; show 1 + 9 ≤ 16777216; decide, fun C0 hC => ?_⟩
          have nC := hp6.ne hC
          have hC7 : (L2.upd H6 C0 (.lst ([.str (S l)] ++ spare.map V.str))) C0 = some (.lst ((S l :: spare).map V.str)) := upd_same
          have hp7 := hp6.put (o := .lst ([.str (S l)] ++ spare.map V.str)) nC
          have b7 := b6.upd (o := .lst ([.str (S l)] ++ spare.map V.str)) hC
          generalize L2.upd H6 C0 (.lst ([.str (S l)] ++ spare.map V.str)) = H7 at hC7 hp7 b7 ⊢
          refine ⟨C0, rfl, ⟨_, SqL.of hC7⟩, fun R hR => ?_⟩
          have nR := hp7.ne hR
          have hF7 := b7 F _ nF hF
          refine lc_it (walk_list (xs := (S l :: spare).map V.str)) (fun i H8 => H8 R = some (.lst ((((S l :: spare).take i).filter fun z => !decide (z ∈ zs)).map V.str)) ∧ Same H7 H8) ⟨upd_same, Same.put (Same.refl H7) hR⟩ (fun _ _ _ h => SqL.of (h.2 _ _ hC7)) ?_ ?_
          · rintro i x H8 H8' hi ⟨q1, q2⟩ ⟨rfl, hx⟩
            rw [List.getElem?_map] at hx
            obtain ⟨z, hz, rfl⟩ := Option.map_eq_some_iff.mp hx
            refine ⟨rfl, _, rfl, _, rfl, F, _, rfl, .inl (SqL.of (q2 _ _ hF7)), rfl, flat_strs _, _, rfl, ?_⟩
            rw [inV_strs]
            refine ite2 (fun e => ?_) (fun e => ?_)
            · refine ⟨_, rfl, _, q1, ?_, ?_, Same.new' q2 hR⟩
              · rw [List.length_map, sizeLine_eq]
                have h1 := List.length_filter_le (fun z => !decide (z ∈ zs)) ((S l :: spare).take i)
                have h2 := List.length_take_le' i (S l :: spare)
                have h3 : (S l :: spare).length = 10 := rfl
                omega
              · rw [upd_same, take_more hz, List.filter_append, show ([z].filter fun z => !decide (z ∈ zs)) = [z] from List.filter_cons_of_pos e, List.map_append] <;> rfl
            · refine ⟨?_, q2⟩
              rw [q1, take_more hz, List.filter_append, show ([z].filter fun z => !decide (z ∈ zs)) = [] from List.filter_cons_of_neg e, List.append_nil]
          · rintro H8 ⟨q1, q2⟩
            rw [List.length_map, List.take_length] at q1
            have pos := spare_left few (S l)
            have hz : ((S l :: spare).filter fun z => !decide (z ∈ zs))[0]? = some _ := List.getElem?_eq_getElem pos
            generalize ((S l :: spare).filter fun z => !decide (z ∈ zs))[0] = z at hz
            have mz := List.mem_of_getElem? hz
            obtain ⟨z1, z2⟩ := List.mem_filter.mp mz
            have z3 : z ∉ zs := by simpa using z2
            have hp8 : PoolAt H8 p := by
              obtain ⟨a, b, c, e, r⟩ := hp7
              exact ⟨a, b, c, q2 _ _ e, r⟩
            refine ⟨_, rfl, R, _, _, _, rfl, rfl, SqL.of q1, atI_nat (j := 0) (map_get (g := V.str) hz), ?_⟩
            rcases List.mem_cons.mp z1 with rfl | z1
            · exact k l H8 N z3 hp8 (b7.trans (But.of q2))
            · obtain ⟨l', rfl, N'⟩ := spare_nm z z1
              exact k l' H8 N' z3 hp8 (b7.trans (But.of q2))
end
end Wb
/-! drawn names and amounts -/
namespace Wb
open PySem L2 WbMin WbS Lz
section
variable {P : Program} {w : World} {K : PySem.W.Frag} {mg : Str → Option Value} {base : Heap} {f fD fN : Addr} {fd fdD dN : FuncData}
abbrev NNs : List Str := ["_law_pool_here", "_law_many", "_law_found", "_law_turn"]
theorem scNs : FnScope NNs ["_law_pool_here", "_law_many"] (defScope sNames) := ⟨rfl, rfl, rfl, by decide +kernel, rfl, by decide +kernel, by decide +kernel⟩
theorem ok_names (F : Fun K "_law_names" "_law_names" sNames f fd) (D : Def K mg "_law_draw" sDraw ["_law_pool_here", "_law_many"] fD fdD) (DN : Def K mg "_law_name" sName ["_law_pool_here", "_law_found"] fN dN) (Z : Free mg) : FnOk P w K mg base CX0 3 f fd ["_law_pool_here", "_law_many"] spNames := by
  have G : FnOk P w K mg base CX0 2 fN dN ["_law_pool_here", "_law_found"] spName := ok_name DN.F D Z
  refine F.ok scNs (fun vs H Q E h => ?_) (fun cdv A outer s H vs Q E hr h => ?_)
  · obtain ⟨p, m, rfl, _⟩ := h
    rfl
  · obtain ⟨p, m, rfl, m0, m6, hp, k⟩ := h
    refine ⟨_, pss_cons (ps_set (i := 2) scNs.nd rfl (.inl rfl) (pe_lst pa_nil))
      (pss_cons (ps_for PassesOwn.never rfl (pi_range1 rfl Z.range (pa_cons (pv 1) pa_nil)) (pg_name (i := 3) scNs.nd rfl (.inl rfl))
        (pss_one (ps_expr (pe_bm PySem.F.plainAttrs_list PySem.F.slot_list_append PySem.F.type_list_append mt_append (pv 2) (pa_cons (pe_call G hr rfl DN.g DN.kp DN.b .nil pass0 (pa_cons (pv 0) (pa_cons (pv 2) pa_nil))) pa_nil)))))
      (pss_one (ps_ret (pv 2)))), ?_⟩
    refine ⟨by show 0 ≤ sizeLine; decide, fun a ha => ?_⟩
    have na := hp.ne ha
    refine ⟨_, rfl, _, rfl, by omega, by omega, for_it walk_range (fun i σ H' => ∃ (zs : List Str) (v3 : Option V), σ = [some (.ref p), some (.int (m : Nat)), some (.ref a), v3] ∧ zs.length = i ∧ zs.Nodup ∧ (∀ z ∈ zs, ∃ l, z = S l ∧ IsNm l) ∧ H' a = some (.lst (zs.map V.str)) ∧ PoolAt H' p ∧ But p H H')
      ⟨[], none, rfl, rfl, List.nodup_nil, (fun z hz => nomatch hz), upd_same, hp.put na, (But.refl p H).upd ha⟩ (fun _ _ _ _ _ => trivial) ?_ ?_⟩
    · rintro i x σ H2 H3 hi ⟨zs, v3, rfl, lz, nd, nms, h1, hp2, b2⟩ ⟨rfl, rfl⟩
      refine ⟨_, rfl, .inl ⟨rfl, _, SqL.of h1⟩, _, rfl, _, rfl, p, a, zs, rfl, hp2, h1, nms, by omega, fun l H4 N new hp4 b4 => ?_⟩
      refine ⟨a, _, _, rfl, rfl, b4 a _ na h1, by rw [List.length_map, sizeLine_eq]; omega, zs ++ [S l], _, rfl, ?_, ?_, ?_, ?_, hp4.put na, (b2.trans b4).new ha⟩
      · rw [List.length_append, lz] <;> rfl
      · rw [List.nodup_append]
        exact ⟨nd, by simp, fun x hx y hy q => new (by rw [← List.mem_singleton.mp hy, ← q]; exact hx)⟩
      · intro z hz
        rcases List.mem_append.mp hz with hz | hz
        · exact nms z hz
        · rw [List.mem_singleton.mp hz]
          exact ⟨l, rfl, N⟩
      · rw [upd_same, List.map_append] <;> rfl
    · rintro σ H2 ⟨zs, v3, rfl, lz, nd, nms, h1, hp2, b2⟩
      exact ⟨_, rfl, k a zs H2 ⟨nms, nd, by omega, by omega⟩ (by omega) h1 ha hp2 b2⟩
theorem scAmt : FnScope ["_law_pool_here", "_law_great", "_law_way"] ["_law_pool_here", "_law_great"] (defScope sAmount) := ⟨rfl, rfl, rfl, by decide +kernel, rfl, by decide +kernel, by decide +kernel⟩
theorem ok_amount (F : Fun K "_law_amount" "_law_amount" sAmount f fd) (D : Def K mg "_law_draw" sDraw ["_law_pool_here", "_law_many"] fD fdD) (Z : Free mg) : FnOk P w K mg base CX0 2 f fd ["_law_pool_here", "_law_great"] spAmount := by
  have G : FnOk P w K mg base CX0 1 fD fdD ["_law_pool_here", "_law_many"] spDraw := ok_draw D.F Z.int Z.divmod
  refine F.ok scAmt (fun vs H Q E h => ?_) (fun cdv A outer s H vs Q E hr h => ?_)
  · obtain ⟨p, b, rfl, _⟩ := h
    rfl
  · obtain ⟨p, b, rfl, hp, k⟩ := h
    refine ⟨_, pss_cons (ps_set (i := 2) scAmt.nd rfl (.inl rfl) (pe_call G hr rfl D.g D.kp D.b .nil pass0 (pa_cons (pv 0) (pa_cons pe_int pa_nil))))
      (pss_cons (ps_if (pt_cmpR op_lt (pv 2) pe_int (nomark _)) (pss_one (ps_ret (pe_op op_sub (pe_call G hr rfl D.g D.kp D.b .nil pass0 (pa_cons (pv 0) (pa_cons pe_int pa_nil))) pe_int))) pss_nil)
      (pss_cons (ps_if (PW.pt (pw_or (pt_cmpR op_lt (pv 2) pe_int (nomark _)) (pw_or1 (pt_not (pt_val (pv 1)))))) (pss_one (ps_ret (pe_op op_sub (pe_call G hr rfl D.g D.kp D.b .nil pass0 (pa_cons (pv 0) (pa_cons pe_int pa_nil))) pe_int))) pss_nil)
      (pss_one (ps_ret (pe_ix ix_list (pe_lst (pa_cons (pe_op op_pow pe_int pe_int) (pa_cons (pe_op op_sub (pe_un un_neg (pe_op op_pow pe_int pe_int)) pe_int) (pa_cons (pe_op op_add (pe_op op_pow pe_int pe_int) pe_int) (pa_cons (pe_un un_neg (pe_op op_pow pe_int pe_int)) pa_nil)))))
        (pe_call G hr rfl D.g D.kp D.b .nil pass0 (pa_cons (pv 0) (pa_cons pe_int pa_nil))) (fun _ _ => rfl)))))), ?_⟩
    refine ⟨_, rfl, p, _, rfl, by decide, by decide, hp, fun d H1 d0 d1 hp1 b1 => ?_⟩
    refine ⟨_, rfl, _, _, rfl, rfl, _, rfl, ite2 (fun _ => ?_) (fun _ => ?_)⟩
    · exact ⟨_, rfl, p, _, rfl, by decide, by decide, hp1, fun e H2 e0 e1 hp2 b2 => ⟨_, _, rfl, rfl, k _ H2 (by omega) hp2 (b1.trans b2)⟩⟩
    · refine ⟨_, rfl, _, _, rfl, rfl, _, rfl, ite2 (fun _ => iteT ?_) (fun _ => ?_)⟩
      · exact ⟨_, rfl, p, _, rfl, by decide, by decide, hp1, fun e H2 e0 e1 hp2 b2 => ⟨_, _, rfl, rfl, k _ H2 (by omega) hp2 (b1.trans b2)⟩⟩
      · refine ⟨_, rfl, b, rfl, ite2 (fun _ => ?_) (fun _ => ?_)⟩
        · exact ⟨_, rfl, p, _, rfl, by decide, by decide, hp1, fun e H2 e0 e1 hp2 b2 => ⟨_, _, rfl, rfl, k _ H2 (by omega) hp2 (b1.trans b2)⟩⟩
        · have c1 : L2.CPow 10 20 := by refine ⟨?_, ?_, ?_⟩ <;> decide
          have c2 : L2.CPow 10 30 := by refine ⟨?_, ?_, ?_⟩ <;> decide
          refine ⟨_, _, rfl, rfl, c1, _, _, rfl, rfl, c1, _, rfl, _, _, rfl, rfl, _, _, rfl, rfl, c2, _, _, rfl, rfl, _, _, rfl, rfl, c2, _, rfl, by show 4 ≤ sizeLine; decide, fun l hl => ?_⟩
          have nl := hp1.ne hl
          refine ⟨_, rfl, p, _, rfl, by decide, by decide, hp1.put nl, fun e H2 e0 e1 hp2 b2 => ?_⟩
          have bb := (b1.upd hl).trans b2
          have hl2 := b2 l _ nl upd_same
          obtain ⟨j, rfl⟩ := nat_of e0
          have c : j = 0 ∨ j = 1 ∨ j = 2 ∨ j = 3 := by omega
          rcases c with rfl | rfl | rfl | rfl
          · exact ⟨l, _, _, _, rfl, rfl, SqL.of hl2, atI_nat (j := 0) rfl, k _ H2 (by decide +kernel) hp2 bb⟩
          · exact ⟨l, _, _, _, rfl, rfl, SqL.of hl2, atI_nat (j := 1) rfl, k _ H2 (by decide +kernel) hp2 bb⟩
          · exact ⟨l, _, _, _, rfl, rfl, SqL.of hl2, atI_nat (j := 2) rfl, k _ H2 (by decide +kernel) hp2 bb⟩
          · exact ⟨l, _, _, _, rfl, rfl, SqL.of hl2, atI_nat (j := 3) rfl, k _ H2 (by decide +kernel) hp2 bb⟩
end
end Wb
/-! a model of a loop is drawn -/
namespace Wb
open PySem L2 WbMin WbS Lz
abbrev sModel : Stmt := top 65
/-- what stands at a state and a sign, at a state -/
def Entry2 (H : Hp) (kvs : List (List Key × V)) (z : Str) (c : Nat) (y : Str) (m : Int) : Prop := ∃ t, valV kvs (kk (z, S [c])) = some (.ref t) ∧ H t = some (.tup [.str y, .int m])
def Entry1 (H : Hp) (kvs : List (Key × V)) (z y : Str) (m : Int) : Prop := ∃ t, valV kvs (k1 z) = some (.ref t) ∧ H t = some (.tup [.str y, .int m])
/-- tuples stay -/
def Tk (H H' : Hp) : Prop := ∀ b x, H b = some (.tup x) → H' b = some (.tup x)
theorem Tk.refl (H : Hp) : Tk H H := fun _ _ h => h
theorem Tk.trans {H H1 H2 : Hp} (a : Tk H H1) (b : Tk H1 H2) : Tk H H2 := fun c x h => b c x (a c x h)
theorem Tk.of {H H' : Hp} (s : Same H H') : Tk H H' := fun b _ h => s b _ h
theorem pool_other {H : Hp} {p b : Addr} {o : HO} (hp : PoolAt H p) (h : H b = some o) (n : ∀ x y z : Int, o ≠ .lst [.int x, .int y, .int z]) : b ≠ p := by
  obtain ⟨x, y, z, e, _⟩ := hp
  intro q
  subst q
  rw [e] at h
  exact n x y z (Option.some.inj h).symm
theorem Tk.but {H H' : Hp} {p : Addr} (hp : PoolAt H p) (s : But p H H') : Tk H H' := fun b x h => s b _ (pool_other hp h (fun _ _ _ q => by cases q)) h
theorem Tk.put {H : Hp} {S : Addr} {o o' : HO} (h : H S = some o) (n : ∀ x, o ≠ .tup x) : Tk H (L2.upd H S o') := fun b x e => by
  rw [upd_ne (ne_of e h (n x).symm)]
  exact e
theorem Tk.new {H : Hp} {S : Addr} {o' : HO} (h : H S = none) : Tk H (L2.upd H S o') := fun b x e => by
  rw [upd_ne (ne_of_none e h)]
  exact e
theorem Entry2.tk {H H' : Hp} {kvs : List (List Key × V)} {z y : Str} {c : Nat} {m : Int} (s : Tk H H') : Entry2 H kvs z c y m → Entry2 H' kvs z c y m := fun ⟨t, a, b⟩ => ⟨t, a, s _ _ b⟩
theorem Entry1.tk {H H' : Hp} {kvs : List (Key × V)} {z y : Str} {m : Int} (s : Tk H H') : Entry1 H kvs z y m → Entry1 H' kvs z y m := fun ⟨t, a, b⟩ => ⟨t, a, s _ _ b⟩
/-- a model of a loop stands: letters, states, steps, ends, yes states -/
def MdAt (H : Hp) (q : Addr) (L : LD) : Prop := ∃ (A Sd Ed O : Addr) (kvs : List (List Key × V)) (ws : List (Key × V)), H q = some (.lst [.str (S L.sg), .ref A, .ref Sd, .ref Ed, .ref O]) ∧ H A = some (.lst (L.st.map V.str)) ∧ H Sd = some (.dT kvs) ∧ H Ed = some (.dK ws) ∧
  (∀ i c, i < L.n → c ∈ L.sg → Entry2 H kvs (L.nm i) c (L.nm (L.nx i c)) (L.am i c)) ∧ (∀ i, i < L.n → Entry1 H ws (L.nm i) (L.nm (L.tn i)) (L.ta i)) ∧ H O = some (.lst (L.yes.map V.str))
theorem MdAt.but {H H' : Hp} {p q : Addr} {L : LD} (hp : PoolAt H p) (s : But p H H') : MdAt H q L → MdAt H' q L := fun ⟨A, Sd, Ed, O, kvs, ws, h0, hA, hS, hE, e2, e1, hO⟩ =>
  have tk := Tk.but hp s
  ⟨A, Sd, Ed, O, kvs, ws, s _ _ (pool_other hp h0 fun _ _ _ q => by cases q) h0, s _ _ (pool_ne hp hA) hA, s _ _ (pool_other hp hS fun _ _ _ q => by cases q) hS, s _ _ (pool_other hp hE fun _ _ _ q => by cases q) hE,
    fun i c hi hc => (e2 i c hi hc).tk tk, fun i hi => (e1 i hi).tk tk, s _ _ (pool_ne hp hO) hO⟩
theorem MdAt.same {H H' : Hp} {q : Addr} {L : LD} (s : Same H H') : MdAt H q L → MdAt H' q L := fun ⟨A, Sd, Ed, O, kvs, ws, h0, hA, hS, hE, e2, e1, hO⟩ =>
  ⟨A, Sd, Ed, O, kvs, ws, s _ _ h0, s _ _ hA, s _ _ hS, s _ _ hE, fun i c hi hc => (e2 i c hi hc).tk (Tk.of s), fun i hi => (e1 i hi).tk (Tk.of s), s _ _ hO⟩
/-- amounts that are not too great -/
structure LD.Small (L : LD) : Prop where
  am : ∀ i c, i < L.n → c ∈ L.sg → (L.am i c).natAbs < 2 ^ 110
  ta : ∀ i, i < L.n → (L.ta i).natAbs < 2 ^ 110
/-- drawn amounts are smaller yet: two of them together are small -/
structure LD.Tiny (L : LD) : Prop where
  am : ∀ i c, i < L.n → c ∈ L.sg → (L.am i c).natAbs < 2 ^ 100
  ta : ∀ i, i < L.n → (L.ta i).natAbs < 2 ^ 100
theorem LD.Tiny.small {L : LD} (t : L.Tiny) : L.Small := ⟨fun i c hi hc => Nat.lt_trans (t.am i c hi hc) (by decide), fun i hi => Nat.lt_trans (t.ta i hi) (by decide)⟩
def spModelT : Sp := fun vs H Q _ => ∃ (p : Addr) (a : List Nat) (m : Int) (b : Bool), vs = [.ref p, .str (S a), .int m, .bl b] ∧ Sgs a ∧ 0 < m ∧ m ≤ 6 ∧ PoolAt H p ∧
  ∀ (q : Addr) (L : LD) (H' : Hp), L.Ok → L.Tiny → L.sg = a → (L.n : Int) ≤ m → MdAt H' q L → H q = none → PoolAt H' p → But p H H' → Q (.ref q) H'
def spModel : Sp := fun vs H Q _ => ∃ (p : Addr) (a : List Nat) (m : Int) (b : Bool), vs = [.ref p, .str (S a), .int m, .bl b] ∧ Sgs a ∧ 0 < m ∧ m ≤ 6 ∧ PoolAt H p ∧
  ∀ (q : Addr) (L : LD) (H' : Hp), L.Ok → L.Small → L.sg = a → (L.n : Int) ≤ m → MdAt H' q L → H q = none → PoolAt H' p → But p H H' → Q (.ref q) H'
/-- the entries of the pairs that are done -/
def E2s (H : Hp) (kvs : List (List Key × V)) (nm : Nat → Str) (n : Nat) (nx : Nat → Nat → Nat) (am : Nat → Nat → Int) (Dn : Nat → Nat → Prop) : Prop := ∀ i c, Dn i c → nx i c < n ∧ (am i c).natAbs < 2 ^ 100 ∧ Entry2 H kvs (nm i) c (nm (nx i c)) (am i c)
def E1s (H : Hp) (ws : List (Key × V)) (nm : Nat → Str) (n : Nat) (tn : Nat → Nat) (ta : Nat → Int) (k : Nat) : Prop := ∀ i, i < k → tn i < n ∧ (ta i).natAbs < 2 ^ 100 ∧ Entry1 H ws (nm i) (nm (tn i)) (ta i)
theorem E2s.tk {H H' : Hp} {kvs : List (List Key × V)} {nm : Nat → Str} {n : Nat} {nx : Nat → Nat → Nat} {am : Nat → Nat → Int} {Dn : Nat → Nat → Prop} (s : Tk H H') (h : E2s H kvs nm n nx am Dn) : E2s H' kvs nm n nx am Dn := fun i c d => ⟨(h i c d).1, (h i c d).2.1, (h i c d).2.2.tk s⟩
theorem E1s.tk {H H' : Hp} {ws : List (Key × V)} {nm : Nat → Str} {n : Nat} {tn : Nat → Nat} {ta : Nat → Int} {k : Nat} (s : Tk H H') (h : E1s H ws nm n tn ta k) : E1s H' ws nm n tn ta k := fun i d => ⟨(h i d).1, (h i d).2.1, (h i d).2.2.tk s⟩
theorem kk_eq {z y : Str} {a c : Nat} (h : kk (z, S [a]) = kk (y, S [c])) : z = y ∧ a = c := by
  have q := kk_inj h
  injection q with q1 q2
  refine ⟨q1, ?_⟩
  have := S_inj q2
  injection this
theorem E2s.put {H : Hp} {kvs : List (List Key × V)} {nm : Nat → Str} {n : Nat} {nx : Nat → Nat → Nat} {am : Nat → Nat → Int} {Dn Dn' : Nat → Nat → Prop} (h : E2s H kvs nm n nx am Dn) {i c e : Nat} {m : Int} {t : Addr} (ht : H t = some (.tup [.str (nm e), .int m])) (he : e < n) (hm : m.natAbs < 2 ^ 100) (hd : ∀ i' c', Dn' i' c' → Dn i' c' ∨ (nm i' = nm i ∧ c' = c)) :
    ∃ nx' am', E2s H (putK kvs (kk (nm i, S [c])) (.ref t)) nm n nx' am' Dn' := by
  refine ⟨fun i' c' => if nm i' = nm i ∧ c' = c then e else nx i' c', fun i' c' => if nm i' = nm i ∧ c' = c then m else am i' c', fun i' c' d => ?_⟩
  dsimp only
  by_cases q : nm i' = nm i ∧ c' = c
  · rw [if_pos q, if_pos q]
    refine ⟨he, hm, t, ?_, ht⟩
    rw [valV_put, if_pos (by rw [q.1, q.2])]
  · rw [if_neg q, if_neg q]
    have h0 := h i' c' ((hd i' c' d).resolve_right q)
    obtain ⟨t', a, b⟩ := h0.2.2
    refine ⟨h0.1, h0.2.1, t', ?_, b⟩
    rw [valV_put, if_neg fun z => q (kk_eq z)]
    exact a
theorem E1s.put {H : Hp} {ws : List (Key × V)} {nm : Nat → Str} {n : Nat} {tn : Nat → Nat} {ta : Nat → Int} {k : Nat} (h : E1s H ws nm n tn ta k) {e : Nat} {m : Int} {t : Addr} (ht : H t = some (.tup [.str (nm e), .int m])) (he : e < n) (hm : m.natAbs < 2 ^ 100) :
    ∃ tn' ta', E1s H (putK ws (k1 (nm k)) (.ref t)) nm n tn' ta' (k + 1) := by
  refine ⟨fun i' => if nm i' = nm k then e else tn i', fun i' => if nm i' = nm k then m else ta i', fun i' d => ?_⟩
  dsimp only
  by_cases q : nm i' = nm k
  · rw [if_pos q, if_pos q]
    refine ⟨he, hm, t, ?_, ht⟩
    rw [valV_put, if_pos (by rw [q])]
  · rw [if_neg q, if_neg q]
    have h0 := h i' (by
      have : i' ≠ k := fun z => q (by rw [z])
      omega)
    obtain ⟨t', a, b⟩ := h0.2.2
    refine ⟨h0.1, h0.2.1, t', ?_, b⟩
    rw [valV_put, if_neg fun z => q (k1_inj z)]
    exact a
/-- the same state once more -/
theorem E1s.over {H : Hp} {ws : List (Key × V)} {nm : Nat → Str} {n : Nat} {tn : Nat → Nat} {ta : Nat → Int} {k : Nat} (h : E1s H ws nm n tn ta (k + 1)) {e : Nat} {m : Int} {t : Addr} (ht : H t = some (.tup [.str (nm e), .int m])) (he : e < n) (hm : m.natAbs < 2 ^ 100) :
    ∃ tn' ta', E1s H (putK ws (k1 (nm k)) (.ref t)) nm n tn' ta' (k + 1) := E1s.put (k := k) (fun i d => h i (by omega)) ht he hm
theorem sub_filter_more {ys : Nat → Bool} {i : Nat} {b : Bool} {g : Nat → V} : (((List.range (i + 1)).filter fun j => if j = i then b else ys j).map g) = ((List.range i).filter ys).map g ++ (if b = true then [g i] else []) := by
  rw [List.range_succ, List.filter_append, List.map_append]
  congr 1
  · congr 1
    refine List.filter_congr fun j hj => ?_
    rw [if_neg (by have := List.mem_range.mp hj; omega)]
  · cases b with
    | false => rw [List.filter_cons_of_neg (by simp)] <;> rfl
    | true => rw [List.filter_cons_of_pos (by simp)] <;> rfl
def nmOf (st : List Str) (i : Nat) : Str := st.getD i (S [])
theorem nmOf_at {st : List Str} {i : Nat} (h : i < st.length) : st[i]? = some (nmOf st i) := by
  unfold nmOf
  rw [List.getD_eq_getElem?_getD, List.getElem?_eq_getElem h] <;> rfl
/-- a model while it is drawn -/
structure MSt (H H' : Hp) (p A Sd Ed : Addr) (st : List Str) (Dn : Nat → Nat → Prop) (k l1 l2 : Nat) : Prop where
  ex : ∃ (kvs : List (List Key × V)) (ws : List (Key × V)) (nx : Nat → Nat → Nat) (am : Nat → Nat → Int) (tn : Nat → Nat) (ta : Nat → Int), H' Sd = some (.dT kvs) ∧ H' Ed = some (.dK ws) ∧ kvs.length ≤ l1 ∧ ws.length ≤ l2 ∧ E2s H' kvs (nmOf st) st.length nx am Dn ∧ E1s H' ws (nmOf st) st.length tn ta k
  hA : H' A = some (.lst (st.map V.str))
  hp : PoolAt H' p
  b : But p H H'
  nS : H Sd = none
  nE : H Ed = none
section
variable {H H1 H2 : Hp} {p A Sd Ed : Addr} {st : List Str} {Dn Dn' : Nat → Nat → Prop} {k l1 l2 : Nat}
theorem MSt.but (q : MSt H H1 p A Sd Ed st Dn k l1 l2) (hp : PoolAt H2 p) (s : But p H1 H2) : MSt H H2 p A Sd Ed st Dn k l1 l2 := by
  obtain ⟨⟨kvs, ws, nx, am, tn, ta, hS, hE, c1, c2, e2, e1⟩, hA, hp1, b, nS, nE⟩ := q
  have tk := Tk.but hp1 s
  exact ⟨⟨kvs, ws, nx, am, tn, ta, s _ _ (pool_other hp1 hS fun _ _ _ q => by cases q) hS, s _ _ (pool_other hp1 hE fun _ _ _ q => by cases q) hE, c1, c2, e2.tk tk, e1.tk tk⟩, s _ _ (pool_ne hp1 hA) hA, hp, b.trans s, nS, nE⟩
theorem MSt.new (q : MSt H H1 p A Sd Ed st Dn k l1 l2) {t : Addr} {o : HO} (h : H1 t = none) : MSt H (L2.upd H1 t o) p A Sd Ed st Dn k l1 l2 := by
  obtain ⟨⟨kvs, ws, nx, am, tn, ta, hS, hE, c1, c2, e2, e1⟩, hA, hp1, b, nS, nE⟩ := q
  have tk : Tk H1 (L2.upd H1 t o) := Tk.new h
  have s : Same H1 (L2.upd H1 t o) := Same.put (Same.refl H1) h
  exact ⟨⟨kvs, ws, nx, am, tn, ta, s _ _ hS, s _ _ hE, c1, c2, e2.tk tk, e1.tk tk⟩, s _ _ hA, hp1.up h, b.upd h, nS, nE⟩
theorem MSt.up (q : MSt H H1 p A Sd Ed st Dn k l1 l2) {R : Addr} {o : HO} {xs : List V} (h : H1 R = some (.lst xs)) (nA : R ≠ A) (np : R ≠ p) (n0 : H R = none) : MSt H (L2.upd H1 R o) p A Sd Ed st Dn k l1 l2 := by
  obtain ⟨⟨kvs, ws, nx, am, tn, ta, hS, hE, c1, c2, e2, e1⟩, hA, hp1, b, nS, nE⟩ := q
  have tk : Tk H1 (L2.upd H1 R o) := Tk.put h (fun x => by intro z; cases z)
  exact ⟨⟨kvs, ws, nx, am, tn, ta, (upd_ne (ne_of hS h (by intro z; cases z))).trans hS, (upd_ne (ne_of hE h (by intro z; cases z))).trans hE, c1, c2, e2.tk tk, e1.tk tk⟩, (upd_ne nA.symm).trans hA, hp1.put np, b.new n0, nS, nE⟩
theorem MSt.put2 (q : MSt H H1 p A Sd Ed st Dn k l1 l2) {i c e : Nat} {m : Int} {t u : Addr} (ht : H1 t = some (.tup [.str (nmOf st e), .int m])) (hu : H1 u = some (.tup [.str (nmOf st i), .str (S [c])])) (he : e < st.length) (hm : m.natAbs < 2 ^ 100) (hd : ∀ i' c', Dn' i' c' → Dn i' c' ∨ (nmOf st i' = nmOf st i ∧ c' = c)) (hl : l1 < 100) :
    ∃ H4, DPut H1 Sd (.ref u) (.ref t) H4 ∧ MSt H H4 p A Sd Ed st Dn' k (l1 + 1) l2 := by
  obtain ⟨⟨kvs, ws, nx, am, tn, ta, hS, hE, c1, c2, e2, e1⟩, hA, hp1, b, nS, nE⟩ := q
  have nSp : Sd ≠ p := pool_other hp1 hS fun _ _ _ q => by cases q
  refine ⟨_, DPut.t (k := kk (nmOf st i, S [c])) hS hu (by rw [sizeLine_eq]; omega), ?_⟩
  have tk : Tk H1 (L2.upd H1 Sd (.dT (putK kvs (kk (nmOf st i, S [c])) (.ref t)))) := Tk.put hS (fun x => by intro z; cases z)
  obtain ⟨nx', am', e2'⟩ := e2.put ht he hm hd
  refine ⟨⟨_, ws, nx', am', tn, ta, upd_same, (upd_ne (ne_of hE hS (by intro z; cases z))).trans hE, ?_, c2, e2'.tk tk, e1.tk tk⟩, (upd_ne (ne_of hA hS (by intro z; cases z))).trans hA, hp1.put nSp, b.new nS, nS, nE⟩
  exact Nat.le_trans (length_putK kvs _ _) (by omega)
theorem MSt.put1 (q : MSt H H1 p A Sd Ed st Dn k l1 l2) {e : Nat} {m : Int} {t : Addr} (ht : H1 t = some (.tup [.str (nmOf st e), .int m])) (he : e < st.length) (hm : m.natAbs < 2 ^ 100) (hl : l2 < 100) :
    ∃ H4, DPut H1 Ed (.str (nmOf st k)) (.ref t) H4 ∧ MSt H H4 p A Sd Ed st Dn (k + 1) l1 (l2 + 1) := by
  obtain ⟨⟨kvs, ws, nx, am, tn, ta, hS, hE, c1, c2, e2, e1⟩, hA, hp1, b, nS, nE⟩ := q
  have nEp : Ed ≠ p := pool_other hp1 hE fun _ _ _ q => by cases q
  refine ⟨_, DPut.k (k := k1 (nmOf st k)) hE (by rw [sizeLine_eq]; omega), ?_⟩
  have tk : Tk H1 (L2.upd H1 Ed (.dK (putK ws (k1 (nmOf st k)) (.ref t)))) := Tk.put hE (fun x => by intro z; cases z)
  obtain ⟨tn', ta', e1'⟩ := e1.put ht he hm
  refine ⟨⟨kvs, _, nx, am, tn', ta', (upd_ne (ne_of hS hE (by intro z; cases z))).trans hS, upd_same, c1, ?_, e2.tk tk, e1'.tk tk⟩, (upd_ne (ne_of hA hE (by intro z; cases z))).trans hA, hp1.put nEp, b.new nE, nS, nE⟩
  exact Nat.le_trans (length_putK ws _ _) (by omega)
theorem MSt.over (q : MSt H H1 p A Sd Ed st Dn (k + 1) l1 l2) {e : Nat} {m : Int} {t : Addr} (ht : H1 t = some (.tup [.str (nmOf st e), .int m])) (he : e < st.length) (hm : m.natAbs < 2 ^ 100) (hl : l2 < 100) :
    ∃ H4, DPut H1 Ed (.str (nmOf st k)) (.ref t) H4 ∧ MSt H H4 p A Sd Ed st Dn (k + 1) l1 (l2 + 1) := by
  obtain ⟨⟨kvs, ws, nx, am, tn, ta, hS, hE, c1, c2, e2, e1⟩, hA, hp1, b, nS, nE⟩ := q
  exact MSt.put1 (k := k) ⟨⟨kvs, ws, nx, am, tn, ta, hS, hE, c1, c2, e2, fun i d => e1 i (by omega)⟩, hA, hp1, b, nS, nE⟩ ht he hm hl
theorem MSt.less (q : MSt H H1 p A Sd Ed st Dn k l1 l2) (h : ∀ i c, Dn' i c → Dn i c) {l1' l2' : Nat} (a : l1 ≤ l1') (b : l2 ≤ l2') : MSt H H1 p A Sd Ed st Dn' k l1' l2' := by
  obtain ⟨⟨kvs, ws, nx, am, tn, ta, hS, hE, c1, c2, e2, e1⟩, hA, hp1, b', nS, nE⟩ := q
  exact ⟨⟨kvs, ws, nx, am, tn, ta, hS, hE, Nat.le_trans c1 a, Nat.le_trans c2 b, fun i c d => e2 i c (h i c d), e1⟩, hA, hp1, b', nS, nE⟩
end
section
variable {P : Program} {w : World} {K : PySem.W.Frag} {mg : Str → Option Value} {base : Heap} {f fD fN fNs fA : Addr} {fd fdD dN dNs dA : FuncData}
abbrev NMo : List Str := ["_law_pool_here", "_law_abc", "_law_most", "_law_great", "_law_posts", "_law_steps", "_law_ends", "_law_post", "_law_mark", "_law_oks"]
theorem scMod : FnScope NMo ["_law_pool_here", "_law_abc", "_law_most", "_law_great"] (defScope sModel) := ⟨rfl, rfl, rfl, by decide +kernel, rfl, by decide +kernel, by decide +kernel⟩
set_option maxHeartbeats 0 in
theorem ok_modelT (F : Fun K "_law_model" "_law_model" sModel f fd) (D : Def K mg "_law_draw" sDraw ["_law_pool_here", "_law_many"] fD fdD) (DN : Def K mg "_law_name" sName ["_law_pool_here", "_law_found"] fN dN) (DS : Def K mg "_law_names" sNames ["_law_pool_here", "_law_many"] fNs dNs) (DA : Def K mg "_law_amount" sAmount ["_law_pool_here", "_law_great"] fA dA) (Z : Free mg) :
    FnOk P w K mg base CX0 4 f fd ["_law_pool_here", "_law_abc", "_law_most", "_law_great"] spModelT := by
  have G : FnOk P w K mg base CX0 1 fD fdD ["_law_pool_here", "_law_many"] spDraw := ok_draw D.F Z.int Z.divmod
  have GS : FnOk P w K mg base CX0 3 fNs dNs ["_law_pool_here", "_law_many"] spNames := ok_names DS.F D DN Z
  have GA : FnOk P w K mg base CX0 2 fA dA ["_law_pool_here", "_law_great"] spAmount := ok_amount DA.F D Z
  refine F.ok scMod (fun vs H Q E h => ?_) (fun cdv A' outer s H vs Q E hr h => ?_)
  · obtain ⟨p, a, m, b, rfl, _⟩ := h
    rfl
  · obtain ⟨p, a, m, b, rfl, sg, m0, m6, hp, k⟩ := h
    have hr1 : Room 1 _ := hr.mono (by decide)
    have hr2 : Room 2 _ := hr.mono (by decide)
    refine ⟨_, pss_cons (ps_set (i := 4) scMod.nd rfl (.inl rfl) (pe_call GS hr rfl DS.g DS.kp DS.b .nil pass0 (pa_cons (pv 0) (pa_cons (pe_op op_add pe_int (pe_call G hr1 rfl D.g D.kp D.b .nil pass0 (pa_cons (pv 0) (pa_cons (pv 2) pa_nil)))) pa_nil))))
      (pss_cons (ps_par (i := 5) (j := 6) rfl scMod.nd rfl rfl (by decide) rfl rfl (pa_cons pe_dnewT (pa_cons pe_dnewK pa_nil)) (by rfl))
      (pss_cons (ps_for PassesOwn.never rfl (pi_list (pv 4)) (pg_name (i := 7) scMod.nd rfl (.inl rfl))
        (pss_cons (ps_for PassesOwn.never rfl (pi_str (pv 1)) (pg_name (i := 8) scMod.nd rfl (.inl rfl))
          (pss_one (ps_dput (un2 hr) (pv 5) (pe_tup (pa_cons (pv 7) (pa_cons (pv 8) pa_nil))) (pe_tup (pa_cons (pe_ix ix_list (pv 4) (pe_call G hr1 rfl D.g D.kp D.b .nil pass0 (pa_cons (pv 0) (pa_cons (pe_callB call_len_seq (by rfl) Z.len PySem.boot_len (pa_cons (pv 4) pa_nil)) pa_nil))) (fun _ _ => rfl)) (pa_cons (pe_call GA hr2 rfl DA.g DA.kp DA.b .nil pass0 (pa_cons (pv 0) (pa_cons (pv 3) pa_nil))) pa_nil))) rfl)))
        (pss_cons (ps_dput (un2 hr) (pv 6) (pv 7) (pe_tup (pa_cons (pv 7) (pa_cons pe_int pa_nil))) rfl)
        (pss_one (ps_if (pt_cmpR op_gt (pe_call G hr1 rfl D.g D.kp D.b .nil pass0 (pa_cons (pv 0) (pa_cons pe_int pa_nil))) pe_int (nomark _))
          (pss_one (ps_dput (un2 hr) (pv 6) (pv 7) (pe_tup (pa_cons (pe_ix ix_list (pv 4) (pe_call G hr1 rfl D.g D.kp D.b .nil pass0 (pa_cons (pv 0) (pa_cons (pe_callB call_len_seq (by rfl) Z.len PySem.boot_len (pa_cons (pv 4) pa_nil)) pa_nil))) (fun _ _ => rfl)) (pa_cons (pe_call GA hr2 rfl DA.g DA.kp DA.b .nil pass0 (pa_cons (pv 0) (pa_cons (pv 3) pa_nil))) pa_nil))) rfl)) pss_nil)))))
      (pss_cons (ps_setLc (i := 9) (own := [("_law_post", 7)]) (g := gName 7) rfl scMod.nd rfl rfl (sw_true rfl rfl rfl (by decide +kernel)) (pi_list (pv 4)) (blkOk_by (N := NMo) (sc := defScope sModel) (by decide +kernel))
          (fun _ _ _ _ _ => pg_name (i := 7) scMod.nd rfl (.inl rfl)) (fun _ _ _ _ _ => pts_one (pt_cmpR op_eq (pe_call G hr1 rfl D.g D.kp D.b .nil pass0 (pa_cons (pv 0) (pa_cons pe_int pa_nil))) pe_int (nomark _))) (fun _ _ _ _ _ => pv 7))
      (pss_one (ps_ret (pe_lst (pa_cons (pv 1) (pa_cons (pv 4) (pa_cons (pv 5) (pa_cons (pv 6) (pa_cons (pv 9) pa_nil))))))))))), ?_⟩
    refine ⟨_, rfl, _, rfl, _, rfl, p, m, rfl, m0, by omega, hp, fun d H1 d0 d1 hp1 b1 => ?_⟩
    obtain ⟨j, rfl⟩ := nat_of d0
    have e1j : V.int ((1 : Int) + (j : Int)) = V.int ((1 + j : Nat) : Int) := by rw [show (1 : Int) + (j : Int) = ((1 + j : Nat) : Int) by omega]
    refine ⟨_, _, rfl, rfl, p, 1 + j, congrArg (fun z => [V.ref p, z]) e1j, by omega, by omega, hp1, fun A st H2 T lst fA nA0 hp2 b2 => ?_⟩
    intro Sd hS Ed hE
    refine ⟨_, _, rfl, ?_⟩
    have b12 := b1.trans b2
    have nS : H Sd = none := b12.free hS (hp2.ne hS)
    have hp3 := hp2.up (o := .dT []) hS
    have b3 := b12.upd (o := .dT []) hS
    have nE : H Ed = none := b3.free hE (hp3.ne hE)
    have sS : Same H2 (L2.upd H2 Sd (.dT [])) := Same.put (Same.refl _) hS
    have sE : Same (L2.upd H2 Sd (.dT [])) (L2.upd (L2.upd H2 Sd (.dT [])) Ed (.dK [])) := Same.put (Same.refl _) hE
    have M3 : MSt H (L2.upd (L2.upd H2 Sd (.dT [])) Ed (.dK [])) p A Sd Ed st (fun i c => i < 0 ∧ c ∈ a) 0 0 0 :=
      ⟨⟨[], [], fun _ _ => 0, fun _ _ => 0, fun _ => 0, fun _ => 0, sE _ _ upd_same, upd_same, Nat.le_refl _, Nat.le_refl _, fun _ _ d => absurd d.1 (Nat.not_lt_zero _), fun _ d => absurd d (Nat.not_lt_zero _)⟩, sE _ _ (sS _ _ fA), hp3.up hE, b3.upd hE, nS, nE⟩
    generalize L2.upd (L2.upd H2 Sd (.dT [])) Ed (.dK []) = H3 at M3 ⊢
    have n6 : st.length ≤ 6 := T.few
    have npos := T.pos
    have a4 := sg.few
    refine ⟨_, rfl, A, rfl, ⟨_, SqL.of M3.hA⟩, for_it (walk_list (xs := st.map V.str)) (fun i σ H' => ∃ v7 v8 : Option V, σ = [some (.ref p), some (.str (S a)), some (.int m), some (.bl b), some (.ref A), some (.ref Sd), some (.ref Ed), v7, v8, none] ∧ MSt H H' p A Sd Ed st (fun i' c => i' < i ∧ c ∈ a) i (i * 4) (i * 2))
      ⟨none, none, rfl, M3⟩ (fun _ _ _ _ h => by obtain ⟨_, _, _, h⟩ := h; exact SqL.of h.hA) ?_ ?_⟩
    · rintro i x σ H4 H4' hi ⟨v7, v8, rfl, M4⟩ ⟨rfl, hx⟩
      rw [List.length_map] at hi
      have ez := nmOf_at hi
      have hx' : x = .str (nmOf st i) := Option.some.inj (hx.symm.trans (map_get ez))
      subst hx'
      have i6 : i < 6 := by omega
      have M4' : MSt H H4' p A Sd Ed st (fun i' c => (i' < i ∧ c ∈ a) ∨ (i' = i ∧ c ∈ a.take 0)) i (i * 4 + 0) (i * 2) := M4.less (fun i' c d => d.elim id fun z => by cases z.2) (Nat.le_refl _) (Nat.le_refl _)
      refine ⟨_, rfl, _, rfl, for_it walk_str (fun j σ H' => ∃ v8 : Option V, σ = [some (.ref p), some (.str (S a)), some (.int m), some (.bl b), some (.ref A), some (.ref Sd), some (.ref Ed), some (.str (nmOf st i)), v8, none] ∧ MSt H H' p A Sd Ed st (fun i' c => (i' < i ∧ c ∈ a) ∨ (i' = i ∧ c ∈ a.take j)) i (i * 4 + j) (i * 2))
        ⟨v8, rfl, M4'⟩ (fun _ _ _ _ _ => trivial) ?_ ?_⟩
      · rintro j x σ H5 H5' hj ⟨v8, rfl, M5⟩ ⟨rfl, c, hc, rfl⟩
        have hc' : a[j]? = some c := k_in_S hc
        rw [S_size] at hj
        refine ⟨_, rfl, _, rfl, _, rfl, A, _, rfl, .inl (SqL.of M5.hA), p, _, rfl, by rw [List.length_map]; omega, by rw [List.length_map]; omega, M5.hp, fun d H6 d0 d1 hp6 b6 => ?_⟩
        rw [List.length_map] at d1
        obtain ⟨e, rfl⟩ := nat_of d0
        have he : e < st.length := by omega
        have M6 := M5.but hp6 b6
        refine ⟨A, _, _, _, rfl, rfl, SqL.of M6.hA, atI_nat (map_get (nmOf_at he)), _, rfl, _, rfl, p, b, rfl, M6.hp, fun z H7 zs7 hp7 b7 => ⟨by show 2 ≤ sizeLine; decide, fun t ht => ?_⟩⟩
        have M7 := (M6.but hp7 b7).new (o := .tup [.str (nmOf st e), .int z]) ht
        have ht7 : (L2.upd H7 t (.tup [.str (nmOf st e), .int z])) t = some (.tup [.str (nmOf st e), .int z]) := upd_same
        generalize L2.upd H7 t (.tup [.str (nmOf st e), .int z]) = H8 at M7 ht7 ⊢
        refine ⟨_, rfl, _, rfl, _, rfl, by show 2 ≤ sizeLine; decide, fun u hu => ?_⟩
        have M8 := M7.new (o := .tup [.str (nmOf st i), .str (S [c])]) hu
        have ht8 : (L2.upd H8 u (.tup [.str (nmOf st i), .str (S [c])])) t = some (.tup [.str (nmOf st e), .int z]) := (upd_ne (ne_of_none ht7 hu)).trans ht7
        obtain ⟨H9, dp, M9⟩ := M8.put2 (Dn' := fun i' c => (i' < i ∧ c ∈ a) ∨ (i' = i ∧ c ∈ a.take (j + 1))) ht8 upd_same he zs7 (fun i' c' d => by
          rcases d with d | ⟨d1, d2⟩
          · exact .inl (.inl d)
          · rw [take_more hc'] at d2
            rcases List.mem_append.mp d2 with d2 | d2
            · exact .inl (.inr ⟨d1, d2⟩)
            · exact .inr ⟨by rw [d1], List.mem_singleton.mp d2⟩) (by omega)
        exact ⟨Sd, H9, rfl, dp, _, rfl, M9⟩
      · rintro σ H5 ⟨v8, rfl, M5⟩
        rw [S_size] at M5
        have M5 := M5.less (Dn' := fun i' c => i' < i + 1 ∧ c ∈ a) (l1' := (i + 1) * 4) (fun i' c d => by
          by_cases q : i' < i
          · exact .inl ⟨q, d.2⟩
          · exact .inr ⟨by omega, by rw [List.take_length]; exact d.2⟩) (by omega) (Nat.le_refl _)
        refine ⟨_, rfl, by show 2 ≤ sizeLine; decide, fun t ht => ?_⟩
        have M6 := M5.new (o := .tup [.str (nmOf st i), .int 0]) ht
        obtain ⟨H7, dp, M7⟩ := M6.put1 (e := i) upd_same hi (by decide) (by omega)
        refine ⟨_, rfl, _, rfl, Ed, H7, rfl, dp, ?_⟩
        refine ⟨_, rfl, p, _, rfl, by decide, by decide, M7.hp, fun d H8 d0 d1 hp8 b8 => ?_⟩
        have M8 := M7.but hp8 b8
        refine ⟨_, _, rfl, rfl, _, rfl, ite2 (fun _ => ?_) (fun _ => ?_)⟩
        · refine ⟨_, rfl, _, rfl, _, rfl, A, _, rfl, .inl (SqL.of M8.hA), p, _, rfl, by rw [List.length_map]; omega, by rw [List.length_map]; omega, M8.hp, fun d H9 d0 d1 hp9 b9 => ?_⟩
          rw [List.length_map] at d1
          obtain ⟨e, rfl⟩ := nat_of d0
          have he : e < st.length := by omega
          have M9 := M8.but hp9 b9
          refine ⟨A, _, _, _, rfl, rfl, SqL.of M9.hA, atI_nat (map_get (nmOf_at he)), _, rfl, _, rfl, p, b, rfl, M9.hp, fun z H10 zs10 hp10 b10 => ⟨by show 2 ≤ sizeLine; decide, fun t ht => ?_⟩⟩
          have M10 := (M9.but hp10 b10).new (o := .tup [.str (nmOf st e), .int z]) ht
          obtain ⟨H11, dp, M11⟩ := M10.over (e := e) upd_same he zs10 (by omega)
          exact ⟨_, rfl, _, rfl, Ed, H11, rfl, dp, _, _, rfl, M11.less (fun _ _ d => d) (Nat.le_refl _) (by omega)⟩
        · exact ⟨_, _, rfl, M8.less (fun _ _ d => d) (Nat.le_refl _) (by omega)⟩
    · rintro σ H4 ⟨v7, v8, rfl, M4⟩
      rw [List.length_map] at M4
      refine ⟨_, rfl, A, rfl, ⟨_, SqL.of M4.hA⟩, fun R hR => ?_⟩
      have nRp := M4.hp.ne hR
      have nRA : R ≠ A := ne_of_none' M4.hA hR
      have R0 : H R = none := M4.b.free hR nRp
      refine lc_it (walk_list (xs := st.map V.str)) (fun i H5 => ∃ ys : Nat → Bool, H5 R = some (.lst (((List.range i).filter ys).map fun j => V.str (nmOf st j))) ∧ MSt H H5 p A Sd Ed st (fun i' c => i' < st.length ∧ c ∈ a) st.length (st.length * 4) (st.length * 2)) ⟨fun _ => false, upd_same, M4.new hR⟩ (fun _ _ _ h => by obtain ⟨_, _, h⟩ := h; exact SqL.of h.hA) ?_ ?_
      · rintro i x H5 H5' hi ⟨ys, h1, M5⟩ ⟨rfl, hx⟩
        rw [List.length_map] at hi
        have hx' : x = .str (nmOf st i) := Option.some.inj (hx.symm.trans (map_get (nmOf_at hi)))
        subst hx'
        refine ⟨rfl, _, rfl, p, _, rfl, by decide, by decide, M5.hp, fun d H6 d0 d1 hp6 b6 => ?_⟩
        have M6 := M5.but hp6 b6
        have h6 := b6 R _ nRp h1
        refine ⟨rfl, _, rfl, ite2 (fun _ => ?_) (fun _ => ?_)⟩
        · refine ⟨_, rfl, _, h6, ?_, fun j => if j = i then true else ys j, ?_, M6.up h6 nRA nRp R0⟩
          · rw [List.length_map, sizeLine_eq]
            have := List.length_filter_le ys (List.range i)
            rw [List.length_range] at this
            omega
          · rw [upd_same, sub_filter_more (g := fun j => V.str (nmOf st j)), if_pos rfl]
        · refine ⟨fun j => if j = i then false else ys j, ?_, M6⟩
          rw [h6, sub_filter_more (g := fun j => V.str (nmOf st j)), if_neg (by decide), List.append_nil]
      · rintro H5 ⟨ys, h1, M5⟩
        rw [List.length_map] at h1
        refine ⟨_, rfl, _, rfl, _, rfl, _, rfl, _, rfl, by show 5 ≤ sizeLine; decide, fun q hq => ?_⟩
        have nq := M5.hp.ne hq
        have q0 : H q = none := M5.b.free hq nq
        have s6 : Same H5 (L2.upd H5 q (.lst [.str (S a), .ref A, .ref Sd, .ref Ed, .ref R])) := Same.put (Same.refl _) hq
        have M6 := M5.new (o := .lst [.str (S a), .ref A, .ref Sd, .ref Ed, .ref R]) hq
        obtain ⟨⟨kvs, ws, nx, am, tn, ta, gS, gE, c1, c2, e2, e1⟩, gA, gp, gb, _, _⟩ := M6
        refine k q ⟨a, st, nx, am, tn, ta, ys⟩ _ ⟨sg, T, fun i c hi hc => (e2 i c ⟨hi, hc⟩).1, fun i hi => (e1 i hi).1⟩ ⟨fun i c hi hc => (e2 i c ⟨hi, hc⟩).2.1, fun i hi => (e1 i hi).2.1⟩ rfl (show ((st.length : Nat) : Int) ≤ m by omega) ⟨A, Sd, Ed, R, kvs, ws, upd_same, gA, gS, gE, fun i c hi hc => (e2 i c ⟨hi, hc⟩).2.2, fun i hi => (e1 i hi).2.2, ?_⟩ q0 gp gb
        rw [s6 _ _ h1]
        unfold LD.yes
        rw [List.map_map] <;> rfl
theorem ok_model (F : Fun K "_law_model" "_law_model" sModel f fd) (D : Def K mg "_law_draw" sDraw ["_law_pool_here", "_law_many"] fD fdD) (DN : Def K mg "_law_name" sName ["_law_pool_here", "_law_found"] fN dN) (DS : Def K mg "_law_names" sNames ["_law_pool_here", "_law_many"] fNs dNs) (DA : Def K mg "_law_amount" sAmount ["_law_pool_here", "_law_great"] fA dA) (Z : Free mg) :
    FnOk P w K mg base CX0 4 f fd ["_law_pool_here", "_law_abc", "_law_most", "_law_great"] spModel :=
  (ok_modelT F D DN DS DA Z).imp fun vs H Q E h => by
    obtain ⟨p, a, m, b, e, sg, m0, m6, hp, k⟩ := h
    exact ⟨p, a, m, b, e, sg, m0, m6, hp, fun q L H' O T => k q L H' O T.small⟩
end
end Wb
/-! a list unpacked into names -/
namespace Lz
open PySem PySem.W PySem.Spec PyProof.Rows
section
variable {prog : Program} {w : World} {A : Around} {E : Value → Shared → Prop} {I l : Addr} {St : Nat → Shared → Prop} {items : Array Value} {s : Shared}
theorem draw_walk (W : WalksS prog w A I [I, l] [I] (fun a b => b = a) items.size (fun i v => items[i]? = some v) St) : ∀ (n i : Nat) (s : Shared) (Q : List Value → Shared → Prop), St i s → i + n ≤ items.size →
    (∀ s', St (i + n) s' → Moved [I] (fun a b => b = a) s s' → Q ((items.toList.drop i).take n) s') → wpAny (model prog w) A (draw (.ref I) n) Q E s
  | 0, i, s, Q, st, _, k => by
    show wpAny _ _ (pure []) Q E s
    exact wpAny_pure (k s st (Moved.refl fun _ => rfl))
  | n + 1, i, s, Q, st, le, k => by
    have lt : i < items.size := by omega
    show wpAny _ _ (pyNext (.ref I) >>= _) Q E s
    refine wpAny_bind (W.item i s _ _ lt st fun v s1 hv st1 mv => ?_)
    refine wpAny_bind (wpAny_holding (draw_walk W n (i + 1) s1 _ st1 (by omega) fun s2 st2 mv2 => wpAny_pure ?_))
    have e : items.toList.drop i = v :: items.toList.drop (i + 1) := by
      have q : items.toList[i]? = some v := by rw [Array.getElem?_toList]; exact hv
      exact (List.drop_eq_getElem?_toList_append).trans (by rw [q] <;> rfl)
    have q := k s2 (by rw [show i + (n + 1) = i + 1 + n by omega]; exact st2) (Moved.trans W.gtrans mv mv2)
    rw [e, List.take_succ_cons] at q
    exact q
theorem unpack_list {targets : List (Bool × (Value → Sem Unit))} {Q : Unit → Shared → Prop} (calm : A.handled = none) (il : s.heap.IsList l items) (hn : targets.length = items.size) (hstar : targets.findIdx? (·.1) = none)
    (h : ∀ h' tk, (∀ b o, s.heap.get? b = some o → h'.get? b = some o) → wpAny (model prog w) A (assignInOrder (targets.map (·.2)) items.toList) Q E { s with heap := h', toks := tk }) : wpAny (model prog w) A (unpack (.ref l) targets) Q E s := by
  have lt : l < s.heap.objs.size := by obtain ⟨_, e, _⟩ := il; exact Heap.lt_size e
  unfold unpack
  rw [hn, hstar]
  refine wpAny_bind (wpAny_holding ?_)
  unfold unpackItems
  refine wpAny_bind ?_
  unfold notIterableAtAll
  refine wpAny_bind (wpAny_specialOf il.typeIs F.slot_list_iter.lookup (wpAny_pure ?_))
  simp only [Bool.false_eq_true, if_false]
  refine wpAny_bind (wpAny_holding (wpAny_pyIter_list il ?_))
  have i1 : (s.heap.push { cls := .type "list_iterator", data := .fields #[.ref l, .int 0 0] }).IsListIter s.heap.objs.size l 0 := ⟨_, Heap.get?_push_size _ rfl, rfl, rfl⟩
  refine wpAny_bind (wpAny_holding (draw_walk (Walks.list (A := A) calm s.heap.objs.size l (Nat.ne_of_lt lt) items).toS items.size 0 _ _ ⟨i1, il.push _⟩ (by omega) fun s1 st1 mv1 => ?_))
  have all : List.take items.size (List.drop 0 items.toList) = items.toList := by
    rw [List.drop_zero] ; exact List.take_of_length_le (by simp)
  rw [all, if_neg (by simp)]
  rw [Nat.zero_add] at st1
  refine wpAny_bind (wpAny_holding ((Walks.list (A := A) calm s.heap.objs.size l (Nat.ne_of_lt lt) items).toS.done s1 _ _ st1 fun s2 mv2 => ?_))
  simp only [Option.isSome_none, Bool.false_eq_true, if_false]
  obtain ⟨h2, tk2, e2, kept⟩ := moved_old (s := s) rfl rfl (Moved.trans (fun a b c p q => q.trans p) mv1 mv2)
  subst e2
  exact wpAny_pure (h h2 tk2 kept)
end
end Lz
namespace Lz
open PySem PySem.Spec PyProof.Rows L2
section
variable {X : Cx}
/-- a, b, c = e, e a list -/
def gUnp (K : PySem.W.Frag) (n : Nat) (t : TGs) : TG := fun v σ H Q => ∃ a xs, v = .ref a ∧ SqL K H a xs ∧ xs.length = n ∧ t xs σ H Q
theorem pg_unp {es : List Expr} {c : Nat} {t : TGs} {n : Nat} {pos : Pos} (hc : X.calm = true) (h : PGs X es t) (hn : (assignEach es X.env).length = n := by rfl) (hst : (assignEach es X.env).findIdx? (·.1) = none := by rfl) : PG X (.Tuple es c pos) (gUnp X.K n t) := by
  refine ⟨fun pins s σ H v u Q I r hw => ?_⟩
  obtain ⟨a, xs, rfl, hq, hl, hw⟩ := hw
  cases r
  obtain ⟨its, rv, pl, hz⟩ := I.list hq
  rw [assign_Tuple]
  refine wpAny_bind (wpAny_standAt (unpack_list (I.ok.hd hc) pl.isList (by simp [hn, ← hl, rv.length]) hst fun h' tk kept => ?_))
  exact h.run pins _ σ H xs _ Q (I.kept (t' := tk) kept) (by simpa using rv) hw
end
end Lz
/-! all that a loop is made of, in its one order; the program's loop -/
namespace Wb
open PySem L2 WbMin WbS Lz
abbrev sLine : Stmt := top 66
def LD.srt (L : LD) (sg : List Nat) : LD := { L with sg := sg }
theorem LD.Ok.srt {L : LD} (O : L.Ok) {sg : List Nat} (p : sg.Perm L.sg) : (L.srt sg).Ok :=
  ⟨⟨fun c hc => O.sgs.low c (p.mem_iff.mp hc), p.nodup_iff.mpr O.sgs.nd, by show 0 < sg.length; rw [p.length_eq]; exact O.sgs.pos, by show sg.length ≤ 4; rw [p.length_eq]; exact O.sgs.few⟩, O.sts, fun i c hi hc => O.nxlt i c hi (p.mem_iff.mp hc), O.tnlt⟩
def spLine : Sp := fun vs H Q _ => ∃ (q : Addr) (L : LD), vs = [.ref q] ∧ L.Ok ∧ MdAt H q L ∧
  ∀ (r : Addr) (sg : List Nat) (H' : Hp), sg.Perm L.sg → PyProof.Rows.sortedS (sg.map sOne) = true → RowAt H' r (L.srt sg) → H r = none → Same H H' → Q (.ref r) H'
theorem rows_take {L : LD} (i : Nat) : ((List.range (i + 1)).flatMap fun i => L.sg.map (L.row i)) = ((List.range i).flatMap fun i => L.sg.map (L.row i)) ++ L.sg.map (L.row i) := by
  rw [List.range_succ, List.flatMap_append, List.flatMap_cons, List.flatMap_nil, List.append_nil]
theorem Tups.append {H : Hp} : ∀ {as bs : List Addr} {xs ys : List (List V)}, Tups H as xs → Tups H bs ys → Tups H (as ++ bs) (xs ++ ys)
  | [], _, [], _, _, h => h
  | _ :: _, _, _ :: _, _, h, g => ⟨h.1, Tups.append h.2 g⟩
  | [], _, _ :: _, _, h, _ => h.elim
  | _ :: _, _, [], _, h, _ => h.elim
section
variable {P : Program} {w : World} {K : PySem.W.Frag} {mg : Str → Option Value} {base : Heap} {f fL : Addr} {fd dL : FuncData} {A : LA} {e : Addr}
abbrev NLi : List Str := ["_law_model_here", "_law_abc", "_law_posts", "_law_steps", "_law_ends", "_law_oks", "_law_lines", "_law_post", "_law_closings", "_law_mark"]
theorem scLi : FnScope NLi ["_law_model_here"] (defScope sLine) := ⟨rfl, rfl, rfl, by decide +kernel, rfl, by decide +kernel, by decide +kernel⟩
set_option maxHeartbeats 0 in
theorem ok_line (F : Fun K "_law_line" "_law_line" sLine f fd) (mT : mg "tuple" = none) (mS : mg "sorted" = none) : FnOk P w K mg base CX0 1 f fd ["_law_model_here"] spLine := by
  refine F.ok scLi (fun vs H Q E h => ?_) (fun cdv A outer s H vs Q E hr h => ?_)
  · obtain ⟨q, L, rfl, _⟩ := h
    rfl
  · obtain ⟨q, L, rfl, O, M, k⟩ := h
    refine ⟨_, pss_cons (ps_asg (pv 0) (pg_unp rfl (pgs_cons (pg_name (i := 1) scLi.nd rfl (.inl rfl)) (pgs_cons (pg_name (i := 2) scLi.nd rfl (.inl rfl)) (pgs_cons (pg_name (i := 3) scLi.nd rfl (.inr rfl)) (pgs_cons (pg_name (i := 4) scLi.nd rfl (.inr rfl)) (pgs_cons (pg_name (i := 5) scLi.nd rfl (.inr rfl)) pgs_nil)))))))
      (pss_cons (ps_set (i := 1) scLi.nd rfl (.inl rfl) (pe_join pe_str (pe_callB (call_sortedTx rfl) (by rfl) mS (by decide +kernel) (pa_cons (pv 1) pa_nil))))
      (pss_cons (ps_set (i := 6) scLi.nd rfl (.inl rfl) (pe_lst pa_nil))
      (pss_cons (ps_for PassesOwn.never rfl (pi_list (pv 2)) (pg_name (i := 7) scLi.nd rfl (.inr rfl))
        (pss_one (ps_set (i := 6) scLi.nd rfl (.inl rfl) (pe_op op_cat (pv 6)
          (pe_lc (own := [("_law_mark", 9)]) (g := gName 9) (tt := tYes) rfl scLi.nd (pi_str (pv 1)) (blkOk_by (N := NLi) (sc := defScope sLine) (by decide +kernel)) (fun _ _ _ _ _ => pg_name (i := 9) scLi.nd rfl (.inl rfl)) (fun _ _ _ _ _ => pts_nil)
            (fun _ _ _ _ _ => pe_op (show OpR _ _ (rCatT K) from op_catT) (pe_tup (pa_cons (pv 7) (pa_cons (pv 9) pa_nil))) (pe_dget (un2 hr) (pv 3) (pe_tup (pa_cons (pv 7) (pa_cons (pv 9) pa_nil))) (fun _ _ => rfl))))))))
      (pss_cons (ps_setLc (i := 8) (own := [("_law_post", 7)]) (g := gName 7) (tt := tYes) rfl scLi.nd rfl rfl (sw_true rfl rfl rfl (by decide +kernel)) (pi_list (pv 2)) (blkOk_by (N := NLi) (sc := defScope sLine) (by decide +kernel)) (fun _ _ _ _ _ => pg_name (i := 7) scLi.nd rfl (.inl rfl)) (fun _ _ _ _ _ => pts_nil)
          (fun _ _ _ _ _ => pe_op (show OpR _ _ (rCatT K) from op_catT) (pe_tup (pa_cons (pv 7) pa_nil)) (pe_dget (un2 hr) (pv 4) (pv 7) (fun _ _ => rfl))))
      (pss_one (ps_ret (pe_tup (pa_cons (pv 1) (pa_cons (pe_callTy call_tuple_of (by rfl) mT (by decide +kernel) (pa_cons (pv 2) pa_nil)) (pa_cons (pe_callTy call_tuple_of (by rfl) mT (by decide +kernel) (pa_cons (pv 6) pa_nil)) (pa_cons (pe_callTy call_tuple_of (by rfl) mT (by decide +kernel) (pa_cons (pv 8) pa_nil))
        (pa_cons (pe_callTy call_tuple_of (by rfl) mT (by decide +kernel) (pa_cons (pe_lc (own := [("_law_post", 7)]) (g := gName 7) rfl scLi.nd (pi_list (pv 2)) (blkOk_by (N := NLi) (sc := defScope sLine) (by decide +kernel)) (fun _ _ _ _ _ => pg_name (i := 7) scLi.nd rfl (.inl rfl)) (fun _ _ _ _ _ => pts_one (pt_cmpR (show OpR _ _ (rIn K false) from op_in_seq) (pv 7) (pv 5) (by rfl))) (fun _ _ _ _ _ => pv 7)) pa_nil)) pa_nil)))))))))))), ?_⟩
    obtain ⟨A, Sd, Ed, Ok, kvs, ws, h0, hA, hS, hE, e2, e1, hO⟩ := M
    have pos := O.sgs.pos
    have sgf := O.sgs.few
    have stf : L.st.length ≤ 6 := O.sts.few
    refine ⟨_, rfl, q, _, rfl, SqL.of h0, rfl, _, _, rfl, _, _, rfl, _, _, rfl, _, _, rfl, _, _, rfl, rfl, ?_⟩
    refine ⟨⟨_, rfl⟩, _, rfl, S L.sg, rfl, by rw [S_len]; omega, fun ys p perm srt hp' => ?_⟩
    rw [S_cps] at perm
    obtain ⟨sg, hsg, rfl⟩ := perm_codes perm
    have lsg : sg.length = L.sg.length := hsg.length_eq
    have s1 : Same H (L2.upd H p (.lst ((sg.map sOne).map V.str))) := Same.put (Same.refl H) hp'
    refine ⟨_, p, sg.map sOne, rfl, rfl, .inl (SqL.of upd_same), ?_, ?_⟩
    · have e1 : ((sg.map sOne).map fun x => x.length) = List.replicate sg.length 1 := by
        rw [List.map_map]
        exact List.map_eq_replicate_iff.mpr fun _ _ => rfl
      have e2 : (Str.ofString "").length = 0 := by decide +kernel
      rw [e1, e2, List.sum_replicate_nat]
      omega
    have ej : Txt.join (Str.ofString "") (sg.map sOne) = S sg := join_one (by omega)
    rw [ej]
    generalize L2.upd H p (.lst ((sg.map sOne).map V.str)) = H1 at s1 ⊢
    refine ⟨by show 0 ≤ sizeLine; decide, fun l0 hl0 => ?_⟩
    have s2 := Same.put (o := .lst []) s1 hl0
    have hl2 : (L2.upd H1 l0 (.lst [])) l0 = some (.lst []) := upd_same
    generalize L2.upd H1 l0 (.lst []) = H2 at s2 hl2 ⊢
    refine ⟨_, rfl, A, rfl, ⟨_, SqL.of (s2 _ _ hA)⟩, for_it (walk_list (xs := L.st.map V.str)) (fun i σ H' => ∃ (lr : Addr) (as : List Addr) (v7 : Option V), σ = [some (.ref q), some (.str (S sg)), some (.ref A), some (.ref Sd), some (.ref Ed), some (.ref Ok), some (.ref lr), v7, none, none] ∧ H' lr = some (.lst (as.map V.ref)) ∧ Tups H' as (((List.range i).flatMap fun i => sg.map ((L.srt sg).row i)).map Row.v) ∧ as.length = i * sg.length ∧ Same H H')
      ⟨l0, [], none, rfl, hl2, trivial, (Nat.zero_mul _).symm, s2⟩ (fun _ _ _ _ h => by obtain ⟨_, _, _, _, _, _, _, h⟩ := h; exact SqL.of (h _ _ hA)) ?_ ?_⟩
    · rintro i x σ H3 H3' hi ⟨lr, as, v7, rfl, h1, h2, la, s3⟩ ⟨rfl, hx⟩
      rw [List.length_map] at hi
      have hi : i < L.n := hi
      have hx' : x = .str (L.nm i) := Option.some.inj (hx.symm.trans (map_get (nm_at hi)))
      subst hx'
      refine ⟨_, rfl, _, rfl, _, rfl, fun D hD => lc_it walk_str (fun j H4 => ∃ bs : List Addr, H4 D = some (.lst (bs.map V.ref)) ∧ Tups H4 bs (((sg.take j).map ((L.srt sg).row i)).map Row.v) ∧ bs.length = j ∧ Same H3' H4) ⟨[], upd_same, trivial, rfl, Same.put (Same.refl _) hD⟩ (fun _ _ _ _ => trivial) ?_ ?_⟩
      · rintro j x H4 H4' hj ⟨bs, g1, g2, lb, g3⟩ ⟨rfl, c, hc, rfl⟩
        have hc' : sg[j]? = some c := k_in_S hc
        rw [S_size] at hj
        have cm : c ∈ L.sg := hsg.mem_iff.mp (List.mem_of_getElem? hc')
        have s4 := s3.trans g3
        refine ⟨rfl, _, rfl, _, rfl, by show 2 ≤ sizeLine; decide, fun u hu => ?_⟩
        have s5 := Same.put (o := .tup [.str (L.nm i), .str ⟨#[c]⟩]) s4 hu
        have g5 := Same.put (o := .tup [.str (L.nm i), .str ⟨#[c]⟩]) g3 hu
        have gD5 : (L2.upd H4' u (.tup [.str (L.nm i), .str ⟨#[c]⟩])) D = some (.lst (bs.map V.ref)) := (upd_ne (ne_of_none g1 hu)).trans g1
        have hu5 : (L2.upd H4' u (.tup [.str (L.nm i), .str ⟨#[c]⟩])) u = some (.tup [.str (L.nm i), .str ⟨#[c]⟩]) := upd_same
        have g25 := g2.same (Same.put (o := .tup [.str (L.nm i), .str ⟨#[c]⟩]) (Same.refl _) hu)
        generalize L2.upd H4' u (.tup [.str (L.nm i), .str ⟨#[c]⟩]) = H5 at s5 g5 gD5 hu5 g25 ⊢
        refine ⟨_, rfl, _, rfl, _, rfl, by show 2 ≤ sizeLine; decide, fun u2 hu2 => ?_⟩
        have s6 := Same.put (o := .tup [.str (L.nm i), .str ⟨#[c]⟩]) s5 hu2
        have g6 := Same.put (o := .tup [.str (L.nm i), .str ⟨#[c]⟩]) g5 hu2
        have gD6 : (L2.upd H5 u2 (.tup [.str (L.nm i), .str ⟨#[c]⟩])) D = some (.lst (bs.map V.ref)) := (upd_ne (ne_of_none gD5 hu2)).trans gD5
        have hu6 : (L2.upd H5 u2 (.tup [.str (L.nm i), .str ⟨#[c]⟩])) u = some (.tup [.str (L.nm i), .str ⟨#[c]⟩]) := (upd_ne (ne_of_none hu5 hu2)).trans hu5
        have hu26 : (L2.upd H5 u2 (.tup [.str (L.nm i), .str ⟨#[c]⟩])) u2 = some (.tup [.str (L.nm i), .str ⟨#[c]⟩]) := upd_same
        have g26 := g25.same (Same.put (o := .tup [.str (L.nm i), .str ⟨#[c]⟩]) (Same.refl _) hu2)
        generalize L2.upd H5 u2 (.tup [.str (L.nm i), .str ⟨#[c]⟩]) = H6 at s6 g6 gD6 hu6 hu26 g26 ⊢
        obtain ⟨t, val, ht⟩ := e2 i c hi cm
        refine ⟨Sd, .ref t, rfl, val ▸ DGet.t (k := kk (L.nm i, S [c])) (s6 _ _ hS) hu26, ?_⟩
        refine ⟨u, t, _, _, rfl, rfl, SqT.of hu6, SqT.of (s6 _ _ ht), List.cons_ne_nil _ _, by show 4 ≤ sizeLine; decide, (fun z => nomatch z), fun _ z hz => ?_⟩
        have s7 := Same.put (o := .tup ([.str (L.nm i), .str ⟨#[c]⟩] ++ [.str (L.nm (L.nx i c)), .int (L.am i c)])) (Same.refl H6) hz
        refine ⟨_, s7 _ _ gD6, by rw [List.length_map, sizeLine_eq]; omega, bs ++ [z], ?_, ?_, by rw [List.length_append, lb] <;> rfl, ?_⟩
        · rw [upd_same, List.map_append] <;> rfl
        · rw [take_more hc', List.map_append, List.map_append]
          exact Tups.but (fun x => by intro q; cases q) (s7 _ _ gD6) (But.here (But.refl D _)) (Tups.snoc upd_same (g26.same s7))
        · exact Same.new' (g6.trans s7) hD
      · rintro H4 ⟨bs, g1, g2, lb, g3⟩
        rw [S_size, List.take_length] at g2
        rw [S_size] at lb
        refine ⟨lr, D, _, _, rfl, rfl, g3 _ _ h1, g1, ?_, fun lr' hlr => ?_⟩
        · rw [List.length_map, List.length_map, la, lb, sizeLine_eq]
          have : i * sg.length ≤ 5 * 4 := Nat.mul_le_mul (by omega) (by omega)
          omega
        · have s5 := Same.put (o := .lst (as.map V.ref ++ bs.map V.ref)) (Same.refl H4) hlr
          refine ⟨lr', as ++ bs, _, rfl, ?_, ?_, ?_, (s3.trans g3).trans s5⟩
          · rw [upd_same, List.map_append]
          · rw [show ((List.range (i + 1)).flatMap fun i => sg.map ((L.srt sg).row i)) = _ from rows_take (L := L.srt sg) i, List.map_append]
            exact Tups.append ((h2.same g3).same s5) (g2.same s5)
          · rw [List.length_append, la, lb, Nat.add_mul, Nat.one_mul]
    · rintro σ H3 ⟨lr, as, v7, rfl, h1, h2, la, s3⟩
      rw [List.length_map] at h2 la
      have h2 : Tups H3 as ((L.srt sg).rows.map Row.v) := h2
      refine ⟨_, rfl, A, rfl, ⟨_, SqL.of (s3 _ _ hA)⟩, fun D hD => lc_it (walk_list (xs := L.st.map V.str)) (fun i H4 => ∃ bs : List Addr, H4 D = some (.lst (bs.map V.ref)) ∧ Tups H4 bs (((List.range i).map L.turn).map Trn.v) ∧ bs.length = i ∧ Same H3 H4) ⟨[], upd_same, trivial, rfl, Same.put (Same.refl _) hD⟩ (fun _ _ _ h => by obtain ⟨_, _, _, _, h⟩ := h; exact SqL.of (h _ _ (s3 _ _ hA))) ?_ ?_⟩
      · rintro i x H4 H4' hi ⟨bs, g1, g2, lb, g3⟩ ⟨rfl, hx⟩
        rw [List.length_map] at hi
        have hi : i < L.n := hi
        have hx' : x = .str (L.nm i) := Option.some.inj (hx.symm.trans (map_get (nm_at hi)))
        subst hx'
        have s4 := s3.trans g3
        refine ⟨rfl, _, rfl, by show 1 ≤ sizeLine; decide, fun u hu => ?_⟩
        have s5 := Same.put (o := .tup [.str (L.nm i)]) s4 hu
        have g5 := Same.put (o := .tup [.str (L.nm i)]) g3 hu
        have gD5 : (L2.upd H4' u (.tup [.str (L.nm i)])) D = some (.lst (bs.map V.ref)) := (upd_ne (ne_of_none g1 hu)).trans g1
        have hu5 : (L2.upd H4' u (.tup [.str (L.nm i)])) u = some (.tup [.str (L.nm i)]) := upd_same
        have g25 := g2.same (Same.put (o := .tup [.str (L.nm i)]) (Same.refl _) hu)
        generalize L2.upd H4' u (.tup [.str (L.nm i)]) = H5 at s5 g5 gD5 hu5 g25 ⊢
        obtain ⟨t, val, ht⟩ := e1 i hi
        refine ⟨_, rfl, _, rfl, Ed, .ref t, rfl, val ▸ DGet.k (k := k1 (L.nm i)) (s5 _ _ hE), ?_⟩
        refine ⟨u, t, _, _, rfl, rfl, SqT.of hu5, SqT.of (s5 _ _ ht), List.cons_ne_nil _ _, by show 3 ≤ sizeLine; decide, (fun z => nomatch z), fun _ z hz => ?_⟩
        have s7 := Same.put (o := .tup ([.str (L.nm i)] ++ [.str (L.nm (L.tn i)), .int (L.ta i)])) (Same.refl H5) hz
        refine ⟨_, s7 _ _ gD5, by rw [List.length_map, sizeLine_eq]; omega, bs ++ [z], ?_, ?_, by rw [List.length_append, lb] <;> rfl, ?_⟩
        · rw [upd_same, List.map_append] <;> rfl
        · rw [List.range_succ, List.map_append, List.map_append]
          exact Tups.but (fun x => by intro q; cases q) (s7 _ _ gD5) (But.here (But.refl D _)) (Tups.snoc upd_same (g25.same s7))
        · exact Same.new' (g5.trans s7) hD
      · rintro H4 ⟨bs, g1, g2, lb, g3⟩
        rw [List.length_map] at g2 lb
        have g2 : Tups H4 bs ((L.srt sg).turns.map Trn.v) := g2
        have s4 := s3.trans g3
        refine ⟨_, rfl, _, rfl, A, _, rfl, .inl ⟨SqL.of (s4 _ _ hA), fun tA htA => ?_⟩⟩
        have s5 := Same.put (o := .tup (L.st.map V.str)) (Same.refl H4) htA
        have r5 : (L2.upd H4 tA (.tup (L.st.map V.str))) tA = some (.tup (L.st.map V.str)) := upd_same
        generalize L2.upd H4 tA (.tup (L.st.map V.str)) = H5 at s5 r5 ⊢
        refine ⟨_, rfl, lr, _, rfl, .inl ⟨SqL.of (s5 _ _ (g3 _ _ h1)), fun tR htR => ?_⟩⟩
        have s6 := Same.put (o := .tup (as.map V.ref)) (Same.refl H5) htR
        have r6 : (L2.upd H5 tR (.tup (as.map V.ref))) tR = some (.tup (as.map V.ref)) := upd_same
        generalize L2.upd H5 tR (.tup (as.map V.ref)) = H6 at s6 r6 ⊢
        have s46 := s5.trans s6
        refine ⟨_, rfl, D, _, rfl, .inl ⟨SqL.of (s46 _ _ g1), fun tU htU => ?_⟩⟩
        have s7 := Same.put (o := .tup (bs.map V.ref)) (Same.refl H6) htU
        have r7 : (L2.upd H6 tU (.tup (bs.map V.ref))) tU = some (.tup (bs.map V.ref)) := upd_same
        generalize L2.upd H6 tU (.tup (bs.map V.ref)) = H7 at s7 r7 ⊢
        have s47 := s46.trans s7
        have s07 := s4.trans s47
        refine ⟨_, rfl, A, rfl, ⟨_, SqL.of (s07 _ _ hA)⟩, fun D2 hD2 => lc_it (walk_list (xs := L.st.map V.str)) (fun i H8 => H8 D2 = some (.lst (((L.st.take i).filter fun z => decide (z ∈ L.yes)).map V.str)) ∧ Same H7 H8) ⟨upd_same, Same.put (Same.refl _) hD2⟩ (fun _ _ _ h => SqL.of (h.2 _ _ (s07 _ _ hA))) ?_ ?_⟩
        · rintro i x H8 H8' hi ⟨y1, y2⟩ ⟨rfl, hx⟩
          rw [List.length_map] at hi
          have hx' : x = .str (L.nm i) := Option.some.inj (hx.symm.trans (map_get (nm_at hi)))
          subst hx'
          refine ⟨rfl, _, rfl, _, rfl, Ok, _, rfl, .inl (SqL.of (y2 _ _ (s07 _ _ hO))), rfl, flat_strs _, _, rfl, ?_⟩
          rw [show inV (.str (L.nm i)) (L.yes.map V.str) = decide (L.nm i ∈ L.yes) from inV_strs _ _]
          refine ite2 (fun q => ?_) (fun q => ?_)
          · refine ⟨_, rfl, _, y1, ?_, ?_, Same.new' y2 hD2⟩
            · rw [List.length_map, sizeLine_eq]
              have := List.length_filter_le (fun z => decide (z ∈ L.yes)) (L.st.take i)
              have := List.length_take_le' i L.st
              omega
            · rw [upd_same, take_more (nm_at hi), List.filter_append, List.map_append]
              rw [show ([L.nm i].filter fun z => decide (z ∈ L.yes)) = [L.nm i] from List.filter_cons_of_pos q] <;> rfl
          · refine ⟨?_, y2⟩
            rw [y1, take_more (nm_at hi), List.filter_append, show ([L.nm i].filter fun z => decide (z ∈ L.yes)) = [] from List.filter_cons_of_neg q, List.append_nil]
        · rintro H8 ⟨y1, y2⟩
          rw [List.length_map, List.take_length, yes_filter O] at y1
          refine ⟨D2, _, rfl, .inl ⟨SqL.of y1, fun tY htY => ?_⟩⟩
          have s9 := Same.put (o := .tup (L.yes.map V.str)) (Same.refl H8) htY
          have r9 : (L2.upd H8 tY (.tup (L.yes.map V.str))) tY = some (.tup (L.yes.map V.str)) := upd_same
          generalize L2.upd H8 tY (.tup (L.yes.map V.str)) = H9 at s9 r9 ⊢
          have s79 := y2.trans s9
          refine ⟨by show 5 ≤ sizeLine; decide, fun r hr0 => ?_⟩
          have s10 := Same.put (o := .tup [.str (S sg), .ref tA, .ref tR, .ref tU, .ref tY]) (Same.refl H9) hr0
          have s010 : Same H (L2.upd H9 r (.tup [.str (S sg), .ref tA, .ref tR, .ref tU, .ref tY])) := (s07.trans s79).trans s10
          have z7 := s79.trans s10
          have z6 := s7.trans z7
          have z5 := s6.trans z6
          have z4 := s5.trans z5
          exact k r sg _ hsg srt ⟨tA, tR, tU, tY, as, bs, upd_same, z5 _ _ r5, z6 _ _ r6, (h2.same g3).same z4, z7 _ _ r7, g2.same z4, s10 _ _ r9⟩ (none_of_same (s07.trans s79) hr0) s010
end
end Wb
/-! what a loop's answers hang on: the map of a word alone -/
namespace Wb
open PySem L2 WbMin WbS Lz
/-- the names of the first states -/
def LD.nms (L : LD) (w : List Nat) (k : Nat) : List Str := (List.range k).map fun m => L.nm (it (L.lead w) m)
theorem it_congr {g g' : Nat → Nat} {n : Nat} (h0 : 0 < n) (lt : ∀ i, i < n → g i < n) (h : ∀ i, i < n → g i = g' i) : ∀ m, it g m = it g' m
  | 0 => rfl
  | m + 1 => by
    show g (it g m) = g' (it g' m)
    rw [← it_congr h0 lt h m]
    exact h _ (it_lt h0 lt m)
theorem fold_fst (L : LD) : ∀ (w : List Nat) (p p' : Nat × Int), p.1 = p'.1 → (w.foldl L.stp p).1 = (w.foldl L.stp p').1
  | [], _, _, h => h
  | c :: w, p, p', h => fold_fst L w _ _ (by show L.nx p.1 c = L.nx p'.1 c; rw [h])
theorem wk_app (L : LD) (u v : List Nat) (i : Nat) : (L.wk (u ++ v) i).1 = (L.wk v (L.wk u i).1).1 := by
  unfold LD.wk
  rw [List.foldl_append]
  exact fold_fst L v _ _ rfl
theorem lead_of {L : LD} {u v : List Nat} {i : Nat} (h : (L.wk u i).1 = (L.wk v i).1) : L.lead u i = L.lead v i := congrArg L.tn h
/-- a word that leads from each state where the other one leads -/
def Alike (L : LD) (u v : List Nat) : Prop := ∀ i, i < L.n → (L.wk u i).1 = (L.wk v i).1
theorem Alike.left {L : LD} {u v w : List Nat} (h : Alike L u v) : Alike L (u ++ w) (v ++ w) := fun i hi => by rw [wk_app, wk_app, h i hi]
theorem Alike.right {L : LD} (O : L.Ok) {u v w : List Nat} (hw : ∀ c ∈ w, c ∈ L.sg) (h : Alike L u v) : Alike L (w ++ u) (w ++ v) := fun i hi => by rw [wk_app, wk_app, h _ (wk_lt O hi hw)]
theorem Alike.it {L : LD} (O : L.Ok) {u v : List Nat} (hu : ∀ c ∈ u, c ∈ L.sg) (h : Alike L u v) (m : Nat) : it (L.lead u) m = it (L.lead v) m :=
  it_congr O.sts.pos (fun i hi => gone_lt O hi hu) (fun i hi => lead_of (h i hi)) m
theorem LoopAt.but {C T : Addr} {H H' : Hp} {p r : Addr} {L : LD} (hp : PoolAt H p) (s : But p H H') : LoopAt C T H r L → LoopAt C T H' r L := by
  rintro ⟨dx, t, rr, u, y, tb, as, bs, h0, pr, dx', dN, dX, dA, tX, tA, tY, xs, as', g0, hX, hx, hA, ha, hTX, hTA, hTY⟩
  obtain ⟨a, b, c, e, _⟩ := id hp
  have no : ∀ x, HO.lst [V.int a, .int b, .int c] ≠ HO.tup x := fun x q => by cases q
  exact ⟨dx, t, rr, u, y, tb, as, bs, s _ _ (pool_other hp h0 fun _ _ _ q => by cases q) h0, pr.but no e s, dx', dN, dX, dA, tX, tA, tY, xs, as', s _ _ (pool_other hp g0 fun _ _ _ q => by cases q) g0, s _ _ (pool_other hp hX fun _ _ _ q => by cases q) hX, hx.but no e s,
    s _ _ (pool_other hp hA fun _ _ _ q => by cases q) hA, ha.but no e s, s _ _ (pool_other hp hTX fun _ _ _ q => by cases q) hTX, s _ _ (pool_other hp hTA fun _ _ _ q => by cases q) hTA, s _ _ (pool_other hp hTY fun _ _ _ q => by cases q) hTY⟩
theorem LoopAt.hd {C T : Addr} {H : Hp} {r : Addr} {L : LD} (h : LoopAt C T H r L) : ∃ (dx : Addr) (fs : List (Str × V)), H r = some (.ins C dx fs) ∧ fs.lookup ("answer" : Str) = none ∧ fs.lookup ("state" : Str) = none := by
  obtain ⟨dx, t, rr, u, y, tb, as, bs, h0, pr, TA⟩ := h
  obtain ⟨_, _, _, x4, x5⟩ := lf_none (S L.sg) t rr u y tb
  exact ⟨dx, _, h0, x4, x5⟩
theorem MdAt.hd {H : Hp} {q : Addr} {L : LD} (h : MdAt H q L) : ∃ A Sd Ed O : Addr, H q = some (.lst [.str (S L.sg), .ref A, .ref Sd, .ref Ed, .ref O]) ∧ H A = some (.lst (L.st.map V.str)) ∧ H O = some (.lst (L.yes.map V.str)) := by
  obtain ⟨A, Sd, Ed, O, kvs, ws, h0, hA, hS, hE, e2, e1, hO⟩ := h
  exact ⟨A, Sd, Ed, O, h0, hA, hO⟩
theorem lst_ne {H : Hp} {p r : Addr} {xs : List V} (hp : PoolAt H p) (h : H r = some (.lst xs)) (n : ∀ i : Int, xs.head? ≠ some (.int i)) : r ≠ p := by
  obtain ⟨x, y, z, e, _⟩ := hp
  intro q
  subst q
  rw [e] at h
  injection h with h
  injection h with h
  rw [← h] at n
  exact n x rfl
theorem PoolAt.same {H H' : Hp} {p : Addr} (h : PoolAt H p) (s : Same H H') : PoolAt H' p := by
  obtain ⟨a, b, c, e, r⟩ := h
  exact ⟨a, b, c, s _ _ e, r⟩
end Wb
/-! the face of a thing: a def that calls itself, over things of any kind -/
namespace Wb
open PySem L2
abbrev sFace : Stmt := top 57
theorem Same.new2 {q : Addr} {o : HO} {H H' : Hp} (a : Same H H') (n : H q = none) : Same H (L2.upd H' q o) := fun c u h => by
  rw [upd_ne (ne_of_none h n)]
  exact a c u h
/-! ### data stay -/
theorem SqT.stay {K : PySem.W.Frag} {H H' : Hp} {a : Addr} {xs : List V} (s : Same H H') (h : SqT K H a xs) : SqT K H' a xs := by
  rcases h with (q | ⟨o, q⟩) | q
  · exact .inl (.inl (s _ _ q))
  · exact .inl (.inr ⟨o, s _ _ q⟩)
  · exact .inr q
mutual
theorem Dp.stay {K : PySem.W.Frag} {H H' : Hp} (s : Same H H') : ∀ {v : V} {d : PyData}, Dp K H v d → Dp K H' v d
  | _, _, .non => .non
  | _, _, .bl b => .bl b
  | _, _, .int i => .int i
  | _, _, .str x => .str x
  | _, _, .lst h r => .lst (s.seq h) (DpAll.stay s r)
  | _, _, .tup h r => .tup (SqT.stay s h) (DpAll.stay s r)
theorem DpAll.stay {K : PySem.W.Frag} {H H' : Hp} (s : Same H H') : ∀ {vs : List V} {ds : List PyData}, DpAll K H vs ds → DpAll K H' vs ds
  | _, _, .nil => .nil
  | _, _, .cons h r => .cons (Dp.stay s h) (DpAll.stay s r)
end
theorem DpAll.snoc {K : PySem.W.Frag} {H : Hp} {v : V} {d : PyData} : ∀ {vs : List V} {ds : List PyData}, DpAll K H vs ds → Dp K H v d → DpAll K H (vs ++ [v]) (ds ++ [d])
  | _, _, .nil, h => .cons h .nil
  | _, _, .cons h r, q => .cons h (DpAll.snoc r q)
/-! ### what a thing is, by the face that it has -/
def plainD (d : PyData) : PyData := .list [.str "plain", d]
/-- a thing without parts -/
inductive Leaf : V → PyData → Prop
  | non : Leaf .non (plainD .none)
  | bl (b : Bool) : Leaf (.bl b) (.list [.str "truth", .bool b])
  | int (i : Int) : Leaf (.int i) (plainD (.int i))
  | str (x : Str) : Leaf (.str x) (plainD (.str x))
inductive Both {α β : Type} (R : α → β → Prop) : List α → List β → Prop
  | nil : Both R [] []
  | cons {x : α} {y : β} {xs : List α} {ys : List β} (h : R x y) (r : Both R xs ys) : Both R (x :: xs) (y :: ys)
theorem Both.imp {α β : Type} {R R' : α → β → Prop} (f : ∀ x y, R x y → R' x y) : ∀ {xs : List α} {ys : List β}, Both R xs ys → Both R' xs ys
  | _, _, .nil => .nil
  | _, _, .cons h r => .cons (f _ _ h) (Both.imp f r)
theorem Both.len {α β : Type} {R : α → β → Prop} : ∀ {xs : List α} {ys : List β}, Both R xs ys → xs.length = ys.length
  | _, _, .nil => rfl
  | _, _, .cons _ r => congrArg (· + 1) (Both.len r)
theorem Both.get {α β : Type} {R : α → β → Prop} : ∀ {xs : List α} {ys : List β} {i : Nat} {x : α}, Both R xs ys → xs[i]? = some x → ∃ y, ys[i]? = some y ∧ R x y
  | _, _, _, _, .nil, h => by cases h
  | _, _, 0, _, .cons h _, e => by cases e; exact ⟨_, rfl, h⟩
  | _ :: _, _ :: _, i + 1, _, .cons _ r, e => Both.get (i := i) r e
def keyD (k : Str) (d : PyData) : PyData := .list [plainD (.str k), d]
def kvsOf (ks : List Str) (xs : List V) : List (Key × V) := List.zipWith (fun k x => (Sum.inr k, x)) ks xs
/-- all but what lies at a -/
def cut (H : Hp) (a : Addr) : Hp := fun b => if b = a then none else H b
theorem cut_same {H H' : Hp} {a : Addr} (s : Same H H') : Same (cut H a) (cut H' a) := fun b o h => by
  unfold cut at h ⊢
  by_cases e : b = a
  · rw [if_pos e] at h
    cases h
  · rw [if_neg e] at h ⊢
    exact s _ _ h
theorem cutH_to {H H' : Hp} {a : Addr} (s : ∀ b o, b ≠ a → H b = some o → H' b = some o) : Same (cut H a) H' := fun b o h => by
  unfold cut at h
  by_cases e : b = a
  · rw [if_pos e] at h
    cases h
  · rw [if_neg e] at h
    exact s _ _ e h
/-- at most n parts within parts; d the face -/
def Thing (H : Hp) : Nat → V → PyData → Prop
  | 0, _, _ => False
  | n + 1, v, d => Leaf v d ∨ (∃ (a : Addr) (xs : List V) (ds : List PyData), v = .ref a ∧ H a = some (.lst xs) ∧ xs.length ≤ 1000 ∧ Both (Thing H n) xs ds ∧ d = .list (.str "list" :: ds))
    ∨ (∃ (a : Addr) (xs : List V) (ds : List PyData), v = .ref a ∧ H a = some (.tup xs) ∧ xs.length ≤ 1000 ∧ Both (Thing H n) xs ds ∧ d = .list (.str "tuple" :: ds))
    ∨ (∃ (a : Addr) (ks : List Str) (xs : List V) (ds : List PyData), v = .ref a ∧ H a = some (.dK (kvsOf ks xs)) ∧ ks.Nodup ∧ ks.length = xs.length ∧ xs.length ≤ 1000 ∧ Both (Thing (cut H a) n) xs ds ∧ d = .list (.str "dict" :: List.zipWith keyD ks ds))
theorem Thing.same {H H' : Hp} (s : Same H H') : ∀ {n : Nat} {v : V} {d : PyData}, Thing H n v d → Thing H' n v d
  | 0, _, _, h => h.elim
  | _ + 1, _, _, .inl h => .inl h
  | _ + 1, _, _, .inr (.inl ⟨a, xs, ds, e, h, l, r, q⟩) => .inr (.inl ⟨a, xs, ds, e, s _ _ h, l, r.imp fun _ _ z => Thing.same s z, q⟩)
  | _ + 1, _, _, .inr (.inr (.inl ⟨a, xs, ds, e, h, l, r, q⟩)) => .inr (.inr (.inl ⟨a, xs, ds, e, s _ _ h, l, r.imp fun _ _ z => Thing.same s z, q⟩))
  | _ + 1, _, _, .inr (.inr (.inr ⟨a, ks, xs, ds, e, h, nd, l1, l, r, q⟩)) => .inr (.inr (.inr ⟨a, ks, xs, ds, e, s _ _ h, nd, l1, l, r.imp fun _ _ z => Thing.same (cut_same s) z, q⟩))
/-- what is new in H' -/
def New (H H' : Hp) : Hp := fun b => match H b with
  | none => H' b
  | some _ => none
theorem New.at {H H' : Hp} {b : Addr} (h : H b = none) : New H H' b = H' b := by
  unfold New
  rw [h]
theorem New.inv {H H' : Hp} {b : Addr} {o : HO} (h : New H H' b = some o) : H b = none ∧ H' b = some o := by
  unfold New at h
  cases e : H b with
  | none =>
    rw [e] at h
    exact ⟨rfl, h⟩
  | some u =>
    rw [e] at h
    cases h
theorem New.sub {H H' : Hp} : Same (New H H') H' := fun _ _ h => (New.inv h).2
theorem New.mono {A B A' B' : Hp} (f : ∀ b o, A b = none → B b = some o → A' b = none ∧ B' b = some o) : Same (New A B) (New A' B') := fun b o h => by
  obtain ⟨h1, h2⟩ := New.inv h
  obtain ⟨g1, g2⟩ := f b o h1 h2
  rw [New.at g1]
  exact g2
def spFace (K : PySem.W.Frag) (n : Nat) : Sp := fun vs H Q _ => ∃ (v : V) (d : PyData), vs = [v] ∧ Thing H n v d ∧ ∀ (a : Addr) (H' : Hp), H a = none → Same H H' → Dp K (New H H') (.ref a) d → Q (.ref a) H'
abbrev NF : List Str := ["_law_thing", "_law_part", "_law_key"]
theorem scFace : FnScope NF ["_law_thing"] (defScope sFace) := ⟨rfl, rfl, rfl, by decide +kernel, rfl, by decide +kernel, by decide +kernel⟩
structure FreeT (mg : Str → Option Value) : Prop where
  isi : mg "isinstance" = none
  tup : mg "tuple" = none
  lst : mg "list" = none
  dct : mg "dict" = none
  bool : mg "bool" = none
theorem leaf_ty {K : PySem.W.Frag} {H : Hp} {v : V} {d : PyData} (h : Leaf v d) : ∃ (t : String) (b : Bool) (d' : PyData), TyX K H v (.type t) ∧ PySem.W.kitOne K (.type t) (.type "tuple") = some false ∧ PySem.W.kitOne K (.type t) (.type "list") = some false ∧
    PySem.W.kitOne K (.type t) (.type "dict") = some false ∧ PySem.W.kitOne K (.type t) (.type "bool") = some b ∧ d = .list [.str (if b = true then "truth" else "plain"), d'] ∧ ∀ H', Dp K H' v d' := by
  cases h with
  | non => exact ⟨_, _, _, .base .non, kit_ty (by decide +kernel), kit_ty (by decide +kernel), kit_ty (by decide +kernel), kit_ty (r := false) (by decide +kernel), rfl, fun _ => .non⟩
  | bl b => exact ⟨_, _, _, .base (.bl b), kit_ty (by decide +kernel), kit_ty (by decide +kernel), kit_ty (by decide +kernel), kit_ty (r := true) (by decide +kernel), rfl, fun _ => .bl b⟩
  | int i => exact ⟨_, _, _, .base (.int i), kit_ty (by decide +kernel), kit_ty (by decide +kernel), kit_ty (by decide +kernel), kit_ty (r := false) (by decide +kernel), rfl, fun _ => .int i⟩
  | str x => exact ⟨_, _, _, .base (.str x), kit_ty (by decide +kernel), kit_ty (by decide +kernel), kit_ty (by decide +kernel), kit_ty (r := false) (by decide +kernel), rfl, fun _ => .str x⟩
theorem free_of {H H' : Hp} {q : Addr} (s : Same H H') (n : H' q = none) : H q = none := by
  cases e : H q with
  | none => rfl
  | some o =>
    rw [s _ _ e] at n
    cases n
/-- the list of faces grows in D -/
def FacePv (K : PySem.W.Frag) (B : Hp) (D : Addr) (ds : List PyData) (i : Nat) (H : Hp) : Prop := ∃ ys : List V, H D = some (.lst ys) ∧ ys.length = i ∧ DpAll K (New (upd B D (.lst [])) H) ys (ds.take i) ∧ Same B H
theorem FacePv.same {K : PySem.W.Frag} {B H : Hp} {D : Addr} {ds : List PyData} {i : Nat} (h : FacePv K B D ds i H) (_ : B D = none) : Same B H := h.choose_spec.2.2.2
theorem FacePv.start {K : PySem.W.Frag} {B : Hp} {D : Addr} {ds : List PyData} (hD : B D = none) : FacePv K B D ds 0 (upd B D (.lst [])) := ⟨[], upd_same, rfl, by rw [List.take_zero]; exact .nil, Same.new2 (Same.refl _) hD⟩
theorem FacePv.grow {K : PySem.W.Frag} {B H H5 : Hp} {D : Addr} {ds : List PyData} {i : Nat} {v : V} {y : PyData} (h : FacePv K B D ds i H) (hD : B D = none) (hy : ds[i]? = some y) (s5 : Same H H5)
    (d5 : ∀ ys, H D = some (.lst ys) → Dp K (New (upd B D (.lst [])) (upd H5 D (.lst (ys ++ [v])))) v y) (few : i < 16777216) : ∃ acc, H5 D = some (.lst acc) ∧ acc.length < sizeLine ∧ FacePv K B D ds (i + 1) (upd H5 D (.lst (acc ++ [v]))) := by
  obtain ⟨ys, e1, e2, e3, e4⟩ := h
  refine ⟨ys, s5 _ _ e1, by rw [sizeLine_eq]; omega, ys ++ [v], upd_same, by rw [List.length_append, e2] <;> rfl, ?_, Same.new2 (e4.trans s5) hD⟩
  rw [List.take_add_one, hy]
  refine DpAll.snoc (DpAll.stay (New.mono fun b o h1 h2 => ⟨h1, ?_⟩) e3) (d5 ys e1)
  have n : b ≠ D := fun z => by
    rw [z, upd_same] at h1
    cases h1
  rw [upd_ne n]
  exact s5 _ _ h2
/-- what is new since later is new since earlier -/
theorem new_in {B H H5 : Hp} {D : Addr} {o : HO} (hB : Same B H) {ys : List V} (hD : H D = some (.lst ys)) : Same (New H H5) (New (upd B D (.lst [])) (upd H5 D o)) := New.mono fun b u h1 h2 => by
  have n : b ≠ D := fun z => by
    rw [z, hD] at h1
    cases h1
  refine ⟨?_, ?_⟩
  · rw [upd_ne n]
    exact free_of hB h1
  · rw [upd_ne n]
    exact h2
theorem FacePv.step {K : PySem.W.Frag} {B H H5 : Hp} {D : Addr} {ds : List PyData} {i : Nat} {c : Addr} {y : PyData} (h : FacePv K B D ds i H) (hD : B D = none) (hy : ds[i]? = some y) (_ : H c = none) (s5 : Same H H5) (d5 : Dp K (New H H5) (.ref c) y) (few : i < 16777216) :
    ∃ acc, H5 D = some (.lst acc) ∧ acc.length < sizeLine ∧ FacePv K B D ds (i + 1) (upd H5 D (.lst (acc ++ [.ref c]))) :=
  h.grow hD hy s5 (fun ys e => Dp.stay (new_in (h.same hD) e) d5) few
theorem FacePv.done {K : PySem.W.Frag} {H H3 : Hp} {L D : Addr} {ds : List PyData} {w : Str} {n : Nat} {Q : VK} (h : FacePv K (upd H L (.lst [.str w])) D ds n H3) (hD : upd H L (.lst [.str w]) D = none) (hL : H L = none) (len : n = ds.length) (few : n ≤ 1000)
    (k : ∀ (a : Addr) (H' : Hp), H a = none → Same H H' → Dp K (New H H') (.ref a) (.list (.str w :: ds)) → Q (.ref a) H') : rCat (.ref L) (.ref D) H3 Q := by
  obtain ⟨ys, e1, e2, e3, e4⟩ := h
  have s0 : Same H H3 := (Same.new2 (Same.refl H) hL).trans e4
  refine ⟨L, D, _, ys, rfl, rfl, e4 _ _ upd_same, e1, by rw [sizeLine_eq, e2]; show 1 + n ≤ _; omega, fun M hM => ?_⟩
  have nM := free_of s0 hM
  refine k M _ nM (Same.new2 s0 nM) ?_
  refine .lst (SqL.of ((New.at nM).trans upd_same)) (.cons (.str _) ?_)
  rw [show ds.take n = ds by rw [len, List.take_length]] at e3
  refine DpAll.stay (New.mono fun b o h1 h2 => ?_) e3
  have n1 : b ≠ D := fun z => by
    rw [z, upd_same] at h1
    cases h1
  rw [upd_ne n1] at h1
  have n2 : b ≠ L := fun z => by
    rw [z, upd_same] at h1
    cases h1
  rw [upd_ne n2] at h1
  refine ⟨h1, ?_⟩
  rw [upd_ne (ne_of_none h2 hM)]
  exact h2
theorem FacePv.unlock {K : PySem.W.Frag} {B H3 : Hp} {a D : Addr} {ds : List PyData} {n : Nat} {u : HO} {od : Obj} (h : FacePv K (upd B a (.frz od u)) D ds n H3) (hD : upd B a (.frz od u) D = none) (ha : B a = some u) : FacePv K B D ds n (upd H3 a u) := by
  obtain ⟨ys, e1, e2, e3, e4⟩ := h
  have nD : D ≠ a := fun z => by
    rw [z, upd_same] at hD
    cases hD
  refine ⟨ys, (upd_ne nD).trans e1, e2, DpAll.stay (New.mono fun b o h1 h2 => ?_) e3, fun b o h => ?_⟩
  · have n1 : b ≠ D := fun z => by
      rw [z, upd_same] at h1
      cases h1
    rw [upd_ne n1] at h1
    have n2 : b ≠ a := fun z => by
      rw [z, upd_same] at h1
      cases h1
    rw [upd_ne n2] at h1
    rw [upd_ne n1, upd_ne n2]
    exact ⟨h1, h2⟩
  · by_cases e : b = a
    · rw [e, upd_same]
      rw [e, ha] at h
      exact h
    · rw [upd_ne e]
      exact e4 _ _ ((upd_ne e).trans h)
theorem kvs_at {ks : List Str} {xs : List V} {i : Nat} {kk : Key} {vv : V} (h : (kvsOf ks xs)[i]? = some (kk, vv)) : ∃ kt, kk = Sum.inr kt ∧ ks[i]? = some kt ∧ xs[i]? = some vv := by
  unfold kvsOf at h
  rw [List.getElem?_zipWith] at h
  cases h1 : ks[i]? with
  | none =>
    rw [h1] at h
    cases h
  | some kt =>
    cases h2 : xs[i]? with
    | none =>
      rw [h1, h2] at h
      cases h
    | some x =>
      rw [h1, h2] at h
      cases h
      exact ⟨kt, rfl, rfl, rfl⟩
theorem valV_at : ∀ {ks : List Str} {xs : List V} {i : Nat} {kt : Str} {vv : V}, ks.Nodup → ks.length = xs.length → ks[i]? = some kt → xs[i]? = some vv → valV (kvsOf ks xs) (Sum.inr kt) = some vv
  | [], _, _, _, _, _, _, h, _ => by cases h
  | _ :: _, [], _, _, _, _, h, _, _ => by cases h
  | k :: ks, x :: xs, 0, kt, vv, _, _, h1, h2 => by
    cases h1
    cases h2
    show ((List.find? _ ((Sum.inr k, x) :: kvsOf ks xs)).map (·.2)) = some x
    rw [List.find?_cons_of_pos (by simp)] <;> rfl
  | k :: ks, x :: xs, i + 1, kt, vv, nd, len, h1, h2 => by
    obtain ⟨n1, n2⟩ := List.nodup_cons.mp nd
    have h1' : ks[i]? = some kt := h1
    have ne : k ≠ kt := fun z => n1 (z ▸ List.mem_of_getElem? h1')
    have ih := valV_at (ks := ks) (xs := xs) (i := i) n2 (Nat.succ.inj len) h1' h2
    show ((List.find? _ ((Sum.inr k, x) :: kvsOf ks xs)).map (·.2)) = some vv
    rw [List.find?_cons_of_neg (by simpa using ne)]
    exact ih
section
variable {P : Program} {w : World} {K : PySem.W.Frag} {mg : Str → Option Value} {base : Heap} {f : Addr} {fd : FuncData}
theorem face_none : FnOk P w K mg base CX0 1 f fd ["_law_thing"] (spFace K 0) :=
  ⟨fun vs H Q E h => by obtain ⟨v, d, rfl, z, _⟩ := h; exact z.elim, fun A outer s H args us vs Q E hr e0 hb hv h => by obtain ⟨v, d, rfl, z, _⟩ := h; exact z.elim⟩
set_option maxHeartbeats 0 in
theorem face_more {n : Nat} (D : Fun K "_law_face" "_law_face" sFace f fd) (g : mg "_law_face" = some (.ref f)) (kp : PySem.W.keepIn K (.ref f) = true) (b : Binds K fd ["_law_thing"] []) (Z : FreeT mg)
    (G : FnOk P w K mg base CX0 (n + 1) f fd ["_law_thing"] (spFace K n)) : FnOk P w K mg base CX0 (n + 2) f fd ["_law_thing"] (spFace K (n + 1)) := by
  refine D.ok scFace (fun vs H Q E h => ?_) (fun cdv A outer s H vs Q E hr h => ?_)
  · obtain ⟨v, d, rfl, _⟩ := h
    rfl
  · obtain ⟨v, d, rfl, th, k⟩ := h
    refine ⟨_, pss_cons (ps_if (pt_val (pe_callB call_isi (by rfl) Z.isi (by decide +kernel) (pa_cons (pv 0) (pa_cons (pe_bltn (v := .ty "tuple") (u := .type "tuple") (by rfl) Z.tup (by decide +kernel) rfl) pa_nil))))
        (pss_one (ps_ret (pe_op op_cat (pe_lst (pa_cons pe_str pa_nil))
          (pe_lc (own := [("_law_part", 1)]) (g := gName 1) (tt := tYes) rfl scFace.nd (pi_tup (pv 0)) (blkOk_by (N := NF) (sc := defScope sFace) (by decide +kernel)) (fun _ _ _ _ _ => pg_name (i := 1) scFace.nd rfl (.inl rfl)) (fun _ _ _ _ _ => pts_nil)
            (fun _ _ _ _ _ => pe_call G hr rfl g kp b .nil pass0 (pa_cons (pv 1) pa_nil)))))) pss_nil)
      (pss_cons (ps_if (pt_val (pe_callB call_isi (by rfl) Z.isi (by decide +kernel) (pa_cons (pv 0) (pa_cons (pe_bltn (v := .ty "list") (u := .type "list") (by rfl) Z.lst (by decide +kernel) rfl) pa_nil))))
        (pss_one (ps_ret (pe_op op_cat (pe_lst (pa_cons pe_str pa_nil))
          (pe_lc (own := [("_law_part", 1)]) (g := gName 1) (tt := tYes) rfl scFace.nd (pi_list (pv 0)) (blkOk_by (N := NF) (sc := defScope sFace) (by decide +kernel)) (fun _ _ _ _ _ => pg_name (i := 1) scFace.nd rfl (.inl rfl)) (fun _ _ _ _ _ => pts_nil)
            (fun _ _ _ _ _ => pe_call G hr rfl g kp b .nil pass0 (pa_cons (pv 1) pa_nil)))))) pss_nil)
      (pss_cons (ps_if (pt_val (pe_callB call_isi (by rfl) Z.isi (by decide +kernel) (pa_cons (pv 0) (pa_cons (pe_bltn (v := .ty "dict") (u := .type "dict") (by rfl) Z.dct (by decide +kernel) rfl) pa_nil))))
        (pss_one (ps_ret (pe_op op_cat (pe_lst (pa_cons pe_str pa_nil))
          (pe_lock (pe_lc (own := [("_law_key", 2)]) (g := gName 2) (tt := tYes) rfl scFace.nd (pi_keys (pv 0)) (blkOk_by (N := NF) (sc := defScope sFace) (by decide +kernel)) (fun _ _ _ _ _ => pg_name (i := 2) scFace.nd rfl (.inl rfl)) (fun _ _ _ _ _ => pts_nil)
            (fun _ _ _ _ _ => pe_lst (pa_cons (pe_call G hr rfl g kp b .nil pass0 (pa_cons (pv 2) pa_nil)) (pa_cons (pe_call G hr rfl g kp b .nil pass0 (pa_cons (pe_dget (hu_of hr) (pv 0) (pv 2) (fun _ _ => rfl)) pa_nil)) pa_nil)))))))) pss_nil)
      (pss_one (ps_ret (pe_lst (pa_cons (pe_ifExp (pt_val (pe_callB call_isi (by rfl) Z.isi (by decide +kernel) (pa_cons (pv 0) (pa_cons (pe_bltn (v := .ty "bool") (u := .type "bool") (by rfl) Z.bool (by decide +kernel) rfl) pa_nil)))) pe_str pe_str) (pa_cons (pv 0) pa_nil))))))), ?_⟩
    rcases th with lf | ⟨a, xs, ds, rfl, ha, few, parts, rfl⟩ | ⟨a, xs, ds, rfl, ha, few, parts, rfl⟩ | ⟨a, ks, xs, ds, rfl, ha, nd, len, few, parts, rfl⟩
    · obtain ⟨t, c, d', ty, k1, k2, k3, k4, rfl, dp⟩ := leaf_ty (K := K) (H := H) lf
      refine ⟨_, rfl, _, _, .type t, .type "tuple", false, rfl, .ty "tuple", ty, k1, false, rfl, iteF ?_⟩
      refine ⟨_, rfl, _, _, .type t, .type "list", false, rfl, .ty "list", ty, k2, false, rfl, iteF ?_⟩
      refine ⟨_, rfl, _, _, .type t, .type "dict", false, rfl, .ty "dict", ty, k3, false, rfl, iteF ?_⟩
      refine ⟨_, rfl, _, _, .type t, .type "bool", c, rfl, .ty "bool", ty, k4, c, rfl, ?_⟩
      cases c with
      | true => exact iteT ⟨_, rfl, (by show 2 ≤ sizeLine; decide), fun q hq => k q _ hq (Same.new2 (Same.refl H) hq) (.lst (SqL.of ((New.at hq).trans upd_same)) (.cons (.str _) (.cons (dp _) .nil)))⟩
      | false => exact iteF ⟨_, rfl, (by show 2 ≤ sizeLine; decide), fun q hq => k q _ hq (Same.new2 (Same.refl H) hq) (.lst (SqL.of ((New.at hq).trans upd_same)) (.cons (.str _) (.cons (dp _) .nil)))⟩
    · refine ⟨_, rfl, _, _, .type "list", .type "tuple", false, rfl, .ty "tuple", .base (.lst ha), kit_ty (by decide +kernel), false, rfl, iteF ?_⟩
      refine ⟨_, rfl, _, _, .type "list", .type "list", true, rfl, .ty "list", .base (.lst ha), kit_ty (by decide +kernel), true, rfl, iteT ?_⟩
      have mk : ∀ L, H L = none → Same H (upd H L (.lst [.str "list"])) := fun L hL => Same.new2 (Same.refl H) hL
      refine ⟨(by show 1 ≤ sizeLine; decide), fun L hL => ⟨_, rfl, a, rfl, ⟨xs, SqL.of (mk L hL _ _ ha)⟩, fun D hD => ?_⟩⟩
      refine lc_it (walk_list (xs := xs)) (FacePv K (upd H L (.lst [.str "list"])) D ds) (FacePv.start hD) (fun i H3 _ q => SqL.of (q.same hD _ _ (mk L hL _ _ ha))) ?_ ?_
      · rintro i x H3 H3' hi q ⟨rfl, hx⟩
        obtain ⟨y, hy, th⟩ := parts.get hx
        refine ⟨rfl, _, rfl, x, y, rfl, th.same ((mk L hL).trans (q.same hD)), fun c H5 hc s5 d5 => q.step hD hy hc s5 d5 (by omega)⟩
      · rintro H3 q
        exact q.done hD hL parts.len few k
    · refine ⟨_, rfl, _, _, .type "tuple", .type "tuple", true, rfl, .ty "tuple", .base (.tup ha), kit_ty (by decide +kernel), true, rfl, iteT ?_⟩
      have mk : ∀ L, H L = none → Same H (upd H L (.lst [.str "tuple"])) := fun L hL => Same.new2 (Same.refl H) hL
      refine ⟨(by show 1 ≤ sizeLine; decide), fun L hL => ⟨_, rfl, a, rfl, ⟨xs, SqT.of (mk L hL _ _ ha)⟩, fun D hD => ?_⟩⟩
      refine lc_it (walk_tup (xs := xs)) (FacePv K (upd H L (.lst [.str "tuple"])) D ds) (FacePv.start hD) (fun i H3 _ q => SqT.of (q.same hD _ _ (mk L hL _ _ ha))) ?_ ?_
      · rintro i x H3 H3' hi q ⟨rfl, hx⟩
        obtain ⟨y, hy, th⟩ := parts.get hx
        refine ⟨rfl, _, rfl, x, y, rfl, th.same ((mk L hL).trans (q.same hD)), fun c H5 hc s5 d5 => q.step hD hy hc s5 d5 (by omega)⟩
      · rintro H3 q
        exact q.done hD hL parts.len few k
    · refine ⟨_, rfl, _, _, .type "dict", .type "tuple", false, rfl, .ty "tuple", .base (.dK ha), kit_ty (by decide +kernel), false, rfl, iteF ?_⟩
      refine ⟨_, rfl, _, _, .type "dict", .type "list", false, rfl, .ty "list", .base (.dK ha), kit_ty (by decide +kernel), false, rfl, iteF ?_⟩
      refine ⟨_, rfl, _, _, .type "dict", .type "dict", true, rfl, .ty "dict", .base (.dK ha), kit_ty (by decide +kernel), true, rfl, iteT ?_⟩
      have mk : ∀ L, H L = none → Same H (upd H L (.lst [.str "dict"])) := fun L hL => Same.new2 (Same.refl H) hL
      refine ⟨(by show 1 ≤ sizeLine; decide), fun L hL => ⟨a, .dK (kvsOf ks xs), mk L hL _ _ ha, trivial, fun od => ⟨_, rfl, a, od, rfl, .inl ⟨_, upd_same, fun D hD => ?_⟩⟩⟩⟩
      have klen : (kvsOf ks xs).length = xs.length := by unfold kvsOf; rw [List.length_zipWith]; omega
      have dlen : (List.zipWith keyD ks ds).length = xs.length := by have := parts.len; rw [List.length_zipWith]; omega
      refine lc_it (walk_keys (kvs := kvsOf ks xs)) (FacePv K (upd (upd H L (.lst [.str "dict"])) a (.frz od (.dK (kvsOf ks xs)))) D (List.zipWith keyD ks ds)) (FacePv.start hD) (fun i H3 _ q => q.same hD _ _ upd_same) ?_ ?_
      · rintro i x H3 H3' hi q ⟨rfl, kk, vv, hk, rfl⟩
        obtain ⟨kt, rfl, ek, ev⟩ := kvs_at hk
        obtain ⟨y, hy, th⟩ := parts.get ev
        have s3 := q.same hD
        have lo : Same (cut H a) H3' := cutH_to fun b o n h => s3 _ _ ((upd_ne n).trans (mk L hL _ _ h))
        refine ⟨rfl, _, rfl, .str kt, plainD (.str kt), rfl, ?_, fun c H5 hc s5 d5 => ⟨_, rfl, _, rfl, a, _, rfl, .inl ⟨kvsOf ks xs, Sum.inr kt, .inr ⟨od, s5 _ _ (s3 _ _ upd_same)⟩, rfl, (valV_at nd len ek ev).symm⟩, vv, y, rfl, th.same (lo.trans s5), fun c2 H6 hc2 s6 d6 => ?_⟩⟩
        · cases n with
          | zero => exact th.elim
          | succ m => exact .inl (.str kt)
        · refine ⟨(by show 2 ≤ sizeLine; decide), fun E hE => ?_⟩
          have s56 := s5.trans s6
          have nE3 := free_of s56 hE
          refine q.grow hD (y := keyD kt y) ?_ (s56.trans (Same.new2 (Same.refl _) hE)) (fun ys e => ?_) (by omega)
          · rw [List.getElem?_zipWith, ek, hy] <;> rfl
          · have nDE : E ≠ D := fun z => by
              rw [z, e] at nE3
              cases nE3
            have nB := free_of (q.same hD) nE3
            refine .lst (SqL.of (xs := [.ref c, .ref c2]) ((New.at (by rw [upd_ne nDE]; exact nB)).trans ?_)) (.cons (Dp.stay ?_ d5) (.cons (Dp.stay ?_ d6) .nil))
            · rw [upd_ne nDE, upd_same]
            · refine New.mono fun b o h1 h2 => ?_
              have n : b ≠ D := fun z => by
                rw [z, e] at h1
                cases h1
              have n2 : b ≠ E := ne_of_none (s6 _ _ h2) hE
              rw [upd_ne n, upd_ne n, upd_ne n2]
              exact ⟨free_of s3 h1, s6 _ _ h2⟩
            · refine New.mono fun b o h1 h2 => ?_
              have h1' := free_of s5 h1
              have n : b ≠ D := fun z => by
                rw [z, e] at h1'
                cases h1'
              have n2 : b ≠ E := ne_of_none h2 hE
              rw [upd_ne n, upd_ne n, upd_ne n2]
              exact ⟨free_of s3 h1', h2⟩
      · rintro H3 q
        refine ⟨q.same hD _ _ upd_same, (q.unlock hD (mk L hL _ _ ha)).done ?_ hL (klen.trans dlen.symm) (by omega) k⟩
        have nD : D ≠ a := fun z => by
          rw [z, upd_same] at hD
          cases hD
        exact (upd_ne nD).symm.trans hD
theorem ok_face (D' : Def K mg "_law_face" sFace ["_law_thing"] f fd) (Z : FreeT mg) : ∀ n, FnOk P w K mg base CX0 (n + 1) f fd ["_law_thing"] (spFace K n)
  | 0 => face_none
  | n + 1 => face_more D'.F D'.g D'.kp D'.b Z (ok_face D' Z n)
end
end Wb
/-! values of any sort, asked what they are -/
namespace Wb
open PySem L2 WbMin WbS
abbrev sLWhole : Stmt := top 58
abbrev sLIsWord : Stmt := top 61
/-- a text as it may be passed -/
structure Tx (l : List Nat) : Prop where
  few : l.length ≤ 2000
  cod : ∀ c ∈ l, c < 1000
theorem Tx.fits {l : List Nat} (h : Tx l) : (S l).length ≤ sizeLine := by
  rw [S_len, sizeLine_eq]
  have := h.few
  omega
/-- a value of any sort, the pool p no part of it; d its face -/
def Any (p : Addr) (H : Hp) (x : V) (d : PyData) : Prop := Thing (cut H p) 5 x d ∧ (∀ z, x = .str z → ∃ l, z = S l ∧ Tx l) ∧ (∀ i, x = .int i → i < 2 ^ 1000) ∧ d.canLay0 = true ∧ PyData.depth d ≤ 60
theorem cut_but {p : Addr} {H H' : Hp} (b : But p H H') : Same (cut H p) (cut H' p) := fun c o h => by
  unfold cut at h ⊢
  by_cases e : c = p
  · rw [if_pos e] at h
    cases h
  · rw [if_neg e] at h ⊢
    exact b _ _ e h
theorem Any.but {p : Addr} {H H' : Hp} {x : V} {d : PyData} (h : Any p H x d) (b : But p H H') : Any p H' x d := ⟨h.1.same (cut_but b), h.2⟩
theorem Any.same {p : Addr} {H H' : Hp} {x : V} {d : PyData} (h : Any p H x d) (s : Same H H') : Any p H' x d := ⟨h.1.same (cut_same s), h.2⟩
theorem Any.thing {p : Addr} {H : Hp} {x : V} {d : PyData} (h : Any p H x d) : Thing H 5 x d := h.1.same (cutH_to fun _ _ _ e => e)
/-- what is neither a text nor an integer -/
inductive Neither (H : Hp) : V → Prop where
  | non : Neither H .non
  | bl (b : Bool) : Neither H (.bl b)
  | lst {a : Addr} {xs : List V} (h : H a = some (.lst xs)) : Neither H (.ref a)
  | tup {a : Addr} {xs : List V} (h : H a = some (.tup xs)) : Neither H (.ref a)
  | dK {a : Addr} {xs : List (Key × V)} (h : H a = some (.dK xs)) : Neither H (.ref a)
theorem Neither.same {H H' : Hp} {x : V} (h : Neither H x) (s : Same H H') : Neither H' x := by
  cases h with
  | non => exact .non
  | bl b => exact .bl b
  | lst h => exact .lst (s _ _ h)
  | tup h => exact .tup (s _ _ h)
  | dK h => exact .dK (s _ _ h)
theorem Any.sort {p : Addr} {H : Hp} {x : V} {d : PyData} (h : Any p H x d) : (∃ l, x = .str (S l) ∧ Tx l) ∨ (∃ i, x = .int i) ∨ Neither H x := by
  have th := h.thing
  rcases th with lf | ⟨a, xs, ds, rfl, ha, _⟩ | ⟨a, xs, ds, rfl, ha, _⟩ | ⟨a, ks, xs, ds, rfl, ha, _⟩
  · cases lf with
    | non => exact .inr (.inr .non)
    | bl b => exact .inr (.inr (.bl b))
    | int i => exact .inr (.inl ⟨i, rfl⟩)
    | str z =>
      obtain ⟨l, rfl, t⟩ := h.2.1 z rfl
      exact .inl ⟨l, rfl, t⟩
  · exact .inr (.inr (.lst ha))
  · exact .inr (.inr (.tup ha))
  · exact .inr (.inr (.dK ha))
theorem Neither.str {H : Hp} {K : PySem.W.Frag} {x : V} (h : Neither H x) : ∃ t, TyX K H x t ∧ PySem.W.kitOne K t (.type "str") = some false := by
  cases h with
  | non => exact ⟨_, .base .non, kit_ty (by decide +kernel)⟩
  | bl b => exact ⟨_, .base (.bl b), kit_ty (by decide +kernel)⟩
  | lst h => exact ⟨_, .base (.lst h), kit_ty (by decide +kernel)⟩
  | tup h => exact ⟨_, .base (.tup h), kit_ty (by decide +kernel)⟩
  | dK h => exact ⟨_, .base (.dK h), kit_ty (by decide +kernel)⟩
theorem Neither.int {H : Hp} {K : PySem.W.Frag} {x : V} (h : Neither H x) : ∃ (t : Value) (b : Bool), TyX K H x t ∧ PySem.W.kitOne K t (.type "int") = some b ∧ (b = true → PySem.W.kitOne K t (.type "bool") = some true) := by
  cases h with
  | non => exact ⟨_, false, .base .non, kit_ty (by decide +kernel), fun z => by cases z⟩
  | bl b => exact ⟨_, true, .base (.bl b), kit_ty (by decide +kernel), fun _ => kit_ty (by decide +kernel)⟩
  | lst h => exact ⟨_, false, .base (.lst h), kit_ty (by decide +kernel), fun z => by cases z⟩
  | tup h => exact ⟨_, false, .base (.tup h), kit_ty (by decide +kernel), fun z => by cases z⟩
  | dK h => exact ⟨_, false, .base (.dK h), kit_ty (by decide +kernel), fun z => by cases z⟩
/-! ### the answers -/
def okc (c : Nat) : Bool := decide (97 ≤ c) && decide (c ≤ 122)
def isWB (l : List Nat) : Bool := decide (1 ≤ l.length) && decide (l.length ≤ 600) && l.all okc
theorem isWB_iff {l : List Nat} : isWB l = true ↔ IsW l := by
  unfold isWB
  rw [Bool.and_eq_true, Bool.and_eq_true, decide_eq_true_iff, decide_eq_true_iff, List.all_eq_true]
  constructor
  · rintro ⟨⟨a, b⟩, c⟩
    refine ⟨fun d hd => ?_, by omega, b⟩
    have q := c d hd
    unfold okc at q
    rw [Bool.and_eq_true, decide_eq_true_iff, decide_eq_true_iff] at q
    exact q
  · rintro ⟨a, b, c⟩
    refine ⟨⟨by omega, c⟩, fun d hd => ?_⟩
    unfold okc
    rw [Bool.and_eq_true, decide_eq_true_iff, decide_eq_true_iff]
    exact a d hd
/-- a word -/
def wordB : V → Bool
  | .str z => isWB z.cps.toList
  | _ => false
/-- a word of these signs -/
def goodW (sg : List Nat) : V → Bool
  | .str z => isWB z.cps.toList && z.cps.toList.all fun c => decide (c ∈ sg)
  | _ => false
def intB : V → Bool
  | .int _ => true
  | _ => false
theorem wordB_S {l : List Nat} : wordB (.str (S l)) = isWB l := congrArg isWB (S_cps l)
theorem goodW_S {sg l : List Nat} : goodW sg (.str (S l)) = (isWB l && l.all fun c => decide (c ∈ sg)) := by
  show (isWB (S l).cps.toList && (S l).cps.toList.all fun c => decide (c ∈ sg)) = _
  rw [S_cps]
theorem Neither.word {H : Hp} {x : V} (h : Neither H x) : wordB x = false := by cases h <;> rfl
theorem Neither.good {H : Hp} {x : V} {sg : List Nat} (h : Neither H x) : goodW sg x = false := by cases h <;> rfl
theorem Neither.intB {H : Hp} {x : V} (h : Neither H x) : intB x = false := by cases h <;> rfl
def spIsWordA : Sp := fun vs H Q _ => ∃ (p : Addr) (x : V) (d : PyData), vs = [x] ∧ Any p H x d ∧ ∀ H', Same H H' → Q (.bl (wordB x)) H'
def spLIsWordL : Sp := fun vs H Q _ => ∃ (p : Addr) (x : V) (d : PyData) (sg : List Nat), vs = [x, .str (S sg)] ∧ Any p H x d ∧ Low sg ∧ ∀ H', Same H H' → Q (.bl (goodW sg x)) H'
section
variable {P : Program} {w : World} {K : PySem.W.Frag} {mg : Str → Option Value} {base : Heap} {f fI : Addr} {fd dI : FuncData}
set_option maxHeartbeats 0 in
theorem ok_iswordA (F : Fun K "is_word" "is_word" sIsWord f fd) (Z : Free mg) (t6 : Tok) (g6 : mg "MOST_WORD" = some (.int 600 t6)) : FnOk P w K mg base CX0 1 f fd ["value"] spIsWordA := by
  refine F.ok scIW (fun vs H Q E h => by obtain ⟨p, x, d, rfl, _⟩ := h; rfl) (fun cdv A outer s H vs Q E hr h => ?_)
  obtain ⟨p, x, d, rfl, ha, k⟩ := h
  refine ⟨_, pss_cons (ps_if (PW.pt (pw_or (pt_not (pt_val (pe_callB call_isi (by rfl) Z.isi (by decide +kernel) (pa_cons (pv 0) (pa_cons (pe_bltn (v := .ty "str") (u := .type "str") (by rfl) Z.str (by decide +kernel) rfl) pa_nil)))))
      (pw_or1 (pt_not (pt_chain op_le op_le pe_int (pe_callB call_len_str (by rfl) Z.len PySem.boot_len (pa_cons (pv 0) pa_nil)) (pe_glob (v := .int 600) (by rfl) g6 ⟨_, rfl⟩)))))) (pss_one (ps_ret pe_bl)) pss_nil)
    (pss_one (ps_ret (pe_callB (cr_all rfl) (by rfl) Z.all (by decide +kernel) (pa_cons
      (pe_lc (own := [("sign", 1)]) (g := gName 1) (tt := tYes) rfl scIW.nd (pi_str (pv 0)) (blkOk_by (N := ["value", "sign"]) (sc := defScope sIsWord) (by decide +kernel)) (fun _ _ _ _ _ => pg_name (i := 1) scIW.nd rfl (.inl rfl)) (fun _ _ _ _ _ => pts_nil)
        (fun _ _ _ _ _ => pe_chain op_le_str op_le_str pe_str (pv 1) pe_str)) pa_nil)))), ?_⟩
  rcases ha.sort with ⟨l, rfl, tl⟩ | ⟨i, rfl⟩ | n
  · rw [wordB_S] at k
    have few := tl.few
    refine ⟨_, rfl, _, _, .type "str", .type "str", true, rfl, .ty "str", .base (.str _), kit_ty (by decide +kernel), true, rfl, ?_⟩
    have no : ¬ (1 ≤ l.length ∧ l.length ≤ 600) → Q (.bl false) H := fun z => by
      have e : isWB l = false := by
        cases e : isWB l with
        | false => rfl
        | true =>
          have q := isWB_iff.mp e
          exact absurd ⟨q.pos, q.few⟩ z
      have q := k H (Same.refl H)
      rw [e] at q
      exact q
    refine ⟨_, rfl, _, rfl, tl.fits, _, _, rfl, rfl, _, rfl, ite2 (fun z1 => ?_) (fun z1 => ?_)⟩
    · have h1 : 1 ≤ l.length := by
        have q := of_decide_eq_true z1
        rw [S_len] at q
        omega
      refine ⟨_, _, rfl, rfl, _, rfl, ?_⟩
      by_cases h2 : l.length ≤ 600
      · refine iteNS (by rw [S_len]; omega) ?_
        refine ⟨_, rfl, _, rfl, fun D hD => lc_it walk_str (fun i H3 => H3 D = some (.lst (((l.take i).map okc).map V.bl)) ∧ Same H H3) ⟨upd_same, Same.put (Same.refl H) hD⟩ (fun _ _ _ _ => trivial) ?_ ?_⟩
        · rintro i x H3 H3' hi ⟨h1, h2⟩ ⟨rfl, c, hc, rfl⟩
          have hc' : l[i]? = some c := by simpa [S] using hc
          have la : (([c] : List Nat) < [97]) ↔ c < 97 := by rw [List.cons_lt_cons_iff]; simp
          have lz : (([122] : List Nat) < [c]) ↔ 122 < c := by rw [List.cons_lt_cons_iff]; simp
          have ea : ("a" : Str).cps.toList = [97] := by decide +kernel
          have ez : ("z" : Str).cps.toList = [122] := by decide +kernel
          have fin : ∀ b : Bool, b = okc c → (∃ acc : List V, H3' D = some (.lst acc) ∧ acc.length < sizeLine ∧ (L2.upd H3' D (.lst (acc ++ [V.bl b]))) D = some (.lst (((l.take (i + 1)).map okc).map V.bl)) ∧ Same H (L2.upd H3' D (.lst (acc ++ [V.bl b])))) := fun b eb => by
            refine ⟨_, h1, ?_, ?_, Same.new' h2 hD⟩
            · rw [List.length_map, List.length_map, sizeLine_eq]
              have := List.length_take_le' i l
              omega
            · rw [upd_same, take_more hc', List.map_append, List.map_append, eb] <;> rfl
          refine ⟨rfl, _, rfl, _, _, rfl, rfl, _, rfl, ?_⟩
          rw [ea]
          by_cases q1 : c < 97
          · have e : okc c = false := by unfold okc; rw [decide_eq_false (show ¬ 97 ≤ c by omega)]; rfl
            have q1' : (!decide ((⟨#[c]⟩ : Str).cps.toList < [97])) = false := by
              rw [decide_eq_true (show (⟨#[c]⟩ : Str).cps.toList < [97] from la.mpr q1)] <;> rfl
            rw [q1', if_neg Bool.false_ne_true]
            exact fin false e.symm
          · have q1' : (!decide ((⟨#[c]⟩ : Str).cps.toList < [97])) = true := by
              rw [decide_eq_false (show ¬ (⟨#[c]⟩ : Str).cps.toList < [97] from fun z => q1 (la.mp z))] <;> rfl
            rw [q1', if_pos rfl]
            refine ⟨_, _, rfl, rfl, ?_⟩
            rw [ez]
            refine fin _ ?_
            unfold okc
            rw [decide_eq_true (show 97 ≤ c by omega)]
            by_cases q2 : c ≤ 122
            · rw [decide_eq_true q2, decide_eq_false (show ¬ [122] < (⟨#[c]⟩ : Str).cps.toList from fun z => by have := lz.mp z; omega)] <;> rfl
            · rw [decide_eq_false q2, decide_eq_true (show [122] < (⟨#[c]⟩ : Str).cps.toList from lz.mpr (by omega))] <;> rfl
        · rintro H3 ⟨h1', h2'⟩
          refine ⟨D, _, rfl, SqL.of h1', ?_⟩
          have q := k H3 h2'
          have e : isWB l = ((l.take (S l).cps.size).map okc).all id := by
            rw [S_size, List.take_length, List.all_map]
            unfold isWB
            rw [decide_eq_true (show 1 ≤ l.length by omega), decide_eq_true h2] <;> rfl
          rw [e] at q
          exact q
      · refine iteS ?_ ?_
        · rw [S_len]; omega
        · exact no (fun z => h2 z.2)
    · refine ⟨_, rfl, no (fun z => z1 (decide_eq_true ?_))⟩
      rw [S_len]
      omega
  · exact ⟨_, rfl, _, _, .type "int", .type "str", false, rfl, .ty "str", .base (.int _), kit_ty (by decide +kernel), false, rfl, k H (Same.refl H)⟩
  · obtain ⟨t, ty, kt⟩ := n.str (K := K)
    rw [n.word] at k
    exact ⟨_, rfl, _, _, t, .type "str", false, rfl, .ty "str", ty, kt, false, rfl, k H (Same.refl H)⟩
theorem scLIw : FnScope ["_law_thing", "_law_abc", "_law_mark"] ["_law_thing", "_law_abc"] (defScope sLIsWord) := ⟨rfl, rfl, rfl, by decide +kernel, rfl, by decide +kernel, by decide +kernel⟩
/-- a word of the signs as the law asks it -/
theorem good_is {sg l : List Nat} (h : Low sg) : goodW sg (.str (S l)) = (decide (1 ≤ l.length) && decide (l.length ≤ 600) && (l.filter fun c => !decide (c ∈ sg)).isEmpty) := by
  rw [goodW_S, Bool.eq_iff_iff]
  unfold isWB
  simp only [Bool.and_eq_true, decide_eq_true_iff, List.all_eq_true, List.isEmpty_iff, List.filter_eq_nil_iff, Bool.not_eq_true', decide_eq_false_iff_not, Classical.not_not]
  constructor
  · rintro ⟨⟨a, _⟩, b⟩
    exact ⟨a, b⟩
  · rintro ⟨a, b⟩
    refine ⟨⟨a, fun c hc => ?_⟩, b⟩
    have q := h c (b c hc)
    unfold okc
    rw [Bool.and_eq_true, decide_eq_true_iff, decide_eq_true_iff]
    exact q
theorem ok_oneA {c : Nat} (h : c < 1000) : PyData.strOk (one c) = true := by
  unfold PyData.strOk one
  rw [Array.all_eq_true]
  intro i hi
  have e : i = 0 := by
    have : i < 1 := hi
    omega
  subst e
  show decide _ = true
  simp only [decide_eq_true_eq]
  show c < _
  omega
set_option maxHeartbeats 0 in
theorem ok_liswordL (F : Fun K "_law_is_word" "_law_is_word" sLIsWord f fd) (Z : Free mg) : FnOk P w K mg base CX0 1 f fd ["_law_thing", "_law_abc"] spLIsWordL := by
  refine F.ok scLIw (fun vs H Q E h => by obtain ⟨p, x, d, sg, rfl, _⟩ := h; rfl) (fun cdv A outer s H vs Q E hr h => ?_)
  obtain ⟨p, x, d, sg, rfl, ha, hs, k⟩ := h
  refine ⟨_, pss_cons (ps_if (PW.pt (pw_or (pt_not (pt_val (pe_callB call_isi (by rfl) Z.isi (by decide +kernel) (pa_cons (pv 0) (pa_cons (pe_bltn (v := .ty "str") (u := .type "str") (by rfl) Z.str (by decide +kernel) rfl) pa_nil)))))
      (pw_or (pt_cmpR op_eq (pv 0) pe_str (nomark _)) (pw_or1 (pt_cmpR op_gt (pe_callB call_len_str (by rfl) Z.len PySem.boot_len (pa_cons (pv 0) pa_nil)) pe_int (nomark _)))))) (pss_one (ps_ret pe_bl)) pss_nil)
    (pss_one (ps_ret (pe_cmpR (op_eqD hr.units) (pe_lc (own := [("_law_mark", 2)]) (g := gName 2) rfl scLIw.nd (pi_str (pv 0)) (blkOk_by (N := ["_law_thing", "_law_abc", "_law_mark"]) (sc := defScope sLIsWord) (by decide +kernel))
        (fun _ _ _ _ _ => pg_name (i := 2) scLIw.nd rfl (.inl rfl)) (fun _ _ _ _ _ => pts_one (pt_cmpR op_notIn_sign (pv 2) (pv 1) rfl)) (fun _ _ _ _ _ => pv 2)) (pe_lst pa_nil) (nomark _)))), ?_⟩
  rcases ha.sort with ⟨l, rfl, tl⟩ | ⟨i, rfl⟩ | n
  · rw [good_is hs] at k
    have few := tl.few
    have no : ¬ (1 ≤ l.length ∧ l.length ≤ 600) → Q (.bl false) H := fun z => by
      have q := k H (Same.refl H)
      have e : (decide (1 ≤ l.length) && decide (l.length ≤ 600)) = false := by
        rw [Bool.eq_false_iff]
        intro y
        rw [Bool.and_eq_true, decide_eq_true_iff, decide_eq_true_iff] at y
        exact z y
      rw [e, Bool.false_and] at q
      exact q
    refine ⟨_, rfl, _, _, .type "str", .type "str", true, rfl, .ty "str", .base (.str _), kit_ty (by decide +kernel), true, rfl, ?_⟩
    refine ⟨_, rfl, rfl, _, rfl, ite2 (fun q => ?_) (fun q => ?_)⟩
    · refine no fun z => ?_
      have q1 : S l = Str.ofString "" := by injection of_decide_eq_true q
      have q2 : (S l).length = 0 := by rw [q1]; decide +kernel
      rw [S_len] at q2
      omega
    · have l0 : 1 ≤ l.length := by
        cases l with
        | nil => exact absurd (decide_eq_true (congrArg V.str (show S [] = Str.ofString "" by decide +kernel))) q
        | cons c l => exact Nat.succ_le_succ (Nat.zero_le _)
      refine ⟨_, rfl, _, rfl, tl.fits, _, _, rfl, rfl, _, rfl, ite2 (fun q => ?_) (fun q => ?_)⟩
      · refine no fun z => ?_
        have q1 := of_decide_eq_true q
        rw [S_len] at q1
        omega
      · have l1 : l.length ≤ 600 := by
          have z : ¬ ((600 : Int) < ((S l).length : Int)) := fun z => q (decide_eq_true z)
          rw [S_len] at z
          omega
        refine ⟨_, rfl, _, rfl, fun D hD => lc_it walk_str (fun i H3 => H3 D = some (.lst (((l.take i).filter fun c => !decide (c ∈ sg)).map vOne)) ∧ Same H H3) ⟨upd_same, Same.put (Same.refl H) hD⟩ (fun _ _ _ _ => trivial) ?_ ?_⟩
        · rintro i x H3 H3' hi ⟨h1, h2⟩ ⟨rfl, c, hc, rfl⟩
          have hc' : l[i]? = some c := by simpa [S] using hc
          refine ⟨rfl, _, rfl, _, rfl, c, S sg, rfl, rfl, _, rfl, ?_⟩
          rw [S_cps]
          by_cases hk : c ∈ sg
          · rw [decide_eq_true hk]
            refine iteF ⟨?_, h2⟩
            rw [h1, take_more hc', List.filter_append, show ([c].filter fun c => !decide (c ∈ sg)) = [] from List.filter_cons_of_neg (by simp [hk]), List.append_nil]
          · rw [decide_eq_false hk]
            refine iteT ⟨_, rfl, _, h1, ?_, ?_, Same.new' h2 hD⟩
            · rw [List.length_map, sizeLine_eq]
              have := List.length_filter_le (fun c => !decide (c ∈ sg)) (l.take i)
              have := List.length_take_le' i l
              omega
            · rw [upd_same, take_more hc', List.filter_append, List.map_append, show ([c].filter fun c => !decide (c ∈ sg)) = [c] from List.filter_cons_of_pos (by simp [hk])] <;> rfl
        · rintro H3 ⟨h1, h2⟩
          rw [S_size, List.take_length] at h1
          refine ⟨(by show 0 ≤ sizeLine; decide), fun M hM => ?_⟩
          have nD : D ≠ M := ne_of_none h1 hM
          have h1' : H3 D = some (.lst (((l.filter fun c => !decide (c ∈ sg)).map one).map V.str)) := by rw [h1, List.map_map] <;> rfl
          refine ⟨_, _, .lst (SqL.of (by rw [upd_ne nD, h1'])) (dp_strs _), .lst (SqL.of upd_same) .nil, shaped_strs fun z hz => ?_, rfl, ?_⟩
          · obtain ⟨c, hc, rfl⟩ := List.mem_map.mp hz
            exact ok_oneA (tl.cod c (List.mem_filter.mp hc).1)
          · have q := k _ (Same.put (o := .lst []) h2 hM)
            have e : (decide (1 ≤ l.length) && decide (l.length ≤ 600) && (l.filter fun c => !decide (c ∈ sg)).isEmpty) = PyData.eqv (.list (((l.filter fun c => !decide (c ∈ sg)).map one).map PyData.str)) (.list []) := by
              rw [eqv_nil, decide_eq_true l0, decide_eq_true l1]
              cases (l.filter fun c => !decide (c ∈ sg)) <;> rfl
            rw [e] at q
            exact q
  · exact ⟨_, rfl, _, _, .type "int", .type "str", false, rfl, .ty "str", .base (.int _), kit_ty (by decide +kernel), false, rfl, k H (Same.refl H)⟩
  · obtain ⟨t, ty, kt⟩ := n.str (K := K)
    rw [n.good] at k
    exact ⟨_, rfl, _, _, t, .type "str", false, rfl, .ty "str", ty, kt, false, rfl, k H (Same.refl H)⟩
end
end Wb
/-! values of any sort, told by their sort alone; such a value looked for among texts -/
namespace Lg
open PySem
section
variable {A : Around} {s : Shared}
theorem str_no_dict (b : Str) (u : Tok) (d : Addr) (o : Obj) (es : Array DictEntry) (ep : Nat) (hd : o.data = .dict es ep) : Meets (Builtin.«str.__eq__» ⟨[.str b u, .ref d], []⟩) (fun _ R s => s.heap.get? d = some o ∧ R (.ok (.ret .notImplemented)) s) :=
  .of_wp fun prog w A R s h => by
    obtain ⟨hp, g, dd, tk, os⟩ := s
    obtain ⟨hl, h⟩ := h
    obtain ⟨c, odd, dt, sl⟩ := o
    cases hd
    wp_walk using wpAny_loadPart' hl, wpAny_load hl
    exact ⟨_, rfl, h⟩
theorem dict_no_str {b : Str} {u : Tok} {d : Addr} {prog : Program} {w : World} {E : Value → Shared → Prop} {Q : Value → Shared → Prop} (t : s.TypeIs (.ref d) "dict") (h : Q .notImplemented s) : wpAny (model prog w) A (call (.builtin "dict.__eq__") [.ref d, .str b u]) Q E s := by
  refine wpAny_call_entry PySem.F.slot_dict_eq_refl t PySem.F.entry_dict_eq ?_ (PySem.F.args_dict_eq_2 _ _)
  show wpAny _ _ (Builtin.Dict.dictSlotArgs "__eq__" ⟨[.ref d, .str b u], []⟩ >>= _) _ _ s
  refine wpAny_bind ?_
  unfold Builtin.Dict.dictSlotArgs
  refine wpAny_bind (wpAny_notOrdered_dict t ?_)
  show wpAny _ _ (pure (Value.ref d, Value.str b u)) _ _ s
  refine wpAny_pure ?_
  refine wpAny_bind (wpAny_isInstance (T := "str") (typeIs_str s b u) PySem.F.sub_str_dict ?_)
  simp only [Bool.not_false, if_true]
  wp_walk
  exact ⟨_, rfl, h⟩
theorem rc_str_dict (b : Str) (u : Tok) {d : Addr} {o : Obj} {es : Array DictEntry} {ep : Nat} (g : s.heap.get? d = some o) (hd : o.data = .dict es ep) (t : s.TypeIs (.ref d) "dict") (hu : A.units < cLine) : SeqAt.RcAt A s (.str b u) (.ref d) false := fun prog w E Q h =>
  SeqAt.rc_eq_decline_or (k := false) (typeIs_str s b u) t (by decide) PySem.F.sub_dict_str PySem.F.slot_str_eq PySem.F.slot_dict_eq_refl
    (fun _ hq => call_meets PySem.F.slot_str_eq (typeIs_str s b u) PySem.F.entry_str_eq (PySem.F.args_str_eq_2 _ _) (str_no_dict b u d o es ep hd) ⟨g, hq⟩)
    (fun _ hq => dict_no_str t hq)
    (fun _ hq => wpAny_of_eq (rfl : isSame (.str b u) (.ref d) = pure false) hq) (.inr hu) h
theorem eq_str_dict (b : Str) (u : Tok) {d : Addr} {o : Obj} {es : Array DictEntry} {ep : Nat} (g : s.heap.get? d = some o) (hd : o.data = .dict es ep) (t : s.TypeIs (.ref d) "dict") (hu : A.units < cLine) : SeqAt.EqAt A s (.str b u) (.ref d) false := fun prog w E Q h => by
  unfold eqBool
  refine wpAny_holding ?_
  refine wpAny_ite_split (fun hab => absurd (eq_of_beq hab) nofun) (fun _ => ?_)
  exact wpAny_bind (rc_str_dict b u g hd t hu prog w E _ (wpAny_truthy_bool h))
end
end Lg
namespace Wb
open PySem L2 WbMin WbS Lz
/-- a value that is no tuple -/
inductive Odd1 (H : Hp) : V → Prop
  | str {z : Str} (fits : z.length ≤ sizeLine) : Odd1 H (.str z)
  | int (i : Int) : Odd1 H (.int i)
  | non : Odd1 H .non
  | bl (b : Bool) : Odd1 H (.bl b)
  | lst {a : Addr} {xs : List V} (h : H a = some (.lst xs)) : Odd1 H (.ref a)
  | dK {a : Addr} {xs : List (Key × V)} (h : H a = some (.dK xs)) : Odd1 H (.ref a)
/-- a value of any sort -/
inductive So (H : Hp) : V → Prop
  | one {v : V} (h : Odd1 H v) : So H v
  | tup {a : Addr} {xs : List V} (h : H a = some (.tup xs)) : So H (.ref a)
/-- a value of any sort and what a tuple holds -/
inductive TopS (H : Hp) : V → Prop
  | one {v : V} (h : Odd1 H v) : TopS H v
  | tup {a : Addr} {xs : List V} (h : H a = some (.tup xs)) (l : xs.length ≤ 9) (r : ∀ y ∈ xs, So H y) : TopS H (.ref a)
theorem Odd1.same {H H' : Hp} {v : V} (h : Odd1 H v) (s : Same H H') : Odd1 H' v := by
  cases h with
  | str f => exact .str f
  | int i => exact .int i
  | non => exact .non
  | bl b => exact .bl b
  | lst h => exact .lst (s _ _ h)
  | dK h => exact .dK (s _ _ h)
theorem So.same {H H' : Hp} {v : V} (h : So H v) (s : Same H H') : So H' v := by
  cases h with
  | one h => exact .one (h.same s)
  | tup h => exact .tup (s _ _ h)
theorem TopS.same {H H' : Hp} {v : V} (h : TopS H v) (s : Same H H') : TopS H' v := by
  cases h with
  | one h => exact .one (h.same s)
  | tup h l r => exact .tup (s _ _ h) l fun y hy => (r y hy).same s
theorem TopS.so {H : Hp} {v : V} (h : TopS H v) : So H v := by
  cases h with
  | one h => exact .one h
  | tup h l r => exact .tup h
/-- one of the texts st -/
def stB (st : List Str) : V → Bool
  | .str z => decide (z ∈ st)
  | _ => false
/-- an item of texts and a value, as they lie -/
def soU (x : V) (u : Value) : Bool := match x, u with
  | .str a, .str z _ => z == a
  | _, _ => false
theorem any_soU {x : V} : ∀ {st : List Str} {us : List Value}, Vals (st.map V.str) us → us.any (soU x) = stB st x
  | [], _, .nil => by cases x <;> rfl
  | z :: st, u :: us, .cons r t => by
    obtain ⟨tk, rfl⟩ := r
    rw [List.any_cons, any_soU t]
    cases x with
    | str a =>
      show ((z == a) || decide (a ∈ st)) = decide (a ∈ z :: st)
      by_cases e : z = a
      · rw [e, beq_self_eq_true, decide_eq_true List.mem_cons_self] <;> rfl
      · have e' : (z == a) = false := beq_eq_false_iff_ne.mpr e
        rw [e', Bool.false_or]
        refine decide_eq_decide.mpr ⟨fun h => List.mem_cons_of_mem _ h, fun h => ?_⟩
        rcases List.mem_cons.mp h with h | h
        · exact absurd h.symm e
        · exact h
    | _ => rfl
theorem strs_of : ∀ {st : List Str} {us : List Value}, Vals (st.map V.str) us → ∀ u ∈ us, ∃ (z : Str) (t : Tok), u = .str z t
  | [], _, .nil => fun u hu => by cases hu
  | z :: st, u :: us, .cons r t => fun v hv => by
    rcases List.mem_cons.mp hv with rfl | hv
    · obtain ⟨tk, rfl⟩ := r
      exact ⟨z, tk, rfl⟩
    · exact strs_of t v hv
section
variable {X : Cx}
def rInSo (K : PySem.W.Frag) : R2 := fun x y H Q => ∃ (p : Addr) (st : List Str), y = .ref p ∧ (SqL K H p (st.map V.str) ∨ SqT K H p (st.map V.str)) ∧ So H x ∧ Q (.bl (stB st x)) H
theorem eqat_so {pins : List (Addr × Obj)} {σ : L2.St} {H : Hp} {s : Shared} {x : V} {v : Value} (hu : X.A.units + 65 < cLine) (I : Inv X pins σ H s) (rx : RelV x v) (so : So H x) (z : Str) (t : Tok) : SeqAt.EqAt X.A.in1 s (.str z t) v (soU x (.str z t)) := by
  have hu' : X.A.in1.units < cLine := by
    show X.A.units + 1 < cLine
    omega
  cases so with
  | one h =>
    cases h with
    | str f =>
      obtain ⟨t', rfl⟩ := rx
      exact SeqAt.EqAt.str_str z t _ t'
    | int i =>
      obtain ⟨t', rfl⟩ := rx
      exact SeqAt.EqAt.str_int z t i t'
    | non =>
      cases rx
      exact SeqAt.EqAt.str_none z t
    | bl b =>
      cases rx
      exact SeqAt.EqAt.str_bool z t b
    | lst h =>
      cases rx
      obtain ⟨its, r, pl, hz⟩ := I.list (SqL.of h)
      exact SeqAt.EqAt.str_list z t pl.isList hu'
    | dK h =>
      cases rx
      obtain ⟨_, _, vs, _, hd⟩ := dk_of I.hok h
      obtain ⟨o, es, ep, g, _, e, _⟩ := id hd
      exact Lg.eq_str_dict z t g e hd.typeIs hu'
  | tup h =>
    cases rx
    obtain ⟨its, r, pl, hz⟩ := I.tuple (SqT.of h)
    exact SeqAt.EqAt.str_tuple z t pl hu'
theorem op_inSo (hu : X.A.units + 65 < cLine) : OpR X (compareOp .In) (rInSo X.K) := by
  intro pins s σ H x y v u Q I rx ry h
  obtain ⟨p, st, rfl, hq, so, q⟩ := h
  cases ry
  rcases hq with hq | hq
  · obtain ⟨its, r, pl, hz⟩ := I.list hq
    refine SeqAt.in_listAt (soU x) pl.isList (fun w hw => ?_) ⟨.bl _, H, I, rfl, ?_⟩
    · obtain ⟨z, t, rfl⟩ := strs_of r w (by simpa using hw)
      exact eqat_so hu I rx so z t
    · rw [show its.toArray.any (soU x) = its.any (soU x) by simp, any_soU r]
      exact q
  · obtain ⟨its, r, pl, hz⟩ := I.tuple hq
    refine SeqAt.in_tupleAt (soU x) pl (fun w hw => ?_) ⟨.bl _, H, I, rfl, ?_⟩
    · obtain ⟨z, t, rfl⟩ := strs_of r w (by simpa using hw)
      exact eqat_so hu I rx so z t
    · rw [show its.toArray.any (soU x) = its.any (soU x) by simp, any_soU r]
      exact q
end
end Wb
/-! a loop is made of parts in any order -/
namespace Wb
open PySem L2 WbMin WbS Lz
/-- the parts as they are told -/
structure PrtG (st : List Str) (rw : List Row) (tn : List Trn) (ye : List Str) (t rr u y : Addr) (as bs : List Addr) (H : Hp) : Prop where
  ht : H t = some (.tup (st.map V.str))
  hr : H rr = some (.tup (as.map V.ref))
  hT : Tups H as (rw.map Row.v)
  hu : H u = some (.tup (bs.map V.ref))
  hU : Tups H bs (tn.map Trn.v)
  hy : H y = some (.tup (ye.map V.str))
section
variable {st : List Str} {rw : List Row} {tn : List Trn} {ye : List Str} {t rr u y : Addr} {as bs : List Addr} {H H' : Hp}
theorem PrtG.same (s : Same H H') (h : PrtG st rw tn ye t rr u y as bs H) : PrtG st rw tn ye t rr u y as bs H' := ⟨s _ _ h.ht, s _ _ h.hr, h.hT.same s, s _ _ h.hu, h.hU.same s, s _ _ h.hy⟩
theorem PrtG.but {p : Addr} {o : HO} (no : ∀ x, o ≠ .tup x) (hp : H p = some o) (s : But p H H') (h : PrtG st rw tn ye t rr u y as bs H) : PrtG st rw tn ye t rr u y as bs H' :=
  ⟨s _ _ (ne_of h.ht hp fun e => no _ e.symm) h.ht, s _ _ (ne_of h.hr hp fun e => no _ e.symm) h.hr, h.hT.but no hp s, s _ _ (ne_of h.hu hp fun e => no _ e.symm) h.hu, h.hU.but no hp s, s _ _ (ne_of h.hy hp fun e => no _ e.symm) h.hy⟩
end
/-- some of the things that stand, in another order -/
theorem picks {H : Hp} {as : List Addr} {rw : List Row} (hT : Tups H as (rw.map Row.v)) : ∀ l : List Row, (∀ x ∈ l, x ∈ rw) → ∃ bs, Tups H bs (l.map Row.v) ∧ ∀ (p : Nat) (x : Row), l[p]? = some x → ∃ (m : Nat) (a : Addr), rw[m]? = some x ∧ as[m]? = some a ∧ bs[p]? = some a
  | [], _ => ⟨[], trivial, fun p x h => by simp at h⟩
  | x :: l, h => by
    obtain ⟨bs, h1, h2⟩ := picks hT l fun y hy => h y (List.mem_cons_of_mem _ hy)
    obtain ⟨m, hm, em⟩ := List.getElem_of_mem (h x List.mem_cons_self)
    have em' : rw[m]? = some x := by rw [List.getElem?_eq_getElem hm, em]
    have la : as.length = rw.length := by rw [hT.length, List.length_map]
    have ea : as[m]? = some (as[m]'(by omega)) := List.getElem?_eq_getElem (by omega)
    refine ⟨as[m]'(by omega) :: bs, ⟨hT.get ea (by rw [List.getElem?_map, em'] <;> rfl), h1⟩, fun p y hp => ?_⟩
    cases p with
    | zero =>
      cases hp
      exact ⟨m, _, em', ea, rfl⟩
    | succ p => exact h2 p y hp
/-- what is asked of the parts -/
structure Told (L : LD) (sg0 : List Nat) (rw : List Row) (tn : List Trn) (ye : List Str) : Prop where
  sgP : sg0.Perm L.sg
  rwP : rw.Perm L.rows
  tnd : (tn.map Trn.a).Nodup
  tin : ∀ ρ ∈ tn, ρ.a ∈ L.st ∧ ρ.b ∈ L.st
  tnE : L.st.map (turnOf tn) = L.turns
  tfew : tn.length ≤ 6
  ynd : ye.Nodup
  yin : ∀ z ∈ ye, z ∈ L.st
  yeE : (L.st.filter fun z => decide (z ∈ ye)) = L.yes
  yfew : ye.length ≤ 6
def spLoInitG (C T : Addr) : Sp := fun vs H Q _ => ∃ (H0 : Hp) (r dx t rr u y : Addr) (as bs : List Addr) (L : LD) (sg0 : List Nat) (rw : List Row) (tn : List Trn) (ye : List Str), vs = [.ref r, .str (S sg0), .ref t, .ref rr, .ref u, .ref y] ∧ L.Ok ∧ PyProof.Rows.sortedS (L.sg.map sOne) = true ∧ Told L sg0 rw tn ye ∧ PrtG L.st rw tn ye t rr u y as bs H ∧ Same H0 H ∧ H0 r = none ∧ H r = some (.ins C dx []) ∧
  ∀ H' : Hp, Same H0 H' → LoopAt C T H' r L → Q .non H'
section
variable {P : Program} {w : World} {K : PySem.W.Frag} {mg : Str → Option Value} {base : Heap} {A : LA} {e : Addr}
set_option maxHeartbeats 0 in
theorem ok_loinitG (D : LoopF K mg A e) (Z : Free mg) : FnOk P w K mg base CX0 4 A.fI A.dI ["self", "signs", "states", "rows", "turns", "yes"] (spLoInitG A.C A.T) := by
  obtain ⟨t600, g600⟩ := D.w600
  obtain ⟨t4, g4⟩ := D.w4
  obtain ⟨t8, g8⟩ := D.w8
  obtain ⟨t6, g6⟩ := D.w6
  have GS : FnOk P w K mg base CX0 2 A.signs A.dsigns ["value"] spIsSigns := ok_issigns D.signs.F Z D.isword t600 g600 t4 g4
  have G1 : FnOk P w K mg base CX0 2 A.chst A.dchst ["states"] spChSt := ok_chst D.chst.F Z D.tup D.enum t8 g8 t6 g6 D.isname D.first
  have G2 : FnOk P w K mg base CX0 3 A.chro A.dchro ["rows", "signs", "states"] spChRo := ok_chro D.chro.F Z D.tup D.enum D.zip D.rowof D.stateof D.signof D.isint D.first
  have G3 : FnOk P w K mg base CX0 3 A.chtu A.dchtu ["turns", "states"] spChTu := ok_chtu D.chtu.F Z D.tup D.enum D.zip D.turnof D.stateof D.isint D.first
  have G4 : FnOk P w K mg base CX0 2 A.chye A.dchye ["yes", "states"] spChYe := ok_chye D.chye.F Z D.tup D.enum D.stateof D.first
  have O1 : FnOk P w K mg base CX0 1 A.orro A.dorro ["rows", "signs", "states"] spOrRo := ok_orro D.orro.F D.tup
  have O2 : FnOk P w K mg base CX0 1 A.ortu A.dortu ["turns", "states"] spOrTu := ok_ortu D.ortu.F D.tup
  have O3 : FnOk P w K mg base CX0 1 A.orye A.dorye ["yes", "states"] spOrYe := ok_orye D.orye.F D.tup
  have GT : FnOk P w K mg base CX0 1 A.tI A.etI ["self", "row"] (spTaInit A.T) := ok_tainit D.TI D.T Z D.tup D.enum
  have GW : FnOk P w K mg base CX0 1 A.fW A.dW ["self"] (spLoRow A.C) := ok_lorow D
  obtain ⟨_, FI⟩ := D.FI
  refine FunD_ok' FI scLI (fun vs H Q E h => ?_) (fun cdv A' outer s H vs Q E hr h => ?_)
  · obtain ⟨H0, r, dx, t, rr, u, y, as, bs, L, sg0, rw, tn, ye, rfl, _⟩ := h
    rfl
  · obtain ⟨H0, r, dx, t, rr, u, y, as, bs, L, sg0, rw, tn, ye, rfl, O, srtL, TL, pr, s0, r0, hp, k⟩ := h
    have hr1 : Room 1 _ := hr.mono (by decide)
    have hr2 : Room 2 _ := hr.mono (by decide)
    refine ⟨_, pss_cons (ps_if (pt_not (pt_val (pe_call GS hr2 rfl D.signs.g D.signs.kp D.signs.b .nil pass0 (pa_cons (pv 1) pa_nil)))) (pss_one ps_never) pss_nil)
      (pss_cons (ps_expr (pe_call G1 hr2 rfl D.chst.g D.chst.kp D.chst.b .nil pass0 (pa_cons (pv 2) pa_nil)))
      (pss_cons (ps_expr (pe_call G2 hr rfl D.chro.g D.chro.kp D.chro.b .nil pass0 (pa_cons (pv 3) (pa_cons (pv 1) (pa_cons (pv 2) pa_nil)))))
      (pss_cons (ps_expr (pe_call G3 hr rfl D.chtu.g D.chtu.kp D.chtu.b .nil pass0 (pa_cons (pv 4) (pa_cons (pv 2) pa_nil))))
      (pss_cons (ps_expr (pe_call G4 hr2 rfl D.chye.g D.chye.kp D.chye.b .nil pass0 (pa_cons (pv 5) (pa_cons (pv 2) pa_nil))))
      (pss_cons (ps_fld (pv 0) (pe_join pe_str (pe_callB (call_sortedTx rfl) (by rfl) D.sort (by decide +kernel) (pa_cons (pv 1) pa_nil))) rfl)
      (pss_cons (ps_fld (pv 0) (pv 2) rfl)
      (pss_cons (ps_fld (pv 0) (pe_call O1 hr1 rfl D.orro.g D.orro.kp D.orro.b .nil pass0 (pa_cons (pv 3) (pa_cons (pe_fld (pv 0) rfl) (pa_cons (pv 2) pa_nil)))) rfl)
      (pss_cons (ps_fld (pv 0) (pe_call O2 hr1 rfl D.ortu.g D.ortu.kp D.ortu.b .nil pass0 (pa_cons (pv 4) (pa_cons (pv 2) pa_nil))) rfl)
      (pss_cons (ps_fld (pv 0) (pe_call O3 hr1 rfl D.orye.g D.orye.kp D.orye.b .nil pass0 (pa_cons (pv 5) (pa_cons (pv 2) pa_nil))) rfl)
      (pss_one (ps_fld (pv 0) (pe_make D.MT GT hr2 rfl D.gT D.bTI .nil pass0 (pa_cons (pe_prop (pv 0) D.L.cl D.hW GW hr2 D.bW .nil pass0 rfl) pa_nil)) rfl))))))))))), ?_⟩
    have sf := O.sts.few
    have sgf := O.sgs.few
    have few := rows_few O
    have lrw : rw.length = L.rows.length := TL.rwP.length_eq
    have lenA : as.length = rw.length := by rw [pr.hT.length, List.length_map]
    have tl := turns_length L
    have n6 : L.n ≤ 6 := sf
    have lsg : sg0.length = L.sg.length := TL.sgP.length_eq
    have pos := O.sgs.pos
    have G0 : Sgs sg0 := ⟨fun c hc => O.sgs.low c (TL.sgP.mem_iff.mp hc), TL.sgP.nodup_iff.mpr O.sgs.nd, by omega, by omega⟩
    have tfew := TL.tfew
    have yfew := TL.yfew
    obtain ⟨bs0, pT, pk⟩ := picks pr.hT L.rows fun x hx => TL.rwP.mem_iff.mpr hx
    have lbs : bs0.length = L.rows.length := by rw [pT.length, List.length_map]
    have knd : (rw.map Row.k).Nodup := (TL.rwP.map Row.k).nodup_iff.mpr (rows_key_nd O)
    have RB : RowsBy L.st L.sg (rw.map Row.k) as bs0 := by
      refine ⟨by rw [lbs, rows_length] <;> rfl, fun i j z c hz hc => ?_⟩
      have hi : i < L.n := (List.getElem?_eq_some_iff.mp hz).1
      have e : L.nm i = z := Option.some.inj ((nm_at hi).symm.trans hz)
      obtain ⟨m, a, m1, m2, m3⟩ := pk _ _ (rows_at hi hc)
      refine ⟨m, a, ?_, m2, m3⟩
      rw [List.getElem?_map, m1, ← e] <;> rfl
    refine ⟨_, rfl, sg0, rfl, G0, fun H1 s1 => ⟨true, rfl, ?_⟩⟩
    have p1 := pr.same s1
    refine ⟨_, rfl, t, L.st, rfl, p1.ht, O.sts, fun H2 s2 => ?_⟩
    have p2 := p1.same s2
    refine ⟨_, rfl, _, rfl, _, rfl, rr, t, sg0, as, rw, L.st, rfl, p2.hr, p2.hT, p2.ht, ?_, knd, ?_, by omega, sf, ?_, fun H3 s3 => ?_⟩
    · intro ρ hρ
      obtain ⟨i, c, hi, hc, rfl⟩ := rows_mem (TL.rwP.mem_iff.mp hρ)
      exact ⟨nm_mem hi, TL.sgP.mem_iff.mpr hc, nm_mem (O.nxlt i c hi hc)⟩
    · intro ρ hρ
      obtain ⟨i, c, hi, hc, rfl⟩ := rows_mem (TL.rwP.mem_iff.mp hρ)
      exact ⟨ok_st O (nm_mem hi), ok_sign O hc⟩
    · rw [lrw, rows_length, lsg, Nat.mul_comm] <;> rfl
    have p3 := p2.same s3
    refine ⟨_, rfl, _, rfl, u, t, bs, tn, L.st, rfl, p3.hu, p3.hU, p3.ht, TL.tin, TL.tnd, tfew, fun H4 s4 => ?_⟩
    have p4 := p3.same s4
    refine ⟨_, rfl, _, rfl, y, t, ye, L.st, rfl, p4.hy, p4.ht, TL.yin, TL.ynd, yfew, fun H5 s5 => ?_⟩
    have s05 : Same H H5 := (((s1.trans s2).trans s3).trans s4).trans s5
    have S5 : Same H0 H5 := s0.trans s05
    have hr5 : H5 r = some (.ins A.C dx []) := s05 _ _ hp
    clear p1 p2 p3 p4 s1 s2 s3 s4 s5
    -- signs
    refine ⟨⟨_, rfl⟩, _, rfl, S sg0, rfl, by rw [S_len]; omega, fun ys p perm srt hp' => ?_⟩
    rw [S_cps] at perm
    obtain ⟨sg, hsg, rfl⟩ := perm_codes perm
    obtain rfl : sg = L.sg := sg_same srt srtL (hsg.trans TL.sgP) (.refl _)
    have nrp : r ≠ p := ne_of_none hr5 hp'
    refine ⟨_, p, L.sg.map sOne, rfl, rfl, .inl (SqL.of upd_same), ?_, ?_⟩
    · have e1 : ((L.sg.map sOne).map fun x => x.length) = List.replicate L.sg.length 1 := by
        rw [List.map_map]
        exact List.map_eq_replicate_iff.mpr fun _ _ => rfl
      have e2 : (Str.ofString "").length = 0 := by decide +kernel
      rw [e1, e2, List.sum_replicate_nat]
      omega
    have ej : Txt.join (Str.ofString "") (L.sg.map sOne) = S L.sg := join_one pos
    rw [ej]
    refine ⟨_, rfl, r, A.C, dx, _, rfl, (upd_ne nrp).trans hr5, D.L.cl, D.L.n1, (by show 0 < 1000; decide), ?_⟩
    have B6 : But r H (L2.upd (L2.upd H5 p (.lst ((L.sg.map sOne).map V.str))) r (.ins A.C dx (putF "_signs" (.str (S L.sg)) []))) := But.here ((But.of s05).upd hp')
    have S6 : Same H0 (L2.upd (L2.upd H5 p (.lst ((L.sg.map sOne).map V.str))) r (.ins A.C dx (putF "_signs" (.str (S L.sg)) []))) := Same.new' (Same.put S5 hp') r0
    have hr6 : (L2.upd (L2.upd H5 p (.lst ((L.sg.map sOne).map V.str))) r (.ins A.C dx (putF "_signs" (.str (S L.sg)) []))) r = some (.ins A.C dx (putF "_signs" (.str (S L.sg)) [])) := upd_same
    generalize L2.upd (L2.upd H5 p (.lst ((L.sg.map sOne).map V.str))) r (.ins A.C dx (putF "_signs" (.str (S L.sg)) [])) = H6 at B6 S6 hr6 ⊢
    -- states
    refine ⟨_, rfl, _, rfl, r, A.C, dx, _, rfl, hr6, D.L.cl, D.L.n2, (by show 1 < 1000; decide), ?_⟩
    have B7 : But r H (L2.upd H6 r (.ins A.C dx (putF "_states" (.ref t) (putF "_signs" (.str (S L.sg)) [])))) := But.here B6
    have S7 : Same H0 (L2.upd H6 r (.ins A.C dx (putF "_states" (.ref t) (putF "_signs" (.str (S L.sg)) [])))) := Same.new' S6 r0
    have hr7 : (L2.upd H6 r (.ins A.C dx (putF "_states" (.ref t) (putF "_signs" (.str (S L.sg)) [])))) r = some (.ins A.C dx (putF "_states" (.ref t) (putF "_signs" (.str (S L.sg)) []))) := upd_same
    generalize L2.upd H6 r (.ins A.C dx (putF "_states" (.ref t) (putF "_signs" (.str (S L.sg)) []))) = H7 at B7 S7 hr7 ⊢
    have p7 : PrtG L.st rw tn ye t rr u y as bs H7 := pr.but (fun x => by intro q; cases q) hp B7
    -- rows
    refine ⟨_, rfl, _, rfl, r, A.C, dx, _, _, rfl, hr7, D.L.cl, D.L.n1, (by rw [lookup_putF, if_neg (by decide +kernel), lookup_putF, if_pos rfl]), _, rfl, rr, t, L.sg, as, bs0, rw, L.st, rfl, p7.hr, p7.hT, p7.ht, knd, by omega, RB, by omega, fun rr' H8 n8 s8 hrr => ?_⟩
    refine ⟨_, rfl, r, A.C, dx, _, rfl, s8 _ _ hr7, D.L.cl, D.L.n3, (by show 2 < 1000; decide), ?_⟩
    have nrr : rr' ≠ r := ne_of_none' hr7 n8
    generalize e8 : putF "_rows" (.ref rr') (putF "_states" (.ref t) (putF "_signs" (.str (S L.sg)) [])) = fs8
    have B8 : But r H (L2.upd H8 r (.ins A.C dx fs8)) := But.here (B7.trans (But.of s8))
    have S8 : Same H0 (L2.upd H8 r (.ins A.C dx fs8)) := Same.new' (S7.trans s8) r0
    have hr8 : (L2.upd H8 r (.ins A.C dx fs8)) r = some (.ins A.C dx fs8) := upd_same
    have hrr8 : (L2.upd H8 r (.ins A.C dx fs8)) rr' = some (.tup (bs0.map V.ref)) := (upd_ne nrr).trans hrr
    generalize L2.upd H8 r (.ins A.C dx fs8) = H9 at B8 S8 hr8 hrr8 ⊢
    have p8 : PrtG L.st rw tn ye t rr u y as bs H9 := pr.but (fun x => by intro q; cases q) hp B8
    -- turns
    refine ⟨_, rfl, _, rfl, u, t, bs, tn, L.st, rfl, p8.hu, p8.hU, p8.ht, TL.tnd, tfew, sf, fun u' bs' H10 n10 s10 hu' hU' => ?_⟩
    rw [TL.tnE] at hU'
    refine ⟨_, rfl, r, A.C, dx, _, rfl, s10 _ _ hr8, D.L.cl, D.L.n4, (by rw [← e8]; show 3 < 1000; decide), ?_⟩
    have nuu : u' ≠ r := ne_of_none' hr8 n10
    generalize e10 : putF "_turns" (.ref u') fs8 = fs10
    have B10 : But r H (L2.upd H10 r (.ins A.C dx fs10)) := But.here (B8.trans (But.of s10))
    have S10 : Same H0 (L2.upd H10 r (.ins A.C dx fs10)) := Same.new' (S8.trans s10) r0
    have hr10 : (L2.upd H10 r (.ins A.C dx fs10)) r = some (.ins A.C dx fs10) := upd_same
    have hrr10 : (L2.upd H10 r (.ins A.C dx fs10)) rr' = some (.tup (bs0.map V.ref)) := (upd_ne nrr).trans (s10 _ _ hrr8)
    have hu10 : (L2.upd H10 r (.ins A.C dx fs10)) u' = some (.tup (bs'.map V.ref)) := (upd_ne nuu).trans hu'
    have hU10 : Tups (L2.upd H10 r (.ins A.C dx fs10)) bs' (L.turns.map Trn.v) := Tups.but (fun x => by intro q; cases q) (s10 _ _ hr8) (But.here (But.refl r _)) hU'
    generalize L2.upd H10 r (.ins A.C dx fs10) = H11 at B10 S10 hr10 hrr10 hu10 hU10 ⊢
    have p10 : PrtG L.st rw tn ye t rr u y as bs H11 := pr.but (fun x => by intro q; cases q) hp B10
    -- yes
    refine ⟨_, rfl, _, rfl, y, t, ye, L.st, rfl, p10.hy, p10.ht, sf, fun y' H12 n12 s12 hy' => ?_⟩
    rw [TL.yeE] at hy'
    refine ⟨_, rfl, r, A.C, dx, _, rfl, s12 _ _ hr10, D.L.cl, D.L.n5, (by rw [← e10, ← e8]; show 4 < 1000; decide), ?_⟩
    have nyy : y' ≠ r := ne_of_none' hr10 n12
    generalize e12 : putF "_yes" (.ref y') fs10 = fs12
    have B12 : But r H (L2.upd H12 r (.ins A.C dx fs12)) := But.here (B10.trans (But.of s12))
    have S12 : Same H0 (L2.upd H12 r (.ins A.C dx fs12)) := Same.new' (S10.trans s12) r0
    have hr12 : (L2.upd H12 r (.ins A.C dx fs12)) r = some (.ins A.C dx fs12) := upd_same
    have hy12 : (L2.upd H12 r (.ins A.C dx fs12)) y' = some (.tup (L.yes.map V.str)) := (upd_ne nyy).trans hy'
    have hrr12 : (L2.upd H12 r (.ins A.C dx fs12)) rr' = some (.tup (bs0.map V.ref)) := (upd_ne nrr).trans (s12 _ _ hrr10)
    have hu12 : (L2.upd H12 r (.ins A.C dx fs12)) u' = some (.tup (bs'.map V.ref)) := (upd_ne nuu).trans (s12 _ _ hu10)
    have hU12 : Tups (L2.upd H12 r (.ins A.C dx fs12)) bs' (L.turns.map Trn.v) := Tups.but (fun x => by intro q; cases q) (s12 _ _ hr10) (But.here (But.refl r _)) (hU10.same s12)
    generalize L2.upd H12 r (.ins A.C dx fs12) = H13 at B12 S12 hr12 hy12 hrr12 hu12 hU12 ⊢
    have p12 : PrtG L.st rw tn ye t rr u y as bs H13 := pr.but (fun x => by intro q; cases q) hp B12
    have q12 : Prt L t rr' u' y' bs0 bs' H13 := ⟨p12.ht, hrr12, pT.but (fun x => by intro q; cases q) hp B12, hu12, hU12, hy12⟩
    -- the table
    have look : fs12.lookup ("_signs" : Str) = some (.str (S L.sg)) ∧ fs12.lookup ("_states" : Str) = some (.ref t) ∧ fs12.lookup ("_rows" : Str) = some (.ref rr') ∧ fs12.lookup ("_turns" : Str) = some (.ref u') ∧ fs12.lookup ("_yes" : Str) = some (.ref y') := by
      rw [← e12, ← e10, ← e8]
      refine ⟨?_, ?_, ?_, ?_, ?_⟩ <;> repeat (first | rw [lookup_putF, if_neg (by decide +kernel)] | rw [lookup_putF, if_pos rfl])
    obtain ⟨k1, k2, k3, k4, k5⟩ := look
    refine ⟨_, rfl, r, dx, _, rfl, hr12, r, dx, t, rr', u', y', _, _, rfl, hr12, k1, k2, k3, k4, k5, fun q hq tb dxt htb hdx ne => ?_⟩
    have sq := Same.put (o := .tup [.str (S L.sg), .ref t, .ref rr', .ref u', .ref y']) (Same.refl H13) hq
    have hq14 : (L2.upd H13 q (.tup [.str (S L.sg), .ref t, .ref rr', .ref u', .ref y'])) q = some (.tup [.str (S L.sg), .ref t, .ref rr', .ref u', .ref y']) := upd_same
    generalize L2.upd H13 q (.tup [.str (S L.sg), .ref t, .ref rr', .ref u', .ref y']) = H14 at sq hq14 htb hdx ⊢
    have sm : Same H14 (L2.upd (L2.upd H14 dxt (.own tb)) tb (.ins A.T dxt [])) := Same.new' (Same.new' (Same.refl H14) hdx) htb
    refine ⟨H14, tb, dxt, q, L, rfl, O, ((q12.same sq).same sm).row (sm _ _ hq14), sm, htb, upd_same, fun H15 s15 TA => ⟨rfl, ?_⟩⟩
    have s16 := sq.trans s15
    have ntb : tb ≠ r := ne_of_none' (sq _ _ hr12) htb
    refine ⟨_, rfl, r, A.C, dx, _, rfl, s16 _ _ hr12, D.L.cl, D.L.n6, (by rw [← e12, ← e10, ← e8]; show 5 < 1000; decide), ?_⟩
    have hr16 := s16 _ _ hr12
    refine k _ (Same.new' (S12.trans s16) r0) ⟨dx, t, rr', u', y', tb, bs0, bs', ?_, ?_, ?_⟩
    · rw [upd_same, ← e12, ← e10, ← e8] <;> rfl
    · exact (q12.same s16).but (o := .ins A.C dx fs12) (fun x => by intro q; cases q) hr16 (But.here (But.refl r _))
    · exact TA.but ntb hr16 (But.here (But.refl r _))
end
end Wb
/-! totals of a loop: the mathematics -/
namespace Wb
open PySem L2 WbMin WbS Lz
theorem LD.Small.srt {L : LD} (s : L.Small) {sg : List Nat} (p : sg.Perm L.sg) : (L.srt sg).Small := ⟨fun i c hi hc => s.am i c hi (p.mem_iff.mp hc), s.ta⟩
def LD.cf (L : LD) (w : List Nat) (m : Nat) : Int := L.cnt w (it (L.lead w) m)
end Wb
/-! a loop that begins in another state: the mathematics -/
namespace Wb
open PySem L2 WbMin WbS Lz
/-- which state stands there now; where a state stands now -/
def piB (b i : Nat) : Nat := if i = 0 then b else if i ≤ b then i - 1 else i
def rhB (b j : Nat) : Nat := if j = b then 0 else if j < b then j + 1 else j
theorem pi_lt {b i n : Nat} (hb : b < n) (hi : i < n) : piB b i < n := by unfold piB; split <;> (try split) <;> omega
theorem rh_lt {b j n : Nat} (hb : b < n) (hj : j < n) : rhB b j < n := by unfold rhB; split <;> (try split) <;> omega
theorem pi_perm_is : ∀ n, n < 7 → ∀ b, b < n → ((List.range n).map (piB b)).Perm (List.range n) := by decide
def LD.beg (L : LD) (b : Nat) : LD := ⟨L.sg, (List.range L.n).map fun i => L.nm (piB b i), fun i c => rhB b (L.nx (piB b i) c), fun i c => L.am (piB b i) c, fun i => rhB b (L.tn (piB b i)), fun i => L.ta (piB b i), fun i => L.ys (piB b i)⟩
theorem beg_n (L : LD) (b : Nat) : (L.beg b).n = L.n := by
  show ((List.range L.n).map fun i => L.nm (piB b i)).length = L.n
  rw [List.length_map, List.length_range]
theorem st_is (L : LD) : L.st = (List.range L.n).map L.nm := by
  refine List.ext_getElem? fun i => ?_
  by_cases h : i < L.n
  · rw [nm_at h, List.getElem?_map, List.getElem?_range h] <;> rfl
  · have h' : ¬ i < L.st.length := h
    rw [List.getElem?_eq_none (by omega), List.getElem?_eq_none (by rw [List.length_map, List.length_range]; omega)]
theorem beg_perm {L : LD} (O : L.Ok) {b : Nat} (hb : b < L.n) : (L.beg b).st.Perm L.st := by
  have n7 : L.n < 7 := Nat.lt_succ_of_le O.sts.few
  have q := (pi_perm_is L.n n7 b hb).map L.nm
  rw [List.map_map, ← st_is] at q
  exact q
theorem LD.Ok.beg {L : LD} (O : L.Ok) {b : Nat} (hb : b < L.n) : (L.beg b).Ok := by
  have p := beg_perm O hb
  refine ⟨O.sgs, ⟨fun z hz => O.sts.of z (p.mem_iff.mp hz), p.nodup_iff.mpr O.sts.nd, by rw [p.length_eq]; exact O.sts.pos, by rw [p.length_eq]; exact O.sts.few⟩, fun i c hi hc => ?_, fun i hi => ?_⟩
  · rw [beg_n] at hi ⊢
    exact rh_lt hb (O.nxlt _ c (pi_lt hb hi) hc)
  · rw [beg_n] at hi ⊢
    exact rh_lt hb (O.tnlt _ (pi_lt hb hi))
theorem LD.Small.beg {L : LD} (s : L.Small) {b : Nat} (hb : b < L.n) : (L.beg b).Small := ⟨fun i c hi hc => by rw [beg_n] at hi; exact s.am _ c (pi_lt hb hi) hc, fun i hi => by rw [beg_n] at hi; exact s.ta _ (pi_lt hb hi)⟩
/-! ### what it does -/
section
variable {L : LD} {b k : Nat} {w : List Nat} (O : L.Ok) (hb : b = it (L.lead w) k) (hw : ∀ c ∈ w, c ∈ L.sg)
include O hb hw
end
end Wb
/-! a loop begun in another state, by the program -/
namespace Wb
open PySem L2 WbMin WbS Lz
theorem iteSn_n {c : Prop} [Decidable c] {a b : Prop} (hc : ¬ c) (h : b) : if c then a else b := by rw [if_neg hc]; exact h
theorem iteSn_p {c : Prop} [Decidable c] {a b : Prop} (hc : c) (h : a) : if c then a else b := by rw [if_pos hc]; exact h
section
variable {P : Program} {w : World} {K : PySem.W.Frag} {mg : Str → Option Value} {base : Heap} {f fS : Addr} {fd dS : FuncData}
end
section
variable {P : Program} {w : World} {K : PySem.W.Frag} {mg : Str → Option Value} {base : Heap} {f fS : Addr} {fd dS : FuncData}
end
end Wb
/-! Loop.changed -/
namespace Wb
open PySem L2 WbMin WbS Lz
structure ChA where
  (fCh fic fcr flo : Addr)
  (dCh dic dcr dlo : FuncData)
section
variable {P : Program} {w : World} {K : PySem.W.Frag} {mg : Str → Option Value} {base : Heap} {A : LA} {B : ChA} {e : Addr}
end
end Wb
/-! a loop with another row, another turn: the mathematics -/
namespace Wb
open PySem L2 WbMin WbS Lz
section
variable {L : LD} {i c j : Nat} {m : Int}
/-- the row that is put there -/
def LD.newR (L : LD) (i c j : Nat) (m : Int) : Row := ⟨L.nm i, c, L.nm j, m⟩
def LD.newT (L : LD) (i j : Nat) (m : Int) : Trn := ⟨L.nm i, L.nm j, m⟩
end
end Wb
/-! the changes of all three kinds: is_change_of -/
namespace Wb
open PySem L2 WbMin WbS Lz
/-- a change: another row, another turn, another beginning -/
inductive Chg
  | row (i c j : Nat) (m : Int)
  | turn (i j : Nat) (m : Int)
  | beg (b : Nat)
/-- what it tells -/
def Chg.told (L : LD) : Chg → List V
  | .row i c j m => Row.v (L.newR i c j m)
  | .turn i j m => Trn.v (L.newT i j m)
  | .beg b => [.str (L.nm b)]
def Chg.what : Chg → Str
  | .row .. => "row"
  | .turn .. => "turn"
  | .beg _ => "begin"
def Chg.vs (L : LD) (g : Chg) : List V := .str g.what :: g.told L
def Chg.Ok (L : LD) : Chg → Prop
  | .row i c j _ => i < L.n ∧ j < L.n ∧ c ∈ L.sg
  | .turn i j _ => i < L.n ∧ j < L.n
  | .beg b => b < L.n
section
variable {P : Program} {w : World} {K : PySem.W.Frag} {mg : Str → Option Value} {base : Heap} {f fS fR fT fO fI : Addr} {fd dS dR dT dO dI : FuncData}
end
end Wb
/-! the parts of a change, asked of values of any sort -/
namespace Lg
open PySem L2 WbMin WbS Lz Wb
/-- one of the signs -/
def sgL (sg : List Nat) : List Nat → Bool
  | [c] => decide (c ∈ sg)
  | _ => false
def sgB (sg : List Nat) : V → Bool
  | .str z => sgL sg z.cps.toList
  | _ => false
def rowB (sg : List Nat) (st : List Str) : List V → Bool
  | [a, b, c, d] => stB st a && sgB sg b && (stB st c && intB d)
  | _ => false
def turnB (st : List Str) : List V → Bool
  | [a, b, c] => stB st a && (stB st b && intB c)
  | _ => false
theorem So.sort {H : Hp} {v : V} (h : So H v) : (∃ z, v = .str z ∧ z.length ≤ sizeLine) ∨ (∃ i, v = .int i) ∨ Neither H v := by
  cases h with
  | one h =>
    cases h with
    | str f => exact .inl ⟨_, rfl, f⟩
    | int i => exact .inr (.inl ⟨i, rfl⟩)
    | non => exact .inr (.inr .non)
    | bl b => exact .inr (.inr (.bl b))
    | lst h => exact .inr (.inr (.lst h))
    | dK h => exact .inr (.inr (.dK h))
  | tup h => exact .inr (.inr (.tup h))
/-- a text, or nothing of a text -/
theorem So.text {H : Hp} {v : V} (K : PySem.W.Frag) (h : So H v) : (∃ z, v = .str z ∧ z.length ≤ sizeLine) ∨ ((∃ t, TyX K H v t ∧ PySem.W.kitOne K t (.type "str") = some false) ∧ (∀ st, stB st v = false) ∧ ∀ sg, sgB sg v = false) := by
  rcases So.sort h with h | ⟨i, rfl⟩ | n
  · exact .inl h
  · exact .inr ⟨⟨_, .base (.int i), kit_ty (by decide +kernel)⟩, fun _ => rfl, fun _ => rfl⟩
  · refine .inr ⟨n.str, ?_⟩
    cases n <;> exact ⟨fun _ => rfl, fun _ => rfl⟩
theorem odd1_tup {H : Hp} {v : V} (K : PySem.W.Frag) (h : Odd1 H v) : ∃ t, TyX K H v t ∧ PySem.W.kitOne K t (.type "tuple") = some false := by
  cases h with
  | str f => exact ⟨_, .base (.str _), kit_ty (by decide +kernel)⟩
  | int i => exact ⟨_, .base (.int i), kit_ty (by decide +kernel)⟩
  | non => exact ⟨_, .base .non, kit_ty (by decide +kernel)⟩
  | bl b => exact ⟨_, .base (.bl b), kit_ty (by decide +kernel)⟩
  | lst h => exact ⟨_, .base (.lst h), kit_ty (by decide +kernel)⟩
  | dK h => exact ⟨_, .base (.dK h), kit_ty (by decide +kernel)⟩
theorem isint_so {K : PySem.W.Frag} {Q : VK} {H : Hp} {x : V} (h : So H x) (k : Q (.bl (intB x)) H) :
    ∃ (t : Value) (b : Bool), TyX K H x t ∧ PySem.W.kitOne K t (.type "int") = some b ∧ (b = false → Q (.bl false) H) ∧ (b = true → ∃ c, PySem.W.kitOne K t (.type "bool") = some c ∧ Q (.bl (!c)) H) := by
  rcases So.sort h with ⟨z, rfl, _⟩ | ⟨i, rfl⟩ | n
  · exact ⟨_, false, .base (.str _), kit_ty (by decide +kernel), fun _ => k, fun z => by cases z⟩
  · exact ⟨_, true, .base (.int _), kit_ty (by decide +kernel), (fun z => by cases z), fun _ => ⟨false, kit_ty (by decide +kernel), k⟩⟩
  · obtain ⟨t, b, ty, ki, kb⟩ := n.int (K := K)
    rw [n.intB] at k
    exact ⟨t, b, ty, ki, fun _ => k, fun z => ⟨true, kb z, k⟩⟩
def spStateS : Sp := fun vs H Q _ => ∃ (v : V) (t : Addr) (st : List Str), vs = [v, .ref t] ∧ So H v ∧ H t = some (.tup (st.map V.str)) ∧ Q (.bl (stB st v)) H
def spSignS : Sp := fun vs H Q _ => ∃ (v : V) (sg : List Nat), vs = [v, .str (S sg)] ∧ So H v ∧ Q (.bl (sgB sg v)) H
def spIntS : Sp := fun vs H Q _ => ∃ v : V, vs = [v] ∧ So H v ∧ Q (.bl (intB v)) H
def spRowS : Sp := fun vs H Q _ => ∃ (r t : Addr) (ys : List V) (sg : List Nat) (st : List Str), vs = [.ref r, .str (S sg), .ref t] ∧ H r = some (.tup ys) ∧ (∀ y ∈ ys, So H y) ∧ H t = some (.tup (st.map V.str)) ∧ Q (.bl (rowB sg st ys)) H
def spTurnS : Sp := fun vs H Q _ => ∃ (r t : Addr) (ys : List V) (st : List Str), vs = [.ref r, .ref t] ∧ H r = some (.tup ys) ∧ (∀ y ∈ ys, So H y) ∧ H t = some (.tup (st.map V.str)) ∧ Q (.bl (turnB st ys)) H
theorem sgB_one {sg : List Nat} {z : Str} {c : Nat} (h : z.cps.toList = [c]) : sgB sg (.str z) = decide (c ∈ sg) := by
  show sgL sg z.cps.toList = _
  rw [h] <;> rfl
theorem sgB_not {sg : List Nat} {z : Str} (h : z.length ≠ 1) : sgB sg (.str z) = false := by
  show sgL sg z.cps.toList = false
  unfold sgL
  split
  · rename_i c e
    refine absurd ?_ h
    show z.cps.size = 1
    rw [← Array.length_toList, e] <;> rfl
  · rfl
theorem one_of {z : Str} (h : z.length = 1) : ∃ c, z.cps.toList = [c] ∧ z = ⟨#[c]⟩ := by
  have e : z.cps.toList.length = 1 := by rw [Array.length_toList]; exact h
  match hl : z.cps.toList, e with
  | [c], _ =>
    refine ⟨c, rfl, ?_⟩
    rw [S_eq hl]
    rfl
section
variable {P : Program} {w : World} {K : PySem.W.Frag} {mg : Str → Option Value} {base : Heap} {f fS fR fT fO fI : Addr} {fd dS dR dT dO dI : FuncData}
theorem ok_stateS (F : Fun K "is_state_of" "is_state_of" sStateOf f fd) (Z : Free mg) : FnOk P w K mg base CX0 1 f fd ["value", "states"] spStateS := by
  refine F.ok scSt (fun vs H Q E h => by obtain ⟨v, t, st, rfl, _⟩ := h; rfl) (fun cdv A outer s H vs Q E hr h => ?_)
  obtain ⟨v, t, st, rfl, so, ht, k⟩ := h
  refine ⟨_, pss_one (ps_ret (pe_and (pe_callB call_isi (by rfl) Z.isi (by decide +kernel) (pa_cons (pv 0) (pa_cons (pe_bltn (v := .ty "str") (u := .type "str") (by rfl) Z.str (by decide +kernel) rfl) pa_nil)))
    (pe_one (pe_cmpR op_in_seq (pv 0) (pv 1) (by rfl))))), ?_⟩
  rcases So.text K so with ⟨z, rfl, _⟩ | ⟨⟨ty, h1, h2⟩, n, _⟩
  · refine ⟨_, rfl, _, _, .type "str", .type "str", true, rfl, .ty "str", .base (.str _), kit_ty (by decide +kernel), true, rfl, ?_⟩
    refine ⟨_, rfl, _, rfl, t, _, rfl, .inr (SqT.of ht), rfl, Wb.flat_strs _, ?_⟩
    rw [inV_strs]
    exact k
  · rw [n] at k
    exact ⟨_, rfl, _, _, ty, .type "str", false, rfl, .ty "str", h1, h2, false, rfl, k⟩
theorem ok_signS (F : Fun K "is_sign_of" "is_sign_of" sSignOf f fd) (Z : Free mg) : FnOk P w K mg base CX0 1 f fd ["value", "signs"] spSignS := by
  refine F.ok scSO (fun vs H Q E h => by obtain ⟨v, sg, rfl, _⟩ := h; rfl) (fun cdv A outer s H vs Q E hr h => ?_)
  obtain ⟨v, sg, rfl, so, k⟩ := h
  refine ⟨_, pss_one (ps_ret (pe_and (pe_callB call_isi (by rfl) Z.isi (by decide +kernel) (pa_cons (pv 0) (pa_cons (pe_bltn (v := .ty "str") (u := .type "str") (by rfl) Z.str (by decide +kernel) rfl) pa_nil)))
    (pe_and (pe_cmpR op_eq (pe_callB call_len_str (by rfl) Z.len PySem.boot_len (pa_cons (pv 0) pa_nil)) pe_int (nomark _)) (pe_one (pe_cmpR op_in_sign (pv 0) (pv 1) rfl))))), ?_⟩
  rcases So.text K so with ⟨z, rfl, ft⟩ | ⟨⟨ty, h1, h2⟩, _, n⟩
  · refine ⟨_, rfl, _, _, .type "str", .type "str", true, rfl, .ty "str", .base (.str _), kit_ty (by decide +kernel), true, rfl, ?_⟩
    refine ⟨_, rfl, _, rfl, ft, rfl, _, rfl, ?_⟩
    by_cases e : z.length = 1
    · obtain ⟨c, e1, e2⟩ := one_of e
      refine iteSn_p (decide_eq_true (congrArg (fun n : Nat => V.int (n : Int)) e)) ?_
      refine ⟨_, rfl, _, rfl, c, S sg, by rw [e2], rfl, ?_⟩
      rw [S_cps, ← sgB_one e1]
      exact k
    · refine iteSn_n (fun q => e ?_) ?_
      · have q' := of_decide_eq_true q
        injection q' with q'
        exact_mod_cast q'
      · rw [sgB_not e] at k
        exact k
  · rw [n] at k
    exact ⟨_, rfl, _, _, ty, .type "str", false, rfl, .ty "str", h1, h2, false, rfl, k⟩
theorem ok_intS (F : Fun K "is_integer" "is_integer" sIsInt f fd) (Z : Free mg) : FnOk P w K mg base CX0 1 f fd ["value"] spIntS := by
  refine F.ok scII (fun vs H Q E h => by obtain ⟨x, rfl, _⟩ := h; rfl) (fun cdv A outer s H vs Q E hr h => ?_)
  obtain ⟨x, rfl, so, k⟩ := h
  refine ⟨_, pss_one (ps_ret (pe_and (pe_callB call_isi (by rfl) Z.isi (by decide +kernel) (pa_cons (pv 0) (pa_cons (pe_bltn (v := .ty "int") (u := .type "int") (by rfl) Z.int (by decide +kernel) rfl) pa_nil)))
      (pe_one (pe_not (pe_callB call_isi (by rfl) Z.isi (by decide +kernel) (pa_cons (pv 0) (pa_cons (pe_bltn (v := .ty "bool") (u := .type "bool") (by rfl) Z.bool (by decide +kernel) rfl) pa_nil))))))), ?_⟩
  obtain ⟨t, b, ty, ki, no, yes⟩ := isint_so (K := K) so k
  cases b with
  | false => exact ⟨_, rfl, _, _, t, .type "int", false, rfl, .ty "int", ty, ki, false, rfl, no rfl⟩
  | true =>
    obtain ⟨c, kc, q⟩ := yes rfl
    exact ⟨_, rfl, _, _, t, .type "int", true, rfl, .ty "int", ty, ki, true, rfl, _, rfl, _, _, t, .type "bool", c, rfl, .ty "bool", ty, kc, _, rfl, q⟩
theorem rowB_len {sg : List Nat} {st : List Str} {ys : List V} (h : ys.length ≠ 4) : rowB sg st ys = false := by
  unfold rowB
  split
  · exact absurd rfl h
  · rfl
theorem turnB_len {st : List Str} {ys : List V} (h : ys.length ≠ 3) : turnB st ys = false := by
  unfold turnB
  split
  · exact absurd rfl h
  · rfl
theorem lenV {n : Nat} {xs : List V} (h : xs.length ≠ n) : ¬ (V.int (xs.length : Nat) = V.int (n : Int)) := fun q => h (by injection q with q; exact_mod_cast q)
theorem four {xs : List V} (h : xs.length = 4) : ∃ a b c d, xs = [a, b, c, d] := by
  match xs, h with
  | [a, b, c, d], _ => exact ⟨a, b, c, d, rfl⟩
theorem three {xs : List V} (h : xs.length = 3) : ∃ a b c, xs = [a, b, c] := by
  match xs, h with
  | [a, b, c], _ => exact ⟨a, b, c, rfl⟩
set_option maxHeartbeats 0 in
theorem ok_rowS (F : Fun K "is_row_of" "is_row_of" sRowOf f fd) (Z : Free mg) (mT : mg "tuple" = none) (DS : Def K mg "is_state_of" sStateOf ["value", "states"] fS dS) (DO : Def K mg "is_sign_of" sSignOf ["value", "signs"] fO dO) (DI : Def K mg "is_integer" sIsInt ["value"] fI dI) : FnOk P w K mg base CX0 2 f fd ["value", "signs", "states"] spRowS := by
  have GS : FnOk P w K mg base CX0 1 fS dS ["value", "states"] spStateS := ok_stateS DS.F Z
  have GO : FnOk P w K mg base CX0 1 fO dO ["value", "signs"] spSignS := ok_signS DO.F Z
  have GI : FnOk P w K mg base CX0 1 fI dI ["value"] spIntS := ok_intS DI.F Z
  refine F.ok scRo (fun vs H Q E h => by obtain ⟨r, t, ys, sg, st, rfl, _⟩ := h; rfl) (fun cdv A outer s H vs Q E hr h => ?_)
  obtain ⟨r, t, ys, sg, st, rfl, hR, so, ht, k⟩ := h
  refine ⟨_, pss_cons (ps_if (PW.pt (pw_or (pt_not (pt_val (pe_callB call_isi (by rfl) Z.isi (by decide +kernel) (pa_cons (pv 0) (pa_cons (pe_bltn (v := .ty "tuple") (u := .type "tuple") (by rfl) mT (by decide +kernel) rfl) pa_nil)))))
      (pw_or1 (pt_cmpR op_ne (pe_callB call_len_seq (by rfl) Z.len PySem.boot_len (pa_cons (pv 0) pa_nil)) pe_int (nomark _))))) (pss_one (ps_ret pe_bl)) pss_nil)
    (pss_cons (ps_asg (pv 0) (pg_tup (by rfl) (pgs_cons (pg_name (i := 3) scRo.nd rfl (.inl rfl)) (pgs_cons (pg_name (i := 4) scRo.nd rfl (.inl rfl)) (pgs_cons (pg_name (i := 5) scRo.nd rfl (.inl rfl)) (pgs_cons (pg_name (i := 6) scRo.nd rfl (.inl rfl)) pgs_nil))))))
    (pss_cons (ps_if (PW.pt (pw_or (pt_not (pt_val (pe_call GS hr rfl DS.g DS.kp DS.b .nil pass0 (pa_cons (pv 3) (pa_cons (pv 2) pa_nil)))))
      (pw_or1 (pt_not (pt_val (pe_call GO hr rfl DO.g DO.kp DO.b .nil pass0 (pa_cons (pv 4) (pa_cons (pv 1) pa_nil)))))))) (pss_one (ps_ret pe_bl)) pss_nil)
    (pss_one (ps_ret (pe_and (pe_call GS hr rfl DS.g DS.kp DS.b .nil pass0 (pa_cons (pv 5) (pa_cons (pv 2) pa_nil))) (pe_one (pe_call GI hr rfl DI.g DI.kp DI.b .nil pass0 (pa_cons (pv 6) pa_nil)))))))), ?_⟩
  refine ⟨_, rfl, _, _, .type "tuple", .type "tuple", true, rfl, .ty "tuple", .base (.tup hR), kit_ty (by decide +kernel), true, rfl, ?_⟩
  refine ⟨_, rfl, r, _, rfl, .inr (SqT.of hR), rfl, _, rfl, ?_⟩
  by_cases hl : ys.length = 4
  · obtain ⟨a, b, c, d, rfl⟩ := four hl
    have sa := so a (by simp)
    have sb := so b (by simp)
    have sc := so c (by simp)
    have sd := so d (by simp)
    refine iteNS rfl ?_
    refine ⟨_, rfl, r, _, rfl, SqT.of hR, rfl, _, _, rfl, _, _, rfl, _, _, rfl, _, _, rfl, rfl, ?_⟩
    refine ⟨_, rfl, _, rfl, _, t, st, rfl, sa, ht, ?_⟩
    have k : Q (.bl (stB st a && sgB sg b && (stB st c && intB d))) H := k
    cases h1 : stB st a with
    | false =>
      rw [h1] at k
      exact ⟨false, rfl, k⟩
    | true =>
      refine ⟨true, rfl, ?_⟩
      refine ⟨_, rfl, _, rfl, _, sg, rfl, sb, ?_⟩
      cases h2 : sgB sg b with
      | false =>
        rw [h1, h2] at k
        exact ⟨false, rfl, k⟩
      | true =>
        refine ⟨true, rfl, ?_⟩
        refine ⟨_, rfl, _, rfl, _, t, st, rfl, sc, ht, ?_⟩
        rw [h1, h2] at k
        cases h3 : stB st c with
        | false =>
          rw [h3] at k
          exact ⟨false, rfl, k⟩
        | true =>
          rw [h3] at k
          exact ⟨true, rfl, _, rfl, _, rfl, sd, k⟩
  · rw [rowB_len hl] at k
    exact ifd1 (lenV hl) k
set_option maxHeartbeats 0 in
theorem ok_turnS (F : Fun K "is_turn_of" "is_turn_of" sTurnOf f fd) (Z : Free mg) (mT : mg "tuple" = none) (DS : Def K mg "is_state_of" sStateOf ["value", "states"] fS dS) (DI : Def K mg "is_integer" sIsInt ["value"] fI dI) : FnOk P w K mg base CX0 2 f fd ["value", "states"] spTurnS := by
  have GS : FnOk P w K mg base CX0 1 fS dS ["value", "states"] spStateS := ok_stateS DS.F Z
  have GI : FnOk P w K mg base CX0 1 fI dI ["value"] spIntS := ok_intS DI.F Z
  refine F.ok scTn (fun vs H Q E h => by obtain ⟨r, t, ys, st, rfl, _⟩ := h; rfl) (fun cdv A outer s H vs Q E hr h => ?_)
  obtain ⟨r, t, ys, st, rfl, hR, so, ht, k⟩ := h
  refine ⟨_, pss_cons (ps_if (PW.pt (pw_or (pt_not (pt_val (pe_callB call_isi (by rfl) Z.isi (by decide +kernel) (pa_cons (pv 0) (pa_cons (pe_bltn (v := .ty "tuple") (u := .type "tuple") (by rfl) mT (by decide +kernel) rfl) pa_nil)))))
      (pw_or1 (pt_cmpR op_ne (pe_callB call_len_seq (by rfl) Z.len PySem.boot_len (pa_cons (pv 0) pa_nil)) pe_int (nomark _))))) (pss_one (ps_ret pe_bl)) pss_nil)
    (pss_cons (ps_asg (pv 0) (pg_tup (by rfl) (pgs_cons (pg_name (i := 2) scTn.nd rfl (.inl rfl)) (pgs_cons (pg_name (i := 3) scTn.nd rfl (.inl rfl)) (pgs_cons (pg_name (i := 4) scTn.nd rfl (.inl rfl)) pgs_nil)))))
    (pss_one (ps_ret (pe_and (pe_call GS hr rfl DS.g DS.kp DS.b .nil pass0 (pa_cons (pv 2) (pa_cons (pv 1) pa_nil))) (pe_and (pe_call GS hr rfl DS.g DS.kp DS.b .nil pass0 (pa_cons (pv 3) (pa_cons (pv 1) pa_nil))) (pe_one (pe_call GI hr rfl DI.g DI.kp DI.b .nil pass0 (pa_cons (pv 4) pa_nil)))))))), ?_⟩
  refine ⟨_, rfl, _, _, .type "tuple", .type "tuple", true, rfl, .ty "tuple", .base (.tup hR), kit_ty (by decide +kernel), true, rfl, ?_⟩
  refine ⟨_, rfl, r, _, rfl, .inr (SqT.of hR), rfl, _, rfl, ?_⟩
  by_cases hl : ys.length = 3
  · obtain ⟨a, b, c, rfl⟩ := three hl
    have sa := so a (by simp)
    have sb := so b (by simp)
    have sc := so c (by simp)
    refine iteNS rfl ?_
    refine ⟨_, rfl, r, _, rfl, SqT.of hR, rfl, _, _, rfl, _, _, rfl, _, _, rfl, rfl, ?_⟩
    refine ⟨_, rfl, _, rfl, _, t, st, rfl, sa, ht, ?_⟩
    have k : Q (.bl (stB st a && (stB st b && intB c))) H := k
    cases h1 : stB st a with
    | false =>
      rw [h1] at k
      exact ⟨false, rfl, k⟩
    | true =>
      refine ⟨true, rfl, ?_⟩
      refine ⟨_, rfl, _, rfl, _, t, st, rfl, sb, ht, ?_⟩
      rw [h1] at k
      cases h2 : stB st b with
      | false =>
        rw [h2] at k
        exact ⟨false, rfl, k⟩
      | true =>
        rw [h2] at k
        exact ⟨true, rfl, _, rfl, _, rfl, sc, k⟩
  · rw [turnB_len hl] at k
    exact ifd1 (lenV hl) k
end
end Lg
/-! the changes of all three kinds: changed_row -/
namespace Wb
open PySem L2 WbMin WbS Lz
end Wb
/-! changed_row, all kinds -/
namespace Wb
open PySem L2 WbMin WbS Lz
section
variable {P : Program} {w : World} {K : PySem.W.Frag} {mg : Str → Option Value} {base : Heap} {f : Addr} {fd : FuncData}
end
end Wb
/-! Loop.changed, all kinds -/
namespace Wb
open PySem L2 WbMin WbS Lz
section
variable {P : Program} {w : World} {K : PySem.W.Frag} {mg : Str → Option Value} {base : Heap} {A : LA} {B : ChA} {e : Addr}
end
end Wb
/-! Loop.changed asked with values of any sort: a change, or refused -/
namespace Lg
open PySem L2 WbMin WbS Lz Wb Le
/-! ### what is a change -/
section
variable {P : Program} {w : World} {K : PySem.W.Frag} {mg : Str → Option Value} {base : Heap} {f fS fR fT fO fI : Addr} {fd dS dR dT dO dI : FuncData}
end
end Lg
/-! Loop.changed refused -/
namespace Lg
open PySem L2 PySem.Spec PyProof.Rows WbMin WbS Lz Wb Le
/-- raise C(None) -/
def tBadC (C : Addr) (g : Str) (W : WX) (v : V) : TS := fun _ σ H => ∀ d, H d = none → W (.ref C) (some d) σ (upd H d (.xd [(g, v)]))
section
variable {X : Cx} {W : WX} {C f : Addr} {fd : FuncData} {x g qual : Str} {st : Stmt} {k : Nat} {p p0 pos pos2 : Pos}
end
section
variable {P : Program} {w : World} {K : PySem.W.Frag} {mg : Str → Option Value} {base : Heap} {A : LA} {B : ChA} {e : Addr} {cI fI : Addr} {dI : FuncData}
/-- an error of class C that keeps x as g -/
def FailsN (E : XK) (C : Addr) (g : Str) (x : V) (H : Hp) : Prop := ∀ (dx : Addr) (H' : Hp), Same H H' → H' dx = none → E (.ref C) (some dx) (upd H' dx (.xd [(g, x)]))
theorem passNg {X : Cx} {E : XK} (tk : L2N.Takes X (fun cls d _ H => E cls d H)) : Passes (L2N.CX X.prog X.w) X E := L2N.passes_call tk fun _ _ _ _ h => h
end
end Lg
/-! is_name of a value of any sort; check_states, good or bad -/
namespace Lg
open PySem L2 WbMin WbS Lz Wb
def okn (c : Nat) : Bool := okc c || (decide (48 ≤ c) && decide (c ≤ 57))
def isNB (l : List Nat) : Bool := decide (1 ≤ l.length) && decide (l.length ≤ 8) && okc (l.getD 0 0) && l.all okn
/-- a name -/
def nameB : V → Bool
  | .str z => isNB z.cps.toList
  | _ => false
theorem nameB_S {l : List Nat} : nameB (.str (S l)) = isNB l := congrArg isNB (S_cps l)
theorem okc_iff {c : Nat} : okc c = true ↔ 97 ≤ c ∧ c ≤ 122 := by
  unfold okc
  rw [Bool.and_eq_true, decide_eq_true_iff, decide_eq_true_iff]
theorem okn_iff {c : Nat} : okn c = true ↔ (97 ≤ c ∧ c ≤ 122) ∨ (48 ≤ c ∧ c ≤ 57) := by
  unfold okn
  rw [Bool.or_eq_true, okc_iff, Bool.and_eq_true, decide_eq_true_iff, decide_eq_true_iff]
theorem isNB_iff {l : List Nat} : isNB l = true ↔ IsNm l := by
  unfold isNB
  rw [Bool.and_eq_true, Bool.and_eq_true, Bool.and_eq_true, decide_eq_true_iff, decide_eq_true_iff, okc_iff, List.all_eq_true]
  constructor
  · rintro ⟨⟨⟨a, b⟩, c⟩, d⟩
    exact ⟨a, b, c, fun x hx => okn_iff.mp (d x hx)⟩
  · rintro ⟨a, b, c, d⟩
    exact ⟨⟨⟨a, b⟩, c⟩, fun x hx => okn_iff.mpr (d x hx)⟩
def spNameS : Sp := fun vs H Q _ => ∃ v : V, vs = [v] ∧ So H v ∧ ∀ H', Same H H' → Q (.bl (nameB v)) H'
theorem iteSS {p A B : Prop} [Decidable p] (hp : p) (h : A) : if (!(!decide p)) = true then A else B := by
  rw [decide_eq_true hp]
  exact h
theorem not_lt1' {c d : Nat} (h : ¬ c < d) : ¬ (([c] : List Nat) < [d]) := not_lt1 (by omega)
section
variable {P : Program} {w : World} {K : PySem.W.Frag} {mg : Str → Option Value} {base : Heap} {f : Addr} {fd : FuncData}
theorem notext_name {H : Hp} {v : V} (so : So H v) (n : ∀ st, stB st v = false) : nameB v = false := by
  rcases So.sort so with ⟨z, rfl, _⟩ | ⟨i, rfl⟩ | m
  · have q := n [z]
    rw [show stB [z] (.str z) = true from decide_eq_true List.mem_cons_self] at q
    cases q
  · rfl
  · cases m <;> rfl
set_option maxHeartbeats 2000000 in
theorem ok_isnameS (F : Fun K "is_name" "is_name" sIsName f fd) (Z : Free mg) (t8 : Tok) (g8 : mg "MOST_NAME" = some (.int 8 t8)) : FnOk P w K mg base CX0 1 f fd ["value"] spNameS := by
  refine F.ok scNm (fun vs H Q E h => by obtain ⟨v, rfl, _⟩ := h; rfl) (fun cdv A outer s H vs Q E hr h => ?_)
  obtain ⟨v, rfl, so, k⟩ := h
  refine ⟨_, pss_cons (ps_if (PW.pt (pw_or (pt_not (pt_val (pe_callB call_isi (by rfl) Z.isi (by decide +kernel) (pa_cons (pv 0) (pa_cons (pe_bltn (v := .ty "str") (u := .type "str") (by rfl) Z.str (by decide +kernel) rfl) pa_nil)))))
      (pw_or (pt_not (pt_chain op_le op_le pe_int (pe_callB call_len_str (by rfl) Z.len PySem.boot_len (pa_cons (pv 0) pa_nil)) (pe_glob (v := .int 8) (by rfl) g8 ⟨_, rfl⟩)))
      (pw_or1 (pt_not (pt_chain op_le_str op_le_str pe_str (pe_ix ix_str (pv 0) pe_int (fun _ _ => rfl)) pe_str)))))) (pss_one (ps_ret pe_bl)) pss_nil)
    (pss_one (ps_ret (pe_callB (cr_all rfl) (by rfl) Z.all (by decide +kernel) (pa_cons
      (pe_lc (own := [("character", 1)]) (g := gName 1) (tt := tYes) rfl scNm.nd (pi_str (pv 0)) (blkOk_by (N := ["value", "character"]) (sc := defScope sIsName) (by decide +kernel)) (fun _ _ _ _ _ => pg_name (i := 1) scNm.nd rfl (.inl rfl)) (fun _ _ _ _ _ => pts_nil)
        (fun _ _ _ _ _ => pe_or (pe_chain op_le_str op_le_str pe_str (pv 1) pe_str) (pe_one (pe_chain op_le_str op_le_str pe_str (pv 1) pe_str)))) pa_nil)))), ?_⟩
  rcases So.text K so with ⟨z, rfl, ft⟩ | ⟨⟨ty, h1, h2⟩, n, _⟩
  · obtain ⟨l, rfl⟩ : ∃ l, z = S l := ⟨_, S_eq rfl⟩
    rw [nameB_S] at k
    rw [S_len] at ft
    refine ⟨_, rfl, _, _, .type "str", .type "str", true, rfl, .ty "str", .base (.str _), kit_ty (by decide +kernel), true, rfl, ?_⟩
    have no : ¬ (1 ≤ l.length ∧ l.length ≤ 8 ∧ okc (l.getD 0 0) = true) → Q (.bl false) H := fun z => by
      have e : isNB l = false := by
        cases e : isNB l with
        | false => rfl
        | true =>
          have q := isNB_iff.mp e
          exact absurd ⟨q.pos, q.few, okc_iff.mpr q.hd⟩ z
      have q := k H (Same.refl H)
      rw [e] at q
      exact q
    refine ⟨_, rfl, _, rfl, by rw [S_len]; exact ft, _, _, rfl, rfl, _, rfl, ite2 (fun z1 => ?_) (fun z1 => ?_)⟩
    · have l1 : 1 ≤ l.length := by
        have q := of_decide_eq_true z1
        rw [S_len] at q
        omega
      refine ⟨_, _, rfl, rfl, _, rfl, ?_⟩
      by_cases h8 : l.length ≤ 8
      · refine iteNS (by rw [S_len]; omega) ?_
        refine ⟨_, rfl, _, _, l.getD 0 0, rfl, rfl, by rw [S_len]; exact ft, by rw [S_cps]; exact atI_nat (j := 0) (getD_at l1), _, _, rfl, rfl, _, rfl, ?_⟩
        have na : ∀ c : Nat, c < 97 → ([c] : List Nat) < ("a" : Str).cps.toList := fun c h => by rw [cps_a]; exact is_lt1 h
        have na' : ∀ c : Nat, ¬ c < 97 → ¬ ([c] : List Nat) < ("a" : Str).cps.toList := fun c h => by rw [cps_a]; exact not_lt1' h
        have nz : ∀ c : Nat, 122 < c → ("z" : Str).cps.toList < ([c] : List Nat) := fun c h => by rw [cps_z]; exact is_lt1 h
        have nz' : ∀ c : Nat, ¬ 122 < c → ¬ ("z" : Str).cps.toList < ([c] : List Nat) := fun c h => by rw [cps_z]; exact not_lt1' h
        have n0 : ∀ c : Nat, c < 48 → ([c] : List Nat) < ("0" : Str).cps.toList := fun c h => by rw [cps_0]; exact is_lt1 h
        have n0' : ∀ c : Nat, ¬ c < 48 → ¬ ([c] : List Nat) < ("0" : Str).cps.toList := fun c h => by rw [cps_0]; exact not_lt1' h
        have n9 : ∀ c : Nat, 57 < c → ("9" : Str).cps.toList < ([c] : List Nat) := fun c h => by rw [cps_9]; exact is_lt1 h
        have n9' : ∀ c : Nat, ¬ 57 < c → ¬ ("9" : Str).cps.toList < ([c] : List Nat) := fun c h => by rw [cps_9]; exact not_lt1' h
        by_cases q1 : l.getD 0 0 < 97
        · refine iteSn (na _ q1) ?_
          exact ⟨_, rfl, no fun q => by have := okc_iff.mp q.2.2; omega⟩
        refine ifd1 (na' _ q1) ⟨_, _, rfl, rfl, ?_⟩
        by_cases q2 : 122 < l.getD 0 0
        · refine ⟨_, rfl, iteSS (nz _ q2) ?_⟩
          exact no fun q => by have := okc_iff.mp q.2.2; omega
        refine ⟨_, rfl, iteNN (nz' _ q2) ?_⟩
        refine ⟨_, rfl, _, rfl, fun D hD => lc_it walk_str (fun i H3 => H3 D = some (.lst (((l.take i).map okn).map V.bl)) ∧ Same H H3) ⟨upd_same, Same.put (Same.refl H) hD⟩ (fun _ _ _ _ => trivial) ?_ ?_⟩
        · rintro i x H3 H3' hi ⟨h1, h2⟩ ⟨rfl, c, hc, rfl⟩
          have hc' : l[i]? = some c := by simpa [S] using hc
          have fin : ∀ b : Bool, b = okn c → (∃ acc : List V, H3' D = some (.lst acc) ∧ acc.length < sizeLine ∧ (L2.upd H3' D (.lst (acc ++ [V.bl b]))) D = some (.lst (((l.take (i + 1)).map okn).map V.bl)) ∧ Same H (L2.upd H3' D (.lst (acc ++ [V.bl b])))) := fun b eb => by
            refine ⟨_, h1, ?_, ?_, Same.new' h2 hD⟩
            · rw [List.length_map, List.length_map, sizeLine_eq]
              have := List.length_take_le' i l
              omega
            · rw [upd_same, take_more hc', List.map_append, List.map_append, eb] <;> rfl
          by_cases a1 : c < 97
          · refine ⟨rfl, _, rfl, _, _, rfl, rfl, _, rfl, iteSn (na _ a1) ?_⟩
            refine ⟨false, rfl, ?_⟩
            refine ⟨_, rfl, _, _, rfl, rfl, _, rfl, ?_⟩
            by_cases b1 : c < 48
            · refine iteSn (n0 _ b1) (fin false ?_)
              cases e : okn c with
              | false => rfl
              | true => have := okn_iff.mp e; omega
            refine ifd1 (n0' _ b1) ⟨_, _, rfl, rfl, ?_⟩
            refine fin _ ?_
            by_cases b2 : 57 < c
            · rw [decide_eq_true (show ("9" : Str).cps.toList < (⟨#[c]⟩ : Str).cps.toList from n9 _ b2)]
              cases e : okn c with
              | false => rfl
              | true => have := okn_iff.mp e; omega
            · rw [decide_eq_false (show ¬ ("9" : Str).cps.toList < (⟨#[c]⟩ : Str).cps.toList from n9' _ b2)]
              exact (okn_iff.mpr (.inr ⟨by omega, by omega⟩)).symm
          · refine ⟨rfl, _, rfl, _, _, rfl, rfl, _, rfl, ifd1 (na' _ a1) ⟨_, _, rfl, rfl, ?_⟩⟩
            by_cases a2 : 122 < c
            · have e : (decide (("z" : Str).cps.toList < (⟨#[c]⟩ : Str).cps.toList)) = true := decide_eq_true (nz _ a2)
              refine ⟨false, by rw [e] <;> rfl, ?_⟩
              refine ⟨_, rfl, _, _, rfl, rfl, _, rfl, ifd1 (n0' c (by omega)) ⟨_, _, rfl, rfl, ?_⟩⟩
              refine fin _ ?_
              rw [decide_eq_true (show ("9" : Str).cps.toList < (⟨#[c]⟩ : Str).cps.toList from n9 c (by omega))]
              cases e : okn c with
              | false => rfl
              | true => have := okn_iff.mp e; omega
            · have e : (decide (("z" : Str).cps.toList < (⟨#[c]⟩ : Str).cps.toList)) = false := decide_eq_false (nz' _ a2)
              refine ⟨true, by rw [e] <;> rfl, fin _ ?_⟩
              exact (okn_iff.mpr (.inl ⟨by omega, by omega⟩)).symm
        · rintro H3 ⟨h1', h2'⟩
          refine ⟨D, _, rfl, SqL.of h1', ?_⟩
          have q := k H3 h2'
          have e : isNB l = ((l.take (S l).cps.size).map okn).all id := by
            rw [S_size, List.take_length, List.all_map]
            unfold isNB
            rw [decide_eq_true l1, decide_eq_true h8, okc_iff.mpr ⟨by omega, by omega⟩] <;> rfl
          rw [e] at q
          exact q
      · refine iteS (by rw [S_len]; omega) ?_
        exact no fun q => h8 q.2.1
    · refine ⟨_, rfl, no (fun z => z1 (decide_eq_true ?_))⟩
      rw [S_len]
      omega
  · rw [notext_name so n] at k
    exact ⟨_, rfl, _, _, ty, .type "str", false, rfl, .ty "str", h1, h2, false, rfl, k H (Same.refl H)⟩
end
end Lg
/-! check_states of values of any sort, good or refused -/
namespace Lg
open PySem L2 PySem.Spec PyProof.Rows WbMin WbS Lz Wb Le
/-- a value of any sort and what its tuples hold, two deep -/
inductive Wh (H : Hp) : V → Prop
  | one {v : V} (h : Odd1 H v) : Wh H v
  | tup {a : Addr} {xs : List V} (h : H a = some (.tup xs)) (l : xs.length ≤ 99) (r : ∀ y ∈ xs, TopS H y) (c : ∀ y ∈ xs, ∀ z, y = .str z → PyData.strOk z = true) : Wh H (.ref a)
theorem Wh.same {H H' : Hp} {v : V} (h : Wh H v) (s : Same H H') : Wh H' v := by
  cases h with
  | one h => exact .one (h.same s)
  | tup h l r c => exact .tup (s _ _ h) l (fun y hy => (r y hy).same s) c
theorem Wh.so {H : Hp} {v : V} (h : Wh H v) : So H v := by
  cases h with
  | one h => exact .one h
  | tup h l r => exact .tup h
/-- nothing, or an error of class C that keeps v as g -/
def Outc (Q : VK) (E : XK) (C : Addr) (g : Str) (H : Hp) : Option V → Prop
  | none => ∀ H', Same H H' → Q .non H'
  | some v => FailsN E C g v H
theorem FailsN.mono {E : XK} {C : Addr} {g : Str} {v : V} {H H' : Hp} (h : FailsN E C g v H) (s : Same H H') : FailsN E C g v H' := fun dx H2 s2 n => h dx H2 (s.trans s2) n
section
variable {X : Cx} {W : WX} {C f : Addr} {fd : FuncData} {x g qual : Str} {st : Stmt} {k : Nat} {p pos pos2 : Pos} {ex : Expr} {v : V}
theorem ps_badV (E : ErrF X.K X.mg x g qual st C f fd) (F1 : FnOk X.prog X.w X.K X.mg X.base CX0 k f fd ["self", g] (spErr C g)) (hr : Room (k + 1) X.A) (calm : X.calm = true) (tk : L2N.Takes X W) (gl : Gl X x) (ha : PE X ex (tC v)) (hsx : starEach [ex] X.env = (false, eval ex X.env) :: starEach [] X.env)
    (nd : (x == ("__debug__" : Str)) = false := by decide) : PS X (.Raise (some (.Call (.Name x p) [ex] [] pos)) none pos2) (tBadC C g W v) := by
  refine ⟨fun pins s σ H D I h => (L2N.ps_raise calm tk (Le.pmk_calm (CX := CX0) E.o E.ini E.fn F1 hr E.b (fun _ _ _ _ _ _ _ z => z.elim) gl E.g (pa_cons ha pa_nil (hs := hsx)) nd hsx rfl)).run pins s σ H D I ?_⟩
  refine ⟨(by show 1 ≤ 1000; decide), fun a na => ⟨a, v, rfl, upd_same, fun d nd ne => ⟨rfl, d, [(g, v)], upd_same, ?_, ?_, ?_⟩⟩⟩
  · rw [upd_ne ne, upd_same]
  · rw [upd_ne ne] at nd
    exact nd
  · have nd' : H d = none := by
      rw [upd_ne ne] at nd
      exact nd
    rw [dict_left na ne]
    exact h d nd'
end
theorem cut_take' {xs : List V} {i : Nat} : cutV xs none (some ((i : Nat) : Int)) = xs.take i := by
  unfold cutV
  rw [HT.sIx_none, HT.sIx_nat]
  show xs.take (min i xs.length) = _
  rw [List.take_eq_take_iff]
  omega
def nameK : V → Option Str
  | .str z => if isNB z.cps.toList = true then some z else none
  | _ => none
theorem nameK_some (v : V) : (nameK v).isSome = nameB v := by
  cases v with
  | str z =>
    show (if isNB z.cps.toList = true then some z else none).isSome = isNB z.cps.toList
    cases isNB z.cps.toList <;> rfl
  | _ => rfl
theorem nameK_eq {v : V} {z : Str} (h : nameK v = some z) : v = .str z ∧ nameB v = true := by
  cases v with
  | str y =>
    have h' : (if isNB y.cps.toList = true then some y else none) = some z := h
    by_cases e : isNB y.cps.toList = true
    · rw [if_pos e] at h'
      cases h'
      exact ⟨rfl, e⟩
    · rw [if_neg e] at h'
      cases h'
  | _ => cases h
theorem key_map {f : V → Option Str} (hf : ∀ v z, f v = some z → v = .str z) (xs : List V) : KeyT (xs.map f) xs := by
  refine ⟨List.length_map _, fun i z h => ?_⟩
  rw [List.getElem?_map] at h
  obtain ⟨v, hv, e⟩ := Option.map_eq_some_iff.mp h
  rw [hv, hf v z e]
/-- what is wrong of states -/
def stR (xs : List V) : Option V := if xs.length = 0 then some .non else match fwO ((xs.take 6).map nameK) with
  | some i => some (.int (i : Nat))
  | none => if 6 < xs.length then some (.int 6) else none
def stO : Option HO → Option V
  | some (.tup xs) => stR xs
  | _ => some .non
def stW (H : Hp) : V → Option V
  | .ref a => stO (H a)
  | _ => some .non
theorem stW_one {H : Hp} {v : V} (h : Odd1 H v) : stW H v = some .non := by
  cases h with
  | lst h =>
    show stO (H _) = _
    rw [h] <;> rfl
  | dK h =>
    show stO (H _) = _
    rw [h] <;> rfl
  | _ => rfl
theorem stW_tup {H : Hp} {a : Addr} {xs : List V} (h : H a = some (.tup xs)) : stW H (.ref a) = stR xs := by
  show stO (H a) = _
  rw [h] <;> rfl
abbrev sErrInvalidStates : Stmt := inClass (top 22) 0
def spChStA (C : Addr) : Sp := fun vs H Q E => ∃ x : V, vs = [x] ∧ Wh H x ∧ Outc Q E C "index" H (stW H x)
section
variable {P : Program} {w : World} {K : PySem.W.Frag} {mg : Str → Option Value} {base : Heap} {f fN fF cS fS : Addr} {fd dN dF dS : FuncData}
theorem scErrS : FnScope ["self", "index"] ["self", "index"] (defScope sErrInvalidStates) := ⟨rfl, rfl, rfl, by decide +kernel, rfl, by decide +kernel, by decide +kernel⟩
theorem ok_errS (E : ErrF K mg "InvalidStates" "index" "InvalidStates.__init__" sErrInvalidStates cS fS dS) : FnOk P w K mg base CX0 1 fS dS ["self", "index"] (spErr cS "index") := by
  refine E.F.ok scErrS (fun vs H Q E h => by obtain ⟨a, y, rfl, _⟩ := h; rfl) (fun cdv A outer s H vs Q E' hr h => ?_)
  obtain ⟨a, y, rfl, ha, k⟩ := h
  exact ⟨_, pss_one (ps_ost (pv 0) (pv 1)), _, rfl, _, rfl, a, cS, rfl, E.o, E.no, .inl ⟨ha, k⟩⟩
set_option maxHeartbeats 2000000 in
theorem ok_chstA (F : Fun K "check_states" "check_states" sChSt f fd) (Z : Free mg) (mT : mg "tuple" = none) (mE : mg "enumerate" = none) (t8 : Tok) (g8 : mg "MOST_NAME" = some (.int 8 t8)) (t6 : Tok) (g6 : mg "MOST_STATES" = some (.int 6 t6)) (DN : Def K mg "is_name" sIsName ["value"] fN dN) (DF : Def K mg "first_wrong" sFirst ["values", "right"] fF dF)
    (ES : ErrF K mg "InvalidStates" "index" "InvalidStates.__init__" sErrInvalidStates cS fS dS) : FnOk P w K mg base (L2N.CX P w) 3 f fd ["states"] (spChStA cS) := by
  have GN : FnOk P w K mg base CX0 1 fN dN ["value"] spNameS := ok_isnameS DN.F Z t8 g8
  have GF : FnOk P w K mg base CX0 1 fF dF ["values", "right"] spFirstA := ok_firstA DF.F mE
  have GE : FnOk P w K mg base CX0 1 fS dS ["self", "index"] (spErr cS "index") := ok_errS ES
  refine okN F scCS (fun vs H Q E h => by obtain ⟨x, rfl, _⟩ := h; rfl) (fun cdv A outer s H vs Q E hr h => ?_)
  obtain ⟨x, rfl, wh, k⟩ := h
  have hr1 : Room 1 _ := hr.mono (by decide)
  refine ⟨_, pss_cons (ps_if (PW.pt (pw_or (pt_not (pt_val (pe_callB call_isi (by rfl) Z.isi (by decide +kernel) (pa_cons (pv 0) (pa_cons (pe_bltn (v := .ty "tuple") (u := .type "tuple") (by rfl) mT (by decide +kernel) rfl) pa_nil))))) (pw_or1 (pt_cmpR op_eq (pe_callB call_len_seq (by rfl) Z.len PySem.boot_len (pa_cons (pv 0) pa_nil)) pe_int (nomark _))))) (pss_one (ps_badV ES GE hr rfl (L2N.takes_of rfl rfl rfl rfl) rfl pe_non rfl)) pss_nil)
    (pss_cons (ps_set (i := 1) scCS.nd rfl (.inl rfl) (pe_joinE (pe_slice sl_tupA (pv 0) po_none (po_some (pe_glob (v := .int 6) (by rfl) g6 ⟨_, rfl⟩)))))
    (pss_cons (ps_set (i := 2) scCS.nd rfl (.inl rfl) (pe_call GF hr1 rfl DF.g DF.kp DF.b .nil pass0 (pa_cons (pv 1) (pa_cons
        (pe_lc (own := [("state", 3)]) (g := gName 3) (tt := tYes) rfl scCS.nd (pi_tup (pv 1)) (blkOk_by (N := ["states", "first", "wrong", "state"]) (sc := defScope sChSt) (by decide +kernel)) (fun _ _ _ _ _ => pg_name (i := 3) scCS.nd rfl (.inl rfl)) (fun _ _ _ _ _ => pts_nil)
          (fun _ _ _ _ _ => pe_call GN hr1 rfl DN.g DN.kp DN.b .nil pass0 (pa_cons (pv 3) pa_nil))) pa_nil))))
    (pss_cons (ps_if (pt_cmpR op_notN (pv 2) pe_non (nomark _)) (pss_one (ps_bad ES GE hr rfl (L2N.takes_of rfl rfl rfl rfl) rfl (pv 2))) pss_nil)
    (pss_one (ps_if (pt_cmpR op_gt (pe_callB call_len_seq (by rfl) Z.len PySem.boot_len (pa_cons (pv 0) pa_nil)) (pe_glob (v := .int 6) (by rfl) g6 ⟨_, rfl⟩) (nomark _)) (pss_one (ps_badV ES GE hr rfl (L2N.takes_of rfl rfl rfl rfl) rfl (pe_glob (v := .int 6) (by rfl) g6 ⟨_, rfl⟩) rfl)) pss_nil))))), ?_⟩
  cases wh with
  | one ho =>
    rw [stW_one ho] at k
    obtain ⟨ty, h1, h2⟩ := odd1_tup K ho
    refine ⟨_, rfl, _, _, ty, .type "tuple", false, rfl, .ty "tuple", h1, h2, false, rfl, ?_⟩
    exact fun dx n => k dx H (Same.refl H) n
  | @tup t xs ht few r =>
    rw [stW_tup ht] at k
    refine ⟨_, rfl, _, _, .type "tuple", .type "tuple", true, rfl, .ty "tuple", .base (.tup ht), kit_ty (by decide +kernel), true, rfl, ?_⟩
    refine ⟨_, rfl, t, _, rfl, .inr (SqT.of ht), rfl, _, rfl, ite2 (fun q => ?_) (fun q => ?_)⟩
    · have l0 : xs.length = 0 := by
        have q := of_decide_eq_true q
        injection q with q
        exact_mod_cast q
      unfold stR at k
      rw [if_pos l0] at k
      exact fun dx n => k dx H (Same.refl H) n
    have l0 : ¬ xs.length = 0 := fun z => q (decide_eq_true (congrArg (fun n : Nat => V.int (n : Int)) z))
    unfold stR at k
    rw [if_neg l0] at k
    refine ⟨fun v H' => ∃ t1, v = .ref t1 ∧ H' t1 = some (.tup (xs.take 6)) ∧ Same H H', ?_, ?_⟩
    · refine ⟨_, rfl, _, rfl, t, _, rfl, SqT.of ht, fun w => ⟨t, rfl, ?_, Same.refl H⟩, fun _ u hu => ⟨u, rfl, ?_, Same.put (Same.refl H) hu⟩⟩
      · have q := w.2
        rw [show (some (6 : Int)) = some ((6 : Nat) : Int) from rfl, HT.sIx_nat] at q
        rw [List.take_of_length_le (by omega)]
        exact ht
      · rw [upd_same]
        exact congrArg (fun z => some (HO.tup z)) cut_take'
    rintro v H1 ⟨t1, rfl, h1, s1⟩
    have small : (xs.take 6).length ≤ 6 := by
      rw [List.length_take]
      omega
    have so6 : ∀ y ∈ xs.take 6, So H y := fun y hy => (r y (List.mem_of_mem_take hy)).so
    generalize xs.take 6 = ys at h1 small so6 k ⊢
    refine ⟨_, rfl, _, rfl, t1, rfl, ⟨_, SqT.of h1⟩, fun D hD => lc_it (walk_tup (xs := ys)) (fun i H3 => H3 D = some (.lst (((ys.take i).map nameB).map V.bl)) ∧ Same H1 H3) ⟨upd_same, Same.put (Same.refl H1) hD⟩ (fun _ _ _ h => SqT.of (h.2 _ _ h1)) ?_ ?_⟩
    · rintro i x H3 H3' hi ⟨g1, g2⟩ ⟨rfl, hx⟩
      refine ⟨rfl, _, rfl, x, rfl, ((so6 x (List.mem_of_getElem? hx)).same s1).same g2, fun H4 s4 => ⟨_, s4 _ _ g1, ?_, ?_, Same.new' (g2.trans s4) hD⟩⟩
      · rw [List.length_map, List.length_map, List.length_take, sizeLine_eq]
        omega
      · rw [upd_same, List.take_add_one, hx, List.map_append, List.map_append] <;> rfl
    · rintro H3 ⟨g1, g2⟩
      rw [List.take_length] at g1
      refine ⟨t1, D, ys, ys.map nameK, rfl, g2 _ _ h1, key_map (fun v z h => (nameK_eq h).1) ys, ?_, fun H4 s4 => ?_⟩
      · rw [g1]
        unfold flV
        rw [List.map_map, List.map_map, List.map_map]
        refine congrArg (fun z => some (HO.lst z)) (List.map_congr_left fun v _ => ?_)
        show V.bl (nameB v) = V.bl (nameK v).isSome
        rw [nameK_some]
      have s04 := (s1.trans g2).trans s4
      cases e : fwO (ys.map nameK) with
      | some i =>
        rw [e] at k
        refine ⟨_, rfl, rfl, _, rfl, iteT ?_⟩
        exact ⟨_, rfl, fun dx n => k dx H4 s04 n⟩
      | none =>
        rw [e] at k
        refine ⟨_, rfl, rfl, _, rfl, iteF ⟨_, rfl, t, _, rfl, .inr (SqT.of (s04 _ _ ht)), _, _, rfl, rfl, _, rfl, ?_⟩⟩
        have k : Outc Q E cS "index" H (if 6 < xs.length then some (.int 6) else none) := k
        by_cases h6 : 6 < xs.length
        · rw [if_pos h6] at k
          refine ifd (by exact_mod_cast h6) ?_
          exact fun dx n => k dx H4 s04 n
        · rw [if_neg h6] at k
          exact ifn (by exact_mod_cast h6) (k H4 s04)
end
end Lg
/-! check_yes and check_turns of values of any sort, good or refused -/
namespace Lg
open PySem L2 PySem.Spec PyProof.Rows WbMin WbS Lz Wb Le
/-- a text of st -/
def stK (st : List Str) : V → Option Str
  | .str z => if z ∈ st then some z else none
  | _ => none
theorem stK_some (st : List Str) (v : V) : (stK st v).isSome = stB st v := by
  cases v with
  | str z =>
    show (if z ∈ st then some z else none).isSome = decide (z ∈ st)
    by_cases e : z ∈ st
    · rw [if_pos e, decide_eq_true e] <;> rfl
    · rw [if_neg e, decide_eq_false e] <;> rfl
  | _ => rfl
theorem stK_eq {st : List Str} {v : V} {z : Str} (h : stK st v = some z) : v = .str z ∧ z ∈ st := by
  cases v with
  | str y =>
    have h' : (if y ∈ st then some y else none) = some z := h
    by_cases e : y ∈ st
    · rw [if_pos e] at h'
      cases h'
      exact ⟨rfl, e⟩
    · rw [if_neg e] at h'
      cases h'
  | _ => cases h
/-- an error's index, or nothing -/
def ixO : Option Nat → Option V
  | some i => some (.int (i : Nat))
  | none => none
def yeO (st : List Str) : Option HO → Option V
  | some (.tup xs) => ixO (fwO (xs.map (stK st)))
  | _ => some .non
def yeW (H : Hp) (st : List Str) : V → Option V
  | .ref a => yeO st (H a)
  | _ => some .non
theorem yeW_one {H : Hp} {st : List Str} {v : V} (h : Odd1 H v) : yeW H st v = some .non := by
  cases h with
  | lst h =>
    show yeO st (H _) = _
    rw [h] <;> rfl
  | dK h =>
    show yeO st (H _) = _
    rw [h] <;> rfl
  | _ => rfl
theorem yeW_tup {H : Hp} {st : List Str} {a : Addr} {xs : List V} (h : H a = some (.tup xs)) : yeW H st (.ref a) = ixO (fwO (xs.map (stK st))) := by
  show yeO st (H a) = _
  rw [h] <;> rfl
def spChYeA (C : Addr) : Sp := fun vs H Q E => ∃ (x : V) (t : Addr) (st : List Str), vs = [x, .ref t] ∧ Wh H x ∧ H t = some (.tup (st.map V.str)) ∧ Outc Q E C "index" H (yeW H st x)
/-- the first state of a turn -/
def tnL (st : List Str) : List V → Option Str
  | .str z :: ys => if turnB st (.str z :: ys) = true then some z else none
  | _ => none
theorem tnL_some {st : List Str} : ∀ ys : List V, (tnL st ys).isSome = turnB st ys
  | [] => rfl
  | x :: ys => by
    cases x with
    | str z =>
      show (if turnB st (.str z :: ys) = true then some z else none).isSome = turnB st (.str z :: ys)
      cases turnB st (.str z :: ys) <;> rfl
    | _ =>
      show false = turnB st (_ :: ys)
      unfold turnB
      split
      · rename_i e
        injection e with e _
        subst e
        rfl
      · rfl
theorem tnL_eq {st : List Str} {ys : List V} {z : Str} (h : tnL st ys = some z) : ∃ b c, ys = [.str z, b, c] ∧ turnB st ys = true := by
  have q : turnB st ys = true := by rw [← tnL_some, h] <;> rfl
  unfold turnB at q
  split at q
  · rename_i a b c
    cases a with
    | str y =>
      have h' : (if turnB st [.str y, b, c] = true then some y else none) = some z := h
      have q' : turnB st [.str y, b, c] = true := q
      rw [if_pos q'] at h'
      cases h'
      exact ⟨b, c, rfl, q'⟩
    | _ => cases h
  · cases q
def tnO (st : List Str) : Option HO → Option Str
  | some (.tup ys) => tnL st ys
  | _ => none
def tnK (H : Hp) (st : List Str) : V → Option Str
  | .ref a => tnO st (H a)
  | _ => none
theorem tnK_one {H : Hp} {st : List Str} {v : V} (h : Odd1 H v) : tnK H st v = none := by
  cases h with
  | lst h =>
    show tnO st (H _) = _
    rw [h] <;> rfl
  | dK h =>
    show tnO st (H _) = _
    rw [h] <;> rfl
  | _ => rfl
theorem tnK_tup {H : Hp} {st : List Str} {a : Addr} {ys : List V} (h : H a = some (.tup ys)) : tnK H st (.ref a) = tnL st ys := by
  show tnO st (H a) = _
  rw [h] <;> rfl
theorem tnK_same {H H' : Hp} {st : List Str} {v : V} (h : TopS H v) (s : Same H H') : tnK H' st v = tnK H st v := by
  cases h with
  | one h => rw [tnK_one h, tnK_one (h.same s)]
  | tup h l r => rw [tnK_tup h, tnK_tup (s _ _ h)]
/-- what a list holds in the places of keys -/
def kV : Option Str → V
  | some z => .str z
  | none => .non
theorem kV_keys (l : List (Option Str)) : KeyT l (l.map kV) := by
  refine ⟨(List.length_map _).symm, fun i z h => ?_⟩
  rw [List.getElem?_map, h] <;> rfl
def tuO (H : Hp) (st : List Str) : Option HO → Option V
  | some (.tup xs) => ixO (fwO (xs.map (tnK H st)))
  | _ => some .non
def tuW (H : Hp) (st : List Str) : V → Option V
  | .ref a => tuO H st (H a)
  | _ => some .non
theorem tuW_one {H : Hp} {st : List Str} {v : V} (h : Odd1 H v) : tuW H st v = some .non := by
  cases h with
  | lst h =>
    show tuO H st (H _) = _
    rw [h] <;> rfl
  | dK h =>
    show tuO H st (H _) = _
    rw [h] <;> rfl
  | _ => rfl
theorem tuW_tup {H : Hp} {st : List Str} {a : Addr} {xs : List V} (h : H a = some (.tup xs)) : tuW H st (.ref a) = ixO (fwO (xs.map (tnK H st))) := by
  show tuO H st (H a) = _
  rw [h] <;> rfl
def spChTuA (C : Addr) : Sp := fun vs H Q E => ∃ (x : V) (t : Addr) (st : List Str), vs = [x, .ref t] ∧ Wh H x ∧ H t = some (.tup (st.map V.str)) ∧ Outc Q E C "index" H (tuW H st x)
def spTurnA : Sp := fun vs H Q _ => ∃ (v : V) (t : Addr) (st : List Str), vs = [v, .ref t] ∧ TopS H v ∧ H t = some (.tup (st.map V.str)) ∧ Q (.bl (tnK H st v).isSome) H
def spTurnO : Sp := fun vs H Q _ => ∃ (v : V) (t : Addr), vs = [v, .ref t] ∧ Odd1 H v ∧ Q (.bl false) H
abbrev sErrInvalidTurns : Stmt := inClass (top 24) 0
section
variable {P : Program} {w : World} {K : PySem.W.Frag} {mg : Str → Option Value} {base : Heap} {f fN fF fR fI cS cT fT : Addr} {fd dN dF dR dI dT : FuncData} {fS : Addr} {dS : FuncData} {fE : Addr} {dE : FuncData}
theorem scErrT : FnScope ["self", "index"] ["self", "index"] (defScope sErrInvalidTurns) := ⟨rfl, rfl, rfl, by decide +kernel, rfl, by decide +kernel, by decide +kernel⟩
theorem ok_errT (E : ErrF K mg "InvalidTurns" "index" "InvalidTurns.__init__" sErrInvalidTurns cT fT dT) : FnOk P w K mg base CX0 1 fT dT ["self", "index"] (spErr cT "index") := by
  refine E.F.ok scErrT (fun vs H Q E h => by obtain ⟨a, y, rfl, _⟩ := h; rfl) (fun cdv A outer s H vs Q E' hr h => ?_)
  obtain ⟨a, y, rfl, ha, k⟩ := h
  exact ⟨_, pss_one (ps_ost (pv 0) (pv 1)), _, rfl, _, rfl, a, cT, rfl, E.o, E.no, .inl ⟨ha, k⟩⟩
set_option maxHeartbeats 1000000 in
theorem ok_chyeA (F : Fun K "check_yes" "check_yes" sChYe f fd) (Z : Free mg) (mT : mg "tuple" = none) (mE : mg "enumerate" = none) (DS : Def K mg "is_state_of" sStateOf ["value", "states"] fS dS) (DF : Def K mg "first_wrong" sFirst ["values", "right"] fF dF)
    (ES : ErrF K mg "InvalidStates" "index" "InvalidStates.__init__" sErrInvalidStates cS fE dE) : FnOk P w K mg base (L2N.CX P w) 3 f fd ["yes", "states"] (spChYeA cS) := by
  have GS : FnOk P w K mg base CX0 1 fS dS ["value", "states"] spStateS := ok_stateS DS.F Z
  have GF : FnOk P w K mg base CX0 1 fF dF ["values", "right"] spFirstA := ok_firstA DF.F mE
  have GE : FnOk P w K mg base CX0 1 fE dE ["self", "index"] (spErr cS "index") := ok_errS ES
  refine okN F scCY (fun vs H Q E h => by obtain ⟨x, t, st, rfl, _⟩ := h; rfl) (fun cdv A outer s H vs Q E hr h => ?_)
  obtain ⟨x, t, st, rfl, wh, ht, k⟩ := h
  have hr1 : Room 1 _ := hr.mono (by decide)
  refine ⟨_, pss_cons (ps_if (pt_not (pt_val (pe_callB call_isi (by rfl) Z.isi (by decide +kernel) (pa_cons (pv 0) (pa_cons (pe_bltn (v := .ty "tuple") (u := .type "tuple") (by rfl) mT (by decide +kernel) rfl) pa_nil))))) (pss_one (ps_badV ES GE hr rfl (L2N.takes_of rfl rfl rfl rfl) rfl pe_non rfl)) pss_nil)
    (pss_cons (ps_set (i := 2) scCY.nd rfl (.inl rfl) (pe_call GF hr1 rfl DF.g DF.kp DF.b .nil pass0 (pa_cons (pv 0) (pa_cons
        (pe_lc (own := [("state", 3)]) (g := gName 3) (tt := tYes) rfl scCY.nd (pi_tup (pv 0)) (blkOk_by (N := ["yes", "states", "wrong", "state"]) (sc := defScope sChYe) (by decide +kernel)) (fun _ _ _ _ _ => pg_name (i := 3) scCY.nd rfl (.inl rfl)) (fun _ _ _ _ _ => pts_nil)
          (fun _ _ _ _ _ => pe_call GS hr1 rfl DS.g DS.kp DS.b .nil pass0 (pa_cons (pv 3) (pa_cons (pv 1) pa_nil)))) pa_nil))))
    (pss_one (ps_if (pt_cmpR op_notN (pv 2) pe_non (nomark _)) (pss_one (ps_bad ES GE hr rfl (L2N.takes_of rfl rfl rfl rfl) rfl (pv 2))) pss_nil))), ?_⟩
  cases wh with
  | one ho =>
    rw [yeW_one ho] at k
    obtain ⟨ty, h1, h2⟩ := odd1_tup K ho
    exact ⟨_, rfl, _, _, ty, .type "tuple", false, rfl, .ty "tuple", h1, h2, false, rfl, fun dx n => k dx H (Same.refl H) n⟩
  | @tup y xs hy few r =>
    rw [yeW_tup hy] at k
    refine ⟨_, rfl, _, _, .type "tuple", .type "tuple", true, rfl, .ty "tuple", .base (.tup hy), kit_ty (by decide +kernel), true, rfl, ?_⟩
    refine ⟨_, rfl, _, rfl, y, rfl, ⟨_, SqT.of hy⟩, fun D hD => lc_it (walk_tup (xs := xs)) (fun i H3 => H3 D = some (.lst (((xs.take i).map (stB st)).map V.bl)) ∧ Same H H3) ⟨upd_same, Same.put (Same.refl H) hD⟩ (fun _ _ _ h => SqT.of (h.2 _ _ hy)) ?_ ?_⟩
    · rintro i x H3 H3' hi ⟨h1, h2⟩ ⟨rfl, hx⟩
      refine ⟨rfl, _, rfl, _, rfl, x, t, st, rfl, (r x (List.mem_of_getElem? hx)).so.same h2, h2 _ _ ht, _, h1, ?_, ?_, Same.new' h2 hD⟩
      · rw [List.length_map, List.length_map, List.length_take, sizeLine_eq]
        omega
      · rw [upd_same, List.take_add_one, hx, List.map_append, List.map_append] <;> rfl
    · rintro H3 ⟨h1, h2⟩
      rw [List.take_length] at h1
      refine ⟨y, D, xs, xs.map (stK st), rfl, h2 _ _ hy, key_map (fun v z h => (stK_eq h).1) xs, ?_, fun H4 s4 => ?_⟩
      · rw [h1]
        unfold flV
        rw [List.map_map, List.map_map, List.map_map]
        refine congrArg (fun z => some (HO.lst z)) (List.map_congr_left fun v _ => ?_)
        show V.bl (stB st v) = V.bl (stK st v).isSome
        rw [stK_some]
      have s04 := h2.trans s4
      cases e : fwO (xs.map (stK st)) with
      | some i =>
        rw [e] at k
        refine ⟨_, rfl, rfl, _, rfl, iteT ?_⟩
        exact ⟨_, rfl, fun dx n => k dx H4 s04 n⟩
      | none =>
        rw [e] at k
        exact ⟨_, rfl, rfl, _, rfl, iteF (k H4 s04)⟩
set_option maxHeartbeats 1000000 in
theorem ok_turnO (F : Fun K "is_turn_of" "is_turn_of" sTurnOf f fd) (Z : Free mg) (mT : mg "tuple" = none) : FnOk P w K mg base CX0 2 f fd ["value", "states"] spTurnO := by
  refine F.ok scTn (fun vs H Q E h => by obtain ⟨v, t, rfl, _⟩ := h; rfl) (fun cdv A outer s H vs Q E hr h => ?_)
  obtain ⟨v, t, rfl, ho, k⟩ := h
  refine ⟨_, pss_cons (ps_if (PW.pt (pw_or (pt_not (pt_val (pe_callB call_isi (by rfl) Z.isi (by decide +kernel) (pa_cons (pv 0) (pa_cons (pe_bltn (v := .ty "tuple") (u := .type "tuple") (by rfl) mT (by decide +kernel) rfl) pa_nil)))))
      (pw_or1 (pt_cmpR op_ne (pe_callB call_len_seq (by rfl) Z.len PySem.boot_len (pa_cons (pv 0) pa_nil)) pe_int (nomark _))))) (pss_one (ps_ret pe_bl)) pss_nil) pss_never, ?_⟩
  obtain ⟨ty, h1, h2⟩ := odd1_tup K ho
  exact ⟨_, rfl, _, _, ty, .type "tuple", false, rfl, .ty "tuple", h1, h2, false, rfl, k⟩
theorem ok_turnA (F : Fun K "is_turn_of" "is_turn_of" sTurnOf f fd) (Z : Free mg) (mT : mg "tuple" = none) (DS : Def K mg "is_state_of" sStateOf ["value", "states"] fS dS) (DI : Def K mg "is_integer" sIsInt ["value"] fI dI) : FnOk P w K mg base CX0 2 f fd ["value", "states"] spTurnA :=
  (Wb.FnOk.either (ok_turnS F Z mT DS DI) (ok_turnO F Z mT)).imp fun vs H Q E h => by
    obtain ⟨v, t, st, rfl, top, ht, k⟩ := h
    cases top with
    | one ho =>
      rw [tnK_one ho] at k
      exact .inr ⟨v, t, rfl, ho, k⟩
    | tup hR l r =>
      rw [tnK_tup hR, tnL_some] at k
      exact .inl ⟨_, t, _, st, rfl, hR, r, ht, k⟩
end
end Lg
/-! check_turns of values of any sort, good or refused -/
namespace Lg
open PySem L2 PySem.Spec PyProof.Rows WbMin WbS Lz Wb Le
theorem take_succ_map {α β : Type} {l : List α} {i : Nat} {x : α} (f : α → β) (h : l[i]? = some x) : (l.take (i + 1)).map f = (l.take i).map f ++ [f x] := by
  rw [List.take_add_one, h, List.map_append] <;> rfl
section
variable {P : Program} {w : World} {K : PySem.W.Frag} {mg : Str → Option Value} {base : Heap} {f fN fF fR fI cS cT fT : Addr} {fd dN dF dR dI dT : FuncData} {fS : Addr} {dS : FuncData} {fE : Addr} {dE : FuncData}
set_option maxHeartbeats 2000000 in
theorem ok_chtuA (F : Fun K "check_turns" "check_turns" sChTu f fd) (Z : Free mg) (mT : mg "tuple" = none) (mE : mg "enumerate" = none) (mZ : mg "zip" = none) (DR : Def K mg "is_turn_of" sTurnOf ["value", "states"] fR dR) (DS : Def K mg "is_state_of" sStateOf ["value", "states"] fS dS) (DI : Def K mg "is_integer" sIsInt ["value"] fI dI) (DF : Def K mg "first_wrong" sFirst ["values", "right"] fF dF)
    (ES : ErrF K mg "InvalidTurns" "index" "InvalidTurns.__init__" sErrInvalidTurns cT fT dT) : FnOk P w K mg base (L2N.CX P w) 3 f fd ["turns", "states"] (spChTuA cT) := by
  have GR : FnOk P w K mg base CX0 2 fR dR ["value", "states"] spTurnA := ok_turnA DR.F Z mT DS DI
  have GF : FnOk P w K mg base CX0 1 fF dF ["values", "right"] spFirstAL := ok_firstAL DF.F mE
  have GE : FnOk P w K mg base CX0 1 fT dT ["self", "index"] (spErr cT "index") := ok_errT ES
  refine okN F scCT (fun vs H Q E h => by obtain ⟨x, t, st, rfl, _⟩ := h; rfl) (fun cdv A outer s H vs Q E hr h => ?_)
  obtain ⟨x, t, st, rfl, wh, ht, k⟩ := h
  have hr1 : Room 1 _ := hr.mono (by decide)
  refine ⟨_, pss_cons (ps_if (pt_not (pt_val (pe_callB call_isi (by rfl) Z.isi (by decide +kernel) (pa_cons (pv 0) (pa_cons (pe_bltn (v := .ty "tuple") (u := .type "tuple") (by rfl) mT (by decide +kernel) rfl) pa_nil))))) (pss_one (ps_badV ES GE hr rfl (L2N.takes_of rfl rfl rfl rfl) rfl pe_non rfl)) pss_nil)
    (pss_cons (ps_setLc (i := 2) (own := [("turn", 4)]) (g := gName 4) (tt := tYes) rfl scCT.nd rfl rfl (sw_true rfl rfl rfl (by decide +kernel)) (pi_tup (pv 0)) (blkOk_by (N := NCT) (sc := defScope sChTu) (by decide +kernel)) (fun _ _ _ _ _ => pg_name (i := 4) scCT.nd rfl (.inl rfl)) (fun _ _ _ _ _ => pts_nil)
          (fun _ _ _ _ _ => pe_call GR hr rfl DR.g DR.kp DR.b .nil pass0 (pa_cons (pv 4) (pa_cons (pv 1) pa_nil))))
    (pss_cons (ps_set (i := 3) scCT.nd rfl (.inl rfl) (pe_call GF hr1 rfl DF.g DF.kp DF.b .nil pass0 (pa_cons
        (pe_lc (own := [("turn", 4), ("fine", 5)]) (g := gTup K 2 (gCons (gName 4) (gCons (gName 5) gNil))) (tt := tYes) rfl scCT.nd (pi_zipM (by rfl) mZ (pa_cons (pv 0) (pa_cons (pv 2) pa_nil))) (blkOk_by (N := NCT) (sc := defScope sChTu) (by decide +kernel)) (fun _ _ _ _ _ => pg_tup (by rfl) (pgs_cons (pg_name (i := 4) scCT.nd rfl (.inl rfl)) (pgs_cons (pg_name (i := 5) scCT.nd rfl (.inl rfl)) pgs_nil))) (fun _ _ _ _ _ => pts_nil)
          (fun _ _ _ _ _ => pe_ifExp (pt_val (pv 5)) (pe_ix (show IxR _ (rIxT K) from ix_tup) (pv 4) pe_int (fun _ _ => rfl)) pe_non)) (pa_cons (pv 2) pa_nil))))
    (pss_one (ps_if (pt_cmpR op_notN (pv 3) pe_non (nomark _)) (pss_one (ps_bad ES GE hr rfl (L2N.takes_of rfl rfl rfl rfl) rfl (pv 3))) pss_nil)))), ?_⟩
  cases wh with
  | one ho =>
    rw [tuW_one ho] at k
    obtain ⟨ty, h1, h2⟩ := odd1_tup K ho
    exact ⟨_, rfl, _, _, ty, .type "tuple", false, rfl, .ty "tuple", h1, h2, false, rfl, fun dx n => k dx H (Same.refl H) n⟩
  | @tup y xs hy few r =>
    rw [tuW_tup hy] at k
    refine ⟨_, rfl, _, _, .type "tuple", .type "tuple", true, rfl, .ty "tuple", .base (.tup hy), kit_ty (by decide +kernel), true, rfl, ?_⟩
    have tk : ∀ i, ((xs.take i).map fun v => (tnK H st v).isSome) = ((xs.map (tnK H st)).map Option.isSome).take i := fun i => by rw [List.map_map, List.map_take] <;> rfl
    refine ⟨_, rfl, y, rfl, ⟨_, SqT.of hy⟩, fun D hD => lc_it (walk_tup (xs := xs)) (fun i H3 => H3 D = some (.lst (((xs.take i).map fun v => (tnK H st v).isSome).map V.bl)) ∧ Same H H3) ⟨upd_same, Same.put (Same.refl H) hD⟩ (fun _ _ _ h => SqT.of (h.2 _ _ hy)) ?_ ?_⟩
    · rintro i x H3 H3' hi ⟨h1, h2⟩ ⟨rfl, hx⟩
      have tx := r x (List.mem_of_getElem? hx)
      refine ⟨rfl, _, rfl, _, rfl, x, t, st, rfl, tx.same h2, h2 _ _ ht, _, h1, ?_, ?_, Same.new' h2 hD⟩
      · rw [List.length_map, List.length_map, List.length_take, sizeLine_eq]
        omega
      · rw [upd_same, tnK_same tx h2, take_succ_map _ hx, List.map_append] <;> rfl
    · rintro H3 ⟨h1, h2⟩
      rw [List.take_length] at h1
      have hy3 := h2 _ _ hy
      have hD3 : H3 D = some (.lst (flV (xs.map (tnK H st)))) := by
        rw [h1]
        unfold flV
        rw [List.map_map, List.map_map, List.map_map] <;> rfl
      refine ⟨_, rfl, _, rfl, y, D, _, _, rfl, SqT.of hy3, SqL.of hD3, fun D2 hD2 => lc_it (walk_zipM (n := xs.length) (xs := xs) (ys := flV (xs.map (tnK H st))) (by unfold flV; rw [List.length_map, List.length_map, List.length_map]; omega)) (fun i H4 => H4 D2 = some (.lst (((xs.take i).map (tnK H st)).map kV)) ∧ Same H3 H4) ⟨upd_same, Same.put (Same.refl H3) hD2⟩ (fun _ _ _ h => ⟨SqT.of (h.2 _ _ hy3), SqL.of (h.2 _ _ hD3)⟩) ?_ ?_⟩
      · rintro i x H4 H5 hi ⟨g1, g2⟩ ⟨T, a, b, rfl, nT, rfl, ea, eb⟩
        dsimp only at ea eb
        have tx := r a (List.mem_of_getElem? ea)
        have ek : (xs.map (tnK H st))[i]? = some (tnK H st a) := by rw [List.getElem?_map, ea] <;> rfl
        rw [flV_at ek] at eb
        cases eb
        have sT := Same.put (o := .tup [a, .bl (tnK H st a).isSome]) g2 nT
        have nDT : D2 ≠ T := ne_of_none g1 nT
        refine ⟨T, _, rfl, SqT.of upd_same, rfl, _, _, rfl, _, _, rfl, rfl, ?_⟩
        have fin : ∀ v : V, v = kV (tnK H st a) → ∃ acc : List V, (L2.upd H4 T (.tup [a, .bl (tnK H st a).isSome])) D2 = some (.lst acc) ∧ acc.length < sizeLine ∧ (L2.upd (L2.upd H4 T (.tup [a, .bl (tnK H st a).isSome])) D2 (.lst (acc ++ [v]))) D2 = some (.lst (((xs.take (i + 1)).map (tnK H st)).map kV)) ∧ Same H3 (L2.upd (L2.upd H4 T (.tup [a, .bl (tnK H st a).isSome])) D2 (.lst (acc ++ [v]))) := fun v ev => by
          refine ⟨_, (upd_ne nDT).trans g1, ?_, ?_, Same.new' sT hD2⟩
          · rw [List.length_map, List.length_map, List.length_take, sizeLine_eq]
            omega
          · rw [upd_same, take_succ_map _ ea, List.map_append, ev] <;> rfl
        cases ekk : tnK H st a with
        | none =>
          rw [ekk] at fin
          exact ⟨rfl, _, rfl, false, rfl, fin _ rfl⟩
        | some z =>
          rw [ekk] at fin sT
          cases tx with
          | one ho =>
            rw [tnK_one ho] at ekk
            cases ekk
          | tup hR _ _ =>
            rw [tnK_tup hR] at ekk
            obtain ⟨b, c, rfl, _⟩ := tnL_eq ekk
            exact ⟨rfl, _, rfl, true, rfl, _, rfl, _, _, _, _, rfl, rfl, SqT.of ((h2.trans sT) _ _ hR), atI_nat (j := 0) rfl, fin _ rfl⟩
      · rintro H4 ⟨g1, g2⟩
        rw [List.take_length] at g1
        refine ⟨_, rfl, D2, D, _, xs.map (tnK H st), rfl, g1, kV_keys _, g2 _ _ hD3, fun H5 s5 => ?_⟩
        have s05 := (h2.trans g2).trans s5
        cases e : fwO (xs.map (tnK H st)) with
        | some i =>
          rw [e] at k
          refine ⟨_, rfl, rfl, _, rfl, iteT ?_⟩
          exact ⟨_, rfl, fun dx n => k dx H5 s05 n⟩
        | none =>
          rw [e] at k
          exact ⟨_, rfl, rfl, _, rfl, iteF (k H5 s05)⟩
end
end Lg
/-! check_rows of values of any sort, good or refused -/
namespace Lg
open PySem L2 PySem.Spec PyProof.Rows WbMin WbS Lz Wb Le
/-- state and sign of a row -/
def rwL (sg : List Nat) (st : List Str) : List V → Option (Str × Str)
  | .str a :: .str c :: ys => if rowB sg st (.str a :: .str c :: ys) = true then some (a, c) else none
  | _ => none
theorem rowB_two {sg : List Nat} {st : List Str} {ys : List V} (h : rowB sg st ys = true) : ∃ a c x y, ys = [.str a, .str (S [c]), x, y] ∧ a ∈ st ∧ c ∈ sg := by
  unfold rowB at h
  split at h
  · rename_i a b x y
    rw [Bool.and_eq_true, Bool.and_eq_true] at h
    obtain ⟨⟨h1, h2⟩, _⟩ := h
    cases a with
    | str a =>
      cases b with
      | str b =>
        have h2' : sgL sg b.cps.toList = true := h2
        unfold sgL at h2'
        split at h2'
        · rename_i c e
          exact ⟨a, c, x, y, by rw [S_eq e], of_decide_eq_true h1, of_decide_eq_true h2'⟩
        · cases h2'
      | _ => cases h2
    | _ => cases h1
  · cases h
theorem rwL_some {sg : List Nat} {st : List Str} (ys : List V) : (rwL sg st ys).isSome = rowB sg st ys := by
  cases e : rowB sg st ys with
  | true =>
    obtain ⟨a, c, x, y, rfl, _⟩ := rowB_two e
    show (if rowB sg st [.str a, .str (S [c]), x, y] = true then some (a, S [c]) else none).isSome = true
    rw [if_pos e] <;> rfl
  | false =>
    unfold rwL
    split
    · rw [if_neg (by rw [e]; exact Bool.false_ne_true)] <;> rfl
    · rfl
theorem rwL_eq {sg : List Nat} {st : List Str} {ys : List V} {p : Str × Str} (h : rwL sg st ys = some p) : ∃ a c x y, ys = [.str a, .str (S [c]), x, y] ∧ p = (a, S [c]) ∧ a ∈ st ∧ c ∈ sg := by
  have q : rowB sg st ys = true := by rw [← rwL_some, h] <;> rfl
  obtain ⟨a, c, x, y, rfl, ha, hc⟩ := rowB_two q
  have h' : (if rowB sg st [.str a, .str (S [c]), x, y] = true then some (a, S [c]) else none) = some p := h
  rw [if_pos q] at h'
  cases h'
  exact ⟨a, c, x, y, rfl, rfl, ha, hc⟩
def rwO (sg : List Nat) (st : List Str) : Option HO → Option (Str × Str)
  | some (.tup ys) => rwL sg st ys
  | _ => none
def rwK (H : Hp) (sg : List Nat) (st : List Str) : V → Option (Str × Str)
  | .ref a => rwO sg st (H a)
  | _ => none
section
variable {H H' : Hp} {sg : List Nat} {st : List Str} {v : V}
theorem rwK_one (h : Odd1 H v) : rwK H sg st v = none := by
  cases h with
  | lst h =>
    show rwO sg st (H _) = _
    rw [h] <;> rfl
  | dK h =>
    show rwO sg st (H _) = _
    rw [h] <;> rfl
  | _ => rfl
theorem rwK_tup {a : Addr} {ys : List V} (h : H a = some (.tup ys)) : rwK H sg st (.ref a) = rwL sg st ys := by
  show rwO sg st (H a) = _
  rw [h] <;> rfl
theorem rwK_same (h : TopS H v) (s : Same H H') : rwK H' sg st v = rwK H sg st v := by
  cases h with
  | one h => rw [rwK_one h, rwK_one (h.same s)]
  | tup h l r => rw [rwK_tup h, rwK_tup (s _ _ h)]
end
theorem KeyP.upd {H : Hp} {l : List (Option (Str × Str))} {xs ys : List V} {D : Addr} {o : HO} (h : KeyP H l xs) (hD : H D = some (.lst ys)) : KeyP (L2.upd H D o) l xs := ⟨h.1, fun i p e => by
  obtain ⟨q, a, h1, h2⟩ := h.2 i p e
  refine ⟨q, a, h1, (upd_ne fun z => ?_).trans h2⟩
  subst z
  rw [hD] at h2
  cases h2⟩
theorem KeyP.snoc {H : Hp} {l : List (Option (Str × Str))} {xs : List V} {o : Option (Str × Str)} {x : V} (h : KeyP H l xs) (n : ∀ p, o = some p → okP p ∧ ∃ a, x = .ref a ∧ H a = some (.tup (pV p))) : KeyP H (l ++ [o]) (xs ++ [x]) := by
  refine ⟨by rw [List.length_append, List.length_append, h.1] <;> rfl, fun i p e => ?_⟩
  by_cases hi : i < l.length
  · rw [List.getElem?_append_left hi] at e
    rw [List.getElem?_append_left (by rw [← h.1]; exact hi)]
    exact h.2 i p e
  · rw [List.getElem?_append_right (by omega)] at e
    rw [List.getElem?_append_right (by rw [← h.1]; omega), ← h.1]
    cases ei : i - l.length with
    | zero =>
      rw [ei] at e
      have e' : o = some p := by simpa using e
      obtain ⟨q, a, h1, h2⟩ := n p e'
      exact ⟨q, a, by rw [h1] <;> rfl, h2⟩
    | succ j =>
      rw [ei] at e
      simp at e
/-- what is wrong of rows -/
def rwR (H : Hp) (sg : List Nat) (st : List Str) (xs : List V) : Option V := match fwO (xs.map (rwK H sg st)) with
  | some i => some (.int (i : Nat))
  | none => if xs.length < sg.length * st.length then some .non else none
def roO (H : Hp) (sg : List Nat) (st : List Str) : Option HO → Option V
  | some (.tup xs) => rwR H sg st xs
  | _ => some .non
def roW (H : Hp) (sg : List Nat) (st : List Str) : V → Option V
  | .ref a => roO H sg st (H a)
  | _ => some .non
theorem roW_one {H : Hp} {sg : List Nat} {st : List Str} {v : V} (h : Odd1 H v) : roW H sg st v = some .non := by
  cases h with
  | lst h =>
    show roO H sg st (H _) = _
    rw [h] <;> rfl
  | dK h =>
    show roO H sg st (H _) = _
    rw [h] <;> rfl
  | _ => rfl
theorem roW_tup {H : Hp} {sg : List Nat} {st : List Str} {a : Addr} {xs : List V} (h : H a = some (.tup xs)) : roW H sg st (.ref a) = rwR H sg st xs := by
  show roO H sg st (H a) = _
  rw [h] <;> rfl
/-- texts as they may be data -/
def OkT (sg : List Nat) (st : List Str) : Prop := (∀ z ∈ st, PyData.strOk z = true) ∧ (∀ c ∈ sg, PyData.strOk (S [c]) = true) ∧ sg.length ≤ 4 ∧ st.length ≤ 6
def spChRoA (C : Addr) : Sp := fun vs H Q E => ∃ (x : V) (t : Addr) (sg : List Nat) (st : List Str), vs = [x, .str (S sg), .ref t] ∧ Wh H x ∧ H t = some (.tup (st.map V.str)) ∧ OkT sg st ∧ Outc Q E C "index" H (roW H sg st x)
def spRowA : Sp := fun vs H Q _ => ∃ (v : V) (t : Addr) (sg : List Nat) (st : List Str), vs = [v, .str (S sg), .ref t] ∧ TopS H v ∧ H t = some (.tup (st.map V.str)) ∧ Q (.bl (rwK H sg st v).isSome) H
def spRowO : Sp := fun vs H Q _ => ∃ (v u : V) (t : Addr), vs = [v, u, .ref t] ∧ Odd1 H v ∧ Q (.bl false) H
abbrev sErrInvalidRows : Stmt := inClass (top 23) 0
section
variable {P : Program} {w : World} {K : PySem.W.Frag} {mg : Str → Option Value} {base : Heap} {f fN fF fR fI fO cR fT : Addr} {fd dN dF dR dI dO dT : FuncData} {fS : Addr} {dS : FuncData}
theorem scErrRo : FnScope ["self", "index"] ["self", "index"] (defScope sErrInvalidRows) := ⟨rfl, rfl, rfl, by decide +kernel, rfl, by decide +kernel, by decide +kernel⟩
theorem ok_errRo (E : ErrF K mg "InvalidRows" "index" "InvalidRows.__init__" sErrInvalidRows cR fT dT) : FnOk P w K mg base CX0 1 fT dT ["self", "index"] (spErr cR "index") := by
  refine E.F.ok scErrRo (fun vs H Q E h => by obtain ⟨a, y, rfl, _⟩ := h; rfl) (fun cdv A outer s H vs Q E' hr h => ?_)
  obtain ⟨a, y, rfl, ha, k⟩ := h
  exact ⟨_, pss_one (ps_ost (pv 0) (pv 1)), _, rfl, _, rfl, a, cR, rfl, E.o, E.no, .inl ⟨ha, k⟩⟩
set_option maxHeartbeats 1000000 in
theorem ok_rowO (F : Fun K "is_row_of" "is_row_of" sRowOf f fd) (Z : Free mg) (mT : mg "tuple" = none) : FnOk P w K mg base CX0 2 f fd ["value", "signs", "states"] spRowO := by
  refine F.ok scRo (fun vs H Q E h => by obtain ⟨v, u, t, rfl, _⟩ := h; rfl) (fun cdv A outer s H vs Q E hr h => ?_)
  obtain ⟨v, u, t, rfl, ho, k⟩ := h
  refine ⟨_, pss_cons (ps_if (PW.pt (pw_or (pt_not (pt_val (pe_callB call_isi (by rfl) Z.isi (by decide +kernel) (pa_cons (pv 0) (pa_cons (pe_bltn (v := .ty "tuple") (u := .type "tuple") (by rfl) mT (by decide +kernel) rfl) pa_nil)))))
      (pw_or1 (pt_cmpR op_ne (pe_callB call_len_seq (by rfl) Z.len PySem.boot_len (pa_cons (pv 0) pa_nil)) pe_int (nomark _))))) (pss_one (ps_ret pe_bl)) pss_nil) pss_never, ?_⟩
  obtain ⟨ty, h1, h2⟩ := odd1_tup K ho
  exact ⟨_, rfl, _, _, ty, .type "tuple", false, rfl, .ty "tuple", h1, h2, false, rfl, k⟩
theorem ok_rowA (F : Fun K "is_row_of" "is_row_of" sRowOf f fd) (Z : Free mg) (mT : mg "tuple" = none) (DS : Def K mg "is_state_of" sStateOf ["value", "states"] fS dS) (DO : Def K mg "is_sign_of" sSignOf ["value", "signs"] fO dO) (DI : Def K mg "is_integer" sIsInt ["value"] fI dI) : FnOk P w K mg base CX0 2 f fd ["value", "signs", "states"] spRowA :=
  (Wb.FnOk.either (ok_rowS F Z mT DS DO DI) (ok_rowO F Z mT)).imp fun vs H Q E h => by
    obtain ⟨v, t, sg, st, rfl, top, ht, k⟩ := h
    cases top with
    | one ho =>
      rw [rwK_one ho] at k
      exact .inr ⟨v, _, t, rfl, ho, k⟩
    | tup hR l r =>
      rw [rwK_tup hR, rwL_some] at k
      exact .inl ⟨_, t, _, sg, st, rfl, hR, r, ht, k⟩
set_option maxHeartbeats 2000000 in
theorem ok_chroA (F : Fun K "check_rows" "check_rows" sChRo f fd) (Z : Free mg) (mT : mg "tuple" = none) (mE : mg "enumerate" = none) (mZ : mg "zip" = none) (DR : Def K mg "is_row_of" sRowOf ["value", "signs", "states"] fR dR) (DS : Def K mg "is_state_of" sStateOf ["value", "states"] fS dS) (DO : Def K mg "is_sign_of" sSignOf ["value", "signs"] fO dO) (DI : Def K mg "is_integer" sIsInt ["value"] fI dI) (DF : Def K mg "first_wrong" sFirst ["values", "right"] fF dF)
    (ES : ErrF K mg "InvalidRows" "index" "InvalidRows.__init__" sErrInvalidRows cR fT dT) : FnOk P w K mg base (L2N.CX P w) 3 f fd ["rows", "signs", "states"] (spChRoA cR) := by
  have GR : FnOk P w K mg base CX0 2 fR dR ["value", "signs", "states"] spRowA := ok_rowA DR.F Z mT DS DO DI
  have GF : FnOk P w K mg base CX0 1 fF dF ["values", "right"] spFirstAP := ok_firstAP DF.F mE
  have GE : FnOk P w K mg base CX0 1 fT dT ["self", "index"] (spErr cR "index") := ok_errRo ES
  refine okN F scCR (fun vs H Q E h => by obtain ⟨x, t, sg, st, rfl, _⟩ := h; rfl) (fun cdv A outer s H vs Q E hr h => ?_)
  obtain ⟨x, t, sg, st, rfl, wh, ht, okT, k⟩ := h
  have hr1 : Room 1 _ := hr.mono (by decide)
  refine ⟨_, pss_cons (ps_if (pt_not (pt_val (pe_callB call_isi (by rfl) Z.isi (by decide +kernel) (pa_cons (pv 0) (pa_cons (pe_bltn (v := .ty "tuple") (u := .type "tuple") (by rfl) mT (by decide +kernel) rfl) pa_nil))))) (pss_one (ps_badV ES GE hr rfl (L2N.takes_of rfl rfl rfl rfl) rfl pe_non rfl)) pss_nil)
    (pss_cons (ps_setLc (i := 3) (own := [("row", 5)]) (g := gName 5) (tt := tYes) rfl scCR.nd rfl rfl (sw_true rfl rfl rfl (by decide +kernel)) (pi_tup (pv 0)) (blkOk_by (N := NCR) (sc := defScope sChRo) (by decide +kernel)) (fun _ _ _ _ _ => pg_name (i := 5) scCR.nd rfl (.inl rfl)) (fun _ _ _ _ _ => pts_nil)
          (fun _ _ _ _ _ => pe_call GR hr rfl DR.g DR.kp DR.b .nil pass0 (pa_cons (pv 5) (pa_cons (pv 1) (pa_cons (pv 2) pa_nil)))))
    (pss_cons (ps_set (i := 4) scCR.nd rfl (.inl rfl) (pe_call GF hr1 rfl DF.g DF.kp DF.b .nil pass0 (pa_cons
        (pe_lc (own := [("row", 5), ("fine", 6)]) (g := gTup K 2 (gCons (gName 5) (gCons (gName 6) gNil))) (tt := tYes) rfl scCR.nd (pi_zipM (by rfl) mZ (pa_cons (pv 0) (pa_cons (pv 3) pa_nil))) (blkOk_by (N := NCR) (sc := defScope sChRo) (by decide +kernel)) (fun _ _ _ _ _ => pg_tup (by rfl) (pgs_cons (pg_name (i := 5) scCR.nd rfl (.inl rfl)) (pgs_cons (pg_name (i := 6) scCR.nd rfl (.inl rfl)) pgs_nil))) (fun _ _ _ _ _ => pts_nil)
          (fun _ _ _ _ _ => pe_ifExp (pt_val (pv 6)) (pe_slice (show SlR _ (rSlT K) from sl_tup) (pv 5) po_none (po_some pe_int)) pe_non)) (pa_cons (pv 3) pa_nil))))
    (pss_cons (ps_if (pt_cmpR op_notN (pv 4) pe_non (nomark _)) (pss_one (ps_bad ES GE hr rfl (L2N.takes_of rfl rfl rfl rfl) rfl (pv 4))) pss_nil)
    (pss_one (ps_if (pt_cmpR op_lt (pe_callB call_len_seq (by rfl) Z.len PySem.boot_len (pa_cons (pv 0) pa_nil)) (pe_op op_mul (pe_callB call_len_str (by rfl) Z.len PySem.boot_len (pa_cons (pv 1) pa_nil)) (pe_callB call_len_seq (by rfl) Z.len PySem.boot_len (pa_cons (pv 2) pa_nil))) (nomark _)) (pss_one (ps_badV ES GE hr rfl (L2N.takes_of rfl rfl rfl rfl) rfl pe_non rfl)) pss_nil))))), ?_⟩
  cases wh with
  | one ho =>
    rw [roW_one ho] at k
    obtain ⟨ty, h1, h2⟩ := odd1_tup K ho
    exact ⟨_, rfl, _, _, ty, .type "tuple", false, rfl, .ty "tuple", h1, h2, false, rfl, fun dx n => k dx H (Same.refl H) n⟩
  | @tup y xs hy few r =>
    rw [roW_tup hy] at k
    unfold rwR at k
    refine ⟨_, rfl, _, _, .type "tuple", .type "tuple", true, rfl, .ty "tuple", .base (.tup hy), kit_ty (by decide +kernel), true, rfl, ?_⟩
    refine ⟨_, rfl, y, rfl, ⟨_, SqT.of hy⟩, fun D hD => lc_it (walk_tup (xs := xs)) (fun i H3 => H3 D = some (.lst (((xs.take i).map fun v => (rwK H sg st v).isSome).map V.bl)) ∧ Same H H3) ⟨upd_same, Same.put (Same.refl H) hD⟩ (fun _ _ _ h => SqT.of (h.2 _ _ hy)) ?_ ?_⟩
    · rintro i x H3 H3' hi ⟨h1, h2⟩ ⟨rfl, hx⟩
      have tx := r x (List.mem_of_getElem? hx)
      refine ⟨rfl, _, rfl, _, rfl, _, rfl, x, t, sg, st, rfl, tx.same h2, h2 _ _ ht, _, h1, ?_, ?_, Same.new' h2 hD⟩
      · rw [List.length_map, List.length_map, List.length_take, sizeLine_eq]
        omega
      · rw [upd_same, rwK_same tx h2, take_succ_map _ hx, List.map_append] <;> rfl
    · rintro H3 ⟨h1, h2⟩
      rw [List.take_length] at h1
      have hy3 := h2 _ _ hy
      have hD3 : H3 D = some (.lst (flV (xs.map (rwK H sg st)))) := by
        rw [h1]
        unfold flV
        rw [List.map_map, List.map_map, List.map_map] <;> rfl
      refine ⟨_, rfl, _, rfl, y, D, _, _, rfl, SqT.of hy3, SqL.of hD3, fun D2 hD2 => lc_it (walk_zipM (n := xs.length) (xs := xs) (ys := flV (xs.map (rwK H sg st))) (by unfold flV; rw [List.length_map, List.length_map, List.length_map]; omega)) (fun i H4 => ∃ ws : List V, H4 D2 = some (.lst ws) ∧ KeyP H4 ((xs.take i).map (rwK H sg st)) ws ∧ Same H3 H4) ⟨[], upd_same, ⟨rfl, fun i p e => by simp at e⟩, Same.put (Same.refl H3) hD2⟩ (fun _ _ _ h => by obtain ⟨_, _, _, h⟩ := h; exact ⟨SqT.of (h _ _ hy3), SqL.of (h _ _ hD3)⟩) ?_ ?_⟩
      · rintro i x H4 H5 hi ⟨ws, g1, g3, g2⟩ ⟨T, a, b, rfl, nT, rfl, ea, eb⟩
        dsimp only at ea eb
        have tx := r a (List.mem_of_getElem? ea)
        have ek : (xs.map (rwK H sg st))[i]? = some (rwK H sg st a) := by rw [List.getElem?_map, ea] <;> rfl
        rw [flV_at ek] at eb
        cases eb
        have lw : ws.length = i := by rw [← g3.1, List.length_map, List.length_take]; omega
        have s0 := Same.put (o := .tup [a, .bl (rwK H sg st a).isSome]) (Same.refl H4) nT
        refine ⟨T, _, rfl, SqT.of upd_same, rfl, _, _, rfl, _, _, rfl, rfl, ?_⟩
        have fin : ∀ (H6 : Hp) (v : V), Same H4 H6 → (∀ p, rwK H sg st a = some p → okP p ∧ ∃ c, v = .ref c ∧ H6 c = some (.tup (pV p))) → ∃ acc : List V, H6 D2 = some (.lst acc) ∧ acc.length < sizeLine ∧ ∃ ws' : List V, (L2.upd H6 D2 (.lst (acc ++ [v]))) D2 = some (.lst ws') ∧ KeyP (L2.upd H6 D2 (.lst (acc ++ [v]))) ((xs.take (i + 1)).map (rwK H sg st)) ws' ∧ Same H3 (L2.upd H6 D2 (.lst (acc ++ [v]))) := fun H6 v s6 hv => by
          have g6 := s6 _ _ g1
          refine ⟨ws, g6, ?_, ws ++ [v], upd_same, ?_, Same.new' (g2.trans s6) hD2⟩
          · rw [sizeLine_eq]
            omega
          · rw [take_succ_map _ ea]
            exact Lg.KeyP.upd (Lg.KeyP.snoc (g3.same s6) hv) g6
        cases ekk : rwK H sg st a with
        | none =>
          rw [ekk] at fin s0
          exact ⟨rfl, _, rfl, false, rfl, fin _ _ s0 fun p e => nomatch e⟩
        | some p =>
          rw [ekk] at fin s0
          cases tx with
          | one ho =>
            rw [rwK_one ho] at ekk
            cases ekk
          | tup hR _ _ =>
            rw [rwK_tup hR] at ekk
            obtain ⟨a, c, b, m, rfl, rfl, ma, mc⟩ := rwL_eq ekk
            refine ⟨rfl, _, rfl, true, rfl, _, rfl, _, rfl, _, _, rfl, SqT.of (((h2.trans g2).trans s0) _ _ hR), fun q => absurd (show HT.sIx 4 4 (some 2) = 4 from q.2) (by decide), fun u hu => ?_⟩
            refine fin _ _ (Same.put (o := .tup (cutV [.str a, .str (S [c]), b, m] none (some 2))) s0 hu) fun p e => ?_
            cases e
            exact ⟨⟨okT.1 a ma, okT.2.1 c mc⟩, u, rfl, upd_same⟩
      · rintro H4 ⟨ws, g1, g3, g2⟩
        rw [List.take_length] at g3
        refine ⟨_, rfl, D2, D, ws, xs.map (rwK H sg st), rfl, g1, g3, g2 _ _ hD3, fun H5 s5 => ?_⟩
        have s05 := (h2.trans g2).trans s5
        cases e : fwO (xs.map (rwK H sg st)) with
        | some i =>
          rw [e] at k
          refine ⟨_, rfl, rfl, _, rfl, iteT ?_⟩
          exact ⟨_, rfl, fun dx n => k dx H5 s05 n⟩
        | none =>
          rw [e] at k
          have k : Outc Q E cR "index" H (if xs.length < sg.length * st.length then some .non else none) := k
          obtain ⟨_, _, f4, f6⟩ := okT
          have fitS : (S sg).length ≤ sizeLine := by rw [S_len, sizeLine_eq]; omega
          refine ⟨_, rfl, rfl, _, rfl, iteF ⟨_, rfl, y, _, rfl, .inr (SqT.of (s05 _ _ hy)), _, rfl, _, rfl, fitS, _, rfl, t, _, rfl, .inr (SqT.of (s05 _ _ ht)), _, _, rfl, rfl, .inl ?_, _, _, rfl, rfl, _, rfl, ?_⟩⟩
          · rw [S_len]
            omega
          · rw [S_len, List.length_map]
            by_cases hc : xs.length < sg.length * st.length
            · rw [if_pos hc] at k
              refine ifd (by exact_mod_cast hc) ?_
              exact fun dx n => k dx H5 s05 n
            · rw [if_neg hc] at k
              exact ifn (by exact_mod_cast hc) (k H5 s05)
end
end Lg
/-! is_signs of values of any sort; _law_bad_signs -/
namespace Wb
open PySem L2 WbMin WbS Lz
theorem nd_of : ∀ (n : Nat) (xs : List Str), xs.length = n → (WbSet.differ xs).length = n → xs.Nodup
  | 0, xs, h, _ => by
    rw [List.eq_nil_of_length_eq_zero h]
    exact List.nodup_nil
  | n + 1, xs, h, hd => by
    have ne : xs ≠ [] := fun z => by rw [z] at h; cases h
    have e := List.dropLast_concat_getLast ne
    have ld : xs.dropLast.length = n := by rw [List.length_dropLast, h] <;> rfl
    have ed : WbSet.differ xs = WbSet.addNew (WbSet.differ xs.dropLast) (xs.getLast ne) := by rw [← WbSet.differ_more, e]
    rw [ed, WbSet.addNew_len] at hd
    have le := WbSet.differ_le xs.dropLast
    by_cases m : xs.getLast ne ∈ WbSet.differ xs.dropLast
    · rw [if_pos m] at hd
      omega
    · rw [if_neg m] at hd
      have nd := nd_of n xs.dropLast ld (by omega)
      rw [differ_mem] at m
      rw [← e, List.nodup_append]
      refine ⟨nd, List.nodup_cons.mpr ⟨List.not_mem_nil, List.nodup_nil⟩, ?_⟩
      rintro x hx y hy rfl
      rw [List.mem_singleton] at hy
      subst hy
      exact m hx
theorem signs_nd {l : List Nat} : (WbSet.signs (S l)).Nodup ↔ l.Nodup := by
  unfold WbSet.signs
  rw [S_cps]
  constructor
  · intro h
    have h' := List.pairwise_map.mp h
    exact h'.imp fun n e => n (by rw [e])
  · exact fun nd => List.Pairwise.map _ (fun a b h q => h (by injection q with q; injection q with q; injection q)) nd
theorem differ_len {l : List Nat} : (WbSet.differ (WbSet.signs (S l))).length = l.length ↔ l.Nodup := by
  have ln : (WbSet.signs (S l)).length = l.length := by
    unfold WbSet.signs
    rw [List.length_map, S_cps]
  constructor
  · intro h
    exact signs_nd.mp (nd_of _ _ ln h)
  · intro nd
    rw [← ln]
    exact same_count (differ_nodup _) (signs_nd.mpr nd) fun x => differ_mem x _
def sgnB (l : List Nat) : Bool := isWB l && decide (l.length ≤ 4) && decide l.Nodup
theorem sgnB_iff {l : List Nat} : sgnB l = true ↔ Sgs l := by
  unfold sgnB
  rw [Bool.and_eq_true, Bool.and_eq_true, isWB_iff, decide_eq_true_iff, decide_eq_true_iff]
  constructor
  · rintro ⟨⟨h, a⟩, b⟩
    exact ⟨h.low, b, h.pos, a⟩
  · rintro h
    exact ⟨⟨h.w, h.few⟩, h.nd⟩
/-- the signs of a loop or a kind -/
def signsB : V → Bool
  | .str z => sgnB z.cps.toList
  | _ => false
theorem signsB_S {l : List Nat} : signsB (.str (S l)) = sgnB l := congrArg sgnB (S_cps l)
theorem signsB_word {H : Hp} {p : Addr} {x : V} {d : PyData} (h : Any p H x d) (n : wordB x = false) : signsB x = false := by
  rcases h.sort with ⟨l, rfl, _⟩ | ⟨i, rfl⟩ | m
  · rw [wordB_S] at n
    rw [signsB_S]
    unfold sgnB
    rw [n] <;> rfl
  · rfl
  · cases m <;> rfl
abbrev sBadSigns : Stmt := top 70
def spIsSignsA : Sp := fun vs H Q _ => ∃ (p : Addr) (x : V) (d : PyData), vs = [x] ∧ Any p H x d ∧ ∀ H', Same H H' → Q (.bl (signsB x)) H'
def spBadSigns : Sp := fun vs H Q _ => ∃ (p : Addr) (x : V) (d : PyData), vs = [x] ∧ Any p H x d ∧ ∀ H', Same H H' → Q (.bl (!signsB x)) H'
def alpha : List Nat := (List.range 26).map (· + 97)
theorem alpha_is : ("abcdefghijklmnopqrstuvwxyz" : Str) = S alpha := by decide +kernel
theorem alpha_mem {c : Nat} : c ∈ alpha ↔ 97 ≤ c ∧ c ≤ 122 := by
  unfold alpha
  rw [List.mem_map]
  constructor
  · rintro ⟨i, hi, rfl⟩
    have := List.mem_range.mp hi
    omega
  · rintro ⟨a, b⟩
    exact ⟨c - 97, List.mem_range.mpr (by omega), by omega⟩
theorem goodW_alpha {l : List Nat} : goodW alpha (.str (S l)) = isWB l := by
  rw [goodW_S, Bool.eq_iff_iff, Bool.and_eq_true, List.all_eq_true]
  constructor
  · exact fun h => h.1
  · exact fun h => ⟨h, fun c hc => decide_eq_true (alpha_mem.mpr ((isWB_iff.mp h).low c hc))⟩
section
variable {P : Program} {w : World} {K : PySem.W.Frag} {mg : Str → Option Value} {base : Heap} {f fW : Addr} {fd dW : FuncData}
set_option maxHeartbeats 1000000 in
theorem ok_issignsA (F : Fun K "is_signs" "is_signs" sIsSigns f fd) (Z : Free mg) (DW : Def K mg "is_word" sIsWord ["value"] fW dW) (t6 : Tok) (g6 : mg "MOST_WORD" = some (.int 600 t6)) (t4 : Tok) (g4 : mg "MOST_SIGNS" = some (.int 4 t4)) : FnOk P w K mg base CX0 2 f fd ["value"] spIsSignsA := by
  have GW : FnOk P w K mg base CX0 1 fW dW ["value"] spIsWordA := ok_iswordA DW.F Z t6 g6
  refine F.ok scSg (fun vs H Q E h => by obtain ⟨p, x, d, rfl, _⟩ := h; rfl) (fun cdv A outer s H vs Q E hr h => ?_)
  obtain ⟨p, x, d, rfl, ha, k⟩ := h
  refine ⟨_, pss_one (ps_ret (pe_and (pe_call GW hr rfl DW.g DW.kp DW.b .nil pass0 (pa_cons (pv 0) pa_nil)) (pe_and (pe_cmpR op_le (pe_callB call_len_str (by rfl) Z.len PySem.boot_len (pa_cons (pv 0) pa_nil)) (pe_glob (v := .int 4) (by rfl) g4 ⟨_, rfl⟩) (nomark _))
    (pe_one (pe_cmpR op_eq (WbSet.pe_lenSetT rfl (by rfl) Z.len (by rfl) Z.set (pv 0)) (pe_callB call_len_str (by rfl) Z.len PySem.boot_len (pa_cons (pv 0) pa_nil)) (nomark _)))))), ?_⟩
  refine ⟨_, rfl, p, x, d, rfl, ha, fun H1 s1 => ?_⟩
  have k := k H1 s1
  cases ew : wordB x with
  | false =>
    rw [signsB_word ha ew] at k
    exact ⟨false, rfl, k⟩
  | true =>
    rcases ha.sort with ⟨l, rfl, tl⟩ | ⟨i, rfl⟩ | m
    · rw [wordB_S] at ew
      rw [signsB_S] at k
      unfold sgnB at k
      rw [ew, Bool.true_and] at k
      refine ⟨true, rfl, _, rfl, _, rfl, tl.fits, _, _, rfl, rfl, _, rfl, ?_⟩
      by_cases h4 : l.length ≤ 4
      · rw [decide_eq_true h4, Bool.true_and] at k
        refine ifd (by rw [S_len]; omega) ?_
        refine ⟨_, rfl, S l, rfl, by rw [S_len]; omega, _, rfl, _, rfl, tl.fits, rfl, ?_⟩
        have e : decide (V.int ((WbSet.differ (WbSet.signs (S l))).length : Nat) = V.int ((S l).length : Nat)) = decide l.Nodup := by
          refine decide_eq_decide.mpr ?_
          rw [S_len, ← differ_len]
          constructor
          · intro q
            injection q with q
            exact_mod_cast q
          · intro q
            rw [q]
        rw [e]
        exact k
      · rw [decide_eq_false h4, Bool.false_and] at k
        exact ifn (by rw [S_len]; omega) k
    · cases ew
    · rw [m.word] at ew
      cases ew
theorem scBs : FnScope ["_law_abc"] ["_law_abc"] (defScope sBadSigns) := ⟨rfl, rfl, rfl, by decide +kernel, rfl, by decide +kernel, by decide +kernel⟩
set_option maxHeartbeats 1000000 in
theorem ok_badsigns (F : Fun K "_law_bad_signs" "_law_bad_signs" sBadSigns f fd) (Z : Free mg) (DW : Def K mg "_law_is_word" sLIsWord ["_law_thing", "_law_abc"] fW dW) : FnOk P w K mg base CX0 2 f fd ["_law_abc"] spBadSigns := by
  have GW : FnOk P w K mg base CX0 1 fW dW ["_law_thing", "_law_abc"] spLIsWordL := ok_liswordL DW.F Z
  refine F.ok scBs (fun vs H Q E h => by obtain ⟨p, x, d, rfl, _⟩ := h; rfl) (fun cdv A outer s H vs Q E hr h => ?_)
  obtain ⟨p, x, d, rfl, ha, k⟩ := h
  refine ⟨_, pss_cons (ps_if (PW.pt (pw_or (pt_not (pt_val (pe_call GW hr rfl DW.g DW.kp DW.b .nil pass0 (pa_cons (pv 0) (pa_cons pe_str pa_nil))))) (pw_or1 (pt_cmpR op_gt (pe_callB call_len_str (by rfl) Z.len PySem.boot_len (pa_cons (pv 0) pa_nil)) pe_int (nomark _))))) (pss_one (ps_ret pe_bl)) pss_nil)
    (pss_one (ps_ret (pe_cmpR op_lt (WbSet.pe_lenSetT rfl (by rfl) Z.len (by rfl) Z.set (pv 0)) (pe_callB call_len_str (by rfl) Z.len PySem.boot_len (pa_cons (pv 0) pa_nil)) (nomark _)))), ?_⟩
  refine ⟨_, rfl, p, x, d, alpha, by rw [alpha_is] <;> rfl, ha, fun c hc => alpha_mem.mp hc, fun H1 s1 => ?_⟩
  have k := k H1 s1
  rcases ha.sort with ⟨l, rfl, tl⟩ | ⟨i, rfl⟩ | m
  · rw [goodW_alpha]
    rw [signsB_S] at k
    unfold sgnB at k
    cases ew : isWB l with
    | false =>
      rw [ew] at k
      exact ⟨false, rfl, k⟩
    | true =>
      rw [ew, Bool.true_and] at k
      refine ⟨true, rfl, _, rfl, _, rfl, tl.fits, _, _, rfl, rfl, _, rfl, ?_⟩
      by_cases h4 : l.length ≤ 4
      · rw [decide_eq_true h4, Bool.true_and] at k
        refine ifn (by rw [S_len]; omega) ?_
        refine ⟨_, rfl, S l, rfl, by rw [S_len]; omega, _, rfl, _, rfl, tl.fits, _, _, rfl, rfl, ?_⟩
        have le := WbSet.differ_le (WbSet.signs (S l))
        have ln : (WbSet.signs (S l)).length = l.length := by
          unfold WbSet.signs
          rw [List.length_map, S_cps]
        have e : decide (((WbSet.differ (WbSet.signs (S l))).length : Int) < ((S l).length : Int)) = !decide l.Nodup := by
          rw [S_len]
          by_cases nd : l.Nodup
          · rw [decide_eq_true nd, decide_eq_false (by have := differ_len.mpr nd; omega)] <;> rfl
          · rw [decide_eq_false nd, decide_eq_true (by
              have : (WbSet.differ (WbSet.signs (S l))).length ≠ l.length := fun z => nd (differ_len.mp z)
              omega)] <;> rfl
        show Q (.bl (decide (((WbSet.differ (WbSet.signs (S l))).length : Int) < ((S l).length : Int)))) H1
        rw [e]
        exact k
      · rw [decide_eq_false h4, Bool.false_and] at k
        exact ifd (by rw [S_len]; omega) k
  · exact ⟨false, rfl, k⟩
  · rw [m.good]
    refine ⟨false, rfl, ?_⟩
    rw [signsB_word ha m.word] at k
    exact k
end
end Wb
/-! parts that pass all checks are the parts of a loop -/
namespace Lg
open PySem L2 WbMin WbS Lz Wb
theorem fwO_not {α : Type} [DecidableEq α] {l : List (Option α)} (h : fwO l = none) : ∃ ks : List α, l = ks.map some ∧ ks.Nodup := by
  have pre : ∀ j, j < l.length → badAt l j = false := fun j hj => by
    unfold fwO at h
    rw [List.find?_eq_none] at h
    have q := h j (List.mem_range.mpr hj)
    cases e : badAt l j with
    | false => rfl
    | true => exact absurd e q
  obtain ⟨ks, _, h2, h3⟩ := fw_pre (Nat.le_refl l.length) pre
  rw [List.take_length] at h2
  exact ⟨ks, h2, h3⟩
theorem texts_of {f : V → Option Str} (hf : ∀ v z, f v = some z → v = .str z) : ∀ {xs : List V} {ks : List Str}, xs.map f = ks.map some → xs = ks.map V.str
  | [], [], _ => rfl
  | x :: xs, k :: ks, h => by
    injection h with h1 h2
    rw [hf x k h1, texts_of hf h2] <;> rfl
  | [], _ :: _, h => by cases h
  | _ :: _, [], h => by cases h
theorem good_states {H : Hp} {x : V} (wh : Wh H x) (h : stW H x = none) : ∃ (t : Addr) (st : List Str), x = .ref t ∧ H t = some (.tup (st.map V.str)) ∧ Sts st := by
  cases wh with
  | one ho =>
    rw [stW_one ho] at h
    cases h
  | @tup t xs ht few r =>
    rw [stW_tup ht] at h
    unfold stR at h
    by_cases l0 : xs.length = 0
    · rw [if_pos l0] at h
      cases h
    rw [if_neg l0] at h
    cases e : fwO ((xs.take 6).map nameK) with
    | some i =>
      rw [e] at h
      cases h
    | none =>
      rw [e] at h
      have h : (if 6 < xs.length then some (V.int 6) else none) = none := h
      by_cases h6 : 6 < xs.length
      · rw [if_pos h6] at h
        cases h
      rw [List.take_of_length_le (by omega)] at e
      obtain ⟨ks, k1, k2⟩ := fwO_not e
      have ex := texts_of (fun v z q => (nameK_eq q).1) k1
      refine ⟨t, ks, rfl, by rw [ht, ex], ⟨fun z hz => ?_, k2, ?_, ?_⟩⟩
      · have m : some z ∈ xs.map nameK := by
          rw [k1]
          exact List.mem_map.mpr ⟨z, hz, rfl⟩
        obtain ⟨v, _, e⟩ := List.mem_map.mp m
        obtain ⟨rfl, nb⟩ := nameK_eq e
        exact ⟨_, S_eq rfl, isNB_iff.mp nb⟩
      · rw [ex, List.length_map] at l0
        omega
      · rw [ex, List.length_map] at h6
        omega
theorem rowB_four {sg : List Nat} {st : List Str} {ys : List V} (h : rowB sg st ys = true) : ∃ ρ : Row, ys = ρ.v ∧ ρ.a ∈ st ∧ ρ.c ∈ sg ∧ ρ.b ∈ st := by
  obtain ⟨a, c, x, y, rfl, ha, hc⟩ := rowB_two h
  have h : (stB st (.str a) && sgB sg (.str (S [c])) && (stB st x && intB y)) = true := h
  rw [Bool.and_eq_true, Bool.and_eq_true] at h
  rw [Bool.and_eq_true] at h
  obtain ⟨_, h1, h2⟩ := h
  cases x with
  | str b =>
    cases y with
    | int m => exact ⟨⟨a, c, b, m⟩, rfl, ha, hc, of_decide_eq_true h1⟩
    | _ => cases h2
  | _ => cases h1
theorem turnB_three {st : List Str} {ys : List V} (h : turnB st ys = true) : ∃ τ : Trn, ys = τ.v ∧ τ.a ∈ st ∧ τ.b ∈ st := by
  unfold turnB at h
  split at h
  · rename_i a b c
    rw [Bool.and_eq_true, Bool.and_eq_true] at h
    obtain ⟨h0, h1, h2⟩ := h
    cases a with
    | str a =>
      cases b with
      | str b =>
        cases c with
        | int m => exact ⟨⟨a, b, m⟩, rfl, of_decide_eq_true h0, of_decide_eq_true h1⟩
        | _ => cases h2
      | _ => cases h1
    | _ => cases h0
  · cases h
theorem rows_of {H : Hp} {sg : List Nat} {st : List Str} : ∀ {xs : List V} {ks : List (Str × Str)}, (∀ x ∈ xs, TopS H x) → xs.map (rwK H sg st) = ks.map some → ∃ (as : List Addr) (rw : List Row), xs = as.map V.ref ∧ Tups H as (rw.map Row.v) ∧ rw.map Row.k = ks ∧ ∀ ρ ∈ rw, ρ.a ∈ st ∧ ρ.c ∈ sg ∧ ρ.b ∈ st
  | [], [], _, _ => ⟨[], [], rfl, trivial, rfl, fun _ h => nomatch h⟩
  | x :: xs, k :: ks, top, h => by
    injection h with h1 h2
    obtain ⟨as, rw, e1, e2, e3, e4⟩ := rows_of (fun y hy => top y (List.mem_cons_of_mem _ hy)) h2
    cases top x List.mem_cons_self with
    | one ho =>
      rw [rwK_one ho] at h1
      cases h1
    | @tup a ys hR l r =>
      rw [rwK_tup hR] at h1
      have q : rowB sg st ys = true := by rw [← rwL_some, h1] <;> rfl
      obtain ⟨ρ, rfl, m1, m2, m3⟩ := rowB_four q
      have h1' : (if rowB sg st ρ.v = true then some (ρ.a, S [ρ.c]) else none) = some k := h1
      rw [if_pos q] at h1'
      cases h1'
      refine ⟨a :: as, ρ :: rw, by rw [e1] <;> rfl, ⟨hR, e2⟩, by rw [← e3] <;> rfl, fun y hy => ?_⟩
      rcases List.mem_cons.mp hy with rfl | hy
      · exact ⟨m1, m2, m3⟩
      · exact e4 y hy
  | [], _ :: _, _, h => by cases h
  | _ :: _, [], _, h => by cases h
theorem turns_of {H : Hp} {st : List Str} : ∀ {xs : List V} {ks : List Str}, (∀ x ∈ xs, TopS H x) → xs.map (tnK H st) = ks.map some → ∃ (as : List Addr) (tn : List Trn), xs = as.map V.ref ∧ Tups H as (tn.map Trn.v) ∧ tn.map Trn.a = ks ∧ ∀ ρ ∈ tn, ρ.a ∈ st ∧ ρ.b ∈ st
  | [], [], _, _ => ⟨[], [], rfl, trivial, rfl, fun _ h => nomatch h⟩
  | x :: xs, k :: ks, top, h => by
    injection h with h1 h2
    obtain ⟨as, rw, e1, e2, e3, e4⟩ := turns_of (fun y hy => top y (List.mem_cons_of_mem _ hy)) h2
    cases top x List.mem_cons_self with
    | one ho =>
      rw [tnK_one ho] at h1
      cases h1
    | @tup a ys hR l r =>
      rw [tnK_tup hR] at h1
      have q : turnB st ys = true := by rw [← tnL_some, h1] <;> rfl
      obtain ⟨ρ, rfl, m1, m3⟩ := turnB_three q
      have h1' : (if turnB st ρ.v = true then some ρ.a else none) = some k := h1
      rw [if_pos q] at h1'
      cases h1'
      refine ⟨a :: as, ρ :: rw, by rw [e1] <;> rfl, ⟨hR, e2⟩, by rw [← e3] <;> rfl, fun y hy => ?_⟩
      rcases List.mem_cons.mp hy with rfl | hy
      · exact ⟨m1, m3⟩
      · exact e4 y hy
  | [], _ :: _, _, h => by cases h
  | _ :: _, [], _, h => by cases h
/-! ### the loop of these parts -/
def rowOf (rw : List Row) (a : Str) (c : Nat) : Row := (rw.find? fun r => decide (r.a = a) && decide (r.c = c)).getD ⟨a, c, a, 0⟩
def mkL (sg : List Nat) (st : List Str) (rw : List Row) (tn : List Trn) (ye : List Str) : LD where
  sg := sg
  st := st
  nx := fun i c => st.idxOf (rowOf rw (st.getD i (S [])) c).b
  am := fun i c => (rowOf rw (st.getD i (S [])) c).m
  tn := fun i => st.idxOf (turnOf tn (st.getD i (S []))).b
  ta := fun i => (turnOf tn (st.getD i (S []))).m
  ys := fun i => decide (st.getD i (S []) ∈ ye)
theorem leS_sOne {c d : Nat} (h : c ≤ d) : leS (sOne c) (sOne d) := by
  unfold leS sOne
  show ¬ ([d] : List Nat) < [c]
  rw [List.cons_lt_cons_iff]
  simp
  omega
theorem good_sg {sg0 : List Nat} (h : Sgs sg0) : ∃ sg, sg0.Perm sg ∧ Sgs sg ∧ PyProof.Rows.sortedS (sg.map sOne) = true := by
  have p := List.mergeSort_perm sg0 (fun a b => decide (a ≤ b))
  have srt := List.pairwise_mergeSort (le := fun a b : Nat => decide (a ≤ b)) (fun a b c h1 h2 => by simp at *; omega) (fun a b => by simp; omega) sg0
  generalize sg0.mergeSort (fun a b => decide (a ≤ b)) = sg at p srt
  refine ⟨sg, p.symm, ⟨fun c hc => h.low c (p.mem_iff.mp hc), p.nodup_iff.mpr h.nd, by rw [p.length_eq]; exact h.pos, by rw [p.length_eq]; exact h.few⟩, pw_sorted ?_⟩
  exact List.pairwise_map.mpr (srt.imp fun q => leS_sOne (of_decide_eq_true q))
theorem S_one {c d : Nat} (h : S [c] = S [d]) : c = d := by
  have := S_inj h
  injection this
theorem rowOf_at {rw : List Row} (nd : (rw.map Row.k).Nodup) : ∀ {ρ : Row}, ρ ∈ rw → rowOf rw ρ.a ρ.c = ρ := by
  induction rw with
  | nil => exact fun h => nomatch h
  | cons q rw ih =>
    intro ρ h
    have n := List.nodup_cons.mp (show (q.k :: rw.map Row.k).Nodup from nd)
    rcases List.mem_cons.mp h with rfl | h
    · unfold rowOf
      rw [List.find?_cons_of_pos (by simp)] <;> rfl
    · have e := ih n.2 h
      unfold rowOf at e ⊢
      rw [List.find?_cons_of_neg]
      · exact e
      · intro z
        rw [Bool.and_eq_true, decide_eq_true_iff, decide_eq_true_iff] at z
        refine n.1 (List.mem_map.mpr ⟨ρ, h, ?_⟩)
        unfold Row.k
        rw [z.1, z.2]
theorem turnOf_a {tn : List Trn} {z : Str} : (turnOf tn z).a = z := by
  unfold turnOf
  cases e : tn.find? fun r => decide (r.a = z) with
  | none => rfl
  | some r =>
    have q := List.find?_some e
    exact of_decide_eq_true q
theorem turnOf_in {tn : List Trn} {st : List Str} (h : ∀ ρ ∈ tn, ρ.a ∈ st ∧ ρ.b ∈ st) {z : Str} (hz : z ∈ st) : (turnOf tn z).b ∈ st := by
  unfold turnOf
  cases e : tn.find? fun r => decide (r.a = z) with
  | none => exact hz
  | some r => exact (h r (List.mem_of_find?_eq_some e)).2
theorem all_in {α : Type} [DecidableEq α] {l1 l2 : List α} (nd : l1.Nodup) (sub : ∀ x ∈ l1, x ∈ l2) (len : l2.length ≤ l1.length) : ∀ x ∈ l2, x ∈ l1 := fun x hx => by
  refine Classical.byContradiction fun n => ?_
  have := List.Nodup.length_le_of_subset (l₁ := x :: l1) (l₂ := l2) (List.nodup_cons.mpr ⟨n, nd⟩) fun y hy => by
    rcases List.mem_cons.mp hy with rfl | hy
    · exact hx
    · exact sub y hy
  rw [List.length_cons] at this
  omega
section
variable {sg sg0 : List Nat} {st : List Str} {rw : List Row} {tn : List Trn} {ye : List Str}
theorem stAt {i : Nat} (h : i < st.length) : st[i]? = some (st.getD i (S [])) := by
  rw [List.getD_eq_getElem?_getD, List.getElem?_eq_getElem h] <;> rfl
theorem idx_nm {z : Str} (h : z ∈ st) : st.getD (st.idxOf z) (S []) = z := by
  have l := List.idxOf_lt_length_of_mem h
  rw [List.getD_eq_getElem?_getD, List.getElem?_eq_getElem l, List.getElem_idxOf l] <;> rfl
set_option maxHeartbeats 1000000 in
theorem mkL_told (hs : Sgs sg0) (p : sg0.Perm sg) (hs' : Sgs sg) (ht : Sts st) (knd : (rw.map Row.k).Nodup) (rin : ∀ ρ ∈ rw, ρ.a ∈ st ∧ ρ.c ∈ sg ∧ ρ.b ∈ st) (many : sg.length * st.length ≤ rw.length) (tnd : (tn.map Trn.a).Nodup) (tin : ∀ ρ ∈ tn, ρ.a ∈ st ∧ ρ.b ∈ st)
    (ynd : ye.Nodup) (yin : ∀ z ∈ ye, z ∈ st) : (mkL sg st rw tn ye).Ok ∧ Told (mkL sg st rw tn ye) sg0 rw tn ye := by
  have memst : ∀ i, i < st.length → st.getD i (S []) ∈ st := fun i hi => List.mem_of_getElem? (stAt hi)
  -- every key has its row
  have keys : ∀ i c, i < st.length → c ∈ sg → ∃ ρ ∈ rw, ρ.a = st.getD i (S []) ∧ ρ.c = c ∧ rowOf rw (st.getD i (S [])) c = ρ := fun i c hi hc => by
    have all := all_in (l1 := rw.map Row.k) (l2 := st.flatMap fun z => sg.map fun c => (z, S [c])) knd (fun x hx => by
      obtain ⟨ρ, hρ, rfl⟩ := List.mem_map.mp hx
      obtain ⟨m1, m2, _⟩ := rin ρ hρ
      exact List.mem_flatMap.mpr ⟨ρ.a, m1, List.mem_map.mpr ⟨ρ.c, m2, rfl⟩⟩) (by
      rw [List.length_flatMap, show (st.map fun z => (sg.map fun c => (z, S [c])).length) = List.replicate st.length sg.length from List.map_eq_replicate_iff.mpr fun _ _ => List.length_map _, List.sum_replicate_nat, List.length_map, Nat.mul_comm]
      exact many)
    obtain ⟨ρ, hρ, e⟩ := List.mem_map.mp (all (st.getD i (S []), S [c]) (List.mem_flatMap.mpr ⟨_, memst i hi, List.mem_map.mpr ⟨c, hc, rfl⟩⟩))
    have e1 : ρ.a = st.getD i (S []) := congrArg Prod.fst e
    have e2 : ρ.c = c := S_one (congrArg Prod.snd e)
    refine ⟨ρ, hρ, e1, e2, ?_⟩
    rw [← e1, ← e2]
    exact rowOf_at knd hρ
  have O : (mkL sg st rw tn ye).Ok := by
    refine ⟨hs', ht, fun i c hi hc => ?_, fun i hi => ?_⟩
    · obtain ⟨ρ, hρ, _, _, e⟩ := keys i c hi hc
      show st.idxOf (rowOf rw (st.getD i (S [])) c).b < st.length
      rw [e]
      exact List.idxOf_lt_length_of_mem (rin ρ hρ).2.2
    · exact List.idxOf_lt_length_of_mem (turnOf_in tin (memst i hi))
  have rowIs : ∀ i c, i < st.length → c ∈ sg → ∃ ρ ∈ rw, (mkL sg st rw tn ye).row i c = ρ := fun i c hi hc => by
    obtain ⟨ρ, hρ, e1, e2, e⟩ := keys i c hi hc
    refine ⟨ρ, hρ, ?_⟩
    show (⟨st.getD i (S []), c, st.getD (st.idxOf (rowOf rw (st.getD i (S [])) c).b) (S []), (rowOf rw (st.getD i (S [])) c).m⟩ : Row) = ρ
    rw [e, idx_nm (rin ρ hρ).2.2, ← e1, ← e2]
  have rnd : rw.Nodup := (List.pairwise_map.mp knd).imp fun n e => n (by rw [e])
  have Lnd : (mkL sg st rw tn ye).rows.Nodup := (List.pairwise_map.mp (rows_key_nd O)).imp fun n e => n (by rw [e])
  refine ⟨O, ⟨p, ?_, tnd, tin, ?_, ?_, ynd, yin, ?_, ?_⟩⟩
  · haveI : DecidableEq Row := Classical.typeDecidableEq Row
    have sub : ∀ x ∈ (mkL sg st rw tn ye).rows, x ∈ rw := fun x hx => by
      obtain ⟨i, c, hi, hc, rfl⟩ := rows_mem hx
      obtain ⟨ρ, hρ, e⟩ := rowIs i c hi hc
      rw [e]
      exact hρ
    refine (List.perm_ext_iff_of_nodup rnd Lnd).mpr fun x => ⟨fun hx => ?_, sub x⟩
    obtain ⟨m1, m2, _⟩ := rin x hx
    have hi := List.idxOf_lt_length_of_mem m1
    obtain ⟨j, hj, ej⟩ := List.getElem_of_mem m2
    have q := rows_at (L := mkL sg st rw tn ye) (i := st.idxOf x.a) (j := j) (c := x.c) hi (by show sg[j]? = some x.c; rw [List.getElem?_eq_getElem hj, ej])
    obtain ⟨ρ, hρ, e1, e2, e⟩ := keys _ x.c hi m2
    rw [idx_nm m1] at e1 e
    have ex : ρ = x := by
      rw [← e]
      exact rowOf_at knd hx
    obtain ⟨ρ', hρ', e'⟩ := rowIs _ x.c hi m2
    have : (mkL sg st rw tn ye).row (st.idxOf x.a) x.c = x := by
      show (⟨st.getD (st.idxOf x.a) (S []), x.c, st.getD (st.idxOf (rowOf rw (st.getD (st.idxOf x.a) (S [])) x.c).b) (S []), (rowOf rw (st.getD (st.idxOf x.a) (S [])) x.c).m⟩ : Row) = x
      rw [idx_nm m1, e, ex, idx_nm (rin x hx).2.2]
    rw [← this]
    exact List.mem_of_getElem? q
  · refine List.ext_getElem? fun i => ?_
    rw [List.getElem?_map]
    by_cases h : i < (mkL sg st rw tn ye).n
    · rw [turns_at h, nm_at h]
      refine congrArg some ?_
      show turnOf tn (st.getD i (S [])) = (⟨st.getD i (S []), st.getD (st.idxOf (turnOf tn (st.getD i (S []))).b) (S []), (turnOf tn (st.getD i (S []))).m⟩ : Trn)
      rw [idx_nm (turnOf_in tin (memst i h))]
      have ea := turnOf_a (tn := tn) (z := st.getD i (S []))
      cases e : turnOf tn (st.getD i (S [])) with
      | mk a b m =>
        rw [e] at ea
        rw [← ea]
    · have h' : ¬ i < st.length := h
      rw [List.getElem?_eq_none (l := (mkL sg st rw tn ye).st) (by show st.length ≤ i; omega), List.getElem?_eq_none (l := (mkL sg st rw tn ye).turns) (by rw [turns_length]; exact Nat.le_of_not_lt h)] <;> rfl
  · have := List.Nodup.length_le_of_subset (l₁ := tn.map Trn.a) (l₂ := st) tnd fun x hx => by
      obtain ⟨ρ, hρ, rfl⟩ := List.mem_map.mp hx
      exact (tin ρ hρ).1
    rw [List.length_map] at this
    have := ht.few
    omega
  · have e : st = (List.range st.length).map fun i => st.getD i (S []) := by
      refine List.ext_getElem? fun i => ?_
      by_cases h : i < st.length
      · rw [stAt h, List.getElem?_map, List.getElem?_range h] <;> rfl
      · rw [List.getElem?_eq_none (by omega), List.getElem?_eq_none (by rw [List.length_map, List.length_range]; omega)]
    show (st.filter fun z => decide (z ∈ ye)) = ((List.range st.length).filter fun i => decide (st.getD i (S []) ∈ ye)).map fun i => st.getD i (S [])
    conv => lhs; rw [e]
    rw [List.filter_map] <;> rfl
  · have := List.Nodup.length_le_of_subset (l₁ := ye) (l₂ := st) ynd yin
    have := ht.few
    omega
end
end Lg
/-! a loop made without turns: the default is an empty tuple that the top has written -/
namespace Wb
open PySem L2 WbMin WbS Lz
/-- an empty tuple that the top has written -/
structure E0 (K : PySem.W.Frag) (u : Addr) : Prop where
  sq : ∀ H : Hp, SqT K H u []
  ty : ∀ H : Hp, TyX K H (.ref u) (.type "tuple")
theorem e0_of {K : PySem.W.Frag} {u : Addr} {od : Option Addr} {n : Nat} {sl : Array (Option Value)} (h : K.lookup u = some ⟨.type "tuple", od, .seq #[] n, sl⟩) : E0 K u :=
  ⟨fun _ => .inr ⟨_, #[], n, h, rfl, rfl, Nat.zero_le _, .nil⟩, fun _ => .kTuple h rfl⟩
def spChTu0 (K : PySem.W.Frag) : Sp := fun vs H Q _ => ∃ (y t : Addr) (st : List Str), vs = [.ref y, .ref t] ∧ E0 K y ∧ H t = some (.tup (st.map V.str)) ∧ ∀ H', Same H H' → Q .non H'
def spOrTu0 (K : PySem.W.Frag) : Sp := fun vs H Q _ => ∃ (y t : Addr) (st : List Str), vs = [.ref y, .ref t] ∧ E0 K y ∧ H t = some (.tup (st.map V.str)) ∧ st.length ≤ 6 ∧
  ∀ r bs H', H r = none → Same H H' → H' r = some (.tup (bs.map V.ref)) → Tups H' bs ((st.map (turnOf [])).map Trn.v) → Q (.ref r) H'
structure Prt0 (K : PySem.W.Frag) (st : List Str) (rw : List Row) (ye : List Str) (t rr u y : Addr) (as : List Addr) (H : Hp) : Prop where
  ht : H t = some (.tup (st.map V.str))
  hr : H rr = some (.tup (as.map V.ref))
  hT : Tups H as (rw.map Row.v)
  hu : E0 K u
  hy : H y = some (.tup (ye.map V.str))
section
variable {K : PySem.W.Frag} {st : List Str} {rw : List Row} {ye : List Str} {t rr u y : Addr} {as : List Addr} {H H' : Hp}
theorem Prt0.same (s : Same H H') (h : Prt0 K st rw ye t rr u y as H) : Prt0 K st rw ye t rr u y as H' := ⟨s _ _ h.ht, s _ _ h.hr, h.hT.same s, h.hu, s _ _ h.hy⟩
theorem Prt0.but {p : Addr} {o : HO} (no : ∀ x, o ≠ .tup x) (hp : H p = some o) (s : But p H H') (h : Prt0 K st rw ye t rr u y as H) : Prt0 K st rw ye t rr u y as H' :=
  ⟨s _ _ (ne_of h.ht hp fun e => no _ e.symm) h.ht, s _ _ (ne_of h.hr hp fun e => no _ e.symm) h.hr, h.hT.but no hp s, h.hu, s _ _ (ne_of h.hy hp fun e => no _ e.symm) h.hy⟩
end
/-- the loop whose turns change nothing -/
def LD.bare (L : LD) : LD := { L with tn := fun i => i, ta := fun _ => 0 }
theorem LD.Ok.bare {L : LD} (O : L.Ok) : L.bare.Ok := ⟨O.sgs, O.sts, O.nxlt, fun _ h => h⟩
theorem LD.Small.bare {L : LD} (s : L.Small) : L.bare.Small := ⟨s.am, fun _ _ => by show (0 : Int).natAbs < 2 ^ 110; decide⟩
section
variable {P : Program} {w : World} {K : PySem.W.Frag} {mg : Str → Option Value} {base : Heap} {f fR fS fI fF : Addr} {fd dR dS dI dF : FuncData}
theorem ok_chtu0 (F : Fun K "check_turns" "check_turns" sChTu f fd) (Z : Free mg) (mT : mg "tuple" = none) (mE : mg "enumerate" = none) (mZ : mg "zip" = none) (DR : Def K mg "is_turn_of" sTurnOf ["value", "states"] fR dR) (DS : Def K mg "is_state_of" sStateOf ["value", "states"] fS dS) (DI : Def K mg "is_integer" sIsInt ["value"] fI dI) (DF : Def K mg "first_wrong" sFirst ["values", "right"] fF dF) : FnOk P w K mg base CX0 3 f fd ["turns", "states"] (spChTu0 K) := by
  have GR : FnOk P w K mg base CX0 2 fR dR ["value", "states"] spTurnOf := ok_turnof DR.F Z mT DS DI
  have GF : FnOk P w K mg base CX0 1 fF dF ["values", "right"] spFirstL := ok_firstL DF.F mE
  refine F.ok scCT (fun vs H Q E h => ?_) (fun cdv A outer s H vs Q E hr h => ?_)
  · obtain ⟨y, t, st, rfl, _⟩ := h
    rfl
  · obtain ⟨y, t, st, rfl, hy, ht, k⟩ := h
    have hr1 : Room 1 _ := hr.mono (by decide)
    refine ⟨_, pss_cons (ps_if (pt_not (pt_val (pe_callB call_isi (by rfl) Z.isi (by decide +kernel) (pa_cons (pv 0) (pa_cons (pe_bltn (v := .ty "tuple") (u := .type "tuple") (by rfl) mT (by decide +kernel) rfl) pa_nil))))) (pss_one ps_never) pss_nil)
      (pss_cons (ps_setLc (i := 2) (own := [("turn", 4)]) (g := gName 4) (tt := tYes) rfl scCT.nd rfl rfl (sw_true rfl rfl rfl (by decide +kernel)) (pi_tup (pv 0)) (blkOk_by (N := NCT) (sc := defScope sChTu) (by decide +kernel)) (fun _ _ _ _ _ => pg_name (i := 4) scCT.nd rfl (.inl rfl)) (fun _ _ _ _ _ => pts_nil)
            (fun _ _ _ _ _ => pe_call GR hr rfl DR.g DR.kp DR.b .nil pass0 (pa_cons (pv 4) (pa_cons (pv 1) pa_nil))))
      (pss_cons (ps_set (i := 3) scCT.nd rfl (.inl rfl) (pe_call GF hr1 rfl DF.g DF.kp DF.b .nil pass0 (pa_cons
          (pe_lc (own := [("turn", 4), ("fine", 5)]) (g := gTup K 2 (gCons (gName 4) (gCons (gName 5) gNil))) (tt := tYes) rfl scCT.nd (pi_zipM (by rfl) mZ (pa_cons (pv 0) (pa_cons (pv 2) pa_nil))) (blkOk_by (N := NCT) (sc := defScope sChTu) (by decide +kernel)) (fun _ _ _ _ _ => pg_tup (by rfl) (pgs_cons (pg_name (i := 4) scCT.nd rfl (.inl rfl)) (pgs_cons (pg_name (i := 5) scCT.nd rfl (.inl rfl)) pgs_nil))) (fun _ _ _ _ _ => pts_nil)
            (fun _ _ _ _ _ => pe_ifExp (pt_val (pv 5)) (pe_ix (show IxR _ (rIxT K) from ix_tup) (pv 4) pe_int (fun _ _ => rfl)) pe_non)) (pa_cons (pv 2) pa_nil))))
      (pss_one (ps_if (pt_cmpR op_notN (pv 3) pe_non (nomark _)) (pss_one ps_never) pss_nil)))), ?_⟩
    refine ⟨_, rfl, _, _, .type "tuple", .type "tuple", true, rfl, .ty "tuple", hy.ty _, kit_ty (by decide +kernel), true, rfl, ?_⟩
    refine ⟨_, rfl, y, rfl, ⟨_, hy.sq _⟩, fun D hD => lc_it (walk_tup (xs := [])) (fun i H3 => H3 D = some (.lst []) ∧ Same H H3) ⟨upd_same, Same.put (Same.refl H) hD⟩ (fun _ _ _ h => hy.sq _) ?_ ?_⟩
    · rintro i x H3 H3' hi
      exact absurd hi (Nat.not_lt_zero _)
    · rintro H3 ⟨h1, h2⟩
      refine ⟨_, rfl, _, rfl, y, D, _, _, rfl, hy.sq _, SqL.of h1, fun D2 hD2 => lc_it (walk_zipM (n := 0) (xs := []) (ys := []) rfl) (fun i H4 => H4 D2 = some (.lst []) ∧ Same H3 H4) ⟨upd_same, Same.put (Same.refl H3) hD2⟩ (fun _ _ _ h => ⟨hy.sq _, SqL.of (h.2 _ _ h1)⟩) ?_ ?_⟩
      · rintro i x H4 H5 hi
        exact absurd hi (Nat.not_lt_zero _)
      · rintro H4 ⟨g1, g2⟩
        refine ⟨_, rfl, D2, D, [], rfl, g1, g2 _ _ h1, List.nodup_nil, fun H5 s5 => ?_⟩
        refine ⟨_, rfl, rfl, _, rfl, ?_⟩
        show if (!decide (V.non = V.non)) = true then _ else _
        rw [decide_eq_true rfl]
        exact iteF (k H5 ((h2.trans g2).trans s5))
set_option maxHeartbeats 0 in
theorem ok_ortu0 (F : Fun K "ordered_turns" "ordered_turns" sOrTu f fd) (mT : mg "tuple" = none) : FnOk P w K mg base CX0 1 f fd ["turns", "states"] (spOrTu0 K) := by
  refine F.ok scOT (fun vs H Q E h => ?_) (fun cdv A outer s H vs Q E hr h => ?_)
  · obtain ⟨y, t, st, rfl, _⟩ := h
    rfl
  · obtain ⟨y, t, st, rfl, hy, ht, fst, k⟩ := h
    refine ⟨_, pss_cons (ps_set (i := 2) scOT.nd rfl (.inr rfl) (pe_dc (own := [("turn", 3)]) (g := gName 3) (tt := tYes) rfl scOT.nd (pi_tup (pv 0)) (blkOk_by (N := NOT) (sc := defScope sOrTu) (by decide +kernel)) (fun _ _ _ _ _ => pg_name (i := 3) scOT.nd rfl (.inl rfl)) (fun _ _ _ _ _ => pts_nil)
        (fun _ _ _ _ _ => pe_ix (show IxR _ (rIxT K) from ix_tup) (pv 3) pe_int (fun _ _ => rfl)) (fun _ _ _ _ _ => pv 3)))
      (pss_one (ps_ret (pe_callTy call_tuple_of (by rfl) mT (by decide +kernel) (pa_cons
      (pe_lc (own := [("state", 4)]) (g := gName 4) (tt := tYes) rfl scOT.nd (pi_tup (pv 1)) (blkOk_by (N := NOT) (sc := defScope sOrTu) (by decide +kernel)) (fun _ _ _ _ _ => pg_name (i := 4) scOT.nd rfl (.inl rfl)) (fun _ _ _ _ _ => pts_nil)
        (fun _ _ _ _ _ => pe_dget2 (un2 hr) (pv 2) (pv 4) (pe_tup (pa_cons (pv 4) (pa_cons (pv 4) (pa_cons pe_int pa_nil)))) ⟨rfl, rfl, rfl, rfl⟩)) pa_nil)))), ?_⟩
    refine ⟨_, rfl, y, rfl, ⟨_, hy.sq _⟩, fun D hD => dc_it (walk_tup (xs := [])) (fun i H3 => H3 D = some (.dK []) ∧ Same H H3) ⟨upd_same, Same.put (Same.refl H) hD⟩ (fun _ _ _ h => hy.sq _) ?_ ?_⟩
    · rintro i x H3 H3' hi
      exact absurd hi (Nat.not_lt_zero _)
    · rintro H3 ⟨h1, h2⟩
      have ht3 := h2 _ _ ht
      refine ⟨_, rfl, t, rfl, ⟨_, SqT.of ht3⟩, fun D2 hD2 => lc_it (walk_tup (xs := st.map V.str)) (fun i H4 => ∃ bs : List Addr, H4 D2 = some (.lst (bs.map V.ref)) ∧ Tups H4 bs (((st.take i).map (turnOf [])).map Trn.v) ∧ (∀ c ∈ bs, c ≠ D2) ∧ Same H3 H4) ⟨[], upd_same, trivial, (fun _ q => nomatch q), Same.put (Same.refl H3) hD2⟩ (fun _ _ _ h => by obtain ⟨_, _, _, _, h⟩ := h; exact SqT.of (h _ _ ht3)) ?_ ?_⟩
      · rintro i x H4 H4' hi ⟨bs, g1, g3, g4, g2⟩ ⟨rfl, hx⟩
        rw [List.getElem?_map] at hx
        obtain ⟨z, hz, rfl⟩ := Option.map_eq_some_iff.mp hx
        rw [List.length_map] at hi
        have lb : bs.length = i := by rw [g3.length, List.length_map, List.length_map, List.length_take]; omega
        refine ⟨rfl, _, rfl, D, rfl, .inl ⟨_, .inl (g2 _ _ h1)⟩, _, rfl, _, rfl, _, rfl, ?_⟩
        refine ⟨(by rw [sizeLine_eq]; show 3 ≤ _; decide), fun u hu => ?_⟩
        have s6 := Same.put (o := .tup [.str z, .str z, .int 0]) (Same.refl H4') hu
        have nc : u ≠ D2 := fun q => by
          rw [q, g1] at hu
          cases hu
        have n2 : ∀ a ∈ bs ++ [u], a ≠ D2 := fun a ha => (List.mem_append.mp ha).elim (g4 a) fun q => by rw [List.mem_singleton.mp q]; exact nc
        refine ⟨none, DGet.k (k := k1 z) (kvs := []) ((g2.trans s6) _ _ h1), ?_⟩
        refine ⟨_, s6 _ _ g1, ?_, bs ++ [u], ?_, ?_, n2, Same.new' (g2.trans s6) hD2⟩
        · rw [List.length_map, sizeLine_eq]
          omega
        · rw [upd_same, List.map_append] <;> rfl
        · have e1 : ((st.take (i + 1)).map (turnOf [])).map Trn.v = ((st.take i).map (turnOf [])).map Trn.v ++ [[V.str z, .str z, .int 0]] := by
            rw [List.take_add_one, hz, List.map_append, List.map_append] <;> rfl
          rw [e1]
          exact Tups.upd n2 (Tups.snoc upd_same (g3.same s6))
      · rintro H4 ⟨bs, g1, g3, g4, g2⟩
        rw [List.length_map, List.take_length] at g3
        refine ⟨D2, _, rfl, .inl ⟨SqL.of g1, fun l hl => k l bs _ (none_of_same (h2.trans g2) hl) (Same.put (h2.trans g2) hl) upd_same (g3.same (Same.put (Same.refl H4) hl))⟩⟩
end
section
variable {P : Program} {w : World} {K : PySem.W.Frag} {mg : Str → Option Value} {base : Heap} {A : LA} {e : Addr}
end
end Wb
/-! what an own class's special methods are worth: len(o), bool(o), str(o), o == p, o != p, o an instance of a class of the program's own -/
namespace WbO
open PySem PySem.W PySem.Spec PyProof.Rows
section
variable {prog : Program} {w : World} {A : Around} {E : Value → Shared → Prop} {s : Shared} {K : Frag} {x C f : Addr} {ox : Obj} {od : Option Obj}
end
end WbO
namespace WbO
open PySem PySem.Spec PyProof.Rows L2
section
variable {X : Cx} {CX : CXT} {k : Nat} {C g : Addr} {fd : FuncData} {ps : List Str} {sp : Sp} {E : XK}
end
end WbO
/-! faces and data of a loop's row, for laws that reach no total (out of LxK, LxD, LxE) -/
namespace Wb
open PySem L2 WbMin WbS Lz WbO
theorem str_tuple : PyData.strOk ("tuple" : Str) = true := by decide +kernel
theorem shaped_of {d : PyData} (h : d.canLay0 = true) (n : PyData.depth d ≤ 64) : SeqAt.shaped d = true := by
  unfold SeqAt.shaped
  rw [h, decide_eq_true n] <;> rfl
theorem Thing.up : ∀ {n : Nat} {H : Hp} {v : V} {d : PyData}, Thing H n v d → Thing H (n + 1) v d
  | 0, _, _, _, h => h.elim
  | _ + 1, _, _, _, .inl h => .inl h
  | _ + 1, _, _, _, .inr (.inl ⟨a, xs, ds, e, h, l, r, q⟩) => .inr (.inl ⟨a, xs, ds, e, h, l, r.imp fun _ _ z => Thing.up z, q⟩)
  | _ + 1, _, _, _, .inr (.inr (.inl ⟨a, xs, ds, e, h, l, r, q⟩)) => .inr (.inr (.inl ⟨a, xs, ds, e, h, l, r.imp fun _ _ z => Thing.up z, q⟩))
  | _ + 1, _, _, _, .inr (.inr (.inr ⟨a, ks, xs, ds, e, h, nd, l1, l, r, q⟩)) => .inr (.inr (.inr ⟨a, ks, xs, ds, e, h, nd, l1, l, r.imp fun _ _ z => Thing.up z, q⟩))
theorem lay_map {α : Type} {g : α → PyData} : ∀ {l : List α}, (∀ x ∈ l, (g x).canLay0 = true) → PyData.canLayAll0 (l.map g) = true
  | [], _ => rfl
  | x :: r, h => by
    show ((g x).canLay0 && PyData.canLayAll0 (r.map g)) = true
    rw [h x List.mem_cons_self, lay_map fun y q => h y (List.mem_cons_of_mem _ q)] <;> rfl
theorem depth_map {α : Type} {g : α → PyData} {n : Nat} : ∀ {l : List α}, (∀ x ∈ l, PyData.depth (g x) ≤ n) → PyData.depthAll (l.map g) ≤ n
  | [], _ => Nat.zero_le _
  | x :: r, h => by
    show max (PyData.depth (g x)) (PyData.depthAll (r.map g)) ≤ n
    have h1 := h x List.mem_cons_self
    have h2 := depth_map (n := n) fun y q => h y (List.mem_cons_of_mem _ q)
    omega
/-- the face of a tuple -/
def tupD (ds : List PyData) : PyData := .list (.str "tuple" :: ds)
/-! ### rows -/
def strF (z : Str) : PyData := plainD (.str z)
def rowF (r : Row) : PyData := tupD [strF r.a, strF (S [r.c]), strF r.b, plainD (.int r.m)]
def trnF (r : Trn) : PyData := tupD [strF r.a, strF r.b, plainD (.int r.m)]
def loopF (L : LD) : PyData := tupD [strF (S L.sg), tupD (L.st.map strF), tupD (L.rows.map rowF), tupD (L.turns.map trnF), tupD (L.yes.map strF)]
/-! ### a row as data -/
def strP (z : Str) : PyData := .str z
def rowP (r : Row) : PyData := .tuple [.str r.a, .str (S [r.c]), .str r.b, .int r.m]
def trnP (r : Trn) : PyData := .tuple [.str r.a, .str r.b, .int r.m]
def loopP (L : LD) : PyData := .tuple [.str (S L.sg), .tuple (L.st.map strP), .tuple (L.rows.map rowP), .tuple (L.turns.map trnP), .tuple (L.yes.map strP)]
/-! ### equal as data: the same -/
/-- two loops of one row -/
structure SameRow (A B : LD) : Prop where
  sg : A.sg = B.sg
  st : A.st = B.st
  rows : A.rows = B.rows
  turns : A.turns = B.turns
  yes : A.yes = B.yes
theorem SameRow.data {A B : LD} (h : SameRow A B) : loopP A = loopP B := by
  unfold loopP
  rw [h.sg, h.st, h.rows, h.turns, h.yes]
theorem SameRow.face {A B : LD} (h : SameRow A B) : loopF A = loopF B := by
  unfold loopF
  rw [h.sg, h.st, h.rows, h.turns, h.yes]
end Wb
/-! o == v, o != v with a v of any type (out of k08's WbE) -/
namespace WbO
open PySem PySem.Spec PyProof.Rows L2
section
variable {X : Cx} {CX : CXT} {k : Nat} {C g : Addr} {fd : FuncData} {ps : List Str} {sp : Sp} {E : XK}
end
end WbO
/-! a loop == a loop, == anything else; states; bool -/
namespace Wb
open PySem L2 WbMin WbS Lz WbO
structure EqA where
  (fEq fSs pSs : Addr)
  (dEq dSs : FuncData)
section
variable {P : Program} {w : World} {K : PySem.W.Frag} {mg : Str → Option Value} {base : Heap} {A : LA} {B : EqA} {e : Addr}
end
end Wb
/-! Loop.made of a loop's row -/
namespace WbO
open PySem PySem.Spec PyProof.Rows L2
section
variable {X : Cx} {CX : CXT} {k i n : Nat} {C f : Addr} {fd : FuncData} {ps ks : List Str} {sp : Sp} {E : XK} {x : Str} {pp pos : Pos} {e : Expr} {es : List Expr} {kws : List Keyword} {t tk : TA} {g : List Value → List Value → List Value} {gV : List V → List V → List V}
end
end WbO
namespace Wb
open PySem L2 WbMin WbS Lz WbO
structure MadA where
  (fMa : Addr)
  (dMa : FuncData)
theorem RowAt.same {H H' : Hp} {q : Addr} {L : LD} (s : Same H H') : RowAt H q L → RowAt H' q L := fun ⟨t, rr, u, y, as, bs, h0, ht, hrr, hT, hu, hU, hy⟩ => ⟨t, rr, u, y, as, bs, s _ _ h0, s _ _ ht, s _ _ hrr, hT.same s, s _ _ hu, hU.same s, s _ _ hy⟩
section
variable {P : Program} {w : World} {K : PySem.W.Frag} {mg : Str → Option Value} {base : Heap} {A : LA} {B : MadA} {e : Addr}
end
end Wb
/-! a loop made of three values: turns and yes left out; all five by name -/
namespace Wb
open PySem L2 WbMin WbS Lz
def spChYe0 (K : PySem.W.Frag) : Sp := fun vs H Q _ => ∃ (y t : Addr) (st : List Str), vs = [.ref y, .ref t] ∧ E0 K y ∧ H t = some (.tup (st.map V.str)) ∧ ∀ H', Same H H' → Q .non H'
def spOrYe0 (K : PySem.W.Frag) : Sp := fun vs H Q _ => ∃ (y t : Addr) (st : List Str), vs = [.ref y, .ref t] ∧ E0 K y ∧ H t = some (.tup (st.map V.str)) ∧ st.length ≤ 6 ∧
  ∀ r H', H r = none → Same H H' → H' r = some (.tup ([] : List V)) → Q (.ref r) H'
structure Prt00 (K : PySem.W.Frag) (st : List Str) (rw : List Row) (t rr u y : Addr) (as : List Addr) (H : Hp) : Prop where
  ht : H t = some (.tup (st.map V.str))
  hr : H rr = some (.tup (as.map V.ref))
  hT : Tups H as (rw.map Row.v)
  hu : E0 K u
  hy : E0 K y
section
variable {K : PySem.W.Frag} {st : List Str} {rw : List Row} {t rr u y : Addr} {as : List Addr} {H H' : Hp}
theorem Prt00.same (s : Same H H') (h : Prt00 K st rw t rr u y as H) : Prt00 K st rw t rr u y as H' := ⟨s _ _ h.ht, s _ _ h.hr, h.hT.same s, h.hu, h.hy⟩
theorem Prt00.but {p : Addr} {o : HO} (no : ∀ x, o ≠ .tup x) (hp : H p = some o) (s : But p H H') (h : Prt00 K st rw t rr u y as H) : Prt00 K st rw t rr u y as H' :=
  ⟨s _ _ (ne_of h.ht hp fun e => no _ e.symm) h.ht, s _ _ (ne_of h.hr hp fun e => no _ e.symm) h.hr, h.hT.but no hp s, h.hu, h.hy⟩
end
def spLoInit00 (K : PySem.W.Frag) (C T : Addr) : Sp := fun vs H Q _ => ∃ (H0 : Hp) (r dx t rr u y : Addr) (as : List Addr) (L : LD) (sg0 : List Nat) (rw : List Row), vs = [.ref r, .str (S sg0), .ref t, .ref rr, .ref u, .ref y] ∧ L.Ok ∧ PyProof.Rows.sortedS (L.sg.map sOne) = true ∧ Told L sg0 rw [] [] ∧ Prt00 K L.st rw t rr u y as H ∧ Same H0 H ∧ H0 r = none ∧ H r = some (.ins C dx []) ∧
  ∀ H' : Hp, Same H0 H' → LoopAt C T H' r L → Q .non H'
section
variable {P : Program} {w : World} {K : PySem.W.Frag} {mg : Str → Option Value} {base : Heap} {f fR fS fI fF : Addr} {fd dR dS dI dF : FuncData}
def spFirst0 (K : PySem.W.Frag) : Sp := fun vs H Q _ => ∃ (t L : Addr), vs = [.ref t, .ref L] ∧ E0 K t ∧ ∀ H', Same H H' → Q .non H'
theorem ok_first0 (F : Fun K "first_wrong" "first_wrong" sFirst f fd) (mE : mg "enumerate" = none) : FnOk P w K mg base CX0 1 f fd ["values", "right"] (spFirst0 K) := by
  refine F.ok scFw (fun vs H Q E h => ?_) (fun cdv A outer s H vs Q E hr h => ?_)
  · obtain ⟨t, L, rfl, _⟩ := h
    rfl
  · obtain ⟨t, L, rfl, ht, k⟩ := h
    refine ⟨_, pss_cons (ps_for PassesOwn.never rfl (pi_enumT (by rfl) mE (pa_cons (pv 0) pa_nil)) (pg_tup (by rfl) (pgs_cons (pg_name (i := 2) scFw.nd rfl (.inl rfl)) (pgs_cons (pg_name (i := 3) scFw.nd rfl (.inl rfl)) pgs_nil)))
        (pss_one (ps_if (PW.pt (pw_or (pt_not (pt_val (pe_ix ix_list (pv 1) (pv 2) (fun _ _ => rfl)))) (pw_or1 (pt_cmpR op_in_seq (pv 3) (pe_slice sl_tup (pv 0) po_none (po_some (pv 2))) (by rfl))))) (pss_one ps_never) pss_nil)))
      (pss_one (ps_ret pe_non)), ?_⟩
    refine ⟨_, rfl, t, [], rfl, ht.sq _, for_it walk_enumT (fun i σ H' => σ = [some (.ref t), some (.ref L), none, none] ∧ Same H H') ⟨rfl, Same.refl H⟩ (fun _ _ _ _ h => ht.sq _) ?_ ?_⟩
    · rintro i x σ H2 H3 hi
      exact absurd hi (Nat.not_lt_zero _)
    · rintro σ H2 ⟨rfl, s2⟩
      exact k H2 s2
theorem ok_chye0 (F : Fun K "check_yes" "check_yes" sChYe f fd) (Z : Free mg) (mT : mg "tuple" = none) (mE : mg "enumerate" = none) (DS : Def K mg "is_state_of" sStateOf ["value", "states"] fS dS) (DF : Def K mg "first_wrong" sFirst ["values", "right"] fF dF) : FnOk P w K mg base CX0 2 f fd ["yes", "states"] (spChYe0 K) := by
  have GS : FnOk P w K mg base CX0 1 fS dS ["value", "states"] spStateOf := ok_stateof DS.F Z
  have GF : FnOk P w K mg base CX0 1 fF dF ["values", "right"] (spFirst0 K) := ok_first0 DF.F mE
  refine F.ok scCY (fun vs H Q E h => ?_) (fun cdv A outer s H vs Q E hr h => ?_)
  · obtain ⟨y, t, st, rfl, _⟩ := h
    rfl
  · obtain ⟨y, t, st, rfl, hy, ht, k⟩ := h
    refine ⟨_, pss_cons (ps_if (pt_not (pt_val (pe_callB call_isi (by rfl) Z.isi (by decide +kernel) (pa_cons (pv 0) (pa_cons (pe_bltn (v := .ty "tuple") (u := .type "tuple") (by rfl) mT (by decide +kernel) rfl) pa_nil))))) (pss_one ps_never) pss_nil)
      (pss_cons (ps_set (i := 2) scCY.nd rfl (.inl rfl) (pe_call GF hr rfl DF.g DF.kp DF.b .nil pass0 (pa_cons (pv 0) (pa_cons
          (pe_lc (own := [("state", 3)]) (g := gName 3) (tt := tYes) rfl scCY.nd (pi_tup (pv 0)) (blkOk_by (N := ["yes", "states", "wrong", "state"]) (sc := defScope sChYe) (by decide +kernel)) (fun _ _ _ _ _ => pg_name (i := 3) scCY.nd rfl (.inl rfl)) (fun _ _ _ _ _ => pts_nil)
            (fun _ _ _ _ _ => pe_call GS hr rfl DS.g DS.kp DS.b .nil pass0 (pa_cons (pv 3) (pa_cons (pv 1) pa_nil)))) pa_nil))))
      (pss_one (ps_if (pt_cmpR op_notN (pv 2) pe_non (nomark _)) (pss_one ps_never) pss_nil))), ?_⟩
    refine ⟨_, rfl, _, _, .type "tuple", .type "tuple", true, rfl, .ty "tuple", hy.ty _, kit_ty (by decide +kernel), true, rfl, ?_⟩
    refine ⟨_, rfl, _, rfl, y, rfl, ⟨_, hy.sq _⟩, fun D hD => lc_it (walk_tup (xs := [])) (fun i H3 => Same H H3) (Same.put (Same.refl H) hD) (fun _ _ _ h => hy.sq _) ?_ ?_⟩
    · rintro i x H3 H3' hi
      exact absurd hi (Nat.not_lt_zero _)
    · rintro H3 h2
      refine ⟨y, D, rfl, hy, fun H4 s4 => ?_⟩
      refine ⟨_, rfl, rfl, _, rfl, ?_⟩
      show if (!decide (V.non = V.non)) = true then _ else _
      rw [decide_eq_true rfl]
      exact iteF (k H4 (h2.trans s4))
theorem ok_orye0 (F : Fun K "ordered_yes" "ordered_yes" sOrYe f fd) (mT : mg "tuple" = none) : FnOk P w K mg base CX0 1 f fd ["yes", "states"] (spOrYe0 K) := by
  refine F.ok scOY (fun vs H Q E h => ?_) (fun cdv A outer s H vs Q E hr h => ?_)
  · obtain ⟨y, t, st, rfl, _⟩ := h
    rfl
  · obtain ⟨y, t, st, rfl, hy, ht, few, k⟩ := h
    refine ⟨_, pss_one (ps_ret (pe_callTy call_tuple_of (by rfl) mT (by decide +kernel) (pa_cons
      (pe_lc (own := [("state", 2)]) (g := gName 2) rfl scOY.nd (pi_tup (pv 1)) (blkOk_by (N := NOY) (sc := defScope sOrYe) (by decide +kernel)) (fun _ _ _ _ _ => pg_name (i := 2) scOY.nd rfl (.inl rfl)) (fun _ _ _ _ _ => pts_one (pt_cmpR (show OpR _ _ (rIn K false) from op_in_seq) (pv 2) (pv 0) (by rfl)))
        (fun _ _ _ _ _ => pv 2)) pa_nil))), ?_⟩
    refine ⟨_, rfl, t, rfl, ⟨_, SqT.of ht⟩, fun D hD => lc_it (walk_tup (xs := st.map V.str)) (fun i H3 => H3 D = some (.lst []) ∧ Same H H3) ⟨upd_same, Same.put (Same.refl H) hD⟩ (fun _ _ _ h => SqT.of (h.2 _ _ ht)) ?_ ?_⟩
    · rintro i x H3 H3' hi ⟨h1, h2⟩ ⟨rfl, hx⟩
      rw [List.getElem?_map] at hx
      obtain ⟨z, hz, rfl⟩ := Option.map_eq_some_iff.mp hx
      refine ⟨rfl, _, rfl, _, rfl, y, [], rfl, .inr (hy.sq _), rfl, rfl, _, rfl, ?_⟩
      rw [show inV (.str z) [] = false from rfl]
      exact iteF ⟨h1, h2⟩
    · rintro H3 ⟨h1, h2⟩
      exact ⟨D, _, rfl, .inl ⟨SqL.of h1, fun l hl => k l _ (none_of_same h2 hl) (Same.put h2 hl) upd_same⟩⟩
end
section
variable {P : Program} {w : World} {K : PySem.W.Frag} {mg : Str → Option Value} {base : Heap} {A : LA} {e : Addr}
set_option maxHeartbeats 0 in
theorem ok_loinit00 (D : LoopF K mg A e) (Z : Free mg) : FnOk P w K mg base CX0 4 A.fI A.dI ["self", "signs", "states", "rows", "turns", "yes"] (spLoInit00 K A.C A.T) := by
  obtain ⟨t600, g600⟩ := D.w600
  obtain ⟨t4, g4⟩ := D.w4
  obtain ⟨t8, g8⟩ := D.w8
  obtain ⟨t6, g6⟩ := D.w6
  have GS : FnOk P w K mg base CX0 2 A.signs A.dsigns ["value"] spIsSigns := ok_issigns D.signs.F Z D.isword t600 g600 t4 g4
  have G1 : FnOk P w K mg base CX0 2 A.chst A.dchst ["states"] spChSt := ok_chst D.chst.F Z D.tup D.enum t8 g8 t6 g6 D.isname D.first
  have G2 : FnOk P w K mg base CX0 3 A.chro A.dchro ["rows", "signs", "states"] spChRo := ok_chro D.chro.F Z D.tup D.enum D.zip D.rowof D.stateof D.signof D.isint D.first
  have G3 : FnOk P w K mg base CX0 3 A.chtu A.dchtu ["turns", "states"] (spChTu0 K) := ok_chtu0 D.chtu.F Z D.tup D.enum D.zip D.turnof D.stateof D.isint D.first
  have G4 : FnOk P w K mg base CX0 2 A.chye A.dchye ["yes", "states"] (spChYe0 K) := ok_chye0 D.chye.F Z D.tup D.enum D.stateof D.first
  have O1 : FnOk P w K mg base CX0 1 A.orro A.dorro ["rows", "signs", "states"] spOrRo := ok_orro D.orro.F D.tup
  have O2 : FnOk P w K mg base CX0 1 A.ortu A.dortu ["turns", "states"] (spOrTu0 K) := ok_ortu0 D.ortu.F D.tup
  have O3 : FnOk P w K mg base CX0 1 A.orye A.dorye ["yes", "states"] (spOrYe0 K) := ok_orye0 D.orye.F D.tup
  have GT : FnOk P w K mg base CX0 1 A.tI A.etI ["self", "row"] (spTaInit A.T) := ok_tainit D.TI D.T Z D.tup D.enum
  have GW : FnOk P w K mg base CX0 1 A.fW A.dW ["self"] (spLoRow A.C) := ok_lorow D
  obtain ⟨_, FI⟩ := D.FI
  refine FunD_ok' FI scLI (fun vs H Q E h => ?_) (fun cdv A' outer s H vs Q E hr h => ?_)
  · obtain ⟨H0, r, dx, t, rr, u, y, as, L, sg0, rw, rfl, _⟩ := h
    rfl
  · obtain ⟨H0, r, dx, t, rr, u, y, as, L, sg0, rw, rfl, O, srtL, TL, pr, s0, r0, hp, k⟩ := h
    have hr1 : Room 1 _ := hr.mono (by decide)
    have hr2 : Room 2 _ := hr.mono (by decide)
    refine ⟨_, pss_cons (ps_if (pt_not (pt_val (pe_call GS hr2 rfl D.signs.g D.signs.kp D.signs.b .nil pass0 (pa_cons (pv 1) pa_nil)))) (pss_one ps_never) pss_nil)
      (pss_cons (ps_expr (pe_call G1 hr2 rfl D.chst.g D.chst.kp D.chst.b .nil pass0 (pa_cons (pv 2) pa_nil)))
      (pss_cons (ps_expr (pe_call G2 hr rfl D.chro.g D.chro.kp D.chro.b .nil pass0 (pa_cons (pv 3) (pa_cons (pv 1) (pa_cons (pv 2) pa_nil)))))
      (pss_cons (ps_expr (pe_call G3 hr rfl D.chtu.g D.chtu.kp D.chtu.b .nil pass0 (pa_cons (pv 4) (pa_cons (pv 2) pa_nil))))
      (pss_cons (ps_expr (pe_call G4 hr2 rfl D.chye.g D.chye.kp D.chye.b .nil pass0 (pa_cons (pv 5) (pa_cons (pv 2) pa_nil))))
      (pss_cons (ps_fld (pv 0) (pe_join pe_str (pe_callB (call_sortedTx rfl) (by rfl) D.sort (by decide +kernel) (pa_cons (pv 1) pa_nil))) rfl)
      (pss_cons (ps_fld (pv 0) (pv 2) rfl)
      (pss_cons (ps_fld (pv 0) (pe_call O1 hr1 rfl D.orro.g D.orro.kp D.orro.b .nil pass0 (pa_cons (pv 3) (pa_cons (pe_fld (pv 0) rfl) (pa_cons (pv 2) pa_nil)))) rfl)
      (pss_cons (ps_fld (pv 0) (pe_call O2 hr1 rfl D.ortu.g D.ortu.kp D.ortu.b .nil pass0 (pa_cons (pv 4) (pa_cons (pv 2) pa_nil))) rfl)
      (pss_cons (ps_fld (pv 0) (pe_call O3 hr1 rfl D.orye.g D.orye.kp D.orye.b .nil pass0 (pa_cons (pv 5) (pa_cons (pv 2) pa_nil))) rfl)
      (pss_one (ps_fld (pv 0) (pe_make D.MT GT hr2 rfl D.gT D.bTI .nil pass0 (pa_cons (pe_prop (pv 0) D.L.cl D.hW GW hr2 D.bW .nil pass0 rfl) pa_nil)) rfl))))))))))), ?_⟩
    have sf := O.sts.few
    have sgf := O.sgs.few
    have few := rows_few O
    have lrw : rw.length = L.rows.length := TL.rwP.length_eq
    have lenA : as.length = rw.length := by rw [pr.hT.length, List.length_map]
    have tl := turns_length L
    have n6 : L.n ≤ 6 := sf
    have lsg : sg0.length = L.sg.length := TL.sgP.length_eq
    have pos := O.sgs.pos
    have G0 : Sgs sg0 := ⟨fun c hc => O.sgs.low c (TL.sgP.mem_iff.mp hc), TL.sgP.nodup_iff.mpr O.sgs.nd, by omega, by omega⟩
    have tfew := TL.tfew
    have yfew := TL.yfew
    obtain ⟨bs0, pT, pk⟩ := picks pr.hT L.rows fun x hx => TL.rwP.mem_iff.mpr hx
    have lbs : bs0.length = L.rows.length := by rw [pT.length, List.length_map]
    have knd : (rw.map Row.k).Nodup := (TL.rwP.map Row.k).nodup_iff.mpr (rows_key_nd O)
    have RB : RowsBy L.st L.sg (rw.map Row.k) as bs0 := by
      refine ⟨by rw [lbs, rows_length] <;> rfl, fun i j z c hz hc => ?_⟩
      have hi : i < L.n := (List.getElem?_eq_some_iff.mp hz).1
      have e : L.nm i = z := Option.some.inj ((nm_at hi).symm.trans hz)
      obtain ⟨m, a, m1, m2, m3⟩ := pk _ _ (rows_at hi hc)
      refine ⟨m, a, ?_, m2, m3⟩
      rw [List.getElem?_map, m1, ← e] <;> rfl
    refine ⟨_, rfl, sg0, rfl, G0, fun H1 s1 => ⟨true, rfl, ?_⟩⟩
    have p1 := pr.same s1
    refine ⟨_, rfl, t, L.st, rfl, p1.ht, O.sts, fun H2 s2 => ?_⟩
    have p2 := p1.same s2
    refine ⟨_, rfl, _, rfl, _, rfl, rr, t, sg0, as, rw, L.st, rfl, p2.hr, p2.hT, p2.ht, ?_, knd, ?_, by omega, sf, ?_, fun H3 s3 => ?_⟩
    · intro ρ hρ
      obtain ⟨i, c, hi, hc, rfl⟩ := rows_mem (TL.rwP.mem_iff.mp hρ)
      exact ⟨nm_mem hi, TL.sgP.mem_iff.mpr hc, nm_mem (O.nxlt i c hi hc)⟩
    · intro ρ hρ
      obtain ⟨i, c, hi, hc, rfl⟩ := rows_mem (TL.rwP.mem_iff.mp hρ)
      exact ⟨ok_st O (nm_mem hi), ok_sign O hc⟩
    · rw [lrw, rows_length, lsg, Nat.mul_comm] <;> rfl
    have p3 := p2.same s3
    refine ⟨_, rfl, _, rfl, u, t, L.st, rfl, p3.hu, p3.ht, fun H4 s4 => ?_⟩
    have p4 := p3.same s4
    refine ⟨_, rfl, _, rfl, y, t, L.st, rfl, p4.hy, p4.ht, fun H5 s5 => ?_⟩
    have s05 : Same H H5 := (((s1.trans s2).trans s3).trans s4).trans s5
    have S5 : Same H0 H5 := s0.trans s05
    have hr5 : H5 r = some (.ins A.C dx []) := s05 _ _ hp
    clear p1 p2 p3 p4 s1 s2 s3 s4 s5
    -- signs
    refine ⟨⟨_, rfl⟩, _, rfl, S sg0, rfl, by rw [S_len]; omega, fun ys p perm srt hp' => ?_⟩
    rw [S_cps] at perm
    obtain ⟨sg, hsg, rfl⟩ := perm_codes perm
    obtain rfl : sg = L.sg := sg_same srt srtL (hsg.trans TL.sgP) (.refl _)
    have nrp : r ≠ p := ne_of_none hr5 hp'
    refine ⟨_, p, L.sg.map sOne, rfl, rfl, .inl (SqL.of upd_same), ?_, ?_⟩
    · have e1 : ((L.sg.map sOne).map fun x => x.length) = List.replicate L.sg.length 1 := by
        rw [List.map_map]
        exact List.map_eq_replicate_iff.mpr fun _ _ => rfl
      have e2 : (Str.ofString "").length = 0 := by decide +kernel
      rw [e1, e2, List.sum_replicate_nat]
      omega
    have ej : Txt.join (Str.ofString "") (L.sg.map sOne) = S L.sg := join_one pos
    rw [ej]
    refine ⟨_, rfl, r, A.C, dx, _, rfl, (upd_ne nrp).trans hr5, D.L.cl, D.L.n1, (by show 0 < 1000; decide), ?_⟩
    have B6 : But r H (L2.upd (L2.upd H5 p (.lst ((L.sg.map sOne).map V.str))) r (.ins A.C dx (putF "_signs" (.str (S L.sg)) []))) := But.here ((But.of s05).upd hp')
    have S6 : Same H0 (L2.upd (L2.upd H5 p (.lst ((L.sg.map sOne).map V.str))) r (.ins A.C dx (putF "_signs" (.str (S L.sg)) []))) := Same.new' (Same.put S5 hp') r0
    have hr6 : (L2.upd (L2.upd H5 p (.lst ((L.sg.map sOne).map V.str))) r (.ins A.C dx (putF "_signs" (.str (S L.sg)) []))) r = some (.ins A.C dx (putF "_signs" (.str (S L.sg)) [])) := upd_same
    generalize L2.upd (L2.upd H5 p (.lst ((L.sg.map sOne).map V.str))) r (.ins A.C dx (putF "_signs" (.str (S L.sg)) [])) = H6 at B6 S6 hr6 ⊢
    -- states
    refine ⟨_, rfl, _, rfl, r, A.C, dx, _, rfl, hr6, D.L.cl, D.L.n2, (by show 1 < 1000; decide), ?_⟩
    have B7 : But r H (L2.upd H6 r (.ins A.C dx (putF "_states" (.ref t) (putF "_signs" (.str (S L.sg)) [])))) := But.here B6
    have S7 : Same H0 (L2.upd H6 r (.ins A.C dx (putF "_states" (.ref t) (putF "_signs" (.str (S L.sg)) [])))) := Same.new' S6 r0
    have hr7 : (L2.upd H6 r (.ins A.C dx (putF "_states" (.ref t) (putF "_signs" (.str (S L.sg)) [])))) r = some (.ins A.C dx (putF "_states" (.ref t) (putF "_signs" (.str (S L.sg)) []))) := upd_same
    generalize L2.upd H6 r (.ins A.C dx (putF "_states" (.ref t) (putF "_signs" (.str (S L.sg)) []))) = H7 at B7 S7 hr7 ⊢
    have p7 : Prt00 K L.st rw t rr u y as H7 := pr.but (fun x => by intro q; cases q) hp B7
    -- rows
    refine ⟨_, rfl, _, rfl, r, A.C, dx, _, _, rfl, hr7, D.L.cl, D.L.n1, (by rw [lookup_putF, if_neg (by decide +kernel), lookup_putF, if_pos rfl]), _, rfl, rr, t, L.sg, as, bs0, rw, L.st, rfl, p7.hr, p7.hT, p7.ht, knd, by omega, RB, by omega, fun rr' H8 n8 s8 hrr => ?_⟩
    refine ⟨_, rfl, r, A.C, dx, _, rfl, s8 _ _ hr7, D.L.cl, D.L.n3, (by show 2 < 1000; decide), ?_⟩
    have nrr : rr' ≠ r := ne_of_none' hr7 n8
    generalize e8 : putF "_rows" (.ref rr') (putF "_states" (.ref t) (putF "_signs" (.str (S L.sg)) [])) = fs8
    have B8 : But r H (L2.upd H8 r (.ins A.C dx fs8)) := But.here (B7.trans (But.of s8))
    have S8 : Same H0 (L2.upd H8 r (.ins A.C dx fs8)) := Same.new' (S7.trans s8) r0
    have hr8 : (L2.upd H8 r (.ins A.C dx fs8)) r = some (.ins A.C dx fs8) := upd_same
    have hrr8 : (L2.upd H8 r (.ins A.C dx fs8)) rr' = some (.tup (bs0.map V.ref)) := (upd_ne nrr).trans hrr
    generalize L2.upd H8 r (.ins A.C dx fs8) = H9 at B8 S8 hr8 hrr8 ⊢
    have p8 : Prt00 K L.st rw t rr u y as H9 := pr.but (fun x => by intro q; cases q) hp B8
    -- turns
    refine ⟨_, rfl, _, rfl, u, t, L.st, rfl, p8.hu, p8.ht, sf, fun u' bs' H10 n10 s10 hu' hU' => ?_⟩
    rw [TL.tnE] at hU'
    refine ⟨_, rfl, r, A.C, dx, _, rfl, s10 _ _ hr8, D.L.cl, D.L.n4, (by rw [← e8]; show 3 < 1000; decide), ?_⟩
    have nuu : u' ≠ r := ne_of_none' hr8 n10
    generalize e10 : putF "_turns" (.ref u') fs8 = fs10
    have B10 : But r H (L2.upd H10 r (.ins A.C dx fs10)) := But.here (B8.trans (But.of s10))
    have S10 : Same H0 (L2.upd H10 r (.ins A.C dx fs10)) := Same.new' (S8.trans s10) r0
    have hr10 : (L2.upd H10 r (.ins A.C dx fs10)) r = some (.ins A.C dx fs10) := upd_same
    have hrr10 : (L2.upd H10 r (.ins A.C dx fs10)) rr' = some (.tup (bs0.map V.ref)) := (upd_ne nrr).trans (s10 _ _ hrr8)
    have hu10 : (L2.upd H10 r (.ins A.C dx fs10)) u' = some (.tup (bs'.map V.ref)) := (upd_ne nuu).trans hu'
    have hU10 : Tups (L2.upd H10 r (.ins A.C dx fs10)) bs' (L.turns.map Trn.v) := Tups.but (fun x => by intro q; cases q) (s10 _ _ hr8) (But.here (But.refl r _)) hU'
    generalize L2.upd H10 r (.ins A.C dx fs10) = H11 at B10 S10 hr10 hrr10 hu10 hU10 ⊢
    have p10 : Prt00 K L.st rw t rr u y as H11 := pr.but (fun x => by intro q; cases q) hp B10
    -- yes
    refine ⟨_, rfl, _, rfl, y, t, L.st, rfl, p10.hy, p10.ht, sf, fun y' H12 n12 s12 hy' => ?_⟩
    rw [show ([] : List V) = L.yes.map V.str by rw [← TL.yeE, List.filter_eq_nil_iff.mpr fun _ _ => by simp] <;> rfl] at hy'
    refine ⟨_, rfl, r, A.C, dx, _, rfl, s12 _ _ hr10, D.L.cl, D.L.n5, (by rw [← e10, ← e8]; show 4 < 1000; decide), ?_⟩
    have nyy : y' ≠ r := ne_of_none' hr10 n12
    generalize e12 : putF "_yes" (.ref y') fs10 = fs12
    have B12 : But r H (L2.upd H12 r (.ins A.C dx fs12)) := But.here (B10.trans (But.of s12))
    have S12 : Same H0 (L2.upd H12 r (.ins A.C dx fs12)) := Same.new' (S10.trans s12) r0
    have hr12 : (L2.upd H12 r (.ins A.C dx fs12)) r = some (.ins A.C dx fs12) := upd_same
    have hy12 : (L2.upd H12 r (.ins A.C dx fs12)) y' = some (.tup (L.yes.map V.str)) := (upd_ne nyy).trans hy'
    have hrr12 : (L2.upd H12 r (.ins A.C dx fs12)) rr' = some (.tup (bs0.map V.ref)) := (upd_ne nrr).trans (s12 _ _ hrr10)
    have hu12 : (L2.upd H12 r (.ins A.C dx fs12)) u' = some (.tup (bs'.map V.ref)) := (upd_ne nuu).trans (s12 _ _ hu10)
    have hU12 : Tups (L2.upd H12 r (.ins A.C dx fs12)) bs' (L.turns.map Trn.v) := Tups.but (fun x => by intro q; cases q) (s12 _ _ hr10) (But.here (But.refl r _)) (hU10.same s12)
    generalize L2.upd H12 r (.ins A.C dx fs12) = H13 at B12 S12 hr12 hy12 hrr12 hu12 hU12 ⊢
    have p12 : Prt00 K L.st rw t rr u y as H13 := pr.but (fun x => by intro q; cases q) hp B12
    have q12 : Prt L t rr' u' y' bs0 bs' H13 := ⟨p12.ht, hrr12, pT.but (fun x => by intro q; cases q) hp B12, hu12, hU12, hy12⟩
    -- the table
    have look : fs12.lookup ("_signs" : Str) = some (.str (S L.sg)) ∧ fs12.lookup ("_states" : Str) = some (.ref t) ∧ fs12.lookup ("_rows" : Str) = some (.ref rr') ∧ fs12.lookup ("_turns" : Str) = some (.ref u') ∧ fs12.lookup ("_yes" : Str) = some (.ref y') := by
      rw [← e12, ← e10, ← e8]
      refine ⟨?_, ?_, ?_, ?_, ?_⟩ <;> repeat (first | rw [lookup_putF, if_neg (by decide +kernel)] | rw [lookup_putF, if_pos rfl])
    obtain ⟨k1, k2, k3, k4, k5⟩ := look
    refine ⟨_, rfl, r, dx, _, rfl, hr12, r, dx, t, rr', u', y', _, _, rfl, hr12, k1, k2, k3, k4, k5, fun q hq tb dxt htb hdx ne => ?_⟩
    have sq := Same.put (o := .tup [.str (S L.sg), .ref t, .ref rr', .ref u', .ref y']) (Same.refl H13) hq
    have hq14 : (L2.upd H13 q (.tup [.str (S L.sg), .ref t, .ref rr', .ref u', .ref y'])) q = some (.tup [.str (S L.sg), .ref t, .ref rr', .ref u', .ref y']) := upd_same
    generalize L2.upd H13 q (.tup [.str (S L.sg), .ref t, .ref rr', .ref u', .ref y']) = H14 at sq hq14 htb hdx ⊢
    have sm : Same H14 (L2.upd (L2.upd H14 dxt (.own tb)) tb (.ins A.T dxt [])) := Same.new' (Same.new' (Same.refl H14) hdx) htb
    refine ⟨H14, tb, dxt, q, L, rfl, O, ((q12.same sq).same sm).row (sm _ _ hq14), sm, htb, upd_same, fun H15 s15 TA => ⟨rfl, ?_⟩⟩
    have s16 := sq.trans s15
    have ntb : tb ≠ r := ne_of_none' (sq _ _ hr12) htb
    refine ⟨_, rfl, r, A.C, dx, _, rfl, s16 _ _ hr12, D.L.cl, D.L.n6, (by rw [← e12, ← e10, ← e8]; show 5 < 1000; decide), ?_⟩
    have hr16 := s16 _ _ hr12
    refine k _ (Same.new' (S12.trans s16) r0) ⟨dx, t, rr', u', y', tb, bs0, bs', ?_, ?_, ?_⟩
    · rw [upd_same, ← e12, ← e10, ← e8] <;> rfl
    · exact (q12.same s16).but (o := .ins A.C dx fs12) (fun x => by intro q; cases q) hr16 (But.here (But.refl r _))
    · exact TA.but ntb hr16 (But.here (But.refl r _))

end
end Wb
/-! Loop.__init__ of values of any sort, good or refused -/
namespace Lg
open PySem L2 PySem.Spec PyProof.Rows WbMin WbS Lz Wb Le
section
variable {H H' : Hp} {x : V} {st : List Str} {sg : List Nat}
theorem stW_same (h : Wh H x) (s : Same H H') : stW H' x = stW H x := by
  cases h with
  | one h => rw [stW_one h, stW_one (h.same s)]
  | tup h l r => rw [stW_tup h, stW_tup (s _ _ h)]
theorem yeW_same (h : Wh H x) (s : Same H H') : yeW H' st x = yeW H st x := by
  cases h with
  | one h => rw [yeW_one h, yeW_one (h.same s)]
  | tup h l r => rw [yeW_tup h, yeW_tup (s _ _ h)]
theorem tuW_same (h : Wh H x) (s : Same H H') : tuW H' st x = tuW H st x := by
  cases h with
  | one h => rw [tuW_one h, tuW_one (h.same s)]
  | tup h l r => rw [tuW_tup h, tuW_tup (s _ _ h), List.map_congr_left fun y hy => tnK_same (r y hy) s]
theorem roW_same (h : Wh H x) (s : Same H H') : roW H' sg st x = roW H sg st x := by
  cases h with
  | one h => rw [roW_one h, roW_one (h.same s)]
  | tup h l r =>
    rw [roW_tup h, roW_tup (s _ _ h)]
    unfold rwR
    rw [List.map_congr_left fun y hy => rwK_same (r y hy) s]
end
/-- what is wrong of turns, the default among them -/
def TuIs (f : Bool) (K : PySem.W.Frag) (H : Hp) (st : List Str) (x : V) (o : Option V) : Prop := (f = false ∧ Wh H x ∧ tuW H st x = o) ∨ (f = true ∧ ∃ y, x = .ref y ∧ E0 K y ∧ o = none)
def YeIs (f : Bool) (K : PySem.W.Frag) (H : Hp) (st : List Str) (x : V) (o : Option V) : Prop := (f = false ∧ Wh H x ∧ yeW H st x = o) ∨ (f = true ∧ ∃ y, x = .ref y ∧ E0 K y ∧ o = none)
theorem TuIs.same {f : Bool} {K : PySem.W.Frag} {H H' : Hp} {st : List Str} {x : V} {o : Option V} (h : TuIs f K H st x o) (s : Same H H') : TuIs f K H' st x o := h.imp (fun ⟨e, a, b⟩ => ⟨e, a.same s, (tuW_same a s).trans b⟩) id
theorem YeIs.same {f : Bool} {K : PySem.W.Frag} {H H' : Hp} {st : List Str} {x : V} {o : Option V} (h : YeIs f K H st x o) (s : Same H H') : YeIs f K H' st x o := h.imp (fun ⟨e, a, b⟩ => ⟨e, a.same s, (yeW_same a s).trans b⟩) id
/-- what is wrong of the parts of a loop, the first that is: which check, and what the error keeps -/
inductive LoDue (f : Bool) (K : PySem.W.Frag) (H : Hp) (sV tV rV uV yV : V) : Option (Nat × V) → Prop
  | sg (h : signsB sV = false) : LoDue f K H sV tV rV uV yV (some (0, sV))
  | st {v : V} (h : signsB sV = true) (e : stW H tV = some v) : LoDue f K H sV tV rV uV yV (some (1, v))
  | ro {v : V} {sg : List Nat} {t : Addr} {st : List Str} (h : sV = .str (S sg)) (G : Sgs sg) (ht : tV = .ref t) (hT : H t = some (.tup (st.map V.str))) (T : Sts st) (es : stW H tV = none) (e : roW H sg st rV = some v) : LoDue f K H sV tV rV uV yV (some (2, v))
  | tu {v : V} {sg : List Nat} {t : Addr} {st : List Str} (h : sV = .str (S sg)) (G : Sgs sg) (ht : tV = .ref t) (hT : H t = some (.tup (st.map V.str))) (T : Sts st) (es : stW H tV = none) (er : roW H sg st rV = none) (e : TuIs f K H st uV (some v)) : LoDue f K H sV tV rV uV yV (some (3, v))
  | ye {v : V} {sg : List Nat} {t : Addr} {st : List Str} (h : sV = .str (S sg)) (G : Sgs sg) (ht : tV = .ref t) (hT : H t = some (.tup (st.map V.str))) (T : Sts st) (es : stW H tV = none) (er : roW H sg st rV = none) (eu : TuIs f K H st uV none) (e : YeIs f K H st yV (some v)) : LoDue f K H sV tV rV uV yV (some (4, v))
  | ok {sg : List Nat} {t : Addr} {st : List Str} (h : sV = .str (S sg)) (G : Sgs sg) (ht : tV = .ref t) (hT : H t = some (.tup (st.map V.str))) (T : Sts st) (es : stW H tV = none) (er : roW H sg st rV = none) (eu : TuIs f K H st uV none) (e : YeIs f K H st yV none) : LoDue f K H sV tV rV uV yV none
theorem sts_ok {sg : List Nat} {st : List Str} (G : Sgs sg) (T : Sts st) : OkT sg st := ⟨fun z hz => by
    obtain ⟨l, rfl, N⟩ := T.of z hz
    exact ok_codes fun c hc => by rcases N.ok c hc with h | h <;> omega, fun c hc => ok_codes fun d hd => by
    rw [List.mem_singleton] at hd
    subst hd
    have := G.low d hc
    omega, G.few, T.few⟩
/-- the errors of the checks -/
structure EL where
  cG : Addr
  fG : Addr
  dG : FuncData
  cS : Addr
  fS : Addr
  dS : FuncData
  cR : Addr
  fR : Addr
  dR : FuncData
  cT : Addr
  fT : Addr
  dT : FuncData
abbrev sErrInvalidSigns : Stmt := inClass (top 18) 0
structure ErL (K : PySem.W.Frag) (mg : Str → Option Value) (B : EL) : Prop where
  EG : ErrF K mg "InvalidSigns" "given" "InvalidSigns.__init__" sErrInvalidSigns B.cG B.fG B.dG
  ES : ErrF K mg "InvalidStates" "index" "InvalidStates.__init__" sErrInvalidStates B.cS B.fS B.dS
  ER : ErrF K mg "InvalidRows" "index" "InvalidRows.__init__" sErrInvalidRows B.cR B.fR B.dR
  ET : ErrF K mg "InvalidTurns" "index" "InvalidTurns.__init__" sErrInvalidTurns B.cT B.fT B.dT
/-- the class of an error and what it keeps as what -/
def EL.cls (B : EL) : Nat → Addr × Str
  | 0 => (B.cG, "given")
  | 1 => (B.cS, "index")
  | 2 => (B.cR, "index")
  | 3 => (B.cT, "index")
  | _ => (B.cS, "index")
def spLoBad (K : PySem.W.Frag) (B : EL) : Sp := fun vs H _ E => ∃ (p r : Addr) (sV tV rV uV yV : V) (d : PyData) (i : Nat) (v : V) (f : Bool), vs = [.ref r, sV, tV, rV, uV, yV] ∧ Any p H sV d ∧ Wh H tV ∧ Wh H rV ∧ LoDue f K H sV tV rV uV yV (some (i, v)) ∧ FailsN E (B.cls i).1 (B.cls i).2 v H
def spChTuI (K : PySem.W.Frag) (C : Addr) : Sp := fun vs H Q E => ∃ (x : V) (t : Addr) (st : List Str) (o : Option V) (f : Bool), vs = [x, .ref t] ∧ TuIs f K H st x o ∧ H t = some (.tup (st.map V.str)) ∧ Outc Q E C "index" H o
def spChYeI (K : PySem.W.Frag) (C : Addr) : Sp := fun vs H Q E => ∃ (x : V) (t : Addr) (st : List Str) (o : Option V) (f : Bool), vs = [x, .ref t] ∧ YeIs f K H st x o ∧ H t = some (.tup (st.map V.str)) ∧ Outc Q E C "index" H o
section
variable {P : Program} {w : World} {K : PySem.W.Frag} {mg : Str → Option Value} {base : Heap} {A : LA} {B : EL} {e : Addr}
theorem scErrG : FnScope ["self", "given"] ["self", "given"] (defScope sErrInvalidSigns) := ⟨rfl, rfl, rfl, by decide +kernel, rfl, by decide +kernel, by decide +kernel⟩
theorem ok_errG {C f : Addr} {fd : FuncData} (E : ErrF K mg "InvalidSigns" "given" "InvalidSigns.__init__" sErrInvalidSigns C f fd) : FnOk P w K mg base CX0 1 f fd ["self", "given"] (spErr C "given") := by
  refine E.F.ok scErrG (fun vs H Q E h => by obtain ⟨a, y, rfl, _⟩ := h; rfl) (fun cdv A outer s H vs Q E' hr h => ?_)
  obtain ⟨a, y, rfl, ha, k⟩ := h
  exact ⟨_, pss_one (ps_ost (pv 0) (pv 1)), _, rfl, _, rfl, a, C, rfl, E.o, E.no, .inl ⟨ha, k⟩⟩
theorem ok_chtuI (D : LoopF K mg A e) (Z : Free mg) (EB : ErL K mg B) : FnOk P w K mg base (L2N.CX P w) 3 A.chtu A.dchtu ["turns", "states"] (spChTuI K B.cT) :=
  (Wb.FnOk.either (ok_chtuA D.chtu.F Z D.tup D.enum D.zip D.turnof D.stateof D.isint D.first EB.ET) ((Wb.FnOk.calm (ok_chtu0 D.chtu.F Z D.tup D.enum D.zip D.turnof D.stateof D.isint D.first)).mono (by decide))).imp fun vs H Q E h => by
    obtain ⟨x, t, st, o, f, rfl, tu, ht, k⟩ := h
    rcases tu with ⟨_, wh, rfl⟩ | ⟨_, y, rfl, e0, rfl⟩
    · exact .inl ⟨x, t, st, rfl, wh, ht, k⟩
    · exact .inr ⟨y, t, st, rfl, e0, ht, k⟩
theorem ok_chyeI (D : LoopF K mg A e) (Z : Free mg) (EB : ErL K mg B) : FnOk P w K mg base (L2N.CX P w) 3 A.chye A.dchye ["yes", "states"] (spChYeI K B.cS) :=
  (Wb.FnOk.either (ok_chyeA D.chye.F Z D.tup D.enum D.stateof D.first EB.ES) ((Wb.FnOk.calm (ok_chye0 D.chye.F Z D.tup D.enum D.stateof D.first)).mono (by decide))).imp fun vs H Q E h => by
    obtain ⟨x, t, st, o, f, rfl, tu, ht, k⟩ := h
    rcases tu with ⟨_, wh, rfl⟩ | ⟨_, y, rfl, e0, rfl⟩
    · exact .inl ⟨x, t, st, rfl, wh, ht, k⟩
    · exact .inr ⟨y, t, st, rfl, e0, ht, k⟩
set_option maxHeartbeats 2000000 in
theorem ok_lobad (D : LoopF K mg A e) (Z : Free mg) (EB : ErL K mg B) : FnOk P w K mg base (L2N.CX P w) 4 A.fI A.dI ["self", "signs", "states", "rows", "turns", "yes"] (spLoBad K B) := by
  obtain ⟨t600, g600⟩ := D.w600
  obtain ⟨t4, g4⟩ := D.w4
  obtain ⟨t8, g8⟩ := D.w8
  obtain ⟨t6, g6⟩ := D.w6
  have GS : FnOk P w K mg base CX0 2 A.signs A.dsigns ["value"] spIsSignsA := ok_issignsA D.signs.F Z D.isword t600 g600 t4 g4
  have G1 : FnOk P w K mg base (L2N.CX P w) 3 A.chst A.dchst ["states"] (spChStA B.cS) := ok_chstA D.chst.F Z D.tup D.enum t8 g8 t6 g6 D.isname D.first EB.ES
  have G2 : FnOk P w K mg base (L2N.CX P w) 3 A.chro A.dchro ["rows", "signs", "states"] (spChRoA B.cR) := ok_chroA D.chro.F Z D.tup D.enum D.zip D.rowof D.stateof D.signof D.isint D.first EB.ER
  have G3 : FnOk P w K mg base (L2N.CX P w) 3 A.chtu A.dchtu ["turns", "states"] (spChTuI K B.cT) := ok_chtuI D Z EB
  have G4 : FnOk P w K mg base (L2N.CX P w) 3 A.chye A.dchye ["yes", "states"] (spChYeI K B.cS) := ok_chyeI D Z EB
  have GE : FnOk P w K mg base CX0 1 B.fG B.dG ["self", "given"] (spErr B.cG "given") := ok_errG EB.EG
  obtain ⟨_, FI⟩ := D.FI
  refine FI.ok scLI (fun vs H Q E h => by obtain ⟨p, r, sV, tV, rV, uV, yV, d, i, v, f, rfl, _⟩ := h; rfl) (fun cdv A' outer s H vs Q E hr h => ?_)
  obtain ⟨p, r, sV, tV, rV, uV, yV, d, i, v, f, rfl, hs, ht, hr', due, k⟩ := h
  have hr2 : Room 2 _ := hr.mono (by decide)
  refine ⟨_, pss_cons (ps_if (pt_not (pt_val (pe_call GS hr2 rfl D.signs.g D.signs.kp D.signs.b .nil pass0 (pa_cons (pv 1) pa_nil)))) (pss_one (ps_bad EB.EG GE hr2 rfl (L2N.takes_of rfl rfl rfl rfl) rfl (pv 1))) pss_nil)
    (pss_cons (ps_expr (pe_call G1 hr rfl D.chst.g D.chst.kp D.chst.b .nil (passNg (L2N.takes_of rfl rfl rfl rfl)) (pa_cons (pv 2) pa_nil)))
    (pss_cons (ps_expr (pe_call G2 hr rfl D.chro.g D.chro.kp D.chro.b .nil (passNg (L2N.takes_of rfl rfl rfl rfl)) (pa_cons (pv 3) (pa_cons (pv 1) (pa_cons (pv 2) pa_nil)))))
    (pss_cons (ps_expr (pe_call G3 hr rfl D.chtu.g D.chtu.kp D.chtu.b .nil (passNg (L2N.takes_of rfl rfl rfl rfl)) (pa_cons (pv 4) (pa_cons (pv 2) pa_nil))))
    (pss_cons (ps_expr (pe_call G4 hr rfl D.chye.g D.chye.kp D.chye.b .nil (passNg (L2N.takes_of rfl rfl rfl rfl)) (pa_cons (pv 5) (pa_cons (pv 2) pa_nil)))) pss_never)))), ?_⟩
  refine ⟨_, rfl, p, sV, d, rfl, hs, fun H1 s1 => ?_⟩
  cases due with
  | sg h =>
    rw [h]
    exact ⟨false, rfl, iteT ⟨_, rfl, fun dx n => k dx H1 s1 n⟩⟩
  | st h e =>
    rw [h]
    refine ⟨true, rfl, iteF ⟨_, rfl, tV, rfl, ht.same s1, ?_⟩⟩
    rw [stW_same ht s1, e]
    exact k.mono s1
  | ro h G ht' hT T es e =>
    subst h
    subst ht'
    rw [signsB_S, sgnB_iff.mpr G]
    refine ⟨true, rfl, iteF ⟨_, rfl, _, rfl, ht.same s1, ?_⟩⟩
    rw [stW_same ht s1, es]
    intro H2 s2
    have s12 := s1.trans s2
    refine ⟨_, rfl, _, rfl, _, rfl, rV, _, _, _, rfl, hr'.same s12, s12 _ _ hT, sts_ok G T, ?_⟩
    rw [roW_same hr' s12, e]
    exact k.mono s12
  | tu h G ht' hT T es er eu =>
    subst h
    subst ht'
    rw [signsB_S, sgnB_iff.mpr G]
    refine ⟨true, rfl, iteF ⟨_, rfl, _, rfl, ht.same s1, ?_⟩⟩
    rw [stW_same ht s1, es]
    intro H2 s2
    have s12 := s1.trans s2
    refine ⟨_, rfl, _, rfl, _, rfl, rV, _, _, _, rfl, hr'.same s12, s12 _ _ hT, sts_ok G T, ?_⟩
    rw [roW_same hr' s12, er]
    intro H3 s3
    have s13 := s12.trans s3
    exact ⟨_, rfl, _, rfl, uV, _, _, _, _, rfl, eu.same s13, s13 _ _ hT, k.mono s13⟩
  | ye h G ht' hT T es er eu ey =>
    subst h
    subst ht'
    rw [signsB_S, sgnB_iff.mpr G]
    refine ⟨true, rfl, iteF ⟨_, rfl, _, rfl, ht.same s1, ?_⟩⟩
    rw [stW_same ht s1, es]
    intro H2 s2
    have s12 := s1.trans s2
    refine ⟨_, rfl, _, rfl, _, rfl, rV, _, _, _, rfl, hr'.same s12, s12 _ _ hT, sts_ok G T, ?_⟩
    rw [roW_same hr' s12, er]
    intro H3 s3
    have s13 := s12.trans s3
    refine ⟨_, rfl, _, rfl, uV, _, _, _, _, rfl, eu.same s13, s13 _ _ hT, fun H4 s4 => ?_⟩
    have s14 := s13.trans s4
    exact ⟨_, rfl, _, rfl, yV, _, _, _, _, rfl, ey.same s14, s14 _ _ hT, k.mono s14⟩
end
end Lg
/-! Loop.__init__ of values of any sort: good and refused together -/
namespace Lg
open PySem L2 PySem.Spec PyProof.Rows WbMin WbS Lz Wb Le
/-- turns and yes states as they are told, or both left out -/
def Tail (f : Bool) (K : PySem.W.Frag) (H : Hp) (uV yV : V) : Prop := (f = false ∧ Wh H uV ∧ Wh H yV) ∨ (f = true ∧ ∃ u y, uV = .ref u ∧ yV = .ref y ∧ E0 K u ∧ E0 K y)
theorem Tail.same {f : Bool} {K : PySem.W.Frag} {H H' : Hp} {uV yV : V} (h : Tail f K H uV yV) (s : Same H H') : Tail f K H' uV yV := h.imp (fun ⟨e, a, b⟩ => ⟨e, a.same s, b.same s⟩) id
theorem LoDue.same {f : Bool} {K : PySem.W.Frag} {H H' : Hp} {sV tV rV uV yV : V} {o : Option (Nat × V)} (ht : Wh H tV) (hr : Wh H rV) (h : LoDue f K H sV tV rV uV yV o) (s : Same H H') : LoDue f K H' sV tV rV uV yV o := by
  cases h with
  | sg h => exact .sg h
  | st h e => exact .st h ((stW_same ht s).trans e)
  | ro h G a b T es e => exact .ro h G a (s _ _ b) T ((stW_same ht s).trans es) ((roW_same hr s).trans e)
  | tu h G a b T es er e => exact .tu h G a (s _ _ b) T ((stW_same ht s).trans es) ((roW_same hr s).trans er) (e.same s)
  | ye h G a b T es er eu e => exact .ye h G a (s _ _ b) T ((stW_same ht s).trans es) ((roW_same hr s).trans er) (eu.same s) (e.same s)
  | ok h G a b T es er eu e => exact .ok h G a (s _ _ b) T ((stW_same ht s).trans es) ((roW_same hr s).trans er) (eu.same s) (e.same s)
def spLoInitX (K : PySem.W.Frag) (B : EL) (C T : Addr) : Sp := fun vs H Q E => ∃ (H0 : Hp) (p r dx : Addr) (sV tV rV uV yV : V) (d : PyData) (o : Option (Nat × V)) (f : Bool), vs = [.ref r, sV, tV, rV, uV, yV] ∧ Any p H0 sV d ∧ Wh H0 tV ∧ Wh H0 rV ∧ Tail f K H0 uV yV ∧ LoDue f K H0 sV tV rV uV yV o ∧ Same H0 H ∧ H0 r = none ∧ H r = some (.ins C dx []) ∧
  (o = none → ∀ H', Same H0 H' → (∃ L, LoopAt C T H' r L) → Q .non H') ∧ (∀ i v, o = some (i, v) → FailsN E (B.cls i).1 (B.cls i).2 v H0)
section
variable {K : PySem.W.Frag} {H : Hp} {rV uV yV : V} {sg : List Nat} {st : List Str}
theorem good_rows (wh : Wh H rV) (h : roW H sg st rV = none) : ∃ (rr : Addr) (as : List Addr) (rw : List Wb.Row), rV = .ref rr ∧ H rr = some (.tup (as.map V.ref)) ∧ Tups H as (rw.map Row.v) ∧ (rw.map Row.k).Nodup ∧ (∀ ρ ∈ rw, ρ.a ∈ st ∧ ρ.c ∈ sg ∧ ρ.b ∈ st) ∧ sg.length * st.length ≤ rw.length := by
  cases wh with
  | one ho =>
    rw [roW_one ho] at h
    cases h
  | @tup rr xs hR l r =>
    rw [roW_tup hR] at h
    unfold rwR at h
    cases e : fwO (xs.map (rwK H sg st)) with
    | some i =>
      rw [e] at h
      cases h
    | none =>
      rw [e] at h
      have h : (if xs.length < sg.length * st.length then some V.non else none) = none := h
      by_cases hc : xs.length < sg.length * st.length
      · rw [if_pos hc] at h
        cases h
      obtain ⟨ks, k1, k2⟩ := fwO_not e
      obtain ⟨as, rw, e1, e2, e3, e4⟩ := rows_of r k1
      refine ⟨rr, as, rw, rfl, by rw [hR, e1], e2, by rw [e3]; exact k2, e4, ?_⟩
      have : xs.length = rw.length := by rw [e1, List.length_map, e2.length, List.length_map]
      omega
theorem good_turns (wh : Wh H uV) (h : tuW H st uV = none) : ∃ (u : Addr) (bs : List Addr) (tn : List Trn), uV = .ref u ∧ H u = some (.tup (bs.map V.ref)) ∧ Tups H bs (tn.map Trn.v) ∧ (tn.map Trn.a).Nodup ∧ ∀ ρ ∈ tn, ρ.a ∈ st ∧ ρ.b ∈ st := by
  cases wh with
  | one ho =>
    rw [tuW_one ho] at h
    cases h
  | @tup u xs hR l r =>
    rw [tuW_tup hR] at h
    cases e : fwO (xs.map (tnK H st)) with
    | some i =>
      rw [e] at h
      cases h
    | none =>
      obtain ⟨ks, k1, k2⟩ := fwO_not e
      obtain ⟨as, tn, e1, e2, e3, e4⟩ := turns_of r k1
      exact ⟨u, as, tn, rfl, by rw [hR, e1], e2, by rw [e3]; exact k2, e4⟩
theorem good_yes (wh : Wh H yV) (h : yeW H st yV = none) : ∃ (y : Addr) (ye : List Str), yV = .ref y ∧ H y = some (.tup (ye.map V.str)) ∧ ye.Nodup ∧ ∀ z ∈ ye, z ∈ st := by
  cases wh with
  | one ho =>
    rw [yeW_one ho] at h
    cases h
  | @tup y xs hR l r =>
    rw [yeW_tup hR] at h
    cases e : fwO (xs.map (stK st)) with
    | some i =>
      rw [e] at h
      cases h
    | none =>
      obtain ⟨ks, k1, k2⟩ := fwO_not e
      have ex := texts_of (fun v z q => (stK_eq q).1) k1
      refine ⟨y, ks, rfl, by rw [hR, ex], k2, fun z hz => ?_⟩
      have m : some z ∈ xs.map (stK st) := by
        rw [k1]
        exact List.mem_map.mpr ⟨z, hz, rfl⟩
      obtain ⟨v, _, e⟩ := List.mem_map.mp m
      exact (stK_eq e).2
end
section
variable {P : Program} {w : World} {K : PySem.W.Frag} {mg : Str → Option Value} {base : Heap} {A : LA} {B : EL} {e : Addr}
theorem ok_loinitX (D : LoopF K mg A e) (Z : Free mg) (EB : ErL K mg B) : FnOk P w K mg base (L2N.CX P w) 4 A.fI A.dI ["self", "signs", "states", "rows", "turns", "yes"] (spLoInitX K B A.C A.T) :=
  (Wb.FnOk.either (Wb.FnOk.either (Wb.FnOk.calm (ok_loinitG D Z)) (Wb.FnOk.calm (ok_loinit00 D Z))) (ok_lobad D Z EB)).imp fun vs H Q E h => by
    obtain ⟨H0, p, r, dx, sV, tV, rV, uV, yV, d, o, f, rfl, hs, ht, hr, tl, due, s0, r0, hp, good, bad⟩ := h
    cases o with
    | some iv =>
      obtain ⟨i, v⟩ := iv
      exact .inr ⟨p, r, sV, tV, rV, uV, yV, d, i, v, f, rfl, hs.same s0, ht.same s0, hr.same s0, due.same ht hr s0, (bad i v rfl).mono s0⟩
    | none =>
      refine .inl ?_
      cases due with
      | @ok sg0 t st h G a b T es er eu ey =>
        subst h
        subst a
        obtain ⟨sg, pm, G', srt⟩ := good_sg G
        obtain ⟨rr, as, rw, rfl, hR, hT, knd, rin, many⟩ := good_rows hr er
        have rin' : ∀ ρ ∈ rw, ρ.a ∈ st ∧ ρ.c ∈ sg ∧ ρ.b ∈ st := fun ρ hρ => ⟨(rin ρ hρ).1, pm.mem_iff.mp (rin ρ hρ).2.1, (rin ρ hρ).2.2⟩
        have many' : sg.length * st.length ≤ rw.length := by rw [← pm.length_eq]; exact many
        rcases tl with ⟨rfl, wu, wy⟩ | ⟨rfl, u, y, rfl, rfl, eu0, ey0⟩
        · have eu' : tuW H0 st uV = none := by
            rcases eu with ⟨_, _, q⟩ | ⟨z, _⟩
            · exact q
            · cases z
          have ey' : yeW H0 st yV = none := by
            rcases ey with ⟨_, _, q⟩ | ⟨z, _⟩
            · exact q
            · cases z
          obtain ⟨u, bs, tn, rfl, hU, hUT, tnd, tin⟩ := good_turns wu eu'
          obtain ⟨y, ye, rfl, hY, ynd, yin⟩ := good_yes wy ey'
          obtain ⟨O, TL⟩ := mkL_told G pm G' T knd rin' many' tnd tin ynd yin
          exact .inl ⟨H0, r, dx, t, rr, u, y, as, bs, mkL sg st rw tn ye, sg0, rw, tn, ye, rfl, O, srt, TL, PrtG.same s0 ⟨b, hR, hT, hU, hUT, hY⟩, s0, r0, hp, fun H' s' LA' => good rfl H' s' ⟨_, LA'⟩⟩
        · obtain ⟨O, TL⟩ := mkL_told (tn := []) (ye := []) G pm G' T knd rin' many' List.nodup_nil (fun _ h => nomatch h) List.nodup_nil (fun _ h => nomatch h)
          exact .inr ⟨H0, r, dx, t, rr, u, y, as, mkL sg st rw [] [], sg0, rw, rfl, O, srt, TL, ⟨s0 _ _ b, s0 _ _ hR, hT.same s0, eu0, ey0⟩, s0, r0, hp, fun H' s' LA' => good rfl H' s' ⟨_, LA'⟩⟩
end
end Lg
/-! o.m(k = v, ..) of an own method -/
namespace Lz
open PySem PySem.Spec PyProof.Rows L2
section
variable {X : Cx} {CX : CXT} {k : Nat} {C g : Addr} {fd : FuncData} {ps ks : List Str} {sp : Sp} {E : XK} {o : Expr} {m : Str} {apos pos : Pos} {kws : List Keyword} {ta : TE} {tk : TA} {kg : List Value → List Value → List Value} {gV : List V → List V → List V}
end
end Lz
namespace Wb
open PySem L2 WbMin WbS Lz
/-! ### rounds that come again -/
/-! ### faces of answers -/
theorem tup_shaped (c : Int) (b : Bool) : SeqAt.shaped (.tuple [.int c, .bool b]) = true := rfl
end Wb
/-! what stays while lambdas are made: all but the pool and the tables of code objects -/
namespace Wb
open PySem L2 WbMin WbS Lz Le LamX
/-- the heap without its tables -/
def noT (H : Hp) : Hp := fun b => match H b with
  | some (.tbl _) => none
  | o => o
theorem noT_at {H : Hp} {b : Addr} {o : HO} (h : H b = some o) (n : ∀ ps, o ≠ .tbl ps) : noT H b = some o := by
  unfold noT
  rw [h]
  cases o with
  | tbl ps => exact (n ps rfl).elim
  | _ => rfl
theorem noT_inv {H : Hp} {b : Addr} {o : HO} (h : noT H b = some o) : H b = some o ∧ ∀ ps, o ≠ .tbl ps := by
  unfold noT at h
  cases e : H b with
  | none =>
    rw [e] at h
    cases h
  | some u =>
    rw [e] at h
    cases u with
    | tbl ps => cases h
    | _ =>
      cases h
      exact ⟨rfl, fun ps z => by cases z⟩
def Bt (p : Addr) (H H' : Hp) : Prop := But p (noT H) H'
theorem Bt.of {p : Addr} {H H' : Hp} (b : But p H H') : Bt p H H' := fun c o n h => b c o n (noT_inv h).1
theorem Bt.same {p : Addr} {H H' : Hp} (s : Same H H') : Bt p H H' := fun c o _ h => s c o (noT_inv h).1
theorem Bt.ext {p : Addr} {H H' : Hp} (e : ExtN H H') : Bt p H H' := fun c o _ h => e c o (noT_inv h).1 (noT_inv h).2
theorem Bt.trans {p : Addr} {H H1 H2 : Hp} (a : Bt p H H1) (b : Bt p H1 H2) : Bt p H H2 := fun c o n h => b c o n (noT_at (a c o n h) (noT_inv h).2)
theorem PoolAt.noT {H : Hp} {p : Addr} (h : PoolAt H p) : PoolAt (noT H) p := by
  obtain ⟨a, b, c, e, r⟩ := h
  exact ⟨a, b, c, noT_at e (fun _ z => by cases z), r⟩
theorem PoolAt.ext {H H' : Hp} {p : Addr} (h : PoolAt H p) (s : ExtN H H') : PoolAt H' p := by
  obtain ⟨a, b, c, e, r⟩ := h
  exact ⟨a, b, c, s _ _ e (fun _ z => by cases z), r⟩
theorem Tups.noT {H : Hp} : ∀ {as : List Addr} {xs : List (List V)}, Tups H as xs → Tups (noT H) as xs
  | [], [], _ => trivial
  | _ :: _, _ :: _, h => ⟨noT_at h.1 (fun _ z => by cases z), Tups.noT h.2⟩
  | [], _ :: _, h => h.elim
  | _ :: _, [], h => h.elim
theorem Prt.noT {L : LD} {t rr u y : Addr} {as bs : List Addr} {H : Hp} (h : Prt L t rr u y as bs H) : Prt L t rr u y as bs (noT H) :=
  ⟨noT_at h.ht (fun _ z => by cases z), noT_at h.hr (fun _ z => by cases z), h.hT.noT, noT_at h.hu (fun _ z => by cases z), h.hU.noT, noT_at h.hy (fun _ z => by cases z)⟩
theorem LoopAt.noT {C T : Addr} {H : Hp} {r : Addr} {L : LD} : LoopAt C T H r L → LoopAt C T (noT H) r L := by
  rintro ⟨dx, t, rr, u, y, tb, as, bs, h0, pr, dx', dN, dX, dA, tX, tA, tY, xs, as', g0, hX, hx, hA, ha, hTX, hTA, hTY⟩
  have nt : ∀ {a : Addr} {o : HO}, H a = some o → (∀ ps, o ≠ .tbl ps) → Wb.noT H a = some o := noT_at
  exact ⟨dx, t, rr, u, y, tb, as, bs, nt h0 (fun _ z => by cases z), pr.noT, dx', dN, dX, dA, tX, tA, tY, xs, as', nt g0 (fun _ z => by cases z), nt hX (fun _ z => by cases z), hx.noT, nt hA (fun _ z => by cases z), ha.noT, nt hTX (fun _ z => by cases z), nt hTA (fun _ z => by cases z), nt hTY (fun _ z => by cases z)⟩
theorem MdAt.noT {H : Hp} {q : Addr} {L : LD} : MdAt H q L → MdAt (noT H) q L := fun ⟨A, Sd, Ed, O, kvs, ws, h0, hA, hS, hE, e2, e1, hO⟩ =>
  have tk : Tk H (Wb.noT H) := fun _ _ h => noT_at h (fun _ z => by cases z)
  ⟨A, Sd, Ed, O, kvs, ws, noT_at h0 (fun _ z => by cases z), noT_at hA (fun _ z => by cases z), noT_at hS (fun _ z => by cases z), noT_at hE (fun _ z => by cases z), fun i c hi hc => (e2 i c hi hc).tk tk, fun i hi => (e1 i hi).tk tk, by
    first
    | exact noT_at hO (fun _ z => by cases z)
    | exact (let ⟨os, h, g⟩ := hO ; ⟨os, noT_at h (fun _ z => by cases z), g⟩)⟩
theorem noT_cut {H : Hp} {a : Addr} : Same (noT (cut H a)) (cut (noT H) a) := fun b o h => by
  obtain ⟨h1, h2⟩ := noT_inv h
  unfold cut at h1 ⊢
  by_cases e : b = a
  · rw [if_pos e] at h1
    cases h1
  · rw [if_neg e] at h1 ⊢
    exact noT_at h1 h2
theorem Thing.noT : ∀ {n : Nat} {H : Hp} {v : V} {d : PyData}, Thing H n v d → Thing (noT H) n v d
  | 0, _, _, _, h => h.elim
  | _ + 1, _, _, _, .inl h => .inl h
  | _ + 1, _, _, _, .inr (.inl ⟨a, xs, ds, e, h, l, r, q⟩) => .inr (.inl ⟨a, xs, ds, e, noT_at h (fun _ z => by cases z), l, r.imp fun _ _ z => Thing.noT z, q⟩)
  | _ + 1, _, _, _, .inr (.inr (.inl ⟨a, xs, ds, e, h, l, r, q⟩)) => .inr (.inr (.inl ⟨a, xs, ds, e, noT_at h (fun _ z => by cases z), l, r.imp fun _ _ z => Thing.noT z, q⟩))
  | _ + 1, _, _, _, .inr (.inr (.inr ⟨a, ks, xs, ds, e, h, nd, l1, l, r, q⟩)) => .inr (.inr (.inr ⟨a, ks, xs, ds, e, noT_at h (fun _ z => by cases z), nd, l1, l, r.imp fun _ _ z => (Thing.noT z).same noT_cut, q⟩))
theorem Any.noT {p : Addr} {H : Hp} {x : V} {d : PyData} (h : Any p H x d) : Any p (noT H) x d := ⟨(Thing.noT h.1).same noT_cut, h.2⟩
theorem Any.bt {p : Addr} {H H' : Hp} {x : V} {d : PyData} (h : Any p H x d) (b : Bt p H H') : Any p H' x d := h.noT.but b
theorem LoopAt.bt {C T : Addr} {H H' : Hp} {p r : Addr} {L : LD} (h : LoopAt C T H r L) (hp : PoolAt H p) (b : Bt p H H') : LoopAt C T H' r L := h.noT.but hp.noT b
theorem MdAt.bt {H H' : Hp} {p q : Addr} {L : LD} (h : MdAt H q L) (hp : PoolAt H p) (b : Bt p H H') : MdAt H' q L := h.noT.but hp.noT b
/-- the tables stay while the pool changes -/
theorem Tabs.but {T : List (Addr × Str)} {H H' : Hp} {p : Addr} (t : Tabs T H) (hp : PoolAt H p) (b : But p H H') : Tabs T H' := fun y hy => by
  obtain ⟨ps, h1, h2, h3⟩ := t y hy
  refine ⟨ps, b _ _ (pool_other hp h1 fun _ _ _ q => by cases q) h1, h2, fun pos cv hc => ?_⟩
  obtain ⟨c, e1, e2⟩ := h3 pos cv hc
  exact ⟨c, e1, b _ _ (pool_other hp e2 fun _ _ _ q => by cases q) e2⟩
theorem heard_due {K : PySem.W.Frag} {H : Hp} {Q : VK} {a b : Addr} {d : PyData} (h1 : Dp K H (.ref a) d) (h2 : Dp K H (.ref b) d) (ok : d.canLay0 = true ∧ PyData.depth d ≤ 64) (k : Q (.bl false) H) : rNeD K (.ref a) (.ref b) H Q := by
  refine ⟨d, d, h1, h2, shaped_of ok.1 ok.2, shaped_of ok.1 ok.2, ?_⟩
  rw [SeqAt.eqv_refl _ ok.1]
  exact k
mutual
theorem Dp.noT {K : PySem.W.Frag} {H : Hp} : ∀ {v : V} {d : PyData}, Dp K H v d → Dp K (noT H) v d
  | _, _, .non => .non
  | _, _, .bl b => .bl b
  | _, _, .int i => .int i
  | _, _, .str x => .str x
  | _, _, .lst h r => .lst (by
      rcases h with (q | ⟨o, q⟩) | q
      · exact .inl (.inl (noT_at q (fun _ z => by cases z)))
      · exact .inl (.inr ⟨o, noT_at q (fun _ z => by cases z)⟩)
      · exact .inr q) (DpAll.noT r)
  | _, _, .tup h r => .tup (by
      rcases h with (q | ⟨o, q⟩) | q
      · exact .inl (.inl (noT_at q (fun _ z => by cases z)))
      · exact .inl (.inr ⟨o, noT_at q (fun _ z => by cases z)⟩)
      · exact .inr q) (DpAll.noT r)
theorem DpAll.noT {K : PySem.W.Frag} {H : Hp} : ∀ {vs : List V} {ds : List PyData}, DpAll K H vs ds → DpAll K (noT H) vs ds
  | _, _, .nil => .nil
  | _, _, .cons h r => .cons (Dp.noT h) (DpAll.noT r)
end
/-- all but tables stay -/
def Xt (H H' : Hp) : Prop := Same (noT H) H'
theorem Xt.of {H H' : Hp} (s : Same H H') : Xt H H' := fun b o h => s b o (noT_inv h).1
theorem Xt.ext {H H' : Hp} (e : ExtN H H') : Xt H H' := fun b o h => e b o (noT_inv h).1 (noT_inv h).2
theorem Xt.trans {H H1 H2 : Hp} (a : Xt H H1) (b : Xt H1 H2) : Xt H H2 := fun c o h => b c o (noT_at (a c o h) (noT_inv h).2)
theorem Xt.bt {p : Addr} {H H' : Hp} (x : Xt H H') : Bt p H H' := fun c o _ h => x c o h
theorem Any.xt {p : Addr} {H H' : Hp} {x : V} {d : PyData} (h : Any p H x d) (s : Xt H H') : Any p H' x d := h.noT.same s
theorem LoopAt.xt {C T : Addr} {H H' : Hp} {r : Addr} {L : LD} (h : LoopAt C T H r L) (s : Xt H H') : LoopAt C T H' r L := h.noT.same s
theorem PoolAt.xt {H H' : Hp} {p : Addr} (h : PoolAt H p) (s : Xt H H') : PoolAt H' p := h.noT.same s
theorem Dp.xt {K : PySem.W.Frag} {H H' : Hp} {v : V} {d : PyData} (h : Dp K H v d) (s : Xt H H') : Dp K H' v d := Dp.stay s (Dp.noT h)
end Wb
/-! _law_heard of the parts of a loop -/
namespace Lg
open PySem PySem.Spec PyProof.Rows L2 WbMin WbS Lz Wb Le
abbrev sPtHeard : Stmt := top 80
abbrev NHp : List Str := ["_law_act", "_law_kept", "_law_word", "e"]
theorem scHp : FnScope NHp ["_law_act"] (defScope sPtHeard) := ⟨rfl, rfl, rfl, by decide +kernel, rfl, by decide +kernel, by decide +kernel⟩
/-- which error is whose -/
structure TakesP (K : PySem.W.Frag) (B : EL) : Prop where
  gg : PySem.W.exmOne K (.ref B.cG) (.ref B.cG) = some true
  sg : PySem.W.exmOne K (.ref B.cS) (.ref B.cG) = some false
  ss : PySem.W.exmOne K (.ref B.cS) (.ref B.cS) = some true
  rg : PySem.W.exmOne K (.ref B.cR) (.ref B.cG) = some false
  rs : PySem.W.exmOne K (.ref B.cR) (.ref B.cS) = some false
  rr : PySem.W.exmOne K (.ref B.cR) (.ref B.cR) = some true
  tg : PySem.W.exmOne K (.ref B.cT) (.ref B.cG) = some false
  ts : PySem.W.exmOne K (.ref B.cT) (.ref B.cS) = some false
  tr : PySem.W.exmOne K (.ref B.cT) (.ref B.cR) = some false
  tt : PySem.W.exmOne K (.ref B.cT) (.ref B.cT) = some true
/-- the word of a check -/
def wdOf : Nat → Str
  | 0 => "signs"
  | 1 => "states"
  | 2 => "rows"
  | 3 => "turns"
  | _ => "states"
def TellP (K : PySem.W.Frag) (H : Hp) (wd : Str) (d : PyData) (Q : VK) : Prop := ∀ (a : Addr) (H' : Hp), H a = none → Same H H' → Dp K (New H H') (.ref a) (.list [.str wd, d]) → Q (.ref a) H'
def TTP (K : PySem.W.Frag) (B : EL) : Le.Act → Hp → VK → Prop := fun act H Q =>
  ((∀ (E : XK) (k : VK), (∀ v H', Same H H' → k v H') → act E H k) ∧ TellP K H "nothing" (plainD .none) Q) ∨
    ∃ (i : Nat) (x : V) (d : PyData), Thing H 5 x d ∧ (∀ (E : XK) (k : VK), FailsN E (B.cls i).1 (B.cls i).2 x H → act E H k) ∧ TellP K H (wdOf i) d Q
theorem hot_suiteP {X : Cx} {r : Addr} {o : Obj} {cl : Value} {dd : Option Addr} {pn : List (Addr × Obj)} (z : L2N.Zn cl dd o) (hf : ∃ fs, o.data = .fields fs) : L2H.HotC (X.suite r ((r, o) :: pn)) := by
  obtain ⟨vs, hd⟩ := hf
  exact ⟨(r, o), ⟨rfl, vs, hd, z.2.2 vs hd⟩, List.mem_cons_self⟩
def tSuiteP (wd : Str) (C : Addr) (g : Str) : Suite := fun r cl dd => tSeq (tPar 2 1 (tCons (tC (.str wd)) (tCons (tXf r cl dd C g (tVar 3)) tNil))) tNext
set_option maxHeartbeats 2000000 in
theorem hears_parts {X : Cx} {B : EL} {q : Str} {k : Nat} {g fF : Addr} {dF : FuncData} {cdg : Value} (DF : Def X.K X.mg "_law_face" sFace ["_law_thing"] fF dF) (Z : FreeT X.mg) (D : ErL X.K X.mg B) (M : TakesP X.K B) (k6 : 6 ≤ k) : Hears X NHp "_law_heard" (defScope sPtHeard) g cdg (defBody sPtHeard) "_law_act" q k (TTP X.K B) := by
  have GF : FnOk X.prog X.w X.K X.mg X.base CX0 6 fF dF ["_law_thing"] (spFace X.K 5) := ok_face DF Z 5
  intro f c s H Q act hr0 call hc tt
  have hr : Room 6 (X.A.deeper (PyProof.Rows.envOfC "_law_heard" (defScope sPtHeard) s.heap.objs.size g cdg)) := hr0.mono k6
  refine ⟨_, pss_cons (ps_set (i := 1) scHp.nd rfl (.inl rfl) pe_non)
    (pss_cons (ps_tryCls (l := [(.ref B.cG, 3, tSuiteP "signs" B.cG "given"), (.ref B.cS, 3, tSuiteP "states" B.cS "index"), (.ref B.cR, 3, tSuiteP "rows" B.cR "index"), (.ref B.cT, 3, tSuiteP "turns" B.cT "index")]) rfl rfl scHp.nd
        (fun W pn xe tk own => pss_cons (ps_expr (call W pn xe _ _ tk)) (pss_one (ps_set (i := 2) scHp.nd rfl (.inl rfl) pe_str)))
        (.as_ (n := "e") (i := 3) rfl rfl ⟨rfl, by decide, .inl D.EG.g⟩ (fun r o cl dd pn z hf => pss_one (ps_parH (i := 2) (j := 1) (hot_suiteP z hf) scHp.nd rfl rfl (by decide) rfl rfl (pa_cons pe_str (pa_cons (pe_xf D.EG.xf D.EG.no z.zc hf (pv 3)) pa_nil)) (by rfl)))
        (.as_ (n := "e") (i := 3) rfl rfl ⟨rfl, by decide, .inl D.ES.g⟩ (fun r o cl dd pn z hf => pss_one (ps_parH (i := 2) (j := 1) (hot_suiteP z hf) scHp.nd rfl rfl (by decide) rfl rfl (pa_cons pe_str (pa_cons (pe_xf D.ES.xf D.ES.no z.zc hf (pv 3)) pa_nil)) (by rfl)))
        (.as_ (n := "e") (i := 3) rfl rfl ⟨rfl, by decide, .inl D.ER.g⟩ (fun r o cl dd pn z hf => pss_one (ps_parH (i := 2) (j := 1) (hot_suiteP z hf) scHp.nd rfl rfl (by decide) rfl rfl (pa_cons pe_str (pa_cons (pe_xf D.ER.xf D.ER.no z.zc hf (pv 3)) pa_nil)) (by rfl)))
        (.as_ (n := "e") (i := 3) rfl rfl ⟨rfl, by decide, .inl D.ET.g⟩ (fun r o cl dd pn z hf => pss_one (ps_parH (i := 2) (j := 1) (hot_suiteP z hf) scHp.nd rfl rfl (by decide) rfl rfl (pa_cons pe_str (pa_cons (pe_xf D.ET.xf D.ET.no z.zc hf (pv 3)) pa_nil)) (by rfl)))
        (.rest _))))))
    (pss_one (ps_ret (pe_lst (pa_cons (pv 2) (pa_cons (pe_call GF hr rfl DF.g DF.kp DF.b .nil pass0 (pa_cons (pv 1) pa_nil)) pa_nil)))))), ?_⟩
  have last : ∀ (wd : Str) (x : V) (d : PyData) (G : Hp) (y : Option V), Same H G → Thing G 5 x d → TellP X.K H wd d Q → tRet (tLst (tCons (tVar 2) (tCons (tCall (spFace X.K 5) [] E0 (tCons (tVar 1) tNil)) tNil))) { nx := fun _ H' => Q .non H', rt := Q } [some (.ref f), some x, some (.str wd), y] G := fun wd x d G y s1 th told => by
    refine ⟨_, rfl, _, rfl, x, d, rfl, th, fun b G1 hb s2 d2 => ⟨(by show 2 ≤ sizeLine; decide), fun a ha => ?_⟩⟩
    have s3 := s1.trans s2
    refine told a _ (free_of s3 ha) (Same.new2 s3 (free_of s3 ha)) (.lst (SqL.of ((New.at (free_of s3 ha)).trans upd_same)) (.cons (.str _) (.cons (Dp.stay (New.mono fun c u h1 h2 => ⟨free_of s1 h1, ?_⟩) d2) .nil)))
    rw [upd_ne (ne_of_none h2 ha)]
    exact h2
  refine ⟨rfl, ?_⟩
  rcases tt with ⟨run, told⟩ | ⟨i, x, d, th, run, told⟩
  · refine ⟨hc, run _ _ fun v H' s1 => ?_⟩
    exact last _ _ _ _ none s1 (.inl .non) told
  · refine ⟨hc, run _ _ fun dx H' s1 n => ?_⟩
    have s2 : Same H (upd H' dx (.xd [((B.cls i).2, x)])) := Same.new2 s1 (free_of s1 n)
    have fin := fun y => last _ _ _ _ y s2 (th.same s2) told
    have hx : (upd H' dx (.xd [((B.cls i).2, x)])) dx = some (.xd [((B.cls i).2, x)]) := upd_same
    generalize upd H' dx (.xd [((B.cls i).2, x)]) = G at fin hx ⊢
    have suite : ∀ (r C : Addr) (wd g : Str), wd = wdOf i → (C, g) = B.cls i → G r = none → tSuiteP wd C g r (.ref C) (some dx) (offD { nx := fun σ' H'' => tRet (tLst (tCons (tVar 2) (tCons (tCall (spFace X.K 5) [] E0 (tCons (tVar 1) tNil)) tNil))) { nx := fun _ H' => Q .non H', rt := Q } σ' H'', rt := Q } 3) [some (.ref f), some .non, none, some (.ref r)] G := by
      rintro r C wd g rfl eg _
      rw [← eg] at hx
      exact ⟨_, rfl, rfl, rfl, dx, _, x, rfl, hx, List.lookup_cons_self, _, _, rfl, fin none⟩
    match i, suite with
    | 0, suite => exact ⟨true, M.gg, fun _ r nr => suite r B.cG "signs" "given" rfl rfl nr, fun z => by cases z⟩
    | 1, suite => exact ⟨false, M.sg, (fun z => by cases z), fun _ => ⟨true, M.ss, fun _ r nr => suite r B.cS "states" "index" rfl rfl nr, fun z => by cases z⟩⟩
    | 2, suite => exact ⟨false, M.rg, (fun z => by cases z), fun _ => ⟨false, M.rs, (fun z => by cases z), fun _ => ⟨true, M.rr, fun _ r nr => suite r B.cR "rows" "index" rfl rfl nr, fun z => by cases z⟩⟩⟩
    | 3, suite => exact ⟨false, M.tg, (fun z => by cases z), fun _ => ⟨false, M.ts, (fun z => by cases z), fun _ => ⟨false, M.tr, (fun z => by cases z), fun _ => ⟨true, M.tt, fun _ r nr => suite r B.cT "turns" "index" rfl rfl nr, fun z => by cases z⟩⟩⟩⟩
    | i + 4, suite => exact ⟨false, M.sg, (fun z => by cases z), fun _ => ⟨true, M.ss, fun _ r nr => suite r B.cS "states" "index" rfl rfl nr, fun z => by cases z⟩⟩
end Lg
/-! _law_is_name of a value of any sort -/
namespace Lg
open PySem L2 WbMin WbS Lz Wb
abbrev sLName : Stmt := top 67
def spLName : Sp := fun vs H Q _ => ∃ v : V, vs = [v] ∧ So H v ∧ (∀ z, v = .str z → PyData.strOk z = true) ∧ ∀ H', Same H H' → Q (.bl (nameB v)) H'
abbrev NLn : List Str := ["_law_thing", "_law_some", "_law_mark"]
theorem scLn : FnScope NLn ["_law_thing"] (defScope sLName) := ⟨rfl, rfl, rfl, by decide +kernel, rfl, by decide +kernel, by decide +kernel⟩
def digits : List Nat := (List.range 10).map (· + 48)
theorem digits_is : ("0123456789" : Str) = S digits := by decide +kernel
theorem digits_mem {c : Nat} : c ∈ digits ↔ 48 ≤ c ∧ c ≤ 57 := by
  unfold digits
  rw [List.mem_map]
  constructor
  · rintro ⟨i, hi, rfl⟩
    have := List.mem_range.mp hi
    omega
  · rintro ⟨a, b⟩
    exact ⟨c - 48, List.mem_range.mpr (by omega), by omega⟩
theorem okn_mem {c : Nat} : decide (c ∈ alpha ++ digits) = okn c := by
  rw [Bool.eq_iff_iff, decide_eq_true_iff, okn_iff, List.mem_append, alpha_mem, digits_mem]
theorem okc_mem {c : Nat} : decide (c ∈ alpha) = okc c := by
  rw [Bool.eq_iff_iff, decide_eq_true_iff, okc_iff, alpha_mem]
theorem isNB_other {l : List Nat} : isNB l = (decide (1 ≤ l.length) && decide (l.length ≤ 8) && okc (l.getD 0 0) && (l.filter fun c => !okn c).isEmpty) := by
  unfold isNB
  refine congrArg _ ?_
  rw [Bool.eq_iff_iff, List.all_eq_true, List.isEmpty_iff, List.filter_eq_nil_iff]
  simp
theorem strOk_at {l : List Nat} (h : PyData.strOk (S l) = true) {i c : Nat} (hc : l[i]? = some c) : PyData.strOk (one c) = true := by
  unfold PyData.strOk at h ⊢
  rw [Array.all_eq_true] at h ⊢
  intro j hj
  have e : j = 0 := by
    have : j < 1 := hj
    omega
  subst e
  obtain ⟨hi, e⟩ := List.getElem?_eq_some_iff.mp hc
  have q := h i (by show i < (S l).cps.size; rw [S_size]; exact hi)
  have e2 : (S l).cps[i]'(by rw [S_size]; exact hi) = c := by
    have z : (S l).cps.toList[i]? = some c := by rw [S_cps]; exact hc
    rw [Array.getElem?_toList] at z
    exact (Array.getElem?_eq_some_iff.mp z).2
  rw [e2] at q
  exact q
section
variable {P : Program} {w : World} {K : PySem.W.Frag} {mg : Str → Option Value} {base : Heap} {f : Addr} {fd : FuncData}
set_option maxHeartbeats 2000000 in
theorem ok_lname (F : Fun K "_law_is_name" "_law_is_name" sLName f fd) (Z : Free mg) : FnOk P w K mg base CX0 1 f fd ["_law_thing"] spLName := by
  refine F.ok scLn (fun vs H Q E h => by obtain ⟨v, rfl, _⟩ := h; rfl) (fun cdv A outer s H vs Q E hr h => ?_)
  obtain ⟨v, rfl, so, okz, k⟩ := h
  refine ⟨_, pss_cons (ps_if (PW.pt (pw_or (pt_not (pt_val (pe_callB call_isi (by rfl) Z.isi (by decide +kernel) (pa_cons (pv 0) (pa_cons (pe_bltn (v := .ty "str") (u := .type "str") (by rfl) Z.str (by decide +kernel) rfl) pa_nil)))))
      (pw_or1 (pt_not (pt_chain op_le op_le pe_int (pe_callB call_len_str (by rfl) Z.len PySem.boot_len (pa_cons (pv 0) pa_nil)) pe_int))))) (pss_one (ps_ret pe_bl)) pss_nil)
    (pss_cons (ps_set (i := 1) scLn.nd rfl (.inr rfl) pe_str)
    (pss_one (ps_ret (pe_and (pe_cmpR op_in_sign (pe_ix ix_str (pv 0) pe_int (fun _ _ => rfl)) (pv 1) rfl) (pe_one (pe_cmpR (op_eqD hr.units) (pe_lc (own := [("_law_mark", 2)]) (g := gName 2) rfl scLn.nd (pi_str (pv 0)) (blkOk_by (N := NLn) (sc := defScope sLName) (by decide +kernel))
        (fun _ _ _ _ _ => pg_name (i := 2) scLn.nd rfl (.inl rfl)) (fun _ _ _ _ _ => pts_one (pt_cmpR op_notIn_sign (pv 2) (pe_op op_add_str (pv 1) pe_str) rfl)) (fun _ _ _ _ _ => pv 2)) (pe_lst pa_nil) (nomark _))))))), ?_⟩
  rcases So.text K so with ⟨z, rfl, ft⟩ | ⟨⟨ty, h1, h2⟩, n, _⟩
  · have okz := okz z rfl
    obtain ⟨l, rfl⟩ : ∃ l, z = S l := ⟨_, S_eq rfl⟩
    rw [nameB_S, isNB_other] at k
    rw [S_len] at ft
    refine ⟨_, rfl, _, _, .type "str", .type "str", true, rfl, .ty "str", .base (.str _), kit_ty (by decide +kernel), true, rfl, ?_⟩
    refine ⟨_, rfl, _, rfl, by rw [S_len]; exact ft, _, _, rfl, rfl, _, rfl, ite2 (fun z1 => ?_) (fun z1 => ?_)⟩
    · have l1 : 1 ≤ l.length := by
        have q := of_decide_eq_true z1
        rw [S_len] at q
        omega
      rw [decide_eq_true l1] at k
      refine ⟨_, _, rfl, rfl, _, rfl, ?_⟩
      by_cases h8 : l.length ≤ 8
      · rw [decide_eq_true h8] at k
        refine iteNS (by rw [S_len]; omega) ?_
        refine ⟨_, rfl, _, _, l.getD 0 0, rfl, rfl, by rw [S_len]; exact ft, by rw [S_cps]; exact atI_nat (j := 0) (getD_at l1), _, rfl, l.getD 0 0, _, rfl, rfl, ?_⟩
        rw [alpha_is, S_cps, okc_mem]
        cases ec : okc (l.getD 0 0) with
        | false =>
          rw [ec] at k
          exact ⟨false, rfl, k H (Same.refl H)⟩
        | true =>
          rw [ec] at k
          refine ⟨true, rfl, _, rfl, _, rfl, fun D hD => lc_it walk_str (fun i H3 => H3 D = some (.lst (((l.take i).filter fun c => !okn c).map vOne)) ∧ Same H H3) ⟨upd_same, Same.put (Same.refl H) hD⟩ (fun _ _ _ _ => trivial) ?_ ?_⟩
          · rintro i x H3 H3' hi ⟨h1, h2⟩ ⟨rfl, c, hc, rfl⟩
            have hc' : l[i]? = some c := by simpa [S] using hc
            refine ⟨rfl, _, rfl, _, rfl, _, _, rfl, rfl, (by decide +kernel), c, _, rfl, rfl, _, rfl, ?_⟩
            rw [digits_is, show (S alpha ++ S digits) = S (alpha ++ digits) by decide +kernel, S_cps, okn_mem]
            cases hk : okn c with
            | true =>
              refine iteF ⟨?_, h2⟩
              rw [h1, take_more hc', List.filter_append, show ([c].filter fun c => !okn c) = [] from List.filter_cons_of_neg (by simp [hk]), List.append_nil]
            | false =>
              refine iteT ⟨_, rfl, _, h1, ?_, ?_, Same.new' h2 hD⟩
              · rw [List.length_map, sizeLine_eq]
                have := List.length_filter_le (fun c => !okn c) (l.take i)
                have := List.length_take_le' i l
                omega
              · rw [upd_same, take_more hc', List.filter_append, List.map_append, show ([c].filter fun c => !okn c) = [c] from List.filter_cons_of_pos (by simp [hk])] <;> rfl
          · rintro H3 ⟨h1, h2⟩
            rw [S_size, List.take_length] at h1
            refine ⟨(by show 0 ≤ sizeLine; decide), fun M hM => ?_⟩
            have nD : D ≠ M := ne_of_none h1 hM
            have h1' : H3 D = some (.lst (((l.filter fun c => !okn c).map one).map V.str)) := by rw [h1, List.map_map] <;> rfl
            refine ⟨_, _, .lst (SqL.of (by rw [upd_ne nD, h1'])) (dp_strs _), .lst (SqL.of upd_same) .nil, shaped_strs fun z hz => ?_, rfl, ?_⟩
            · obtain ⟨c, hc, rfl⟩ := List.mem_map.mp hz
              obtain ⟨i, hi, e⟩ := List.getElem_of_mem (List.mem_filter.mp hc).1
              exact strOk_at okz (i := i) (by rw [List.getElem?_eq_getElem hi, e])
            · have q := k _ (Same.put (o := .lst []) h2 hM)
              have e : (true && true && true && (l.filter fun c => !okn c).isEmpty) = PyData.eqv (.list (((l.filter fun c => !okn c).map one).map PyData.str)) (.list []) := by
                rw [eqv_nil]
                cases (l.filter fun c => !okn c) <;> rfl
              rw [e] at q
              exact q
      · rw [decide_eq_false h8] at k
        refine iteS (by rw [S_len]; omega) ?_
        exact k H (Same.refl H)
    · refine ⟨_, rfl, ?_⟩
      have l1 : ¬ 1 ≤ l.length := fun z => z1 (decide_eq_true (by rw [S_len]; omega))
      rw [decide_eq_false l1] at k
      exact k H (Same.refl H)
  · rw [notext_name so n] at k
    exact ⟨_, rfl, _, _, ty, .type "str", false, rfl, .ty "str", h1, h2, false, rfl, k H (Same.refl H)⟩
end
end Lg
/-! _law_states_due, _law_yes_due of values of any sort -/
namespace Lg
open PySem L2 WbMin WbS Lz Wb
abbrev sStDue : Stmt := top 71
abbrev sYeDue : Stmt := top 74
def lstO : Option V → List V
  | none => []
  | some v => [v]
def DueQ (H : Hp) (o : Option V) (Q : VK) : Prop := ∀ (a : Addr) (H' : Hp), H a = none → Same H H' → H' a = some (.lst (lstO o)) → Q (.ref a) H'
theorem DueQ.later {H H' : Hp} {o : Option V} {Q : VK} (h : DueQ H o Q) (s : Same H H') : DueQ H' o Q := fun a H2 n s2 e => h a H2 (free_of s n) (s.trans s2) e
theorem DueQ.put {H : Hp} {o : Option V} {Q : VK} (h : DueQ H o Q) {a : Addr} (n : H a = none) : Q (.ref a) (upd H a (.lst (lstO o))) := h a _ n (Same.put (Same.refl H) n) upd_same
theorem badAt_take {α : Type} [DecidableEq α] {l : List (Option α)} {n i : Nat} (h : i < n) : badAt (l.take n) i = badAt l i := by
  unfold badAt
  rw [List.getElem?_take_of_lt h, List.take_take, Nat.min_eq_left (Nat.le_of_lt h)]
theorem st_hit {xs : List V} {i : Nat} (hi : i < xs.length) (h : i = 6 ∨ badAt (xs.map nameK) i = true) (pre : ∀ j, j < i → j ≠ 6 ∧ badAt (xs.map nameK) j = false) : stR xs = some (.int (i : Nat)) := by
  have i6 : i ≤ 6 := by
    refine Classical.byContradiction fun n => ?_
    exact (pre 6 (by omega)).1 rfl
  unfold stR
  rw [if_neg (by omega), List.map_take]
  by_cases e : i = 6
  · subst e
    rw [fwO_none fun j hj => by
      rw [List.length_take] at hj
      rw [badAt_take (by omega)]
      exact (pre j (by omega)).2]
    show (if 6 < xs.length then some (V.int 6) else none) = some (V.int 6)
    rw [if_pos hi]
  · have hb := h.resolve_left e
    rw [fwO_hit (i := i) (by rw [List.length_take, List.length_map]; omega) (by rw [badAt_take (by omega)]; exact hb) fun j hj => by rw [badAt_take (by omega)]; exact (pre j hj).2]
theorem st_none {xs : List V} (h0 : xs.length ≠ 0) (pre : ∀ j, j < xs.length → j ≠ 6 ∧ badAt (xs.map nameK) j = false) : stR xs = none := by
  have i6 : xs.length ≤ 6 := by
    refine Classical.byContradiction fun n => ?_
    exact (pre 6 (by omega)).1 rfl
  unfold stR
  rw [if_neg h0, List.take_of_length_le i6, fwO_none fun j hj => (pre j (by rw [List.length_map] at hj; exact hj)).2]
  show (if 6 < xs.length then some (V.int 6) else none) = none
  rw [if_neg (by omega)]
def spStDue : Sp := fun vs H Q _ => ∃ x : V, vs = [x] ∧ Wh H x ∧ DueQ H (stW H x) Q
def spYeDue : Sp := fun vs H Q _ => ∃ (x : V) (t : Addr) (st : List Str), vs = [.ref t, x] ∧ Wh H x ∧ H t = some (.tup (st.map V.str)) ∧ DueQ H (yeW H st x) Q
section
variable {X : Cx}
def rNotSo (K : PySem.W.Frag) : R2 := fun x y H Q => ∃ (p : Addr) (st : List Str), y = .ref p ∧ SqT K H p (st.map V.str) ∧ So H x ∧ Q (.bl (!stB st x)) H
theorem op_notInSo (hu : X.A.units + 65 < cLine) : OpR X (compareOp .NotIn) (rNotSo X.K) := by
  intro pins s σ H x y v u Q I rx ry h
  obtain ⟨p, st, rfl, hq, so, q⟩ := h
  cases ry
  obtain ⟨its, r, pl, hz⟩ := I.tuple hq
  refine SeqAt.notIn_tupleAt (soU x) pl (fun w hw => ?_) ⟨.bl _, H, I, rfl, ?_⟩
  · obtain ⟨z, t, rfl⟩ := strs_of r w (by simpa using hw)
    exact eqat_so hu I rx so z t
  · rw [show its.toArray.any (soU x) = its.any (soU x) by simp, any_soU r]
    exact q
end
section
variable {P : Program} {w : World} {K : PySem.W.Frag} {mg : Str → Option Value} {base : Heap} {f fN : Addr} {fd dN : FuncData}
theorem scSd : FnScope ["_law_posts", "_law_at"] ["_law_posts"] (defScope sStDue) := ⟨rfl, rfl, rfl, by decide +kernel, rfl, by decide +kernel, by decide +kernel⟩
set_option maxHeartbeats 2000000 in
theorem ok_stdue (F : Fun K "_law_states_due" "_law_states_due" sStDue f fd) (Z : Free mg) (mT : mg "tuple" = none) (DN : Def K mg "_law_is_name" sLName ["_law_thing"] fN dN) : FnOk P w K mg base CX0 2 f fd ["_law_posts"] spStDue := by
  have GN : FnOk P w K mg base CX0 1 fN dN ["_law_thing"] spLName := ok_lname DN.F Z
  refine F.ok scSd (fun vs H Q E h => by obtain ⟨x, rfl, _⟩ := h; rfl) (fun cdv A outer s H vs Q E hr h => ?_)
  obtain ⟨x, rfl, wh, k⟩ := h
  refine ⟨_, pss_cons (ps_if (PW.pt (pw_or (pt_not (pt_val (pe_callB call_isi (by rfl) Z.isi (by decide +kernel) (pa_cons (pv 0) (pa_cons (pe_bltn (v := .ty "tuple") (u := .type "tuple") (by rfl) mT (by decide +kernel) rfl) pa_nil))))) (pw_or1 (pt_cmpR op_eq (pe_callB call_len_seq (by rfl) Z.len PySem.boot_len (pa_cons (pv 0) pa_nil)) pe_int (nomark _))))) (pss_one (ps_ret (pe_lst (pa_cons pe_non pa_nil)))) pss_nil)
    (pss_cons (ps_for PassesOwn.never rfl (pi_range1 (by rfl) Z.range (pa_cons (pe_callB call_len_seq (by rfl) Z.len PySem.boot_len (pa_cons (pv 0) pa_nil)) pa_nil)) (pg_name (i := 1) scSd.nd rfl (.inl rfl))
      (pss_one (ps_if (PW.pt (pw_or (pt_cmpR op_eq (pv 1) pe_int (nomark _)) (pw_or (pt_not (pt_val (pe_call GN hr rfl DN.g DN.kp DN.b .nil pass0 (pa_cons (pe_ix ix_tup (pv 0) (pv 1) (fun _ _ => rfl)) pa_nil)))) (pw_or1 (pt_cmpR op_in_seq (pe_ix ix_tup (pv 0) (pv 1) (fun _ _ => rfl)) (pe_slice sl_tup (pv 0) po_none (po_some (pv 1))) (by rfl)))))) (pss_one (ps_ret (pe_lst (pa_cons (pv 1) pa_nil)))) pss_nil)))
    (pss_one (ps_ret (pe_lst pa_nil)))), ?_⟩
  have ret1 : ∀ {v : V} {H' : Hp}, Same H H' → (stW H x = some v) → ∀ a, H' a = none → Q (.ref a) (upd H' a (.lst [v])) := fun {v H'} s e a n => by
    have q := (k.later s).put n
    rw [e] at q
    exact q
  cases wh with
  | one ho =>
    obtain ⟨ty, h1, h2⟩ := odd1_tup K ho
    exact ⟨_, rfl, _, _, ty, .type "tuple", false, rfl, .ty "tuple", h1, h2, false, rfl, (by show 1 ≤ sizeLine; decide), fun a ha => ret1 (Same.refl H) (stW_one ho) a ha⟩
  | @tup t xs ht few r c =>
    rw [stW_tup ht] at k ret1
    refine ⟨_, rfl, _, _, .type "tuple", .type "tuple", true, rfl, .ty "tuple", .base (.tup ht), kit_ty (by decide +kernel), true, rfl, ?_⟩
    refine ⟨_, rfl, t, _, rfl, .inr (SqT.of ht), rfl, _, rfl, ite2 (fun q => ?_) (fun q => ?_)⟩
    · have l0 : xs.length = 0 := by
        have q := of_decide_eq_true q
        injection q with q
        exact_mod_cast q
      have e : stR xs = some .non := by
        unfold stR
        rw [if_pos l0]
      exact ⟨(by show 1 ≤ sizeLine; decide), fun a ha => ret1 (Same.refl H) e a ha⟩
    have l0 : ¬ xs.length = 0 := fun z => q (decide_eq_true (congrArg (fun n : Nat => V.int (n : Int)) z))
    have big : (xs.length : Int) ≤ 99 := by exact_mod_cast few
    refine ⟨_, rfl, t, _, rfl, .inr (SqT.of ht), _, rfl, by omega, by omega, for_it walk_range (fun i σ H' => ∃ v1 : Option V, σ = [some (.ref t), v1] ∧ Same H H' ∧ ∀ j, j < i → j ≠ 6 ∧ badAt (xs.map nameK) j = false) ⟨none, rfl, Same.refl H, fun j hj => absurd hj (Nat.not_lt_zero j)⟩ (fun _ _ _ _ _ => trivial) ?_ ?_⟩
    · rintro i x σ H2 H3 hi ⟨v1, rfl, s2, pre⟩ ex
      obtain ⟨rfl, rfl⟩ := ex
      have hx : xs[i]? = some xs[i] := List.getElem?_eq_getElem hi
      have mx : xs[i] ∈ xs := List.getElem_mem hi
      rw [show (fun i : Nat => V.int (0 + (i : Int))) i = V.int (i : Int) from congrArg V.int (Int.zero_add _)]
      refine ⟨_, rfl, rfl, _, rfl, ite2 (fun q => ?_) (fun q => ?_)⟩
      · have i6 : i = 6 := by
          have q := of_decide_eq_true q
          injection q with q
          exact_mod_cast q
        exact ⟨_, rfl, (by show 1 ≤ sizeLine; decide), fun a ha => ret1 s2 (st_hit hi (.inl i6) pre) a ha⟩
      have i6 : i ≠ 6 := fun z => q (decide_eq_true (congrArg (fun n : Nat => V.int (n : Int)) z))
      refine ⟨_, rfl, _, rfl, t, _, _, _, rfl, rfl, SqT.of (s2 _ _ ht), atI_nat hx, xs[i], rfl, ((r _ mx).so).same s2, c _ mx, fun H4 s4 => ?_⟩
      have s24 := s2.trans s4
      have hl : (xs.map nameK)[i]? = some (nameK xs[i]) := by rw [List.getElem?_map, hx] <;> rfl
      rw [← nameK_some]
      cases ek : nameK xs[i] with
      | none =>
        rw [ek] at hl
        exact ⟨false, rfl, _, rfl, (by show 1 ≤ sizeLine; decide), fun a ha => ret1 s24 (st_hit hi (.inr (badAt_non hl)) pre) a ha⟩
      | some z =>
        rw [ek] at hl
        obtain ⟨ks, k1, k2, k3⟩ := fw_pre (l := xs.map nameK) (i := i) (by rw [List.length_map]; omega) fun j hj => (pre j hj).2
        have kt := key_map (fun v z h => (nameK_eq h).1) xs
        refine ⟨true, rfl, _, rfl, _, rfl, t, _, _, _, rfl, rfl, SqT.of (s24 _ _ ht), atI_nat hx, _, rfl, _, rfl, _, rfl, t, _, rfl, SqT.of (s24 _ _ ht), ?_, fun u hu => ?_⟩
        · rintro ⟨_, q⟩
          rw [HT.sIx_nat] at q
          omega
        · rw [cut_take (Nat.le_of_lt hi), kt.take k1 k2, (nameK_eq ek).1]
          refine ⟨u, _, rfl, .inr (SqT.of upd_same), rfl, Wb.flat_strs _, _, rfl, ?_⟩
          have ebad : badAt (xs.map nameK) i = inV (.str z) (ks.map V.str) := by rw [inV_strs, badAt_some hl, k2, mem_some]
          show if inV (.str z) (ks.map V.str) = true then _ else _
          rw [← ebad]
          cases eb2 : badAt (xs.map nameK) i with
          | true => exact ⟨_, rfl, (by show 1 ≤ sizeLine; decide), fun a ha => ret1 (Same.put s24 hu) (st_hit hi (.inr eb2) pre) a ha⟩
          | false =>
            refine ⟨_, rfl, Same.put s24 hu, fun j hj => ?_⟩
            rcases Nat.lt_succ_iff_lt_or_eq.mp hj with hj | rfl
            · exact pre j hj
            · exact ⟨i6, eb2⟩
    · rintro σ H2 ⟨v1, rfl, s2, pre⟩
      refine ⟨(by show 0 ≤ sizeLine; decide), fun a ha => ?_⟩
      have q := (k.later s2).put ha
      rw [st_none l0 pre] at q
      exact q
theorem scYd : FnScope ["_law_posts", "_law_oks", "_law_at"] ["_law_posts", "_law_oks"] (defScope sYeDue) := ⟨rfl, rfl, rfl, by decide +kernel, rfl, by decide +kernel, by decide +kernel⟩
set_option maxHeartbeats 2000000 in
theorem ok_yedue (F : Fun K "_law_yes_due" "_law_yes_due" sYeDue f fd) (Z : Free mg) (mT : mg "tuple" = none) : FnOk P w K mg base CX0 1 f fd ["_law_posts", "_law_oks"] spYeDue := by
  refine F.ok scYd (fun vs H Q E h => by obtain ⟨x, t, st, rfl, _⟩ := h; rfl) (fun cdv A outer s H vs Q E hr h => ?_)
  obtain ⟨x, tp, st, rfl, wh, hp, k⟩ := h
  refine ⟨_, pss_cons (ps_if (pt_not (pt_val (pe_callB call_isi (by rfl) Z.isi (by decide +kernel) (pa_cons (pv 1) (pa_cons (pe_bltn (v := .ty "tuple") (u := .type "tuple") (by rfl) mT (by decide +kernel) rfl) pa_nil))))) (pss_one (ps_ret (pe_lst (pa_cons pe_non pa_nil)))) pss_nil)
    (pss_cons (ps_for PassesOwn.never rfl (pi_range1 (by rfl) Z.range (pa_cons (pe_callB call_len_seq (by rfl) Z.len PySem.boot_len (pa_cons (pv 1) pa_nil)) pa_nil)) (pg_name (i := 2) scYd.nd rfl (.inl rfl))
      (pss_one (ps_if (PW.pt (pw_or (pt_cmpR (show OpR _ _ (rNotSo K) from op_notInSo (un65 hr)) (pe_ix ix_tup (pv 1) (pv 2) (fun _ _ => rfl)) (pv 0) (by rfl)) (pw_or1 (pt_cmpR op_in_seq (pe_ix ix_tup (pv 1) (pv 2) (fun _ _ => rfl)) (pe_slice sl_tup (pv 1) po_none (po_some (pv 2))) (by rfl))))) (pss_one (ps_ret (pe_lst (pa_cons (pv 2) pa_nil)))) pss_nil)))
    (pss_one (ps_ret (pe_lst pa_nil)))), ?_⟩
  have ret1 : ∀ {v : V} {H' : Hp}, Same H H' → (yeW H st x = some v) → ∀ a, H' a = none → Q (.ref a) (upd H' a (.lst [v])) := fun {v H'} s e a n => by
    have q := (k.later s).put n
    rw [e] at q
    exact q
  cases wh with
  | one ho =>
    obtain ⟨ty, h1, h2⟩ := odd1_tup K ho
    exact ⟨_, rfl, _, _, ty, .type "tuple", false, rfl, .ty "tuple", h1, h2, false, rfl, (by show 1 ≤ sizeLine; decide), fun a ha => ret1 (Same.refl H) (yeW_one ho) a ha⟩
  | @tup t xs ht few r c =>
    rw [yeW_tup ht] at k ret1
    have hit : ∀ {i : Nat}, i < xs.length → badAt (xs.map (stK st)) i = true → (∀ j, j < i → badAt (xs.map (stK st)) j = false) → ixO (fwO (xs.map (stK st))) = some (.int (i : Nat)) := fun hi hb pre => by
      rw [fwO_hit (by rw [List.length_map]; exact hi) hb pre] <;> rfl
    refine ⟨_, rfl, _, _, .type "tuple", .type "tuple", true, rfl, .ty "tuple", .base (.tup ht), kit_ty (by decide +kernel), true, rfl, ?_⟩
    have big : (xs.length : Int) ≤ 99 := by exact_mod_cast few
    refine ⟨_, rfl, t, _, rfl, .inr (SqT.of ht), _, rfl, by omega, by omega, for_it walk_range (fun i σ H' => ∃ v1 : Option V, σ = [some (.ref tp), some (.ref t), v1] ∧ Same H H' ∧ ∀ j, j < i → badAt (xs.map (stK st)) j = false) ⟨none, rfl, Same.refl H, fun j hj => absurd hj (Nat.not_lt_zero j)⟩ (fun _ _ _ _ _ => trivial) ?_ ?_⟩
    · rintro i x σ H2 H3 hi ⟨v1, rfl, s2, pre⟩ ex
      obtain ⟨rfl, rfl⟩ := ex
      have hx : xs[i]? = some xs[i] := List.getElem?_eq_getElem hi
      have mx : xs[i] ∈ xs := List.getElem_mem hi
      rw [show (fun i : Nat => V.int (0 + (i : Int))) i = V.int (i : Int) from congrArg V.int (Int.zero_add _)]
      have hl : (xs.map (stK st))[i]? = some (stK st xs[i]) := by rw [List.getElem?_map, hx] <;> rfl
      refine ⟨_, rfl, _, rfl, t, _, _, _, rfl, rfl, SqT.of (s2 _ _ ht), atI_nat hx, _, rfl, tp, st, rfl, SqT.of (s2 _ _ hp), ((r _ mx).so).same s2, _, rfl, ?_⟩
      rw [← stK_some]
      cases ek : stK st xs[i] with
      | none =>
        rw [ek] at hl
        exact iteT ⟨_, rfl, (by show 1 ≤ sizeLine; decide), fun a ha => ret1 s2 (hit hi (badAt_non hl) pre) a ha⟩
      | some z =>
        rw [ek] at hl
        obtain ⟨ks, k1, k2, k3⟩ := fw_pre (l := xs.map (stK st)) (i := i) (by rw [List.length_map]; omega) pre
        have kt := key_map (fun v z h => (stK_eq (st := st) h).1) xs
        refine iteF ⟨_, rfl, _, rfl, t, _, _, _, rfl, rfl, SqT.of (s2 _ _ ht), atI_nat hx, _, rfl, _, rfl, _, rfl, t, _, rfl, SqT.of (s2 _ _ ht), ?_, fun u hu => ?_⟩
        · rintro ⟨_, q⟩
          rw [HT.sIx_nat] at q
          omega
        · rw [cut_take (Nat.le_of_lt hi), kt.take k1 k2, (stK_eq ek).1]
          refine ⟨u, _, rfl, .inr (SqT.of upd_same), rfl, Wb.flat_strs _, _, rfl, ?_⟩
          have ebad : badAt (xs.map (stK st)) i = inV (.str z) (ks.map V.str) := by rw [inV_strs, badAt_some hl, k2, mem_some]
          show if inV (.str z) (ks.map V.str) = true then _ else _
          rw [← ebad]
          cases eb2 : badAt (xs.map (stK st)) i with
          | true => exact ⟨_, rfl, (by show 1 ≤ sizeLine; decide), fun a ha => ret1 (Same.put s2 hu) (hit hi eb2 pre) a ha⟩
          | false =>
            refine ⟨_, rfl, Same.put s2 hu, fun j hj => ?_⟩
            rcases Nat.lt_succ_iff_lt_or_eq.mp hj with hj | rfl
            · exact pre j hj
            · exact eb2
    · rintro σ H2 ⟨v1, rfl, s2, pre⟩
      refine ⟨(by show 0 ≤ sizeLine; decide), fun a ha => ?_⟩
      have q := (k.later s2).put ha
      rw [fwO_none fun j hj => pre j (by rw [List.length_map] at hj; exact hj)] at q
      exact q
end
end Lg
/-! _law_is_step, _law_is_end (posts a tuple); _law_rows_due, _law_ends_due -/
namespace Lg
open PySem L2 WbMin WbS Lz Wb
abbrev sStep : Stmt := top 68
abbrev sEnd : Stmt := top 69
def spStepT : Sp := fun vs H Q _ => ∃ (r lp : Addr) (ys : List V) (sg : List Nat) (st : List Str), vs = [.ref r, .str (S sg), .ref lp] ∧ H r = some (.tup ys) ∧ (∀ y ∈ ys, So H y) ∧ H lp = some (.tup (st.map V.str)) ∧ Q (.bl (rowB sg st ys)) H
def spEndT : Sp := fun vs H Q _ => ∃ (r lp : Addr) (ys : List V) (st : List Str), vs = [.ref r, .ref lp] ∧ H r = some (.tup ys) ∧ (∀ y ∈ ys, So H y) ∧ H lp = some (.tup (st.map V.str)) ∧ Q (.bl (turnB st ys)) H
theorem lenST {z : Str} (h : z.length ≠ 1) : ¬ (V.int (z.length : Nat) = V.int 1) := fun q => h (by injection q with q; exact_mod_cast q)
section
variable {P : Program} {w : World} {K : PySem.W.Frag} {mg : Str → Option Value} {base : Heap} {f fS fR fT fO fI fW : Addr} {fd dS dR dT dO dI dW : FuncData}
abbrev NStT : List Str := ["_law_line_here", "_law_abc", "_law_posts"]
theorem scLWt : FnScope ["_law_thing"] ["_law_thing"] (defScope sLWhole) := ⟨rfl, rfl, rfl, by decide +kernel, rfl, by decide +kernel, by decide +kernel⟩
theorem ok_lwholeT (F : Fun K "_law_whole" "_law_whole" sLWhole f fd) (Z : Free mg) : FnOk P w K mg base CX0 1 f fd ["_law_thing"] spIntS := by
  refine F.ok scLWt (fun vs H Q E h => by obtain ⟨x, rfl, _⟩ := h; rfl) (fun cdv A outer s H vs Q E hr h => ?_)
  obtain ⟨x, rfl, so, k⟩ := h
  refine ⟨_, pss_one (ps_ret (pe_and (pe_callB call_isi (by rfl) Z.isi (by decide +kernel) (pa_cons (pv 0) (pa_cons (pe_bltn (v := .ty "int") (u := .type "int") (by rfl) Z.int (by decide +kernel) rfl) pa_nil)))
      (pe_one (pe_not (pe_callB call_isi (by rfl) Z.isi (by decide +kernel) (pa_cons (pv 0) (pa_cons (pe_bltn (v := .ty "bool") (u := .type "bool") (by rfl) Z.bool (by decide +kernel) rfl) pa_nil))))))), ?_⟩
  obtain ⟨t, b, ty, ki, no, yes⟩ := isint_so (K := K) so k
  cases b with
  | false => exact ⟨_, rfl, _, _, t, .type "int", false, rfl, .ty "int", ty, ki, false, rfl, no rfl⟩
  | true =>
    obtain ⟨c, kc, q⟩ := yes rfl
    exact ⟨_, rfl, _, _, t, .type "int", true, rfl, .ty "int", ty, ki, true, rfl, _, rfl, _, _, t, .type "bool", c, rfl, .ty "bool", ty, kc, _, rfl, q⟩
theorem scStpT : FnScope NStT NStT (defScope sStep) := ⟨rfl, rfl, rfl, by decide +kernel, rfl, by decide +kernel, by decide +kernel⟩
set_option maxHeartbeats 0 in
theorem ok_stepT (F : Fun K "_law_is_step" "_law_is_step" sStep f fd) (Z : Free mg) (mT : mg "tuple" = none) (DW : Def K mg "_law_whole" sLWhole ["_law_thing"] fW dW) : FnOk P w K mg base CX0 2 f fd NStT spStepT := by
  have GW : FnOk P w K mg base CX0 1 fW dW ["_law_thing"] spIntS := ok_lwholeT DW.F Z
  refine F.ok scStpT (fun vs H Q E h => by obtain ⟨r, lp, ys, sg, st, rfl, _⟩ := h; rfl) (fun cdv A outer s H vs Q E hr h => ?_)
  obtain ⟨r, lp, ys, sg, st, rfl, hR, so, hl, k⟩ := h
  refine ⟨_, pss_cons (ps_if (PW.pt (pw_or (pt_not (pt_val (pe_callB call_isi (by rfl) Z.isi (by decide +kernel) (pa_cons (pv 0) (pa_cons (pe_bltn (v := .ty "tuple") (u := .type "tuple") (by rfl) mT (by decide +kernel) rfl) pa_nil)))))
      (pw_or (pt_cmpR op_ne (pe_callB call_len_seq (by rfl) Z.len PySem.boot_len (pa_cons (pv 0) pa_nil)) pe_int (nomark _))
      (pw_or (pt_not (pt_val (pe_callB call_isi (by rfl) Z.isi (by decide +kernel) (pa_cons (pe_ix ix_tup (pv 0) pe_int (fun _ _ => rfl)) (pa_cons (pe_bltn (v := .ty "str") (u := .type "str") (by rfl) Z.str (by decide +kernel) rfl) pa_nil)))))
      (pw_or1 (pt_cmpR op_ne (pe_callB call_len_str (by rfl) Z.len PySem.boot_len (pa_cons (pe_ix ix_tup (pv 0) pe_int (fun _ _ => rfl)) pa_nil)) pe_int (nomark _))))))) (pss_one (ps_ret pe_bl)) pss_nil)
    (pss_one (ps_ret (pe_and (pe_cmpR (show OpR _ _ (rInSo K) from op_inSo (un65 hr)) (pe_ix ix_tup (pv 0) pe_int (fun _ _ => rfl)) (pv 2) (by rfl))
      (pe_and (pe_cmpR op_in_sign (pe_ix ix_tup (pv 0) pe_int (fun _ _ => rfl)) (pv 1) rfl)
      (pe_and (pe_cmpR (show OpR _ _ (rInSo K) from op_inSo (un65 hr)) (pe_ix ix_tup (pv 0) pe_int (fun _ _ => rfl)) (pv 2) (by rfl))
      (pe_one (pe_call GW hr rfl DW.g DW.kp DW.b .nil pass0 (pa_cons (pe_ix ix_tup (pv 0) pe_int (fun _ _ => rfl)) pa_nil)))))))), ?_⟩
  refine ⟨_, rfl, _, _, .type "tuple", .type "tuple", true, rfl, .ty "tuple", .base (.tup hR), kit_ty (by decide +kernel), true, rfl, ?_⟩
  refine ⟨_, rfl, r, _, rfl, .inr (SqT.of hR), rfl, _, rfl, ?_⟩
  by_cases h4 : ys.length = 4
  · obtain ⟨a, b, c, d, rfl⟩ := four h4
    have sa := so a (by simp)
    have sb := so b (by simp)
    have sc := so c (by simp)
    have sd := so d (by simp)
    refine iteNS rfl ?_
    have k : Q (.bl (stB st a && sgB sg b && (stB st c && intB d))) H := k
    have i0 : atI [a, b, c, d] ((0 : Nat) : Int) = some a := atI_nat rfl
    have i1 : atI [a, b, c, d] ((1 : Nat) : Int) = some b := atI_nat rfl
    have i2 : atI [a, b, c, d] ((2 : Nat) : Int) = some c := atI_nat rfl
    have i3 : atI [a, b, c, d] ((3 : Nat) : Int) = some d := atI_nat rfl
    refine ⟨_, rfl, r, _, _, _, rfl, rfl, SqT.of hR, i1, ?_⟩
    rcases So.text K sb with ⟨z, rfl, ft⟩ | ⟨⟨ty, h1, h2⟩, _, n⟩
    · refine ⟨_, _, .type "str", .type "str", true, rfl, .ty "str", .base (.str _), kit_ty (by decide +kernel), true, rfl, ?_⟩
      refine ⟨_, rfl, r, _, _, _, rfl, rfl, SqT.of hR, i1, _, rfl, ft, rfl, _, rfl, ?_⟩
      by_cases e : z.length = 1
      · obtain ⟨x, e1, e2⟩ := one_of e
        refine iteNS (congrArg (fun n : Nat => V.int (n : Int)) e) ?_
        refine ⟨_, rfl, r, _, _, _, rfl, rfl, SqT.of hR, i0, _, rfl, lp, st, rfl, .inr (SqT.of hl), sa, ?_⟩
        cases ha : stB st a with
        | false =>
          rw [ha] at k
          exact ⟨false, rfl, k⟩
        | true =>
          rw [ha] at k
          refine ⟨true, rfl, _, rfl, r, _, _, _, rfl, rfl, SqT.of hR, i1, _, rfl, x, S sg, by rw [e2], rfl, ?_⟩
          rw [sgB_one e1] at k
          rw [S_cps]
          cases hb : decide (x ∈ sg) with
          | false =>
            rw [hb] at k
            exact ⟨false, rfl, k⟩
          | true =>
            rw [hb] at k
            refine ⟨true, rfl, _, rfl, r, _, _, _, rfl, rfl, SqT.of hR, i2, _, rfl, lp, st, rfl, .inr (SqT.of hl), sc, ?_⟩
            cases hc : stB st c with
            | false =>
              rw [hc] at k
              exact ⟨false, rfl, k⟩
            | true =>
              rw [hc] at k
              exact ⟨true, rfl, _, rfl, r, _, _, _, rfl, rfl, SqT.of hR, i3, _, rfl, sd, k⟩
      · rw [sgB_not e, Bool.and_false, Bool.false_and] at k
        exact ifd1 (lenST e) k
    · rw [n, Bool.and_false, Bool.false_and] at k
      exact ⟨_, _, ty, .type "str", false, rfl, .ty "str", h1, h2, false, rfl, k⟩
  · rw [rowB_len h4] at k
    exact ifd1 (lenV h4) k
theorem scEnT : FnScope ["_law_line_here", "_law_posts"] ["_law_line_here", "_law_posts"] (defScope sEnd) := ⟨rfl, rfl, rfl, by decide +kernel, rfl, by decide +kernel, by decide +kernel⟩
set_option maxHeartbeats 0 in
theorem ok_endT (F : Fun K "_law_is_end" "_law_is_end" sEnd f fd) (Z : Free mg) (mT : mg "tuple" = none) (DW : Def K mg "_law_whole" sLWhole ["_law_thing"] fW dW) : FnOk P w K mg base CX0 2 f fd ["_law_line_here", "_law_posts"] spEndT := by
  have GW : FnOk P w K mg base CX0 1 fW dW ["_law_thing"] spIntS := ok_lwholeT DW.F Z
  refine F.ok scEnT (fun vs H Q E h => by obtain ⟨r, lp, ys, st, rfl, _⟩ := h; rfl) (fun cdv A outer s H vs Q E hr h => ?_)
  obtain ⟨r, lp, ys, st, rfl, hR, so, hl, k⟩ := h
  refine ⟨_, pss_cons (ps_if (PW.pt (pw_or (pt_not (pt_val (pe_callB call_isi (by rfl) Z.isi (by decide +kernel) (pa_cons (pv 0) (pa_cons (pe_bltn (v := .ty "tuple") (u := .type "tuple") (by rfl) mT (by decide +kernel) rfl) pa_nil)))))
      (pw_or1 (pt_cmpR op_ne (pe_callB call_len_seq (by rfl) Z.len PySem.boot_len (pa_cons (pv 0) pa_nil)) pe_int (nomark _))))) (pss_one (ps_ret pe_bl)) pss_nil)
    (pss_one (ps_ret (pe_and (pe_cmpR (show OpR _ _ (rInSo K) from op_inSo (un65 hr)) (pe_ix ix_tup (pv 0) pe_int (fun _ _ => rfl)) (pv 1) (by rfl))
      (pe_and (pe_cmpR (show OpR _ _ (rInSo K) from op_inSo (un65 hr)) (pe_ix ix_tup (pv 0) pe_int (fun _ _ => rfl)) (pv 1) (by rfl))
      (pe_one (pe_call GW hr rfl DW.g DW.kp DW.b .nil pass0 (pa_cons (pe_ix ix_tup (pv 0) pe_int (fun _ _ => rfl)) pa_nil))))))), ?_⟩
  refine ⟨_, rfl, _, _, .type "tuple", .type "tuple", true, rfl, .ty "tuple", .base (.tup hR), kit_ty (by decide +kernel), true, rfl, ?_⟩
  refine ⟨_, rfl, r, _, rfl, .inr (SqT.of hR), rfl, _, rfl, ?_⟩
  by_cases h3 : ys.length = 3
  · obtain ⟨a, b, c, rfl⟩ := three h3
    have sa := so a (by simp)
    have sb := so b (by simp)
    have sc := so c (by simp)
    refine iteNS rfl ?_
    have k : Q (.bl (stB st a && (stB st b && intB c))) H := k
    have i0 : atI [a, b, c] ((0 : Nat) : Int) = some a := atI_nat rfl
    have i1 : atI [a, b, c] ((1 : Nat) : Int) = some b := atI_nat rfl
    have i2 : atI [a, b, c] ((2 : Nat) : Int) = some c := atI_nat rfl
    refine ⟨_, rfl, r, _, _, _, rfl, rfl, SqT.of hR, i0, _, rfl, lp, st, rfl, .inr (SqT.of hl), sa, ?_⟩
    cases ha : stB st a with
    | false =>
      rw [ha] at k
      exact ⟨false, rfl, k⟩
    | true =>
      rw [ha] at k
      refine ⟨true, rfl, _, rfl, r, _, _, _, rfl, rfl, SqT.of hR, i1, _, rfl, lp, st, rfl, .inr (SqT.of hl), sb, ?_⟩
      cases hb : stB st b with
      | false =>
        rw [hb] at k
        exact ⟨false, rfl, k⟩
      | true =>
        rw [hb] at k
        exact ⟨true, rfl, _, rfl, r, _, _, _, rfl, rfl, SqT.of hR, i2, _, rfl, sc, k⟩
  · rw [turnB_len h3] at k
    exact ifd1 (lenV h3) k
set_option maxHeartbeats 1000000 in
theorem ok_stepO (F : Fun K "_law_is_step" "_law_is_step" sStep f fd) (Z : Free mg) (mT : mg "tuple" = none) : FnOk P w K mg base CX0 2 f fd NStT (fun vs H Q _ => ∃ (v a b : V), vs = [v, a, b] ∧ Odd1 H v ∧ Q (.bl false) H) := by
  refine F.ok scStpT (fun vs H Q E h => by obtain ⟨v, a, b, rfl, _⟩ := h; rfl) (fun cdv A outer s H vs Q E hr h => ?_)
  obtain ⟨v, a, b, rfl, ho, k⟩ := h
  refine ⟨_, pss_cons (ps_if (PW.pt (pw_or (pt_not (pt_val (pe_callB call_isi (by rfl) Z.isi (by decide +kernel) (pa_cons (pv 0) (pa_cons (pe_bltn (v := .ty "tuple") (u := .type "tuple") (by rfl) mT (by decide +kernel) rfl) pa_nil)))))
      (pw_or (pt_cmpR op_ne (pe_callB call_len_seq (by rfl) Z.len PySem.boot_len (pa_cons (pv 0) pa_nil)) pe_int (nomark _))
      (pw_or (pt_not (pt_val (pe_callB call_isi (by rfl) Z.isi (by decide +kernel) (pa_cons (pe_ix ix_tup (pv 0) pe_int (fun _ _ => rfl)) (pa_cons (pe_bltn (v := .ty "str") (u := .type "str") (by rfl) Z.str (by decide +kernel) rfl) pa_nil)))))
      (pw_or1 (pt_cmpR op_ne (pe_callB call_len_str (by rfl) Z.len PySem.boot_len (pa_cons (pe_ix ix_tup (pv 0) pe_int (fun _ _ => rfl)) pa_nil)) pe_int (nomark _))))))) (pss_one (ps_ret pe_bl)) pss_nil) pss_never, ?_⟩
  obtain ⟨ty, h1, h2⟩ := odd1_tup K ho
  exact ⟨_, rfl, _, _, ty, .type "tuple", false, rfl, .ty "tuple", h1, h2, false, rfl, k⟩
set_option maxHeartbeats 1000000 in
theorem ok_endO (F : Fun K "_law_is_end" "_law_is_end" sEnd f fd) (Z : Free mg) (mT : mg "tuple" = none) : FnOk P w K mg base CX0 2 f fd ["_law_line_here", "_law_posts"] (fun vs H Q _ => ∃ (v a : V), vs = [v, a] ∧ Odd1 H v ∧ Q (.bl false) H) := by
  refine F.ok scEnT (fun vs H Q E h => by obtain ⟨v, a, rfl, _⟩ := h; rfl) (fun cdv A outer s H vs Q E hr h => ?_)
  obtain ⟨v, a, rfl, ho, k⟩ := h
  refine ⟨_, pss_cons (ps_if (PW.pt (pw_or (pt_not (pt_val (pe_callB call_isi (by rfl) Z.isi (by decide +kernel) (pa_cons (pv 0) (pa_cons (pe_bltn (v := .ty "tuple") (u := .type "tuple") (by rfl) mT (by decide +kernel) rfl) pa_nil)))))
      (pw_or1 (pt_cmpR op_ne (pe_callB call_len_seq (by rfl) Z.len PySem.boot_len (pa_cons (pv 0) pa_nil)) pe_int (nomark _))))) (pss_one (ps_ret pe_bl)) pss_nil) pss_never, ?_⟩
  obtain ⟨ty, h1, h2⟩ := odd1_tup K ho
  exact ⟨_, rfl, _, _, ty, .type "tuple", false, rfl, .ty "tuple", h1, h2, false, rfl, k⟩
def spStepA : Sp := fun vs H Q _ => ∃ (v : V) (lp : Addr) (sg : List Nat) (st : List Str), vs = [v, .str (S sg), .ref lp] ∧ TopS H v ∧ H lp = some (.tup (st.map V.str)) ∧ Q (.bl (rwK H sg st v).isSome) H
def spEndA : Sp := fun vs H Q _ => ∃ (v : V) (lp : Addr) (st : List Str), vs = [v, .ref lp] ∧ TopS H v ∧ H lp = some (.tup (st.map V.str)) ∧ Q (.bl (tnK H st v).isSome) H
theorem ok_stepA (F : Fun K "_law_is_step" "_law_is_step" sStep f fd) (Z : Free mg) (mT : mg "tuple" = none) (DW : Def K mg "_law_whole" sLWhole ["_law_thing"] fW dW) : FnOk P w K mg base CX0 2 f fd NStT spStepA :=
  (Wb.FnOk.either (ok_stepT F Z mT DW) (ok_stepO F Z mT)).imp fun vs H Q E h => by
    obtain ⟨v, lp, sg, st, rfl, top, ht, k⟩ := h
    cases top with
    | one ho =>
      rw [rwK_one ho] at k
      exact .inr ⟨v, _, _, rfl, ho, k⟩
    | tup hR l r =>
      rw [rwK_tup hR, rwL_some] at k
      exact .inl ⟨_, lp, _, sg, st, rfl, hR, r, ht, k⟩
theorem ok_endA (F : Fun K "_law_is_end" "_law_is_end" sEnd f fd) (Z : Free mg) (mT : mg "tuple" = none) (DW : Def K mg "_law_whole" sLWhole ["_law_thing"] fW dW) : FnOk P w K mg base CX0 2 f fd ["_law_line_here", "_law_posts"] spEndA :=
  (Wb.FnOk.either (ok_endT F Z mT DW) (ok_endO F Z mT)).imp fun vs H Q E h => by
    obtain ⟨v, lp, st, rfl, top, ht, k⟩ := h
    cases top with
    | one ho =>
      rw [tnK_one ho] at k
      exact .inr ⟨v, _, rfl, ho, k⟩
    | tup hR l r =>
      rw [tnK_tup hR, tnL_some] at k
      exact .inl ⟨_, lp, _, st, rfl, hR, r, ht, k⟩
end
end Lg
/-! _law_rows_due, _law_ends_due of values of any sort -/
namespace Lg
open PySem L2 WbMin WbS Lz Wb
abbrev sRoDue : Stmt := top 72
abbrev sEnDue : Stmt := top 73
def spRoDue : Sp := fun vs H Q _ => ∃ (x : V) (t : Addr) (sg : List Nat) (st : List Str), vs = [.str (S sg), .ref t, x] ∧ Wh H x ∧ H t = some (.tup (st.map V.str)) ∧ OkT sg st ∧ DueQ H (roW H sg st x) Q
def spEnDue : Sp := fun vs H Q _ => ∃ (x : V) (t : Addr) (st : List Str), vs = [.ref t, x] ∧ Wh H x ∧ H t = some (.tup (st.map V.str)) ∧ DueQ H (tuW H st x) Q
theorem Tups.updL {H : Hp} {D : Addr} {o : HO} {ys : List V} (hD : H D = some (.lst ys)) : ∀ {as : List Addr} {xs : List (List V)}, Tups H as xs → Tups (L2.upd H D o) as xs
  | [], [], _ => trivial
  | a :: as, _ :: _, h => ⟨(upd_ne fun z => by
    subst z
    have h1 := h.1
    rw [hD] at h1
    cases h1).trans h.1, Tups.updL hD h.2⟩
  | [], _ :: _, h => h.elim
  | _ :: _, [], h => h.elim
section
variable {P : Program} {w : World} {K : PySem.W.Frag} {mg : Str → Option Value} {base : Heap} {f fN fW : Addr} {fd dN dW : FuncData}
abbrev NRd : List Str := ["_law_abc", "_law_posts", "_law_lines", "_law_seen", "_law_at"]
theorem scRd' : FnScope NRd ["_law_abc", "_law_posts", "_law_lines"] (defScope sRoDue) := ⟨rfl, rfl, rfl, by decide +kernel, rfl, by decide +kernel, by decide +kernel⟩
set_option maxHeartbeats 4000000 in
theorem ok_rodue (F : Fun K "_law_rows_due" "_law_rows_due" sRoDue f fd) (Z : Free mg) (mT : mg "tuple" = none) (DN : Def K mg "_law_is_step" sStep NStT fN dN) (DW : Def K mg "_law_whole" sLWhole ["_law_thing"] fW dW) : FnOk P w K mg base CX0 3 f fd ["_law_abc", "_law_posts", "_law_lines"] spRoDue := by
  have GN : FnOk P w K mg base CX0 2 fN dN NStT spStepA := ok_stepA DN.F Z mT DW
  refine F.ok scRd' (fun vs H Q E h => by obtain ⟨x, t, sg, st, rfl, _⟩ := h; rfl) (fun cdv A outer s H vs Q E hr h => ?_)
  obtain ⟨x, tp, sg, st, rfl, wh, hp, okT, k⟩ := h
  refine ⟨_, pss_cons (ps_set (i := 3) scRd'.nd rfl (.inl rfl) (pe_lst pa_nil))
    (pss_cons (ps_if (pt_not (pt_val (pe_callB call_isi (by rfl) Z.isi (by decide +kernel) (pa_cons (pv 2) (pa_cons (pe_bltn (v := .ty "tuple") (u := .type "tuple") (by rfl) mT (by decide +kernel) rfl) pa_nil))))) (pss_one (ps_ret (pe_lst (pa_cons pe_non pa_nil)))) pss_nil)
    (pss_cons (ps_for PassesOwn.never rfl (pi_range1 (by rfl) Z.range (pa_cons (pe_callB call_len_seq (by rfl) Z.len PySem.boot_len (pa_cons (pv 2) pa_nil)) pa_nil)) (pg_name (i := 4) scRd'.nd rfl (.inl rfl))
      (pss_cons (ps_if (PW.pt (pw_or (pt_not (pt_val (pe_call GN hr rfl DN.g DN.kp DN.b .nil pass0 (pa_cons (pe_ix ix_tup (pv 2) (pv 4) (fun _ _ => rfl)) (pa_cons (pv 0) (pa_cons (pv 1) pa_nil)))))) (pw_or1 (pt_cmpR (op_inD (un65 hr)) (pe_slice (show SlR _ (rSlT K) from sl_tup) (pe_ix ix_tup (pv 2) (pv 4) (fun _ _ => rfl)) po_none (po_some pe_int)) (pv 3) (by rfl))))) (pss_one (ps_ret (pe_lst (pa_cons (pv 4) pa_nil)))) pss_nil)
      (pss_one (ps_expr (pe_bm PySem.F.plainAttrs_list PySem.F.slot_list_append PySem.F.type_list_append mt_append (pv 3) (pa_cons (pe_slice (show SlR _ (rSlT K) from sl_tup) (pe_ix ix_tup (pv 2) (pv 4) (fun _ _ => rfl)) po_none (po_some pe_int)) pa_nil))))))
    (pss_one (ps_ret (pe_ifExp (pt_cmpR op_lt (pe_callB call_len_seq (by rfl) Z.len PySem.boot_len (pa_cons (pv 3) pa_nil)) (pe_op op_mul (pe_callB call_len_str (by rfl) Z.len PySem.boot_len (pa_cons (pv 0) pa_nil)) (pe_callB call_len_seq (by rfl) Z.len PySem.boot_len (pa_cons (pv 1) pa_nil))) (nomark _)) (pe_lst (pa_cons pe_non pa_nil)) (pe_lst pa_nil)))))), ?_⟩
  have ret1 : ∀ {v : V} {H' : Hp}, Same H H' → (roW H sg st x = some v) → ∀ a, H' a = none → Q (.ref a) (upd H' a (.lst [v])) := fun {v H'} s e a n => by
    have q := (k.later s).put n
    rw [e] at q
    exact q
  refine ⟨(by show 0 ≤ sizeLine; decide), fun L hL => ?_⟩
  have sL : Same H (upd H L (.lst [])) := Same.put (Same.refl H) hL
  have hL1 : (upd H L (.lst [])) L = some (.lst []) := upd_same
  generalize upd H L (.lst []) = H1 at sL hL1 ⊢
  cases wh with
  | one ho =>
    obtain ⟨ty, h1, h2⟩ := odd1_tup K (ho.same sL)
    exact ⟨_, rfl, _, _, ty, .type "tuple", false, rfl, .ty "tuple", h1, h2, false, rfl, (by show 1 ≤ sizeLine; decide), fun a ha => ret1 sL (roW_one ho) a ha⟩
  | @tup t xs ht few r c =>
    rw [roW_tup ht] at k ret1
    have hit : ∀ {i : Nat}, i < xs.length → badAt (xs.map (rwK H sg st)) i = true → (∀ j, j < i → badAt (xs.map (rwK H sg st)) j = false) → rwR H sg st xs = some (.int (i : Nat)) := fun hi hb pre => by
      unfold rwR
      rw [fwO_hit (by rw [List.length_map]; exact hi) hb pre]
    refine ⟨_, rfl, _, _, .type "tuple", .type "tuple", true, rfl, .ty "tuple", .base (.tup (sL _ _ ht)), kit_ty (by decide +kernel), true, rfl, ?_⟩
    have big : (xs.length : Int) ≤ 99 := by exact_mod_cast few
    refine ⟨_, rfl, t, _, rfl, .inr (SqT.of (sL _ _ ht)), _, rfl, by omega, by omega, for_it walk_range (fun i σ H' => ∃ (v1 : Option V) (bs : List Addr) (ks : List (Str × Str)), σ = [some (.str (S sg)), some (.ref tp), some (.ref t), some (.ref L), v1] ∧ H' L = some (.lst (bs.map V.ref)) ∧ Tups H' bs (ks.map pV) ∧ ((xs.map (rwK H sg st)).take i = ks.map some) ∧ (∀ p ∈ ks, okP p) ∧ Same H H' ∧ ∀ j, j < i → badAt (xs.map (rwK H sg st)) j = false) ⟨none, [], [], rfl, hL1, trivial, rfl, (fun _ q => nomatch q), sL, fun j hj => absurd hj (Nat.not_lt_zero j)⟩ (fun _ _ _ _ _ => trivial) ?_ ?_⟩
    · rintro i x σ H2 H3 hi ⟨v1, bs, ks, rfl, g1, g2, g3, g4, s2, pre⟩ ex
      obtain ⟨rfl, rfl⟩ := ex
      have hx : xs[i]? = some xs[i] := List.getElem?_eq_getElem hi
      have mx : xs[i] ∈ xs := List.getElem_mem hi
      have tx := r _ mx
      have lk : ks.length = i := by
        have q := congrArg List.length g3
        rw [List.length_take, List.length_map, List.length_map] at q
        omega
      have lb : bs.length = i := by rw [g2.length, List.length_map, lk]
      rw [show (fun i : Nat => V.int (0 + (i : Int))) i = V.int (i : Int) from congrArg V.int (Int.zero_add _)]
      have hl : (xs.map (rwK H sg st))[i]? = some (rwK H sg st xs[i]) := by rw [List.getElem?_map, hx] <;> rfl
      refine ⟨_, rfl, _, rfl, t, _, _, _, rfl, rfl, SqT.of (s2 _ _ ht), atI_nat hx, _, rfl, _, rfl, xs[i], tp, sg, st, rfl, tx.same s2, s2 _ _ hp, ?_⟩
      rw [rwK_same tx s2]
      cases ek : rwK H sg st xs[i] with
      | none =>
        rw [ek] at hl
        exact ⟨false, rfl, _, rfl, (by show 1 ≤ sizeLine; decide), fun a ha => ret1 s2 (hit hi (badAt_non hl) pre) a ha⟩
      | some z =>
        rw [ek] at hl
        have ez := ek
        obtain ⟨a, hxa, b, c', d, e', hR, rfl, okz⟩ : ∃ a, xs[i] = .ref a ∧ ∃ (b : Str) (c' : Nat) (d e' : V), H a = some (.tup [.str b, .str (S [c']), d, e']) ∧ z = (b, S [c']) ∧ okP z := by
          cases hv : xs[i] with
          | ref a =>
            rw [hv] at tx ek
            cases tx with
            | one ho =>
              rw [rwK_one ho] at ek
              cases ek
            | tup hR _ _ =>
              rw [rwK_tup hR] at ek
              obtain ⟨b, c', d, e', rfl, rfl, m1, m2⟩ := rwL_eq ek
              exact ⟨a, rfl, b, c', d, e', hR, rfl, okT.1 b m1, okT.2.1 c' m2⟩
          | _ =>
            rw [hv] at ek
            cases ek
        have hx' : xs[i]? = some (.ref a) := by rw [hx, hxa]
        refine ⟨true, rfl, _, rfl, _, rfl, t, _, _, _, rfl, rfl, SqT.of (s2 _ _ ht), atI_nat hx', _, rfl, a, _, rfl, SqT.of (s2 _ _ hR), fun q => absurd (show HT.sIx 4 4 (some 2) = 4 from q.2) (by decide), fun u hu => ?_⟩
        have sU := Same.put (o := .tup (cutV [.str b, .str (S [c']), d, e'] none (some 2))) (Same.refl _) hu
        refine ⟨_, rfl, pD (b, S [c']), ks.map pD, dp_pair upd_same, .lst (SqL.of (sU _ _ g1)) (dp_pairs (g2.same sU)), shaped_pair okz, shaped_pairs g4, _, rfl, ?_⟩
        have ebad : badAt (xs.map (rwK H sg st)) i = ((ks.map pD).any fun y => PyData.eqv y (pD (b, S [c']))) := by
          rw [any_pair, badAt_some hl, g3, mem_some]
          exact decide_eq_decide.mpr Iff.rfl
        rw [← ebad]
        cases eb2 : badAt (xs.map (rwK H sg st)) i with
        | true => exact ⟨_, rfl, (by show 1 ≤ sizeLine; decide), fun a ha => ret1 (s2.trans sU) (hit hi eb2 pre) a ha⟩
        | false =>
          have s2u := s2.trans sU
          refine ⟨_, rfl, .inl ⟨rfl, _, SqL.of (sU _ _ g1)⟩, _, rfl, _, rfl, t, _, _, _, rfl, rfl, SqT.of (s2u _ _ ht), atI_nat hx', _, rfl, a, _, rfl, SqT.of (s2u _ _ hR), fun q => absurd (show HT.sIx 4 4 (some 2) = 4 from q.2) (by decide), fun u2 hu2 => ?_⟩
          have sU2 := Same.put (o := .tup (cutV [.str b, .str (S [c']), d, e'] none (some 2))) (Same.refl _) hu2
          have g1' := sU2 _ _ (sU _ _ g1)
          have nL : u2 ≠ L := fun z => ne_of_none (sU _ _ g1) hu2 z.symm
          refine ⟨L, _, _, rfl, rfl, g1', by rw [List.length_map, sizeLine_eq]; omega, _, bs ++ [u2], ks ++ [(b, S [c'])], rfl, ?_, ?_, ?_, ?_, Same.new' (s2u.trans sU2) hL, ?_⟩
          · rw [upd_same, List.map_append] <;> rfl
          · rw [List.map_append]
            exact Tups.snoc ((upd_ne nL).trans upd_same) (Lg.Tups.updL g1' ((g2.same sU).same sU2))
          · rw [List.take_add_one, hl, g3, List.map_append] <;> rfl
          · intro q hq
            rcases List.mem_append.mp hq with hq | hq
            · exact g4 q hq
            · rw [List.mem_singleton.mp hq]
              exact okz
          · intro j hj
            rcases Nat.lt_succ_iff_lt_or_eq.mp hj with hj | rfl
            · exact pre j hj
            · exact eb2
    · rintro σ H2 ⟨v1, bs, ks, rfl, g1, g2, g3, g4, s2, pre⟩
      have lk : ks.length = xs.length := by
        have q := congrArg List.length g3
        rw [List.length_take, List.length_map, List.length_map] at q
        omega
      have lb : bs.length = xs.length := by rw [g2.length, List.length_map, lk]
      obtain ⟨_, _, f4, f6⟩ := okT
      have fitS : (S sg).length ≤ sizeLine := by rw [S_len, sizeLine_eq]; omega
      have en := fwO_none (l := xs.map (rwK H sg st)) fun j hj => pre j (by rw [List.length_map] at hj; exact hj)
      unfold rwR at k
      rw [en] at k
      have k : DueQ H (if xs.length < sg.length * st.length then some .non else none) Q := k
      refine ⟨_, rfl, L, _, rfl, .inl (SqL.of g1), _, rfl, _, rfl, fitS, _, rfl, tp, _, rfl, .inr (SqT.of (s2 _ _ hp)), _, _, rfl, rfl, .inl ?_, _, _, rfl, rfl, _, rfl, ?_⟩
      · rw [S_len]
        omega
      · rw [S_len, List.length_map, List.length_map, lb]
        by_cases hc : xs.length < sg.length * st.length
        · rw [if_pos hc] at k
          refine ifd (by exact_mod_cast hc) ⟨(by show 1 ≤ sizeLine; decide), fun a ha => (k.later s2).put ha⟩
        · rw [if_neg hc] at k
          exact ifn (by exact_mod_cast hc) ⟨(by show 0 ≤ sizeLine; decide), fun a ha => (k.later s2).put ha⟩
theorem tn_at {H : Hp} {st : List Str} {x : V} {z : Str} (tx : TopS H x) (h : tnK H st x = some z) : ∃ a b c, x = .ref a ∧ H a = some (.tup [.str z, b, c]) := by
  cases tx with
  | one ho =>
    rw [tnK_one ho] at h
    cases h
  | tup hR _ _ =>
    rw [tnK_tup hR] at h
    obtain ⟨b, c, rfl, _⟩ := tnL_eq h
    exact ⟨_, b, c, rfl, hR⟩
abbrev NEd : List Str := ["_law_posts", "_law_ends", "_law_at", "_law_line_here"]
theorem scEd : FnScope NEd ["_law_posts", "_law_ends"] (defScope sEnDue) := ⟨rfl, rfl, rfl, by decide +kernel, rfl, by decide +kernel, by decide +kernel⟩
set_option maxHeartbeats 4000000 in
theorem ok_endue (F : Fun K "_law_ends_due" "_law_ends_due" sEnDue f fd) (Z : Free mg) (mT : mg "tuple" = none) (DN : Def K mg "_law_is_end" sEnd ["_law_line_here", "_law_posts"] fN dN) (DW : Def K mg "_law_whole" sLWhole ["_law_thing"] fW dW) : FnOk P w K mg base CX0 3 f fd ["_law_posts", "_law_ends"] spEnDue := by
  have GN : FnOk P w K mg base CX0 2 fN dN ["_law_line_here", "_law_posts"] spEndA := ok_endA DN.F Z mT DW
  refine F.ok scEd (fun vs H Q E h => by obtain ⟨x, t, st, rfl, _⟩ := h; rfl) (fun cdv A outer s H vs Q E hr h => ?_)
  obtain ⟨x, tp, st, rfl, wh, hp, k⟩ := h
  refine ⟨_, pss_cons (ps_if (pt_not (pt_val (pe_callB call_isi (by rfl) Z.isi (by decide +kernel) (pa_cons (pv 1) (pa_cons (pe_bltn (v := .ty "tuple") (u := .type "tuple") (by rfl) mT (by decide +kernel) rfl) pa_nil))))) (pss_one (ps_ret (pe_lst (pa_cons pe_non pa_nil)))) pss_nil)
    (pss_cons (ps_for PassesOwn.never rfl (pi_range1 (by rfl) Z.range (pa_cons (pe_callB call_len_seq (by rfl) Z.len PySem.boot_len (pa_cons (pv 1) pa_nil)) pa_nil)) (pg_name (i := 2) scEd.nd rfl (.inl rfl))
      (pss_one (ps_if (PW.pt (pw_or (pt_not (pt_val (pe_call GN hr rfl DN.g DN.kp DN.b .nil pass0 (pa_cons (pe_ix ix_tup (pv 1) (pv 2) (fun _ _ => rfl)) (pa_cons (pv 0) pa_nil))))) (pw_or1 (pt_cmpR op_in_seq (pe_ix ix_tup (pe_ix ix_tup (pv 1) (pv 2) (fun _ _ => rfl)) pe_int (fun _ _ => rfl))
          (pe_lc (own := [("_law_line_here", 3)]) (g := gName 3) (tt := tYes) rfl scEd.nd (pi_tup (pe_slice (show SlR _ (rSlT K) from sl_tup) (pv 1) po_none (po_some (pv 2)))) (blkOk_by (N := NEd) (sc := defScope sEnDue) (by decide +kernel)) (fun _ _ _ _ _ => pg_name (i := 3) scEd.nd rfl (.inl rfl)) (fun _ _ _ _ _ => pts_nil)
            (fun _ _ _ _ _ => pe_ix (show IxR _ (rIxT K) from ix_tup) (pv 3) pe_int (fun _ _ => rfl))) (by rfl))))) (pss_one (ps_ret (pe_lst (pa_cons (pv 2) pa_nil)))) pss_nil)))
    (pss_one (ps_ret (pe_lst pa_nil)))), ?_⟩
  have ret1 : ∀ {v : V} {H' : Hp}, Same H H' → (tuW H st x = some v) → ∀ a, H' a = none → Q (.ref a) (upd H' a (.lst [v])) := fun {v H'} s e a n => by
    have q := (k.later s).put n
    rw [e] at q
    exact q
  cases wh with
  | one ho =>
    obtain ⟨ty, h1, h2⟩ := odd1_tup K ho
    exact ⟨_, rfl, _, _, ty, .type "tuple", false, rfl, .ty "tuple", h1, h2, false, rfl, (by show 1 ≤ sizeLine; decide), fun a ha => ret1 (Same.refl H) (tuW_one ho) a ha⟩
  | @tup t xs ht few r c =>
    rw [tuW_tup ht] at k ret1
    have hit : ∀ {i : Nat}, i < xs.length → badAt (xs.map (tnK H st)) i = true → (∀ j, j < i → badAt (xs.map (tnK H st)) j = false) → ixO (fwO (xs.map (tnK H st))) = some (.int (i : Nat)) := fun hi hb pre => by
      rw [fwO_hit (by rw [List.length_map]; exact hi) hb pre] <;> rfl
    refine ⟨_, rfl, _, _, .type "tuple", .type "tuple", true, rfl, .ty "tuple", .base (.tup ht), kit_ty (by decide +kernel), true, rfl, ?_⟩
    have big : (xs.length : Int) ≤ 99 := by exact_mod_cast few
    refine ⟨_, rfl, t, _, rfl, .inr (SqT.of ht), _, rfl, by omega, by omega, for_it walk_range (fun i σ H' => ∃ v1 : Option V, σ = [some (.ref tp), some (.ref t), v1, none] ∧ Same H H' ∧ ∀ j, j < i → badAt (xs.map (tnK H st)) j = false) ⟨none, rfl, Same.refl H, fun j hj => absurd hj (Nat.not_lt_zero j)⟩ (fun _ _ _ _ _ => trivial) ?_ ?_⟩
    · rintro i x σ H2 H3 hi ⟨v1, rfl, s2, pre⟩ ex
      obtain ⟨rfl, rfl⟩ := ex
      have hx : xs[i]? = some xs[i] := List.getElem?_eq_getElem hi
      have mx : xs[i] ∈ xs := List.getElem_mem hi
      have tx := r _ mx
      rw [show (fun i : Nat => V.int (0 + (i : Int))) i = V.int (i : Int) from congrArg V.int (Int.zero_add _)]
      have hl : (xs.map (tnK H st))[i]? = some (tnK H st xs[i]) := by rw [List.getElem?_map, hx] <;> rfl
      refine ⟨_, rfl, _, rfl, t, _, _, _, rfl, rfl, SqT.of (s2 _ _ ht), atI_nat hx, _, rfl, xs[i], tp, st, rfl, tx.same s2, s2 _ _ hp, ?_⟩
      rw [tnK_same tx s2]
      cases ek : tnK H st xs[i] with
      | none =>
        rw [ek] at hl
        exact ⟨false, rfl, _, rfl, (by show 1 ≤ sizeLine; decide), fun a ha => ret1 s2 (hit hi (badAt_non hl) pre) a ha⟩
      | some z =>
        rw [ek] at hl
        obtain ⟨ks, k1, k2, k3⟩ := fw_pre (l := xs.map (tnK H st)) (i := i) (by rw [List.length_map]; omega) pre
        obtain ⟨a, b, c', hxa, hR⟩ := tn_at tx ek
        have hx' : xs[i]? = some (.ref a) := by rw [hx, hxa]
        refine ⟨true, rfl, _, rfl, _, rfl, t, _, _, _, rfl, rfl, SqT.of (s2 _ _ ht), atI_nat hx', a, _, _, _, rfl, rfl, SqT.of (s2 _ _ hR), atI_nat (j := 0) rfl, _, rfl, _, rfl, _, rfl, t, _, rfl, SqT.of (s2 _ _ ht), ?_, fun u hu => ?_⟩
        · rintro ⟨_, q⟩
          rw [HT.sIx_nat] at q
          omega
        · rw [cut_take (Nat.le_of_lt hi)]
          have sU := Same.put (o := .tup (xs.take i)) (Same.refl _) hu
          have hU : (upd H3 u (.tup (xs.take i))) u = some (.tup (xs.take i)) := upd_same
          have s2u := s2.trans sU
          generalize upd H3 u (.tup (xs.take i)) = HU at sU hU s2u ⊢
          have lt : (xs.take i).length = i := by rw [List.length_take]; omega
          refine ⟨u, rfl, ⟨_, SqT.of hU⟩, fun D hD => lc_it (walk_tup (xs := xs.take i)) (fun j H4 => H4 D = some (.lst ((ks.take j).map V.str)) ∧ Same HU H4) ⟨upd_same, Same.put (Same.refl HU) hD⟩ (fun _ _ _ h => SqT.of (h.2 _ _ hU)) ?_ ?_⟩
          · rintro j y H4 H5 hj ⟨e1, e2⟩ ⟨rfl, hy⟩
            rw [lt] at hj
            rw [List.getElem?_take_of_lt hj] at hy
            have hk : ks[j]? = some ks[j] := List.getElem?_eq_getElem (by omega)
            have q : ((xs.map (tnK H st)).take i)[j]? = some (some ks[j]) := by rw [k2, List.getElem?_map, hk] <;> rfl
            rw [List.getElem?_take_of_lt hj, List.getElem?_map, hy] at q
            have q : tnK H st y = some ks[j] := by injection q
            obtain ⟨a2, b2, c2, rfl, hR2⟩ := tn_at (r y (List.mem_of_getElem? hy)) q
            refine ⟨rfl, _, rfl, _, _, _, _, rfl, rfl, SqT.of ((s2u.trans e2) _ _ hR2), atI_nat (j := 0) rfl, _, e1, ?_, ?_, Same.new' e2 hD⟩
            · rw [List.length_map, List.length_take, sizeLine_eq]
              omega
            · rw [upd_same, take_succ_map _ hk] <;> rfl
          · rintro H4 ⟨e1, e2⟩
            rw [lt, show ks.take i = ks from by rw [← k1, List.take_length]] at e1
            refine ⟨D, _, rfl, .inl (SqL.of e1), rfl, Wb.flat_strs _, _, rfl, ?_⟩
            have ebad : badAt (xs.map (tnK H st)) i = inV (.str z) (ks.map V.str) := by rw [inV_strs, badAt_some hl, k2, mem_some]
            show if inV (.str z) (ks.map V.str) = true then _ else _
            rw [← ebad]
            have s4 := s2u.trans e2
            cases eb2 : badAt (xs.map (tnK H st)) i with
            | true => exact ⟨_, rfl, (by show 1 ≤ sizeLine; decide), fun a ha => ret1 s4 (hit hi eb2 pre) a ha⟩
            | false =>
              refine ⟨_, rfl, s4, fun j hj => ?_⟩
              rcases Nat.lt_succ_iff_lt_or_eq.mp hj with hj | rfl
              · exact pre j hj
              · exact eb2
    · rintro σ H2 ⟨v1, rfl, s2, pre⟩
      refine ⟨(by show 0 ≤ sizeLine; decide), fun a ha => ?_⟩
      have q := (k.later s2).put ha
      rw [fwO_none fun j hj => pre j (by rw [List.length_map] at hj; exact hj)] at q
      exact q
end
end Lg
/-! _law_loop_due of values of any sort -/
namespace Lg
open PySem L2 WbMin WbS Lz Wb
abbrev sLoDue : Stmt := top 75
/-- None or a number -/
def NI (v : V) : Prop := v = .non ∨ ∃ i : Int, v = .int i
theorem ix_ni {o : Option Nat} {v : V} (h : ixO o = some v) : NI v := by
  cases o with
  | none => cases h
  | some i =>
    cases h
    exact .inr ⟨_, rfl⟩
theorem stR_ni {xs : List V} {v : V} (h : stR xs = some v) : NI v := by
  unfold stR at h
  split at h
  · cases h
    exact .inl rfl
  · split at h
    · cases h
      exact .inr ⟨_, rfl⟩
    · split at h
      · cases h
        exact .inr ⟨_, rfl⟩
      · cases h
theorem rwR_ni {H : Hp} {sg : List Nat} {st : List Str} {xs : List V} {v : V} (h : rwR H sg st xs = some v) : NI v := by
  unfold rwR at h
  split at h
  · cases h
    exact .inr ⟨_, rfl⟩
  · split at h
    · cases h
      exact .inl rfl
    · cases h
section
variable {H : Hp} {x v : V} {st : List Str} {sg : List Nat}
theorem stW_ni (wh : Wh H x) (h : stW H x = some v) : NI v := by
  cases wh with
  | one ho =>
    rw [stW_one ho] at h
    cases h
    exact .inl rfl
  | tup ht _ _ _ =>
    rw [stW_tup ht] at h
    exact stR_ni h
theorem roW_ni (wh : Wh H x) (h : roW H sg st x = some v) : NI v := by
  cases wh with
  | one ho =>
    rw [roW_one ho] at h
    cases h
    exact .inl rfl
  | tup ht _ _ _ =>
    rw [roW_tup ht] at h
    exact rwR_ni h
theorem tuW_ni (wh : Wh H x) (h : tuW H st x = some v) : NI v := by
  cases wh with
  | one ho =>
    rw [tuW_one ho] at h
    cases h
    exact .inl rfl
  | tup ht _ _ _ =>
    rw [tuW_tup ht] at h
    exact ix_ni h
theorem yeW_ni (wh : Wh H x) (h : yeW H st x = some v) : NI v := by
  cases wh with
  | one ho =>
    rw [yeW_one ho] at h
    cases h
    exact .inl rfl
  | tup ht _ _ _ =>
    rw [yeW_tup ht] at h
    exact ix_ni h
end
/-- None or a number, as data -/
def niD : V → PyData
  | .int i => .int i
  | _ => .none
/-- the face of what an error keeps -/
def keptD (d : PyData) : Option (Nat × V) → PyData
  | none => plainD .none
  | some (0, _) => d
  | some (_, v) => plainD (niD v)
def wordO : Option (Nat × V) → Str
  | none => "nothing"
  | some (i, _) => wdOf i
theorem ni_dp {K : PySem.W.Frag} {H : Hp} {v : V} (h : NI v) : Dp K H v (niD v) := by
  rcases h with rfl | ⟨i, rfl⟩
  · exact .non
  · exact .int i
theorem ni_thing {H : Hp} {v : V} (h : NI v) : Thing H 5 v (plainD (niD v)) := by
  rcases h with rfl | ⟨i, rfl⟩
  · exact .inl .non
  · exact .inl (.int i)
/-- a due list, as data -/
def lstD (o : Option V) : PyData := .list ((lstO o).map niD)
theorem lst_dp {K : PySem.W.Frag} {H : Hp} {a : Addr} {o : Option V} (ha : H a = some (.lst (lstO o))) (h : ∀ v, o = some v → NI v) : Dp K H (.ref a) (lstD o) := by
  cases o with
  | none => exact .lst (SqL.of ha) .nil
  | some v => exact .lst (SqL.of ha) (.cons (ni_dp (h v rfl)) .nil)
theorem lst_shaped {o : Option V} (h : ∀ v, o = some v → NI v) : SeqAt.shaped (lstD o) = true := by
  cases o with
  | none => rfl
  | some v =>
    rcases h v rfl with rfl | ⟨i, rfl⟩
    · rfl
    · show SeqAt.shaped (.list [.int i]) = true
      unfold SeqAt.shaped
      show ((true && true) && decide _) = true
      rfl
theorem lst_ne {o : Option V} : (!PyData.eqv (lstD o) (.list [])) = o.isSome := by
  cases o <;> rfl
abbrev NLd : List Str := ["_law_parts_here", "_law_abc", "_law_posts", "_law_lines", "_law_ends", "_law_oks"]
theorem scLd : FnScope NLd ["_law_parts_here"] (defScope sLoDue) := ⟨rfl, rfl, rfl, by decide +kernel, rfl, by decide +kernel, by decide +kernel⟩
def spLoDue (K : PySem.W.Frag) : Sp := fun vs H Q _ => ∃ (L p : Addr) (sV tV rV uV yV : V) (d : PyData) (o : Option (Nat × V)), vs = [.ref L] ∧ H L = some (.lst [sV, tV, rV, uV, yV]) ∧ Any p H sV d ∧ Wh H tV ∧ Wh H rV ∧ Wh H uV ∧ Wh H yV ∧ LoDue false K H sV tV rV uV yV o ∧ TellP K H (wordO o) (keptD d o) Q
section
variable {P : Program} {w : World} {K : PySem.W.Frag} {mg : Str → Option Value} {base : Heap} {f fB fS fR fT fY fF fN fW fP fE fLW : Addr} {fd dB dS dR dT dY dF dN dW dP dE dLW : FuncData}
set_option maxHeartbeats 4000000 in
theorem ok_lodue (F : Fun K "_law_loop_due" "_law_loop_due" sLoDue f fd) (Z : Free mg) (ZT : FreeT mg) (DF : Def K mg "_law_face" sFace ["_law_thing"] fF dF) (DB : Def K mg "_law_bad_signs" sBadSigns ["_law_abc"] fB dB) (DLW : Def K mg "_law_is_word" sLIsWord ["_law_thing", "_law_abc"] fLW dLW)
    (DS : Def K mg "_law_states_due" sStDue ["_law_posts"] fS dS) (DN : Def K mg "_law_is_name" sLName ["_law_thing"] fN dN) (DR : Def K mg "_law_rows_due" sRoDue ["_law_abc", "_law_posts", "_law_lines"] fR dR) (DP : Def K mg "_law_is_step" sStep NStT fP dP) (DW : Def K mg "_law_whole" sLWhole ["_law_thing"] fW dW)
    (DT : Def K mg "_law_ends_due" sEnDue ["_law_posts", "_law_ends"] fT dT) (DE : Def K mg "_law_is_end" sEnd ["_law_line_here", "_law_posts"] fE dE) (DY : Def K mg "_law_yes_due" sYeDue ["_law_posts", "_law_oks"] fY dY) : FnOk P w K mg base CX0 7 f fd ["_law_parts_here"] (spLoDue K) := by
  have GF : FnOk P w K mg base CX0 6 fF dF ["_law_thing"] (spFace K 5) := ok_face DF ZT 5
  have GB : FnOk P w K mg base CX0 2 fB dB ["_law_abc"] spBadSigns := ok_badsigns DB.F Z DLW
  have GS : FnOk P w K mg base CX0 2 fS dS ["_law_posts"] spStDue := ok_stdue DS.F Z ZT.tup DN
  have GR : FnOk P w K mg base CX0 3 fR dR ["_law_abc", "_law_posts", "_law_lines"] spRoDue := ok_rodue DR.F Z ZT.tup DP DW
  have GT : FnOk P w K mg base CX0 3 fT dT ["_law_posts", "_law_ends"] spEnDue := ok_endue DT.F Z ZT.tup DE DW
  have GY : FnOk P w K mg base CX0 1 fY dY ["_law_posts", "_law_oks"] spYeDue := ok_yedue DY.F Z ZT.tup
  refine F.ok scLd (fun vs H Q E h => by obtain ⟨L, p, sV, tV, rV, uV, yV, d, o, rfl, _⟩ := h; rfl) (fun cdv A outer s H vs Q E hr h => ?_)
  obtain ⟨L, p, sV, tV, rV, uV, yV, d, o, rfl, hL, ha, ht, hrr, hu, hy, due, k⟩ := h
  have hr6 : Room 6 _ := hr
  have hrB : Room 2 _ := hr.mono (by decide)
  have hrS : Room 2 _ := hr.mono (by decide)
  have hrR : Room 3 _ := hr.mono (by decide)
  have hrT : Room 3 _ := hr.mono (by decide)
  have hrY : Room 1 _ := hr.mono (by decide)
  refine ⟨_, pss_cons (ps_asg (pv 0) (pg_unp rfl (pgs_cons (pg_name (i := 1) scLd.nd rfl (.inl rfl)) (pgs_cons (pg_name (i := 2) scLd.nd rfl (.inl rfl)) (pgs_cons (pg_name (i := 3) scLd.nd rfl (.inl rfl)) (pgs_cons (pg_name (i := 4) scLd.nd rfl (.inl rfl)) (pgs_cons (pg_name (i := 5) scLd.nd rfl (.inl rfl)) pgs_nil)))))))
    (pss_cons (ps_if (pt_val (pe_call GB hrB rfl DB.g DB.kp DB.b .nil pass0 (pa_cons (pv 1) pa_nil))) (pss_one (ps_ret (pe_lst (pa_cons pe_str (pa_cons (pe_call GF hr6 rfl DF.g DF.kp DF.b .nil pass0 (pa_cons (pv 1) pa_nil)) pa_nil))))) pss_nil)
    (pss_cons (ps_if (pt_cmpR (op_neD hr.units) (pe_call GS hrS rfl DS.g DS.kp DS.b .nil pass0 (pa_cons (pv 2) pa_nil)) (pe_lst pa_nil) (nomark _)) (pss_one (ps_ret (pe_lst (pa_cons pe_str (pa_cons (pe_call GF hr6 rfl DF.g DF.kp DF.b .nil pass0 (pa_cons (pe_ix ix_list (pe_call GS hrS rfl DS.g DS.kp DS.b .nil pass0 (pa_cons (pv 2) pa_nil)) pe_int (fun _ _ => rfl)) pa_nil)) pa_nil))))) pss_nil)
    (pss_cons (ps_if (pt_cmpR (op_neD hr.units) (pe_call GR hrR rfl DR.g DR.kp DR.b .nil pass0 (pa_cons (pv 1) (pa_cons (pv 2) (pa_cons (pv 3) pa_nil)))) (pe_lst pa_nil) (nomark _)) (pss_one (ps_ret (pe_lst (pa_cons pe_str (pa_cons (pe_call GF hr6 rfl DF.g DF.kp DF.b .nil pass0 (pa_cons (pe_ix ix_list (pe_call GR hrR rfl DR.g DR.kp DR.b .nil pass0 (pa_cons (pv 1) (pa_cons (pv 2) (pa_cons (pv 3) pa_nil)))) pe_int (fun _ _ => rfl)) pa_nil)) pa_nil))))) pss_nil)
    (pss_cons (ps_if (pt_cmpR (op_neD hr.units) (pe_call GT hrT rfl DT.g DT.kp DT.b .nil pass0 (pa_cons (pv 2) (pa_cons (pv 4) pa_nil))) (pe_lst pa_nil) (nomark _)) (pss_one (ps_ret (pe_lst (pa_cons pe_str (pa_cons (pe_call GF hr6 rfl DF.g DF.kp DF.b .nil pass0 (pa_cons (pe_ix ix_list (pe_call GT hrT rfl DT.g DT.kp DT.b .nil pass0 (pa_cons (pv 2) (pa_cons (pv 4) pa_nil))) pe_int (fun _ _ => rfl)) pa_nil)) pa_nil))))) pss_nil)
    (pss_cons (ps_if (pt_cmpR (op_neD hr.units) (pe_call GY hrY rfl DY.g DY.kp DY.b .nil pass0 (pa_cons (pv 2) (pa_cons (pv 5) pa_nil))) (pe_lst pa_nil) (nomark _)) (pss_one (ps_ret (pe_lst (pa_cons pe_str (pa_cons (pe_call GF hr6 rfl DF.g DF.kp DF.b .nil pass0 (pa_cons (pe_ix ix_list (pe_call GY hrY rfl DY.g DY.kp DY.b .nil pass0 (pa_cons (pv 2) (pa_cons (pv 5) pa_nil))) pe_int (fun _ _ => rfl)) pa_nil)) pa_nil))))) pss_nil)
    (pss_one (ps_ret (pe_lst (pa_cons pe_str (pa_cons (pe_call GF hr6 rfl DF.g DF.kp DF.b .nil pass0 (pa_cons pe_non pa_nil)) pa_nil)))))))))), ?_⟩
  have fin : ∀ (wd : Str) (dv : PyData) (G : Hp), Same H G → TellP K H wd dv Q → ∀ (b : Addr) (G1 : Hp), G b = none → Same G G1 → Dp K (New G G1) (.ref b) dv → ∀ a, G1 a = none → Q (.ref a) (upd G1 a (.lst [.str wd, .ref b])) := fun wd dv G s1 told b G1 _ s2 d2 a ha => by
    have s3 := s1.trans s2
    refine told a _ (free_of s3 ha) (Same.new2 s3 (free_of s3 ha)) (.lst (SqL.of ((New.at (free_of s3 ha)).trans upd_same)) (.cons (.str _) (.cons (Dp.stay (New.mono fun c u h1 h2 => ⟨free_of s1 h1, ?_⟩) d2) .nil)))
    rw [upd_ne (ne_of_none h2 ha)]
    exact h2
  refine ⟨_, rfl, L, _, rfl, SqL.of hL, rfl, _, _, rfl, _, _, rfl, _, _, rfl, _, _, rfl, _, _, rfl, rfl, ?_⟩
  refine ⟨_, rfl, p, sV, d, rfl, ha, fun H1 s1 => ?_⟩
  cases due with
  | sg h =>
    rw [h]
    refine ⟨true, rfl, _, rfl, _, d, rfl, (ha.same s1).thing, fun b G3 hb s3 d3 => ⟨(by show 2 ≤ sizeLine; decide), fun c hc => ?_⟩⟩
    exact fin _ _ H1 s1 k b G3 hb s3 d3 c hc
  | st h e =>
    rw [h]
    refine ⟨false, rfl, ?_⟩
    refine ⟨_, rfl, _, rfl, ht.same s1, ?_⟩
    rw [stW_same ht s1, e]
    intro az1 Gz1 naz1 saz1 eaz1
    refine ⟨(by show 0 ≤ sizeLine; decide), fun Mz1 hMz1 => ?_⟩
    have sMz1 := Same.put (o := .lst []) (Same.refl Gz1) hMz1
    have z1 := ((s1).trans saz1).trans sMz1
    refine ⟨_, _, lst_dp (sMz1 _ _ eaz1) (fun v z => stW_ni ht ((e).trans z)), .lst (SqL.of upd_same) .nil, lst_shaped (fun v z => stW_ni ht ((e).trans z)), rfl, _, rfl, ?_⟩
    rw [lst_ne]
    refine iteT ⟨_, rfl, _, rfl, ht.same z1, ?_⟩
    rw [stW_same ht z1, e]
    intro a2 G2 na2 sa2 ea2
    have s2 := (z1).trans sa2
    refine ⟨a2, _, _, _, rfl, rfl, SqL.of ea2, atI_nat (j := 0) rfl, _, _, rfl, ni_thing (stW_ni ht e), fun b G3 hb s3 d3 => ⟨(by show 2 ≤ sizeLine; decide), fun c hc => ?_⟩⟩
    exact fin _ _ G2 s2 k b G3 hb s3 d3 c hc
  | ro h G ht' hT T es e =>
    subst h
    subst ht'
    rw [signsB_S, sgnB_iff.mpr G]
    refine ⟨false, rfl, ?_⟩
    refine ⟨_, rfl, _, rfl, ht.same s1, ?_⟩
    rw [stW_same ht s1, es]
    intro az1 Gz1 naz1 saz1 eaz1
    refine ⟨(by show 0 ≤ sizeLine; decide), fun Mz1 hMz1 => ?_⟩
    have sMz1 := Same.put (o := .lst []) (Same.refl Gz1) hMz1
    have z1 := ((s1).trans saz1).trans sMz1
    refine ⟨_, _, lst_dp (sMz1 _ _ eaz1) (fun v z => stW_ni ht ((es).trans z)), .lst (SqL.of upd_same) .nil, lst_shaped (fun v z => stW_ni ht ((es).trans z)), rfl, _, rfl, ?_⟩
    rw [lst_ne]
    refine iteF ?_
    refine ⟨_, rfl, _, rfl, _, rfl, rV, _, _, _, rfl, hrr.same z1, z1 _ _ hT, sts_ok G T, ?_⟩
    rw [roW_same hrr z1, e]
    intro az2 Gz2 naz2 saz2 eaz2
    refine ⟨(by show 0 ≤ sizeLine; decide), fun Mz2 hMz2 => ?_⟩
    have sMz2 := Same.put (o := .lst []) (Same.refl Gz2) hMz2
    have z2 := ((z1).trans saz2).trans sMz2
    refine ⟨_, _, lst_dp (sMz2 _ _ eaz2) (fun v z => roW_ni hrr ((e).trans z)), .lst (SqL.of upd_same) .nil, lst_shaped (fun v z => roW_ni hrr ((e).trans z)), rfl, _, rfl, ?_⟩
    rw [lst_ne]
    refine iteT ⟨_, rfl, _, rfl, _, rfl, rV, _, _, _, rfl, hrr.same z2, z2 _ _ hT, sts_ok G T, ?_⟩
    rw [roW_same hrr z2, e]
    intro a2 G2 na2 sa2 ea2
    have s2 := (z2).trans sa2
    refine ⟨a2, _, _, _, rfl, rfl, SqL.of ea2, atI_nat (j := 0) rfl, _, _, rfl, ni_thing (roW_ni hrr e), fun b G3 hb s3 d3 => ⟨(by show 2 ≤ sizeLine; decide), fun c hc => ?_⟩⟩
    exact fin _ _ G2 s2 k b G3 hb s3 d3 c hc
  | @tu v sg t st h G ht' hT T es er eu =>
    subst h
    subst ht'
    rw [signsB_S, sgnB_iff.mpr G]
    refine ⟨false, rfl, ?_⟩
    have eu : tuW H st uV = some v := by
      rcases eu with ⟨_, _, q⟩ | ⟨z, _⟩
      · exact q
      · cases z
    refine ⟨_, rfl, _, rfl, ht.same s1, ?_⟩
    rw [stW_same ht s1, es]
    intro az1 Gz1 naz1 saz1 eaz1
    refine ⟨(by show 0 ≤ sizeLine; decide), fun Mz1 hMz1 => ?_⟩
    have sMz1 := Same.put (o := .lst []) (Same.refl Gz1) hMz1
    have z1 := ((s1).trans saz1).trans sMz1
    refine ⟨_, _, lst_dp (sMz1 _ _ eaz1) (fun v z => stW_ni ht ((es).trans z)), .lst (SqL.of upd_same) .nil, lst_shaped (fun v z => stW_ni ht ((es).trans z)), rfl, _, rfl, ?_⟩
    rw [lst_ne]
    refine iteF ?_
    refine ⟨_, rfl, _, rfl, _, rfl, rV, _, _, _, rfl, hrr.same z1, z1 _ _ hT, sts_ok G T, ?_⟩
    rw [roW_same hrr z1, er]
    intro az2 Gz2 naz2 saz2 eaz2
    refine ⟨(by show 0 ≤ sizeLine; decide), fun Mz2 hMz2 => ?_⟩
    have sMz2 := Same.put (o := .lst []) (Same.refl Gz2) hMz2
    have z2 := ((z1).trans saz2).trans sMz2
    refine ⟨_, _, lst_dp (sMz2 _ _ eaz2) (fun v z => roW_ni hrr ((er).trans z)), .lst (SqL.of upd_same) .nil, lst_shaped (fun v z => roW_ni hrr ((er).trans z)), rfl, _, rfl, ?_⟩
    rw [lst_ne]
    refine iteF ?_
    refine ⟨_, rfl, _, rfl, uV, _, _, rfl, hu.same z2, z2 _ _ hT, ?_⟩
    rw [tuW_same hu z2, eu]
    intro az3 Gz3 naz3 saz3 eaz3
    refine ⟨(by show 0 ≤ sizeLine; decide), fun Mz3 hMz3 => ?_⟩
    have sMz3 := Same.put (o := .lst []) (Same.refl Gz3) hMz3
    have z3 := ((z2).trans saz3).trans sMz3
    refine ⟨_, _, lst_dp (sMz3 _ _ eaz3) (fun v z => tuW_ni hu ((eu).trans z)), .lst (SqL.of upd_same) .nil, lst_shaped (fun v z => tuW_ni hu ((eu).trans z)), rfl, _, rfl, ?_⟩
    rw [lst_ne]
    refine iteT ⟨_, rfl, _, rfl, uV, _, _, rfl, hu.same z3, z3 _ _ hT, ?_⟩
    rw [tuW_same hu z3, eu]
    intro a2 G2 na2 sa2 ea2
    have s2 := (z3).trans sa2
    refine ⟨a2, _, _, _, rfl, rfl, SqL.of ea2, atI_nat (j := 0) rfl, _, _, rfl, ni_thing (tuW_ni hu eu), fun b G3 hb s3 d3 => ⟨(by show 2 ≤ sizeLine; decide), fun c hc => ?_⟩⟩
    exact fin _ _ G2 s2 k b G3 hb s3 d3 c hc
  | @ye v sg t st h G ht' hT T es er eu ey =>
    subst h
    subst ht'
    rw [signsB_S, sgnB_iff.mpr G]
    refine ⟨false, rfl, ?_⟩
    have eu : tuW H st uV = none := by
      rcases eu with ⟨_, _, q⟩ | ⟨z, _⟩
      · exact q
      · cases z
    have ey : yeW H st yV = some v := by
      rcases ey with ⟨_, _, q⟩ | ⟨z, _⟩
      · exact q
      · cases z
    refine ⟨_, rfl, _, rfl, ht.same s1, ?_⟩
    rw [stW_same ht s1, es]
    intro az1 Gz1 naz1 saz1 eaz1
    refine ⟨(by show 0 ≤ sizeLine; decide), fun Mz1 hMz1 => ?_⟩
    have sMz1 := Same.put (o := .lst []) (Same.refl Gz1) hMz1
    have z1 := ((s1).trans saz1).trans sMz1
    refine ⟨_, _, lst_dp (sMz1 _ _ eaz1) (fun v z => stW_ni ht ((es).trans z)), .lst (SqL.of upd_same) .nil, lst_shaped (fun v z => stW_ni ht ((es).trans z)), rfl, _, rfl, ?_⟩
    rw [lst_ne]
    refine iteF ?_
    refine ⟨_, rfl, _, rfl, _, rfl, rV, _, _, _, rfl, hrr.same z1, z1 _ _ hT, sts_ok G T, ?_⟩
    rw [roW_same hrr z1, er]
    intro az2 Gz2 naz2 saz2 eaz2
    refine ⟨(by show 0 ≤ sizeLine; decide), fun Mz2 hMz2 => ?_⟩
    have sMz2 := Same.put (o := .lst []) (Same.refl Gz2) hMz2
    have z2 := ((z1).trans saz2).trans sMz2
    refine ⟨_, _, lst_dp (sMz2 _ _ eaz2) (fun v z => roW_ni hrr ((er).trans z)), .lst (SqL.of upd_same) .nil, lst_shaped (fun v z => roW_ni hrr ((er).trans z)), rfl, _, rfl, ?_⟩
    rw [lst_ne]
    refine iteF ?_
    refine ⟨_, rfl, _, rfl, uV, _, _, rfl, hu.same z2, z2 _ _ hT, ?_⟩
    rw [tuW_same hu z2, eu]
    intro az3 Gz3 naz3 saz3 eaz3
    refine ⟨(by show 0 ≤ sizeLine; decide), fun Mz3 hMz3 => ?_⟩
    have sMz3 := Same.put (o := .lst []) (Same.refl Gz3) hMz3
    have z3 := ((z2).trans saz3).trans sMz3
    refine ⟨_, _, lst_dp (sMz3 _ _ eaz3) (fun v z => tuW_ni hu ((eu).trans z)), .lst (SqL.of upd_same) .nil, lst_shaped (fun v z => tuW_ni hu ((eu).trans z)), rfl, _, rfl, ?_⟩
    rw [lst_ne]
    refine iteF ?_
    refine ⟨_, rfl, _, rfl, yV, _, _, rfl, hy.same z3, z3 _ _ hT, ?_⟩
    rw [yeW_same hy z3, ey]
    intro az4 Gz4 naz4 saz4 eaz4
    refine ⟨(by show 0 ≤ sizeLine; decide), fun Mz4 hMz4 => ?_⟩
    have sMz4 := Same.put (o := .lst []) (Same.refl Gz4) hMz4
    have z4 := ((z3).trans saz4).trans sMz4
    refine ⟨_, _, lst_dp (sMz4 _ _ eaz4) (fun v z => yeW_ni hy ((ey).trans z)), .lst (SqL.of upd_same) .nil, lst_shaped (fun v z => yeW_ni hy ((ey).trans z)), rfl, _, rfl, ?_⟩
    rw [lst_ne]
    refine iteT ⟨_, rfl, _, rfl, yV, _, _, rfl, hy.same z4, z4 _ _ hT, ?_⟩
    rw [yeW_same hy z4, ey]
    intro a2 G2 na2 sa2 ea2
    have s2 := (z4).trans sa2
    refine ⟨a2, _, _, _, rfl, rfl, SqL.of ea2, atI_nat (j := 0) rfl, _, _, rfl, ni_thing (yeW_ni hy ey), fun b G3 hb s3 d3 => ⟨(by show 2 ≤ sizeLine; decide), fun c hc => ?_⟩⟩
    exact fin _ _ G2 s2 k b G3 hb s3 d3 c hc
  | @ok sg t st h G ht' hT T es er eu ey =>
    subst h
    subst ht'
    rw [signsB_S, sgnB_iff.mpr G]
    refine ⟨false, rfl, ?_⟩
    have eu : tuW H st uV = none := by
      rcases eu with ⟨_, _, q⟩ | ⟨z, _⟩
      · exact q
      · cases z
    have ey : yeW H st yV = none := by
      rcases ey with ⟨_, _, q⟩ | ⟨z, _⟩
      · exact q
      · cases z
    refine ⟨_, rfl, _, rfl, ht.same s1, ?_⟩
    rw [stW_same ht s1, es]
    intro az1 Gz1 naz1 saz1 eaz1
    refine ⟨(by show 0 ≤ sizeLine; decide), fun Mz1 hMz1 => ?_⟩
    have sMz1 := Same.put (o := .lst []) (Same.refl Gz1) hMz1
    have z1 := ((s1).trans saz1).trans sMz1
    refine ⟨_, _, lst_dp (sMz1 _ _ eaz1) (fun v z => stW_ni ht ((es).trans z)), .lst (SqL.of upd_same) .nil, lst_shaped (fun v z => stW_ni ht ((es).trans z)), rfl, _, rfl, ?_⟩
    rw [lst_ne]
    refine iteF ?_
    refine ⟨_, rfl, _, rfl, _, rfl, rV, _, _, _, rfl, hrr.same z1, z1 _ _ hT, sts_ok G T, ?_⟩
    rw [roW_same hrr z1, er]
    intro az2 Gz2 naz2 saz2 eaz2
    refine ⟨(by show 0 ≤ sizeLine; decide), fun Mz2 hMz2 => ?_⟩
    have sMz2 := Same.put (o := .lst []) (Same.refl Gz2) hMz2
    have z2 := ((z1).trans saz2).trans sMz2
    refine ⟨_, _, lst_dp (sMz2 _ _ eaz2) (fun v z => roW_ni hrr ((er).trans z)), .lst (SqL.of upd_same) .nil, lst_shaped (fun v z => roW_ni hrr ((er).trans z)), rfl, _, rfl, ?_⟩
    rw [lst_ne]
    refine iteF ?_
    refine ⟨_, rfl, _, rfl, uV, _, _, rfl, hu.same z2, z2 _ _ hT, ?_⟩
    rw [tuW_same hu z2, eu]
    intro az3 Gz3 naz3 saz3 eaz3
    refine ⟨(by show 0 ≤ sizeLine; decide), fun Mz3 hMz3 => ?_⟩
    have sMz3 := Same.put (o := .lst []) (Same.refl Gz3) hMz3
    have z3 := ((z2).trans saz3).trans sMz3
    refine ⟨_, _, lst_dp (sMz3 _ _ eaz3) (fun v z => tuW_ni hu ((eu).trans z)), .lst (SqL.of upd_same) .nil, lst_shaped (fun v z => tuW_ni hu ((eu).trans z)), rfl, _, rfl, ?_⟩
    rw [lst_ne]
    refine iteF ?_
    refine ⟨_, rfl, _, rfl, yV, _, _, rfl, hy.same z3, z3 _ _ hT, ?_⟩
    rw [yeW_same hy z3, ey]
    intro az4 Gz4 naz4 saz4 eaz4
    refine ⟨(by show 0 ≤ sizeLine; decide), fun Mz4 hMz4 => ?_⟩
    have sMz4 := Same.put (o := .lst []) (Same.refl Gz4) hMz4
    have z4 := ((z3).trans saz4).trans sMz4
    refine ⟨_, _, lst_dp (sMz4 _ _ eaz4) (fun v z => yeW_ni hy ((ey).trans z)), .lst (SqL.of upd_same) .nil, lst_shaped (fun v z => yeW_ni hy ((ey).trans z)), rfl, _, rfl, ?_⟩
    rw [lst_ne]
    refine iteF ⟨_, _, rfl, .inl .non, fun b G3 hb s3 d3 => ⟨(by show 2 ≤ sizeLine; decide), fun c hc => ?_⟩⟩
    exact fin _ _ _ z4 k b G3 hb s3 d3 c hc
end
end Lg
/-! the first wrong part: there is one answer; parts left out are as empty tuples -/
namespace Lg
open PySem L2 WbMin WbS Lz Wb
section
variable {K : PySem.W.Frag} {H : Hp} {sV tV rV uV yV : V} {p : Addr} {d : PyData}
theorem due_ex (ha : Any p H sV d) (ht : Wh H tV) (hu : Wh H uV) (hy : Wh H yV) : ∃ o, LoDue false K H sV tV rV uV yV o := by
  cases es : signsB sV with
  | false => exact ⟨_, .sg es⟩
  | true =>
    obtain ⟨sg, rfl, G⟩ : ∃ sg, sV = .str (S sg) ∧ Sgs sg := by
      rcases ha.sort with ⟨l, rfl, _⟩ | ⟨i, rfl⟩ | m
      · rw [signsB_S] at es
        exact ⟨l, rfl, sgnB_iff.mp es⟩
      · cases es
      · cases m <;> cases es
    cases et : stW H tV with
    | some v => exact ⟨_, .st es et⟩
    | none =>
      obtain ⟨t, st, rfl, hT, T⟩ := good_states ht et
      cases er : roW H sg st rV with
      | some v => exact ⟨_, .ro rfl G rfl hT T et er⟩
      | none =>
        cases eu : tuW H st uV with
        | some v => exact ⟨_, .tu rfl G rfl hT T et er (.inl ⟨rfl, hu, eu⟩)⟩
        | none =>
          cases ey : yeW H st yV with
          | some v => exact ⟨_, .ye rfl G rfl hT T et er (.inl ⟨rfl, hu, eu⟩) (.inl ⟨rfl, hy, ey⟩)⟩
          | none => exact ⟨_, .ok rfl G rfl hT T et er (.inl ⟨rfl, hu, eu⟩) (.inl ⟨rfl, hy, ey⟩)⟩
end
end Lg
/-! k14: _law_parts_right -/
namespace Wb
open PySem PySem.Spec PyProof.Rows L2 WbMin WbS Lz Le Lg LamX
abbrev sPrRight : Stmt := top 81
/-- a def whose code object is known: it makes lambdas -/
structure FunT (K : PySem.W.Frag) (x qual : Str) (st : Stmt) (f : Addr) (fd : FuncData) (c : Addr) : Prop where
  ex : ∃ (oc : Value) (od : Option Addr) (kV doc pm : Value) (an : Option Addr) (ct : Value) (osl : Array (Option Value)),
    fd = PySem.W.fnOf x qual (defArgs st) (defBody st) (defScope st) .none kV doc pm an (.ref c) ct ∧ K.lookup f = some ⟨oc, od, .func fd, osl⟩ ∧ PySem.W.codeIn K (.ref c) qual = true
section
variable {P : Program} {w : World} {K : PySem.W.Frag} {mg : Str → Option Value} {base : Heap}
theorem okT {x qual : Str} {st : Stmt} {f c : Addr} {fd : FuncData} {N ps : List Str} {k : Nat} {sp : Sp} (F : FunT K x qual st f fd c) (S : FnScope N ps (defScope st)) (len : ∀ vs H Q E, sp vs H Q E → vs.length = ps.length)
    (body : ∀ (A : Around) (outer : List Env) (s : Shared) (H : Hp) (vs : List V) (Q : VK) (E : XK), Room k (A.deeper (PyProof.Rows.envOfC qual (defScope st) s.heap.objs.size f (.ref c))) → sp vs H Q E →
      ∃ t, PSs (cxOf CX0 P w K mg base N qual (defScope st) f (.ref c) A outer s H E).nox (defBody st) t ∧ t { nx := fun _ H' => Q .non H', rt := Q } (L2.start N vs) H) : FnOk P w K mg base CX0 (k + 1) f fd ps sp := by
  obtain ⟨_, _, _, _, _, _, _, _, rfl, at_, code⟩ := F.ex
  refine fn_of at_ code S len fun A outer s H vs Q E hr h => ?_
  obtain ⟨t, h1, q⟩ := body A outer s H vs Q E hr h
  exact ⟨t, h1.nox, q⟩
end
abbrev qLam : Str := "_law_parts_right.<locals>.<lambda>"
abbrev NPr : List Str := ["_law_parts_here", "_law_abc", "_law_posts", "_law_lines", "_law_ends", "_law_oks", "_law_due"]
theorem scPr' : FnScope NPr ["_law_parts_here"] (defScope sPrRight) := ⟨rfl, rfl, rfl, by decide +kernel, rfl, by decide +kernel, by decide +kernel⟩
/-- Loop(yes=y, turns=u, states=t, rows=w, signs=s) -/
def g5 {α : Type} : List α → List α → List α → List α
  | [r], _, [y, u, t, w, s] => [r, s, t, w, u, y]
  | _, _, _ => []
theorem g5_rel {vs ds zs : List V} {us its ws : List Value} (a : Vals vs us) (_b : Vals ds its) (c : Vals zs ws) : Vals (g5 vs ds zs) (g5 us its ws) := by
  cases a with
  | nil => exact .nil
  | cons p1 a => cases a with
    | cons _ _ => exact .nil
    | nil => cases c with
      | nil => exact .nil
      | cons c1 c => cases c with
        | nil => exact .nil
        | cons c2 c => cases c with
          | nil => exact .nil
          | cons c3 c => cases c with
            | nil => exact .nil
            | cons c4 c => cases c with
              | nil => exact .nil
              | cons c5 c => cases c with
                | nil => exact .cons p1 (.cons c5 (.cons c3 (.cons c4 (.cons c2 (.cons c1 .nil)))))
                | cons _ _ => exact .nil
/-- Loop made in three ways -/
structure WayP (K : PySem.W.Frag) (A : LA) (e : Addr) : Prop where
  k5 : ∃ its : List Value, KBn K A.dI ["self", "signs", "states", "rows", "turns", "yes"] 1 ["yes", "turns", "states", "rows", "signs"] (fun us ws => g5 us its ws) (fun vs zs => g5 vs [.ref e] zs)
  b0 : ∃ (e2 : Addr) (ds : List Value), E0 K e2 ∧ Vals [V.ref e, .ref e2] ds ∧ Binds K A.dI ["self", "signs", "states", "rows", "turns", "yes"] ds
  e0 : E0 K e
/-! ### facts without the heap's tables -/
theorem noT_same {H : Hp} : Same (noT H) H := fun _ _ h => (noT_inv h).1
theorem Odd1.noT {H : Hp} {v : V} (h : Odd1 H v) : Odd1 (noT H) v := by
  cases h with
  | str f => exact .str f
  | int i => exact .int i
  | non => exact .non
  | bl b => exact .bl b
  | lst h => exact .lst (noT_at h fun _ q => by cases q)
  | dK h => exact .dK (noT_at h fun _ q => by cases q)
theorem So.noT {H : Hp} {v : V} (h : So H v) : So (noT H) v := by
  cases h with
  | one h => exact .one (Odd1.noT h)
  | tup h => exact .tup (noT_at h fun _ q => by cases q)
theorem TopS.noT {H : Hp} {v : V} (h : TopS H v) : TopS (noT H) v := by
  cases h with
  | one h => exact .one (Odd1.noT h)
  | tup h l r => exact .tup (noT_at h fun _ q => by cases q) l fun y hy => So.noT (r y hy)
theorem Wh.noT {H : Hp} {v : V} (h : Wh H v) : Wh (noT H) v := by
  cases h with
  | one h => exact .one (Odd1.noT h)
  | tup h l r c => exact .tup (noT_at h fun _ q => by cases q) l (fun y hy => TopS.noT (r y hy)) c
theorem Wh.xt {H H' : Hp} {v : V} (h : Wh H v) (x : Xt H H') : Wh H' v := Lg.Wh.same (Wh.noT h) x
theorem TuIs.noT {f : Bool} {K : PySem.W.Frag} {H : Hp} {st : List Str} {x : V} {o : Option V} (h : TuIs f K H st x o) : TuIs f K (noT H) st x o := h.imp (fun ⟨e, a, b⟩ => ⟨e, Wh.noT a, (tuW_same (Wh.noT a) noT_same).symm.trans b⟩) id
theorem YeIs.noT {f : Bool} {K : PySem.W.Frag} {H : Hp} {st : List Str} {x : V} {o : Option V} (h : YeIs f K H st x o) : YeIs f K (noT H) st x o := h.imp (fun ⟨e, a, b⟩ => ⟨e, Wh.noT a, (yeW_same (Wh.noT a) noT_same).symm.trans b⟩) id
theorem LoDue.noT {f : Bool} {K : PySem.W.Frag} {H : Hp} {sV tV rV uV yV : V} {o : Option (Nat × V)} (ht : Wh H tV) (hr : Wh H rV) (h : LoDue f K H sV tV rV uV yV o) : LoDue f K (noT H) sV tV rV uV yV o := by
  have e1 := stW_same (Wh.noT ht) noT_same
  have e2 := fun sg st => roW_same (sg := sg) (st := st) (Wh.noT hr) noT_same
  cases h with
  | sg h => exact .sg h
  | st h e => exact .st h (e1.symm.trans e)
  | ro h G a b T es e => exact .ro h G a (noT_at b fun _ q => by cases q) T (e1.symm.trans es) ((e2 _ _).symm.trans e)
  | tu h G a b T es er e => exact .tu h G a (noT_at b fun _ q => by cases q) T (e1.symm.trans es) ((e2 _ _).symm.trans er) (TuIs.noT e)
  | ye h G a b T es er eu e => exact .ye h G a (noT_at b fun _ q => by cases q) T (e1.symm.trans es) ((e2 _ _).symm.trans er) (TuIs.noT eu) (YeIs.noT e)
  | ok h G a b T es er eu e => exact .ok h G a (noT_at b fun _ q => by cases q) T (e1.symm.trans es) ((e2 _ _).symm.trans er) (TuIs.noT eu) (YeIs.noT e)
theorem LoDue.xt {f : Bool} {K : PySem.W.Frag} {H H' : Hp} {sV tV rV uV yV : V} {o : Option (Nat × V)} (ht : Wh H tV) (hr : Wh H rV) (h : LoDue f K H sV tV rV uV yV o) (x : Xt H H') : LoDue f K H' sV tV rV uV yV o := Lg.LoDue.same (Wh.noT ht) (Wh.noT hr) (LoDue.noT ht hr h) x
theorem due_thing {f : Bool} {K : PySem.W.Frag} {H : Hp} {p : Addr} {sV tV rV uV yV : V} {d : PyData} {o : Option (Nat × V)} (ha : Any p H sV d) (ht : Wh H tV) (hr : Wh H rV) (h : LoDue f K H sV tV rV uV yV o) : ∀ i v, o = some (i, v) → Thing H 5 v (keptD d o) := by
  cases h with
  | sg h =>
    rintro i v q
    cases q
    exact ha.thing
  | st h e =>
    rintro i v q
    cases q
    exact ni_thing (stW_ni ht e)
  | ro h G a b T es e =>
    rintro i v q
    cases q
    exact ni_thing (roW_ni hr e)
  | tu h G a b T es er e =>
    rintro i v q
    cases q
    rcases e with ⟨_, wh, e⟩ | ⟨_, _, _, _, e⟩
    · exact ni_thing (tuW_ni wh e)
    · cases e
  | ye h G a b T es er eu e =>
    rintro i v q
    cases q
    rcases e with ⟨_, wh, e⟩ | ⟨_, _, _, _, e⟩
    · exact ni_thing (yeW_ni wh e)
    · cases e
  | ok h G a b T es er eu e =>
    rintro i v q
    cases q
theorem ni_ok {v : V} (h : NI v) : (plainD (niD v)).canLay0 = true ∧ PyData.depth (plainD (niD v)) ≤ 62 := by
  rcases h with rfl | ⟨i, rfl⟩
  · exact ⟨by decide +kernel, by decide +kernel⟩
  · refine ⟨?_, ?_⟩
    · show ((PyData.strOk "plain") && (true && true)) = true
      have e : PyData.strOk "plain" = true := by decide +kernel
      rw [e] <;> rfl
    · show 1 ≤ 62
      decide
theorem kept_ok {f : Bool} {K : PySem.W.Frag} {H : Hp} {p : Addr} {sV tV rV uV yV : V} {d : PyData} {o : Option (Nat × V)} (ha : Any p H sV d) (ht : Wh H tV) (hr : Wh H rV) (h : LoDue f K H sV tV rV uV yV o) : (keptD d o).canLay0 = true ∧ PyData.depth (keptD d o) ≤ 62 := by
  cases h with
  | sg h => exact ⟨ha.2.2.2.1, Nat.le_trans ha.2.2.2.2 (by decide)⟩
  | st h e => exact ni_ok (stW_ni ht e)
  | ro h G a b T es e => exact ni_ok (roW_ni hr e)
  | tu h G a b T es er e =>
    rcases e with ⟨_, wh, e⟩ | ⟨_, _, _, _, e⟩
    · exact ni_ok (tuW_ni wh e)
    · cases e
  | ye h G a b T es er eu e =>
    rcases e with ⟨_, wh, e⟩ | ⟨_, _, _, _, e⟩
    · exact ni_ok (yeW_ni wh e)
    · cases e
  | ok h G a b T es er eu e =>
    refine ⟨?_, ?_⟩
    · show (plainD .none).canLay0 = true
      decide +kernel
    · show PyData.depth (plainD .none) ≤ 62
      decide +kernel
theorem wordO_ok (o : Option (Nat × V)) : PyData.strOk (wordO o) = true := by
  have s : PyData.strOk ("signs" : Str) = true ∧ PyData.strOk ("states" : Str) = true ∧ PyData.strOk ("rows" : Str) = true ∧ PyData.strOk ("turns" : Str) = true ∧ PyData.strOk ("nothing" : Str) = true := by decide +kernel
  obtain ⟨s1, s2, s3, s4, s5⟩ := s
  rcases o with _ | ⟨_ | _ | _ | _ | _, v⟩
  · exact s5
  · exact s1
  · exact s2
  · exact s3
  · exact s4
  · exact s2
theorem told_ok {f : Bool} {K : PySem.W.Frag} {H : Hp} {p : Addr} {sV tV rV uV yV : V} {d : PyData} {o : Option (Nat × V)} (ha : Any p H sV d) (ht : Wh H tV) (hr : Wh H rV) (h : LoDue f K H sV tV rV uV yV o) : (PyData.list [.str (wordO o), keptD d o]).canLay0 = true ∧ PyData.depth (PyData.list [.str (wordO o), keptD d o]) ≤ 64 := by
  obtain ⟨a, b⟩ := kept_ok ha ht hr h
  refine ⟨?_, ?_⟩
  · show (PyData.strOk (wordO o) && ((keptD d o).canLay0 && true)) = true
    rw [wordO_ok, a] <;> rfl
  · show max 0 (max (PyData.depth (keptD d o)) 0) + 1 ≤ 64
    omega
theorem due_ex0 {K : PySem.W.Frag} {H : Hp} {p : Addr} {sV tV rV : V} {u y : Addr} {d : PyData} (ha : Any p H sV d) (ht : Wh H tV) (hu : E0 K u) (hy : E0 K y) : ∃ o, LoDue true K H sV tV rV (.ref u) (.ref y) o := by
  cases es : signsB sV with
  | false => exact ⟨_, .sg es⟩
  | true =>
    obtain ⟨sg, rfl, G⟩ : ∃ sg, sV = .str (S sg) ∧ Sgs sg := by
      rcases ha.sort with ⟨l, rfl, _⟩ | ⟨i, rfl⟩ | m
      · rw [signsB_S] at es
        exact ⟨l, rfl, sgnB_iff.mp es⟩
      · cases es
      · cases m <;> cases es
    cases et : stW H tV with
    | some v => exact ⟨_, .st es et⟩
    | none =>
      obtain ⟨t, st, rfl, hT, T⟩ := good_states ht et
      cases er : roW H sg st rV with
      | some v => exact ⟨_, .ro rfl G rfl hT T et er⟩
      | none => exact ⟨_, .ok rfl G rfl hT T et er (.inr ⟨rfl, u, rfl, hu, rfl⟩) (.inr ⟨rfl, y, rfl, hy, rfl⟩)⟩
theorem due_full {K : PySem.W.Frag} {H : Hp} {sV tV rV : V} {a b u y : Addr} {o : Option (Nat × V)} (hA : H a = some (.tup [])) (hB : H b = some (.tup [])) (h : LoDue true K H sV tV rV (.ref u) (.ref y) o) : LoDue false K H sV tV rV (.ref a) (.ref b) o := by
  have wA : ∀ {a : Addr}, H a = some (.tup []) → Wh H (.ref a) := fun hA => .tup hA (by decide) (fun _ h => nomatch h) fun _ h => nomatch h
  have tu : ∀ {st : List Str} {o : Option V}, TuIs true K H st (.ref u) o → o = none := fun h => by
    rcases h with ⟨z, _⟩ | ⟨_, _, _, _, q⟩
    · cases z
    · exact q
  have ye : ∀ {st : List Str} {o : Option V}, YeIs true K H st (.ref y) o → o = none := fun h => by
    rcases h with ⟨z, _⟩ | ⟨_, _, _, _, q⟩
    · cases z
    · exact q
  cases h with
  | sg h => exact .sg h
  | st h e => exact .st h e
  | ro h G a b T es e => exact .ro h G a b T es e
  | tu h G a b T es er e => cases tu e
  | ye h G a b T es er eu' e => cases ye e
  | ok h G a b T es er eu' e => exact .ok h G a b T es er (.inl ⟨rfl, wA hA, by rw [tuW_tup hA] <;> rfl⟩) (.inl ⟨rfl, wA hB, by rw [yeW_tup hB] <;> rfl⟩)
theorem ttp_of {f : Bool} {K : PySem.W.Frag} {B : EL} {H : Hp} {p : Addr} {sV tV rV uV yV : V} {d : PyData} {o : Option (Nat × V)} {act : Le.Act} {Q : VK} (ha : Any p H sV d) (ht : Wh H tV) (hr : Wh H rV) (h : LoDue f K H sV tV rV uV yV o)
    (run : ∀ (E : XK) (k : VK), (o = none → ∀ v H', Same H H' → k v H') → (∀ i v, o = some (i, v) → FailsN E (B.cls i).1 (B.cls i).2 v H) → act E H k) (told : TellP K H (wordO o) (keptD d o) Q) : TTP K B act H Q := by
  have th := due_thing ha ht hr h
  cases o with
  | none => exact .inl ⟨fun E k g => run E k (fun _ => g) (fun i v q => by cases q), told⟩
  | some iv =>
    obtain ⟨i, v⟩ := iv
    exact .inr ⟨i, v, _, th i v rfl, fun E k b => run E k (fun q => by cases q) (fun i' v' q => by cases q; exact b), told⟩
/-- the defs that the law asks -/
structure DP where
  face : Addr
  dface : FuncData
  heard : Addr
  dheard : FuncData
  due : Addr
  ddue : FuncData
structure DefsP (K : PySem.W.Frag) (mg : Str → Option Value) (D : DP) : Prop where
  face : Def K mg "_law_face" sFace ["_law_thing"] D.face D.dface
  heard : Def K mg "_law_heard" sPtHeard ["_law_act"] D.heard D.dheard
  due : Def K mg "_law_loop_due" sLoDue ["_law_parts_here"] D.due D.ddue
def spPrRight (Pt : Addr) : Sp := fun vs H Q _ => ∃ (L p : Addr) (sV tV rV uV yV : V) (d : PyData), vs = [.ref L] ∧ H L = some (.lst [sV, tV, rV, uV, yV]) ∧ Any p H sV d ∧ Wh H tV ∧ Wh H rV ∧ Wh H uV ∧ Wh H yV ∧ Tabs [(Pt, qLam)] H ∧ ∀ H', Xt H H' → Tabs [(Pt, qLam)] H' → Q (.bl true) H'
section
variable {P : Program} {w : World} {K : PySem.W.Frag} {mg : Str → Option Value} {base : Heap} {f c Pt e : Addr} {fd : FuncData} {A : LA} {B : EL} {D : DP}
set_option maxHeartbeats 4000000 in
theorem ok_prright (F : FunT K "_law_parts_right" "_law_parts_right" sPrRight f fd c) (TB : TabB base mg c Pt) (Z : Free mg) (ZT : FreeT mg) (R : LoopF K mg A e) (W : WayP K A e) (EB : ErL K mg B) (M : TakesP K B) (D' : DefsP K mg D)
    (GDu : FnOk P w K mg base CX0 7 D.due D.ddue ["_law_parts_here"] (spLoDue K)) : FnOk P w K mg base CX0 9 f fd ["_law_parts_here"] (spPrRight Pt) := by
  have GX : FnOk P w K mg base (L2N.CX P w) 4 A.fI A.dI ["self", "signs", "states", "rows", "turns", "yes"] (spLoInitX K B A.C A.T) := ok_loinitX R Z EB
  obtain ⟨its, kI⟩ := R.kI
  obtain ⟨its5, k5⟩ := W.k5
  obtain ⟨e2, ds, he2, vds, b0⟩ := W.b0
  obtain ⟨ocH, odH, kVH, docH, pmH, anH, cdvH, ctH, oslH, eH, lkH, cdH⟩ := D'.heard.F.ex
  have bH := D'.heard.b
  rw [eH] at lkH bH
  refine okT F scPr' (fun vs H Q E h => by obtain ⟨L, p, sV, tV, rV, uV, yV, d, rfl, _⟩ := h; rfl) (fun A' outer s H vs Q E hr h => ?_)
  obtain ⟨L, p, sV, tV, rV, uV, yV, d, rfl, hL, ha, ht, hrr, hu, hy, tabs0, k⟩ := h
  have hr7 : Room 7 _ := hr.mono (by decide)
  refine ⟨_, pss_cons (ps_asg (pv 0) (pg_unp rfl (pgs_cons (pg_name (i := 1) scPr'.nd rfl (.inr rfl)) (pgs_cons (pg_name (i := 2) scPr'.nd rfl (.inr rfl)) (pgs_cons (pg_name (i := 3) scPr'.nd rfl (.inr rfl)) (pgs_cons (pg_name (i := 4) scPr'.nd rfl (.inr rfl)) (pgs_cons (pg_name (i := 5) scPr'.nd rfl (.inr rfl)) pgs_nil)))))))
    (pss_cons (ps_set (i := 6) scPr'.nd rfl (.inl rfl) (pe_call GDu hr7 rfl D'.due.g D'.due.kp D'.due.b .nil pass0 (pa_cons (pv 0) pa_nil)))
    (pss_cons (ps_if (pt_cmpR (op_neD hr.units) (pe_heard (T := [(Pt, qLam)]) (TT := TTP K B) (k := 6) (Ng := NHp) (a := "_law_act") (by rfl) D'.heard.g D'.heard.kp lkH cdH bH scHp rfl (.inl rfl) (hears_parts D'.face ZT EB M (by decide)) TB rfl (List.mem_singleton.mpr rfl) (fun y hy _ => congrArg Prod.snd (List.mem_singleton.mp hy)) hr (lamS_by (show lamSB (defScope sPrRight) _ = true by decide +kernel)) rfl (fun _ _ _ _ _ => rfl)
          (fun A2 outer2 s2 H2 E2 f2 c2 hr2 => pe_makeK R.ML GX (hr2.mono (by decide)) rfl R.gL kI (passNg (L2N.takes_of rfl rfl rfl rfl)) (pa_cons (pv 1) (pa_cons (pv 2) (pa_cons (pv 3) (pa_cons (pv 4) pa_nil)))) (pk_cons (pv 5) pk_nil))) (pv 6) (nomark _)) (pss_one ps_never) pss_nil)
    (pss_cons (ps_if (pt_cmpR (op_neD hr.units) (pe_heard (T := [(Pt, qLam)]) (TT := TTP K B) (k := 6) (Ng := NHp) (a := "_law_act") (by rfl) D'.heard.g D'.heard.kp lkH cdH bH scHp rfl (.inl rfl) (hears_parts D'.face ZT EB M (by decide)) TB rfl (List.mem_singleton.mpr rfl) (fun y hy _ => congrArg Prod.snd (List.mem_singleton.mp hy)) hr (lamS_by (show lamSB (defScope sPrRight) _ = true by decide +kernel)) rfl (fun _ _ _ _ _ => rfl)
          (fun A2 outer2 s2 H2 E2 f2 c2 hr2 => pe_makeK0 R.ML GX (hr2.mono (by decide)) rfl R.gL k5 (passNg (L2N.takes_of rfl rfl rfl rfl)) (pk_cons (pv 5) (pk_cons (pv 4) (pk_cons (pv 2) (pk_cons (pv 3) (pk_cons (pv 1) pk_nil))))))) (pv 6) (nomark _)) (pss_one ps_never) pss_nil)
    (pss_one (ps_ret (pe_cmpR (op_eqD hr.units) (pe_heard (T := [(Pt, qLam)]) (TT := TTP K B) (k := 6) (Ng := NHp) (a := "_law_act") (by rfl) D'.heard.g D'.heard.kp lkH cdH bH scHp rfl (.inl rfl) (hears_parts D'.face ZT EB M (by decide)) TB rfl (List.mem_singleton.mpr rfl) (fun y hy _ => congrArg Prod.snd (List.mem_singleton.mp hy)) hr (lamS_by (show lamSB (defScope sPrRight) _ = true by decide +kernel)) rfl (fun _ _ _ _ _ => rfl)
          (fun A2 outer2 s2 H2 E2 f2 c2 hr2 => pe_make R.ML GX (hr2.mono (by decide)) rfl R.gL b0 vds (passNg (L2N.takes_of rfl rfl rfl rfl)) (pa_cons (pv 1) (pa_cons (pv 2) (pa_cons (pv 3) pa_nil)))))
        (pe_call GDu hr7 rfl D'.due.g D'.due.kp D'.due.b .nil pass0 (pa_cons (pe_lst (pa_cons (pv 1) (pa_cons (pv 2) (pa_cons (pv 3) (pa_cons (pe_tup pa_nil) (pa_cons (pe_tup pa_nil) pa_nil)))))) pa_nil)) (nomark _))))))), ?_⟩
  refine ⟨_, rfl, L, _, rfl, SqL.of hL, rfl, _, _, rfl, _, _, rfl, _, _, rfl, _, _, rfl, _, _, rfl, rfl, ?_⟩
  obtain ⟨o, due⟩ := due_ex (K := K) (rV := rV) ha ht hu hy
  refine ⟨_, rfl, L, p, sV, tV, rV, uV, yV, d, o, rfl, hL, ha, ht, hrr, hu, hy, due, fun q H1 nq s1 dq => ?_⟩
  dsimp only [List.set]
  refine ⟨Tabs.ext tabs0 s1, fun H2 eN T2 => ?_⟩
  have x2 : Xt H H2 := (Xt.of s1).trans (Xt.ext eN)
  have run1 : ∀ (E : XK) (k : VK) (o' : Option (Nat × V)), LoDue false K H2 sV tV rV uV yV o' → (o' = none → ∀ v H', Same H2 H' → k v H') → (∀ i v, o' = some (i, v) → FailsN E (B.cls i).1 (B.cls i).2 v H2) → tMakeK A.C 4 [Str.ofString "yes"].length (spLoInitX K B A.C A.T) (fun vs zs => gL vs [V.ref e] zs) E (tCons (tVar 1) (tCons (tVar 2) (tCons (tVar 3) (tCons (tVar 4) tNil)))) (tCons (tVar 5) tNil) [some (V.ref L), some sV, some tV, some rV, some uV, some yV, some (V.ref q)] H2 k := fun E k o' due' good bad => by
    refine ⟨_, rfl, _, rfl, _, rfl, _, rfl, _, rfl, rfl, rfl, fun x dx hx hdx ne => ?_⟩
    have sm : Same H2 (L2.upd (L2.upd H2 dx (.own x)) x (.ins A.C dx [])) := Same.new' (Same.put (Same.refl H2) hdx) hx
    refine ⟨H2, p, x, dx, sV, tV, rV, uV, yV, d, o', false, rfl, ha.xt x2, Wb.Wh.xt ht x2, Wb.Wh.xt hrr x2, .inl ⟨rfl, Wb.Wh.xt hu x2, Wb.Wh.xt hy x2⟩, due', sm, hx, upd_same, fun e' H3 s3 _ => ⟨rfl, good e' _ H3 s3⟩, bad⟩
  refine ttp_of (ha.xt x2) (Wb.Wh.xt ht x2) (Wb.Wh.xt hrr x2) (LoDue.xt ht hrr due x2) (fun E k g b => run1 E k o (LoDue.xt ht hrr due x2) g b) fun a1 H3 n3 s3 d3 => ?_
  have ok := told_ok ha ht hrr due
  have dq2 : Dp K H1 (.ref q) _ := Dp.stay New.sub dq
  have q3 := Dp.stay s3 (Dp.xt dq2 (Xt.ext eN))
  refine ⟨_, rfl, heard_due (Dp.stay New.sub d3) q3 ok ⟨_, rfl, iteF ?_⟩⟩
  refine ⟨Tabs.ext T2 s3, fun H4 eN4 T4 => ?_⟩
  have x4 : Xt H H4 := (x2.trans (Xt.of s3)).trans (Xt.ext eN4)
  refine ttp_of (ha.xt x4) (Wb.Wh.xt ht x4) (Wb.Wh.xt hrr x4) (LoDue.xt ht hrr due x4) (fun E k g b => ?_) fun a5 H5 n5 s5 d5 => ?_
  · refine ⟨_, rfl, _, rfl, _, rfl, _, rfl, _, rfl, rfl, rfl, fun x dx hx hdx ne => ?_⟩
    have sm : Same H4 (L2.upd (L2.upd H4 dx (.own x)) x (.ins A.C dx [])) := Same.new' (Same.put (Same.refl H4) hdx) hx
    refine ⟨H4, p, x, dx, sV, tV, rV, uV, yV, d, o, false, rfl, ha.xt x4, Wb.Wh.xt ht x4, Wb.Wh.xt hrr x4, .inl ⟨rfl, Wb.Wh.xt hu x4, Wb.Wh.xt hy x4⟩, LoDue.xt ht hrr due x4, sm, hx, upd_same, fun e' H3 s3 _ => ⟨rfl, g e' _ H3 s3⟩, b⟩
  have q5 := Dp.stay s5 (Dp.xt q3 (Xt.ext eN4))
  refine ⟨_, rfl, heard_due (Dp.stay New.sub d5) q5 ok ⟨_, rfl, iteF ?_⟩⟩
  refine ⟨Tabs.ext T4 s5, fun H6 eN6 T6 => ?_⟩
  have x6 : Xt H H6 := (x4.trans (Xt.of s5)).trans (Xt.ext eN6)
  have ha6 := ha.xt x6
  have ht6 := Wb.Wh.xt ht x6
  have hr6 := Wb.Wh.xt hrr x6
  obtain ⟨o2, due2⟩ := due_ex0 (K := K) (rV := rV) ha6 ht6 W.e0 he2
  refine ttp_of ha6 ht6 hr6 due2 (fun E k g b => ?_) fun a7 H7 n7 s7 d7 => ?_
  · refine ⟨_, rfl, _, rfl, _, rfl, fun x dx hx hdx ne => ?_⟩
    have sm : Same H6 (L2.upd (L2.upd H6 dx (.own x)) x (.ins A.C dx [])) := Same.new' (Same.put (Same.refl H6) hdx) hx
    exact ⟨H6, p, x, dx, sV, tV, rV, .ref e, .ref e2, d, o2, true, rfl, ha6, ht6, hr6, .inr ⟨rfl, e, e2, rfl, rfl, W.e0, he2⟩, due2, sm, hx, upd_same, fun e' H3 s3 _ => ⟨rfl, g e' _ H3 s3⟩, b⟩
  refine ⟨_, rfl, _, rfl, _, rfl, by show 0 ≤ sizeLine; decide, fun b1 hb1 => ⟨by show 0 ≤ sizeLine; decide, fun b2 hb2 => ⟨by show 5 ≤ sizeLine; decide, fun L5 hL5 => ?_⟩⟩⟩
  have s8 := Same.put (o := .tup []) (Same.refl H7) hb1
  have e8 : (L2.upd H7 b1 (.tup [])) b1 = some (.tup []) := upd_same
  generalize L2.upd H7 b1 (.tup []) = H8 at s8 e8 hb2 hL5 ⊢
  have s9 := Same.put (o := .tup []) (Same.refl H8) hb2
  have e9 : (L2.upd H8 b2 (.tup [])) b2 = some (.tup []) := upd_same
  generalize L2.upd H8 b2 (.tup []) = H9 at s9 e9 hL5 ⊢
  have s10 := Same.put (o := .lst [sV, tV, rV, .ref b1, .ref b2]) (Same.refl H9) hL5
  have e10 : (L2.upd H9 L5 (.lst [sV, tV, rV, .ref b1, .ref b2])) L5 = some (.lst [sV, tV, rV, .ref b1, .ref b2]) := upd_same
  generalize L2.upd H9 L5 (.lst [sV, tV, rV, .ref b1, .ref b2]) = H10 at s10 e10 ⊢
  have s610 := ((s7.trans s8).trans s9).trans s10
  have s710 := (s8.trans s9).trans s10
  have x10 := x6.trans (Xt.of s610)
  have k1 := (s9.trans s10) _ _ e8
  have k2 := s10 _ _ e9
  have wE : ∀ {a : Addr}, H10 a = some (.tup []) → Wh H10 (.ref a) := fun hA => .tup hA (by decide) (fun _ h => nomatch h) fun _ h => nomatch h
  have due3 := due_full k1 k2 (Lg.LoDue.same ht6 hr6 due2 s610)
  have ha10 := ha6.same s610
  have ht10 := Lg.Wh.same ht6 s610
  have hr10 := Lg.Wh.same hr6 s610
  refine ⟨L5, p, sV, tV, rV, .ref b1, .ref b2, d, o2, rfl, e10, ha10, ht10, hr10, wE k1, wE k2, due3, fun q2 H11 n11 s11 d11 => ?_⟩
  have ok3 := told_ok ha10 ht10 hr10 due3
  refine ⟨_, _, Dp.stay (s710.trans s11) (Dp.stay New.sub d7), Dp.stay New.sub d11, shaped_of ok3.1 ok3.2, shaped_of ok3.1 ok3.2, ?_⟩
  rw [SeqAt.eqv_refl _ ok3.1]
  exact k H11 (x10.trans (Xt.of s11)) (Tabs.ext T6 (s610.trans s11))
end
end Wb
/-! an odd value: one of 27 -/
namespace Wb
open PySem L2 WbMin WbS
abbrev sLOdd : Stmt := top 59
def Val (p : Addr) (H : Hp) (x : V) : Prop := ∃ d, Any p H x d
theorem cut_at {H : Hp} {a p : Addr} (n : a ≠ p) : cut H p a = H a := if_neg n
theorem Val.non {p : Addr} {H : Hp} : Val p H .non := ⟨_, .inl .non, (fun z e => by cases e), (fun i e => by cases e), by decide +kernel, by decide +kernel⟩
theorem Val.bl {p : Addr} {H : Hp} (b : Bool) : Val p H (.bl b) := ⟨_, .inl (.bl b), (fun z e => by cases e), (fun i e => by cases e), by cases b <;> decide +kernel, by cases b <;> decide +kernel⟩
theorem int_layH (c : Int) : (plainD (.int c)).canLay0 = true := by
  show ((PyData.strOk "plain") && (true && true)) = true
  have e : PyData.strOk "plain" = true := by decide +kernel
  rw [e] <;> rfl
theorem strF_layH {z : Str} (h : PyData.strOk z = true) : (plainD (.str z)).canLay0 = true := by
  show ((PyData.strOk "plain") && (PyData.strOk z && true)) = true
  have e : PyData.strOk "plain" = true := by decide +kernel
  rw [e, h] <;> rfl
theorem Val.int {p : Addr} {H : Hp} {i : Int} (h : i < 2 ^ 1000) : Val p H (.int i) := ⟨_, .inl (.int i), (fun z e => by cases e), (fun j e => by cases e; exact h), int_layH i, (by show 1 ≤ 60; decide)⟩
theorem Val.str {p : Addr} {H : Hp} {l : List Nat} (h : Tx l) : Val p H (.str (S l)) := ⟨_, .inl (.str _), (fun z e => by cases e; exact ⟨l, rfl, h⟩), (fun i e => by cases e), strF_layH (ok_codes fun c hc => by have := h.cod c hc; omega), (by show 1 ≤ 60; decide)⟩
theorem Val.lit {p : Addr} {H : Hp} {z : Str} (l : List Nat) (e : z.cps.toList = l) (h1 : l.length ≤ 2000) (h2 : ∀ c ∈ l, c < 1000) : Val p H (.str z) := by
  rw [S_eq e]
  exact .str ⟨h1, h2⟩
theorem Val.of {p a : Addr} {H : Hp} (h : ∃ d, Thing (cut H p) 5 (.ref a) d ∧ d.canLay0 = true ∧ PyData.depth d ≤ 60) : Val p H (.ref a) := ⟨h.choose, h.choose_spec.1, (fun z e => by cases e), (fun i e => by cases e), h.choose_spec.2⟩
theorem keepA {H : Hp} {a b : Addr} {o u : HO} (h : H a = some o) (n : H b = none) : upd H b u a = some o := (upd_ne (ne_of_none h n)).trans h
theorem keep5 {H : Hp} {e f g t L x : Addr} {o u1 u2 u3 u4 u5 u6 : HO} (h : H x = some o) (he : H e = none) (hf : upd H e u1 f = none) (hg : upd (upd H e u1) f u2 g = none) (ht : upd (upd (upd (upd H e u1) f u2) g u3) e u4 t = none)
    (hL : upd (upd (upd (upd (upd H e u1) f u2) g u3) e u4) t u5 L = none) : upd (upd (upd (upd (upd (upd H e u1) f u2) g u3) e u4) t u5) L u6 x = some o :=
  keepA (keepA ((upd_ne (ne_of_none h he)).trans (keepA (keepA (keepA h he) hf) hg)) ht) hL
theorem int_lt {d m : Int} (h0 : 0 ≤ d) (h1 : d < m) : ∃ j : Nat, d = (j : Int) ∧ (j : Int) < m := ⟨d.toNat, by omega, by omega⟩
section
variable {P : Program} {w : World} {K : PySem.W.Frag} {mg : Str → Option Value} {base : Heap} {f fD fW : Addr} {fd fdD dW : FuncData}
theorem scOdA : FnScope ["_law_pool_here", "_law_way"] ["_law_pool_here"] (defScope sLOdd) := ⟨rfl, rfl, rfl, by decide +kernel, rfl, by decide +kernel, by decide +kernel⟩
end
end Wb
/-! an odd value, told by its sort alone -/
namespace Lg
open PySem L2 WbMin WbS Wb
abbrev sLOdd : Stmt := top 59
/-- a value of any sort, the pool p no part of it -/
def ValS (p : Addr) (H : Hp) (x : V) : Prop := TopS (cut H p) x
theorem ValS.but {p : Addr} {H H' : Hp} {x : V} (h : ValS p H x) (b : But p H H') : ValS p H' x := TopS.same h (cut_but b)
theorem ValS.same {p : Addr} {H H' : Hp} {x : V} (h : ValS p H x) (s : Same H H') : ValS p H' x := TopS.same h (cut_same s)
theorem ValS.top {p : Addr} {H : Hp} {x : V} (h : ValS p H x) : TopS H x := TopS.same h (cutH_to fun _ _ _ e => e)
theorem ValS.non {p : Addr} {H : Hp} : ValS p H .non := .one .non
theorem ValS.bl {p : Addr} {H : Hp} (b : Bool) : ValS p H (.bl b) := .one (.bl b)
theorem ValS.int {p : Addr} {H : Hp} {i : Int} (_ : i < 2 ^ 1000) : ValS p H (.int i) := .one (.int i)
theorem ValS.lit {p : Addr} {H : Hp} {z : Str} (l : List Nat) (e : z.cps.toList = l) (h1 : l.length ≤ 2000) (_ : ∀ c ∈ l, c < 1000) : ValS p H (.str z) := by
  rw [S_eq e]
  refine .one (.str ?_)
  rw [S_len, sizeLine_eq]
  omega
theorem cut_at {H : Hp} {a p : Addr} (n : a ≠ p) : cut H p a = H a := if_neg n
theorem keepA {H : Hp} {a b : Addr} {o u : HO} (h : H a = some o) (n : H b = none) : upd H b u a = some o := (upd_ne (ne_of_none h n)).trans h
theorem keep5 {H : Hp} {e f g t L x : Addr} {o u1 u2 u3 u4 u5 u6 : HO} (h : H x = some o) (he : H e = none) (hf : upd H e u1 f = none) (hg : upd (upd H e u1) f u2 g = none) (ht : upd (upd (upd (upd H e u1) f u2) g u3) e u4 t = none)
    (hL : upd (upd (upd (upd (upd H e u1) f u2) g u3) e u4) t u5 L = none) : upd (upd (upd (upd (upd (upd H e u1) f u2) g u3) e u4) t u5) L u6 x = some o :=
  keepA (keepA ((upd_ne (ne_of_none h he)).trans (keepA (keepA (keepA h he) hf) hg)) ht) hL
theorem int_lt {d m : Int} (h0 : 0 ≤ d) (h1 : d < m) : ∃ j : Nat, d = (j : Int) ∧ (j : Int) < m := ⟨d.toNat, by omega, by omega⟩
section
variable {P : Program} {w : World} {K : PySem.W.Frag} {mg : Str → Option Value} {base : Heap} {f fD fW : Addr} {fd fdD dW : FuncData}
end
end Lg
/-! an odd value: its face, its sort and what its tuples hold, all at once -/
namespace Lj
open PySem L2 WbMin WbS Wb
open Lg hiding int_lt keepA keep5 cut_at sLOdd
/-- a value of any sort, the pool p no part of it: its face, its sort -/
theorem new_but {p : Addr} {H0 H H' : Hp} (b : But p H H') : But p (New H0 H) (New H0 H') := fun a o n h => by
  obtain ⟨h1, h2⟩ := New.inv h
  rw [New.at h1]
  exact b _ _ n h2
theorem new_same {H0 H H' : Hp} (s : Same H H') : Same (New H0 H) (New H0 H') := fun a o h => by
  obtain ⟨h1, h2⟩ := New.inv h
  rw [New.at h1]
  exact s _ _ h2
/-- what is new in H since H0, the pool p no part of it: a value's face, its sort -/
def ValW (p : Addr) (H0 H : Hp) (x : V) : Prop := (∃ d, Any p (New H0 H) x d) ∧ Lg.Wh (cut H p) x ∧ TopS (cut H p) x ∧ ∀ z, x = .str z → PyData.strOk z = true
theorem ValW.but {p : Addr} {H0 H H' : Hp} {x : V} (h : ValW p H0 H x) (b : But p H H') : ValW p H0 H' x := ⟨⟨_, h.1.choose_spec.but (new_but b)⟩, h.2.1.same (cut_but b), h.2.2.1.same (cut_but b), h.2.2.2⟩
theorem ValW.same {p : Addr} {H0 H H' : Hp} {x : V} (h : ValW p H0 H x) (s : Same H H') : ValW p H0 H' x := ⟨⟨_, h.1.choose_spec.same (new_same s)⟩, h.2.1.same (cut_same s), h.2.2.1.same (cut_same s), h.2.2.2⟩
theorem ValW.non {p : Addr} {H0 H : Hp} : ValW p H0 H .non := ⟨Val.non, .one .non, .one .non, fun z e => by cases e⟩
theorem ValW.bl {p : Addr} {H0 H : Hp} (b : Bool) : ValW p H0 H (.bl b) := ⟨Val.bl b, .one (.bl b), .one (.bl b), fun z e => by cases e⟩
theorem ValW.int {p : Addr} {H0 H : Hp} {i : Int} (h : i < 2 ^ 1000) : ValW p H0 H (.int i) := ⟨Val.int h, .one (.int i), .one (.int i), fun z e => by cases e⟩
theorem ValW.str {p : Addr} {H0 H : Hp} {l : List Nat} (h : Tx l) : ValW p H0 H (.str (S l)) := ⟨Val.str h, .one (.str h.fits), .one (.str h.fits), fun z e => by
  injection e with e
  rw [← e]
  exact ok_codes fun c hc => by have := h.cod c hc; omega⟩
theorem ValW.lit {p : Addr} {H0 H : Hp} {z : Str} (l : List Nat) (e : z.cps.toList = l) (h1 : l.length ≤ 2000) (h2 : ∀ c ∈ l, c < 1000) : ValW p H0 H (.str z) := by
  rw [S_eq e]
  exact .str ⟨h1, h2⟩
theorem ValW.lstW {p a : Addr} {H0 H : Hp} {xs : List V} (e : cut H p a = some (.lst xs)) (h : ∃ d, Thing (cut (New H0 H) p) 5 (.ref a) d ∧ d.canLay0 = true ∧ PyData.depth d ≤ 60) : ValW p H0 H (.ref a) := ⟨Val.of h, .one (.lst e), .one (.lst e), fun z e => by cases e⟩
theorem ValW.dkW {p a : Addr} {H0 H : Hp} {xs : List (Key × V)} (e : cut H p a = some (.dK xs)) (h : ∃ d, Thing (cut (New H0 H) p) 5 (.ref a) d ∧ d.canLay0 = true ∧ PyData.depth d ≤ 60) : ValW p H0 H (.ref a) := ⟨Val.of h, .one (.dK e), .one (.dK e), fun z e => by cases e⟩
theorem ValW.tupW {p a : Addr} {H0 H : Hp} {xs : List V} (e : cut H p a = some (.tup xs)) (l : xs.length ≤ 9) (so : ∀ y ∈ xs, Odd1 (cut H p) y) (c : ∀ y ∈ xs, ∀ z, y = .str z → PyData.strOk z = true) (h : ∃ d, Thing (cut (New H0 H) p) 5 (.ref a) d ∧ d.canLay0 = true ∧ PyData.depth d ≤ 60) : ValW p H0 H (.ref a) :=
  ⟨Val.of h, .tup e (by omega) (fun y hy => .one (so y hy)) c, .tup e l (fun y hy => .one (so y hy)), fun z e => by cases e⟩
def spOddW : Sp := fun vs H Q _ => ∃ p : Addr, vs = [.ref p] ∧ PoolAt H p ∧ ∀ (x : V) (H' : Hp), ValW p H H' x → PoolAt H' p → But p H H' → Q x H'
section
variable {P : Program} {w : World} {K : PySem.W.Frag} {mg : Str → Option Value} {base : Heap} {f fD fW : Addr} {fd fdD dW : FuncData}
set_option maxHeartbeats 0 in
theorem ok_oddW (F : Fun K "_law_odd" "_law_odd" Wb.sLOdd f fd) (D : Def K mg "_law_draw" sDraw ["_law_pool_here", "_law_many"] fD fdD) (Z : Free mg) : FnOk P w K mg base CX0 2 f fd ["_law_pool_here"] spOddW := by
  have G : FnOk P w K mg base CX0 1 fD fdD ["_law_pool_here", "_law_many"] spDraw := ok_draw D.F Z.int Z.divmod
  refine F.ok Wb.scOdA (fun vs H Q E h => ?_) (fun cdv A outer s H vs Q E hr h => ?_)
  · obtain ⟨p, rfl, _⟩ := h
    rfl
  · obtain ⟨p, rfl, hp, k⟩ := h
    refine ⟨_, pss_cons (ps_set (i := 1) Wb.scOdA.nd rfl (.inl rfl) (pe_call G hr rfl D.g D.kp D.b .nil pass0 (pa_cons (pv 0) (pa_cons pe_int pa_nil))))
      (pss_cons (ps_if (pt_cmpR op_lt (pv 1) pe_int (nomark _)) (pss_one (ps_ret (pe_ix ix_list (pe_lst (pa_cons pe_non (pa_cons pe_bl (pa_cons pe_bl (pa_cons pe_int (pa_cons pe_int (pa_cons (pe_un un_neg pe_int) (pa_cons pe_int (pa_cons pe_int (pa_cons pe_int (pa_cons (pe_op op_pow pe_int pe_int) (pa_cons (pe_un un_neg (pe_op op_pow pe_int pe_int)) pa_nil)))))))))))) (pv 1) (fun _ _ => rfl)))) pss_nil)
      (pss_cons (ps_if (pt_cmpR op_lt (pv 1) pe_int (nomark _)) (pss_one (ps_ret (pe_ix ix_list (pe_lst (pa_cons pe_str (pa_cons pe_str (pa_cons pe_str (pa_cons pe_str (pa_cons pe_str (pa_cons pe_str (pa_cons pe_str (pa_cons pe_str pa_nil))))))))) (pe_op op_sub (pv 1) pe_int) (fun _ _ => rfl)))) pss_nil)
      (pss_cons (ps_if (pt_cmpR op_lt (pv 1) pe_int (nomark _)) (pss_one (ps_ret (pe_ix ix_list (pe_lst (pa_cons (pe_lst pa_nil) (pa_cons (pe_lst (pa_cons pe_str pa_nil)) (pa_cons pe_dnewK (pa_cons (pe_disp (pps_cons pe_str pe_int pps_nil) (by rfl) (by rfl) (fun z => by cases z) (by decide)) pa_nil))))) (pe_op op_sub (pv 1) pe_int) (fun _ _ => rfl)))) pss_nil)
      (pss_one (ps_ret (pe_ix ix_list (pe_lst (pa_cons (pe_tup pa_nil) (pa_cons (pe_tup (pa_cons pe_str pa_nil)) (pa_cons (pe_tup (pa_cons pe_int (pa_cons pe_int pa_nil))) (pa_cons (pe_tup (pa_cons (pe_lst pa_nil) (pa_cons (pe_disp (pps_cons pe_str (pe_tup (pa_cons pe_int (pa_cons (pe_lst pa_nil) pa_nil))) pps_nil) (by rfl) (by rfl) (fun z => by cases z) (by decide)) pa_nil))) pa_nil))))) (pe_op op_sub (pv 1) pe_int) (fun _ _ => rfl))))))), ?_⟩
    have pw : CPow 10 38 := by refine ⟨?_, ?_, ?_⟩ <;> decide
    refine ⟨_, rfl, p, _, rfl, by decide, by decide, hp, fun d H1 d0 d1 hp1 b1 => ?_⟩
    obtain ⟨j, rfl, j1⟩ := int_lt d0 d1
    have nil : ∀ {H' : Hp}, ∀ x ∈ ([] : List V), ValW p H H' x := fun x hx => nomatch hx
    have vc : ∀ {H' : Hp} {y : V} {ys : List V}, ValW p H H' y → (∀ x ∈ ys, ValW p H H' x) → ∀ x ∈ y :: ys, ValW p H H' x := fun h1 h2 x hx => by
      rcases List.mem_cons.mp hx with rfl | hx
      · exact h1
      · exact h2 x hx
    have fin : ∀ {H' : Hp} {L : Addr} {xs : List V} {i : Int} {n : Nat}, H' L = some (.lst xs) → i = (n : Int) → n < xs.length → (∀ x ∈ xs, ValW p H H' x) → PoolAt H' p → But p H H' → rIxL K (.ref L) (.int i) H' Q := fun {H' L xs i n} hL ei hn hv hp' hb' => by
      subst ei
      obtain ⟨x, hx⟩ : ∃ x, xs[n]? = some x := ⟨_, List.getElem?_eq_getElem hn⟩
      exact ⟨L, xs, _, x, rfl, rfl, SqL.of hL, atI_nat hx, k x H' (hv x (List.mem_of_getElem? hx)) hp' hb'⟩
    refine ⟨_, rfl, _, _, rfl, rfl, _, rfl, ite2 (fun q => ?_) (fun q => ?_)⟩
    · have q' : j < 11 := by have := of_decide_eq_true q; omega
      refine ⟨_, rfl, _, _, rfl, rfl, pw, _, _, rfl, rfl, pw, _, rfl, (by show 11 ≤ sizeLine; decide), fun L hL => ⟨_, rfl, ?_⟩⟩
      have nL := hp1.ne hL
      refine fin upd_same rfl (by show j < 11; exact q') (vc .non (vc (.bl _) (vc (.bl _) (vc (.int ?_) (vc (.int ?_) (vc (.int ?_) (vc (.int ?_) (vc (.int ?_) (vc (.int ?_) (vc (.int ?_) (vc (.int ?_) nil))))))))))) (hp1.put nL) (b1.upd hL)
      all_goals decide +kernel
    have q1 : 11 ≤ j := by
      have z : ¬ ((j : Int) < 11) := fun z => q (decide_eq_true z)
      omega
    refine ⟨_, rfl, _, _, rfl, rfl, _, rfl, ite2 (fun r => ?_) (fun r => ?_)⟩
    · have r' : j < 19 := by have := of_decide_eq_true r; omega
      refine ⟨(by show 8 ≤ sizeLine; decide), fun L hL => ⟨_, rfl, _, _, rfl, rfl, ?_⟩⟩
      have nL := hp1.ne hL
      refine fin (n := j - 11) upd_same (by omega) (by show j - 11 < 8; omega) ?_ (hp1.put nL) (b1.upd hL)
      refine vc (ValW.lit [] ?_ (by decide) (by decide)) (vc (ValW.lit [97] ?_ (by decide) (by decide)) (vc (ValW.lit [97, 98] ?_ (by decide) (by decide)) (vc (ValW.lit [65] ?_ (by decide) (by decide)) (vc (ValW.lit [97, 32, 98] ?_ (by decide) (by decide)) (vc (ValW.lit [97, 97] ?_ (by decide) (by decide)) (vc (ValW.lit [97, 10] ?_ (by decide) (by decide)) (vc (ValW.lit [97, 98, 99, 100, 101] ?_ (by decide) (by decide)) nil))))))) <;> decide +kernel
    have r1 : 19 ≤ j := by
      have z : ¬ ((j : Int) < 19) := fun z => r (decide_eq_true z)
      omega
    refine ⟨_, rfl, _, _, rfl, rfl, _, rfl, ite2 (fun u => ?_) (fun u => ?_)⟩
    · have u' : j < 23 := by have := of_decide_eq_true u; omega
      refine ⟨(by show 0 ≤ sizeLine; decide), fun a ha => ⟨(by show 1 ≤ sizeLine; decide), fun b hb => fun c hc => fun d hd => ⟨upd_same, [(Sum.inr "a", .int 1)], rfl, by decide, (by show 4 ≤ sizeLine; decide), fun L hL => ⟨_, rfl, _, _, rfl, rfl, ?_⟩⟩⟩⟩
      have na := hp1.ne ha
      have p2 := hp1.put (o := .lst []) na
      have nb := p2.ne hb
      have p3 := p2.put (o := .lst [.str "a"]) nb
      have nc := p3.ne hc
      have p4 := p3.put (o := .dK []) nc
      have nd := p4.ne hd
      have p5 := (p4.put (o := .dK []) nd).put (o := .dK (mergeK [] [(Sum.inr "a", .int 1)])) nd
      have q2 := b1.upd (o := .lst []) ha
      have q3 := q2.upd (o := .lst [.str "a"]) hb
      have q4 := q3.upd (o := .dK []) hc
      have za := b1.free ha na
      have zb := q2.free hb nb
      have zc := q3.free hc nc
      have zd := q4.free hd nd
      have nL := p5.ne hL
      have d1 := ((((But.refl p _).upd (o := .lst []) ha).upd (o := .lst [.str "a"]) hb).upd (o := .dK []) hc).free hd nd
      have fa := keepA (u := .lst [.ref a, .ref b, .ref c, .ref d]) ((upd_ne (o := .dK (mergeK [] [(Sum.inr "a", .int 1)])) (ne_of_none (keepA (u := .dK []) (keepA (u := .lst [.str "a"]) upd_same hb) hc) hd)).trans (keepA (u := .dK []) (keepA (u := .dK []) (keepA (u := .lst [.str "a"]) (upd_same (o := .lst [])) hb) hc) hd)) hL
      have fb := keepA (u := .lst [.ref a, .ref b, .ref c, .ref d]) ((upd_ne (o := .dK (mergeK [] [(Sum.inr "a", .int 1)])) (ne_of_none (keepA (u := .dK []) upd_same hc) hd)).trans (keepA (u := .dK []) (keepA (u := .dK []) (upd_same (o := .lst [.str "a"])) hc) hd)) hL
      have fc := keepA (u := .lst [.ref a, .ref b, .ref c, .ref d]) ((upd_ne (o := .dK (mergeK [] [(Sum.inr "a", .int 1)])) (ne_of_none upd_same hd)).trans (keepA (u := .dK []) (upd_same (o := .dK [])) hd)) hL
      have fd' := keepA (u := .lst [.ref a, .ref b, .ref c, .ref d]) (upd_same (o := .dK (mergeK [] [(Sum.inr "a", .int 1)]))) hL
      have kH := ((((((b1.upd (o := .lst []) ha).upd (o := .lst [.str "a"]) hb).upd (o := .dK []) hc).upd (o := .dK []) hd).new (o := .dK (mergeK [] [(Sum.inr "a", .int 1)])) (b1.free d1 nd)).upd (o := .lst [.ref a, .ref b, .ref c, .ref d]) hL)
      refine fin (n := j - 19) upd_same (by omega) (by show j - 19 < 4; omega) (vc ?_ (vc ?_ (vc ?_ (vc ?_ nil)))) (p5.put nL) kH
      · exact .lstW ((cut_at na).trans fa) ⟨_, .inr (.inl ⟨a, [], [], rfl, (cut_at na).trans ((New.at za).trans fa), by decide, .nil, rfl⟩), by decide +kernel, by decide +kernel⟩
      · exact .lstW ((cut_at nb).trans fb) ⟨_, .inr (.inl ⟨b, [.str "a"], [_], rfl, (cut_at nb).trans ((New.at zb).trans fb), by decide, .cons (.inl (.str _)) .nil, rfl⟩), by decide +kernel, by decide +kernel⟩
      · exact .dkW ((cut_at nc).trans fc) ⟨_, .inr (.inr (.inr ⟨c, [], [], [], rfl, (cut_at nc).trans ((New.at zc).trans fc), .nil, rfl, by decide, .nil, rfl⟩)), by decide +kernel, by decide +kernel⟩
      · exact .dkW ((cut_at nd).trans fd') ⟨_, .inr (.inr (.inr ⟨d, ["a"], [.int 1], [_], rfl, (cut_at nd).trans ((New.at zd).trans fd'), by decide, rfl, by decide, .cons (.inl (.int _)) .nil, rfl⟩)), by decide +kernel, by decide +kernel⟩
    · have u1 : 23 ≤ j := by
        have z : ¬ ((j : Int) < 23) := fun z => u (decide_eq_true z)
        omega
      refine ⟨(by show 0 ≤ sizeLine; decide), fun a ha => ⟨(by show 1 ≤ sizeLine; decide), fun b hb => ⟨(by show 2 ≤ sizeLine; decide), fun c hc => ⟨(by show 0 ≤ sizeLine; decide), fun d hd => fun e he => ⟨(by show 0 ≤ sizeLine; decide), fun f hf => ⟨(by show 2 ≤ sizeLine; decide), fun g hg => ?_⟩⟩⟩⟩⟩⟩
      have na := hp1.ne ha
      have p2 := hp1.put (o := .tup []) na
      have nb := p2.ne hb
      have p3 := p2.put (o := .tup [.str "a"]) nb
      have nc := p3.ne hc
      have p4 := p3.put (o := .tup [.int 0, .int 1]) nc
      have nd := p4.ne hd
      have p5 := p4.put (o := .lst []) nd
      have ne := p5.ne he
      have p6 := p5.put (o := .dK []) ne
      have nf := p6.ne hf
      have p7 := p6.put (o := .lst []) nf
      have ng := p7.ne hg
      have p8 := (p7.put (o := .tup [.int 1, .ref f]) ng).put (o := .dK (mergeK [] [(Sum.inr "a", .ref g)])) ne
      have eE : upd (upd (upd _ e (.dK [])) f (.lst [])) g (.tup [.int 1, .ref f]) e = some (.dK []) := keepA (keepA upd_same hf) hg
      refine ⟨eE, [(Sum.inr "a", .ref g)], rfl, (by show 1 ≤ 15; decide), (by show 2 ≤ sizeLine; decide), fun t ht => ⟨(by show 4 ≤ sizeLine; decide), fun L hL => ⟨_, rfl, _, _, rfl, rfl, ?_⟩⟩⟩
      have nt := p8.ne ht
      have p9 := p8.put (o := .tup [.ref d, .ref e]) nt
      have q2 := b1.upd (o := .tup []) ha
      have q3 := q2.upd (o := .tup [.str "a"]) hb
      have q4 := q3.upd (o := .tup [.int 0, .int 1]) hc
      have q5 := q4.upd (o := .lst []) hd
      have q6 := q5.upd (o := .dK []) he
      have q7 := q6.upd (o := .lst []) hf
      have q8 := q7.upd (o := .tup [.int 1, .ref f]) hg
      have za := b1.free ha na
      have zb := q2.free hb nb
      have zc := q3.free hc nc
      have zd := q4.free hd nd
      have ze := q5.free he ne
      have zf := q6.free hf nf
      have zg := q7.free hg ng
      have zt := (q8.new (o := .dK (mergeK [] [(Sum.inr "a", .ref g)])) ze).free ht nt
      have nL := p9.ne hL
      have e1 := (((((But.refl p _).upd (o := .tup []) ha).upd (o := .tup [.str "a"]) hb).upd (o := .tup [.int 0, .int 1]) hc).upd (o := .lst []) hd).free he ne
      have kH := ((((((((((b1.upd (o := .tup []) ha).upd (o := .tup [.str "a"]) hb).upd (o := .tup [.int 0, .int 1]) hc).upd (o := .lst []) hd).upd (o := .dK []) he).upd (o := .lst []) hf).upd (o := .tup [.int 1, .ref f]) hg).new (o := .dK (mergeK [] [(Sum.inr "a", .ref g)])) (b1.free e1 ne)).upd (o := .tup [.ref d, .ref e]) ht)).upd (o := .lst [.ref a, .ref b, .ref c, .ref t]) hL
      have ef := ne_of_none (upd_same (o := .dK [])) hf
      have eg := ne_of_none (keepA (u := .lst []) (upd_same (o := .dK [])) hf) hg
      have xa := keep5 (u6 := .lst [.ref a, .ref b, .ref c, .ref t]) (keepA (u := .lst []) (keepA (u := .tup [.int 0, .int 1]) (keepA (u := .tup [.str "a"]) (upd_same (o := .tup [])) hb) hc) hd) he hf hg ht hL
      have xb := keep5 (u6 := .lst [.ref a, .ref b, .ref c, .ref t]) (keepA (u := .lst []) (keepA (u := .tup [.int 0, .int 1]) (upd_same (o := .tup [.str "a"])) hc) hd) he hf hg ht hL
      have xc := keep5 (u6 := .lst [.ref a, .ref b, .ref c, .ref t]) (keepA (u := .lst []) (upd_same (o := .tup [.int 0, .int 1])) hd) he hf hg ht hL
      have xd := keep5 (u6 := .lst [.ref a, .ref b, .ref c, .ref t]) (upd_same (o := .lst [])) he hf hg ht hL
      have xe := keepA (u := .lst [.ref a, .ref b, .ref c, .ref t]) (keepA (u := .tup [.ref d, .ref e]) (upd_same (o := .dK (mergeK [] [(Sum.inr "a", .ref g)]))) ht) hL
      have xf := keepA (u := .lst [.ref a, .ref b, .ref c, .ref t]) (keepA (u := .tup [.ref d, .ref e]) ((upd_ne (o := .dK (mergeK [] [(Sum.inr "a", .ref g)])) ef.symm).trans (keepA (u := .tup [.int 1, .ref f]) (upd_same (o := .lst [])) hg)) ht) hL
      have xg := keepA (u := .lst [.ref a, .ref b, .ref c, .ref t]) (keepA (u := .tup [.ref d, .ref e]) ((upd_ne (o := .dK (mergeK [] [(Sum.inr "a", .ref g)])) eg.symm).trans (upd_same (o := .tup [.int 1, .ref f]))) ht) hL
      have xt := keepA (u := .lst [.ref a, .ref b, .ref c, .ref t]) (upd_same (o := .tup [.ref d, .ref e])) hL
      refine fin (n := j - 23) upd_same (by omega) (by show j - 23 < 4; omega) (vc ?_ (vc ?_ (vc ?_ (vc ?_ nil)))) (p9.put nL) kH
      · exact .tupW ((cut_at na).trans xa) (by decide) (fun y hy => nomatch hy) (fun y hy => nomatch hy) ⟨_, .inr (.inr (.inl ⟨a, [], [], rfl, (cut_at na).trans ((New.at za).trans xa), by decide, .nil, rfl⟩)), by decide +kernel, by decide +kernel⟩
      · exact .tupW ((cut_at nb).trans xb) (by decide) (fun y hy => by
          rw [List.mem_singleton.mp hy]
          exact .str (by decide +kernel)) (fun y hy z e => by
          rw [List.mem_singleton.mp hy] at e
          injection e with e
          rw [← e]
          decide +kernel) ⟨_, .inr (.inr (.inl ⟨b, [.str "a"], [_], rfl, (cut_at nb).trans ((New.at zb).trans xb), by decide, .cons (.inl (.str _)) .nil, rfl⟩)), by decide +kernel, by decide +kernel⟩
      · exact .tupW ((cut_at nc).trans xc) (by decide) (fun y hy => by
          rcases List.mem_cons.mp hy with rfl | hy
          · exact .int _
          · rw [List.mem_singleton.mp hy]
            exact .int _) (fun y hy z e => by
          rcases List.mem_cons.mp hy with rfl | hy
          · cases e
          · rw [List.mem_singleton.mp hy] at e
            cases e) ⟨_, .inr (.inr (.inl ⟨c, [.int 0, .int 1], [_, _], rfl, (cut_at nc).trans ((New.at zc).trans xc), by decide, .cons (.inl (.int _)) (.cons (.inl (.int _)) .nil), rfl⟩)), by decide +kernel, by decide +kernel⟩
      · exact .tupW ((cut_at nt).trans xt) (by show 2 ≤ 9; decide) (fun y hy => by
          rcases List.mem_cons.mp hy with rfl | hy
          · exact .lst ((cut_at nd).trans xd)
          · rw [List.mem_singleton.mp hy]
            exact .dK ((cut_at ne).trans xe)) (fun y hy z q => by
          rcases List.mem_cons.mp hy with rfl | hy
          · cases q
          · rw [List.mem_singleton.mp hy] at q
            cases q) ⟨_, .inr (.inr (.inl ⟨t, [.ref d, .ref e], [_, _], rfl, (cut_at nt).trans ((New.at zt).trans xt), (by show 2 ≤ 1000; decide), .cons (.inr (.inl ⟨d, [], [], rfl, (cut_at nd).trans ((New.at zd).trans xd), by decide, .nil, rfl⟩)) (.cons (.inr (.inr (.inr ⟨e, ["a"], [.ref g], [_], rfl, (cut_at ne).trans ((New.at ze).trans xe), by decide, rfl, (by show 1 ≤ 1000; decide),
          .cons (.inr (.inr (.inl ⟨g, [.int 1, .ref f], [_, _], rfl, (cut_at eg.symm).trans ((cut_at ng).trans ((New.at zg).trans xg)), (by show 2 ≤ 1000; decide), .cons (.inl (.int _)) (.cons (.inr (.inl ⟨f, [], [], rfl, (cut_at ef.symm).trans ((cut_at nf).trans ((New.at zf).trans xf)), by decide, .nil, rfl⟩)) .nil), rfl⟩))) .nil, rfl⟩))) .nil), rfl⟩)), by decide +kernel, by decide +kernel⟩
end
end Lj
/-! t[::-1] of a tuple -/
namespace Lg
open PySem PySem.Spec PyProof.Rows HT
theorem places_back (n : Nat) : Builtin.Slice.slicePlaces ((n : Int) - 1) (-1) (-1) = n := by
  unfold Builtin.Slice.slicePlaces
  by_cases h : n = 0
  · subst h
    rfl
  · have h1 : ¬ ((-1 : Int) > 0) := by decide
    have h2 : (n : Int) - 1 > -1 := by omega
    have e : ((n : Int) - 1 - -1 - 1) / (- -1) + 1 = (n : Int) := by
      rw [show (- -1 : Int) = 1 by decide, Int.ediv_one]
      omega
    simp only [h1, h2, if_false, if_true, e, Int.toNat_natCast]
theorem fm_congr {α β : Type} {f g : α → Option β} : ∀ {l : List α}, (∀ x ∈ l, f x = g x) → l.filterMap f = l.filterMap g
  | [], _ => rfl
  | x :: r, h => by rw [List.filterMap_cons, List.filterMap_cons, h x List.mem_cons_self, fm_congr fun y q => h y (List.mem_cons_of_mem _ q)]
theorem pick_back (xs : Array Value) : ((List.range xs.size).filterMap fun (k : Nat) => xs[((xs.size : Int) - 1 + (k : Int) * -1).toNat]?).toArray = xs.toList.reverse.toArray := by
  have e : (List.range xs.size).filterMap (fun (k : Nat) => xs[((xs.size : Int) - 1 + (k : Int) * -1).toNat]?) = ((List.range xs.size).map fun k => xs.size - 1 - k).filterMap (xs[·]?) := by
    rw [List.filterMap_map]
    refine fm_congr fun k hk => ?_
    have := List.mem_range.mp hk
    have q : ((xs.size : Int) - 1 + (k : Int) * -1).toNat = xs.size - 1 - k := by omega
    show xs[((xs.size : Int) - 1 + (k : Int) * -1).toNat]? = xs[xs.size - 1 - k]?
    rw [q]
  rw [e, PySem.W.krv_range, List.filterMap_reverse, PySem.W.krv_all]
section
variable {prog : Program} {w : World} {A : Around} {E : Value → Shared → Prop} {s : Shared}
theorem applied_back {sl : Addr} {vl vu vs : Value} {n : Nat} {Q : Int × Int × Nat → Shared → Prop} (hs : s.heap.IsSliceOf sl vl vu vs) (pl : IsPart vl none) (pu : IsPart vu none) (ps : IsPart vs (some (-1)))
    (h : Q ((n : Int) - 1, -1, n) s) : wpAny (model prog w) A (Builtin.Slice.sliceApplied (.ref sl) (pure (n : Int))) Q E s := by
  obtain ⟨os, hos, hcs, hds⟩ := id hs
  unfold Builtin.Slice.sliceApplied Builtin.Slice.sliceFields
  refine wpAny_bind (wpAny_bind (wpAny_field hos hds (x := vl) rfl (wpAny_bind (wpAny_field hos hds (x := vu) rfl (wpAny_bind (wpAny_field hos hds (x := vs) rfl (wpAny_pure ?_)))))))
  refine wpAny_bind (slicePart_ ps ?_)
  show wpAny _ _ (if ((-1 : Int) == 0) = true then _ else _) _ _ s
  rw [if_neg (by decide)]
  refine wpAny_bind (slicePart_ pl (wpAny_bind (slicePart_ pu (wpAny_bind (wpAny_pure ?_)))))
  show wpAny _ _ (pure ((n : Int) - 1, (-1 : Int), Builtin.Slice.slicePlaces ((n : Int) - 1) (-1) (-1))) _ _ s
  rw [places_back]
  exact wpAny_pure h
theorem item_back {t sl : Addr} {items : Array Value} {vl vu vs : Value} {Q : Value → Shared → Prop} (ht : IsTup s.heap t items) (hs : s.heap.IsSliceOf sl vl vu vs) (pl : IsPart vl none) (pu : IsPart vu none) (ps : IsPart vs (some (-1)))
    (h : Q (.ref s.heap.objs.size) { s with heap := s.heap.push { cls := .type "tuple", data := .seq items.toList.reverse.toArray } })
    (hsz : items.size ≤ sizeLine) : wpAny (model prog w) A (getItem (.ref t) (.ref sl)) Q E s := by
  have fits : sizeOk (.seq items.toList.reverse.toArray) := by
    show items.toList.reverse.toArray.size ≤ sizeLine
    rw [List.size_toArray, List.length_reverse, Array.length_toList]
    exact hsz
  obtain ⟨os, hos, hcs, hds⟩ := id hs
  have hTs : s.TypeIs (.ref sl) "slice" := ⟨os, hos, hcs⟩
  unfold getItem
  refine wpAny_holding ?_
  first | refine wpAny_bind (wpAny_pure ?_) | skip
  refine wpAny_bind (wpAny_sequenceKey ht.typeIs (by decide) ?_)
  refine wpAny_bind (wpAny_callSpecial?_slot (name := Str.ofString "__getitem__") ht.typeIs PyProof.Rows.slot_tuple_getitem
    (wpAny_call_entry PyProof.Rows.slot_tuple_getitem ht.typeIs entry_tuple_getitem ?_ (args_tuple_getitem _ _)))
  show wpAny _ _ (Builtin.Tuple.tupleItemsOf (.ref t) >>= _) _ _ s
  refine wpAny_bind (tupleItemsOf_ ht ?_)
  refine wpAny_bind (wpAny_typeOf hTs ?_)
  rw [if_pos (by decide)]
  refine wpAny_bind (applied_back hs pl pu ps ?_)
  have no : ¬ ((((items.size : Int) - 1) == 0 && (-1 : Int) == 1 && items.size == items.size) = true) := by
    rw [show ((-1 : Int) == 1) = false by decide, Bool.and_false, Bool.false_and]
    exact Bool.false_ne_true
  show wpAny _ _ (if (((items.size : Int) - 1) == 0 && (-1 : Int) == 1 && items.size == items.size) = true then _ else _) _ _ s
  rw [if_neg no, pick_back]
  first
    | exact wpAny_bind (m := Builtin.Tuple.tupleExact _) (wpAny_newObj_type (wpAny_pure ⟨_, rfl, wpAny_pure h⟩) fits)
    | exact wpAny_bind (m := Builtin.Tuple.tupleExact _) (wpAny_newObj_type (wpAny_bind (wpAny_pure (wpAny_pure ⟨_, rfl, wpAny_pure h⟩))) fits)
    | exact wpAny_bind (wpAny_bind (m := Builtin.Tuple.tupleExact _) (wpAny_newObj_type (wpAny_pure (wpAny_pure ⟨_, rfl, wpAny_pure h⟩)) fits))
    | exact wpAny_bind (wpAny_bind (m := Builtin.Tuple.tupleExact _) (wpAny_newObj_type (wpAny_pure ⟨_, rfl, wpAny_pure h⟩) fits))
end
open L2
/-- t[::-1] -/
def tBack (K : PySem.W.Frag) (te : TE) : TE := fun σ H Q => te σ H fun x H1 => ∃ a xs, x = .ref a ∧ SqT K H1 a xs ∧ ∀ p, H1 p = none → Q (.ref p) (upd H1 p (.tup xs.reverse))
section
variable {X : Cx}
theorem pe_back {e : Expr} {te : TE} {k : Nat} {p1 p2 p3 pos : Pos} (he : PE X e te) : PE X (.Subscript e (.Slice none none (some (.UnaryOp .USub (.Constant (.int 1) k p1) p2)) p3) pos) (tBack X.K te) := by
  refine ⟨fun pins s σ H Q I h => ?_⟩
  refine Subscript_ (thn (he.run pins s σ H _ I h) fun v s1 ⟨x, H1, I1, r1, q1⟩ => ?_)
  obtain ⟨a, xs, ex, hx, q⟩ := q1
  subst ex
  cases r1
  have hst : PO X (some (.UnaryOp .USub (.Constant (.int 1) k p1) p2)) (tPart (tUn (rU fun i => .int (-i)) (tC (.int 1)))) := po_some (pe_un un_neg pe_int)
  refine wpAny_Slice (thn (po_none.run pins s1 σ H1 (fun o H2 => o = none ∧ H2 = H1) I1 ⟨rfl, rfl⟩) fun vl s2 ⟨l, H2, I2, pl, el, e2⟩ => ?_)
  subst el e2
  refine thn (po_none.run pins s2 σ H2 (fun o H3 => o = none ∧ H3 = H2) I2 ⟨rfl, rfl⟩) fun vu s3 ⟨u, H3, I3, pu, eu, e3⟩ => ?_
  subst eu e3
  refine thn (hst.run pins s3 σ H3 (fun o H4 => o = some (-1) ∧ H4 = H3) I3 ⟨1, rfl, -1, rfl, rfl, rfl⟩) fun vs s4 ⟨o, H4, I4, ps, eo, e4⟩ => ?_
  subst eo e4
  have I5 : Inv X pins σ H4 { s4 with heap := s4.heap.push { cls := .type "slice", data := .fields #[vl, vu, vs] } } := I4.kept (t' := s4.toks) fun b ob q => Heap.get?_push_of_some _ q
  obtain ⟨its, r, ht, hz⟩ := I5.tuple hx
  have hlen := r.length
  show wpAny (model X.prog X.w) X.A (subscriptTail e (.Slice none none (some (.UnaryOp .USub (.Constant (.int 1) k p1) p2)) p3) (.ref a) (.ref s4.heap.objs.size)) (EP X pins σ Q) X.xe { s4 with heap := s4.heap.push { cls := .type "slice", data := .fields #[vl, vu, vs] } }
  refine tail_any (ops := [.ref a, .ref s4.heap.objs.size]) ht.typeIs PyProof.Rows.slot_tuple_getitem.lookup ?_ (by with_unfolding_all rfl)
  refine item_back ht (Heap.IsSliceOf.new _ vl vu vs) pl pu ps ?_ (by rw [List.size_toArray]; omega)
  refine ⟨.ref _, _, I5.laid (t' := s4.toks) (o := .tup xs.reverse) (fun b ob q => Heap.get?_push_of_some _ q) (Nat.le_refl _) ?_, rfl, q _ (I5.hok.fresh (Nat.le_refl _))⟩
  exact ⟨by rw [List.length_reverse]; exact hz, _, r.reverse, IsTup.new _ _⟩
end
end Lg
/-! _law_bent: a tuple with one change -/
namespace Lj
open PySem L2 WbMin WbS Wb
open Lg hiding int_lt keepA keep5 cut_at sLOdd
abbrev sBent : Stmt := top 77
abbrev NBent : List Str := ["_law_pool_here", "_law_some", "_law_odd_here", "_law_way", "_law_at"]
/-- an item of a part -/
def Itm (p : Addr) (H : Hp) (y : V) : Prop := TopS (cut H p) y ∧ ∀ z, y = .str z → PyData.strOk z = true
section
variable {p : Addr} {H H' : Hp} {x : V}
theorem Itm.but (h : Itm p H x) (b : But p H H') : Itm p H' x := ⟨h.1.same (cut_but b), h.2⟩
theorem Itm.same (h : Itm p H x) (s : Same H H') : Itm p H' x := ⟨h.1.same (cut_same s), h.2⟩
theorem ValW.itm {H0 : Hp} (h : ValW p H0 H x) : Itm p H x := ⟨h.2.2.1, h.2.2.2⟩
end
theorem poolT {H : Hp} {p r : Addr} {xs : List V} (h : PoolAt H p) (e : H r = some (.tup xs)) : r ≠ p := fun z => by
  obtain ⟨a, b, c, q, _⟩ := h
  rw [z, q] at e
  cases e
theorem cat_go {K : PySem.W.Frag} {a b : Addr} {xs ys : List V} {H : Hp} {Q : VK} (ha : H a = some (.tup xs)) (hb : H b = some (.tup ys)) (l : xs.length + ys.length ≤ 1000) (k : ∀ (r : Addr) (H' : Hp), Same H H' → H' r = some (.tup (xs ++ ys)) → Q (.ref r) H') : rCatA K (.ref a) (.ref b) H Q := by
  refine ⟨a, b, xs, ys, rfl, rfl, SqT.of ha, SqT.of hb, by rw [sizeLine_eq]; omega, fun e => ?_, fun _ e => ?_, fun _ _ p hp => ?_⟩
  · exact k b H (Same.refl H) (by rw [e]; exact hb)
  · exact k a H (Same.refl H) (by rw [e, List.append_nil]; exact ha)
  · exact k p _ (Same.put (Same.refl H) hp) upd_same
/-- a tuple of things of one sort -/
def TupG (I : Hp → V → Prop) (H : Hp) (n : Nat) (v : V) : Prop := ∃ a xs, v = .ref a ∧ H a = some (.tup xs) ∧ xs.length ≤ n ∧ ∀ y ∈ xs, I H y
abbrev Tup (p : Addr) : Hp → Nat → V → Prop := TupG (Itm p)
/-- a tuple whose parts are not looked into -/
abbrev SoT (p : Addr) : Hp → Nat → V → Prop := TupG fun H y => So (cut H p) y
def Mono (I : Hp → V → Prop) : Prop := ∀ (H H' : Hp) (y : V), Same H H' → I H y → I H' y
theorem monoI {p : Addr} : Mono (Itm p) := fun _ _ _ s h => h.same s
theorem monoS {p : Addr} : Mono fun H y => So (cut H p) y := fun _ _ _ s h => by
  cases h with
  | one h => exact .one (h.same (cut_same s))
  | tup h => exact .tup (cut_same s _ _ h)
theorem Tup.but {p : Addr} {H H' : Hp} {n : Nat} {x : V} (hp : PoolAt H p) (h : Tup p H n x) (b : But p H H') : Tup p H' n x := by
  obtain ⟨a, xs, rfl, ha, l, r⟩ := h
  exact ⟨a, xs, rfl, b _ _ (poolT hp ha) ha, l, fun y hy => (r y hy).but b⟩
theorem TupG.same {I : Hp → V → Prop} {H H' : Hp} {n : Nat} {x : V} (mo : Mono I) (h : TupG I H n x) (s : Same H H') : TupG I H' n x := by
  obtain ⟨a, xs, rfl, ha, l, r⟩ := h
  exact ⟨a, xs, rfl, s _ _ ha, l, fun y hy => mo _ _ _ s (r y hy)⟩
theorem TupG.mono {I : Hp → V → Prop} {H : Hp} {n m : Nat} {x : V} (h : TupG I H n x) (l : n ≤ m) : TupG I H m x := by
  obtain ⟨a, xs, rfl, ha, l1, r⟩ := h
  exact ⟨a, xs, rfl, ha, by omega, r⟩
theorem Tup.wh {p : Addr} {H : Hp} {n : Nat} {x : V} (hp : PoolAt H p) (h : Tup p H n x) (l : n ≤ 99) : Lg.Wh (cut H p) x := by
  obtain ⟨a, xs, rfl, ha, l1, r⟩ := h
  exact .tup ((Wb.cut_at (poolT hp ha)).trans ha) (by omega) (fun y hy => (r y hy).1) fun y hy => (r y hy).2
theorem SoT.itm {p : Addr} {H : Hp} {n : Nat} {x : V} (hp : PoolAt H p) (h : SoT p H n x) (l : n ≤ 9) : Itm p H x := by
  obtain ⟨a, xs, rfl, ha, l1, r⟩ := h
  exact ⟨.tup ((Wb.cut_at (poolT hp ha)).trans ha) (by omega) r, fun z e => by cases e⟩
theorem cutV_sub {xs : List V} {lo hi : Option Int} {y : V} (h : y ∈ cutV xs lo hi) : y ∈ xs := List.mem_of_mem_drop (List.mem_of_mem_take h)
theorem cut_one {xs : List V} : (cutV xs none (some (1 : Int))).length ≤ 1 := by
  unfold cutV
  rw [show (some (1 : Int)) = some ((1 : Nat) : Int) from rfl, HT.sIx_nat, HT.sIx_none, List.length_take, List.length_drop]
  omega
section
variable {P : Program} {w : World} {K : PySem.W.Frag} {mg : Str → Option Value} {base : Heap} {f fD : Addr} {fd dD : FuncData} {p : Addr} {H : Hp} {n : Nat} {v u : V} {lo hi : Option Int} {Q : VK} {I : Hp → V → Prop}
/-- a slice of a tuple of items is one -/
theorem slW (mo : Mono I) (h : TupG I H n v) (k : ∀ (r : V) (H' : Hp), Same H H' → TupG I H' n r → Q r H') : rSlA K v lo hi H Q := by
  obtain ⟨a, xs, rfl, ha, l, r⟩ := h
  refine ⟨a, xs, rfl, SqT.of ha, fun _ => k _ H (Same.refl H) ⟨a, xs, rfl, ha, l, r⟩, fun _ q hq => ?_⟩
  have s := Same.put (o := .tup (cutV xs lo hi)) (Same.refl H) hq
  exact k _ _ s ⟨q, _, rfl, upd_same, Nat.le_trans (cutV_length xs lo hi) l, fun y hy => mo _ _ _ s (r y (cutV_sub hy))⟩
theorem slW1 (mo : Mono I) (h : TupG I H n v) (k : ∀ (r : V) (H' : Hp), Same H H' → TupG I H' 1 r → Q r H') : rSlA K v none (some 1) H Q := by
  obtain ⟨a, xs, rfl, ha, l, r⟩ := h
  refine ⟨a, xs, rfl, SqT.of ha, fun w => k _ H (Same.refl H) ⟨a, xs, rfl, ha, ?_, r⟩, fun _ q hq => ?_⟩
  · have q := w.2
    rw [show (some (1 : Int)) = some ((1 : Nat) : Int) from rfl, HT.sIx_nat] at q
    omega
  · have s := Same.put (o := .tup (cutV xs none (some 1))) (Same.refl H) hq
    exact k _ _ s ⟨q, _, rfl, upd_same, cut_one, fun y hy => mo _ _ _ s (r y (cutV_sub hy))⟩
theorem catW {m : Nat} (mo : Mono I) (h : TupG I H n v) (h2 : TupG I H m u) (l : n + m ≤ 1000) (k : ∀ (r : V) (H' : Hp), Same H H' → TupG I H' (n + m) r → Q r H') : rCatA K v u H Q := by
  obtain ⟨a, xs, rfl, ha, la, ra⟩ := h
  obtain ⟨b, ys, rfl, hb, lb, rb⟩ := h2
  refine cat_go ha hb (by omega) fun r H' s hr => k _ H' s ⟨r, _, rfl, hr, by rw [List.length_append]; omega, fun y hy => ?_⟩
  rcases List.mem_append.mp hy with q | q
  · exact mo _ _ _ s (ra y q)
  · exact mo _ _ _ s (rb y q)
theorem oneW {a : Addr} (mo : Mono I) (h : I H v) (ha : H a = none) : TupG I (L2.upd H a (.tup [v])) 1 (.ref a) := ⟨a, _, rfl, upd_same, Nat.le_refl _, fun y hy => by
  rw [List.mem_singleton.mp hy]
  exact mo _ _ _ (Same.put (Same.refl H) ha) h⟩
def spBent : Sp := fun vs H Q _ => ∃ (p : Addr) (v x : V), vs = [.ref p, v, x] ∧ PoolAt H p ∧ Tup p H 30 v ∧ Itm p H x ∧ ∀ (y : V) (H' : Hp), Lg.Wh (cut H' p) y → PoolAt H' p → But p H H' → Q y H'
theorem scBent : FnScope NBent ["_law_pool_here", "_law_some", "_law_odd_here"] (defScope sBent) := ⟨rfl, rfl, rfl, by decide +kernel, rfl, by decide +kernel, by decide +kernel⟩
theorem estBent (a b c : V) : L2.start NBent [a, b, c] = [some a, some b, some c, none, none] := rfl
set_option maxHeartbeats 4000000 in
theorem ok_bent (F : Fun K "_law_bent" "_law_bent" sBent f fd) (D : Def K mg "_law_draw" sDraw ["_law_pool_here", "_law_many"] fD dD) (Z : Free mg) (mL : mg "list" = none) : FnOk P w K mg base CX0 2 f fd ["_law_pool_here", "_law_some", "_law_odd_here"] spBent := by
  have G : FnOk P w K mg base CX0 1 fD dD ["_law_pool_here", "_law_many"] spDraw := ok_draw D.F Z.int Z.divmod
  refine F.ok scBent (fun vs H Q E h => by obtain ⟨p, v, x, rfl, _⟩ := h; rfl) (fun cdv A outer s H vs Q E hr h => ?_)
  obtain ⟨p, v, x, rfl, hp, ht, hx, k⟩ := h
  obtain ⟨a, xs, rfl, ha, la, ra⟩ := id ht
  refine ⟨_, pss_cons (ps_par (i := 3) (j := 4) rfl scBent.nd rfl rfl (by decide) rfl rfl (pa_cons (pe_call G hr rfl D.g D.kp D.b .nil pass0 (pa_cons (pv 0) (pa_cons pe_int pa_nil))) (pa_cons (pe_call G hr rfl D.g D.kp D.b .nil pass0 (pa_cons (pv 0) (pa_cons (pe_op op_add (pe_callB call_len_seq (by rfl) Z.len PySem.boot_len (pa_cons (pv 1) pa_nil)) pe_int) pa_nil))) pa_nil)) (by rfl))
    (pss_cons (ps_if (pt_cmpR op_lt (pv 3) pe_int (nomark _)) (pss_one (ps_ret (pe_op (show OpR _ _ (rCatA K) from op_catA) (pe_op (show OpR _ _ (rCatA K) from op_catA) (pe_slice (show SlR _ (rSlA K) from sl_tupA) (pv 1) po_none (po_some (pv 4))) (pe_tup (pa_cons (pv 2) pa_nil))) (pe_slice (show SlR _ (rSlA K) from sl_tupA) (pv 1) (po_some (pe_op op_add (pv 4) (pv 3))) po_none)))) pss_nil)
    (pss_cons (ps_if (pt_cmpR op_eq (pv 3) pe_int (nomark _)) (pss_one (ps_ret (pe_op (show OpR _ _ (rCatA K) from op_catA) (pe_op (show OpR _ _ (rCatA K) from op_catA) (pe_slice (show SlR _ (rSlA K) from sl_tupA) (pv 1) po_none (po_some (pv 4))) (pe_slice (show SlR _ (rSlA K) from sl_tupA) (pv 1) po_none (po_some pe_int))) (pe_slice (show SlR _ (rSlA K) from sl_tupA) (pv 1) (po_some (pv 4)) po_none)))) pss_nil)
    (pss_cons (ps_if (pt_cmpR op_eq (pv 3) pe_int (nomark _)) (pss_one (ps_ret (pe_op (show OpR _ _ (rCatA K) from op_catA) (pe_slice (show SlR _ (rSlA K) from sl_tupA) (pv 1) po_none (po_some (pv 4))) (pe_slice (show SlR _ (rSlA K) from sl_tupA) (pv 1) (po_some (pe_op op_add (pv 4) pe_int)) po_none)))) pss_nil)
    (pss_one (ps_ret (pe_ifExp (pt_cmpR op_eq (pv 3) pe_int (nomark _)) (pe_op (show OpR _ _ (rCatA K) from op_catA) (pe_slice (show SlR _ (rSlA K) from sl_tupA) (pv 1) po_none (po_some (pv 4))) (pe_back (pe_slice (show SlR _ (rSlA K) from sl_tupA) (pv 1) (po_some (pv 4)) po_none))) (pe_callTy call_list_of (by rfl) mL (by decide +kernel) (pa_cons (pv 1) pa_nil)))))))), ?_⟩
  refine ⟨_, rfl, p, _, rfl, by decide, by decide, hp, fun d1 H1 d10 d11 hp1 b1 => ?_⟩
  have ha1 := b1 _ _ (poolT hp ha) ha
  refine ⟨_, rfl, _, rfl, a, _, rfl, .inr (SqT.of ha1), _, _, rfl, rfl, p, _, rfl, by omega, by omega, hp1, fun d2 H2 d20 d21 hp2 b2 => ⟨_, _, rfl, ?_⟩⟩
  have b12 := b1.trans b2
  have ht2 := Tup.but hp ht b12
  have hx2 := hx.but b12
  have fin : ∀ {H' : Hp} {n : Nat} {r : V}, n ≤ 99 → Same H2 H' → Tup p H' n r → Q r H' := fun l s t => k _ _ (t.wh (hp2.same s) l) (hp2.same s) (b12.trans (But.of s))
  dsimp only [estBent, List.set]
  refine ⟨_, rfl, _, _, rfl, rfl, _, rfl, ite2 (fun q1 => ?_) (fun q1 => ?_)⟩
  · refine ⟨_, rfl, _, rfl, _, rfl, slW monoI ht2 fun r1 H3 s3 t3 => ⟨_, rfl, by show 1 ≤ sizeLine; decide, fun b hb => ?_⟩⟩
    have s4 := s3.trans (Same.put (o := .tup [x]) (Same.refl H3) hb)
    refine catW monoI (t3.same monoI (Same.put (o := .tup [x]) (Same.refl H3) hb)) (oneW monoI (hx2.same s3) hb) (by decide) fun r5 H5 s5 t5 => ?_
    have t25 := ht2.same monoI (s4.trans s5)
    refine ⟨_, rfl, _, rfl, _, rfl, _, _, rfl, rfl, _, rfl, ?_⟩
    dsimp only [tNoPart]
    refine slW monoI t25 fun r6 H6 s6 t6 => ?_
    exact catW monoI (t5.same monoI s6) t6 (by decide) fun r7 H7 s7 t7 => fin (by decide) (((s4.trans s5).trans s6).trans s7) t7
  refine ⟨_, rfl, rfl, _, rfl, ite2 (fun q2 => ?_) (fun q2 => ?_)⟩
  · refine ⟨_, rfl, _, rfl, _, rfl, slW monoI ht2 fun r1 H3 s3 t3 => ⟨_, rfl, _, rfl, slW1 monoI (ht2.same monoI s3) fun r2 H4 s4 t4 => ?_⟩⟩
    refine catW monoI (t3.same monoI s4) t4 (by decide) fun r5 H5 s5 t5 => ?_
    have s25 := (s3.trans s4).trans s5
    refine ⟨_, rfl, _, rfl, _, rfl, ?_⟩
    dsimp only [tNoPart]
    refine slW monoI (ht2.same monoI s25) fun r6 H6 s6 t6 => ?_
    exact catW monoI (t5.same monoI s6) t6 (by decide) fun r7 H7 s7 t7 => fin (by decide) ((s25.trans s6).trans s7) t7
  refine ⟨_, rfl, rfl, _, rfl, ite2 (fun q3 => ?_) (fun q3 => ?_)⟩
  · refine ⟨_, rfl, _, rfl, _, rfl, slW monoI ht2 fun r1 H3 s3 t3 => ?_⟩
    refine ⟨_, rfl, _, rfl, _, _, rfl, rfl, _, rfl, ?_⟩
    dsimp only [tNoPart]
    refine slW monoI (ht2.same monoI s3) fun r6 H6 s6 t6 => ?_
    exact catW monoI (t3.same monoI s6) t6 (by decide) fun r7 H7 s7 t7 => fin (by decide) ((s3.trans s6).trans s7) t7
  refine ⟨_, rfl, rfl, _, rfl, ite2 (fun q4 => ?_) (fun q4 => ?_)⟩
  · refine ⟨_, rfl, _, rfl, _, rfl, slW monoI ht2 fun r1 H3 s3 t3 => ?_⟩
    refine ⟨_, rfl, _, rfl, _, rfl, ?_⟩
    dsimp only [tNoPart]
    refine slW monoI (ht2.same monoI s3) fun r6 H6 s6 t6 => ?_
    obtain ⟨b, ys, rfl, hb, lb, rb⟩ := t6
    refine ⟨b, ys, rfl, SqT.of hb, fun c hc => ?_⟩
    have s7 := Same.put (o := .tup ys.reverse) (Same.refl H6) hc
    refine catW (m := 30) monoI (t3.same monoI (s6.trans s7)) ⟨c, _, rfl, upd_same, by rw [List.length_reverse]; exact lb, fun y hy => monoI _ _ _ s7 (rb y (List.mem_reverse.mp hy))⟩ (by decide) fun r7 H7 s8 t7 => fin (by decide) (((s3.trans s6).trans s7).trans s8) t7
  · obtain ⟨a2, xs2, e2, h2, l2, r2⟩ := id ht2
    cases e2
    refine ⟨_, rfl, a, _, rfl, .inr (SqT.of h2), fun l hl => ?_⟩
    have s := Same.put (o := .lst xs2) (Same.refl H2) hl
    have nl := hp2.ne hl
    exact k _ _ (.one (.lst ((Wb.cut_at nl).trans upd_same))) (hp2.same s) (b12.trans (But.of s))
end
end Lj
/-! _law_spoilt_line: an element of some rows or turns with another value at any place -/
namespace Lj
open PySem L2 WbMin WbS Wb
open Lg hiding int_lt keepA keep5 cut_at sLOdd
abbrev sSpLine : Stmt := top 78
abbrev NSpl : List Str := ["_law_pool_here", "_law_some", "_law_posts", "_law_line_here", "_law_at", "_law_mark", "_law_odd_here"]
/-- a short text or an integer -/
def Lt (y : V) : Prop := (∃ z, y = .str z ∧ PyData.strOk z = true ∧ z.length ≤ 10) ∨ ∃ i, y = .int i
theorem Lt.so {H : Hp} {y : V} (h : Lt y) : So H y := by
  rcases h with ⟨z, rfl, _, f⟩ | ⟨i, rfl⟩
  · exact .one (.str (by rw [sizeLine_eq]; omega))
  · exact .one (.int i)
def litD : V → PyData
  | .str z => .str z
  | .int i => .int i
  | _ => .none
theorem Lt.dp {K : PySem.W.Frag} {H : Hp} {y : V} (h : Lt y) : Dp K H y (litD y) := by
  rcases h with ⟨z, rfl, _, f⟩ | ⟨i, rfl⟩
  · exact .str z
  · exact .int i
theorem Lt.lay {y : V} (h : Lt y) : (litD y).canLay0 = true ∧ PyData.depth (litD y) ≤ 0 := by
  rcases h with ⟨z, rfl, o, f⟩ | ⟨i, rfl⟩
  · exact ⟨o, Nat.le_refl _⟩
  · exact ⟨rfl, Nat.le_refl _⟩
theorem Lt.all {K : PySem.W.Frag} {H : Hp} : ∀ {ys : List V}, (∀ y ∈ ys, Lt y) → DpAll K H ys (ys.map litD)
  | [], _ => .nil
  | _ :: _, h => .cons (h _ List.mem_cons_self).dp (Lt.all fun y hy => h y (List.mem_cons_of_mem _ hy))
/-- a tuple of tuples of texts and integers -/
def RowsP (H : Hp) (v : V) : Prop := ∃ a as vss, v = .ref a ∧ H a = some (.tup (as.map V.ref)) ∧ Tups H as vss ∧ vss.length ≤ 24 ∧ ∀ vs ∈ vss, 0 < vs.length ∧ vs.length ≤ 4 ∧ ∀ y ∈ vs, Lt y
theorem RowsP.same {H H' : Hp} {v : V} (h : RowsP H v) (s : Same H H') : RowsP H' v := by
  obtain ⟨a, as, vss, e, h, t, r⟩ := h
  exact ⟨a, as, vss, e, s _ _ h, t.same s, r⟩
theorem rows_dp {K : PySem.W.Frag} {H : Hp} : ∀ {as : List Addr} {vss : List (List V)}, Tups H as vss → (∀ vs ∈ vss, ∀ y ∈ vs, Lt y) → DpAll K H (as.map V.ref) (vss.map fun vs => .tuple (vs.map litD))
  | [], [], _, _ => .nil
  | _ :: _, _ :: _, h, l => .cons (.tup (SqT.of h.1) (Lt.all (l _ List.mem_cons_self))) (rows_dp h.2 fun vs hv => l vs (List.mem_cons_of_mem _ hv))
  | [], _ :: _, h, _ => h.elim
  | _ :: _, [], h, _ => h.elim
theorem tup_shaped {α : Type} {g : α → PyData} {l : List α} (h : ∀ x ∈ l, (g x).canLay0 = true) (d : ∀ x ∈ l, PyData.depth (g x) ≤ 1) : SeqAt.shaped (.tuple (l.map g)) = true := by
  refine shaped_of (lay_map h) ?_
  have := depth_map d
  show PyData.depthAll (l.map g) + 1 ≤ 64
  omega
theorem RowsP.eq {K : PySem.W.Frag} {H : Hp} {v : V} {e : Addr} {Q : VK} (h : RowsP H v) (he : SqT K H e []) (k : ∀ b : Bool, (b = false → ∃ a as vss, v = .ref a ∧ H a = some (.tup (as.map V.ref)) ∧ Tups H as vss ∧ 0 < vss.length ∧ vss.length ≤ 24 ∧ ∀ vs ∈ vss, 0 < vs.length ∧ vs.length ≤ 4 ∧ ∀ y ∈ vs, Lt y) → Q (.bl b) H) : rEqD K v (.ref e) H Q := by
  obtain ⟨a, as, vss, rfl, h, t, l, r⟩ := h
  refine ⟨_, _, .tup (SqT.of h) (rows_dp t fun vs hv => (r vs hv).2.2), .tup he .nil, ?_, rfl, k _ fun z => ⟨a, as, vss, rfl, h, t, ?_, l, r⟩⟩
  · refine tup_shaped (fun vs hv => ?_) fun vs hv => ?_
    · exact lay_map fun y hy => ((r vs hv).2.2 y hy).lay.1
    · have := depth_map fun y hy => ((r vs hv).2.2 y hy).lay.2
      show PyData.depthAll (vs.map litD) + 1 ≤ 1
      omega
  · cases vss with
    | nil => cases z
    | cons _ _ => exact Nat.succ_pos _
/-- texts of the states -/
def Posts (H : Hp) (v : V) : Prop := ∃ (t : Addr) (st : List Str), v = .ref t ∧ H t = some (.tup (st.map V.str)) ∧ 0 < st.length ∧ st.length ≤ 6 ∧ ∀ z ∈ st, PyData.strOk z = true ∧ z.length ≤ 10
theorem Posts.same {H H' : Hp} {v : V} (h : Posts H v) (s : Same H H') : Posts H' v := by
  obtain ⟨a, st, e, h, r⟩ := h
  exact ⟨a, st, e, s _ _ h, r⟩
theorem Posts.but {H H' : Hp} {v : V} {p : Addr} (hp : PoolAt H p) (h : Posts H v) (b : But p H H') : Posts H' v := by
  obtain ⟨a, st, e, h, r⟩ := h
  exact ⟨a, st, e, b _ _ (poolT hp h) h, r⟩
theorem tups_but {p : Addr} {H H' : Hp} (hp : PoolAt H p) (b : But p H H') : ∀ {as : List Addr} {vss : List (List V)}, Tups H as vss → Tups H' as vss
  | [], [], _ => trivial
  | _ :: _, _ :: _, h => ⟨b _ _ (poolT hp h.1) h.1, tups_but hp b h.2⟩
  | [], _ :: _, h => h.elim
  | _ :: _, [], h => h.elim
theorem RowsP.but {H H' : Hp} {v : V} {p : Addr} (hp : PoolAt H p) (h : RowsP H v) (b : But p H H') : RowsP H' v := by
  obtain ⟨a, as, vss, e, h, t, r⟩ := h
  exact ⟨a, as, vss, e, b _ _ (poolT hp h) h, tups_but hp b t, r⟩
theorem tups_at {H : Hp} : ∀ {as : List Addr} {vss : List (List V)} {i : Nat}, Tups H as vss → i < vss.length → ∃ a vs, as[i]? = some a ∧ vs ∈ vss ∧ H a = some (.tup vs)
  | [], [], _, _, h => absurd h (Nat.not_lt_zero _)
  | a :: _, vs :: _, 0, h, _ => ⟨a, vs, rfl, List.mem_cons_self, h.1⟩
  | _ :: _, _ :: _, i + 1, h, l => by
    obtain ⟨a, vs, e, m, q⟩ := tups_at (i := i) h.2 (Nat.lt_of_succ_lt_succ l)
    exact ⟨a, vs, e, List.mem_cons_of_mem _ m, q⟩
  | [], _ :: _, _, h, _ => h.elim
  | _ :: _, [], _, h, _ => h.elim
theorem neg_last {α : Type} {xs : List α} (h : 0 < xs.length) : ∃ v, v ∈ xs ∧ atI xs (-1) = some v := by
  have hn : xs ≠ [] := fun z => by
    rw [z] at h
    exact absurd h (Nat.lt_irrefl 0)
  refine ⟨xs.getLast hn, List.getLast_mem hn, ?_⟩
  have e := List.dropLast_concat_getLast hn
  conv => lhs; rw [← e]
  exact atI_last _ _
def spSpLine : Sp := fun vs H Q _ => ∃ (p : Addr) (v t : V), vs = [.ref p, v, t] ∧ PoolAt H p ∧ RowsP H v ∧ Posts H t ∧ ∀ (y : V) (H' : Hp), Itm p H' y → PoolAt H' p → But p H H' → Q y H'
section
variable {P : Program} {w : World} {K : PySem.W.Frag} {mg : Str → Option Value} {base : Heap} {f fD fO : Addr} {fd dD dO : FuncData}
theorem scSpl : FnScope NSpl ["_law_pool_here", "_law_some", "_law_posts"] (defScope sSpLine) := ⟨rfl, rfl, rfl, by decide +kernel, rfl, by decide +kernel, by decide +kernel⟩
theorem estSpl (a b c : V) : L2.start NSpl [a, b, c] = [some a, some b, some c, none, none, none, none] := rfl
set_option maxHeartbeats 4000000 in
theorem ok_spline (F : Fun K "_law_spoilt_line" "_law_spoilt_line" sSpLine f fd) (D : Def K mg "_law_draw" sDraw ["_law_pool_here", "_law_many"] fD dD) (DO : Def K mg "_law_odd" Wb.sLOdd ["_law_pool_here"] fO dO) (Z : Free mg) : FnOk P w K mg base CX0 3 f fd ["_law_pool_here", "_law_some", "_law_posts"] spSpLine := by
  have G : FnOk P w K mg base CX0 1 fD dD ["_law_pool_here", "_law_many"] spDraw := ok_draw D.F Z.int Z.divmod
  have GO : FnOk P w K mg base CX0 2 fO dO ["_law_pool_here"] spOddW := ok_oddW DO.F D Z
  refine F.ok scSpl (fun vs H Q E h => by obtain ⟨p, v, t, rfl, _⟩ := h; rfl) (fun cdv A outer s H vs Q E hr h => ?_)
  obtain ⟨p, v, t, rfl, hp, hv, ht, k⟩ := h
  have hr1 : Room 1 _ := hr.mono (by decide)
  refine ⟨_, pss_cons (ps_if (PW.pt (pw_or (pt_cmpR (op_eqD hr.units) (pv 1) (pe_tup pa_nil) (nomark _)) (pw_or1 (pt_cmpR op_eq (pe_call G hr1 rfl D.g D.kp D.b .nil pass0 (pa_cons (pv 0) (pa_cons pe_int pa_nil))) pe_int (nomark _))))) (pss_one (ps_ret (pe_call GO hr rfl DO.g DO.kp DO.b .nil pass0 (pa_cons (pv 0) pa_nil)))) pss_nil)
    (pss_cons (ps_set (i := 3) scSpl.nd rfl (.inl rfl) (pe_ix ix_tup (pv 1) (pe_call G hr1 rfl D.g D.kp D.b .nil pass0 (pa_cons (pv 0) (pa_cons (pe_callB call_len_seq (by rfl) Z.len PySem.boot_len (pa_cons (pv 1) pa_nil)) pa_nil))) (fun _ _ => rfl)))
    (pss_cons (ps_par (i := 4) (j := 5) rfl scSpl.nd rfl rfl (by decide) rfl rfl (pa_cons (pe_call G hr1 rfl D.g D.kp D.b .nil pass0 (pa_cons (pv 0) (pa_cons (pe_callB call_len_seq (by rfl) Z.len PySem.boot_len (pa_cons (pv 3) pa_nil)) pa_nil))) (pa_cons (pe_call G hr1 rfl D.g D.kp D.b .nil pass0 (pa_cons (pv 0) (pa_cons pe_int pa_nil))) pa_nil)) (by rfl))
    (pss_cons (ps_if (pt_cmpR op_lt (pv 5) pe_int (nomark _)) (pss_one (ps_ret (pe_ix ix_list (pe_lst (pa_cons (pe_slice (show SlR _ (rSlA K) from sl_tupA) (pv 3) po_none (po_some (pe_un un_neg pe_int))) (pa_cons (pe_op (show OpR _ _ (rCatA K) from op_catA) (pv 3) (pe_tup (pa_cons pe_int pa_nil))) pa_nil))) (pv 5) (fun _ _ => rfl)))) pss_nil)
    (pss_cons (ps_set (i := 6) scSpl.nd rfl (.inl rfl) (pe_ix ix_list (pe_lst (pa_cons pe_bl (pa_cons pe_non (pa_cons pe_str (pa_cons pe_str (pa_cons pe_int (pa_cons (pe_ix ix_tup (pv 2) (pe_un un_neg pe_int) (fun _ _ => rfl)) pa_nil))))))) (pe_op op_sub (pv 5) pe_int) (fun _ _ => rfl)))
    (pss_one (ps_ret (pe_op (show OpR _ _ (rCatA K) from op_catA) (pe_op (show OpR _ _ (rCatA K) from op_catA) (pe_slice (show SlR _ (rSlA K) from sl_tupA) (pv 3) po_none (po_some (pv 4))) (pe_tup (pa_cons (pv 6) pa_nil))) (pe_slice (show SlR _ (rSlA K) from sl_tupA) (pv 3) (po_some (pe_op op_add (pv 4) pe_int)) po_none)))))))), ?_⟩
  refine ⟨_, rfl, by show 0 ≤ sizeLine; decide, fun e he => ?_⟩
  have s1 := Same.put (o := .tup []) (Same.refl H) he
  have hp1 := hp.same s1
  refine (hv.same s1).eq (SqT.of upd_same) fun b no => ⟨_, rfl, ?_⟩
  have odd : ∀ {H' : Hp}, PoolAt H' p → But p H H' → spOddW [.ref p] H' Q L2.E0 := fun hp' b' => ⟨p, rfl, hp', fun x H2 hx hp2 b2 => k x H2 hx.itm hp2 (b'.trans b2)⟩
  have b01 : But p H _ := But.of s1
  have hv1 := hv.same s1
  have ht1 := ht.same s1
  generalize L2.upd H e (.tup []) = H1 at s1 hp1 no b01 hv1 ht1 ⊢
  cases b with
  | true => exact iteT (iteT ⟨_, rfl, odd hp1 b01⟩)
  | false =>
  obtain ⟨a, as, vss, rfl, ha, hT, n0, n24, r⟩ := no rfl
  refine iteF ⟨_, rfl, p, _, rfl, by decide, by decide, hp1, fun d0 H2 d00 d01 hp2 b2 => ⟨rfl, _, rfl, ite2 (fun q => ⟨_, rfl, odd hp2 (b01.trans b2)⟩) (fun q => ?_)⟩⟩
  clear q d00 d01
  have b02 := b01.trans b2
  have ha2 := b2 _ _ (poolT hp1 ha) ha
  have hT2 := tups_but hp1 b2 hT
  have ht2 := ht1.but hp1 b2
  have la := hT2.length
  refine ⟨_, rfl, _, rfl, _, rfl, a, _, rfl, .inr (SqT.of ha2), p, _, rfl, by rw [List.length_map]; omega, by rw [List.length_map]; omega, hp2, fun d1 H3 d10 d11 hp3 b3 => ?_⟩
  rw [List.length_map] at d11
  obtain ⟨i, rfl⟩ := nat_of d10
  obtain ⟨c, vs, hc, vin, hvs⟩ := tups_at (i := i) hT2 (by omega)
  obtain ⟨v0, v4, lt⟩ := r vs vin
  have b03 := b02.trans b3
  have ha3 := b3 _ _ (poolT hp2 ha2) ha2
  have hc3 := b3 _ _ (poolT hp2 hvs) hvs
  have ht3 := ht2.but hp2 b3
  refine ⟨a, _, _, _, rfl, rfl, SqT.of ha3, atI_nat (j := i) (by rw [List.getElem?_map, hc] <;> rfl), ?_⟩
  dsimp only [estSpl, List.set]
  refine ⟨_, rfl, _, rfl, c, _, rfl, .inr (SqT.of hc3), p, _, rfl, by omega, by omega, hp3, fun d2 H4 d20 d21 hp4 b4 => ?_⟩
  refine ⟨_, rfl, p, _, rfl, by decide, by decide, hp4, fun d3 H5 d30 d31 hp5 b5 => ⟨_, _, rfl, ?_⟩⟩
  have b35 := b4.trans b5
  have b05 := b03.trans b35
  have hc5 := b35 _ _ (poolT hp3 hc3) hc3
  have ht5 := ht3.but hp3 b35
  dsimp only [List.set]
  have so5 : SoT p H5 4 (.ref c) := ⟨c, vs, rfl, hc5, v4, fun y hy => (lt y hy).so⟩
  have fin : ∀ {H' : Hp} {n : Nat} {r : V}, n ≤ 9 → Same H5 H' → SoT p H' n r → Q r H' := fun l s t => k _ _ (t.itm (hp5.same s) l) (hp5.same s) (b05.trans (But.of s))
  clear b01 b02 b03 b35 b4 b5 b2 b3 ha ha2 ha3 hT hT2 hp1 hp2 hp3 hp4 hc3 ht1 ht2 ht3 odd no r la
  obtain ⟨j, rfl⟩ := nat_of d30
  refine ⟨_, rfl, _, _, rfl, rfl, _, rfl, ite2 (fun q1 => ?_) (fun q1 => ?_)⟩
  · have j2 : j < 2 := by have := of_decide_eq_true q1; omega
    refine ⟨_, rfl, ?_⟩
    dsimp only [tNoPart]
    refine ⟨_, rfl, _, rfl, slW monoS so5 fun r1 H6 s6 t6 => ?_⟩
    refine ⟨_, rfl, by show 1 ≤ sizeLine; decide, fun e7 he7 => ?_⟩
    have s7 := Same.put (o := .tup [.int 0]) (Same.refl H6) he7
    refine catW monoS (so5.same monoS (s6.trans s7)) (oneW monoS (.one (.int 0)) he7) (by decide) fun r2 H8 s8 t8 => ⟨by show 2 ≤ sizeLine; decide, fun L hL => ⟨_, rfl, ?_⟩⟩
    have s9 := Same.put (o := .lst [r1, r2]) (Same.refl H8) hL
    have s69 := (s7.trans s8).trans s9
    obtain ⟨y, hy, ty⟩ : ∃ y, ([r1, r2] : List V)[j]? = some y ∧ SoT p (L2.upd H8 L (.lst [r1, r2])) 9 y := by
      rcases (by omega : j = 0 ∨ j = 1) with rfl | rfl
      · exact ⟨r1, rfl, (t6.same monoS s69).mono (by decide)⟩
      · exact ⟨r2, rfl, (t8.same monoS s9).mono (by decide)⟩
    exact ⟨L, _, _, y, rfl, rfl, SqL.of upd_same, atI_nat hy, fin (by decide) (s6.trans s69) ty⟩
  · have j2 : 2 ≤ j := by
      have z : ¬ ((j : Int) < 2) := fun z => q1 (decide_eq_true z)
      omega
    have str : ∀ {z : Str}, z.length ≤ 10 → So (cut H5 p) (.str z) := fun l => .one (.str (by rw [sizeLine_eq]; omega))
    obtain ⟨tt, st, rfl, htt, st0, st6, stz⟩ := ht5
    obtain ⟨zl, zin, hz⟩ := neg_last (xs := st.map V.str) (by rw [List.length_map]; exact st0)
    refine ⟨_, rfl, _, rfl, tt, _, _, _, rfl, rfl, SqT.of htt, hz, by show 6 ≤ sizeLine; decide, fun L hL => ⟨_, rfl, _, _, rfl, rfl, ?_⟩⟩
    have s6 := Same.put (o := .lst [.bl true, .non, .str "a", .str "", .int 5, zl]) (Same.refl H5) hL
    obtain ⟨y, hy, oy⟩ : ∃ y, ([.bl true, .non, .str "a", .str "", .int 5, zl] : List V)[j - 2]? = some y ∧ So (cut H5 p) y := by
      obtain ⟨z, hzz, rfl⟩ := List.mem_map.mp zin
      rcases (by omega : j = 2 ∨ j = 3 ∨ j = 4 ∨ j = 5 ∨ j = 6 ∨ j = 7) with rfl | rfl | rfl | rfl | rfl | rfl
      · exact ⟨_, rfl, .one (.bl true)⟩
      · exact ⟨_, rfl, .one .non⟩
      · exact ⟨_, rfl, str (by decide +kernel)⟩
      · exact ⟨_, rfl, str (by decide +kernel)⟩
      · exact ⟨_, rfl, .one (.int 5)⟩
      · exact ⟨_, rfl, str (stz z hzz).2⟩
    refine ⟨L, _, _, y, rfl, rfl, SqL.of upd_same, by rw [show ((j : Int) - 2) = ((j - 2 : Nat) : Int) by omega]; exact atI_nat hy, ?_⟩
    dsimp only [List.set]
    generalize L2.upd H5 L (.lst [.bl true, .non, .str "a", .str "", .int 5, zl]) = H6 at s6 ⊢
    have so6 := so5.same monoS s6
    refine ⟨_, rfl, _, rfl, _, rfl, slW monoS so6 fun r1 H7 s7 t7 => ⟨_, rfl, by show 1 ≤ sizeLine; decide, fun b hb => ?_⟩⟩
    have s8 := Same.put (o := .tup [y]) (Same.refl H7) hb
    refine catW monoS (t7.same monoS s8) (oneW monoS (monoS _ _ _ (s6.trans s7) oy) hb) (by decide) fun r2 H9 s9 t9 => ?_
    have s69 := (s7.trans s8).trans s9
    refine ⟨_, rfl, _, rfl, _, _, rfl, rfl, _, rfl, ?_⟩
    dsimp only [tNoPart]
    refine slW monoS (so6.same monoS s69) fun r3 Ha sa ta => ?_
    exact catW monoS (t9.same monoS sa) ta (by decide) fun r4 Hb sb tb => fin (by decide) (((s6.trans s69).trans sa).trans sb) tb
end
end Lj
/-! up to nine drawn names -/
namespace Wb
open PySem L2 WbMin WbS Lz
def spNamesM : Sp := fun vs H Q _ => ∃ (p : Addr) (m : Nat), vs = [.ref p, .int (m : Nat)] ∧ m ≤ 9 ∧ PoolAt H p ∧
  ∀ (a : Addr) (st : List Str) (H' : Hp), (∀ z ∈ st, ∃ l, z = S l ∧ IsNm l) → st.length = m → H' a = some (.lst (st.map V.str)) → H a = none → PoolAt H' p → But p H H' → Q (.ref a) H'
section
variable {P : Program} {w : World} {K : PySem.W.Frag} {mg : Str → Option Value} {base : Heap} {f fD fN : Addr} {fd fdD dN : FuncData}
theorem ok_namesM (F : Fun K "_law_names" "_law_names" sNames f fd) (D : Def K mg "_law_draw" sDraw ["_law_pool_here", "_law_many"] fD fdD) (DN : Def K mg "_law_name" sName ["_law_pool_here", "_law_found"] fN dN) (Z : Free mg) : FnOk P w K mg base CX0 3 f fd ["_law_pool_here", "_law_many"] spNamesM := by
  have G : FnOk P w K mg base CX0 2 fN dN ["_law_pool_here", "_law_found"] spName := ok_name DN.F D Z
  refine F.ok scNs (fun vs H Q E h => ?_) (fun cdv A outer s H vs Q E hr h => ?_)
  · obtain ⟨p, m, rfl, _⟩ := h
    rfl
  · obtain ⟨p, m, rfl, m6, hp, k⟩ := h
    refine ⟨_, pss_cons (ps_set (i := 2) scNs.nd rfl (.inl rfl) (pe_lst pa_nil))
      (pss_cons (ps_for PassesOwn.never rfl (pi_range1 rfl Z.range (pa_cons (pv 1) pa_nil)) (pg_name (i := 3) scNs.nd rfl (.inl rfl))
        (pss_one (ps_expr (pe_bm PySem.F.plainAttrs_list PySem.F.slot_list_append PySem.F.type_list_append mt_append (pv 2) (pa_cons (pe_call G hr rfl DN.g DN.kp DN.b .nil pass0 (pa_cons (pv 0) (pa_cons (pv 2) pa_nil))) pa_nil)))))
      (pss_one (ps_ret (pv 2)))), ?_⟩
    refine ⟨by show 0 ≤ sizeLine; decide, fun a ha => ?_⟩
    have na := hp.ne ha
    refine ⟨_, rfl, _, rfl, by omega, by omega, for_it walk_range (fun i σ H' => ∃ (zs : List Str) (v3 : Option V), σ = [some (.ref p), some (.int (m : Nat)), some (.ref a), v3] ∧ zs.length = i ∧ zs.Nodup ∧ (∀ z ∈ zs, ∃ l, z = S l ∧ IsNm l) ∧ H' a = some (.lst (zs.map V.str)) ∧ PoolAt H' p ∧ But p H H')
      ⟨[], none, rfl, rfl, List.nodup_nil, (fun z hz => nomatch hz), upd_same, hp.put na, (But.refl p H).upd ha⟩ (fun _ _ _ _ _ => trivial) ?_ ?_⟩
    · rintro i x σ H2 H3 hi ⟨zs, v3, rfl, lz, nd, nms, h1, hp2, b2⟩ ⟨rfl, rfl⟩
      refine ⟨_, rfl, .inl ⟨rfl, _, SqL.of h1⟩, _, rfl, _, rfl, p, a, zs, rfl, hp2, h1, nms, by omega, fun l H4 N new hp4 b4 => ?_⟩
      refine ⟨a, _, _, rfl, rfl, b4 a _ na h1, by rw [List.length_map, sizeLine_eq]; omega, zs ++ [S l], _, rfl, ?_, ?_, ?_, ?_, hp4.put na, (b2.trans b4).new ha⟩
      · rw [List.length_append, lz] <;> rfl
      · rw [List.nodup_append]
        exact ⟨nd, by simp, fun x hx y hy q => new (by rw [← List.mem_singleton.mp hy, ← q]; exact hx)⟩
      · intro z hz
        rcases List.mem_append.mp hz with hz | hz
        · exact nms z hz
        · rw [List.mem_singleton.mp hz]
          exact ⟨l, rfl, N⟩
      · rw [upd_same, List.map_append] <;> rfl
    · rintro σ H2 ⟨zs, v3, rfl, lz, nd, nms, h1, hp2, b2⟩
      exact ⟨_, rfl, k a zs H2 nms (by omega) h1 ha hp2 b2⟩
end
end Wb
/-! tuple(z) of a text -/
namespace WbT
open PySem PySem.Spec PyProof.Rows L2
section
variable {X : Cx}
theorem vals_marks : ∀ (l : List Nat) (us : List Value), us.length = l.length → (∀ (j : Nat) (v : Value), us[j]? = some v → ∃ c t, l[j]? = some c ∧ v = Value.str ⟨#[c]⟩ t) → Vals (l.map fun c => V.str ⟨#[c]⟩) us
  | [], [], _, _ => .nil
  | [], _ :: _, h, _ => by cases h
  | _ :: _, [], h, _ => by cases h
  | c :: l, u :: us, h, k => by
    obtain ⟨c', t, e1, e2⟩ := k 0 u rfl
    cases e1
    exact .cons ⟨t, e2⟩ (vals_marks l us (Nat.succ.inj h) fun j v q => k (j + 1) v q)
/-- tuple(z) of a text -/
theorem call_tupleS (calm : X.calm = true) : CallR X (.type "tuple") (fun xs H Q => ∃ z : Str, xs = [.str z] ∧ z.length ≤ sizeLine ∧ ∀ p, H p = none → Q (.ref p) (upd H p (.tup (z.cps.toList.map fun c => V.str ⟨#[c]⟩)))) := by
  intro pins s σ H xs us Q I r h
  obtain ⟨z, rfl, fits, q⟩ := h
  obtain ⟨u, rfl, t, rfl⟩ := vals1 r
  refine call_tuple_str (I.ok.hd calm) z t (fun h' tk acc kept items => ?_) fits
  have rel : Vals (z.cps.toList.map fun c => V.str ⟨#[c]⟩) acc.toList := vals_marks _ _ (by rw [Array.length_toList, Array.length_toList]; exact items.1) fun j v e => by
    obtain ⟨c, u, e1, e2⟩ := items.2 j v (by rw [← Array.getElem?_toList]; exact e)
    exact ⟨c, u, by rw [Array.getElem?_toList]; exact e1, e2⟩
  have fits' : (z.cps.toList.map fun c => V.str ⟨#[c]⟩).length ≤ sizeLine := by rw [List.length_map, Array.length_toList]; exact fits
  have I1 : Inv X pins σ H { s with heap := h', toks := tk } := I.kept (t' := tk) kept
  have new := IsTup.new h' acc.toList.toArray
  have e : acc.toList.toArray = acc := by simp
  rw [e] at new
  exact ⟨.ref h'.objs.size, _, I1.laid (t' := tk) (fun b o e => Heap.get?_push_of_some _ e) (Nat.le_refl _) (show ObjOk X.prog X.w _ _ _ (.tup _) from ⟨fits', acc.toList, rel, by rw [e]; exact new⟩), rfl, q _ (I1.hok.fresh (Nat.le_refl _))⟩
end
end WbT
/-! _law_spoilt: the parts with a change in one of them -/
namespace Lj
open PySem L2 WbMin WbS Lz Wb
open Lg hiding int_lt keepA keep5 cut_at sLOdd
abbrev sSpoilt : Stmt := top 79
/-- a text of at most m signs -/
def TxM (m : Nat) (v : V) : Prop := ∃ l, v = .str (S l) ∧ l.length ≤ m ∧ ∀ c ∈ l, c < 1000
theorem TxM.mono {m n : Nat} {v : V} (h : TxM m v) (k : m ≤ n) : TxM n v := by
  obtain ⟨l, e, a, b⟩ := h
  exact ⟨l, e, by omega, b⟩
theorem TxM.val {p : Addr} {H : Hp} {m : Nat} {v : V} (h : TxM m v) (k : m ≤ 2000) : ∃ d, Any p H v d := by
  obtain ⟨l, rfl, a, b⟩ := h
  exact Val.str ⟨by omega, b⟩
section
variable {m n : Nat} {v u : V} {lo hi : Option Int} {H : Hp} {Q : VK}
theorem slX (h : TxM m v) (k0 : m ≤ 2000) (k : ∀ r, TxM m r → Q r H) : rSlS v lo hi H Q := by
  obtain ⟨l, rfl, a, b⟩ := h
  refine ⟨_, rfl, by rw [S_len, sizeLine_eq]; omega, k _ ⟨(l.drop (HT.sIx (S l).length 0 lo)).take (HT.sIx (S l).length (S l).length hi - HT.sIx (S l).length 0 lo), ?_, ?_, fun c hc => b c (List.mem_of_mem_drop (List.mem_of_mem_take hc))⟩⟩
  · show V.str ⟨_⟩ = V.str ⟨_⟩
    rw [S_cps]
  · rw [List.length_take, List.length_drop]
    omega
def rAddS : R2 := fun x y H Q => ∃ i j, x = .str i ∧ y = .str j ∧ i.length + j.length ≤ sizeLine ∧ Q (.str (i ++ j)) H
theorem op_addX {X : Cx} : OpR X (binaryOp .Add) rAddS := op_add_str
theorem catX (h : TxM m v) (h2 : TxM n u) (k0 : m + n ≤ 2000) (k : ∀ r, TxM (m + n) r → Q r H) : rAddS v u H Q := by
  obtain ⟨l, rfl, a, b⟩ := h
  obtain ⟨l2, rfl, a2, b2⟩ := h2
  refine ⟨_, _, rfl, rfl, by rw [S_len, S_len, sizeLine_eq]; omega, ?_⟩
  rw [S_add]
  exact k _ ⟨_, rfl, by rw [List.length_append]; omega, fun c hc => (List.mem_append.mp hc).elim (b c) (b2 c)⟩
end
theorem both_ones {H : Hp} {n : Nat} : ∀ l : List Nat, Both (Thing H (n + 1)) (l.map fun c => V.str ⟨#[c]⟩) (l.map fun c => plainD (.str ⟨#[c]⟩))
  | [] => .nil
  | _ :: l => .cons (.inl (.str _)) (both_ones l)
theorem ones_any {p a : Addr} {H : Hp} {l : List Nat} (n : a ≠ p) (h : H a = some (.tup (l.map fun c => V.str ⟨#[c]⟩))) (hl : l.length ≤ 1000) (hc : ∀ c ∈ l, c < 1000) : ∃ d, Any p H (.ref a) d := by
  refine Val.of ⟨_, .inr (.inr (.inl ⟨a, _, _, rfl, (Wb.cut_at n).trans h, by rw [List.length_map]; exact hl, both_ones l, rfl⟩)), ?_, ?_⟩
  · show (PyData.strOk "tuple" && PyData.canLayAll0 (l.map fun c => plainD (.str ⟨#[c]⟩))) = true
    have e : PyData.strOk "tuple" = true := by decide +kernel
    rw [e, Bool.true_and]
    refine lay_map fun c hm => strF_layH ?_
    have := ok_codes (l := [c]) fun d hd => by
      rw [List.mem_singleton.mp hd]
      have := hc c hm
      omega
    exact this
  · have := depth_map (g := fun c => plainD (.str (⟨#[c]⟩ : Str))) (n := 1) (l := l) fun c _ => Nat.le_refl _
    show max 0 (PyData.depthAll (l.map fun c => plainD (.str ⟨#[c]⟩))) + 1 ≤ 60
    omega
/-- some texts of states -/
def Txs (H : Hp) (v : V) : Prop := ∃ (t : Addr) (st : List Str), v = .ref t ∧ H t = some (.tup (st.map V.str)) ∧ st.length ≤ 6 ∧ ∀ z ∈ st, PyData.strOk z = true ∧ z.length ≤ 10
theorem Txs.same {H H' : Hp} {v : V} (h : Txs H v) (s : Same H H') : Txs H' v := by
  obtain ⟨a, st, e, h, r⟩ := h
  exact ⟨a, st, e, s _ _ h, r⟩
theorem Txs.but {H H' : Hp} {v : V} {p : Addr} (hp : PoolAt H p) (h : Txs H v) (b : But p H H') : Txs H' v := by
  obtain ⟨a, st, e, h, r⟩ := h
  exact ⟨a, st, e, b _ _ (poolT hp h) h, r⟩
theorem Posts.txs {H : Hp} {v : V} (h : Posts H v) : Txs H v := by
  obtain ⟨a, st, e, h, _, r⟩ := h
  exact ⟨a, st, e, h, r⟩
theorem str_itm {p : Addr} {H : Hp} {z : Str} (h : PyData.strOk z = true ∧ z.length ≤ 10) : Itm p H (.str z) := ⟨.one (.str (by rw [sizeLine_eq]; omega)), fun y e => by
  injection e with e
  rw [← e]
  exact h.1⟩
theorem Txs.tup {p : Addr} {H : Hp} {v : V} (h : Txs H v) : Tup p H 6 v := by
  obtain ⟨a, st, rfl, h, l, r⟩ := h
  refine ⟨a, _, rfl, h, by rw [List.length_map]; exact l, fun y hy => ?_⟩
  obtain ⟨z, hz, rfl⟩ := List.mem_map.mp hy
  exact str_itm (r z hz)
theorem rows_itm {p : Addr} {H : Hp} (hp : PoolAt H p) : ∀ {as : List Addr} {vss : List (List V)}, Tups H as vss → (∀ vs ∈ vss, vs.length ≤ 4 ∧ ∀ y ∈ vs, Lt y) → ∀ y ∈ as.map V.ref, Itm p H y
  | [], [], _, _, y, hy => nomatch hy
  | a :: as, vs :: vss, h, l, y, hy => by
    rcases List.mem_cons.mp hy with rfl | hy
    · obtain ⟨l4, lt⟩ := l vs List.mem_cons_self
      exact ⟨.tup ((Wb.cut_at (poolT hp h.1)).trans h.1) (by omega) fun y hy => (lt y hy).so, fun z e => by cases e⟩
    · exact rows_itm hp h.2 (fun vs hv => l vs (List.mem_cons_of_mem _ hv)) y hy
  | [], _ :: _, h, _, _, _ => h.elim
  | _ :: _, [], h, _, _, _ => h.elim
theorem RowsP.tup {p : Addr} {H : Hp} {v : V} (hp : PoolAt H p) (h : RowsP H v) : Tup p H 24 v := by
  obtain ⟨a, as, vss, rfl, h, t, l, r⟩ := h
  exact ⟨a, _, rfl, h, by rw [List.length_map, t.length]; exact l, rows_itm hp t fun vs hv => (r vs hv).2⟩
/-- the parts of a loop as they are drawn -/
structure PartsP (p : Addr) (H : Hp) (L : Addr) (sg : List Nat) (tV rV uV yV : V) : Prop where
  hL : H L = some (.lst [.str (S sg), tV, rV, uV, yV])
  ne : L ≠ p
  lo : ∀ c ∈ sg, c < 1000
  s0 : 0 < sg.length
  s4 : sg.length ≤ 4
  ht : Posts H tV
  hr : RowsP H rV
  hu : RowsP H uV
  hy : Txs H yV
theorem PartsP.but {p : Addr} {H H' : Hp} {L : Addr} {sg : List Nat} {tV rV uV yV : V} (hp : PoolAt H p) (h : PartsP p H L sg tV rV uV yV) (b : But p H H') : PartsP p H' L sg tV rV uV yV :=
  ⟨b _ _ h.ne h.hL, h.ne, h.lo, h.s0, h.s4, h.ht.but hp b, h.hr.but hp b, h.hu.but hp b, h.hy.but hp b⟩
/-- parts of any sort -/
def PtA (p : Addr) (H : Hp) (L : Addr) : Prop := ∃ (sV tV rV uV yV : V) (d : PyData), H L = some (.lst [sV, tV, rV, uV, yV]) ∧ L ≠ p ∧ Any p H sV d ∧ Lg.Wh (cut H p) tV ∧ Lg.Wh (cut H p) rV ∧ Lg.Wh (cut H p) uV ∧ Lg.Wh (cut H p) yV
theorem PtA.but {p : Addr} {H H' : Hp} {L : Addr} (h : PtA p H L) (b : But p H H') : PtA p H' L := by
  obtain ⟨sV, tV, rV, uV, yV, d, hL, n, a, h1, h2, h3, h4⟩ := h
  exact ⟨sV, tV, rV, uV, yV, d, b _ _ n hL, n, a.but b, h1.same (cut_but b), h2.same (cut_but b), h3.same (cut_but b), h4.same (cut_but b)⟩
/-- parts of any sort, the signs' things new since H0 -/
def PtN (p : Addr) (H0 H : Hp) (L : Addr) : Prop := ∃ (sV tV rV uV yV : V) (d : PyData), H L = some (.lst [sV, tV, rV, uV, yV]) ∧ L ≠ p ∧ Any p (New H0 H) sV d ∧ Lg.Wh (cut H p) tV ∧ Lg.Wh (cut H p) rV ∧ Lg.Wh (cut H p) uV ∧ Lg.Wh (cut H p) yV
theorem PtN.but {p : Addr} {H0 H H' : Hp} {L : Addr} (h : PtN p H0 H L) (b : But p H H') : PtN p H0 H' L := by
  obtain ⟨sV, tV, rV, uV, yV, d, hL, n, a, h1, h2, h3, h4⟩ := h
  exact ⟨sV, tV, rV, uV, yV, d, b _ _ n hL, n, a.but (new_but b), h1.same (cut_but b), h2.same (cut_but b), h3.same (cut_but b), h4.same (cut_but b)⟩
theorem PtN.ptA {p : Addr} {H0 H : Hp} {L : Addr} (h : PtN p H0 H L) : PtA p H L := by
  obtain ⟨sV, tV, rV, uV, yV, d, hL, n, a, r⟩ := h
  exact ⟨sV, tV, rV, uV, yV, d, hL, n, a.same New.sub, r⟩
theorem PartsP.any {p : Addr} {H : Hp} {L F : Addr} {sg : List Nat} {tV rV uV yV : V} (hp : PoolAt H p) (h : PartsP p H L sg tV rV uV yV) (hF : H F = some (.lst [.str (S sg), tV, rV, uV, yV])) (n : F ≠ p) : PtA p H F := by
  have := h.s4
  obtain ⟨d, hd⟩ := Val.str (p := p) (H := H) (l := sg) ⟨by omega, h.lo⟩
  exact ⟨_, _, _, _, _, d, hF, n, hd, h.ht.txs.tup.wh hp (by decide), (h.hr.tup hp).wh hp (by decide), (h.hu.tup hp).wh hp (by decide), h.hy.tup.wh hp (by decide)⟩
/-- a list changes: what is no list stays -/
theorem Odd1.put {p F : Addr} {H : Hp} {xs ys : List V} {v : V} (hF : H F = some (.lst xs)) (n : F ≠ p) (h : Odd1 (cut H p) v) : Odd1 (cut (L2.upd H F (.lst ys)) p) v := by
  cases h with
  | str f => exact .str f
  | int i => exact .int i
  | non => exact .non
  | bl b => exact .bl b
  | @lst a zs h =>
    by_cases e : a = F
    · subst e
      exact .lst ((Wb.cut_at n).trans upd_same)
    · refine .lst (xs := zs) ?_
      unfold cut at h ⊢
      by_cases ep : a = p
      · rw [if_pos ep] at h
        cases h
      · rw [if_neg ep] at h ⊢
        rw [upd_ne e]
        exact h
  | @dK a zs h =>
    refine .dK (xs := zs) ?_
    unfold cut at h ⊢
    by_cases ep : a = p
    · rw [if_pos ep] at h
      cases h
    · rw [if_neg ep] at h ⊢
      have e : a ≠ F := fun z => by
        rw [z, hF] at h
        cases h
      rw [upd_ne e]
      exact h
theorem tup_put {p F a : Addr} {H : Hp} {xs ys zs : List V} (hF : H F = some (.lst xs)) (h : cut H p a = some (.tup zs)) : cut (L2.upd H F (.lst ys)) p a = some (.tup zs) := by
  unfold cut at h ⊢
  by_cases ep : a = p
  · rw [if_pos ep] at h
    cases h
  · rw [if_neg ep] at h ⊢
    have e : a ≠ F := fun z => by
      rw [z, hF] at h
      cases h
    rw [upd_ne e]
    exact h
theorem So.put {p F : Addr} {H : Hp} {xs ys : List V} {v : V} (hF : H F = some (.lst xs)) (n : F ≠ p) (h : So (cut H p) v) : So (cut (L2.upd H F (.lst ys)) p) v := by
  cases h with
  | one h => exact .one (Odd1.put hF n h)
  | tup h => exact .tup (tup_put hF h)
theorem TopS.put {p F : Addr} {H : Hp} {xs ys : List V} {v : V} (hF : H F = some (.lst xs)) (n : F ≠ p) (h : TopS (cut H p) v) : TopS (cut (L2.upd H F (.lst ys)) p) v := by
  cases h with
  | one h => exact .one (Odd1.put hF n h)
  | tup h l r => exact .tup (tup_put hF h) l fun y hy => So.put hF n (r y hy)
theorem Wh.put {p F : Addr} {H : Hp} {xs ys : List V} {v : V} (hF : H F = some (.lst xs)) (n : F ≠ p) (h : Lg.Wh (cut H p) v) : Lg.Wh (cut (L2.upd H F (.lst ys)) p) v := by
  cases h with
  | one h => exact .one (Odd1.put hF n h)
  | tup h l r c => exact .tup (tup_put hF h) l (fun y hy => TopS.put hF n (r y hy)) c
/-- parts of a loop, the signs a text -/
def PtS (p : Addr) (H : Hp) (L : Addr) (sg : List Nat) (i : Nat) : Prop := ∃ (tV rV uV yV : V), H L = some (.lst [.str (S sg), tV, rV, uV, yV]) ∧ L ≠ p ∧ Lg.Wh (cut H p) tV ∧ Lg.Wh (cut H p) rV ∧ Lg.Wh (cut H p) uV ∧ Lg.Wh (cut H p) yV
theorem PtS.but {p : Addr} {H H' : Hp} {L : Addr} {sg : List Nat} {i : Nat} (h : PtS p H L sg i) (b : But p H H') : PtS p H' L sg i := by
  obtain ⟨tV, rV, uV, yV, hL, n, h1, h2, h3, h4⟩ := h
  exact ⟨tV, rV, uV, yV, b _ _ n hL, n, h1.same (cut_but b), h2.same (cut_but b), h3.same (cut_but b), h4.same (cut_but b)⟩
theorem PtS.ptN {p : Addr} {H0 H : Hp} {L : Addr} {sg : List Nat} {i : Nat} (l : sg.length ≤ 2000) (lo : ∀ c ∈ sg, c < 1000) (h : PtS p H L sg i) : PtN p H0 H L := by
  obtain ⟨tV, rV, uV, yV, hL, n, h1, h2, h3, h4⟩ := h
  obtain ⟨d, hd⟩ := Val.str (p := p) (H := New H0 H) (l := sg) ⟨l, lo⟩
  exact ⟨_, _, _, _, _, d, hL, n, hd, h1, h2, h3, h4⟩
/-- the part with index i becomes v -/
theorem PtS.set {p : Addr} {H : Hp} {L : Addr} {sg : List Nat} {i j : Nat} {v : V} {Q : Hp → Prop} (h : PtS p H L sg i) (j0 : 0 < j) (j5 : j < 5) (hv : Lg.Wh (cut H p) v) (k : ∀ H', PtS p H' L sg i → (∃ ys, H' = L2.upd H L (.lst ys)) → Q H') : rSetL (.ref L) (.int (j : Nat)) v H Q := by
  obtain ⟨tV, rV, uV, yV, hL, n, h1, h2, h3, h4⟩ := h
  have ij : ixN 5 (j : Int) = some j := by
    unfold ixN
    rw [if_pos (by omega), if_pos (by omega)] <;> rfl
  refine ⟨L, _, _, j, rfl, rfl, hL, ij, k _ ?_ ⟨_, rfl⟩⟩
  have w1 := Wh.put (ys := [V.str (S sg), tV, rV, uV, yV].set j v) hL n h1
  have w2 := Wh.put (ys := [V.str (S sg), tV, rV, uV, yV].set j v) hL n h2
  have w3 := Wh.put (ys := [V.str (S sg), tV, rV, uV, yV].set j v) hL n h3
  have w4 := Wh.put (ys := [V.str (S sg), tV, rV, uV, yV].set j v) hL n h4
  have wv := Wh.put (ys := [V.str (S sg), tV, rV, uV, yV].set j v) hL n hv
  rcases (by omega : j = 1 ∨ j = 2 ∨ j = 3 ∨ j = 4) with rfl | rfl | rfl | rfl
  · exact ⟨v, rV, uV, yV, upd_same, n, wv, w2, w3, w4⟩
  · exact ⟨tV, v, uV, yV, upd_same, n, w1, wv, w3, w4⟩
  · exact ⟨tV, rV, v, yV, upd_same, n, w1, w2, wv, w4⟩
  · exact ⟨tV, rV, uV, v, upd_same, n, w1, w2, w3, wv⟩
theorem PtS.set0 {p : Addr} {H0 H : Hp} {L : Addr} {sg : List Nat} {i : Nat} {v : V} {Q : Hp → Prop} (h : PtS p H L sg i) (hv : ∀ ys, ∃ d, Any p (New H0 (L2.upd H L (.lst ys))) v d) (k : ∀ H', PtN p H0 H' L → (∃ ys, H' = L2.upd H L (.lst ys)) → Q H') : rSetL (.ref L) (.int 0) v H Q := by
  obtain ⟨tV, rV, uV, yV, hL, n, h1, h2, h3, h4⟩ := h
  obtain ⟨d, hd⟩ := hv ([V.str (S sg), tV, rV, uV, yV].set 0 v)
  refine ⟨L, _, _, 0, rfl, rfl, hL, rfl, k _ ?_ ⟨_, rfl⟩⟩
  have w1 := Wh.put (ys := [V.str (S sg), tV, rV, uV, yV].set 0 v) hL n h1
  have w2 := Wh.put (ys := [V.str (S sg), tV, rV, uV, yV].set 0 v) hL n h2
  have w3 := Wh.put (ys := [V.str (S sg), tV, rV, uV, yV].set 0 v) hL n h3
  have w4 := Wh.put (ys := [V.str (S sg), tV, rV, uV, yV].set 0 v) hL n h4
  exact ⟨v, tV, rV, uV, yV, d, upd_same, n, hd, w1, w2, w3, w4⟩
def spSpoilt : Sp := fun vs H Q _ => ∃ (p L : Addr) (j : Nat) (sg : List Nat) (tV rV uV yV : V), vs = [.ref p, .ref L, .int (j : Nat)] ∧ j < 5 ∧ PoolAt H p ∧ PartsP p H L sg tV rV uV yV ∧
  ∀ (F : Addr) (H' : Hp), PtN p H H' F → H F = none → PoolAt H' p → But p H H' → Q (.ref F) H'
abbrev NSpo : List Str := ["_law_pool_here", "_law_parts_here", "_law_which", "_law_found", "_law_posts", "_law_abc", "_law_at", "_law_mark", "_law_words", "_law_more", "_law_odd_here"]
section
variable {P : Program} {w : World} {K : PySem.W.Frag} {mg : Str → Option Value} {base : Heap} {f fD fO fN fNs fB fL : Addr} {fd dD dO dN dNs dB dL : FuncData}
theorem scSpo : FnScope NSpo ["_law_pool_here", "_law_parts_here", "_law_which"] (defScope sSpoilt) := ⟨rfl, rfl, rfl, by decide +kernel, rfl, by decide +kernel, by decide +kernel⟩
theorem estSpo (a b c : V) : L2.start NSpo [a, b, c] = [some a, some b, some c, none, none, none, none, none, none, none, none] := rfl
set_option maxHeartbeats 8000000 in
theorem ok_spoilt (F : Fun K "_law_spoilt" "_law_spoilt" sSpoilt f fd) (D : Def K mg "_law_draw" sDraw ["_law_pool_here", "_law_many"] fD dD) (DO : Def K mg "_law_odd" Wb.sLOdd ["_law_pool_here"] fO dO) (DN : Def K mg "_law_name" sName ["_law_pool_here", "_law_found"] fN dN) (DNs : Def K mg "_law_names" sNames ["_law_pool_here", "_law_many"] fNs dNs)
    (DB : Def K mg "_law_bent" sBent ["_law_pool_here", "_law_some", "_law_odd_here"] fB dB) (DL : Def K mg "_law_spoilt_line" sSpLine ["_law_pool_here", "_law_some", "_law_posts"] fL dL) (Z : Free mg) (mL : mg "list" = none) (mT : mg "tuple" = none) : FnOk P w K mg base CX0 4 f fd ["_law_pool_here", "_law_parts_here", "_law_which"] spSpoilt := by
  have G : FnOk P w K mg base CX0 1 fD dD ["_law_pool_here", "_law_many"] spDraw := ok_draw D.F Z.int Z.divmod
  have GO : FnOk P w K mg base CX0 2 fO dO ["_law_pool_here"] spOddW := ok_oddW DO.F D Z
  have GN : FnOk P w K mg base CX0 3 fNs dNs ["_law_pool_here", "_law_many"] spNamesM := ok_namesM DNs.F D DN Z
  have GB : FnOk P w K mg base CX0 2 fB dB ["_law_pool_here", "_law_some", "_law_odd_here"] spBent := ok_bent DB.F D Z mL
  have GL : FnOk P w K mg base CX0 3 fL dL ["_law_pool_here", "_law_some", "_law_posts"] spSpLine := ok_spline DL.F D DO Z
  refine F.ok scSpo (fun vs H Q E h => by obtain ⟨p, L, j, sg, tV, rV, uV, yV, rfl, _⟩ := h; rfl) (fun cdv A outer s H vs Q E hr h => ?_)
  obtain ⟨p, L, j, sg, tV, rV, uV, yV, rfl, j5, hp, pt, k⟩ := h
  have hr1 : Room 1 _ := hr.mono (by decide)
  have hr2 : Room 2 _ := hr.mono (by decide)
  refine ⟨_, pss_cons (ps_set (i := 3) scSpo.nd rfl (.inl rfl) (pe_callTy call_list_of (by rfl) mL (by decide +kernel) (pa_cons (pv 1) pa_nil)))
    (pss_cons (ps_set (i := 4) scSpo.nd rfl (.inl rfl) (pe_ix ix_list (pv 1) pe_int (fun _ _ => rfl)))
    (pss_cons (ps_join (ps_if (pt_cmpR op_eq (pv 2) pe_int (nomark _))
      (pss_cons (ps_set (i := 5) scSpo.nd rfl (.inl rfl) (pe_ix ix_list (pv 1) pe_int (fun _ _ => rfl)))
      (pss_cons (ps_par (i := 6) (j := 7) rfl scSpo.nd rfl rfl (by decide) rfl rfl (pa_cons (pe_call G hr1 rfl D.g D.kp D.b .nil pass0 (pa_cons (pv 0) (pa_cons (pe_op op_add (pe_callB call_len_str (by rfl) Z.len PySem.boot_len (pa_cons (pv 5) pa_nil)) pe_int) pa_nil)))
        (pa_cons (pe_ix ix_str (pe_op op_add_str (pv 5) pe_str) (pe_call G hr1 rfl D.g D.kp D.b .nil pass0 (pa_cons (pv 0) (pa_cons (pe_op op_add (pe_callB call_len_str (by rfl) Z.len PySem.boot_len (pa_cons (pv 5) pa_nil)) pe_int) pa_nil))) (fun _ _ => rfl)) pa_nil)) (by rfl))
      (pss_cons (ps_set (i := 8) scSpo.nd rfl (.inl rfl) (pe_lst (pa_cons (pe_op op_addX (pe_op op_addX (pe_slice sl_str (pv 5) po_none (po_some (pv 6))) (pv 7)) (pe_slice sl_str (pv 5) (po_some (pv 6)) po_none))
        (pa_cons (pe_op op_addX (pe_slice sl_str (pv 5) po_none (po_some (pv 6))) (pe_slice sl_str (pv 5) (po_some (pe_op op_add (pv 6) pe_int)) po_none))
        (pa_cons (pe_op op_addX (pe_slice sl_str (pv 5) (po_some pe_int) po_none) (pv 7))
        (pa_cons (pe_callTy (WbT.call_tupleS rfl) (by rfl) mT (by decide +kernel) (pa_cons (pv 5) pa_nil))
        (pa_cons (pe_call GO hr2 rfl DO.g DO.kp DO.b .nil pass0 (pa_cons (pv 0) pa_nil)) pa_nil)))))))
      (pss_one (ps_asg (pe_ix ix_list (pv 8) (pe_call G hr1 rfl D.g D.kp D.b .nil pass0 (pa_cons (pv 0) (pa_cons pe_int pa_nil))) (fun _ _ => rfl)) (pg_sub (pv 3) pe_int set_list)))))) pss_nil))
    (pss_cons (ps_join (ps_if (pt_cmpR op_eq (pv 2) pe_int (nomark _))
      (pss_cons (ps_set (i := 9) scSpo.nd rfl (.inl rfl) (pe_op (show OpR _ _ (rCatA K) from op_catA) (pv 4) (pe_callTy call_tuple_of (by rfl) mT (by decide +kernel) (pa_cons (pe_call GN hr rfl DNs.g DNs.kp DNs.b .nil pass0 (pa_cons (pv 0) (pa_cons pe_int pa_nil))) pa_nil))))
      (pss_cons (ps_set (i := 10) scSpo.nd rfl (.inl rfl) (pe_ix ix_list (pe_lst (pa_cons (pe_call GO hr2 rfl DO.g DO.kp DO.b .nil pass0 (pa_cons (pv 0) pa_nil)) (pa_cons (pe_ix ix_tup (pv 4) pe_int (fun _ _ => rfl)) (pa_cons pe_str (pa_cons pe_str (pa_cons pe_str (pa_cons pe_str (pa_cons pe_str pa_nil))))))))
        (pe_call G hr1 rfl D.g D.kp D.b .nil pass0 (pa_cons (pv 0) (pa_cons pe_int pa_nil))) (fun _ _ => rfl)))
      (pss_one (ps_asg (pe_ifExp (pt_cmpR op_eq (pe_call G hr1 rfl D.g D.kp D.b .nil pass0 (pa_cons (pv 0) (pa_cons pe_int pa_nil))) pe_int (nomark _)) (pe_slice (show SlR _ (rSlA K) from sl_tupA) (pv 9) po_none (po_some (pe_op op_add pe_int (pe_call G hr1 rfl D.g D.kp D.b .nil pass0 (pa_cons (pv 0) (pa_cons pe_int pa_nil))))))
        (pe_call GB hr2 rfl DB.g DB.kp DB.b .nil pass0 (pa_cons (pv 0) (pa_cons (pv 4) (pa_cons (pv 10) pa_nil))))) (pg_sub (pv 3) pe_int set_list))))) pss_nil))
    (pss_cons (ps_join (ps_if (pt_cmpR (show OpR _ _ (rIn K false) from op_in_seq) (pv 2) (pe_lst (pa_cons pe_int (pa_cons pe_int pa_nil))) (by rfl))
      (pss_one (ps_asg (pe_call GB hr2 rfl DB.g DB.kp DB.b .nil pass0 (pa_cons (pv 0) (pa_cons (pe_ix ix_list (pv 1) (pv 2) (fun _ _ => rfl)) (pa_cons (pe_call GL hr rfl DL.g DL.kp DL.b .nil pass0 (pa_cons (pv 0) (pa_cons (pe_ix ix_list (pv 1) (pv 2) (fun _ _ => rfl)) (pa_cons (pv 4) pa_nil)))) pa_nil)))) (pg_sub (pv 3) (pv 2) set_list))) pss_nil))
    (pss_cons (ps_join (ps_if (pt_cmpR op_eq (pv 2) pe_int (nomark _))
      (pss_cons (ps_set (i := 10) scSpo.nd rfl (.inl rfl) (pe_ix ix_list (pe_lst (pa_cons (pe_call GO hr2 rfl DO.g DO.kp DO.b .nil pass0 (pa_cons (pv 0) pa_nil)) (pa_cons (pe_ix ix_tup (pv 4) pe_int (fun _ _ => rfl)) (pa_cons (pe_ix ix_tup (pv 4) (pe_un un_neg pe_int) (fun _ _ => rfl)) pa_nil)))) (pe_call G hr1 rfl D.g D.kp D.b .nil pass0 (pa_cons (pv 0) (pa_cons pe_int pa_nil))) (fun _ _ => rfl)))
      (pss_one (ps_asg (pe_call GB hr2 rfl DB.g DB.kp DB.b .nil pass0 (pa_cons (pv 0) (pa_cons (pe_ix ix_list (pv 1) pe_int (fun _ _ => rfl)) (pa_cons (pv 10) pa_nil)))) (pg_sub (pv 3) pe_int set_list)))) pss_nil))
    (pss_one (ps_ret (pv 3)))))))), ?_⟩
  refine ⟨_, rfl, L, _, rfl, .inl (SqL.of pt.hL), fun F hF => ?_⟩
  have nF := hp.ne hF
  have s0 := Same.put (o := .lst [.str (S sg), tV, rV, uV, yV]) (Same.refl H) hF
  have hp0 := hp.same s0
  have fF : PtS p (L2.upd H F (.lst [.str (S sg), tV, rV, uV, yV])) F sg 0 := ⟨tV, rV, uV, yV, upd_same, nF, (pt.ht.txs.tup.wh hp (by decide)).same (cut_same s0), ((pt.hr.tup hp).wh hp (by decide)).same (cut_same s0), ((pt.hu.tup hp).wh hp (by decide)).same (cut_same s0), (pt.hy.tup.wh hp (by decide)).same (cut_same s0)⟩
  have b0 : But p H _ := But.of s0
  generalize L2.upd H F (.lst [.str (S sg), tV, rV, uV, yV]) = H0 at s0 hp0 fF b0 ⊢
  have sl : sg.length ≤ 2000 := by have := pt.s4; omega
  refine ⟨_, rfl, L, _, _, tV, rfl, rfl, SqL.of (s0 _ _ pt.hL), rfl, ?_⟩
  dsimp only [estSpo, List.set]
  obtain ⟨tt, st, etv, htt, st0, st6, stz⟩ := id pt.ht
  subst etv
  have ftt : ∀ {G : Hp}, But p H G → G tt = some (.tup (st.map V.str)) := fun b => b _ _ (poolT hp htt) htt
  have tt0 : ∃ z, atI (st.map V.str) 0 = some (.str z) ∧ PyData.strOk z = true ∧ z.length ≤ 10 := by
    cases st with
    | nil => exact absurd st0 (Nat.lt_irrefl 0)
    | cons z _ => exact ⟨z, atI_nat (j := 0) rfl, stz z List.mem_cons_self⟩
  have ttl : ∃ z, atI (st.map V.str) (-1) = some (.str z) ∧ PyData.strOk z = true ∧ z.length ≤ 10 := by
    obtain ⟨v, zin, hz⟩ := neg_last (xs := st.map V.str) (by rw [List.length_map]; exact st0)
    obtain ⟨z, hzz, rfl⟩ := List.mem_map.mp zin
    exact ⟨z, hz, stz z hzz⟩
  have litI : ∀ {G : Hp} {z : Str}, PyData.strOk z = true → z.length ≤ 10 → Itm p G (.str z) := fun a b => str_itm ⟨a, b⟩
  have eqj : ∀ {m : Nat}, decide (V.int (j : Nat) = V.int (m : Nat)) = true → j = m := fun q => by
    have q := of_decide_eq_true q
    injection q with q
    exact_mod_cast q
  have nej : ∀ {m : Nat}, ¬ decide (V.int (j : Nat) = V.int (m : Nat)) = true → j ≠ m := fun q e => q (decide_eq_true (by rw [e]))
  refine ⟨fun σ' H' => ∃ v5 v6 v7 v8 : Option V, σ' = [some (V.ref p), some (V.ref L), some (V.int ↑j), some (V.ref F), some (V.ref tt), v5, v6, v7, v8, none, none] ∧ ((0 < j ∧ PtS p H' F sg 0) ∨ (j = 0 ∧ PtN p H H' F)) ∧ PoolAt H' p ∧ But p H H', ?_, ?_⟩
  · refine ⟨_, rfl, rfl, _, rfl, ite2 (fun q => ?_) (fun q => ?_)⟩
    · have j0 : j = 0 := eqj (m := 0) q
      clear q
      refine ⟨_, rfl, L, _, _, .str (S sg), rfl, rfl, SqL.of (s0 _ _ pt.hL), rfl, ?_⟩
      dsimp only [List.set]
      subst j0
      have hs4 := pt.s4
      have hs0 := pt.s0
      have lsg : (S sg).length = sg.length := S_len sg
      have lsgx : (S sg).length ≤ sizeLine := by
        rw [lsg, sizeLine_eq]
        omega
      refine ⟨_, rfl, _, rfl, _, rfl, lsgx, _, _, rfl, rfl, p, _, rfl, by omega, by omega, hp0, fun d1 G1 d10 d11 po1 c1 => ?_⟩
      have hM : ("A0 z" : Str) = S [65, 48, 32, 122] := S_eq (by decide +kernel)
      refine ⟨_, rfl, _, _, rfl, rfl, by rw [hM, lsg, S_len, sizeLine_eq]; show sg.length + 4 ≤ _; omega, ?_⟩
      rw [hM, S_add]
      refine ⟨_, rfl, _, rfl, _, rfl, lsgx, _, _, rfl, rfl, p, _, rfl, by omega, by omega, po1, fun d2 G2 d20 d21 po2 c2 => ?_⟩
      obtain ⟨i2, rfl⟩ := nat_of d20
      obtain ⟨c, hc⟩ : ∃ c, (sg ++ [65, 48, 32, 122])[i2]? = some c := ⟨_, List.getElem?_eq_getElem (by rw [List.length_append]; show i2 < sg.length + 4; omega)⟩
      have hc1 : c < 1000 := by
        rcases List.mem_append.mp (List.mem_of_getElem? hc) with q | q
        · exact pt.lo c q
        · simp only [List.mem_cons, List.not_mem_nil, or_false] at q
          omega
      refine ⟨_, _, c, rfl, rfl, by rw [S_len, List.length_append, sizeLine_eq]; show sg.length + 4 ≤ _; omega, by rw [S_cps]; exact atI_nat hc, _, _, rfl, ?_⟩
      dsimp only [List.set]
      have X : TxM 4 (.str (S sg)) := ⟨sg, rfl, hs4, pt.lo⟩
      have M : TxM 1 (.str ⟨#[c]⟩) := ⟨[c], rfl, Nat.le_refl _, fun d hd => by rw [List.mem_singleton.mp hd]; exact hc1⟩
      refine ⟨_, rfl, _, rfl, _, rfl, slX X (by decide) fun r1 x1 => ⟨_, rfl, catX x1 M (by decide) fun r2 x2 => ⟨_, rfl, _, rfl, _, rfl, ?_⟩⟩⟩
      dsimp only [tNoPart]
      refine slX X (by decide) fun r3 x3 => catX x2 x3 (by decide) fun w1 y1 => ?_
      refine ⟨_, rfl, _, rfl, _, rfl, slX X (by decide) fun r4 x4 => ⟨_, rfl, _, rfl, _, _, rfl, rfl, _, rfl, ?_⟩⟩
      dsimp only [tNoPart]
      refine slX X (by decide) fun r5 x5 => catX x4 x5 (by decide) fun w2 y2 => ?_
      refine ⟨_, rfl, _, rfl, ?_⟩
      dsimp only [tNoPart]
      refine slX X (by decide) fun r6 x6 => ⟨_, rfl, catX x6 M (by decide) fun w3 y3 => ?_⟩
      refine ⟨_, rfl, S sg, rfl, lsgx, fun t4 ht4 => ?_⟩
      rw [S_cps]
      have s3 := Same.put (o := .tup (sg.map fun c => V.str ⟨#[c]⟩)) (Same.refl G2) ht4
      have e3 : (L2.upd G2 t4 (.tup (sg.map fun c => V.str ⟨#[c]⟩))) t4 = some (.tup (sg.map fun c => V.str ⟨#[c]⟩)) := upd_same
      have n4 := po2.ne ht4
      have nf4 : t4 ≠ F := fun z => by
        obtain ⟨_, _, _, _, h, _⟩ := (fF.but c1).but c2
        rw [← z, ht4] at h
        cases h
      have z4 := ((b0.trans c1).trans c2).free ht4 n4
      have po3 := po2.same s3
      have c3 := ((b0.trans c1).trans c2).trans (But.of s3)
      have f3 := ((fF.but c1).but c2).but (But.of s3)
      generalize L2.upd G2 t4 (.tup (sg.map fun c => V.str ⟨#[c]⟩)) = G3 at s3 e3 po3 c3 f3 ⊢
      refine ⟨_, rfl, p, rfl, po3, fun x G4 hx po4 c4 => ⟨by show 5 ≤ sizeLine; decide, fun L1 hL1 => ?_⟩⟩
      have n1 := po4.ne hL1
      have s5 := Same.put (o := .lst [w1, w2, w3, .ref t4, x]) (Same.refl G4) hL1
      have e5 : (L2.upd G4 L1 (.lst [w1, w2, w3, .ref t4, x])) L1 = some (.lst [w1, w2, w3, .ref t4, x]) := upd_same
      have po5 := po4.same s5
      have hx5 := hx.same s5
      have c5 := (c3.trans c4).trans (But.of s5)
      have f5 := (f3.but c4).but (But.of s5)
      have e45 := s5 _ _ (c4 _ _ n4 e3)
      generalize L2.upd G4 L1 (.lst [w1, w2, w3, .ref t4, x]) = G5 at s5 e5 po5 hx5 c5 f5 e45 ⊢
      refine ⟨_, rfl, _, rfl, p, _, rfl, by decide, by decide, po5, fun d G6 d0 d1 po6 c6 => ?_⟩
      obtain ⟨i, rfl⟩ := nat_of d0
      have e6 := c6 _ _ n1 e5
      have e46 := c6 _ _ n4 e45
      obtain ⟨y, hy, iy⟩ : ∃ y, ([w1, w2, w3, .ref t4, x] : List V)[i]? = some y ∧ ∀ ys, ∃ d, Any p (New H (L2.upd G6 F (.lst ys))) y d := by
        rcases (by omega : i = 0 ∨ i = 1 ∨ i = 2 ∨ i = 3 ∨ i = 4) with rfl | rfl | rfl | rfl | rfl
        · exact ⟨_, rfl, fun ys => y1.val (by decide)⟩
        · exact ⟨_, rfl, fun ys => y2.val (by decide)⟩
        · exact ⟨_, rfl, fun ys => y3.val (by decide)⟩
        · exact ⟨_, rfl, fun ys => ones_any n4 ((New.at z4).trans ((upd_ne nf4).trans e46)) (by omega) pt.lo⟩
        · refine ⟨_, rfl, fun ys => ⟨_, (hx5.but c6).1.choose_spec.same fun a o h => ?_⟩⟩
          obtain ⟨h1, h2⟩ := New.inv h
          have nap : a ≠ p := fun z => by
            obtain ⟨_, _, _, e, _⟩ := po3
            rw [← z, h1] at e
            cases e
          have naf : a ≠ F := fun z => by
            obtain ⟨_, _, _, _, e, _⟩ := f3
            rw [← z, h1] at e
            cases e
          rw [New.at (c3.free h1 nap), upd_ne naf]
          exact h2
      refine ⟨L1, _, _, y, rfl, rfl, SqL.of e6, atI_nat hy, ?_⟩
      refine ⟨_, rfl, (f5.but c6).set0 iy fun G7 f7 ⟨ys, e7⟩ => ?_⟩
      subst e7
      exact ⟨_, _, _, _, rfl, .inr ⟨rfl, f7⟩, po6.put nF, (c5.trans c6).new hF⟩
    · exact ⟨_, _, _, _, rfl, .inl ⟨Nat.pos_of_ne_zero (nej (m := 0) q), fF⟩, hp0, b0⟩
  rintro σ H1 ⟨v5, v6, v7, v8, rfl, F1, hp1, b1⟩
  clear fF hp0 b0 s0
  refine ⟨fun σ' H' => ∃ v9 v10 : Option V, σ' = [some (V.ref p), some (V.ref L), some (V.int ↑j), some (V.ref F), some (V.ref tt), v5, v6, v7, v8, v9, v10] ∧ ((0 < j ∧ PtS p H' F sg 0) ∨ (j = 0 ∧ PtN p H H' F)) ∧ PoolAt H' p ∧ But p H H', ?_, ?_⟩
  · refine ⟨_, rfl, rfl, _, rfl, ite2 (fun q => ?_) (fun q => ?_)⟩
    · have j1 : j = 1 := eqj (m := 1) q
      clear q
      subst j1
      obtain ⟨_, F1⟩ | ⟨z, _⟩ := F1
      · obtain ⟨z0, hz0, oz0⟩ := tt0
        have pt1 := pt.but hp b1
        refine ⟨_, rfl, _, rfl, p, 7, rfl, by decide, hp1, fun an st7 G1 nms len han _ po1 c1 => ⟨an, _, rfl, .inl ⟨SqL.of han, fun t7 ht7 => ?_⟩⟩⟩
        have s2 := Same.put (o := .tup (st7.map V.str)) (Same.refl G1) ht7
        have h7 : (L2.upd G1 t7 (.tup (st7.map V.str))) t7 = some (.tup (st7.map V.str)) := upd_same
        have po2 := po1.same s2
        have c2 := (b1.trans c1).trans (But.of s2)
        have f2 := (F1.but c1).but (But.of s2)
        generalize L2.upd G1 t7 (.tup (st7.map V.str)) = G2 at s2 h7 po2 c2 f2 ⊢
        have pt2 := pt.but hp c2
        have T7 : Tup p G2 7 (.ref t7) := ⟨t7, _, rfl, h7, by rw [List.length_map]; omega, fun y hy => by
          obtain ⟨z, hz, rfl⟩ := List.mem_map.mp hy
          obtain ⟨l, rfl, nm⟩ := nms z hz
          refine str_itm ⟨ok_codes fun c hc => ?_, by rw [S_len]; have := nm.few; omega⟩
          rcases nm.ok c hc with h | h <;> omega⟩
        refine catW monoI pt2.ht.txs.tup T7 (by decide) fun mo G3 s3 T3 => ?_
        dsimp only [List.set]
        have po3 := po2.same s3
        have c3 := c2.trans (But.of s3)
        have f3 := f2.but (But.of s3)
        refine ⟨_, rfl, p, rfl, po3, fun x G4 hx po4 c4 => ?_⟩
        refine ⟨_, rfl, tt, _, _, _, rfl, rfl, SqT.of (ftt (c3.trans c4)), hz0, by show 7 ≤ sizeLine; decide, fun L1 hL1 => ?_⟩
        have n1 := po4.ne hL1
        have s5 := Same.put (o := .lst [x, .str z0, .str "Ab", .str "9a", .str "a b", .str "abcdefghi", .str "abcdefgh"]) (Same.refl G4) hL1
        have e5 : (L2.upd G4 L1 (.lst [x, .str z0, .str "Ab", .str "9a", .str "a b", .str "abcdefghi", .str "abcdefgh"])) L1 = some (.lst [x, .str z0, .str "Ab", .str "9a", .str "a b", .str "abcdefghi", .str "abcdefgh"]) := upd_same
        have po5 := po4.same s5
        have hx5 := hx.same s5
        have c5 := (c3.trans c4).trans (But.of s5)
        have f5 := (f3.but c4).but (But.of s5)
        have T5 := (Tup.but po3 T3 c4).same monoI s5
        generalize L2.upd G4 L1 (.lst [x, .str z0, .str "Ab", .str "9a", .str "a b", .str "abcdefghi", .str "abcdefgh"]) = G5 at s5 e5 po5 hx5 c5 f5 T5 ⊢
        refine ⟨_, rfl, p, _, rfl, by decide, by decide, po5, fun d G6 d0 d1 po6 c6 => ?_⟩
        obtain ⟨i, rfl⟩ := nat_of d0
        have e6 := c6 _ _ n1 e5
        obtain ⟨y, hy, iy⟩ : ∃ y, ([x, .str z0, .str "Ab", .str "9a", .str "a b", .str "abcdefghi", .str "abcdefgh"] : List V)[i]? = some y ∧ Itm p G6 y := by
          rcases (by omega : i = 0 ∨ i = 1 ∨ i = 2 ∨ i = 3 ∨ i = 4 ∨ i = 5 ∨ i = 6) with rfl | rfl | rfl | rfl | rfl | rfl | rfl
          · exact ⟨_, rfl, (hx5.but c6).itm⟩
          · exact ⟨_, rfl, str_itm oz0⟩
          all_goals exact ⟨_, rfl, litI (by decide +kernel) (by decide +kernel)⟩
        refine ⟨L1, _, _, y, rfl, rfl, SqL.of e6, atI_nat hy, ?_⟩
        dsimp only [List.set]
        have T6 := Tup.but po5 T5 c6
        have c06 := c5.trans c6
        have f6 := f5.but c6
        have pt6 := pt.but hp c06
        refine ⟨_, rfl, p, _, rfl, by decide, by decide, po6, fun d7 G7 d70 d71 po7 c7 => ⟨rfl, _, rfl, ite2 (fun q => ?_) (fun q => ?_)⟩⟩
        · refine ⟨_, rfl, ?_⟩
          dsimp only [tNoPart]
          refine ⟨_, rfl, p, _, rfl, by decide, by decide, po7, fun d8 G8 d80 d81 po8 c8 => ⟨_, _, rfl, rfl, _, rfl, slW monoI (Tup.but po7 (Tup.but po6 T6 c7) c8) fun r G9 s9 t9 => ?_⟩⟩
          have po9 := po8.same s9
          refine ⟨_, rfl, (((f6.but c7).but c8).but (But.of s9)).set (j := 1) (by decide) (by decide) (Tup.wh po9 t9 (by decide)) fun Ga fa ⟨ys, ea⟩ => ?_⟩
          subst ea
          exact ⟨_, _, rfl, .inl ⟨by decide, fa⟩, po9.put nF, (((c06.trans c7).trans c8).trans (But.of s9)).new hF⟩
        · refine ⟨_, rfl, _, rfl, _, rfl, p, _, y, rfl, po7, (Tup.but po6 pt6.ht.txs.tup c7).mono (by decide), iy.but c7, fun r G8 wr po8 c8 => ?_⟩
          refine ⟨_, rfl, ((f6.but c7).but c8).set (j := 1) (by decide) (by decide) wr fun Ga fa ⟨ys, ea⟩ => ?_⟩
          subst ea
          exact ⟨_, _, rfl, .inl ⟨by decide, fa⟩, po8.put nF, ((c06.trans c7).trans c8).new hF⟩
      · exact absurd z (by decide)
    · exact ⟨_, _, rfl, F1, hp1, b1⟩
  rintro σ H2 ⟨v9, v10, rfl, F2, hp2, b2⟩
  clear F1 hp1 b1 H1
  refine ⟨fun σ' H' => σ' = [some (V.ref p), some (V.ref L), some (V.int ↑j), some (V.ref F), some (V.ref tt), v5, v6, v7, v8, v9, v10] ∧ ((0 < j ∧ PtS p H' F sg 0) ∨ (j = 0 ∧ PtN p H H' F)) ∧ PoolAt H' p ∧ But p H H', ?_, ?_⟩
  · refine ⟨_, rfl, by show 2 ≤ sizeLine; decide, fun e he => ⟨e, _, rfl, .inl (SqL.of upd_same), rfl, rfl, _, rfl, ?_⟩⟩
    have s3 := Same.put (o := .lst [.int 2, .int 3]) (Same.refl H2) he
    have po3 := hp2.same s3
    have c3 := b2.trans (But.of s3)
    have f3 : (0 < j ∧ PtS p (L2.upd H2 e (.lst [.int 2, .int 3])) F sg 0) ∨ (j = 0 ∧ PtN p H (L2.upd H2 e (.lst [.int 2, .int 3])) F) := F2.imp (fun h => ⟨h.1, h.2.but (But.of s3)⟩) (fun h => ⟨h.1, h.2.but (But.of s3)⟩)
    generalize L2.upd H2 e (.lst [.int 2, .int 3]) = G3 at s3 po3 c3 f3 ⊢
    have no : ∀ {b : Bool}, b = false → ∀ {A B : Prop}, B → (if b = true then A else B) := fun e _ _ h => by rw [e]; exact h
    have yes : ∀ {b : Bool}, b = true → ∀ {A B : Prop}, A → (if b = true then A else B) := fun e _ _ h => by rw [e]; exact h
    by_cases hj : j = 2 ∨ j = 3
    · refine yes (by rcases hj with rfl | rfl <;> rfl) ?_
      have pt3 := pt.but hp c3
      obtain ⟨_, f3⟩ | ⟨z, _⟩ := f3
      · obtain ⟨xV, hx, rx⟩ : ∃ xV, atI [V.str (S sg), V.ref tt, rV, uV, yV] (j : Int) = some xV ∧ RowsP G3 xV := by
          rcases hj with rfl | rfl
          · exact ⟨rV, rfl, pt3.hr⟩
          · exact ⟨uV, rfl, pt3.hu⟩
        refine ⟨_, rfl, _, rfl, _, rfl, L, _, _, xV, rfl, rfl, SqL.of pt3.hL, hx, _, rfl, _, rfl, _, rfl, L, _, _, xV, rfl, rfl, SqL.of pt3.hL, hx, _, rfl, p, xV, _, rfl, po3, rx, pt3.ht, fun y G4 iy po4 c4 => ?_⟩
        refine ⟨p, xV, y, rfl, po4, ((rx.but po3 c4).tup po4).mono (by decide), iy, fun r G5 wr po5 c5 => ?_⟩
        refine ⟨_, rfl, _, rfl, ((f3.but c4).but c5).set (j := j) (by omega) j5 wr fun G6 f6 ⟨ys, e6⟩ => ?_⟩
        subst e6
        exact ⟨rfl, .inl ⟨by omega, f6⟩, po5.put nF, ((c3.trans c4).trans c5).new hF⟩
      · omega
    · refine no (by rcases (by omega : j = 0 ∨ j = 1 ∨ j = 4) with rfl | rfl | rfl <;> rfl) ?_
      exact ⟨rfl, f3, po3, c3⟩
  rintro σ H3 ⟨rfl, F3, hp3, b3⟩
  clear F2 hp2 b2 H2
  refine ⟨fun σ' H' => ∃ v10 : Option V, σ' = [some (V.ref p), some (V.ref L), some (V.int ↑j), some (V.ref F), some (V.ref tt), v5, v6, v7, v8, v9, v10] ∧ ((0 < j ∧ PtS p H' F sg 0) ∨ (j = 0 ∧ PtN p H H' F)) ∧ PoolAt H' p ∧ But p H H', ?_, ?_⟩
  · refine ⟨_, rfl, rfl, _, rfl, ite2 (fun q => ?_) (fun q => ?_)⟩
    · have j4 : j = 4 := eqj (m := 4) q
      clear q
      subst j4
      obtain ⟨_, F3⟩ | ⟨z, _⟩ := F3
      · obtain ⟨z0, hz0, oz0⟩ := tt0
        obtain ⟨zl, hzl, ozl⟩ := ttl
        refine ⟨_, rfl, p, rfl, hp3, fun x G1 hx po1 c1 => ?_⟩
        have t1 := ftt (b3.trans c1)
        refine ⟨_, rfl, tt, _, _, _, rfl, rfl, SqT.of t1, hz0, _, rfl, _, rfl, tt, _, _, _, rfl, rfl, SqT.of t1, hzl, by show 3 ≤ sizeLine; decide, fun L1 hL1 => ?_⟩
        have n1 := po1.ne hL1
        have s2 := Same.put (o := .lst [x, .str z0, .str zl]) (Same.refl G1) hL1
        have e2 : (L2.upd G1 L1 (.lst [x, .str z0, .str zl])) L1 = some (.lst [x, .str z0, .str zl]) := upd_same
        have po2 := po1.same s2
        have hx2 := hx.same s2
        have c2 := (b3.trans c1).trans (But.of s2)
        have f2 := (F3.but c1).but (But.of s2)
        generalize L2.upd G1 L1 (.lst [x, .str z0, .str zl]) = G2 at s2 e2 po2 hx2 c2 f2 ⊢
        refine ⟨_, rfl, p, _, rfl, by decide, by decide, po2, fun d G3 d0 d1 po3 c3 => ?_⟩
        obtain ⟨i, rfl⟩ := nat_of d0
        have e3 := c3 _ _ n1 e2
        obtain ⟨y, hy, iy⟩ : ∃ y, ([x, .str z0, .str zl] : List V)[i]? = some y ∧ Itm p G3 y := by
          rcases (by omega : i = 0 ∨ i = 1 ∨ i = 2) with rfl | rfl | rfl
          · exact ⟨_, rfl, (hx2.but c3).itm⟩
          · exact ⟨_, rfl, str_itm oz0⟩
          · exact ⟨_, rfl, str_itm ozl⟩
        refine ⟨L1, _, _, y, rfl, rfl, SqL.of e3, atI_nat hy, ?_⟩
        dsimp only [List.set]
        have c13 := c2.trans c3
        have pt3 := pt.but hp c13
        refine ⟨_, rfl, _, rfl, L, _, _, yV, rfl, rfl, SqL.of pt3.hL, rfl, _, rfl, p, yV, y, rfl, po3, pt3.hy.tup.mono (by decide), iy, fun r G4 wr po4 c4 => ?_⟩
        refine ⟨_, rfl, ((f2.but c3).but c4).set (j := 4) (by decide) (by decide) wr fun G5 f5 ⟨ys, e5⟩ => ?_⟩
        subst e5
        exact ⟨_, rfl, .inl ⟨by decide, f5⟩, po4.put nF, (c13.trans c4).new hF⟩
      · exact absurd z (by decide)
    · exact ⟨_, rfl, F3, hp3, b3⟩
  rintro σ H4 ⟨v10', rfl, F4, hp4, b4⟩
  refine ⟨_, rfl, k F H4 ?_ hF hp4 b4⟩
  rcases F4 with ⟨_, h⟩ | ⟨_, h⟩
  · exact h.ptN sl pt.lo
  · exact h
end
end Lj
/-! things of any kind shuffled: a text, a tuple, a list -/
namespace WbT
open PySem PySem.Spec PyProof.Rows L2
section
variable {X : Cx}
theorem vals_signs : ∀ (l : List Nat) (us : List Value), us.length = l.length → (∀ (j : Nat) (v : Value), us[j]? = some v → ∃ c t, l[j]? = some c ∧ v = Value.str ⟨#[c]⟩ t) → Vals (l.map fun c => V.str ⟨#[c]⟩) us
  | [], [], _, _ => .nil
  | [], _ :: _, h, _ => by cases h
  | _ :: _, [], h, _ => by cases h
  | c :: l, u :: us, h, k => by
    obtain ⟨c', t, e1, e2⟩ := k 0 u rfl
    cases e1
    exact .cons ⟨t, e2⟩ (vals_signs l us (Nat.succ.inj h) fun j v q => k (j + 1) v q)
/-- list(z) of a text -/
theorem call_listS (hc : X.calm = true) : CallR X (.type "list") (fun xs H Q => ∃ z : Str, xs = [.str z] ∧ z.length ≤ sizeLine ∧ ∀ p, H p = none → Q (.ref p) (upd H p (.lst (z.cps.toList.map fun c => V.str ⟨#[c]⟩)))) := by
  intro pins s σ H xs us Q I r h
  obtain ⟨z, rfl, fits, q⟩ := h
  obtain ⟨u, rfl, t, rfl⟩ := vals1 r
  refine call_list_str (hn := fits) (I.ok.hd hc) z t fun h' tk acc c kept new items => ?_
  have rel : Vals (z.cps.toList.map fun c => V.str ⟨#[c]⟩) acc.toList := vals_signs _ _ (by rw [Array.length_toList, Array.length_toList]; exact items.1) fun j v e => by
    obtain ⟨c, u, e1, e2⟩ := items.2 j v (by rw [← Array.getElem?_toList]; exact e)
    exact ⟨c, u, by rw [Array.getElem?_toList]; exact e1, e2⟩
  have fits' : (z.cps.toList.map fun c => V.str ⟨#[c]⟩).length ≤ sizeLine := by rw [List.length_map, Array.length_toList]; exact fits
  exact ⟨.ref s.heap.objs.size, _, I.laid (t' := tk) kept (Nat.le_refl _) (show ObjOk X.prog X.w _ h' _ (.lst _) from ⟨fits', acc.toList, c, rel, new⟩), rfl, q _ (I.hok.fresh (Nat.le_refl _))⟩
end
end WbT
namespace Wb
open PySem L2 WbMin WbS Lz WbO WbT
abbrev sShuf : Stmt := top 56
theorem seq_nat {i n : Nat} (h : i < n) : seqIndex? (i : Int) n = some i := by
  unfold seqIndex?
  have h0 : ¬ ((i : Int) < 0) := by omega
  have h1 : ((i : Int) < (n : Int)) := by omega
  simp [h0, h1]
theorem perm_erase {α : Type} : ∀ {l : List α} {i : Nat} {x : α}, l[i]? = some x → (x :: l.eraseIdx i).Perm l
  | [], _, _, h => by cases h
  | y :: l, 0, x, h => by cases h; exact .refl _
  | y :: l, i + 1, x, h => by
    have ih := perm_erase (l := l) (i := i) h
    show (x :: y :: l.eraseIdx i).Perm (y :: l)
    exact (List.Perm.swap y x _).trans (ih.cons y)
/-- what stands at a text, a tuple, a list -/
inductive Its (H : Hp) : V → List V → Prop
  | str (l : List Nat) : Its H (.str (S l)) (l.map vOne)
  | tup {a : Addr} {xs : List V} (h : H a = some (.tup xs)) : Its H (.ref a) xs
  | lst {a : Addr} {xs : List V} (h : H a = some (.lst xs)) (n : ∀ x y z : Int, xs ≠ [.int x, .int y, .int z]) : Its H (.ref a) xs
theorem Its.but {H H' : Hp} {p : Addr} (hp : PoolAt H p) (b : But p H H') {v : V} {xs : List V} (h : Its H v xs) : Its H' v xs := by
  cases h with
  | str l => exact .str l
  | tup h => exact .tup (b _ _ (pool_other hp h fun _ _ _ q => by cases q) h)
  | lst h n => exact .lst (b _ _ (pool_other hp h fun x y z q => n x y z (by injection q)) h) n
def spShufA : Sp := fun vs H Q _ => ∃ (p : Addr) (v : V) (xs : List V), vs = [.ref p, v] ∧ Its H v xs ∧ xs.length ≤ 600 ∧ PoolAt H p ∧ ∀ (a : Addr) (ys : List V) (H' : Hp), H' a = some (.lst ys) → a ≠ p → ys.Perm xs → PoolAt H' p → But p H H' → Q (.ref a) H'
section
variable {P : Program} {w : World} {K : PySem.W.Frag} {mg : Str → Option Value} {base : Heap} {f fD : Addr} {fd fdD : FuncData}
theorem scSh : FnScope ["_law_pool_here", "_law_things", "_law_rest", "_law_found", "_law_turn"] ["_law_pool_here", "_law_things"] (defScope sShuf) := ⟨rfl, rfl, rfl, by decide +kernel, rfl, by decide +kernel, by decide +kernel⟩
/-- list(x), len(x) of such a thing -/
@[irreducible] def rLst (K : PySem.W.Frag) : List V → Hp → VK → Prop := fun xs H Q => (∃ p ys, xs = [.ref p] ∧ (SqL K H p ys ∨ SqT K H p ys) ∧ ∀ l, H l = none → Q (.ref l) (upd H l (.lst ys))) ∨ (∃ z : Str, xs = [.str z] ∧ z.length ≤ sizeLine ∧ ∀ p, H p = none → Q (.ref p) (upd H p (.lst (z.cps.toList.map fun c => V.str ⟨#[c]⟩))))
@[irreducible] def rLen (K : PySem.W.Frag) : List V → Hp → VK → Prop := fun xs H Q => (∃ p ys, xs = [.ref p] ∧ (SqL K H p ys ∨ SqT K H p ys) ∧ Q (.int ys.length) H) ∨ (∃ z, xs = [.str z] ∧ z.length ≤ sizeLine ∧ Q (.int z.length) H)
theorem its_lst {H : Hp} {v : V} {xs : List V} {Q : VK} (h : Its H v xs) (few : xs.length ≤ 600) (k : ∀ l, H l = none → Q (.ref l) (L2.upd H l (.lst xs))) : rLst K [v] H Q := by
  unfold rLst
  cases h with
  | str l =>
    refine .inr ⟨_, rfl, ?_, fun p hp => ?_⟩
    · rw [S_len, sizeLine_eq]
      rw [List.length_map] at few
      omega
    · rw [S_cps]
      exact k p hp
  | tup h => exact .inl ⟨_, _, rfl, .inr (SqT.of h), k⟩
  | lst h n => exact .inl ⟨_, _, rfl, .inl (SqL.of h), k⟩
theorem its_len {H : Hp} {v : V} {xs : List V} {Q : VK} (h : Its H v xs) (few : xs.length ≤ 600) (k : Q (.int xs.length) H) : rLen K [v] H Q := by
  unfold rLen
  cases h with
  | str l =>
    rw [List.length_map] at few k
    refine .inr ⟨_, rfl, ?_, ?_⟩
    · rw [S_len, sizeLine_eq]
      omega
    · rw [S_len]
      exact k
  | tup h => exact .inl ⟨_, _, rfl, .inr (SqT.of h), k⟩
  | lst h n => exact .inl ⟨_, _, rfl, .inl (SqL.of h), k⟩
theorem cr_lst {X : Cx} (hc : X.calm = true) : CallR X (.type "list") (rLst X.K) := by
  unfold rLst
  exact CallR.or call_list_of (call_listS hc)
theorem cr_len {X : Cx} : CallR X (.builtin "len") (rLen X.K) := by
  unfold rLen
  exact CallR.or call_len_seq call_len_str
set_option maxHeartbeats 0 in
theorem ok_shufA (F : Fun K "_law_shuffled" "_law_shuffled" sShuf f fd) (D : Def K mg "_law_draw" sDraw ["_law_pool_here", "_law_many"] fD fdD) (Z : Free mg) (mL : mg "list" = none) : FnOk P w K mg base CX0 2 f fd ["_law_pool_here", "_law_things"] spShufA := by
  have G : FnOk P w K mg base CX0 1 fD fdD ["_law_pool_here", "_law_many"] spDraw := ok_draw D.F Z.int Z.divmod
  refine F.ok scSh (fun vs H Q E h => ?_) (fun cdv A outer s H vs Q E hr h => ?_)
  · obtain ⟨p, v, xs, rfl, _⟩ := h
    rfl
  · obtain ⟨p, v, xs, rfl, hL, z1, hp, k⟩ := h
    refine ⟨_, pss_cons (ps_par (i := 2) (j := 3) (by rfl) scSh.nd rfl rfl (by decide) rfl rfl (pa_cons (pe_callTy (show CallR _ _ (rLst K) from cr_lst rfl) (by rfl) mL (by decide +kernel) (pa_cons (pv 1) pa_nil)) (pa_cons (pe_lst pa_nil) pa_nil)) (by rfl))
      (pss_cons (ps_for PassesOwn.never rfl (pi_range1 rfl Z.range (pa_cons (pe_callB (show CallR _ _ (rLen K) from cr_len) (by rfl) Z.len PySem.boot_len (pa_cons (pv 1) pa_nil)) pa_nil)) (pg_name (i := 4) scSh.nd rfl (.inl rfl))
        (pss_one (ps_expr (pe_bm PySem.F.plainAttrs_list PySem.F.slot_list_append PySem.F.type_list_append mt_append (pv 3) (pa_cons
          (pe_bm PySem.F.plainAttrs_list PySem.F.slot_list_pop PySem.F.type_list_pop mt_popAt (pv 2) (pa_cons (pe_call G hr rfl D.g D.kp D.b .nil pass0 (pa_cons (pv 0) (pa_cons (pe_callB call_len_seq (by rfl) Z.len PySem.boot_len (pa_cons (pv 2) pa_nil)) pa_nil))) pa_nil)) pa_nil)))))
      (pss_one (ps_ret (pv 3)))), ?_⟩
    refine ⟨_, rfl, its_lst hL z1 fun R hR => ?_⟩
    refine ⟨(by show 0 ≤ sizeLine; decide), fun F0 hF => ⟨_, _, rfl, ?_⟩⟩
    have nR := hp.ne hR
    have hF1 := hF
    have nFR : F0 ≠ R := fun z => by
      rw [z, upd_same] at hF
      cases hF
    rw [upd_ne nFR] at hF1
    have nF := hp.ne hF1
    have b0 : But p H (L2.upd (L2.upd H R (.lst xs)) F0 (.lst [])) := ((But.refl p H).upd (o := .lst xs) hR).upd (o := .lst []) hF
    refine ⟨_, rfl, its_len (hL.but hp b0) z1 ?_⟩
    refine ⟨_, rfl, by omega, by omega, for_it walk_range
      (fun i σ H' => ∃ (rest found : List V) (v4 : Option V), σ = [some (.ref p), some v, some (.ref R), some (.ref F0), v4] ∧ H' R = some (.lst rest) ∧ H' F0 = some (.lst found) ∧ (found ++ rest).Perm xs ∧ rest.length + i = xs.length ∧ found.length = i ∧ PoolAt H' p ∧ But p H H')
      ⟨xs, [], none, rfl, ?_, upd_same, .refl _, rfl, rfl, (hp.put nR).put nF, b0⟩ (fun _ _ _ _ _ => trivial) ?_ ?_⟩
    · rw [upd_ne nFR.symm, upd_same]
    · rintro i x σ H2 H2' hi ⟨rest, found, v4, rfl, h1, h2, pm, r1, r2, hp2, b2⟩ ⟨rfl, rfl⟩
      refine ⟨_, rfl, .inl ⟨rfl, _, SqL.of h2⟩, _, rfl, .inl ⟨rfl, _, SqL.of h1⟩, _, rfl, _, rfl, R, _, rfl, .inl (SqL.of h1), p, _, rfl, ?_, ?_, hp2, fun e H3 e0 e1 hp3 b3 => ?_⟩
      · omega
      · omega
      · obtain ⟨j, rfl⟩ := nat_of e0
        have hj : j < rest.length := by omega
        have g1 := b3 R _ nR h1
        have g2 := b3 F0 _ nF h2
        obtain ⟨z, hz⟩ : ∃ z, rest[j]? = some z := ⟨_, List.getElem?_eq_getElem hj⟩
        refine ⟨R, _, _, j, z, rfl, rfl, g1, by omega, by omega, seq_nat hj, hz, F0, _, _, rfl, rfl, (upd_ne nFR).trans g2, ?_, ?_⟩
        · rw [sizeLine_eq]; omega
        · refine ⟨rest.eraseIdx j, found ++ [z], _, rfl, ?_, upd_same, ?_, ?_, ?_, (hp3.put nR).put nF, ?_⟩
          · rw [upd_ne nFR.symm, upd_same]
          · rw [List.append_assoc]
            exact ((perm_erase hz).append_left found).trans pm
          · rw [List.length_eraseIdx, if_pos hj]; omega
          · rw [List.length_append, r2] <;> rfl
          · exact ((b2.trans b3).new hR).new hF1
    · rintro σ H2 ⟨rest, found, v4, rfl, h1, h2, pm, r1, r2, hp2, b2⟩
      have e0 : rest = [] := List.eq_nil_of_length_eq_zero (by omega)
      subst e0
      rw [List.append_nil] at pm
      exact ⟨_, rfl, k F0 found H2 h2 nF pm hp2 b2⟩
end
end Wb
/-! the parts of a loop told in any order: _law_parts -/
namespace Wb
open PySem L2 WbMin WbS Lz WbO WbT
abbrev sParts : Stmt := top 76
theorem perm_map {α β : Type} (f : α → β) : ∀ {xs ys : List β}, xs.Perm ys → ∀ l : List α, xs = l.map f → ∃ l', l.Perm l' ∧ ys = l'.map f
  | _, _, .nil, l, e => ⟨l, .refl _, e⟩
  | _, _, .cons x p, l, e => by
    cases l with
    | nil => cases e
    | cons a l =>
      injection e with e1 e2
      obtain ⟨l', q, e'⟩ := perm_map f p l e2
      exact ⟨a :: l', q.cons a, by rw [e', e1] <;> rfl⟩
  | _, _, .swap x y r, l, e => by
    cases l with
    | nil => cases e
    | cons a l =>
      injection e with e1 e2
      cases l with
      | nil => cases e2
      | cons b l =>
        injection e2 with e2 e3
        exact ⟨b :: a :: l, .swap _ _ _, by rw [e1, e2, e3] <;> rfl⟩
  | _, _, .trans p q, l, e => by
    obtain ⟨l1, p1, e1⟩ := perm_map f p l e
    obtain ⟨l2, p2, e2⟩ := perm_map f q l1 e1
    exact ⟨l2, p1.trans p2, e2⟩
theorem tups_perm {H : Hp} : ∀ {as bs : List Addr}, as.Perm bs → ∀ {xs : List (List V)}, Tups H as xs → ∃ ys, xs.Perm ys ∧ Tups H bs ys
  | _, _, .nil, xs, h => ⟨xs, .refl _, h⟩
  | _, _, .cons a p, xs, h => by
    cases xs with
    | nil => exact h.elim
    | cons x xs =>
      obtain ⟨ys, q, h'⟩ := tups_perm p h.2
      exact ⟨x :: ys, q.cons x, h.1, h'⟩
  | _, _, .swap a b r, xs, h => by
    cases xs with
    | nil => exact h.elim
    | cons x xs =>
      cases xs with
      | nil => exact h.2.elim
      | cons y xs => exact ⟨y :: x :: xs, .swap _ _ _, h.2.1, h.1, h.2.2⟩
  | _, _, .trans p q, xs, h => by
    obtain ⟨ys, p1, h1⟩ := tups_perm p h
    obtain ⟨zs, p2, h2⟩ := tups_perm q h1
    exact ⟨zs, p1.trans p2, h2⟩
/-- references shuffled, with what stands there -/
theorem refs_perm {α : Type} {g : α → List V} {H : Hp} {as : List Addr} {l : List α} (h : Tups H as (l.map g)) {ys : List V} (p : ys.Perm (as.map V.ref)) : ∃ (bs : List Addr) (m : List α), ys = bs.map V.ref ∧ m.Perm l ∧ Tups H bs (m.map g) := by
  obtain ⟨bs, p1, e1⟩ := perm_map V.ref p.symm as rfl
  obtain ⟨zs, p2, h2⟩ := tups_perm p1 h
  obtain ⟨m, p3, e3⟩ := perm_map g p2 l rfl
  exact ⟨bs, m, e1, p3.symm, e3 ▸ h2⟩
/-- turns of which some that stay are left out -/
structure Some6 (L : LD) (k : Nat) (tn : List Trn) : Prop where
  sub : tn.Sublist (L.turns.take k)
  all : ∀ ρ ∈ L.turns.take k, ρ ∈ tn ∨ (ρ.b = ρ.a ∧ ρ.m = 0)
theorem turnOf_mem {tn : List Trn} (nd : (tn.map Trn.a).Nodup) {ρ : Trn} (h : ρ ∈ tn) : turnOf tn ρ.a = ρ := by
  obtain ⟨i, hi, e⟩ := List.getElem_of_mem h
  exact turnOf_at nd (i := i) (by rw [List.getElem?_eq_getElem hi, e])
theorem turnOf_not {tn : List Trn} {z : Str} (h : ∀ ρ ∈ tn, ρ.a ≠ z) : turnOf tn z = ⟨z, z, 0⟩ := by
  unfold turnOf
  rw [List.find?_eq_none.mpr fun ρ hρ q => h ρ hρ (of_decide_eq_true q)] <;> rfl
theorem Some6.told {L : LD} (O : L.Ok) {tn tn' : List Trn} (h : Some6 L L.n tn) (p : tn'.Perm tn) : (tn'.map Trn.a).Nodup ∧ (∀ ρ ∈ tn', ρ.a ∈ L.st ∧ ρ.b ∈ L.st) ∧ L.st.map (turnOf tn') = L.turns ∧ tn'.length ≤ 6 := by
  have tl := turns_length L
  have n6 : L.n ≤ 6 := O.sts.few
  have sub : tn.Sublist L.turns := by
    have := h.sub
    rwa [List.take_of_length_le (by omega)] at this
  have all : ∀ ρ ∈ L.turns, ρ ∈ tn ∨ (ρ.b = ρ.a ∧ ρ.m = 0) := by
    have := h.all
    rwa [List.take_of_length_le (by omega)] at this
  have nd0 : (L.turns.map Trn.a).Nodup := by rw [turns_a]; exact O.sts.nd
  have nd : (tn'.map Trn.a).Nodup := (p.map Trn.a).nodup_iff.mpr ((sub.map Trn.a).nodup nd0)
  refine ⟨nd, fun ρ hρ => ?_, ?_, ?_⟩
  · obtain ⟨i, hi, rfl⟩ := List.mem_map.mp (sub.subset (p.mem_iff.mp hρ))
    have hi := List.mem_range.mp hi
    exact ⟨nm_mem hi, nm_mem (O.tnlt i hi)⟩
  · rw [st_is L, List.map_map]
    refine List.map_congr_left fun i hi => ?_
    have hi := List.mem_range.mp hi
    show turnOf tn' (L.nm i) = L.turn i
    have mem : L.turn i ∈ L.turns := List.mem_map.mpr ⟨i, List.mem_range.mpr hi, rfl⟩
    rcases all _ mem with h1 | ⟨h1, h2⟩
    · exact turnOf_mem nd (p.mem_iff.mpr h1)
    · by_cases q : L.turn i ∈ tn
      · exact turnOf_mem nd (p.mem_iff.mpr q)
      · have e : L.turn i = ⟨L.nm i, L.nm i, 0⟩ := by
          have e1 : (L.turn i).b = L.nm i := h1
          have e2 : (L.turn i).m = 0 := h2
          show (⟨L.nm i, (L.turn i).b, (L.turn i).m⟩ : Trn) = _
          rw [e1, e2]
        rw [turnOf_not fun ρ hρ z => ?_, e]
        obtain ⟨j, hj, rfl⟩ := List.mem_map.mp (sub.subset (p.mem_iff.mp hρ))
        have hj := List.mem_range.mp hj
        have ij : j = i := nm_inj O hj hi z
        subst ij
        exact q (p.mem_iff.mp hρ)
  · have := p.length_eq
    have := sub.length_le
    omega
theorem Tups.tk {H H' : Hp} (s : Tk H H') : ∀ {as : List Addr} {xs : List (List V)}, Tups H as xs → Tups H' as xs
  | [], [], _ => trivial
  | _ :: _, _ :: _, h => ⟨s _ _ h.1, Tups.tk s h.2⟩
  | [], _ :: _, h => h.elim
  | _ :: _, [], h => h.elim
theorem PrtG.tk {st : List Str} {rw : List Row} {tn : List Trn} {ye : List Str} {t rr u y : Addr} {as bs : List Addr} {H H' : Hp} (s : Tk H H') (h : PrtG st rw tn ye t rr u y as bs H) : PrtG st rw tn ye t rr u y as bs H' :=
  ⟨s _ _ h.ht, s _ _ h.hr, h.hT.tk s, s _ _ h.hu, h.hU.tk s, s _ _ h.hy⟩
theorem Some6.more {L : LD} {k : Nat} {tn : List Trn} (h : Some6 L k tn) (hk : k < L.n) : Some6 L (k + 1) (tn ++ [L.turn k]) := by
  have e := take_more (turns_at hk)
  refine ⟨?_, fun ρ hρ => ?_⟩
  · rw [e]
    exact h.sub.append (List.Sublist.refl _)
  · rw [e] at hρ
    rcases List.mem_append.mp hρ with q | q
    · exact (h.all ρ q).imp (fun z => List.mem_append.mpr (.inl z)) id
    · exact .inl (List.mem_append.mpr (.inr q))
theorem Some6.less {L : LD} {k : Nat} {tn : List Trn} (h : Some6 L k tn) (hk : k < L.n) (q : (L.turn k).b = (L.turn k).a ∧ (L.turn k).m = 0) : Some6 L (k + 1) tn := by
  have e := take_more (turns_at hk)
  refine ⟨?_, fun ρ hρ => ?_⟩
  · rw [e]
    exact h.sub.trans (List.sublist_append_left _ _)
  · rw [e] at hρ
    rcases List.mem_append.mp hρ with z | z
    · exact h.all ρ z
    · rw [List.mem_singleton.mp z]
      exact .inr q
def endP (b : Str) (m : Int) : PyData := .tuple [.str b, .int m]
theorem endP_eqv {a b : Str} {m : Int} (h : PyData.eqv (endP b m) (endP a 0) = true) : b = a ∧ m = 0 := by
  simp only [endP, PyData.eqv, PyData.eqvAll, Bool.and_eq_true, Bool.and_true] at h
  exact ⟨by simpa using h.1, by simpa using h.2⟩
theorem endP_shaped {b : Str} {m : Int} (h : PyData.strOk b = true) : SeqAt.shaped (endP b m) = true := by
  refine shaped_of ?_ (show 1 ≤ 64 by decide)
  show (PyData.strOk b && (true && true)) = true
  rw [h] <;> rfl
def spParts : Sp := fun vs H Q _ => ∃ (p q : Addr) (L : LD), vs = [.ref p, .ref q] ∧ L.Ok ∧ MdAt H q L ∧ PoolAt H p ∧
  ∀ (a : Addr) (sg sg0 : List Nat) (rw : List Row) (tn : List Trn) (ye : List Str) (t rr u y : Addr) (as bs : List Addr) (H' : Hp), H' a = some (.lst [.str (S sg0), .ref t, .ref rr, .ref u, .ref y]) → a ≠ p → sg.Perm L.sg → PyProof.Rows.sortedS (sg.map sOne) = true → Told (L.srt sg) sg0 rw tn ye → PrtG L.st rw tn ye t rr u y as bs H' → PoolAt H' p → But p H H' → Q (.ref a) H'
section
variable {P : Program} {w : World} {K : PySem.W.Frag} {mg : Str → Option Value} {base : Heap} {f fD fS fL : Addr} {fd dD dS dL : FuncData}
abbrev NPa : List Str := ["_law_pool_here", "_law_model_here", "_law_line_here", "_law_ends", "_law_abc", "_law_lines", "_law_part"]
theorem scPa : FnScope NPa ["_law_pool_here", "_law_model_here"] (defScope sParts) := ⟨rfl, rfl, rfl, by decide +kernel, rfl, by decide +kernel, by decide +kernel⟩
set_option maxHeartbeats 0 in
theorem ok_parts (F : Fun K "_law_parts" "_law_parts" sParts f fd) (DD : Def K mg "_law_draw" sDraw ["_law_pool_here", "_law_many"] fD dD) (DS : Def K mg "_law_shuffled" sShuf ["_law_pool_here", "_law_things"] fS dS) (DL : Def K mg "_law_line" sLine ["_law_model_here"] fL dL) (Z : Free mg) (mL : mg "list" = none) (mT : mg "tuple" = none) (mS : mg "sorted" = none) : FnOk P w K mg base CX0 3 f fd ["_law_pool_here", "_law_model_here"] spParts := by
  have GD : FnOk P w K mg base CX0 1 fD dD ["_law_pool_here", "_law_many"] spDraw := ok_draw DD.F Z.int Z.divmod
  have GS : FnOk P w K mg base CX0 2 fS dS ["_law_pool_here", "_law_things"] spShufA := ok_shufA DS.F DD Z mL
  have GL : FnOk P w K mg base CX0 1 fL dL ["_law_model_here"] spLine := ok_line DL.F mT mS
  refine F.ok scPa (fun vs H Q E h => ?_) (fun cdv A outer s H vs Q E hr h => ?_)
  · obtain ⟨p, q, L, rfl, _⟩ := h
    rfl
  · obtain ⟨p, q, L, rfl, O, MD, hp, k⟩ := h
    have hr1 : Room 1 _ := hr.mono (by decide)
    refine ⟨_, pss_cons (ps_set (i := 2) scPa.nd rfl (.inl rfl) (pe_call GL hr1 rfl DL.g DL.kp DL.b .nil pass0 (pa_cons (pv 1) pa_nil)))
      (pss_cons (ps_setLc (i := 3) (own := [("_law_part", 6)]) (g := gName 6) rfl scPa.nd rfl rfl (sw_true rfl rfl rfl (by decide +kernel)) (pi_tup (pe_ix ix_tup (pv 2) pe_int (fun _ _ => rfl))) (blkOk_by (N := NPa) (sc := defScope sParts) (by decide +kernel)) (fun _ _ _ _ _ => pg_name (i := 6) scPa.nd rfl (.inl rfl))
          (fun _ _ _ _ _ => pts_one (PW.pt (pw_or (pt_cmpR (show OpR _ _ (rNeD K) from op_neD hr.units) (pe_slice (show SlR _ (rSlT K) from sl_tup) (pv 6) (po_some pe_int) po_none) (pe_tup (pa_cons (pe_ix (show IxR _ (rIxT K) from ix_tup) (pv 6) pe_int (fun _ _ => rfl)) (pa_cons pe_int pa_nil))) (nomark _))
            (pw_or1 (pt_cmpR op_eq (pe_call GD hr1 rfl DD.g DD.kp DD.b .nil pass0 (pa_cons (pv 0) (pa_cons pe_int pa_nil))) pe_int (nomark _))))))
          (fun _ _ _ _ _ => pv 6))
      (pss_cons (ps_set (i := 4) scPa.nd rfl (.inl rfl) (pe_join pe_str (pe_call GS hr rfl DS.g DS.kp DS.b .nil pass0 (pa_cons (pv 0) (pa_cons (pe_ix ix_tup (pv 2) pe_int (fun _ _ => rfl)) pa_nil)))))
      (pss_cons (ps_set (i := 5) scPa.nd rfl (.inl rfl) (pe_callTy call_tuple_of (by rfl) mT (by decide +kernel) (pa_cons (pe_call GS hr rfl DS.g DS.kp DS.b .nil pass0 (pa_cons (pv 0) (pa_cons (pe_ix ix_tup (pv 2) pe_int (fun _ _ => rfl)) pa_nil))) pa_nil)))
      (pss_one (ps_ret (pe_lst (pa_cons (pv 4) (pa_cons (pe_ix ix_tup (pv 2) pe_int (fun _ _ => rfl)) (pa_cons (pv 5)
        (pa_cons (pe_callTy call_tuple_of (by rfl) mT (by decide +kernel) (pa_cons (pe_call GS hr rfl DS.g DS.kp DS.b .nil pass0 (pa_cons (pv 0) (pa_cons (pv 3) pa_nil))) pa_nil))
        (pa_cons (pe_callTy call_tuple_of (by rfl) mT (by decide +kernel) (pa_cons (pe_call GS hr rfl DS.g DS.kp DS.b .nil pass0 (pa_cons (pv 0) (pa_cons (pe_ix ix_tup (pv 2) pe_int (fun _ _ => rfl)) pa_nil))) pa_nil)) pa_nil))))))))))), ?_⟩
    refine ⟨_, rfl, q, L, rfl, O, MD, fun ql sg H1 psg srt RA n1 s1 => ?_⟩
    have OS := O.srt psg
    have sgp : 0 < sg.length := OS.sgs.pos
    have sgf : sg.length ≤ 4 := OS.sgs.few
    have n6 : L.n ≤ 6 := O.sts.few
    have tl := turns_length L
    obtain ⟨t, rr, u, y, as, bs, h0, ht, hrr, hT, hu, hU, hy⟩ := RA
    have hU : Tups H1 bs (L.turns.map Trn.v) := hU
    have lb : bs.length = L.n := by rw [hU.length, List.length_map, tl]
    have rf := rows_few OS
    have la : as.length = (L.srt sg).rows.length := by rw [hT.length, List.length_map]
    have yf := yes_few OS
    have hp1 := hp.same s1
    have b1 : But p H H1 := But.of s1
    have ix : ∀ {H' : Hp} {j : Nat} {v : V}, [V.str (S sg), .ref t, .ref rr, .ref u, .ref y][j]? = some v → atI [V.str (S sg), .ref t, .ref rr, .ref u, .ref y] (j : Int) = some v := fun h => atI_nat h
    -- the turns
    refine ⟨_, rfl, ql, _, _, _, rfl, rfl, SqT.of h0, atI_nat (j := 3) rfl, u, rfl, ⟨_, SqT.of hu⟩, fun D hD => ?_⟩
    have nD : D ≠ p := hp1.ne hD
    refine lc_it (walk_tup (xs := bs.map V.ref)) (fun i H5 => ∃ (cs : List Addr) (tn : List Trn), H5 D = some (.lst (cs.map V.ref)) ∧ Tups H5 cs (tn.map Trn.v) ∧ Some6 L i tn ∧ cs.length ≤ i ∧ PoolAt H5 p ∧ But p H1 H5)
      ⟨[], [], upd_same, trivial, ⟨List.nil_sublist _, fun _ z => nomatch z⟩, Nat.le_refl _, hp1.up hD, (But.refl p H1).upd hD⟩ (fun _ _ _ h => by obtain ⟨_, _, _, _, _, _, _, b⟩ := h; exact SqT.of (Tk.but hp1 b _ _ hu)) ?_ ?_
    · rintro i x H5 H5' hi ⟨cs, tn, y1, y2, sm, lc, hp5, b5⟩ ⟨rfl, hx⟩
      rw [List.length_map] at hi
      rw [List.getElem?_map] at hx
      obtain ⟨b, hb, rfl⟩ := Option.map_eq_some_iff.mp hx
      have hi : i < L.n := by omega
      have hDf : H1 D = none := hD
      have hbv : H5' b = some (.tup [.str (L.nm i), .str (L.nm (L.tn i)), .int (L.ta i)]) := Tk.but hp1 b5 _ _ (hU.get hb (by rw [List.getElem?_map, turns_at hi] <;> rfl))
      have add : ∀ H9, H9 D = some (.lst (cs.map V.ref)) → Tups H9 cs (tn.map Trn.v) → PoolAt H9 p → But p H1 H9 → H9 b = some (.tup [.str (L.nm i), .str (L.nm (L.tn i)), .int (L.ta i)]) → ∃ acc, H9 D = some (.lst acc) ∧ acc.length < sizeLine ∧ ∃ (cs' : List Addr) (tn' : List Trn), (L2.upd H9 D (.lst (acc ++ [V.ref b]))) D = some (.lst (cs'.map V.ref)) ∧ Tups (L2.upd H9 D (.lst (acc ++ [V.ref b]))) cs' (tn'.map Trn.v) ∧ Some6 L (i + 1) tn' ∧ cs'.length ≤ i + 1 ∧ PoolAt (L2.upd H9 D (.lst (acc ++ [V.ref b]))) p ∧ But p H1 (L2.upd H9 D (.lst (acc ++ [V.ref b]))) := by
        intro H9 z1 z2 z3 z4 z5
        refine ⟨_, z1, by rw [List.length_map, sizeLine_eq]; omega, cs ++ [b], tn ++ [L.turn i], by rw [upd_same, List.map_append] <;> rfl, ?_, sm.more hi, by rw [List.length_append]; show cs.length + 1 ≤ _; omega, z3.put nD, z4.new hDf⟩
        rw [List.map_append]
        exact Tups.but (fun x => by intro q; cases q) z1 (But.here (But.refl D _)) (Tups.snoc z5 z2)
      refine ⟨rfl, _, rfl, _, rfl, b, _, rfl, SqT.of hbv, ?_, fun d1 hd1 => ?_⟩
      · rintro ⟨q, _⟩
        exact absurd (show HT.sIx 3 0 (some 1) = 0 from q) (by decide)
      rw [show cutV [V.str (L.nm i), .str (L.nm (L.tn i)), .int (L.ta i)] (some 1) none = [.str (L.nm (L.tn i)), .int (L.ta i)] from rfl]
      have s6 := Same.put (o := .tup [.str (L.nm (L.tn i)), .int (L.ta i)]) (Same.refl H5') hd1
      have h6 : (L2.upd H5' d1 (.tup [.str (L.nm (L.tn i)), .int (L.ta i)])) d1 = some (.tup [.str (L.nm (L.tn i)), .int (L.ta i)]) := upd_same
      generalize L2.upd H5' d1 (.tup [.str (L.nm (L.tn i)), .int (L.ta i)]) = H6 at s6 h6 ⊢
      refine ⟨_, rfl, b, _, _, _, rfl, rfl, SqT.of (s6 _ _ hbv), atI_nat (j := 0) rfl, by show 2 ≤ sizeLine; decide, fun d2 hd2 => ?_⟩
      have s7 := Same.put (o := .tup [.str (L.nm i), .int 0]) s6 hd2
      have h67 := (Same.put (o := .tup [.str (L.nm i), .int 0]) (Same.refl H6) hd2) _ _ h6
      have h7 : (L2.upd H6 d2 (.tup [.str (L.nm i), .int 0])) d2 = some (.tup [.str (L.nm i), .int 0]) := upd_same
      generalize L2.upd H6 d2 (.tup [.str (L.nm i), .int 0]) = H7 at s7 h67 h7 ⊢
      have hp7 := hp5.same s7
      have b7 := b5.trans (But.of s7)
      refine ⟨endP (L.nm (L.tn i)) (L.ta i), endP (L.nm i) 0, .tup (SqT.of h67) (.cons (.str _) (.cons (.int _) .nil)), .tup (SqT.of h7) (.cons (.str _) (.cons (.int _) .nil)), endP_shaped (ok_st O (nm_mem (O.tnlt i hi))), endP_shaped (ok_st O (nm_mem hi)), _, rfl, ?_⟩
      cases e : PyData.eqv (endP (L.nm (L.tn i)) (L.ta i)) (endP (L.nm i) 0) with
      | false => exact iteT (iteT ⟨_, rfl, add H7 (s7 _ _ y1) (y2.same s7) hp7 b7 (s7 _ _ hbv)⟩)
      | true =>
        have eq := endP_eqv e
        refine iteF ⟨_, rfl, p, _, rfl, by decide, by decide, hp7, fun d H8 d0 d1' hp8 b8 => ⟨rfl, _, rfl, ?_⟩⟩
        refine ite2 (fun _ => ?_) (fun _ => ?_)
        · exact ⟨_, rfl, add H8 (b8 _ _ nD (s7 _ _ y1)) ((y2.same s7).tk (Tk.but hp7 b8)) hp8 (b7.trans b8) (Tk.but hp7 b8 _ _ (s7 _ _ hbv))⟩
        · exact ⟨cs, tn, b8 _ _ nD (s7 _ _ y1), (y2.same s7).tk (Tk.but hp7 b8), sm.less hi eq, by omega, hp8, b7.trans b8⟩
    rintro H5 ⟨cs, tn0, y1, y2, sm, lc, hp5, b5⟩
    rw [List.length_map, lb] at sm lc
    have k15 := Tk.but hp1 b5
    -- the signs
    refine ⟨⟨_, rfl⟩, _, rfl, _, rfl, ql, _, _, _, rfl, rfl, SqT.of (k15 _ _ h0), atI_nat (j := 0) rfl, p, _, _, rfl, .str sg, by rw [List.length_map]; omega, hp5, fun a1 ys1 H6 ha1 na1 pm1 hp6 b6 => ?_⟩
    obtain ⟨sg0, psg0, rfl⟩ := perm_map vOne pm1.symm sg rfl
    have ls0 : sg0.length = sg.length := psg0.length_eq.symm
    have ha1' : H6 a1 = some (.lst ((sg0.map one).map V.str)) := by rw [ha1, List.map_map] <;> rfl
    refine ⟨_, a1, sg0.map one, rfl, rfl, .inl (SqL.of ha1'), ?_, ?_⟩
    · have e1 : ((sg0.map one).map fun x => x.length) = List.replicate sg0.length 1 := by
        rw [List.map_map]
        exact List.map_eq_replicate_iff.mpr fun _ _ => rfl
      have e2 : (Str.ofString "").length = 0 := by decide +kernel
      rw [e1, e2, List.sum_replicate_nat]
      omega
    rw [join_any]
    have k16 := k15.trans (Tk.but hp5 b6)
    -- the rows
    refine ⟨_, rfl, _, rfl, ql, _, _, _, rfl, rfl, SqT.of (k16 _ _ h0), atI_nat (j := 2) rfl, p, _, _, rfl, .tup (k16 _ _ hrr), by rw [List.length_map]; omega, hp6, fun a2 ys2 H7 ha2 na2 pm2 hp7 b7 => ⟨a2, _, rfl, .inl ⟨SqL.of ha2, fun t2 ht2 => ?_⟩⟩⟩
    have k17 := k16.trans (Tk.but hp6 b7)
    obtain ⟨as2, rw2, rfl, prw, hT2⟩ := refs_perm (hT.tk k17) pm2
    have s8 := Same.put (o := .tup (as2.map V.ref)) (Same.refl H7) ht2
    have h8 : (L2.upd H7 t2 (.tup (as2.map V.ref))) t2 = some (.tup (as2.map V.ref)) := upd_same
    generalize L2.upd H7 t2 (.tup (as2.map V.ref)) = H8 at s8 h8 ⊢
    have hp8 := hp7.same s8
    have k18 := k17.trans (Tk.of s8)
    have y8 := s8 _ _ (b7 _ _ nD (b6 _ _ nD y1))
    have k58 : Tk H5 H8 := ((Tk.but hp5 b6).trans (Tk.but hp6 b7)).trans (Tk.of s8)
    -- the turns shuffled, the yes states
    refine ⟨_, rfl, _, rfl, ql, _, _, _, rfl, rfl, SqT.of (k18 _ _ h0), atI_nat (j := 1) rfl, _, rfl, _, rfl, _, rfl, p, _, _, rfl, .lst y8 (fun a b c z => by cases cs with | nil => cases z | cons x l => cases z), by rw [List.length_map]; omega, hp8, fun a3 ys3 H9 ha3 na3 pm3 hp9 b9 => ⟨a3, _, rfl, .inl ⟨SqL.of ha3, fun t3 ht3 => ?_⟩⟩⟩
    obtain ⟨bs2, tn2, rfl, ptn, hU2⟩ := refs_perm (y2.tk (k58.trans (Tk.but hp8 b9))) pm3
    have s10 := Same.put (o := .tup (bs2.map V.ref)) (Same.refl H9) ht3
    have h10 : (L2.upd H9 t3 (.tup (bs2.map V.ref))) t3 = some (.tup (bs2.map V.ref)) := upd_same
    generalize L2.upd H9 t3 (.tup (bs2.map V.ref)) = H10 at s10 h10 ⊢
    have hp10 := hp9.same s10
    have k810 : Tk H8 H10 := (Tk.but hp8 b9).trans (Tk.of s10)
    have k110 := k18.trans k810
    refine ⟨_, rfl, _, rfl, ql, _, _, _, rfl, rfl, SqT.of (k110 _ _ h0), atI_nat (j := 4) rfl, p, _, _, rfl, .tup (k110 _ _ hy), by rw [List.length_map]; omega, hp10, fun a4 ys4 H11 ha4 na4 pm4 hp11 b11 => ⟨a4, _, rfl, .inl ⟨SqL.of ha4, fun t4 ht4 => ?_⟩⟩⟩
    obtain ⟨ye, pye, rfl⟩ := perm_map V.str pm4.symm _ rfl
    have s12 := Same.put (o := .tup (ye.map V.str)) (Same.refl H11) ht4
    have h12 : (L2.upd H11 t4 (.tup (ye.map V.str))) t4 = some (.tup (ye.map V.str)) := upd_same
    generalize L2.upd H11 t4 (.tup (ye.map V.str)) = H12 at s12 h12 ⊢
    refine ⟨by show 5 ≤ sizeLine; decide, fun a ha => ?_⟩
    have s13 := Same.put (o := .lst [.str (S sg0), .ref t, .ref t2, .ref t3, .ref t4]) s12 ha
    have k1013 : Tk H10 (L2.upd H12 a (.lst [.str (S sg0), .ref t, .ref t2, .ref t3, .ref t4])) := (Tk.but hp10 b11).trans (Tk.of s13)
    have k813 := k810.trans k1013
    obtain ⟨n1', n2', n3', n4'⟩ := sm.told O ptn
    have hp12 := hp11.same s12
    refine k a sg sg0 rw2 tn2 ye t t2 t3 t4 as2 bs2 _ upd_same (hp12.ne ha) psg srt ⟨psg0.symm, prw, n1', n2', n3', n4', ?_, ?_, ?_, ?_⟩ ⟨(k18.trans k813) _ _ ht, k813 _ _ h8, (hT2.same s8).tk k813, k1013 _ _ h10, (hU2.same s10).tk k1013, (Same.put (Same.refl H12) ha) _ _ h12⟩ (hp11.same s13) ?_
    · exact pye.symm.nodup_iff.mpr (yes_nd OS)
    · exact fun z hz => yes_sub z (pye.symm.mem_iff.mp hz)
    · have e : ((L.srt sg).st.filter fun z => decide (z ∈ ye)) = ((L.srt sg).st.filter fun z => decide (z ∈ (L.srt sg).yes)) := List.filter_congr fun z _ => by
        rw [decide_eq_decide]
        exact pye.symm.mem_iff
      rw [e]
      exact yes_filter OS
    · rw [← pye.length_eq]
      exact yf
    · exact b1.trans (b5.trans (b6.trans (b7.trans ((But.of s8).trans (b9.trans ((But.of s10).trans (b11.trans (But.of s13))))))))
end
end Wb
/-! k14: _law_right -/
namespace Wb
open PySem PySem.Spec PyProof.Rows L2 WbMin WbS Lz Le LamX Lj
open Lg hiding int_lt keepA keep5 cut_at sLOdd
abbrev sRight : Stmt := top 82
/-- all defs of the law -/
structure DQ where
  (cell pool draw shuf face whole odd signs isword name names amount model line isname step ende bads std rod end_ yed due parts bent spline spoilt heard prr right lim : Addr)
  (dcell dpool ddraw dshuf dface dwhole dodd dsigns disword dname dnames damount dmodel dline disname dstep dende dbads dstd drod dend_ dyed ddue dparts dbent dspline dspoilt dheard dprr dright dlim : FuncData)
abbrev sAtLimit : Stmt := top 83
structure Defs (K : PySem.W.Frag) (mg : Str → Option Value) (D : DQ) : Prop where
  cell : Def K mg "_law_cell" sCell ["_law_script", "_law_k"] D.cell D.dcell
  pool : Def K mg "_law_pool" sPool ["_law_cell_here"] D.pool D.dpool
  draw : Def K mg "_law_draw" sDraw ["_law_pool_here", "_law_many"] D.draw D.ddraw
  shuf : Def K mg "_law_shuffled" sShuf ["_law_pool_here", "_law_things"] D.shuf D.dshuf
  face : Def K mg "_law_face" sFace ["_law_thing"] D.face D.dface
  whole : Def K mg "_law_whole" sLWhole ["_law_thing"] D.whole D.dwhole
  odd : Def K mg "_law_odd" Wb.sLOdd ["_law_pool_here"] D.odd D.dodd
  signs : Def K mg "_law_signs" sSigns ["_law_pool_here", "_law_most"] D.signs D.dsigns
  isword : Def K mg "_law_is_word" sLIsWord ["_law_thing", "_law_abc"] D.isword D.disword
  name : Def K mg "_law_name" sName ["_law_pool_here", "_law_found"] D.name D.dname
  names : Def K mg "_law_names" sNames ["_law_pool_here", "_law_many"] D.names D.dnames
  amount : Def K mg "_law_amount" sAmount ["_law_pool_here", "_law_great"] D.amount D.damount
  model : Def K mg "_law_model" sModel ["_law_pool_here", "_law_abc", "_law_most", "_law_great"] D.model D.dmodel
  line : Def K mg "_law_line" sLine ["_law_model_here"] D.line D.dline
  isname : Def K mg "_law_is_name" sLName ["_law_thing"] D.isname D.disname
  step : Def K mg "_law_is_step" sStep NStT D.step D.dstep
  ende : Def K mg "_law_is_end" sEnd ["_law_line_here", "_law_posts"] D.ende D.dende
  bads : Def K mg "_law_bad_signs" sBadSigns ["_law_abc"] D.bads D.dbads
  std : Def K mg "_law_states_due" sStDue ["_law_posts"] D.std D.dstd
  rod : Def K mg "_law_rows_due" sRoDue ["_law_abc", "_law_posts", "_law_lines"] D.rod D.drod
  end_ : Def K mg "_law_ends_due" sEnDue ["_law_posts", "_law_ends"] D.end_ D.dend_
  yed : Def K mg "_law_yes_due" sYeDue ["_law_posts", "_law_oks"] D.yed D.dyed
  due : Def K mg "_law_loop_due" sLoDue ["_law_parts_here"] D.due D.ddue
  parts : Def K mg "_law_parts" sParts ["_law_pool_here", "_law_model_here"] D.parts D.dparts
  bent : Def K mg "_law_bent" sBent ["_law_pool_here", "_law_some", "_law_odd_here"] D.bent D.dbent
  spline : Def K mg "_law_spoilt_line" sSpLine ["_law_pool_here", "_law_some", "_law_posts"] D.spline D.dspline
  spoilt : Def K mg "_law_spoilt" sSpoilt ["_law_pool_here", "_law_parts_here", "_law_which"] D.spoilt D.dspoilt
  heard : Def K mg "_law_heard" sPtHeard ["_law_act"] D.heard D.dheard
  prr : Def K mg "_law_parts_right" sPrRight ["_law_parts_here"] D.prr D.dprr
  right : Def K mg "_law_right" sRight ["_law_pool_here"] D.right D.dright
  lim : Def K mg "_law_at_the_limit" sAtLimit [] D.lim D.dlim
section
variable {P : Program} {w : World} {K : PySem.W.Frag} {mg : Str → Option Value} {base : Heap} {f c Pt e : Addr} {fd : FuncData} {A : LA} {B : EL} {D : DQ}
theorem ok_due' (D' : Defs K mg D) (Z : Free mg) (ZT : FreeT mg) : FnOk P w K mg base CX0 7 D.due D.ddue ["_law_parts_here"] (spLoDue K) :=
  ok_lodue D'.due.F Z ZT D'.face D'.bads D'.isword D'.std D'.isname D'.rod D'.step D'.whole D'.end_ D'.ende D'.yed
theorem ok_prr' (FT : FunT K "_law_parts_right" "_law_parts_right" sPrRight D.prr D.dprr c) (TB : TabB base mg c Pt) (Z : Free mg) (ZT : FreeT mg) (R : LoopF K mg A e) (W : WayP K A e) (EB : ErL K mg B) (M : TakesP K B) (D' : Defs K mg D) : FnOk P w K mg base CX0 9 D.prr D.dprr ["_law_parts_here"] (spPrRight Pt) :=
  ok_prright (D := ⟨D.face, D.dface, D.heard, D.dheard, D.due, D.ddue⟩) FT TB Z ZT R W EB M ⟨D'.face, D'.heard, D'.due⟩ (ok_due' D' Z ZT)
end
theorem cutSub {p : Addr} {H : Hp} : Same (cut H p) H := cutH_to fun _ _ _ e => e
/-- parts as _law_parts gives them -/
theorem parts_of {p a t rr u y : Addr} {H : Hp} {L : LD} {sg sg0 : List Nat} {rw : List Row} {tn : List Trn} {ye : List Str} {as bs : List Addr} (O : L.Ok) (psg : sg.Perm L.sg) (TL : Told (L.srt sg) sg0 rw tn ye) (PG : PrtG L.st rw tn ye t rr u y as bs H) (hL : H a = some (.lst [.str (S sg0), .ref t, .ref rr, .ref u, .ref y])) (n : a ≠ p) : PartsP p H a sg0 (.ref t) (.ref rr) (.ref u) (.ref y) := by
  have pm : sg0.Perm L.sg := TL.sgP.trans psg
  have low : ∀ c ∈ sg0, c < 1000 := fun c hc => by
    have := O.sgs.low c (pm.mem_iff.mp hc)
    omega
  have tx : ∀ z ∈ L.st, PyData.strOk z = true ∧ z.length ≤ 10 := fun z hz => by
    obtain ⟨l, rfl, nm⟩ := O.sts.of z hz
    refine ⟨ok_codes fun c hc => ?_, by rw [S_len]; have := nm.few; omega⟩
    rcases nm.ok c hc with h | h <;> omega
  have lt : ∀ z ∈ L.st, Lt (.str z) := fun z hz => .inl ⟨z, rfl, tx z hz⟩
  have OS := O.srt psg
  have rin : ∀ r ∈ rw, r.a ∈ L.st ∧ r.b ∈ L.st ∧ r.c < 1000 := fun r hr => by
    obtain ⟨i, c, hi, hc, rfl⟩ := rows_mem (TL.rwP.mem_iff.mp hr)
    refine ⟨nm_mem hi, nm_mem (OS.nxlt i c hi hc), ?_⟩
    have := O.sgs.low c (psg.mem_iff.mp hc)
    show c < 1000
    omega
  refine ⟨hL, n, low, by rw [pm.length_eq]; exact O.sgs.pos, by rw [pm.length_eq]; exact O.sgs.few, ⟨t, L.st, rfl, PG.ht, O.sts.pos, O.sts.few, tx⟩, ⟨rr, as, rw.map Row.v, rfl, PG.hr, PG.hT, ?_, fun vs hv => ?_⟩, ⟨u, bs, tn.map Trn.v, rfl, PG.hu, PG.hU, ?_, fun vs hv => ?_⟩, ⟨y, ye, rfl, PG.hy, TL.yfew, fun z hz => tx z (TL.yin z hz)⟩⟩
  · rw [List.length_map, TL.rwP.length_eq]
    exact rows_few OS
  · obtain ⟨r, hr, rfl⟩ := List.mem_map.mp hv
    obtain ⟨ra, rb, rc⟩ := rin r hr
    refine ⟨by show 0 < 4; decide, by show 4 ≤ 4; decide, fun y hy => ?_⟩
    have hy : y = .str r.a ∨ y = .str (S [r.c]) ∨ y = .str r.b ∨ y = .int r.m := by simpa [Row.v] using hy
    rcases hy with rfl | rfl | rfl | rfl
    · exact lt _ ra
    · exact .inl ⟨_, rfl, ok_codes fun d hd => by rw [List.mem_singleton.mp hd]; omega, by rw [S_len]; show 1 ≤ 10; decide⟩
    · exact lt _ rb
    · exact .inr ⟨_, rfl⟩
  · rw [List.length_map]
    have := TL.tfew
    omega
  · obtain ⟨r, hr, rfl⟩ := List.mem_map.mp hv
    obtain ⟨ra, rb⟩ := TL.tin r hr
    refine ⟨by show 0 < 3; decide, by show 3 ≤ 4; decide, fun y hy => ?_⟩
    have hy : y = .str r.a ∨ y = .str r.b ∨ y = .int r.m := by simpa [Trn.v] using hy
    rcases hy with rfl | rfl | rfl
    · exact lt _ ra
    · exact lt _ rb
    · exact .inr ⟨_, rfl⟩
def spRightP (Pt : Addr) : Sp := fun vs H Q _ => ∃ p : Addr, vs = [.ref p] ∧ PoolAt H p ∧ Tabs [(Pt, qLam)] H ∧ ∀ H', Bt p H H' → Tabs [(Pt, qLam)] H' → Q (.bl true) H'
abbrev NR : List Str := ["_law_pool_here", "_law_turn", "_law_model_here", "_law_parts_here", "_law_way", "_law_near", "_law_far", "_law_twice", "_law_k"]
theorem scRi : FnScope NR ["_law_pool_here"] (defScope sRight) := ⟨rfl, rfl, rfl, by decide +kernel, rfl, by decide +kernel, by decide +kernel⟩
section
variable {P : Program} {w : World} {K : PySem.W.Frag} {mg : Str → Option Value} {base : Heap} {f c Pt e : Addr} {fd : FuncData} {A : LA} {B : EL} {D : DQ}
set_option maxHeartbeats 8000000 in
theorem ok_right (FT : FunT K "_law_parts_right" "_law_parts_right" sPrRight D.prr D.dprr c) (TB : TabB base mg c Pt) (Z : Free mg) (ZT : FreeT mg) (R : LoopF K mg A e) (W : WayP K A e) (EB : ErL K mg B) (M : TakesP K B) (D' : Defs K mg D) : FnOk P w K mg base CX0 10 D.right D.dright ["_law_pool_here"] (spRightP Pt) := by
  have G : FnOk P w K mg base CX0 1 D.draw D.ddraw ["_law_pool_here", "_law_many"] spDraw := ok_draw D'.draw.F Z.int Z.divmod
  have GS : FnOk P w K mg base CX0 2 D.signs D.dsigns ["_law_pool_here", "_law_most"] spSigns := ok_signs D'.signs.F D'.draw Z.int Z.divmod Z.len Z.range
  have GM : FnOk P w K mg base CX0 4 D.model D.dmodel ["_law_pool_here", "_law_abc", "_law_most", "_law_great"] spModel := ok_model D'.model.F D'.draw D'.name D'.names D'.amount Z
  have GP : FnOk P w K mg base CX0 3 D.parts D.dparts ["_law_pool_here", "_law_model_here"] spParts := ok_parts D'.parts.F D'.draw D'.shuf D'.line Z ZT.lst R.tup R.sort
  have GSp : FnOk P w K mg base CX0 4 D.spoilt D.dspoilt ["_law_pool_here", "_law_parts_here", "_law_which"] spSpoilt := ok_spoilt D'.spoilt.F D'.draw D'.odd D'.name D'.names D'.bent D'.spline Z ZT.lst ZT.tup
  have GR : FnOk P w K mg base CX0 9 D.prr D.dprr ["_law_parts_here"] (spPrRight Pt) := ok_prr' FT TB Z ZT R W EB M D'
  refine D'.right.F.ok scRi (fun vs H Q E h => by obtain ⟨p, rfl, _⟩ := h; rfl) (fun cdv A' outer s H vs Q E hr h => ?_)
  obtain ⟨p, rfl, hp, tabs, k⟩ := h
  have hr1 : Room 1 _ := hr.mono (by decide)
  have hr2 : Room 2 _ := hr.mono (by decide)
  have hr3 : Room 3 _ := hr.mono (by decide)
  have hr4 : Room 4 _ := hr.mono (by decide)
  have hr9 : Room 9 _ := hr
  refine ⟨_, pss_cons (ps_for PassesOwn.never rfl (pi_range1 rfl Z.range (pa_cons pe_int pa_nil)) (pg_name (i := 1) scRi.nd rfl (.inl rfl))
      (pss_cons (ps_set (i := 2) scRi.nd rfl (.inl rfl) (pe_call GM hr4 rfl D'.model.g D'.model.kp D'.model.b .nil pass0 (pa_cons (pv 0) (pa_cons (pe_call GS hr2 rfl D'.signs.g D'.signs.kp D'.signs.b .nil pass0 (pa_cons (pv 0) (pa_cons pe_int pa_nil))) (pa_cons pe_int (pa_cons pe_bl pa_nil))))))
      (pss_cons (ps_set (i := 3) scRi.nd rfl (.inr rfl) (pe_call GP hr3 rfl D'.parts.g D'.parts.kp D'.parts.b .nil pass0 (pa_cons (pv 0) (pa_cons (pv 2) pa_nil))))
      (pss_cons (ps_set (i := 4) scRi.nd rfl (.inl rfl) (pe_call G hr1 rfl D'.draw.g D'.draw.kp D'.draw.b .nil pass0 (pa_cons (pv 0) (pa_cons pe_int pa_nil))))
      (pss_cons (ps_join (ps_if (pt_cmpR op_lt (pv 4) pe_int (nomark _)) (pss_one (ps_set (i := 3) scRi.nd rfl (.inr rfl) (pe_call GSp hr4 rfl D'.spoilt.g D'.spoilt.kp D'.spoilt.b .nil pass0 (pa_cons (pv 0) (pa_cons (pv 3) (pa_cons (pv 4) pa_nil)))))) pss_nil))
      (pss_cons (ps_join (ps_if (pt_cmpR (show OpR _ _ (rIn K false) from op_in_seq) (pv 4) (pe_lst (pa_cons pe_int (pa_cons pe_int pa_nil))) (by rfl))
        (pss_cons (ps_asg (pe_tup (pa_cons (pe_call G hr1 rfl D'.draw.g D'.draw.kp D'.draw.b .nil pass0 (pa_cons (pv 0) (pa_cons pe_int pa_nil))) (pa_cons (pe_call G hr1 rfl D'.draw.g D'.draw.kp D'.draw.b .nil pass0 (pa_cons (pv 0) (pa_cons pe_int pa_nil))) pa_nil))) (pg_tup (by rfl) (pgs_cons (pg_name (i := 5) scRi.nd rfl (.inl rfl)) (pgs_cons (pg_name (i := 6) scRi.nd rfl (.inr rfl)) pgs_nil))))
        (pss_cons (ps_set (i := 7) scRi.nd rfl (.inr rfl) (pe_call GSp hr4 rfl D'.spoilt.g D'.spoilt.kp D'.spoilt.b .nil pass0 (pa_cons (pv 0) (pa_cons (pv 3) (pa_cons (pv 5) pa_nil)))))
        (pss_one (ps_set (i := 3) scRi.nd rfl (.inr rfl) (pe_lc (own := [("_law_k", 8)]) (g := gName 8) (tt := tYes) rfl scRi.nd (pi_range1 rfl Z.range (pa_cons pe_int pa_nil)) (blkOk_by (N := NR) (sc := defScope sRight) (by decide +kernel)) (fun _ _ _ _ _ => pg_name (i := 8) scRi.nd rfl (.inl rfl)) (fun _ _ _ _ _ => pts_nil)
          (fun _ _ _ _ _ => pe_ifExp (pt_cmpR op_eq (pv 8) (pv 6) (nomark _)) (pe_ix (show IxR _ (rIxL K) from ix_list) (pe_call GSp hr4 rfl D'.spoilt.g D'.spoilt.kp D'.spoilt.b .nil pass0 (pa_cons (pv 0) (pa_cons (pv 3) (pa_cons (pv 6) pa_nil)))) (pv 8) (fun _ _ => rfl)) (pe_ix (show IxR _ (rIxL K) from ix_list) (pv 7) (pv 8) (fun _ _ => rfl)))))))) pss_nil))
      (pss_one (ps_if (pt_not (pt_val (pe_call GR hr9 rfl D'.prr.g D'.prr.kp D'.prr.b .nil pass0 (pa_cons (pv 3) pa_nil)))) (pss_one ps_never) pss_nil))))))))
    (pss_one (ps_ret pe_bl)), ?_⟩
  refine ⟨_, rfl, by decide, by decide, for_it walk_range (fun i σ H' => ∃ v1 v2 v3 v4 v5 v6 v7 v8 : Option V, σ = [some (V.ref p), v1, v2, v3, v4, v5, v6, v7, v8] ∧ PoolAt H' p ∧ Tabs [(Pt, qLam)] H' ∧ Bt p H H') ⟨none, none, none, none, none, none, none, none, rfl, hp, tabs, Bt.same (Same.refl H)⟩ (fun _ _ _ _ _ => trivial) ?_ ?_⟩
  · rintro i x0 σ H0 H0' hi ⟨v1, v2, v3, v4, v5, v6, v7, v8, rfl, hp0, tb0, t0⟩ ⟨rfl, rfl⟩
    dsimp only [List.set]
    refine ⟨_, rfl, _, rfl, p, 4, rfl, by decide, by decide, hp0, fun a H1 low nd a0 a1 hp1 b1 => ?_⟩
    refine ⟨p, a, 6, false, rfl, ⟨low, nd, a0, by omega⟩, by decide, by decide, hp1, fun q L H2 O Sm esg ln MD q0 hp2 b2 => ?_⟩
    dsimp only [List.set]
    refine ⟨_, rfl, _, rfl, p, q, L, rfl, O, MD, hp2, fun ap sg sg0 rw tn ye t rr u y as bs H3 hap nap psg srt TL PG hp3 b3 => ?_⟩
    dsimp only [List.set]
    have PP := parts_of O psg TL PG hap nap
    have c3 := (b1.trans b2).trans b3
    clear TL PG hap srt psg b1 b2 b3 hp1 hp2 MD esg ln Sm q0
    refine ⟨_, rfl, p, _, rfl, by decide, by decide, hp3, fun d H4 d0 d1 hp4 b4 => ?_⟩
    dsimp only [List.set]
    obtain ⟨d, rfl⟩ := nat_of d0
    have PP4 := PP.but hp3 b4
    have c4 := c3.trans b4
    clear PP b4 c3 hp3 d0
    refine ⟨fun σ' H' => ∃ (F : Addr) (vi : Option V), σ' = [some (V.ref p), vi, some (.ref q), some (.ref F), some (.int ↑d), v5, v6, v7, v8] ∧ ((d < 5 ∧ PtA p H' F) ∨ (5 ≤ d ∧ F = ap)) ∧ PoolAt H' p ∧ But p H4 H', ?_, ?_⟩
    · refine ⟨_, rfl, _, _, rfl, rfl, _, rfl, ite2 (fun q1 => ?_) (fun q1 => ?_)⟩
      · have d5 : d < 5 := by have := of_decide_eq_true q1; omega
        exact ⟨_, rfl, _, rfl, _, rfl, p, ap, d, sg0, _, _, _, _, rfl, d5, hp4, PP4, fun F H5 pt _ hp5 b5 => ⟨F, _, rfl, .inl ⟨d5, pt.ptA⟩, hp5, b5⟩⟩
      · have d5 : 5 ≤ d := by
          have z : ¬ ((d : Int) < 5) := fun z => q1 (decide_eq_true z)
          omega
        exact ⟨ap, _, rfl, .inr ⟨d5, rfl⟩, hp4, But.refl p H4⟩
    rintro σ H5 ⟨F, vi, rfl, way, hp5, b5⟩
    refine ⟨fun σ' H' => ∃ (F : Addr) (v5 v6 v7 v8 : Option V), σ' = [some (V.ref p), vi, some (.ref q), some (.ref F), some (.int ↑d), v5, v6, v7, v8] ∧ PtA p H' F ∧ PoolAt H' p ∧ But p H4 H', ?_, ?_⟩
    · refine ⟨_, rfl, by show 2 ≤ sizeLine; decide, fun e he => ⟨e, _, rfl, .inl (SqL.of upd_same), rfl, rfl, _, rfl, ?_⟩⟩
      have s6 := Same.put (o := .lst [.int 5, .int 6]) (Same.refl H5) he
      have po6 := hp5.same s6
      have c6 := b5.trans (But.of s6)
      have way6 : (d < 5 ∧ PtA p (L2.upd H5 e (.lst [.int 5, .int 6])) F) ∨ (5 ≤ d ∧ F = ap) := way.imp (fun h => ⟨h.1, h.2.but (But.of s6)⟩) id
      generalize L2.upd H5 e (.lst [.int 5, .int 6]) = H6 at s6 po6 c6 way6 ⊢
      have no : ∀ {b : Bool}, b = false → ∀ {A B : Prop}, B → (if b = true then A else B) := fun e _ _ h => by rw [e]; exact h
      have yes : ∀ {b : Bool}, b = true → ∀ {A B : Prop}, A → (if b = true then A else B) := fun e _ _ h => by rw [e]; exact h
      have PP6 := PP4.but hp4 c6
      by_cases hd : d = 5 ∨ d = 6
      · refine yes (by rcases hd with rfl | rfl <;> rfl) ?_
        have ef : F = ap := by
          rcases way6 with ⟨z, _⟩ | ⟨_, e⟩
          · omega
          · exact e
        subst ef
        clear way way6
        refine ⟨_, rfl, p, _, rfl, by decide, by decide, po6, fun dn H7 dn0 dn1 po7 b7 => ?_⟩
        refine ⟨_, rfl, p, _, rfl, by decide, by decide, po7, fun df H8 df0 df1 po8 b8 => ⟨by show 2 ≤ sizeLine; decide, fun T hT => ?_⟩⟩
        obtain ⟨dn, rfl⟩ := nat_of dn0
        obtain ⟨df, rfl⟩ := nat_of df0
        have s9 := Same.put (o := .tup [.int (dn : Int), .int (df : Int)]) (Same.refl H8) hT
        have eT : (L2.upd H8 T (.tup [.int (dn : Int), .int (df : Int)])) T = some (.tup [.int (dn : Int), .int (df : Int)]) := upd_same
        have po9 := po8.same s9
        have c9 := ((c6.trans b7).trans b8).trans (But.of s9)
        have b69 := (b7.trans b8).trans (But.of s9)
        generalize L2.upd H8 T (.tup [.int (dn : Int), .int (df : Int)]) = H9 at s9 eT po9 c9 b69 ⊢
        refine ⟨T, _, rfl, SqT.of eT, rfl, _, _, rfl, _, _, rfl, rfl, ?_⟩
        dsimp only [List.set]
        have PP9 := PP6.but po6 b69
        refine ⟨_, rfl, _, rfl, _, rfl, p, F, dn, sg0, _, _, _, _, rfl, by omega, po9, PP9, fun F1 Hb pt1 z1 pob bb => ?_⟩
        dsimp only [List.set]
        have PPb := PP9.but po9 bb
        have cb := c9.trans bb
        refine ⟨_, rfl, by decide, by decide, fun D0 hD => ?_⟩
        have nD := pob.ne hD
        have hDF : F ≠ D0 := ne_of_none PPb.hL hD
        refine lc_it walk_range (fun k H' => ∃ acc : List V, H' D0 = some (.lst acc) ∧ acc.length = k ∧ (∀ x, acc[0]? = some x → ∃ Hn dd, Any p Hn x dd ∧ Hn D0 = none ∧ But p Hn H') ∧ (∀ (m : Nat) x, acc[m + 1]? = some x → Lg.Wh (cut H' p) x) ∧ PoolAt H' p ∧ But p Hb H') ⟨[], upd_same, rfl, (fun x h => by cases h), (fun m x h => by cases h), pob.put nD, (But.refl p Hb).upd hD⟩ (fun _ _ _ _ => trivial) ?_ ?_
        · rintro k x H2 H2' hk ⟨acc, h1, hl, h2, h3, hpk, bk⟩ ⟨rfl, rfl⟩
          have k5 : k < 5 := by
            have q := hk
            simpa using q
          have fin : ∀ (G : Hp) (y : V), But p H2' G → PoolAt G p → (k = 0 → ∃ Hn dd, Any p Hn y dd ∧ Hn D0 = none ∧ But p Hn G) → (0 < k → Lg.Wh (cut G p) y) → ∃ acc : List V, G D0 = some (.lst acc) ∧ acc.length < sizeLine ∧ ∃ acc_1 : List V, L2.upd G D0 (.lst (acc ++ [y])) D0 = some (.lst acc_1) ∧ acc_1.length = k + 1 ∧ (∀ x, acc_1[0]? = some x → ∃ Hn dd, Any p Hn x dd ∧ Hn D0 = none ∧ But p Hn (L2.upd G D0 (.lst (acc ++ [y])))) ∧ (∀ (m : Nat) x, acc_1[m + 1]? = some x → Lg.Wh (cut (L2.upd G D0 (.lst (acc ++ [y]))) p) x) ∧ PoolAt (L2.upd G D0 (.lst (acc ++ [y]))) p ∧ But p Hb (L2.upd G D0 (.lst (acc ++ [y]))) := fun G y bG hG y0 y1 => by
            have g1 := bG _ _ nD h1
            have up : ∀ {Hn : Hp}, Hn D0 = none → But p Hn G → But p Hn (L2.upd G D0 (.lst (acc ++ [y]))) := fun z b => b.new z
            refine ⟨acc, g1, by rw [hl, sizeLine_eq]; omega, acc ++ [y], upd_same, by rw [List.length_append, hl] <;> rfl, fun x hx => ?_, fun m x hx => ?_, hG.put nD, up hD (bk.trans bG)⟩
            · cases acc with
              | nil =>
                cases hx
                obtain ⟨Hn, dd, q1, q2, q3⟩ := y0 hl.symm
                exact ⟨Hn, dd, q1, q2, up q2 q3⟩
              | cons z acc =>
                obtain ⟨Hn, dd, q1, q2, q3⟩ := h2 x hx
                exact ⟨Hn, dd, q1, q2, up q2 (q3.trans bG)⟩
            · refine Lj.Wh.put g1 nD ?_
              by_cases hm : m + 1 < acc.length
              · rw [List.getElem?_append_left hm] at hx
                exact (h3 m x hx).same (cut_but bG)
              · rw [List.getElem?_append_right (by omega)] at hx
                have e0 : m + 1 - acc.length = 0 := by
                  by_cases e : m + 1 - acc.length = 0
                  · exact e
                  · rw [List.getElem?_eq_none (by show 1 ≤ _; omega)] at hx
                    cases hx
                rw [e0] at hx
                cases hx
                exact y1 (by omega)
          refine ⟨rfl, _, rfl, _, rfl, rfl, _, rfl, ite2 (fun q => ?_) (fun q => ?_)⟩
          · have ek : k = df := by
              have q := of_decide_eq_true q
              injection q with q
              omega
            subst ek
            clear q
            have PPk := PPb.but pob bk
            refine ⟨_, rfl, _, rfl, _, rfl, p, F, k, sg0, _, _, _, _, rfl, k5, hpk, PPk, fun F2 G pt2 z2 hG bG => ?_⟩
            obtain ⟨sV, tV, rV, uV, yV, dd, hF2, nF2, a2, w1, w2, w3, w4⟩ := pt2
            obtain ⟨x, hx, x0, xm⟩ : ∃ x, [sV, tV, rV, uV, yV][k]? = some x ∧ (k = 0 → x = sV) ∧ (0 < k → Lg.Wh (cut G p) x) := by
              rcases (by omega : k = 0 ∨ k = 1 ∨ k = 2 ∨ k = 3 ∨ k = 4) with rfl | rfl | rfl | rfl | rfl
              · exact ⟨_, rfl, fun _ => rfl, fun z => absurd z (by decide)⟩
              · exact ⟨_, rfl, fun z => absurd z (by decide), fun _ => w1⟩
              · exact ⟨_, rfl, fun z => absurd z (by decide), fun _ => w2⟩
              · exact ⟨_, rfl, fun z => absurd z (by decide), fun _ => w3⟩
              · exact ⟨_, rfl, fun z => absurd z (by decide), fun _ => w4⟩
            refine ⟨_, rfl, F2, _, _, x, rfl, rfl, SqL.of hF2, by rw [Int.zero_add]; exact atI_nat hx, fin G x bG hG (fun z => ?_) xm⟩
            rw [x0 z]
            refine ⟨_, dd, a2, ?_, fun a o n h => (New.inv h).2⟩
            cases e : New H2' G D0 with
            | none => rfl
            | some o =>
              have := (New.inv e).1
              rw [h1] at this
              cases this
          · obtain ⟨sV, tV, rV, uV, yV, dd, hF1, nF1, a1, w1, w2, w3, w4⟩ := pt1
            obtain ⟨x, hx, x0, xm⟩ : ∃ x, [sV, tV, rV, uV, yV][k]? = some x ∧ (k = 0 → x = sV) ∧ (0 < k → Lg.Wh (cut Hb p) x) := by
              rcases (by omega : k = 0 ∨ k = 1 ∨ k = 2 ∨ k = 3 ∨ k = 4) with rfl | rfl | rfl | rfl | rfl
              · exact ⟨_, rfl, fun _ => rfl, fun z => absurd z (by decide)⟩
              · exact ⟨_, rfl, fun z => absurd z (by decide), fun _ => w1⟩
              · exact ⟨_, rfl, fun z => absurd z (by decide), fun _ => w2⟩
              · exact ⟨_, rfl, fun z => absurd z (by decide), fun _ => w3⟩
              · exact ⟨_, rfl, fun z => absurd z (by decide), fun _ => w4⟩
            refine ⟨_, rfl, _, rfl, F1, _, _, x, rfl, rfl, SqL.of (bk _ _ nF1 hF1), by rw [Int.zero_add]; exact atI_nat hx, fin _ x (But.refl p _) hpk (fun z => ?_) (fun z => (xm z).same (cut_but bk))⟩
            rw [x0 z]
            exact ⟨Hb, dd, a1.same New.sub, hD, bk⟩
        · rintro Hz ⟨acc, h1, hl, h2, h3, hpz, bz⟩
          dsimp only [List.set]
          refine ⟨D0, _, _, _, _, rfl, ?_, hpz, cb.trans bz⟩
          obtain ⟨x0, x1, x2, x3, x4, rfl⟩ : ∃ x0 x1 x2 x3 x4, acc = [x0, x1, x2, x3, x4] := by
            have hl : acc.length = 5 := by simpa using hl
            match acc, hl with
            | [x0, x1, x2, x3, x4], _ => exact ⟨x0, x1, x2, x3, x4, rfl⟩
          obtain ⟨Hn, dd, q1, q2, q3⟩ := h2 x0 rfl
          exact ⟨x0, x1, x2, x3, x4, dd, h1, nD, q1.but q3, h3 0 x1 rfl, h3 1 x2 rfl, h3 2 x3 rfl, h3 3 x4 rfl⟩
      · refine no ?_ ?_
        · have d8 : d < 8 := by omega
          rcases (by omega : d = 0 ∨ d = 1 ∨ d = 2 ∨ d = 3 ∨ d = 4 ∨ d = 7) with rfl | rfl | rfl | rfl | rfl | rfl <;> rfl
        refine ⟨F, _, _, _, _, rfl, ?_, po6, c6⟩
        rcases way6 with ⟨_, h⟩ | ⟨_, rfl⟩
        · exact h
        · exact PP6.any po6 PP6.hL PP6.ne
    rintro σ H6 ⟨F6, v5', v6', v7', v8', rfl, pt6, hp6, b6⟩
    obtain ⟨sV, tV, rV, uV, yV, dd, hF6, nF6, a6, w1, w2, w3, w4⟩ := pt6
    have tb6 := Tabs.but tb0 hp0 (c4.trans b6)
    refine ⟨_, rfl, F6, p, sV, tV, rV, uV, yV, dd, rfl, hF6, a6, w1.same cutSub, w2.same cutSub, w3.same cutSub, w4.same cutSub, tb6, fun H7 x7 tb7 => ⟨_, rfl, iteF ?_⟩⟩
    exact ⟨_, _, _, _, _, _, _, _, rfl, PoolAt.xt hp6 x7, tb7, (t0.trans (Bt.of (c4.trans b6))).trans (Xt.bt x7)⟩
  · rintro σ H8 ⟨v1, v2, v3, v4, v5, v6, v7, v8, rfl, hp8, tb8, t8⟩
    exact k H8 t8 tb8
end
end Wb
/-! k14: the law's asking at the limit -/
namespace Wb
open PySem PySem.Spec PyProof.Rows L2 WbMin WbS Lz Le LamX Lj
open Lg hiding int_lt keepA keep5 cut_at sLOdd
abbrev NLim : List Str := ["_law_posts", "_law_lines", "_law_some", "_law_post", "_law_states_here"]
theorem scLim : FnScope NLim [] (defScope sAtLimit) := ⟨rfl, rfl, rfl, by decide +kernel, rfl, by decide +kernel, by decide +kernel⟩
/-- an item of a part, no pool in sight -/
def ItW (H : Hp) (y : V) : Prop := TopS H y ∧ ∀ z, y = .str z → PyData.strOk z = true
theorem monoW : Mono ItW := fun _ _ _ s h => ⟨h.1.same s, h.2⟩
abbrev TW : Hp → Nat → V → Prop := TupG ItW
theorem TW.wh {H : Hp} {n : Nat} {x : V} (h : TW H n x) (l : n ≤ 99) : Lg.Wh H x := by
  obtain ⟨a, xs, rfl, ha, l1, r⟩ := h
  exact .tup ha (by omega) (fun y hy => (r y hy).1) fun y hy => (r y hy).2
theorem TW.xt {H H' : Hp} {n : Nat} {x : V} (h : TW H n x) (s : Xt H H') : TW H' n x := by
  obtain ⟨a, xs, rfl, ha, l1, r⟩ := h
  exact ⟨a, xs, rfl, s _ _ (noT_at ha fun _ z => by cases z), l1, fun y hy => ⟨(Wb.TopS.noT (r y hy).1).same s, (r y hy).2⟩⟩
theorem itw_str {H : Hp} {z : Str} (h : PyData.strOk z = true) (l : z.length ≤ 10) : ItW H (.str z) := ⟨.one (.str (by rw [sizeLine_eq]; omega)), fun y e => by
  injection e with e
  rw [← e]
  exact h⟩
def spLimP (Pt : Addr) : Sp := fun vs H Q _ => vs = [] ∧ Tabs [(Pt, qLam)] H ∧ ∀ H', Xt H H' → Tabs [(Pt, qLam)] H' → Q (.bl true) H'
def FTu (H : Hp) (y : V) : Prop := ∃ a xs, y = .ref a ∧ H a = some (.tup xs) ∧ xs.length ≤ 9 ∧ ∀ z ∈ xs, Lt z
theorem FTu.itw {H : Hp} {y : V} (h : FTu H y) : ItW H y := by
  obtain ⟨a, xs, rfl, ha, l, r⟩ := h
  exact ⟨.tup ha l fun z hz => (r z hz).so, fun z e => by cases e⟩
theorem FTu.same {H H' : Hp} {y : V} (h : FTu H y) (s : Same H H') : FTu H' y := by
  obtain ⟨a, xs, rfl, ha, l, r⟩ := h
  exact ⟨a, xs, rfl, s _ _ ha, l, r⟩
theorem FTu.put {H : Hp} {y : V} {D : Addr} {us vs : List V} (h : FTu H y) (hD : H D = some (.lst us)) : FTu (L2.upd H D (.lst vs)) y := by
  obtain ⟨a, xs, rfl, ha, l, r⟩ := h
  exact ⟨a, xs, rfl, (upd_ne (fun z => by rw [z, hD] at ha; cases ha)).trans ha, l, r⟩
def limP : List V := [.str "a", .str "b2", .str "c", .str "d", .str "e", .str "longname", .str "g"]
theorem Tabs.put {T : List (Addr × Str)} {H : Hp} {L : Addr} {xs : List V} {o : HO} (t : Tabs T H) (h : H L = some (.lst xs)) : Tabs T (L2.upd H L o) := fun y hy => by
  obtain ⟨ps, h1, h2, h3⟩ := t y hy
  have n1 : y.1 ≠ L := ne_of h1 h fun z => by cases z
  refine ⟨ps, (upd_ne n1).trans h1, h2, fun pos cv hc => ?_⟩
  obtain ⟨c, e1, e2⟩ := h3 pos cv hc
  exact ⟨c, e1, (upd_ne (ne_of e2 h fun z => by cases z)).trans e2⟩
theorem ask_go {Pt : Addr} {G : Hp} {tV rV : V} {n m : Nat} {Q : VK} {E : XK} (hn : n ≤ 99) (hm : m ≤ 99) (ht : TW G n tV) (hr : TW G m rV) (tb : Tabs [(Pt, qLam)] G) (k : ∀ H', Xt G H' → Tabs [(Pt, qLam)] H' → Q (.bl true) H') (a : Addr) (ha : G a = none) (b : Addr) (hb : (L2.upd G a (.tup [])) b = none) (L : Addr) (hL : (L2.upd (L2.upd G a (.tup [])) b (.tup [])) L = none) :
    spPrRight Pt [.ref L] (L2.upd (L2.upd (L2.upd G a (.tup [])) b (.tup [])) L (.lst [.str "x", tV, rV, .ref a, .ref b])) Q E := by
  have s1 := Same.put (o := .tup []) (Same.refl G) ha
  have s2 := Same.put (o := .tup []) (Same.refl (L2.upd G a (.tup []))) hb
  have s3 := Same.put (o := .lst [.str "x", tV, rV, .ref a, .ref b]) (Same.refl (L2.upd (L2.upd G a (.tup [])) b (.tup []))) hL
  have s := (s1.trans s2).trans s3
  have hx : ("x" : Str) = S [120] := S_eq (by decide +kernel)
  obtain ⟨d, hd⟩ := Val.lit (p := a) (H := L2.upd (L2.upd (L2.upd G a (.tup [])) b (.tup [])) L (.lst [.str "x", tV, rV, .ref a, .ref b])) (z := "x") [120] (by decide +kernel) (by decide) (by decide)
  have w0 : ∀ {H : Hp} {a : Addr}, H a = some (.tup []) → Lg.Wh H (.ref a) := fun h => .tup h (by decide) (fun y hy => nomatch hy) (fun y hy => nomatch hy)
  exact ⟨L, a, _, tV, rV, _, _, d, rfl, upd_same, hd, TW.wh (ht.same monoW s) hn, TW.wh (hr.same monoW s) hm, w0 ((s2.trans s3) _ _ upd_same), w0 (s3 _ _ upd_same), Tabs.ext tb s, fun H' x t => k H' ((Xt.of s).trans x) t⟩
section
variable {P : Program} {w : World} {K : PySem.W.Frag} {mg : Str → Option Value} {base : Heap} {f c Pt e : Addr} {fd : FuncData} {A : LA} {B : EL} {D : DQ}
set_option maxHeartbeats 8000000 in
theorem ok_limit (FT : FunT K "_law_parts_right" "_law_parts_right" sPrRight D.prr D.dprr c) (TB : TabB base mg c Pt) (Z : Free mg) (ZT : FreeT mg) (R : LoopF K mg A e) (W : WayP K A e) (EB : ErL K mg B) (M : TakesP K B) (D' : Defs K mg D) : FnOk P w K mg base CX0 10 D.lim D.dlim [] (spLimP Pt) := by
  have GR : FnOk P w K mg base CX0 9 D.prr D.dprr ["_law_parts_here"] (spPrRight Pt) := ok_prr' FT TB Z ZT R W EB M D'
  refine D'.lim.F.ok scLim (fun vs H Q E h => by obtain ⟨rfl, _⟩ := h; rfl) (fun cdv A' outer s H vs Q E hr h => ?_)
  obtain ⟨rfl, tabs, k⟩ := h
  refine ⟨_, pss_cons (ps_set (i := 0) scLim.nd rfl (.inl rfl) (pe_tup (pa_cons pe_str (pa_cons pe_str (pa_cons pe_str (pa_cons pe_str (pa_cons pe_str (pa_cons pe_str (pa_cons pe_str pa_nil)))))))))
    (pss_cons (ps_set (i := 1) scLim.nd rfl (.inr rfl) (pe_callTy call_tuple_of (by rfl) ZT.tup (by decide +kernel) (pa_cons
      (pe_lc (own := [("_law_post", 3)]) (g := gName 3) (tt := tYes) rfl scLim.nd (pi_tup (pv 0)) (blkOk_by (N := NLim) (sc := defScope sAtLimit) (by decide +kernel)) (fun _ _ _ _ _ => pg_name (i := 3) scLim.nd rfl (.inl rfl)) (fun _ _ _ _ _ => pts_nil)
        (fun _ _ _ _ _ => pe_tup (pa_cons (pv 3) (pa_cons pe_str (pa_cons (pv 3) (pa_cons pe_int pa_nil)))))) pa_nil)))
    (pss_cons (ps_if (PW.pt (pw_or (pt_not (pt_val (pe_call GR hr rfl D'.prr.g D'.prr.kp D'.prr.b .nil pass0 (pa_cons (pe_lst (pa_cons pe_str (pa_cons (pe_slice (show SlR _ (rSlA K) from sl_tupA) (pv 0) po_none (po_some pe_int)) (pa_cons (pe_slice (show SlR _ (rSlA K) from sl_tupA) (pv 1) po_none (po_some pe_int)) (pa_cons (pe_tup pa_nil) (pa_cons (pe_tup pa_nil) pa_nil)))))) pa_nil))))
        (pw_or1 (pt_not (pt_val (pe_call GR hr rfl D'.prr.g D'.prr.kp D'.prr.b .nil pass0 (pa_cons (pe_lst (pa_cons pe_str (pa_cons (pv 0) (pa_cons (pv 1) (pa_cons (pe_tup pa_nil) (pa_cons (pe_tup pa_nil) pa_nil)))))) pa_nil))))))) (pss_one ps_never) pss_nil)
    (pss_cons (ps_set (i := 2) scLim.nd rfl (.inl rfl) (pe_lst (pa_cons (pe_op (show OpR _ _ (rCatA K) from op_catA) (pe_op (show OpR _ _ (rCatA K) from op_catA) (pe_slice (show SlR _ (rSlA K) from sl_tupA) (pv 0) po_none (po_some pe_int)) (pe_tup (pa_cons pe_str pa_nil))) (pe_slice (show SlR _ (rSlA K) from sl_tupA) (pv 0) (po_some pe_int) po_none))
      (pa_cons (pe_op (show OpR _ _ (rCatA K) from op_catA) (pe_slice (show SlR _ (rSlA K) from sl_tupA) (pv 0) po_none (po_some pe_int)) (pe_tup (pa_cons pe_str pa_nil)))
      (pa_cons (pe_op (show OpR _ _ (rCatA K) from op_catA) (pe_slice (show SlR _ (rSlA K) from sl_tupA) (pv 0) po_none (po_some pe_int)) (pe_tup (pa_cons pe_str (pa_cons pe_str pa_nil))))
      (pa_cons (pe_tup pa_nil) pa_nil))))))
    (pss_one (ps_ret (pe_callB (cr_all rfl) (by rfl) Z.all (by decide +kernel) (pa_cons
      (pe_lc (own := [("_law_states_here", 4)]) (g := gName 4) (tt := tYes) rfl scLim.nd (pi_list (pv 2)) (blkOk_by (N := NLim) (sc := defScope sAtLimit) (by decide +kernel)) (fun _ _ _ _ _ => pg_name (i := 4) scLim.nd rfl (.inl rfl)) (fun _ _ _ _ _ => pts_nil)
        (fun _ _ _ _ _ => pe_call GR hr rfl D'.prr.g D'.prr.kp D'.prr.b .nil pass0 (pa_cons (pe_lst (pa_cons pe_str (pa_cons (pv 4) (pa_cons (pv 1) (pa_cons (pe_tup pa_nil) (pa_cons (pe_tup pa_nil) pa_nil)))))) pa_nil))) pa_nil))))))), ?_⟩
  have o10 : ∀ z ∈ (["a", "b2", "c", "d", "e", "longname", "g", "x", "Z", "longnames"] : List Str), PyData.strOk z = true ∧ z.length ≤ 10 := by decide +kernel
  refine ⟨by show 7 ≤ sizeLine; decide, fun t ht => ?_⟩
  have s1 := Same.put (o := .tup limP) (Same.refl H) ht
  have e1 : (L2.upd H t (.tup limP)) t = some (.tup limP) := upd_same
  have tb1 := Tabs.ext tabs s1
  have x1 := Xt.of s1
  show gName 0 (.ref t) (L2.start NLim []) (L2.upd H t (.tup limP)) _
  generalize L2.upd H t (.tup limP) = H1 at s1 e1 tb1 x1 ⊢
  have lim_ok : ∀ y ∈ limP, ∃ z : Str, y = .str z ∧ PyData.strOk z = true ∧ z.length ≤ 10 := fun y hy => by
    have q : ∀ z ∈ (["a", "b2", "c", "d", "e", "longname", "g"] : List Str), PyData.strOk z = true ∧ z.length ≤ 10 := by decide +kernel
    have hy : y ∈ (["a", "b2", "c", "d", "e", "longname", "g"] : List Str).map V.str := hy
    obtain ⟨z, hz, rfl⟩ := List.mem_map.mp hy
    exact ⟨z, rfl, q z hz⟩
  have itS : ∀ {G : Hp} (z : Str), z ∈ (["a", "b2", "c", "d", "e", "longname", "g", "x", "Z", "longnames"] : List Str) → ItW G (.str z) := fun z hz => itw_str (o10 z hz).1 (o10 z hz).2
  have T1 : TW H1 7 (.ref t) := ⟨t, limP, rfl, e1, by decide, fun y hy => by
    obtain ⟨z, rfl, o, l⟩ := lim_ok y hy
    exact itw_str o l⟩
  refine ⟨_, rfl, t, rfl, ⟨_, SqT.of e1⟩, fun D0 hD => lc_it (walk_tup (xs := limP)) (fun i G => ∃ acc : List V, G D0 = some (.lst acc) ∧ acc.length = i ∧ (∀ y ∈ acc, FTu G y) ∧ Same H1 G) ⟨[], upd_same, rfl, (fun y hy => nomatch hy), Same.put (Same.refl H1) hD⟩ (fun _ _ _ h => SqT.of (h.choose_spec.2.2.2 _ _ e1)) ?_ ?_⟩
  · rintro i x G G' hi ⟨acc, h1, hl, hit, hs⟩ ⟨rfl, hx⟩
    obtain ⟨z, rfl, oz, lz⟩ := lim_ok x (List.mem_of_getElem? hx)
    refine ⟨rfl, _, rfl, _, rfl, by show 4 ≤ sizeLine; decide, fun a ha => ?_⟩
    have s2 := Same.put (o := .tup [.str z, .str "x", .str z, .int 0]) (Same.refl G') ha
    have ea : (L2.upd G' a (.tup [.str z, .str "x", .str z, .int 0])) a = some (.tup [.str z, .str "x", .str z, .int 0]) := upd_same
    generalize L2.upd G' a (.tup [.str z, .str "x", .str z, .int 0]) = G2 at s2 ea ⊢
    have h2 := s2 _ _ h1
    have i7 : i < 7 := hi
    refine ⟨acc, h2, by rw [hl, sizeLine_eq]; omega, acc ++ [.ref a], upd_same, by rw [List.length_append, hl] <;> rfl, fun y hy => ?_, Same.new' (hs.trans s2) hD⟩
    rcases List.mem_append.mp hy with hy | hy
    · exact ((hit y hy).same s2).put h2
    · rw [List.mem_singleton.mp hy]
      refine FTu.put ⟨a, _, rfl, ea, by show 4 ≤ 9; decide, fun u hu => ?_⟩ h2
      have hu : u = .str z ∨ u = .str "x" ∨ u = .str z ∨ u = .int 0 := by simpa using hu
      rcases hu with rfl | rfl | rfl | rfl
      · exact .inl ⟨z, rfl, oz, lz⟩
      · exact .inl ⟨"x", rfl, by decide +kernel, by decide +kernel⟩
      · exact .inl ⟨z, rfl, oz, lz⟩
      · exact .inr ⟨0, rfl⟩
  · rintro G ⟨acc, h1, hl, hit, hs⟩
    have hl : acc.length = 7 := hl
    refine ⟨D0, _, rfl, .inl ⟨SqL.of h1, fun r hr' => ?_⟩⟩
    have s2 := Same.put (o := .tup acc) (Same.refl G) hr'
    have T2 : TW (L2.upd G r (.tup acc)) 7 (.ref r) := ⟨r, acc, rfl, upd_same, by omega, fun y hy => ((hit y hy).same s2).itw⟩
    have T12 := T1.same monoW (hs.trans s2)
    have tb2 := Tabs.ext tb1 (hs.trans s2)
    have x2 := x1.trans (Xt.of (hs.trans s2))
    have h2 := s2 _ _ h1
    show gName 1 (.ref r) (List.set (L2.start NLim []) 0 (some (V.ref t))) (L2.upd G r (.tup acc)) _
    generalize L2.upd G r (.tup acc) = G2 at s2 T2 T12 tb2 x2 h2 ⊢
    clear s1 T1 e1 tb1 x1 hit h1 hs s2 hD hr'
    refine ⟨_, rfl, ?_⟩
    dsimp only [tNoPart]
    refine ⟨_, rfl, slW monoW T12 fun p1 G3 s3 t3 => ⟨_, rfl, ?_⟩⟩
    dsimp only [tNoPart]
    refine ⟨_, rfl, slW monoW (T2.same monoW s3) fun p2 G4 s4 t4 => ?_⟩
    refine ⟨by show 0 ≤ sizeLine; decide, fun a ha => ⟨by show 0 ≤ sizeLine; decide, fun b hb => ⟨by show 5 ≤ sizeLine; decide, fun L hL => ?_⟩⟩⟩
    dsimp only [tNil, List.cons_append, List.nil_append]
    refine ask_go (n := 7) (m := 7) (by decide) (by decide) (t3.same monoW s4) t4 (Tabs.ext tb2 (s3.trans s4)) (fun G5 x5 tb5 => ⟨_, rfl, ?_⟩) a ha b hb L hL
    have x25 : Xt G2 G5 := (Xt.of (s3.trans s4)).trans x5
    have T5 := TW.xt T12 x25
    have R5 := TW.xt T2 x25
    clear ha hb hL t3 t4 s3 s4 T12 tb2
    refine iteF ⟨_, rfl, _, rfl, by show 0 ≤ sizeLine; decide, fun a ha => ⟨by show 0 ≤ sizeLine; decide, fun b hb => ⟨by show 5 ≤ sizeLine; decide, fun L hL => ?_⟩⟩⟩
    dsimp only [tNil, List.cons_append, List.nil_append]
    refine ask_go (n := 7) (m := 7) (by decide) (by decide) T5 R5 tb5 (fun G6 x6 tb6 => ⟨_, rfl, iteF ?_⟩) a ha b hb L hL
    have x26 := x25.trans x6
    have T6 := TW.xt T5 x6
    have R6 := TW.xt R5 x6
    clear ha hb hL T5 R5 x25
    refine ⟨_, rfl, ?_⟩
    dsimp only [tNoPart]
    refine ⟨_, rfl, slW monoW T6 fun p1 G7 s7 t7 => ⟨by show 1 ≤ sizeLine; decide, fun b1 hb1 => ?_⟩⟩
    have s8 := Same.put (o := .tup [.str "a"]) (Same.refl G7) hb1
    refine catW monoW (t7.same monoW s8) (oneW monoW (itS "a" (by decide +kernel)) hb1) (by decide) fun p2 G9 s9 t9 => ?_
    have s69 := (s7.trans s8).trans s9
    refine ⟨_, rfl, _, rfl, ?_⟩
    dsimp only [tNoPart]
    refine slW monoW (T6.same monoW s69) fun p3 Ga sa ta => catW monoW (t9.same monoW sa) ta (by decide) fun r1 Gb sb tb => ?_
    have s6b := (s69.trans sa).trans sb
    refine ⟨_, rfl, ?_⟩
    dsimp only [tNoPart]
    refine ⟨_, rfl, slW monoW (T6.same monoW s6b) fun p4 Gc sc tc => ⟨by show 1 ≤ sizeLine; decide, fun b2 hb2 => ?_⟩⟩
    have sd := Same.put (o := .tup [.str "Z"]) (Same.refl Gc) hb2
    refine catW monoW (tc.same monoW sd) (oneW monoW (itS "Z" (by decide +kernel)) hb2) (by decide) fun r2 Ge se te => ?_
    have sbe := (sc.trans sd).trans se
    refine ⟨_, rfl, ?_⟩
    dsimp only [tNoPart]
    refine ⟨_, rfl, slW monoW (T6.same monoW (s6b.trans sbe)) fun p5 Gf sf tf => ⟨by show 2 ≤ sizeLine; decide, fun b3 hb3 => ?_⟩⟩
    have sg := Same.put (o := .tup [.str "longnames", .str "g"]) (Same.refl Gf) hb3
    have tg : TW (L2.upd Gf b3 (.tup [.str "longnames", .str "g"])) 2 (.ref b3) := ⟨b3, _, rfl, upd_same, by decide, fun y hy => by
      rcases List.mem_cons.mp hy with rfl | hy
      · exact itS "longnames" (by decide +kernel)
      · rw [List.mem_singleton.mp hy]
        exact itS "g" (by decide +kernel)⟩
    refine catW monoW (tf.same monoW sg) tg (by decide) fun r3 Gh sh th => ⟨by show 0 ≤ sizeLine; decide, fun b4 hb4 => ⟨by show 4 ≤ sizeLine; decide, fun L4 hL4 => ?_⟩⟩
    have s4 := Same.put (o := .tup []) (Same.refl Gh) hb4
    have sL := Same.put (o := .lst [r1, r2, r3, .ref b4]) (Same.refl (L2.upd Gh b4 (.tup []))) hL4
    have eL : (L2.upd (L2.upd Gh b4 (.tup [])) L4 (.lst [r1, r2, r3, .ref b4])) L4 = some (.lst [r1, r2, r3, .ref b4]) := upd_same
    have sz := ((sf.trans sg).trans sh).trans (s4.trans sL)
    have z1 : TW (L2.upd (L2.upd Gh b4 (.tup [])) L4 (.lst [r1, r2, r3, .ref b4])) 20 r1 := (tb.same monoW (sbe.trans sz)).mono (by decide)
    have z2 : TW (L2.upd (L2.upd Gh b4 (.tup [])) L4 (.lst [r1, r2, r3, .ref b4])) 20 r2 := (te.same monoW sz).mono (by decide)
    have z3 : TW (L2.upd (L2.upd Gh b4 (.tup [])) L4 (.lst [r1, r2, r3, .ref b4])) 20 r3 := (th.same monoW (s4.trans sL)).mono (by decide)
    have z4 : TW (L2.upd (L2.upd Gh b4 (.tup [])) L4 (.lst [r1, r2, r3, .ref b4])) 20 (.ref b4) := ⟨b4, [], rfl, sL _ _ upd_same, by decide, fun y hy => nomatch hy⟩
    have s6z := (s6b.trans sbe).trans sz
    have xz := x26.trans (Xt.of s6z)
    have Rz := R6.same monoW s6z
    have tbz := Tabs.ext tb6 s6z
    show gName 2 (.ref L4) ((List.set (L2.start NLim []) 0 (some (V.ref t))).set 1 (some (V.ref r))) (L2.upd (L2.upd Gh b4 (.tup [])) L4 (.lst [r1, r2, r3, .ref b4])) _
    generalize L2.upd (L2.upd Gh b4 (.tup [])) L4 (.lst [r1, r2, r3, .ref b4]) = Gz at eL z1 z2 z3 z4 xz Rz tbz ⊢
    clear s4 sL sz s6z sbe s6b sg sh sf sd se sc s69 s8 s9 s7 sa sb hb1 hb2 hb3 hb4 hL4 tg tf th te tc tb ta t9 t7 T6 R6
    have all : ∀ y ∈ [r1, r2, r3, V.ref b4], TW Gz 20 y := fun y hy => by
      have hy : y = r1 ∨ y = r2 ∨ y = r3 ∨ y = .ref b4 := by simpa using hy
      rcases hy with rfl | rfl | rfl | rfl
      · exact z1
      · exact z2
      · exact z3
      · exact z4
    have all2 : ∀ n : Nat, (List.replicate n true).all id = true := fun n => List.all_eq_true.mpr fun b hb => by rw [List.eq_of_mem_replicate hb] <;> rfl
    refine ⟨_, rfl, L4, rfl, ⟨_, SqL.of eL⟩, fun D1 hD => lc_it (walk_list (xs := [r1, r2, r3, V.ref b4])) (fun i G => G D1 = some (.lst ((List.replicate i true).map V.bl)) ∧ Xt Gz G ∧ Tabs [(Pt, qLam)] G) ⟨upd_same, Xt.of (Same.put (Same.refl Gz) hD), Tabs.ext tbz (Same.put (Same.refl Gz) hD)⟩ (fun _ _ _ h => SqL.of (h.2.1 _ _ (noT_at eL fun _ z => by cases z))) ?_ ?_⟩
    · rintro i x G G' hi ⟨h1, h2, h3⟩ ⟨rfl, hx⟩
      have i4 : i < 4 := hi
      have tx := TW.xt (all x (List.mem_of_getElem? hx)) h2
      refine ⟨rfl, _, rfl, _, rfl, by show 0 ≤ sizeLine; decide, fun a ha => ⟨by show 0 ≤ sizeLine; decide, fun b hb => ⟨by show 5 ≤ sizeLine; decide, fun L hL => ?_⟩⟩⟩
      dsimp only [tNil, List.cons_append, List.nil_append]
      refine ask_go (n := 20) (m := 7) (by decide) (by decide) tx (TW.xt Rz h2) h3 (fun Gy xy tby => ?_) a ha b hb L hL
      have h1y := xy _ _ (noT_at h1 fun _ z => by cases z)
      refine ⟨_, h1y, by rw [List.length_map, List.length_replicate, sizeLine_eq]; omega, by rw [upd_same, List.replicate_succ', List.map_append] <;> rfl, ?_, Tabs.put tby h1y⟩
      exact fun b o e => by
        rw [upd_ne (ne_of_none (noT_inv e).1 hD)]
        exact (h2.trans xy) b o e
    · rintro G ⟨h1, h2, h3⟩
      refine ⟨D1, _, rfl, SqL.of h1, ?_⟩
      rw [all2]
      exact k G ((x2.trans xz).trans h2) h3
end
end Wb
/-! k14: the law -/
namespace Wb
open PySem L2 WbMin WbS Lz Le LamX Lj
open Lg hiding int_lt keepA keep5 cut_at sLOdd
abbrev sLaw : Stmt := top 84
def spLawT (K : PySem.W.Frag) (Pt : Addr) : Sp := fun vs H Q _ => ∃ (a : Addr) (ns : List Int), vs = [.ref a] ∧ SqL K H a (ns.map V.int) ∧ ns.length ≤ 63 ∧ Tabs [(Pt, qLam)] H ∧ ∀ H', Q (.bl true) H'
theorem SqL.noT {K : PySem.W.Frag} {H : Hp} {a : Addr} {xs : List V} (h : SqL K H a xs) : SqL K (noT H) a xs := by
  rcases h with (q | ⟨o, q⟩) | q
  · exact .inl (.inl (noT_at q (fun _ z => by cases z)))
  · exact .inl (.inr ⟨o, noT_at q (fun _ z => by cases z)⟩)
  · exact .inr q
theorem Tabs.new {T : List (Addr × Str)} {H : Hp} {L : Addr} {o : HO} (t : Tabs T H) (h : H L = none) : Tabs T (L2.upd H L o) := fun y hy => by
  obtain ⟨ps, h1, h2, h3⟩ := t y hy
  refine ⟨ps, (upd_ne (ne_of_none h1 h)).trans h1, h2, fun pos cv hc => ?_⟩
  obtain ⟨c, e1, e2⟩ := h3 pos cv hc
  exact ⟨c, e1, (upd_ne (ne_of_none e2 h)).trans e2⟩
section
variable {P : Program} {w : World} {K : PySem.W.Frag} {mg : Str → Option Value} {base : Heap} {f c Pt e : Addr} {fd : FuncData} {A : LA} {B : EL} {D : DQ}
theorem scLa : FnScope ["_law_script", "_law_k"] ["_law_script"] (defScope sLaw) := ⟨rfl, rfl, rfl, by decide +kernel, rfl, by decide +kernel, by decide +kernel⟩
set_option maxHeartbeats 4000000 in
theorem ok_law (F : Fun K "law" "law" sLaw f fd) (TB : TabB base mg c Pt) (FT : FunT K "_law_parts_right" "_law_parts_right" sPrRight D.prr D.dprr c) (Z : Free mg) (ZT : FreeT mg) (R : LoopF K mg A e) (W : WayP K A e) (EB : ErL K mg B) (M : TakesP K B)
    (D' : Defs K mg D) : FnOk P w K mg base CX0 11 f fd ["_law_script"] (spLawT K Pt) := by
  have GC : FnOk P w K mg base CX0 1 D.cell D.dcell ["_law_script", "_law_k"] (spCell K) := ok_cell D'.cell.F Z.int Z.len
  have GP : FnOk P w K mg base CX0 1 D.pool D.dpool ["_law_cell_here"] spPool := ok_pool D'.pool.F Z.abs Z.int
  have GR : FnOk P w K mg base CX0 10 D.right D.dright ["_law_pool_here"] (spRightP Pt) := ok_right FT TB Z ZT R W EB M D'
  have GL : FnOk P w K mg base CX0 10 D.lim D.dlim [] (spLimP Pt) := ok_limit FT TB Z ZT R W EB M D'
  refine F.ok scLa (fun vs H Q E h => ?_) (fun cdv A' outer s H vs Q E hr h => ?_)
  · obtain ⟨a, ns, rfl, _⟩ := h
    rfl
  · obtain ⟨a, ns, rfl, hS0, hlen, tabs0, k⟩ := h
    have hr1 : Room 1 _ := hr.mono (by decide)
    refine ⟨_, pss_cons (ps_if (pt_not (pt_val (pe_call0 GL hr rfl D'.lim.g D'.lim.kp D'.lim.b .nil pass0))) (pss_one ps_never) pss_nil)
      (pss_one (ps_ret (pe_callB (cr_all rfl) (by rfl) Z.all (by decide +kernel) (pa_cons
      (pe_lc (own := [("_law_k", 1)]) (g := gName 1) (tt := tYes) rfl scLa.nd (pi_range1 rfl Z.range (pa_cons (pe_callB (call_max2 rfl) (by rfl) Z.max (by decide +kernel) (pa_cons pe_int (pa_cons
            (pe_callB (call_min2 rfl) (by rfl) Z.min (by decide +kernel) (pa_cons (pe_callB call_len_seq (by rfl) Z.len PySem.boot_len (pa_cons (pv 0) pa_nil)) (pa_cons pe_int pa_nil))) pa_nil))) pa_nil))
        (blkOk_by (N := ["_law_script", "_law_k"]) (sc := defScope sLaw) (by decide +kernel)) (fun _ _ _ _ _ => pg_name (i := 1) scLa.nd rfl (.inl rfl)) (fun _ _ _ _ _ => pts_nil)
        (fun _ _ _ _ _ => pe_call GR hr rfl D'.right.g D'.right.kp D'.right.b .nil pass0 (pa_cons (pe_call GP hr1 rfl D'.pool.g D'.pool.kp D'.pool.b .nil pass0 (pa_cons (pe_call GC hr1 rfl D'.cell.g D'.cell.kp D'.cell.b .nil pass0 (pa_cons (pv 0) (pa_cons (pv 1) pa_nil))) pa_nil)) pa_nil))) pa_nil)))), ?_⟩
    have few : (ns.map V.int).length ≤ 63 := by rw [List.length_map]; exact hlen
    have all2 : ∀ n : Nat, (List.replicate n true).all id = true := fun n => List.all_eq_true.mpr fun b hb => by rw [List.eq_of_mem_replicate hb] <;> rfl
    refine ⟨rfl, tabs0, fun H1 x1 tabs => ⟨_, rfl, iteF ?_⟩⟩
    have hS := Same.seq x1 (SqL.noT hS0)
    refine ⟨_, rfl, a, _, rfl, .inl hS, _, _, rfl, _, _, rfl, _, rfl, ?_, ?_, fun L hL => lc_it walk_range (fun i H3 => H3 L = some (.lst ((List.replicate i true).map V.bl)) ∧ Xt H1 H3 ∧ Tabs [(Pt, qLam)] H3) ⟨upd_same, Xt.of (Same.put (Same.refl H1) hL), Tabs.new tabs hL⟩ (fun _ _ _ _ => trivial) ?_ ?_⟩
    · split <;> split <;> omega
    · split <;> split <;> omega
    · rintro i x H3 H3' hi ⟨h1, h2, h3⟩ ⟨rfl, rfl⟩
      have hi' : i < 8 := by
        have q := hi
        split at q <;> (try split at q) <;> omega
      refine ⟨rfl, _, rfl, _, rfl, a, ns, _, rfl, Same.seq h2 (SqL.noT hS), hlen, by omega, by omega, fun n H4 s4 => ⟨_, rfl, fun p H5 np s5 hp => ⟨p, rfl, hp, Tabs.ext h3 (s4.trans s5), fun H6 b6 t6 => ?_⟩⟩⟩
      have h4 := s4 _ _ h1
      have s6 : Xt H1 H6 := fun b o e => by
        have q := s4 _ _ (h2 _ _ e)
        exact b6 b o (ne_of_none q np) (noT_at (s5 _ _ q) (noT_inv e).2)
      have hL6 := b6 L _ (ne_of_none h4 np) (noT_at (s5 _ _ h4) (fun _ z => by cases z))
      refine ⟨_, hL6, ?_, ?_, ?_, Tabs.put t6 hL6⟩
      · rw [List.length_map, List.length_replicate, sizeLine_eq]
        omega
      · rw [upd_same, List.replicate_succ', List.map_append] <;> rfl
      · exact fun b o e => by
          rw [upd_ne (ne_of_none (noT_inv e).1 hL)]
          exact s6 b o e
    · rintro H3 ⟨h1, h2, h3⟩
      refine ⟨L, _, rfl, SqL.of h1, ?_⟩
      rw [all2]
      exact k H3
end
end Wb
namespace Wb
open PySem L2 WbMin WbS Lz Lj
open Lg hiding int_lt keepA keep5 cut_at sLOdd
set_option maxHeartbeats 0 in
theorem all_mk {l : PySem.W.OpenLaw} {w : World} {K : PySem.W.Frag} {h : Heap} {mg : Str → Option Value} {fa C T O  tD kD e e2 pW : Addr} {t600 t4 t8 t6  : Tok} {rW : List Value} {oc_tD : Value} {od_tD : Option Addr} {n_tD : Nat} {sl_tD : Array (Option Value)} (X : K.In h) (G : h.Ns mainGlobals mg) (hfa : mg "law" = some (.ref fa))
    {f_cell f_pool f_draw f_shuf f_face f_whole f_odd f_signs f_isword f_name f_names f_amount f_model f_line f_isname f_step f_ende f_bads f_std f_rod f_end_ f_yed f_due f_parts f_bent f_spline f_spoilt f_heard f_prr f_right f_lim f_ksigns f_ksignof f_kfirst f_kisword f_kisname f_kisint f_kintfrom f_kstateof f_krowof f_kturnof f_kchst f_kchro f_kchtu f_kchye f_korro f_kortu f_korye f_law f_mI f_mW f_mAn f_mSt f_mTx f_mGo f_mOf f_mtI f_mtG f_mcI f_mcP f_mcB : Addr} {od_cell an_cell od_pool an_pool od_draw an_draw od_shuf an_shuf od_face an_face od_whole an_whole od_odd an_odd od_signs an_signs od_isword an_isword od_name an_name od_names an_names od_amount an_amount od_model an_model od_line an_line od_isname an_isname od_step an_step od_ende an_ende od_bads an_bads od_std an_std od_rod an_rod od_end_ an_end_ od_yed an_yed od_due an_due od_parts an_parts od_bent an_bent od_spline an_spline od_spoilt an_spoilt od_heard an_heard od_prr an_prr od_right an_right od_lim an_lim od_ksigns an_ksigns od_ksignof an_ksignof od_kfirst an_kfirst od_kisword an_kisword od_kisname an_kisname od_kisint an_kisint od_kintfrom an_kintfrom od_kstateof an_kstateof od_krowof an_krowof od_kturnof an_kturnof od_kchst an_kchst od_kchro an_kchro od_kchtu an_kchtu od_kchye an_kchye od_korro an_korro od_kortu an_kortu od_korye an_korye od_law an_law od_mI an_mI od_mW an_mW od_mAn an_mAn od_mSt an_mSt od_mTx an_mTx od_mGo an_mGo od_mOf an_mOf od_mtI an_mtI od_mtG an_mtG od_mcI an_mcI od_mcP an_mcP od_mcB an_mcB : Option Addr} {sl_cell sl_pool sl_draw sl_shuf sl_face sl_whole sl_odd sl_signs sl_isword sl_name sl_names sl_amount sl_model sl_line sl_isname sl_step sl_ende sl_bads sl_std sl_rod sl_end_ sl_yed sl_due sl_parts sl_bent sl_spline sl_spoilt sl_heard sl_prr sl_right sl_lim sl_ksigns sl_ksignof sl_kfirst sl_kisword sl_kisname sl_kisint sl_kintfrom sl_kstateof sl_krowof sl_kturnof sl_kchst sl_kchro sl_kchtu sl_kchye sl_korro sl_kortu sl_korye sl_law sl_mI sl_mW sl_mAn sl_mSt sl_mTx sl_mGo sl_mOf sl_mtI sl_mtG sl_mcI sl_mcP sl_mcB : Array (Option Value)}
    {od_e0 od_e2 : Option Addr}
    {n_e0 n_e2 : Nat}
    {sl_e0 sl_e2 : Array (Option Value)}
    {cRt PtR w0 : Addr}
    {oc_cR : Value}
    {od_cR : Option Addr}
    {sl_cR : Array (Option Value)}
    {vsR : Array Value}
    {cGG : Addr}
    {cSS : Addr}
    {cRR : Addr}
    {cTT : Addr}
    {NGG f_eGG : Addr}
    {nmGG qGG : Str}
    {bsGG suGG : List Value}
    {snGG : List Str}
    {abGG : Bool}
    {coGG : Option Bool}
    {ddGG : Option Addr}
    {xGG_0 xGG_1 xGG_2 xGG_3 xGG_5 : Option Value}
    {od_eGG an_eGG : Option Addr}
    {sl_eGG : Array (Option Value)}
    {oc_eGG kv_eGG dc_eGG pm_eGG cd_eGG ct_eGG : Value}
    {NSS f_eSS : Addr}
    {nmSS qSS : Str}
    {bsSS suSS : List Value}
    {snSS : List Str}
    {abSS : Bool}
    {coSS : Option Bool}
    {ddSS : Option Addr}
    {xSS_0 xSS_1 xSS_2 xSS_3 xSS_5 : Option Value}
    {od_eSS an_eSS : Option Addr}
    {sl_eSS : Array (Option Value)}
    {oc_eSS kv_eSS dc_eSS pm_eSS cd_eSS ct_eSS : Value}
    {NRR f_eRR : Addr}
    {nmRR qRR : Str}
    {bsRR suRR : List Value}
    {snRR : List Str}
    {abRR : Bool}
    {coRR : Option Bool}
    {ddRR : Option Addr}
    {xRR_0 xRR_1 xRR_2 xRR_3 xRR_5 : Option Value}
    {od_eRR an_eRR : Option Addr}
    {sl_eRR : Array (Option Value)}
    {oc_eRR kv_eRR dc_eRR pm_eRR cd_eRR ct_eRR : Value}
    {NTT f_eTT : Addr}
    {nmTT qTT : Str}
    {bsTT suTT : List Value}
    {snTT : List Str}
    {abTT : Bool}
    {coTT : Option Bool}
    {ddTT : Option Addr}
    {xTT_0 xTT_1 xTT_2 xTT_3 xTT_5 : Option Value}
    {od_eTT an_eTT : Option Addr}
    {sl_eTT : Array (Option Value)}
    {oc_eTT kv_eTT dc_eTT pm_eTT cd_eTT ct_eTT : Value}
    {oc_cell kv_cell dc_cell pm_cell cd_cell ct_cell oc_pool kv_pool dc_pool pm_pool cd_pool ct_pool oc_draw kv_draw dc_draw pm_draw cd_draw ct_draw oc_shuf kv_shuf dc_shuf pm_shuf cd_shuf ct_shuf oc_face kv_face dc_face pm_face cd_face ct_face oc_whole kv_whole dc_whole pm_whole cd_whole ct_whole oc_odd kv_odd dc_odd pm_odd cd_odd ct_odd oc_signs kv_signs dc_signs pm_signs cd_signs ct_signs oc_isword kv_isword dc_isword pm_isword cd_isword ct_isword oc_name kv_name dc_name pm_name cd_name ct_name oc_names kv_names dc_names pm_names cd_names ct_names oc_amount kv_amount dc_amount pm_amount cd_amount ct_amount oc_model kv_model dc_model pm_model cd_model ct_model oc_line kv_line dc_line pm_line cd_line ct_line oc_isname kv_isname dc_isname pm_isname cd_isname ct_isname oc_step kv_step dc_step pm_step cd_step ct_step oc_ende kv_ende dc_ende pm_ende cd_ende ct_ende oc_bads kv_bads dc_bads pm_bads cd_bads ct_bads oc_std kv_std dc_std pm_std cd_std ct_std oc_rod kv_rod dc_rod pm_rod cd_rod ct_rod oc_end_ kv_end_ dc_end_ pm_end_ cd_end_ ct_end_ oc_yed kv_yed dc_yed pm_yed cd_yed ct_yed oc_due kv_due dc_due pm_due cd_due ct_due oc_parts kv_parts dc_parts pm_parts cd_parts ct_parts oc_bent kv_bent dc_bent pm_bent cd_bent ct_bent oc_spline kv_spline dc_spline pm_spline cd_spline ct_spline oc_spoilt kv_spoilt dc_spoilt pm_spoilt cd_spoilt ct_spoilt oc_heard kv_heard dc_heard pm_heard cd_heard ct_heard oc_prr kv_prr dc_prr pm_prr ct_prr oc_right kv_right dc_right pm_right cd_right ct_right oc_lim kv_lim dc_lim pm_lim cd_lim ct_lim oc_ksigns kv_ksigns dc_ksigns pm_ksigns cd_ksigns ct_ksigns oc_ksignof kv_ksignof dc_ksignof pm_ksignof cd_ksignof ct_ksignof oc_kfirst kv_kfirst dc_kfirst pm_kfirst cd_kfirst ct_kfirst oc_kisword kv_kisword dc_kisword pm_kisword cd_kisword ct_kisword oc_kisname kv_kisname dc_kisname pm_kisname cd_kisname ct_kisname oc_kisint kv_kisint dc_kisint pm_kisint cd_kisint ct_kisint oc_kintfrom kv_kintfrom dc_kintfrom pm_kintfrom cd_kintfrom ct_kintfrom oc_kstateof kv_kstateof dc_kstateof pm_kstateof cd_kstateof ct_kstateof oc_krowof kv_krowof dc_krowof pm_krowof cd_krowof ct_krowof oc_kturnof kv_kturnof dc_kturnof pm_kturnof cd_kturnof ct_kturnof oc_kchst kv_kchst dc_kchst pm_kchst cd_kchst ct_kchst oc_kchro kv_kchro dc_kchro pm_kchro cd_kchro ct_kchro oc_kchtu kv_kchtu dc_kchtu pm_kchtu cd_kchtu ct_kchtu oc_kchye kv_kchye dc_kchye pm_kchye cd_kchye ct_kchye oc_korro kv_korro dc_korro pm_korro cd_korro ct_korro oc_kortu kv_kortu dc_kortu pm_kortu cd_kortu ct_kortu oc_korye kv_korye dc_korye pm_korye cd_korye ct_korye oc_law kv_law dc_law pm_law cd_law ct_law oc_mI dc_mI pm_mI cd_mI ct_mI oc_mW kv_mW dc_mW pm_mW cd_mW ct_mW oc_mAn kv_mAn dc_mAn pm_mAn cd_mAn ct_mAn oc_mSt kv_mSt dc_mSt pm_mSt cd_mSt ct_mSt oc_mTx kv_mTx dc_mTx pm_mTx cd_mTx ct_mTx oc_mGo kv_mGo dc_mGo pm_mGo cd_mGo ct_mGo oc_mOf kv_mOf dc_mOf pm_mOf cd_mOf ct_mOf oc_mtI kv_mtI dc_mtI pm_mtI cd_mtI ct_mtI oc_mtG kv_mtG dc_mtG pm_mtG cd_mtG ct_mtG oc_mcI kv_mcI dc_mcI pm_mcI cd_mcI ct_mcI oc_mcP kv_mcP dc_mcP pm_mcP cd_mcP ct_mcP oc_mcB kv_mcB dc_mcB pm_mcB cd_mcB ct_mcB : Value}
    (a_cell : PySem.W.nsIn K mainGlobals "_law_cell" = some (some (.ref f_cell)))
    (l_cell : K.lookup f_cell = some ⟨oc_cell, od_cell, .func (PySem.W.fnOf "_law_cell" "_law_cell" (defArgs sCell) (defBody sCell) (defScope sCell) .none kv_cell dc_cell pm_cell an_cell cd_cell ct_cell), sl_cell⟩)
    (c_cell : PySem.W.codeIn K cd_cell "_law_cell" = true)
    (k_cell : PySem.W.keepIn K (.ref f_cell) = true)
    (a_pool : PySem.W.nsIn K mainGlobals "_law_pool" = some (some (.ref f_pool)))
    (l_pool : K.lookup f_pool = some ⟨oc_pool, od_pool, .func (PySem.W.fnOf "_law_pool" "_law_pool" (defArgs sPool) (defBody sPool) (defScope sPool) .none kv_pool dc_pool pm_pool an_pool cd_pool ct_pool), sl_pool⟩)
    (c_pool : PySem.W.codeIn K cd_pool "_law_pool" = true)
    (k_pool : PySem.W.keepIn K (.ref f_pool) = true)
    (a_draw : PySem.W.nsIn K mainGlobals "_law_draw" = some (some (.ref f_draw)))
    (l_draw : K.lookup f_draw = some ⟨oc_draw, od_draw, .func (PySem.W.fnOf "_law_draw" "_law_draw" (defArgs sDraw) (defBody sDraw) (defScope sDraw) .none kv_draw dc_draw pm_draw an_draw cd_draw ct_draw), sl_draw⟩)
    (c_draw : PySem.W.codeIn K cd_draw "_law_draw" = true)
    (k_draw : PySem.W.keepIn K (.ref f_draw) = true)
    (a_shuf : PySem.W.nsIn K mainGlobals "_law_shuffled" = some (some (.ref f_shuf)))
    (l_shuf : K.lookup f_shuf = some ⟨oc_shuf, od_shuf, .func (PySem.W.fnOf "_law_shuffled" "_law_shuffled" (defArgs sShuf) (defBody sShuf) (defScope sShuf) .none kv_shuf dc_shuf pm_shuf an_shuf cd_shuf ct_shuf), sl_shuf⟩)
    (c_shuf : PySem.W.codeIn K cd_shuf "_law_shuffled" = true)
    (k_shuf : PySem.W.keepIn K (.ref f_shuf) = true)
    (a_face : PySem.W.nsIn K mainGlobals "_law_face" = some (some (.ref f_face)))
    (l_face : K.lookup f_face = some ⟨oc_face, od_face, .func (PySem.W.fnOf "_law_face" "_law_face" (defArgs sFace) (defBody sFace) (defScope sFace) .none kv_face dc_face pm_face an_face cd_face ct_face), sl_face⟩)
    (c_face : PySem.W.codeIn K cd_face "_law_face" = true)
    (k_face : PySem.W.keepIn K (.ref f_face) = true)
    (a_whole : PySem.W.nsIn K mainGlobals "_law_whole" = some (some (.ref f_whole)))
    (l_whole : K.lookup f_whole = some ⟨oc_whole, od_whole, .func (PySem.W.fnOf "_law_whole" "_law_whole" (defArgs sLWhole) (defBody sLWhole) (defScope sLWhole) .none kv_whole dc_whole pm_whole an_whole cd_whole ct_whole), sl_whole⟩)
    (c_whole : PySem.W.codeIn K cd_whole "_law_whole" = true)
    (k_whole : PySem.W.keepIn K (.ref f_whole) = true)
    (a_odd : PySem.W.nsIn K mainGlobals "_law_odd" = some (some (.ref f_odd)))
    (l_odd : K.lookup f_odd = some ⟨oc_odd, od_odd, .func (PySem.W.fnOf "_law_odd" "_law_odd" (defArgs Wb.sLOdd) (defBody Wb.sLOdd) (defScope Wb.sLOdd) .none kv_odd dc_odd pm_odd an_odd cd_odd ct_odd), sl_odd⟩)
    (c_odd : PySem.W.codeIn K cd_odd "_law_odd" = true)
    (k_odd : PySem.W.keepIn K (.ref f_odd) = true)
    (a_signs : PySem.W.nsIn K mainGlobals "_law_signs" = some (some (.ref f_signs)))
    (l_signs : K.lookup f_signs = some ⟨oc_signs, od_signs, .func (PySem.W.fnOf "_law_signs" "_law_signs" (defArgs sSigns) (defBody sSigns) (defScope sSigns) .none kv_signs dc_signs pm_signs an_signs cd_signs ct_signs), sl_signs⟩)
    (c_signs : PySem.W.codeIn K cd_signs "_law_signs" = true)
    (k_signs : PySem.W.keepIn K (.ref f_signs) = true)
    (a_isword : PySem.W.nsIn K mainGlobals "_law_is_word" = some (some (.ref f_isword)))
    (l_isword : K.lookup f_isword = some ⟨oc_isword, od_isword, .func (PySem.W.fnOf "_law_is_word" "_law_is_word" (defArgs sLIsWord) (defBody sLIsWord) (defScope sLIsWord) .none kv_isword dc_isword pm_isword an_isword cd_isword ct_isword), sl_isword⟩)
    (c_isword : PySem.W.codeIn K cd_isword "_law_is_word" = true)
    (k_isword : PySem.W.keepIn K (.ref f_isword) = true)
    (a_name : PySem.W.nsIn K mainGlobals "_law_name" = some (some (.ref f_name)))
    (l_name : K.lookup f_name = some ⟨oc_name, od_name, .func (PySem.W.fnOf "_law_name" "_law_name" (defArgs sName) (defBody sName) (defScope sName) .none kv_name dc_name pm_name an_name cd_name ct_name), sl_name⟩)
    (c_name : PySem.W.codeIn K cd_name "_law_name" = true)
    (k_name : PySem.W.keepIn K (.ref f_name) = true)
    (a_names : PySem.W.nsIn K mainGlobals "_law_names" = some (some (.ref f_names)))
    (l_names : K.lookup f_names = some ⟨oc_names, od_names, .func (PySem.W.fnOf "_law_names" "_law_names" (defArgs sNames) (defBody sNames) (defScope sNames) .none kv_names dc_names pm_names an_names cd_names ct_names), sl_names⟩)
    (c_names : PySem.W.codeIn K cd_names "_law_names" = true)
    (k_names : PySem.W.keepIn K (.ref f_names) = true)
    (a_amount : PySem.W.nsIn K mainGlobals "_law_amount" = some (some (.ref f_amount)))
    (l_amount : K.lookup f_amount = some ⟨oc_amount, od_amount, .func (PySem.W.fnOf "_law_amount" "_law_amount" (defArgs sAmount) (defBody sAmount) (defScope sAmount) .none kv_amount dc_amount pm_amount an_amount cd_amount ct_amount), sl_amount⟩)
    (c_amount : PySem.W.codeIn K cd_amount "_law_amount" = true)
    (k_amount : PySem.W.keepIn K (.ref f_amount) = true)
    (a_model : PySem.W.nsIn K mainGlobals "_law_model" = some (some (.ref f_model)))
    (l_model : K.lookup f_model = some ⟨oc_model, od_model, .func (PySem.W.fnOf "_law_model" "_law_model" (defArgs sModel) (defBody sModel) (defScope sModel) .none kv_model dc_model pm_model an_model cd_model ct_model), sl_model⟩)
    (c_model : PySem.W.codeIn K cd_model "_law_model" = true)
    (k_model : PySem.W.keepIn K (.ref f_model) = true)
    (a_line : PySem.W.nsIn K mainGlobals "_law_line" = some (some (.ref f_line)))
    (l_line : K.lookup f_line = some ⟨oc_line, od_line, .func (PySem.W.fnOf "_law_line" "_law_line" (defArgs sLine) (defBody sLine) (defScope sLine) .none kv_line dc_line pm_line an_line cd_line ct_line), sl_line⟩)
    (c_line : PySem.W.codeIn K cd_line "_law_line" = true)
    (k_line : PySem.W.keepIn K (.ref f_line) = true)
    (a_isname : PySem.W.nsIn K mainGlobals "_law_is_name" = some (some (.ref f_isname)))
    (l_isname : K.lookup f_isname = some ⟨oc_isname, od_isname, .func (PySem.W.fnOf "_law_is_name" "_law_is_name" (defArgs sLName) (defBody sLName) (defScope sLName) .none kv_isname dc_isname pm_isname an_isname cd_isname ct_isname), sl_isname⟩)
    (c_isname : PySem.W.codeIn K cd_isname "_law_is_name" = true)
    (k_isname : PySem.W.keepIn K (.ref f_isname) = true)
    (a_step : PySem.W.nsIn K mainGlobals "_law_is_step" = some (some (.ref f_step)))
    (l_step : K.lookup f_step = some ⟨oc_step, od_step, .func (PySem.W.fnOf "_law_is_step" "_law_is_step" (defArgs sStep) (defBody sStep) (defScope sStep) .none kv_step dc_step pm_step an_step cd_step ct_step), sl_step⟩)
    (c_step : PySem.W.codeIn K cd_step "_law_is_step" = true)
    (k_step : PySem.W.keepIn K (.ref f_step) = true)
    (a_ende : PySem.W.nsIn K mainGlobals "_law_is_end" = some (some (.ref f_ende)))
    (l_ende : K.lookup f_ende = some ⟨oc_ende, od_ende, .func (PySem.W.fnOf "_law_is_end" "_law_is_end" (defArgs sEnd) (defBody sEnd) (defScope sEnd) .none kv_ende dc_ende pm_ende an_ende cd_ende ct_ende), sl_ende⟩)
    (c_ende : PySem.W.codeIn K cd_ende "_law_is_end" = true)
    (k_ende : PySem.W.keepIn K (.ref f_ende) = true)
    (a_bads : PySem.W.nsIn K mainGlobals "_law_bad_signs" = some (some (.ref f_bads)))
    (l_bads : K.lookup f_bads = some ⟨oc_bads, od_bads, .func (PySem.W.fnOf "_law_bad_signs" "_law_bad_signs" (defArgs sBadSigns) (defBody sBadSigns) (defScope sBadSigns) .none kv_bads dc_bads pm_bads an_bads cd_bads ct_bads), sl_bads⟩)
    (c_bads : PySem.W.codeIn K cd_bads "_law_bad_signs" = true)
    (k_bads : PySem.W.keepIn K (.ref f_bads) = true)
    (a_std : PySem.W.nsIn K mainGlobals "_law_states_due" = some (some (.ref f_std)))
    (l_std : K.lookup f_std = some ⟨oc_std, od_std, .func (PySem.W.fnOf "_law_states_due" "_law_states_due" (defArgs sStDue) (defBody sStDue) (defScope sStDue) .none kv_std dc_std pm_std an_std cd_std ct_std), sl_std⟩)
    (c_std : PySem.W.codeIn K cd_std "_law_states_due" = true)
    (k_std : PySem.W.keepIn K (.ref f_std) = true)
    (a_rod : PySem.W.nsIn K mainGlobals "_law_rows_due" = some (some (.ref f_rod)))
    (l_rod : K.lookup f_rod = some ⟨oc_rod, od_rod, .func (PySem.W.fnOf "_law_rows_due" "_law_rows_due" (defArgs sRoDue) (defBody sRoDue) (defScope sRoDue) .none kv_rod dc_rod pm_rod an_rod cd_rod ct_rod), sl_rod⟩)
    (c_rod : PySem.W.codeIn K cd_rod "_law_rows_due" = true)
    (k_rod : PySem.W.keepIn K (.ref f_rod) = true)
    (a_end_ : PySem.W.nsIn K mainGlobals "_law_ends_due" = some (some (.ref f_end_)))
    (l_end_ : K.lookup f_end_ = some ⟨oc_end_, od_end_, .func (PySem.W.fnOf "_law_ends_due" "_law_ends_due" (defArgs sEnDue) (defBody sEnDue) (defScope sEnDue) .none kv_end_ dc_end_ pm_end_ an_end_ cd_end_ ct_end_), sl_end_⟩)
    (c_end_ : PySem.W.codeIn K cd_end_ "_law_ends_due" = true)
    (k_end_ : PySem.W.keepIn K (.ref f_end_) = true)
    (a_yed : PySem.W.nsIn K mainGlobals "_law_yes_due" = some (some (.ref f_yed)))
    (l_yed : K.lookup f_yed = some ⟨oc_yed, od_yed, .func (PySem.W.fnOf "_law_yes_due" "_law_yes_due" (defArgs sYeDue) (defBody sYeDue) (defScope sYeDue) .none kv_yed dc_yed pm_yed an_yed cd_yed ct_yed), sl_yed⟩)
    (c_yed : PySem.W.codeIn K cd_yed "_law_yes_due" = true)
    (k_yed : PySem.W.keepIn K (.ref f_yed) = true)
    (a_due : PySem.W.nsIn K mainGlobals "_law_loop_due" = some (some (.ref f_due)))
    (l_due : K.lookup f_due = some ⟨oc_due, od_due, .func (PySem.W.fnOf "_law_loop_due" "_law_loop_due" (defArgs sLoDue) (defBody sLoDue) (defScope sLoDue) .none kv_due dc_due pm_due an_due cd_due ct_due), sl_due⟩)
    (c_due : PySem.W.codeIn K cd_due "_law_loop_due" = true)
    (k_due : PySem.W.keepIn K (.ref f_due) = true)
    (a_parts : PySem.W.nsIn K mainGlobals "_law_parts" = some (some (.ref f_parts)))
    (l_parts : K.lookup f_parts = some ⟨oc_parts, od_parts, .func (PySem.W.fnOf "_law_parts" "_law_parts" (defArgs sParts) (defBody sParts) (defScope sParts) .none kv_parts dc_parts pm_parts an_parts cd_parts ct_parts), sl_parts⟩)
    (c_parts : PySem.W.codeIn K cd_parts "_law_parts" = true)
    (k_parts : PySem.W.keepIn K (.ref f_parts) = true)
    (a_bent : PySem.W.nsIn K mainGlobals "_law_bent" = some (some (.ref f_bent)))
    (l_bent : K.lookup f_bent = some ⟨oc_bent, od_bent, .func (PySem.W.fnOf "_law_bent" "_law_bent" (defArgs sBent) (defBody sBent) (defScope sBent) .none kv_bent dc_bent pm_bent an_bent cd_bent ct_bent), sl_bent⟩)
    (c_bent : PySem.W.codeIn K cd_bent "_law_bent" = true)
    (k_bent : PySem.W.keepIn K (.ref f_bent) = true)
    (a_spline : PySem.W.nsIn K mainGlobals "_law_spoilt_line" = some (some (.ref f_spline)))
    (l_spline : K.lookup f_spline = some ⟨oc_spline, od_spline, .func (PySem.W.fnOf "_law_spoilt_line" "_law_spoilt_line" (defArgs sSpLine) (defBody sSpLine) (defScope sSpLine) .none kv_spline dc_spline pm_spline an_spline cd_spline ct_spline), sl_spline⟩)
    (c_spline : PySem.W.codeIn K cd_spline "_law_spoilt_line" = true)
    (k_spline : PySem.W.keepIn K (.ref f_spline) = true)
    (a_spoilt : PySem.W.nsIn K mainGlobals "_law_spoilt" = some (some (.ref f_spoilt)))
    (l_spoilt : K.lookup f_spoilt = some ⟨oc_spoilt, od_spoilt, .func (PySem.W.fnOf "_law_spoilt" "_law_spoilt" (defArgs sSpoilt) (defBody sSpoilt) (defScope sSpoilt) .none kv_spoilt dc_spoilt pm_spoilt an_spoilt cd_spoilt ct_spoilt), sl_spoilt⟩)
    (c_spoilt : PySem.W.codeIn K cd_spoilt "_law_spoilt" = true)
    (k_spoilt : PySem.W.keepIn K (.ref f_spoilt) = true)
    (a_heard : PySem.W.nsIn K mainGlobals "_law_heard" = some (some (.ref f_heard)))
    (l_heard : K.lookup f_heard = some ⟨oc_heard, od_heard, .func (PySem.W.fnOf "_law_heard" "_law_heard" (defArgs sPtHeard) (defBody sPtHeard) (defScope sPtHeard) .none kv_heard dc_heard pm_heard an_heard cd_heard ct_heard), sl_heard⟩)
    (c_heard : PySem.W.codeIn K cd_heard "_law_heard" = true)
    (k_heard : PySem.W.keepIn K (.ref f_heard) = true)
    (a_prr : PySem.W.nsIn K mainGlobals "_law_parts_right" = some (some (.ref f_prr)))
    (l_prr : K.lookup f_prr = some ⟨oc_prr, od_prr, .func (PySem.W.fnOf "_law_parts_right" "_law_parts_right" (defArgs sPrRight) (defBody sPrRight) (defScope sPrRight) .none kv_prr dc_prr pm_prr an_prr (.ref cRt) ct_prr), sl_prr⟩)
    (c_prr : PySem.W.codeIn K (.ref cRt) "_law_parts_right" = true)
    (k_prr : PySem.W.keepIn K (.ref f_prr) = true)
    (a_right : PySem.W.nsIn K mainGlobals "_law_right" = some (some (.ref f_right)))
    (l_right : K.lookup f_right = some ⟨oc_right, od_right, .func (PySem.W.fnOf "_law_right" "_law_right" (defArgs sRight) (defBody sRight) (defScope sRight) .none kv_right dc_right pm_right an_right cd_right ct_right), sl_right⟩)
    (c_right : PySem.W.codeIn K cd_right "_law_right" = true)
    (k_right : PySem.W.keepIn K (.ref f_right) = true)
    (a_lim : PySem.W.nsIn K mainGlobals "_law_at_the_limit" = some (some (.ref f_lim)))
    (l_lim : K.lookup f_lim = some ⟨oc_lim, od_lim, .func (PySem.W.fnOf "_law_at_the_limit" "_law_at_the_limit" (defArgs sAtLimit) (defBody sAtLimit) (defScope sAtLimit) .none kv_lim dc_lim pm_lim an_lim cd_lim ct_lim), sl_lim⟩)
    (c_lim : PySem.W.codeIn K cd_lim "_law_at_the_limit" = true)
    (k_lim : PySem.W.keepIn K (.ref f_lim) = true)
    (a_ksigns : PySem.W.nsIn K mainGlobals "is_signs" = some (some (.ref f_ksigns)))
    (l_ksigns : K.lookup f_ksigns = some ⟨oc_ksigns, od_ksigns, .func (PySem.W.fnOf "is_signs" "is_signs" (defArgs sIsSigns) (defBody sIsSigns) (defScope sIsSigns) .none kv_ksigns dc_ksigns pm_ksigns an_ksigns cd_ksigns ct_ksigns), sl_ksigns⟩)
    (c_ksigns : PySem.W.codeIn K cd_ksigns "is_signs" = true)
    (k_ksigns : PySem.W.keepIn K (.ref f_ksigns) = true)
    (a_ksignof : PySem.W.nsIn K mainGlobals "is_sign_of" = some (some (.ref f_ksignof)))
    (l_ksignof : K.lookup f_ksignof = some ⟨oc_ksignof, od_ksignof, .func (PySem.W.fnOf "is_sign_of" "is_sign_of" (defArgs sSignOf) (defBody sSignOf) (defScope sSignOf) .none kv_ksignof dc_ksignof pm_ksignof an_ksignof cd_ksignof ct_ksignof), sl_ksignof⟩)
    (c_ksignof : PySem.W.codeIn K cd_ksignof "is_sign_of" = true)
    (k_ksignof : PySem.W.keepIn K (.ref f_ksignof) = true)
    (a_kfirst : PySem.W.nsIn K mainGlobals "first_wrong" = some (some (.ref f_kfirst)))
    (l_kfirst : K.lookup f_kfirst = some ⟨oc_kfirst, od_kfirst, .func (PySem.W.fnOf "first_wrong" "first_wrong" (defArgs sFirst) (defBody sFirst) (defScope sFirst) .none kv_kfirst dc_kfirst pm_kfirst an_kfirst cd_kfirst ct_kfirst), sl_kfirst⟩)
    (c_kfirst : PySem.W.codeIn K cd_kfirst "first_wrong" = true)
    (k_kfirst : PySem.W.keepIn K (.ref f_kfirst) = true)
    (a_kisword : PySem.W.nsIn K mainGlobals "is_word" = some (some (.ref f_kisword)))
    (l_kisword : K.lookup f_kisword = some ⟨oc_kisword, od_kisword, .func (PySem.W.fnOf "is_word" "is_word" (defArgs sIsWord) (defBody sIsWord) (defScope sIsWord) .none kv_kisword dc_kisword pm_kisword an_kisword cd_kisword ct_kisword), sl_kisword⟩)
    (c_kisword : PySem.W.codeIn K cd_kisword "is_word" = true)
    (k_kisword : PySem.W.keepIn K (.ref f_kisword) = true)
    (a_kisname : PySem.W.nsIn K mainGlobals "is_name" = some (some (.ref f_kisname)))
    (l_kisname : K.lookup f_kisname = some ⟨oc_kisname, od_kisname, .func (PySem.W.fnOf "is_name" "is_name" (defArgs sIsName) (defBody sIsName) (defScope sIsName) .none kv_kisname dc_kisname pm_kisname an_kisname cd_kisname ct_kisname), sl_kisname⟩)
    (c_kisname : PySem.W.codeIn K cd_kisname "is_name" = true)
    (k_kisname : PySem.W.keepIn K (.ref f_kisname) = true)
    (a_kisint : PySem.W.nsIn K mainGlobals "is_integer" = some (some (.ref f_kisint)))
    (l_kisint : K.lookup f_kisint = some ⟨oc_kisint, od_kisint, .func (PySem.W.fnOf "is_integer" "is_integer" (defArgs sIsInt) (defBody sIsInt) (defScope sIsInt) .none kv_kisint dc_kisint pm_kisint an_kisint cd_kisint ct_kisint), sl_kisint⟩)
    (c_kisint : PySem.W.codeIn K cd_kisint "is_integer" = true)
    (k_kisint : PySem.W.keepIn K (.ref f_kisint) = true)
    (a_kintfrom : PySem.W.nsIn K mainGlobals "is_integer_from" = some (some (.ref f_kintfrom)))
    (l_kintfrom : K.lookup f_kintfrom = some ⟨oc_kintfrom, od_kintfrom, .func (PySem.W.fnOf "is_integer_from" "is_integer_from" (defArgs sIsIntF) (defBody sIsIntF) (defScope sIsIntF) .none kv_kintfrom dc_kintfrom pm_kintfrom an_kintfrom cd_kintfrom ct_kintfrom), sl_kintfrom⟩)
    (c_kintfrom : PySem.W.codeIn K cd_kintfrom "is_integer_from" = true)
    (k_kintfrom : PySem.W.keepIn K (.ref f_kintfrom) = true)
    (a_kstateof : PySem.W.nsIn K mainGlobals "is_state_of" = some (some (.ref f_kstateof)))
    (l_kstateof : K.lookup f_kstateof = some ⟨oc_kstateof, od_kstateof, .func (PySem.W.fnOf "is_state_of" "is_state_of" (defArgs sStateOf) (defBody sStateOf) (defScope sStateOf) .none kv_kstateof dc_kstateof pm_kstateof an_kstateof cd_kstateof ct_kstateof), sl_kstateof⟩)
    (c_kstateof : PySem.W.codeIn K cd_kstateof "is_state_of" = true)
    (k_kstateof : PySem.W.keepIn K (.ref f_kstateof) = true)
    (a_krowof : PySem.W.nsIn K mainGlobals "is_row_of" = some (some (.ref f_krowof)))
    (l_krowof : K.lookup f_krowof = some ⟨oc_krowof, od_krowof, .func (PySem.W.fnOf "is_row_of" "is_row_of" (defArgs sRowOf) (defBody sRowOf) (defScope sRowOf) .none kv_krowof dc_krowof pm_krowof an_krowof cd_krowof ct_krowof), sl_krowof⟩)
    (c_krowof : PySem.W.codeIn K cd_krowof "is_row_of" = true)
    (k_krowof : PySem.W.keepIn K (.ref f_krowof) = true)
    (a_kturnof : PySem.W.nsIn K mainGlobals "is_turn_of" = some (some (.ref f_kturnof)))
    (l_kturnof : K.lookup f_kturnof = some ⟨oc_kturnof, od_kturnof, .func (PySem.W.fnOf "is_turn_of" "is_turn_of" (defArgs sTurnOf) (defBody sTurnOf) (defScope sTurnOf) .none kv_kturnof dc_kturnof pm_kturnof an_kturnof cd_kturnof ct_kturnof), sl_kturnof⟩)
    (c_kturnof : PySem.W.codeIn K cd_kturnof "is_turn_of" = true)
    (k_kturnof : PySem.W.keepIn K (.ref f_kturnof) = true)
    (a_kchst : PySem.W.nsIn K mainGlobals "check_states" = some (some (.ref f_kchst)))
    (l_kchst : K.lookup f_kchst = some ⟨oc_kchst, od_kchst, .func (PySem.W.fnOf "check_states" "check_states" (defArgs sChSt) (defBody sChSt) (defScope sChSt) .none kv_kchst dc_kchst pm_kchst an_kchst cd_kchst ct_kchst), sl_kchst⟩)
    (c_kchst : PySem.W.codeIn K cd_kchst "check_states" = true)
    (k_kchst : PySem.W.keepIn K (.ref f_kchst) = true)
    (a_kchro : PySem.W.nsIn K mainGlobals "check_rows" = some (some (.ref f_kchro)))
    (l_kchro : K.lookup f_kchro = some ⟨oc_kchro, od_kchro, .func (PySem.W.fnOf "check_rows" "check_rows" (defArgs sChRo) (defBody sChRo) (defScope sChRo) .none kv_kchro dc_kchro pm_kchro an_kchro cd_kchro ct_kchro), sl_kchro⟩)
    (c_kchro : PySem.W.codeIn K cd_kchro "check_rows" = true)
    (k_kchro : PySem.W.keepIn K (.ref f_kchro) = true)
    (a_kchtu : PySem.W.nsIn K mainGlobals "check_turns" = some (some (.ref f_kchtu)))
    (l_kchtu : K.lookup f_kchtu = some ⟨oc_kchtu, od_kchtu, .func (PySem.W.fnOf "check_turns" "check_turns" (defArgs sChTu) (defBody sChTu) (defScope sChTu) .none kv_kchtu dc_kchtu pm_kchtu an_kchtu cd_kchtu ct_kchtu), sl_kchtu⟩)
    (c_kchtu : PySem.W.codeIn K cd_kchtu "check_turns" = true)
    (k_kchtu : PySem.W.keepIn K (.ref f_kchtu) = true)
    (a_kchye : PySem.W.nsIn K mainGlobals "check_yes" = some (some (.ref f_kchye)))
    (l_kchye : K.lookup f_kchye = some ⟨oc_kchye, od_kchye, .func (PySem.W.fnOf "check_yes" "check_yes" (defArgs sChYe) (defBody sChYe) (defScope sChYe) .none kv_kchye dc_kchye pm_kchye an_kchye cd_kchye ct_kchye), sl_kchye⟩)
    (c_kchye : PySem.W.codeIn K cd_kchye "check_yes" = true)
    (k_kchye : PySem.W.keepIn K (.ref f_kchye) = true)
    (a_korro : PySem.W.nsIn K mainGlobals "ordered_rows" = some (some (.ref f_korro)))
    (l_korro : K.lookup f_korro = some ⟨oc_korro, od_korro, .func (PySem.W.fnOf "ordered_rows" "ordered_rows" (defArgs sOrRo) (defBody sOrRo) (defScope sOrRo) .none kv_korro dc_korro pm_korro an_korro cd_korro ct_korro), sl_korro⟩)
    (c_korro : PySem.W.codeIn K cd_korro "ordered_rows" = true)
    (k_korro : PySem.W.keepIn K (.ref f_korro) = true)
    (a_kortu : PySem.W.nsIn K mainGlobals "ordered_turns" = some (some (.ref f_kortu)))
    (l_kortu : K.lookup f_kortu = some ⟨oc_kortu, od_kortu, .func (PySem.W.fnOf "ordered_turns" "ordered_turns" (defArgs sOrTu) (defBody sOrTu) (defScope sOrTu) .none kv_kortu dc_kortu pm_kortu an_kortu cd_kortu ct_kortu), sl_kortu⟩)
    (c_kortu : PySem.W.codeIn K cd_kortu "ordered_turns" = true)
    (k_kortu : PySem.W.keepIn K (.ref f_kortu) = true)
    (a_korye : PySem.W.nsIn K mainGlobals "ordered_yes" = some (some (.ref f_korye)))
    (l_korye : K.lookup f_korye = some ⟨oc_korye, od_korye, .func (PySem.W.fnOf "ordered_yes" "ordered_yes" (defArgs sOrYe) (defBody sOrYe) (defScope sOrYe) .none kv_korye dc_korye pm_korye an_korye cd_korye ct_korye), sl_korye⟩)
    (c_korye : PySem.W.codeIn K cd_korye "ordered_yes" = true)
    (k_korye : PySem.W.keepIn K (.ref f_korye) = true)
    (a_law : PySem.W.nsIn K mainGlobals "law" = some (some (.ref f_law)))
    (l_law : K.lookup f_law = some ⟨oc_law, od_law, .func (PySem.W.fnOf "law" "law" (defArgs sLaw) (defBody sLaw) (defScope sLaw) .none kv_law dc_law pm_law an_law cd_law ct_law), sl_law⟩)
    (c_law : PySem.W.codeIn K cd_law "law" = true)
    (k_law : PySem.W.keepIn K (.ref f_law) = true)
    (aC : PySem.W.nsIn K mainGlobals "Loop" = some (some (.ref C)))
    (aT : PySem.W.nsIn K mainGlobals "Table" = some (some (.ref T)))
    (aO : PySem.W.nsIn K mainGlobals "Course" = some (some (.ref O)))
    (a_mI : PySem.W.findIn K (.ref C) "__init__" = some (some (.ref f_mI)))
    (i_mI : PySem.W.isFn K (.ref f_mI) = true)
    (l_mI : K.lookup f_mI = some ⟨oc_mI, od_mI, .func (PySem.W.fnOf "__init__" "Loop.__init__" (defArgs sLoInit) (defBody sLoInit) (defScope sLoInit) (.ref tD) (.ref kD) dc_mI pm_mI an_mI cd_mI ct_mI), sl_mI⟩)
    (c_mI : PySem.W.codeIn K cd_mI "Loop.__init__" = true)
    (k_mI : PySem.W.keepIn K (.ref f_mI) = true)
    (p_atW : PySem.W.findIn K (.ref C) "row" = some (some (.ref pW)))
    (p_getW : PySem.W.specialIn K (.ref pW) "__get__" = some (some (.builtin "property.__get__")))
    (p_takW : PySem.W.takesIn K (.ref pW) = some true)
    (p_recW : PySem.W.recIn K pW "property" = some (.ref f_mW :: rW))
    (l_mW : K.lookup f_mW = some ⟨oc_mW, od_mW, .func (PySem.W.fnOf "row" "Loop.row" (defArgs sLoRow) (defBody sLoRow) (defScope sLoRow) .none kv_mW dc_mW pm_mW an_mW cd_mW ct_mW), sl_mW⟩)
    (c_mW : PySem.W.codeIn K cd_mW "Loop.row" = true)
    (k_mW : PySem.W.keepIn K (.ref f_mW) = true)
    (a_mAn : PySem.W.findIn K (.ref C) "answer" = some (some (.ref f_mAn)))
    (i_mAn : PySem.W.isFn K (.ref f_mAn) = true)
    (l_mAn : K.lookup f_mAn = some ⟨oc_mAn, od_mAn, .func (PySem.W.fnOf "answer" "Loop.answer" (defArgs sLoAnswer) (defBody sLoAnswer) (defScope sLoAnswer) .none kv_mAn dc_mAn pm_mAn an_mAn cd_mAn ct_mAn), sl_mAn⟩)
    (c_mAn : PySem.W.codeIn K cd_mAn "Loop.answer" = true)
    (k_mAn : PySem.W.keepIn K (.ref f_mAn) = true)
    (a_mSt : PySem.W.findIn K (.ref C) "state" = some (some (.ref f_mSt)))
    (i_mSt : PySem.W.isFn K (.ref f_mSt) = true)
    (l_mSt : K.lookup f_mSt = some ⟨oc_mSt, od_mSt, .func (PySem.W.fnOf "state" "Loop.state" (defArgs sLoState) (defBody sLoState) (defScope sLoState) .none kv_mSt dc_mSt pm_mSt an_mSt cd_mSt ct_mSt), sl_mSt⟩)
    (c_mSt : PySem.W.codeIn K cd_mSt "Loop.state" = true)
    (k_mSt : PySem.W.keepIn K (.ref f_mSt) = true)
    (a_mTx : PySem.W.findIn K (.ref C) "_check_text" = some (some (.ref f_mTx)))
    (i_mTx : PySem.W.isFn K (.ref f_mTx) = true)
    (l_mTx : K.lookup f_mTx = some ⟨oc_mTx, od_mTx, .func (PySem.W.fnOf "_check_text" "Loop._check_text" (defArgs sLoText) (defBody sLoText) (defScope sLoText) .none kv_mTx dc_mTx pm_mTx an_mTx cd_mTx ct_mTx), sl_mTx⟩)
    (c_mTx : PySem.W.codeIn K cd_mTx "Loop._check_text" = true)
    (k_mTx : PySem.W.keepIn K (.ref f_mTx) = true)
    (a_mGo : PySem.W.findIn K (.ref C) "_gone" = some (some (.ref f_mGo)))
    (i_mGo : PySem.W.isFn K (.ref f_mGo) = true)
    (l_mGo : K.lookup f_mGo = some ⟨oc_mGo, od_mGo, .func (PySem.W.fnOf "_gone" "Loop._gone" (defArgs sLoGone) (defBody sLoGone) (defScope sLoGone) .none kv_mGo dc_mGo pm_mGo an_mGo cd_mGo ct_mGo), sl_mGo⟩)
    (c_mGo : PySem.W.codeIn K cd_mGo "Loop._gone" = true)
    (k_mGo : PySem.W.keepIn K (.ref f_mGo) = true)
    (a_mOf : PySem.W.findIn K (.ref C) "_answer_of" = some (some (.ref f_mOf)))
    (i_mOf : PySem.W.isFn K (.ref f_mOf) = true)
    (l_mOf : K.lookup f_mOf = some ⟨oc_mOf, od_mOf, .func (PySem.W.fnOf "_answer_of" "Loop._answer_of" (defArgs sLoOf) (defBody sLoOf) (defScope sLoOf) .none kv_mOf dc_mOf pm_mOf an_mOf cd_mOf ct_mOf), sl_mOf⟩)
    (c_mOf : PySem.W.codeIn K cd_mOf "Loop._answer_of" = true)
    (k_mOf : PySem.W.keepIn K (.ref f_mOf) = true)
    (a_mtI : PySem.W.findIn K (.ref T) "__init__" = some (some (.ref f_mtI)))
    (i_mtI : PySem.W.isFn K (.ref f_mtI) = true)
    (l_mtI : K.lookup f_mtI = some ⟨oc_mtI, od_mtI, .func (PySem.W.fnOf "__init__" "Table.__init__" (defArgs sTaInit) (defBody sTaInit) (defScope sTaInit) .none kv_mtI dc_mtI pm_mtI an_mtI cd_mtI ct_mtI), sl_mtI⟩)
    (c_mtI : PySem.W.codeIn K cd_mtI "Table.__init__" = true)
    (k_mtI : PySem.W.keepIn K (.ref f_mtI) = true)
    (a_mtG : PySem.W.findIn K (.ref T) "gone" = some (some (.ref f_mtG)))
    (i_mtG : PySem.W.isFn K (.ref f_mtG) = true)
    (l_mtG : K.lookup f_mtG = some ⟨oc_mtG, od_mtG, .func (PySem.W.fnOf "gone" "Table.gone" (defArgs sTaGone) (defBody sTaGone) (defScope sTaGone) .none kv_mtG dc_mtG pm_mtG an_mtG cd_mtG ct_mtG), sl_mtG⟩)
    (c_mtG : PySem.W.codeIn K cd_mtG "Table.gone" = true)
    (k_mtG : PySem.W.keepIn K (.ref f_mtG) = true)
    (a_mcI : PySem.W.findIn K (.ref O) "__init__" = some (some (.ref f_mcI)))
    (i_mcI : PySem.W.isFn K (.ref f_mcI) = true)
    (l_mcI : K.lookup f_mcI = some ⟨oc_mcI, od_mcI, .func (PySem.W.fnOf "__init__" "Course.__init__" (defArgs sCoInit) (defBody sCoInit) (defScope sCoInit) .none kv_mcI dc_mcI pm_mcI an_mcI cd_mcI ct_mcI), sl_mcI⟩)
    (c_mcI : PySem.W.codeIn K cd_mcI "Course.__init__" = true)
    (k_mcI : PySem.W.keepIn K (.ref f_mcI) = true)
    (a_mcP : PySem.W.findIn K (.ref O) "place" = some (some (.ref f_mcP)))
    (i_mcP : PySem.W.isFn K (.ref f_mcP) = true)
    (l_mcP : K.lookup f_mcP = some ⟨oc_mcP, od_mcP, .func (PySem.W.fnOf "place" "Course.place" (defArgs sCoPlace) (defBody sCoPlace) (defScope sCoPlace) .none kv_mcP dc_mcP pm_mcP an_mcP cd_mcP ct_mcP), sl_mcP⟩)
    (c_mcP : PySem.W.codeIn K cd_mcP "Course.place" = true)
    (k_mcP : PySem.W.keepIn K (.ref f_mcP) = true)
    (a_mcB : PySem.W.findIn K (.ref O) "behind" = some (some (.ref f_mcB)))
    (i_mcB : PySem.W.isFn K (.ref f_mcB) = true)
    (l_mcB : K.lookup f_mcB = some ⟨oc_mcB, od_mcB, .func (PySem.W.fnOf "behind" "Course.behind" (defArgs sCoBehind) (defBody sCoBehind) (defScope sCoBehind) .none kv_mcB dc_mcB pm_mcB an_mcB cd_mcB ct_mcB), sl_mcB⟩)
    (c_mcB : PySem.W.codeIn K cd_mcB "Course.behind" = true)
    (k_mcB : PySem.W.keepIn K (.ref f_mcB) = true)
    (l_tD : K.lookup tD = some ⟨oc_tD, od_tD, .seq #[.ref e] n_tD, sl_tD⟩)
    (n_yes : PySem.W.nsIn K kD "yes" = some (some (.ref e2)))
    (pgC : PySem.W.plainGet K C Str.empty = true)
    (hdC : PySem.W.hasDictIn K C = true)
    (poC : PySem.W.plainOver K C = true)
    (saC : PySem.W.findIn K (.ref C) "__setattr__" = some (some (.builtin "object.__setattr__")))
    (mkC : PySem.W.makesIn K C = true)
    (kcC : PySem.W.keepIn K (.ref C) = true)
    (pgT : PySem.W.plainGet K T Str.empty = true)
    (hdT : PySem.W.hasDictIn K T = true)
    (poT : PySem.W.plainOver K T = true)
    (saT : PySem.W.findIn K (.ref T) "__setattr__" = some (some (.builtin "object.__setattr__")))
    (mkT : PySem.W.makesIn K T = true)
    (kcT : PySem.W.keepIn K (.ref T) = true)
    (pgO : PySem.W.plainGet K O Str.empty = true)
    (hdO : PySem.W.hasDictIn K O = true)
    (poO : PySem.W.plainOver K O = true)
    (saO : PySem.W.findIn K (.ref O) "__setattr__" = some (some (.builtin "object.__setattr__")))
    (mkO : PySem.W.makesIn K O = true)
    (kcO : PySem.W.keepIn K (.ref O) = true)
    (nC__signs : PySem.W.findIn K (.ref C) "_signs" = some none)
    (nC__states : PySem.W.findIn K (.ref C) "_states" = some none)
    (nC__rows : PySem.W.findIn K (.ref C) "_rows" = some none)
    (nC__turns : PySem.W.findIn K (.ref C) "_turns" = some none)
    (nC__yes : PySem.W.findIn K (.ref C) "_yes" = some none)
    (nC__table : PySem.W.findIn K (.ref C) "_table" = some none)
    (nT_number : PySem.W.findIn K (.ref T) "number" = some none)
    (nT_nexts : PySem.W.findIn K (.ref T) "nexts" = some none)
    (nT_amounts : PySem.W.findIn K (.ref T) "amounts" = some none)
    (nT_turn_nexts : PySem.W.findIn K (.ref T) "turn_nexts" = some none)
    (nT_turn_amounts : PySem.W.findIn K (.ref T) "turn_amounts" = some none)
    (nT_says : PySem.W.findIn K (.ref T) "says" = some none)
    (nO_path : PySem.W.findIn K (.ref O) "path" = some none)
    (nO_head : PySem.W.findIn K (.ref O) "head" = some none)
    (nO_again : PySem.W.findIn K (.ref O) "again" = some none)
    (gt600 : PySem.W.nsIn K mainGlobals "MOST_WORD" = some (some (.int 600 t600)))
    (gt4 : PySem.W.nsIn K mainGlobals "MOST_SIGNS" = some (some (.int 4 t4)))
    (gt8 : PySem.W.nsIn K mainGlobals "MOST_NAME" = some (some (.int 8 t8)))
    (gt6 : PySem.W.nsIn K mainGlobals "MOST_STATES" = some (some (.int 6 t6)))
    (l_e0 : K.lookup e = some ⟨.type "tuple", od_e0, .seq #[] n_e0, sl_e0⟩)
    (l_e2 : K.lookup e2 = some ⟨.type "tuple", od_e2, .seq #[] n_e2, sl_e2⟩)
    (l_cR : K.lookup cRt = some ⟨oc_cR, od_cR, .fields vsR, sl_cR⟩)
    (v11 : (vsR[11]? : Option Value) = some (.ref PtR))
    (nP : K.lookup PtR = none)
    (aXGG : PySem.W.nsIn K mainGlobals "InvalidSigns" = some (some (.ref cGG)))
    (exGG : PySem.W.subIn K (.ref cGG) (.type "BaseException") = some true)
    (tyGG : PySem.W.typeIn K (.ref cGG) = some (.type "type"))
    (gaGG : PySem.W.findIn K (.ref cGG) "__getattribute__" = some (some (.builtin "BaseException.__getattribute__")))
    (ggGG : PySem.W.findIn K (.ref cGG) "__getattr__" = some none)
    (hdGGx : PySem.W.hasDictIn K cGG = true)
    (noGG : PySem.W.findIn K (.ref cGG) "given" = some none)
    (aXSS : PySem.W.nsIn K mainGlobals "InvalidStates" = some (some (.ref cSS)))
    (exSS : PySem.W.subIn K (.ref cSS) (.type "BaseException") = some true)
    (tySS : PySem.W.typeIn K (.ref cSS) = some (.type "type"))
    (gaSS : PySem.W.findIn K (.ref cSS) "__getattribute__" = some (some (.builtin "BaseException.__getattribute__")))
    (ggSS : PySem.W.findIn K (.ref cSS) "__getattr__" = some none)
    (hdSSx : PySem.W.hasDictIn K cSS = true)
    (noSS : PySem.W.findIn K (.ref cSS) "index" = some none)
    (aXRR : PySem.W.nsIn K mainGlobals "InvalidRows" = some (some (.ref cRR)))
    (exRR : PySem.W.subIn K (.ref cRR) (.type "BaseException") = some true)
    (tyRR : PySem.W.typeIn K (.ref cRR) = some (.type "type"))
    (gaRR : PySem.W.findIn K (.ref cRR) "__getattribute__" = some (some (.builtin "BaseException.__getattribute__")))
    (ggRR : PySem.W.findIn K (.ref cRR) "__getattr__" = some none)
    (hdRRx : PySem.W.hasDictIn K cRR = true)
    (noRR : PySem.W.findIn K (.ref cRR) "index" = some none)
    (aXTT : PySem.W.nsIn K mainGlobals "InvalidTurns" = some (some (.ref cTT)))
    (exTT : PySem.W.subIn K (.ref cTT) (.type "BaseException") = some true)
    (tyTT : PySem.W.typeIn K (.ref cTT) = some (.type "type"))
    (gaTT : PySem.W.findIn K (.ref cTT) "__getattribute__" = some (some (.builtin "BaseException.__getattribute__")))
    (ggTT : PySem.W.findIn K (.ref cTT) "__getattr__" = some none)
    (hdTTx : PySem.W.hasDictIn K cTT = true)
    (noTT : PySem.W.findIn K (.ref cTT) "index" = some none)
    (sGGGG : PySem.W.subIn K (.ref cGG) (.ref cGG) = some true)
    (sSSGG : PySem.W.subIn K (.ref cSS) (.ref cGG) = some false)
    (sSSSS : PySem.W.subIn K (.ref cSS) (.ref cSS) = some true)
    (sRRGG : PySem.W.subIn K (.ref cRR) (.ref cGG) = some false)
    (sRRSS : PySem.W.subIn K (.ref cRR) (.ref cSS) = some false)
    (sRRRR : PySem.W.subIn K (.ref cRR) (.ref cRR) = some true)
    (sTTGG : PySem.W.subIn K (.ref cTT) (.ref cGG) = some false)
    (sTTSS : PySem.W.subIn K (.ref cTT) (.ref cSS) = some false)
    (sTTRR : PySem.W.subIn K (.ref cTT) (.ref cRR) = some false)
    (sTTTT : PySem.W.subIn K (.ref cTT) (.ref cTT) = some true)
    (xLGG : K.lookup cGG = some (excClassObj nmGG qGG cGG NGG bsGG (.ref w0 :: [.type "ValueError", .type "Exception", .type "BaseException", .type "object"]) true snGG suGG abGG coGG ddGG xGG_0 xGG_1 xGG_2 xGG_3 xGG_5 "ValueError.__new__"))
    (saGGx : PySem.W.findIn K (.ref cGG) "__setattr__" = some (some (.builtin "object.__setattr__")))
    (kcGGx : PySem.W.keepIn K (.ref cGG) = true)
    (iniGG : PySem.W.findIn K (.ref cGG) "__init__" = some (some (.ref f_eGG)))
    (fnGG : PySem.W.typeIn K (.ref f_eGG) = some (.type "function"))
    (l_eGG : K.lookup f_eGG = some ⟨oc_eGG, od_eGG, .func (PySem.W.fnOf "__init__" "InvalidSigns.__init__" (defArgs sErrInvalidSigns) (defBody sErrInvalidSigns) (defScope sErrInvalidSigns) .none kv_eGG dc_eGG pm_eGG an_eGG cd_eGG ct_eGG), sl_eGG⟩)
    (c_eGG : PySem.W.codeIn K cd_eGG "InvalidSigns.__init__" = true)
    (k_eGG : PySem.W.keepIn K (.ref f_eGG) = true)
    (xLSS : K.lookup cSS = some (excClassObj nmSS qSS cSS NSS bsSS (.ref w0 :: [.type "ValueError", .type "Exception", .type "BaseException", .type "object"]) true snSS suSS abSS coSS ddSS xSS_0 xSS_1 xSS_2 xSS_3 xSS_5 "ValueError.__new__"))
    (saSSx : PySem.W.findIn K (.ref cSS) "__setattr__" = some (some (.builtin "object.__setattr__")))
    (kcSSx : PySem.W.keepIn K (.ref cSS) = true)
    (iniSS : PySem.W.findIn K (.ref cSS) "__init__" = some (some (.ref f_eSS)))
    (fnSS : PySem.W.typeIn K (.ref f_eSS) = some (.type "function"))
    (l_eSS : K.lookup f_eSS = some ⟨oc_eSS, od_eSS, .func (PySem.W.fnOf "__init__" "InvalidStates.__init__" (defArgs sErrInvalidStates) (defBody sErrInvalidStates) (defScope sErrInvalidStates) .none kv_eSS dc_eSS pm_eSS an_eSS cd_eSS ct_eSS), sl_eSS⟩)
    (c_eSS : PySem.W.codeIn K cd_eSS "InvalidStates.__init__" = true)
    (k_eSS : PySem.W.keepIn K (.ref f_eSS) = true)
    (xLRR : K.lookup cRR = some (excClassObj nmRR qRR cRR NRR bsRR (.ref w0 :: [.type "ValueError", .type "Exception", .type "BaseException", .type "object"]) true snRR suRR abRR coRR ddRR xRR_0 xRR_1 xRR_2 xRR_3 xRR_5 "ValueError.__new__"))
    (saRRx : PySem.W.findIn K (.ref cRR) "__setattr__" = some (some (.builtin "object.__setattr__")))
    (kcRRx : PySem.W.keepIn K (.ref cRR) = true)
    (iniRR : PySem.W.findIn K (.ref cRR) "__init__" = some (some (.ref f_eRR)))
    (fnRR : PySem.W.typeIn K (.ref f_eRR) = some (.type "function"))
    (l_eRR : K.lookup f_eRR = some ⟨oc_eRR, od_eRR, .func (PySem.W.fnOf "__init__" "InvalidRows.__init__" (defArgs sErrInvalidRows) (defBody sErrInvalidRows) (defScope sErrInvalidRows) .none kv_eRR dc_eRR pm_eRR an_eRR cd_eRR ct_eRR), sl_eRR⟩)
    (c_eRR : PySem.W.codeIn K cd_eRR "InvalidRows.__init__" = true)
    (k_eRR : PySem.W.keepIn K (.ref f_eRR) = true)
    (xLTT : K.lookup cTT = some (excClassObj nmTT qTT cTT NTT bsTT (.ref w0 :: [.type "ValueError", .type "Exception", .type "BaseException", .type "object"]) true snTT suTT abTT coTT ddTT xTT_0 xTT_1 xTT_2 xTT_3 xTT_5 "ValueError.__new__"))
    (saTTx : PySem.W.findIn K (.ref cTT) "__setattr__" = some (some (.builtin "object.__setattr__")))
    (kcTTx : PySem.W.keepIn K (.ref cTT) = true)
    (iniTT : PySem.W.findIn K (.ref cTT) "__init__" = some (some (.ref f_eTT)))
    (fnTT : PySem.W.typeIn K (.ref f_eTT) = some (.type "function"))
    (l_eTT : K.lookup f_eTT = some ⟨oc_eTT, od_eTT, .func (PySem.W.fnOf "__init__" "InvalidTurns.__init__" (defArgs sErrInvalidTurns) (defBody sErrInvalidTurns) (defScope sErrInvalidTurns) .none kv_eTT dc_eTT pm_eTT an_eTT cd_eTT ct_eTT), sl_eTT⟩)
    (c_eTT : PySem.W.codeIn K cd_eTT "InvalidTurns.__init__" = true)
    (k_eTT : PySem.W.keepIn K (.ref f_eTT) = true)
    (z_int : PySem.W.nsIn K mainGlobals "int" = some none)
    (z_len : PySem.W.nsIn K mainGlobals "len" = some none)
    (z_range : PySem.W.nsIn K mainGlobals "range" = some none)
    (z_divmod : PySem.W.nsIn K mainGlobals "divmod" = some none)
    (z_abs : PySem.W.nsIn K mainGlobals "abs" = some none)
    (z_isinstance : PySem.W.nsIn K mainGlobals "isinstance" = some none)
    (z_str : PySem.W.nsIn K mainGlobals "str" = some none)
    (z_all : PySem.W.nsIn K mainGlobals "all" = some none)
    (z_min : PySem.W.nsIn K mainGlobals "min" = some none)
    (z_max : PySem.W.nsIn K mainGlobals "max" = some none)
    (z_set : PySem.W.nsIn K mainGlobals "set" = some none)
    (z_bool : PySem.W.nsIn K mainGlobals "bool" = some none)
    (z_tuple : PySem.W.nsIn K mainGlobals "tuple" = some none)
    (z_enumerate : PySem.W.nsIn K mainGlobals "enumerate" = some none)
    (z_zip : PySem.W.nsIn K mainGlobals "zip" = some none)
    (z_sorted : PySem.W.nsIn K mainGlobals "sorted" = some none)
    (z_list : PySem.W.nsIn K mainGlobals "list" = some none)
    (z_dict : PySem.W.nsIn K mainGlobals "dict" = some none) :
    ∃ (fd : FuncData) (c Pt : Addr), K.lookup Pt = none ∧ PySem.W.tabIn K "_law_parts_right" = some (c, Pt) ∧ (∀ (s : Shared) (v : Value), BindsTo s fd ⟨[v], []⟩ [("_law_script", v)]) ∧ ∀ base : Heap, K.In base → base.Ns mainGlobals mg → LamX.TabB base mg c Pt → FnOk l.prog w K mg base CX0 11 fa fd ["_law_script"] (spLawT K Pt) := by
  have e0 := hfa.symm.trans (PySem.W.mg_of X G a_law)
  cases e0
  have LK : LTxt K mg C := ⟨⟨pgC, hdC, poC, saC⟩, nC__signs, nC__states, nC__rows, nC__turns, nC__yes, nC__table⟩
  have TK : TTxt K mg T := ⟨⟨pgT, hdT, poT, saT⟩, nT_number, nT_nexts, nT_amounts, nT_turn_nexts, nT_turn_amounts, nT_says⟩
  have OK : CTxt K mg O := ⟨⟨pgO, hdO, poO, saO⟩, nO_path, nO_head, nO_again⟩
  have Z_int := PySem.W.mg_none_of X G z_int
  have Z_len := PySem.W.mg_none_of X G z_len
  have Z_range := PySem.W.mg_none_of X G z_range
  have Z_divmod := PySem.W.mg_none_of X G z_divmod
  have Z_abs := PySem.W.mg_none_of X G z_abs
  have Z_isinstance := PySem.W.mg_none_of X G z_isinstance
  have Z_str := PySem.W.mg_none_of X G z_str
  have Z_all := PySem.W.mg_none_of X G z_all
  have Z_min := PySem.W.mg_none_of X G z_min
  have Z_max := PySem.W.mg_none_of X G z_max
  have Z_set := PySem.W.mg_none_of X G z_set
  have Z_bool := PySem.W.mg_none_of X G z_bool
  have Z_tuple := PySem.W.mg_none_of X G z_tuple
  have Z_enumerate := PySem.W.mg_none_of X G z_enumerate
  have Z_zip := PySem.W.mg_none_of X G z_zip
  have Z_sorted := PySem.W.mg_none_of X G z_sorted
  have Z_list := PySem.W.mg_none_of X G z_list
  have Z_dict := PySem.W.mg_none_of X G z_dict
  have Z : Free mg := ⟨Z_int, Z_len, Z_range, Z_divmod, Z_abs, Z_isinstance, Z_str, Z_all, Z_min, Z_max, Z_set, Z_bool⟩
  have F_cell := fun_mk (st := sCell) l_cell c_cell k_cell
  have b_cell := F_cell.binds (ps := ["_law_script", "_law_k"]) fun _ _ _ _ _ _ us hl => match us, hl with | [_, _], _ => rfl
  have D_cell : Def K mg "_law_cell" sCell ["_law_script", "_law_k"] f_cell _ := ⟨F_cell, PySem.W.mg_of X G a_cell, k_cell, b_cell⟩
  have F_pool := fun_mk (st := sPool) l_pool c_pool k_pool
  have b_pool := F_pool.binds (ps := ["_law_cell_here"]) fun _ _ _ _ _ _ us hl => match us, hl with | [_], _ => rfl
  have D_pool : Def K mg "_law_pool" sPool ["_law_cell_here"] f_pool _ := ⟨F_pool, PySem.W.mg_of X G a_pool, k_pool, b_pool⟩
  have F_draw := fun_mk (st := sDraw) l_draw c_draw k_draw
  have b_draw := F_draw.binds (ps := ["_law_pool_here", "_law_many"]) fun _ _ _ _ _ _ us hl => match us, hl with | [_, _], _ => rfl
  have D_draw : Def K mg "_law_draw" sDraw ["_law_pool_here", "_law_many"] f_draw _ := ⟨F_draw, PySem.W.mg_of X G a_draw, k_draw, b_draw⟩
  have F_shuf := fun_mk (st := sShuf) l_shuf c_shuf k_shuf
  have b_shuf := F_shuf.binds (ps := ["_law_pool_here", "_law_things"]) fun _ _ _ _ _ _ us hl => match us, hl with | [_, _], _ => rfl
  have D_shuf : Def K mg "_law_shuffled" sShuf ["_law_pool_here", "_law_things"] f_shuf _ := ⟨F_shuf, PySem.W.mg_of X G a_shuf, k_shuf, b_shuf⟩
  have F_face := fun_mk (st := sFace) l_face c_face k_face
  have b_face := F_face.binds (ps := ["_law_thing"]) fun _ _ _ _ _ _ us hl => match us, hl with | [_], _ => rfl
  have D_face : Def K mg "_law_face" sFace ["_law_thing"] f_face _ := ⟨F_face, PySem.W.mg_of X G a_face, k_face, b_face⟩
  have F_whole := fun_mk (st := sLWhole) l_whole c_whole k_whole
  have b_whole := F_whole.binds (ps := ["_law_thing"]) fun _ _ _ _ _ _ us hl => match us, hl with | [_], _ => rfl
  have D_whole : Def K mg "_law_whole" sLWhole ["_law_thing"] f_whole _ := ⟨F_whole, PySem.W.mg_of X G a_whole, k_whole, b_whole⟩
  have F_odd := fun_mk (st := Wb.sLOdd) l_odd c_odd k_odd
  have b_odd := F_odd.binds (ps := ["_law_pool_here"]) fun _ _ _ _ _ _ us hl => match us, hl with | [_], _ => rfl
  have D_odd : Def K mg "_law_odd" Wb.sLOdd ["_law_pool_here"] f_odd _ := ⟨F_odd, PySem.W.mg_of X G a_odd, k_odd, b_odd⟩
  have F_signs := fun_mk (st := sSigns) l_signs c_signs k_signs
  have b_signs := F_signs.binds (ps := ["_law_pool_here", "_law_most"]) fun _ _ _ _ _ _ us hl => match us, hl with | [_, _], _ => rfl
  have D_signs : Def K mg "_law_signs" sSigns ["_law_pool_here", "_law_most"] f_signs _ := ⟨F_signs, PySem.W.mg_of X G a_signs, k_signs, b_signs⟩
  have F_isword := fun_mk (st := sLIsWord) l_isword c_isword k_isword
  have b_isword := F_isword.binds (ps := ["_law_thing", "_law_abc"]) fun _ _ _ _ _ _ us hl => match us, hl with | [_, _], _ => rfl
  have D_isword : Def K mg "_law_is_word" sLIsWord ["_law_thing", "_law_abc"] f_isword _ := ⟨F_isword, PySem.W.mg_of X G a_isword, k_isword, b_isword⟩
  have F_name := fun_mk (st := sName) l_name c_name k_name
  have b_name := F_name.binds (ps := ["_law_pool_here", "_law_found"]) fun _ _ _ _ _ _ us hl => match us, hl with | [_, _], _ => rfl
  have D_name : Def K mg "_law_name" sName ["_law_pool_here", "_law_found"] f_name _ := ⟨F_name, PySem.W.mg_of X G a_name, k_name, b_name⟩
  have F_names := fun_mk (st := sNames) l_names c_names k_names
  have b_names := F_names.binds (ps := ["_law_pool_here", "_law_many"]) fun _ _ _ _ _ _ us hl => match us, hl with | [_, _], _ => rfl
  have D_names : Def K mg "_law_names" sNames ["_law_pool_here", "_law_many"] f_names _ := ⟨F_names, PySem.W.mg_of X G a_names, k_names, b_names⟩
  have F_amount := fun_mk (st := sAmount) l_amount c_amount k_amount
  have b_amount := F_amount.binds (ps := ["_law_pool_here", "_law_great"]) fun _ _ _ _ _ _ us hl => match us, hl with | [_, _], _ => rfl
  have D_amount : Def K mg "_law_amount" sAmount ["_law_pool_here", "_law_great"] f_amount _ := ⟨F_amount, PySem.W.mg_of X G a_amount, k_amount, b_amount⟩
  have F_model := fun_mk (st := sModel) l_model c_model k_model
  have b_model := F_model.binds (ps := ["_law_pool_here", "_law_abc", "_law_most", "_law_great"]) fun _ _ _ _ _ _ us hl => match us, hl with | [_, _, _, _], _ => rfl
  have D_model : Def K mg "_law_model" sModel ["_law_pool_here", "_law_abc", "_law_most", "_law_great"] f_model _ := ⟨F_model, PySem.W.mg_of X G a_model, k_model, b_model⟩
  have F_line := fun_mk (st := sLine) l_line c_line k_line
  have b_line := F_line.binds (ps := ["_law_model_here"]) fun _ _ _ _ _ _ us hl => match us, hl with | [_], _ => rfl
  have D_line : Def K mg "_law_line" sLine ["_law_model_here"] f_line _ := ⟨F_line, PySem.W.mg_of X G a_line, k_line, b_line⟩
  have F_isname := fun_mk (st := sLName) l_isname c_isname k_isname
  have b_isname := F_isname.binds (ps := ["_law_thing"]) fun _ _ _ _ _ _ us hl => match us, hl with | [_], _ => rfl
  have D_isname : Def K mg "_law_is_name" sLName ["_law_thing"] f_isname _ := ⟨F_isname, PySem.W.mg_of X G a_isname, k_isname, b_isname⟩
  have F_step := fun_mk (st := sStep) l_step c_step k_step
  have b_step := F_step.binds (ps := ["_law_line_here", "_law_abc", "_law_posts"]) fun _ _ _ _ _ _ us hl => match us, hl with | [_, _, _], _ => rfl
  have D_step : Def K mg "_law_is_step" sStep ["_law_line_here", "_law_abc", "_law_posts"] f_step _ := ⟨F_step, PySem.W.mg_of X G a_step, k_step, b_step⟩
  have F_ende := fun_mk (st := sEnd) l_ende c_ende k_ende
  have b_ende := F_ende.binds (ps := ["_law_line_here", "_law_posts"]) fun _ _ _ _ _ _ us hl => match us, hl with | [_, _], _ => rfl
  have D_ende : Def K mg "_law_is_end" sEnd ["_law_line_here", "_law_posts"] f_ende _ := ⟨F_ende, PySem.W.mg_of X G a_ende, k_ende, b_ende⟩
  have F_bads := fun_mk (st := sBadSigns) l_bads c_bads k_bads
  have b_bads := F_bads.binds (ps := ["_law_abc"]) fun _ _ _ _ _ _ us hl => match us, hl with | [_], _ => rfl
  have D_bads : Def K mg "_law_bad_signs" sBadSigns ["_law_abc"] f_bads _ := ⟨F_bads, PySem.W.mg_of X G a_bads, k_bads, b_bads⟩
  have F_std := fun_mk (st := sStDue) l_std c_std k_std
  have b_std := F_std.binds (ps := ["_law_posts"]) fun _ _ _ _ _ _ us hl => match us, hl with | [_], _ => rfl
  have D_std : Def K mg "_law_states_due" sStDue ["_law_posts"] f_std _ := ⟨F_std, PySem.W.mg_of X G a_std, k_std, b_std⟩
  have F_rod := fun_mk (st := sRoDue) l_rod c_rod k_rod
  have b_rod := F_rod.binds (ps := ["_law_abc", "_law_posts", "_law_lines"]) fun _ _ _ _ _ _ us hl => match us, hl with | [_, _, _], _ => rfl
  have D_rod : Def K mg "_law_rows_due" sRoDue ["_law_abc", "_law_posts", "_law_lines"] f_rod _ := ⟨F_rod, PySem.W.mg_of X G a_rod, k_rod, b_rod⟩
  have F_end_ := fun_mk (st := sEnDue) l_end_ c_end_ k_end_
  have b_end_ := F_end_.binds (ps := ["_law_posts", "_law_ends"]) fun _ _ _ _ _ _ us hl => match us, hl with | [_, _], _ => rfl
  have D_end_ : Def K mg "_law_ends_due" sEnDue ["_law_posts", "_law_ends"] f_end_ _ := ⟨F_end_, PySem.W.mg_of X G a_end_, k_end_, b_end_⟩
  have F_yed := fun_mk (st := sYeDue) l_yed c_yed k_yed
  have b_yed := F_yed.binds (ps := ["_law_posts", "_law_oks"]) fun _ _ _ _ _ _ us hl => match us, hl with | [_, _], _ => rfl
  have D_yed : Def K mg "_law_yes_due" sYeDue ["_law_posts", "_law_oks"] f_yed _ := ⟨F_yed, PySem.W.mg_of X G a_yed, k_yed, b_yed⟩
  have F_due := fun_mk (st := sLoDue) l_due c_due k_due
  have b_due := F_due.binds (ps := ["_law_parts_here"]) fun _ _ _ _ _ _ us hl => match us, hl with | [_], _ => rfl
  have D_due : Def K mg "_law_loop_due" sLoDue ["_law_parts_here"] f_due _ := ⟨F_due, PySem.W.mg_of X G a_due, k_due, b_due⟩
  have F_parts := fun_mk (st := sParts) l_parts c_parts k_parts
  have b_parts := F_parts.binds (ps := ["_law_pool_here", "_law_model_here"]) fun _ _ _ _ _ _ us hl => match us, hl with | [_, _], _ => rfl
  have D_parts : Def K mg "_law_parts" sParts ["_law_pool_here", "_law_model_here"] f_parts _ := ⟨F_parts, PySem.W.mg_of X G a_parts, k_parts, b_parts⟩
  have F_bent := fun_mk (st := sBent) l_bent c_bent k_bent
  have b_bent := F_bent.binds (ps := ["_law_pool_here", "_law_some", "_law_odd_here"]) fun _ _ _ _ _ _ us hl => match us, hl with | [_, _, _], _ => rfl
  have D_bent : Def K mg "_law_bent" sBent ["_law_pool_here", "_law_some", "_law_odd_here"] f_bent _ := ⟨F_bent, PySem.W.mg_of X G a_bent, k_bent, b_bent⟩
  have F_spline := fun_mk (st := sSpLine) l_spline c_spline k_spline
  have b_spline := F_spline.binds (ps := ["_law_pool_here", "_law_some", "_law_posts"]) fun _ _ _ _ _ _ us hl => match us, hl with | [_, _, _], _ => rfl
  have D_spline : Def K mg "_law_spoilt_line" sSpLine ["_law_pool_here", "_law_some", "_law_posts"] f_spline _ := ⟨F_spline, PySem.W.mg_of X G a_spline, k_spline, b_spline⟩
  have F_spoilt := fun_mk (st := sSpoilt) l_spoilt c_spoilt k_spoilt
  have b_spoilt := F_spoilt.binds (ps := ["_law_pool_here", "_law_parts_here", "_law_which"]) fun _ _ _ _ _ _ us hl => match us, hl with | [_, _, _], _ => rfl
  have D_spoilt : Def K mg "_law_spoilt" sSpoilt ["_law_pool_here", "_law_parts_here", "_law_which"] f_spoilt _ := ⟨F_spoilt, PySem.W.mg_of X G a_spoilt, k_spoilt, b_spoilt⟩
  have F_heard := fun_mk (st := sPtHeard) l_heard c_heard k_heard
  have b_heard := F_heard.binds (ps := ["_law_act"]) fun _ _ _ _ _ _ us hl => match us, hl with | [_], _ => rfl
  have D_heard : Def K mg "_law_heard" sPtHeard ["_law_act"] f_heard _ := ⟨F_heard, PySem.W.mg_of X G a_heard, k_heard, b_heard⟩
  have F_prr := fun_mk (st := sPrRight) l_prr c_prr k_prr
  have b_prr := F_prr.binds (ps := ["_law_parts_here"]) fun _ _ _ _ _ _ us hl => match us, hl with | [_], _ => rfl
  have D_prr : Def K mg "_law_parts_right" sPrRight ["_law_parts_here"] f_prr _ := ⟨F_prr, PySem.W.mg_of X G a_prr, k_prr, b_prr⟩
  have F_right := fun_mk (st := sRight) l_right c_right k_right
  have b_right := F_right.binds (ps := ["_law_pool_here"]) fun _ _ _ _ _ _ us hl => match us, hl with | [_], _ => rfl
  have D_right : Def K mg "_law_right" sRight ["_law_pool_here"] f_right _ := ⟨F_right, PySem.W.mg_of X G a_right, k_right, b_right⟩
  have F_lim := fun_mk (st := sAtLimit) l_lim c_lim k_lim
  have b_lim := F_lim.binds (ps := []) fun _ _ _ _ _ _ us hl => match us, hl with | [], _ => rfl
  have D_lim : Def K mg "_law_at_the_limit" sAtLimit [] f_lim _ := ⟨F_lim, PySem.W.mg_of X G a_lim, k_lim, b_lim⟩
  have F_ksigns := fun_mk (st := sIsSigns) l_ksigns c_ksigns k_ksigns
  have b_ksigns := F_ksigns.binds (ps := ["value"]) fun _ _ _ _ _ _ us hl => match us, hl with | [_], _ => rfl
  have D_ksigns : Def K mg "is_signs" sIsSigns ["value"] f_ksigns _ := ⟨F_ksigns, PySem.W.mg_of X G a_ksigns, k_ksigns, b_ksigns⟩
  have F_ksignof := fun_mk (st := sSignOf) l_ksignof c_ksignof k_ksignof
  have b_ksignof := F_ksignof.binds (ps := ["value", "signs"]) fun _ _ _ _ _ _ us hl => match us, hl with | [_, _], _ => rfl
  have D_ksignof : Def K mg "is_sign_of" sSignOf ["value", "signs"] f_ksignof _ := ⟨F_ksignof, PySem.W.mg_of X G a_ksignof, k_ksignof, b_ksignof⟩
  have F_kfirst := fun_mk (st := sFirst) l_kfirst c_kfirst k_kfirst
  have b_kfirst := F_kfirst.binds (ps := ["values", "right"]) fun _ _ _ _ _ _ us hl => match us, hl with | [_, _], _ => rfl
  have D_kfirst : Def K mg "first_wrong" sFirst ["values", "right"] f_kfirst _ := ⟨F_kfirst, PySem.W.mg_of X G a_kfirst, k_kfirst, b_kfirst⟩
  have F_kisword := fun_mk (st := sIsWord) l_kisword c_kisword k_kisword
  have b_kisword := F_kisword.binds (ps := ["value"]) fun _ _ _ _ _ _ us hl => match us, hl with | [_], _ => rfl
  have D_kisword : Def K mg "is_word" sIsWord ["value"] f_kisword _ := ⟨F_kisword, PySem.W.mg_of X G a_kisword, k_kisword, b_kisword⟩
  have F_kisname := fun_mk (st := sIsName) l_kisname c_kisname k_kisname
  have b_kisname := F_kisname.binds (ps := ["value"]) fun _ _ _ _ _ _ us hl => match us, hl with | [_], _ => rfl
  have D_kisname : Def K mg "is_name" sIsName ["value"] f_kisname _ := ⟨F_kisname, PySem.W.mg_of X G a_kisname, k_kisname, b_kisname⟩
  have F_kisint := fun_mk (st := sIsInt) l_kisint c_kisint k_kisint
  have b_kisint := F_kisint.binds (ps := ["value"]) fun _ _ _ _ _ _ us hl => match us, hl with | [_], _ => rfl
  have D_kisint : Def K mg "is_integer" sIsInt ["value"] f_kisint _ := ⟨F_kisint, PySem.W.mg_of X G a_kisint, k_kisint, b_kisint⟩
  have F_kintfrom := fun_mk (st := sIsIntF) l_kintfrom c_kintfrom k_kintfrom
  have b_kintfrom := F_kintfrom.binds (ps := ["value", "least"]) fun _ _ _ _ _ _ us hl => match us, hl with | [_, _], _ => rfl
  have D_kintfrom : Def K mg "is_integer_from" sIsIntF ["value", "least"] f_kintfrom _ := ⟨F_kintfrom, PySem.W.mg_of X G a_kintfrom, k_kintfrom, b_kintfrom⟩
  have F_kstateof := fun_mk (st := sStateOf) l_kstateof c_kstateof k_kstateof
  have b_kstateof := F_kstateof.binds (ps := ["value", "states"]) fun _ _ _ _ _ _ us hl => match us, hl with | [_, _], _ => rfl
  have D_kstateof : Def K mg "is_state_of" sStateOf ["value", "states"] f_kstateof _ := ⟨F_kstateof, PySem.W.mg_of X G a_kstateof, k_kstateof, b_kstateof⟩
  have F_krowof := fun_mk (st := sRowOf) l_krowof c_krowof k_krowof
  have b_krowof := F_krowof.binds (ps := ["value", "signs", "states"]) fun _ _ _ _ _ _ us hl => match us, hl with | [_, _, _], _ => rfl
  have D_krowof : Def K mg "is_row_of" sRowOf ["value", "signs", "states"] f_krowof _ := ⟨F_krowof, PySem.W.mg_of X G a_krowof, k_krowof, b_krowof⟩
  have F_kturnof := fun_mk (st := sTurnOf) l_kturnof c_kturnof k_kturnof
  have b_kturnof := F_kturnof.binds (ps := ["value", "states"]) fun _ _ _ _ _ _ us hl => match us, hl with | [_, _], _ => rfl
  have D_kturnof : Def K mg "is_turn_of" sTurnOf ["value", "states"] f_kturnof _ := ⟨F_kturnof, PySem.W.mg_of X G a_kturnof, k_kturnof, b_kturnof⟩
  have F_kchst := fun_mk (st := sChSt) l_kchst c_kchst k_kchst
  have b_kchst := F_kchst.binds (ps := ["states"]) fun _ _ _ _ _ _ us hl => match us, hl with | [_], _ => rfl
  have D_kchst : Def K mg "check_states" sChSt ["states"] f_kchst _ := ⟨F_kchst, PySem.W.mg_of X G a_kchst, k_kchst, b_kchst⟩
  have F_kchro := fun_mk (st := sChRo) l_kchro c_kchro k_kchro
  have b_kchro := F_kchro.binds (ps := ["rows", "signs", "states"]) fun _ _ _ _ _ _ us hl => match us, hl with | [_, _, _], _ => rfl
  have D_kchro : Def K mg "check_rows" sChRo ["rows", "signs", "states"] f_kchro _ := ⟨F_kchro, PySem.W.mg_of X G a_kchro, k_kchro, b_kchro⟩
  have F_kchtu := fun_mk (st := sChTu) l_kchtu c_kchtu k_kchtu
  have b_kchtu := F_kchtu.binds (ps := ["turns", "states"]) fun _ _ _ _ _ _ us hl => match us, hl with | [_, _], _ => rfl
  have D_kchtu : Def K mg "check_turns" sChTu ["turns", "states"] f_kchtu _ := ⟨F_kchtu, PySem.W.mg_of X G a_kchtu, k_kchtu, b_kchtu⟩
  have F_kchye := fun_mk (st := sChYe) l_kchye c_kchye k_kchye
  have b_kchye := F_kchye.binds (ps := ["yes", "states"]) fun _ _ _ _ _ _ us hl => match us, hl with | [_, _], _ => rfl
  have D_kchye : Def K mg "check_yes" sChYe ["yes", "states"] f_kchye _ := ⟨F_kchye, PySem.W.mg_of X G a_kchye, k_kchye, b_kchye⟩
  have F_korro := fun_mk (st := sOrRo) l_korro c_korro k_korro
  have b_korro := F_korro.binds (ps := ["rows", "signs", "states"]) fun _ _ _ _ _ _ us hl => match us, hl with | [_, _, _], _ => rfl
  have D_korro : Def K mg "ordered_rows" sOrRo ["rows", "signs", "states"] f_korro _ := ⟨F_korro, PySem.W.mg_of X G a_korro, k_korro, b_korro⟩
  have F_kortu := fun_mk (st := sOrTu) l_kortu c_kortu k_kortu
  have b_kortu := F_kortu.binds (ps := ["turns", "states"]) fun _ _ _ _ _ _ us hl => match us, hl with | [_, _], _ => rfl
  have D_kortu : Def K mg "ordered_turns" sOrTu ["turns", "states"] f_kortu _ := ⟨F_kortu, PySem.W.mg_of X G a_kortu, k_kortu, b_kortu⟩
  have F_korye := fun_mk (st := sOrYe) l_korye c_korye k_korye
  have b_korye := F_korye.binds (ps := ["yes", "states"]) fun _ _ _ _ _ _ us hl => match us, hl with | [_, _], _ => rfl
  have D_korye : Def K mg "ordered_yes" sOrYe ["yes", "states"] f_korye _ := ⟨F_korye, PySem.W.mg_of X G a_korye, k_korye, b_korye⟩
  have F_mI : FunD K "__init__" "Loop.__init__" (defArgs sLoInit) (defBody sLoInit) (defScope sLoInit) [.ref e] [("yes", .ref e2)] f_mI _ := ⟨⟨_, _, .ref tD, .ref kD, _, _, _, _, _, _, rfl, l_mI, c_mI, .inr ⟨by simp, tD, _, [.ref e], _, rfl, l_tD, rfl, .cons rfl .nil⟩, .inr ⟨kD, rfl, fun q hq => by rw [List.mem_singleton.mp hq]; exact ⟨_, n_yes, rfl⟩⟩⟩, k_mI⟩
  have kI := FunD_kbk (ps := ["self", "signs", "states", "rows", "turns", "yes"]) F_mI 5 ["yes"] Wb.gL (by simp) gL_rel fun T kV doc pm an cdv ct us its ws hu hi hw => match us, hu, its, hi, ws, hw with | [_, _, _, _, _], _, [_], _, [_], _ => ⟨_, rfl, rfl⟩
  have F_mW := fun_mk (st := sLoRow) l_mW c_mW k_mW
  have b_mW := F_mW.binds (ps := ["self"]) fun _ _ _ _ _ _ us hl => match us, hl with | [_], _ => rfl
  have P_mW : PropOf K C "row" pW f_mW := ⟨p_atW, p_getW, p_takW, ⟨_, p_recW⟩⟩
  have F_mAn := fun_mk (st := sLoAnswer) l_mAn c_mAn k_mAn
  have b_mAn := F_mAn.binds (ps := ["self", "text", "lap"]) fun _ _ _ _ _ _ us hl => match us, hl with | [_, _, _], _ => rfl
  have M_mAn : Meth K C "answer" f_mAn := ⟨a_mAn, i_mAn, k_mAn⟩
  have F_mSt := fun_mk (st := sLoState) l_mSt c_mSt k_mSt
  have b_mSt := F_mSt.binds (ps := ["self", "text", "rounds"]) fun _ _ _ _ _ _ us hl => match us, hl with | [_, _, _], _ => rfl
  have M_mSt : Meth K C "state" f_mSt := ⟨a_mSt, i_mSt, k_mSt⟩
  have F_mTx := fun_mk (st := sLoText) l_mTx c_mTx k_mTx
  have b_mTx := F_mTx.binds (ps := ["self", "text"]) fun _ _ _ _ _ _ us hl => match us, hl with | [_, _], _ => rfl
  have M_mTx : Meth K C "_check_text" f_mTx := ⟨a_mTx, i_mTx, k_mTx⟩
  have F_mGo := fun_mk (st := sLoGone) l_mGo c_mGo k_mGo
  have b_mGo := F_mGo.binds (ps := ["self", "text"]) fun _ _ _ _ _ _ us hl => match us, hl with | [_, _], _ => rfl
  have M_mGo : Meth K C "_gone" f_mGo := ⟨a_mGo, i_mGo, k_mGo⟩
  have F_mOf := fun_mk (st := sLoOf) l_mOf c_mOf k_mOf
  have b_mOf := F_mOf.binds (ps := ["self", "course", "counts", "lap"]) fun _ _ _ _ _ _ us hl => match us, hl with | [_, _, _, _], _ => rfl
  have M_mOf : Meth K C "_answer_of" f_mOf := ⟨a_mOf, i_mOf, k_mOf⟩
  have F_mtI := fun_mk (st := sTaInit) l_mtI c_mtI k_mtI
  have b_mtI := F_mtI.binds (ps := ["self", "row"]) fun _ _ _ _ _ _ us hl => match us, hl with | [_, _], _ => rfl
  have F_mtG := fun_mk (st := sTaGone) l_mtG c_mtG k_mtG
  have b_mtG := F_mtG.binds (ps := ["self", "text", "start"]) fun _ _ _ _ _ _ us hl => match us, hl with | [_, _, _], _ => rfl
  have M_mtG : Meth K T "gone" f_mtG := ⟨a_mtG, i_mtG, k_mtG⟩
  have F_mcI := fun_mk (st := sCoInit) l_mcI c_mcI k_mcI
  have b_mcI := F_mcI.binds (ps := ["self", "leads"]) fun _ _ _ _ _ _ us hl => match us, hl with | [_, _], _ => rfl
  have F_mcP := fun_mk (st := sCoPlace) l_mcP c_mcP k_mcP
  have b_mcP := F_mcP.binds (ps := ["self", "rounds"]) fun _ _ _ _ _ _ us hl => match us, hl with | [_, _], _ => rfl
  have M_mcP : Meth K O "place" f_mcP := ⟨a_mcP, i_mcP, k_mcP⟩
  have F_mcB := fun_mk (st := sCoBehind) l_mcB c_mcB k_mcB
  have b_mcB := F_mcB.binds (ps := ["self", "rounds"]) fun _ _ _ _ _ _ us hl => match us, hl with | [_, _], _ => rfl
  have M_mcB : Meth K O "behind" f_mcB := ⟨a_mcB, i_mcB, k_mcB⟩
  have R' : LoopF K mg ⟨C, T, O, f_mI, f_mW, f_mAn, f_mSt, f_mTx, f_mGo, f_mOf, pW, f_mtI, f_mtG, f_mcI, f_mcP, f_mcB, _, _, _, _, _, _, _, _, _, _, _, _, f_ksigns, f_ksignof, f_kfirst, f_kisword, f_kisname, f_kisint, f_kintfrom, f_kstateof, f_krowof, f_kturnof, f_kchst, f_kchro, f_kchtu, f_kchye, f_korro, f_kortu, f_korye, _, _, _, _, _, _, PySem.W.fnOf "is_integer_from" "is_integer_from" (defArgs sIsIntF) (defBody sIsIntF) (defScope sIsIntF) .none kv_kintfrom dc_kintfrom pm_kintfrom an_kintfrom cd_kintfrom ct_kintfrom, _, _, _, _, _, _, _, _, _, _⟩ e := ⟨LK, TK, OK, PySem.W.mg_of X G aT, PySem.W.mg_of X G aO, PySem.W.mg_of X G aC, ⟨mkC, a_mI, i_mI, kcC⟩, ⟨mkT, a_mtI, i_mtI, kcT⟩, ⟨mkO, a_mcI, i_mcI, kcO⟩, ⟨_, F_mI⟩, kI, F_mW, b_mW, P_mW, F_mAn, b_mAn, M_mAn, F_mSt, b_mSt, M_mSt, F_mTx, b_mTx, M_mTx, F_mGo, b_mGo, M_mGo, F_mOf, b_mOf, M_mOf, F_mtI, b_mtI, F_mtG, b_mtG, M_mtG, F_mcI, b_mcI, F_mcP, b_mcP, M_mcP, F_mcB, b_mcB, M_mcB, D_ksigns, D_ksignof, D_kfirst, D_kisword, D_kisname, D_kisint, D_kstateof, D_krowof, D_kturnof, D_kchst, D_kchro, D_kchtu, D_kchye, D_korro, D_kortu, D_korye, ⟨t600, PySem.W.mg_of X G gt600⟩, ⟨t4, PySem.W.mg_of X G gt4⟩, ⟨t8, PySem.W.mg_of X G gt8⟩, ⟨t6, PySem.W.mg_of X G gt6⟩, Z_tuple, Z_enumerate, Z_zip, Z_sorted⟩
  have D' : Defs K mg ⟨f_cell, f_pool, f_draw, f_shuf, f_face, f_whole, f_odd, f_signs, f_isword, f_name, f_names, f_amount, f_model, f_line, f_isname, f_step, f_ende, f_bads, f_std, f_rod, f_end_, f_yed, f_due, f_parts, f_bent, f_spline, f_spoilt, f_heard, f_prr, f_right, f_lim, _, _, _, _, _, _, _, _, _, _, _, _, _, _, _, _, _, _, _, _, _, _, _, _, _, _, _, _, _, _, _⟩ := ⟨D_cell, D_pool, D_draw, D_shuf, D_face, D_whole, D_odd, D_signs, D_isword, D_name, D_names, D_amount, D_model, D_line, D_isname, D_step, D_ende, D_bads, D_std, D_rod, D_end_, D_yed, D_due, D_parts, D_bent, D_spline, D_spoilt, D_heard, D_prr, D_right, D_lim⟩
  have ZT : FreeT mg := ⟨Z_isinstance, Z_tuple, Z_list, Z_dict, Z_bool⟩
  have k5 := FunD_kbk (ps := ["self", "signs", "states", "rows", "turns", "yes"]) F_mI 1 ["yes", "turns", "states", "rows", "signs"] Wb.g5 (by simp) g5_rel fun T kV doc pm an cdv ct us its ws hu hi hw => match us, hu, its, hi, ws, hw with | [_], _, [_], _, [_, _, _, _, _], _ => ⟨_, rfl, rfl⟩
  have b0 := F_mI.binds (ps := ["self", "signs", "states", "rows", "turns", "yes"]) 4 0 (by simp) rfl (fun T D doc pm an cdv ct us its ks hu hi hk => match us, hu, its, hi, ks, hk with | [_, _, _, _], _, [_], _, [_], _ => ⟨_, rfl, _, _, _, _, _, _, rfl, rfl, rfl⟩) (by simp)
  have F_eGG := fun_mk (st := sErrInvalidSigns) l_eGG c_eGG k_eGG
  have b_eGG := F_eGG.binds (ps := ["self", "given"]) fun _ _ _ _ _ _ us hl => match us, hl with | [_, _], _ => rfl
  have EGG : ErrF K mg "InvalidSigns" "given" "InvalidSigns.__init__" sErrInvalidSigns cGG f_eGG _ := ⟨⟨⟨_, _, _, _, _, _, _, _, _, _, _, _, _, _, _, xLGG, (show PySem.HandSPX.refsVE [.type "ValueError", .type "Exception", .type "BaseException", .type "object"] = true by decide +kernel)⟩, saGGx, exGG, tyGG, kcGGx⟩, ⟨gaGG, ggGG, exGG, hdGGx⟩, noGG, iniGG, fnGG, F_eGG, b_eGG, PySem.W.mg_of X G aXGG⟩
  have F_eSS := fun_mk (st := sErrInvalidStates) l_eSS c_eSS k_eSS
  have b_eSS := F_eSS.binds (ps := ["self", "index"]) fun _ _ _ _ _ _ us hl => match us, hl with | [_, _], _ => rfl
  have ESS : ErrF K mg "InvalidStates" "index" "InvalidStates.__init__" sErrInvalidStates cSS f_eSS _ := ⟨⟨⟨_, _, _, _, _, _, _, _, _, _, _, _, _, _, _, xLSS, (show PySem.HandSPX.refsVE [.type "ValueError", .type "Exception", .type "BaseException", .type "object"] = true by decide +kernel)⟩, saSSx, exSS, tySS, kcSSx⟩, ⟨gaSS, ggSS, exSS, hdSSx⟩, noSS, iniSS, fnSS, F_eSS, b_eSS, PySem.W.mg_of X G aXSS⟩
  have F_eRR := fun_mk (st := sErrInvalidRows) l_eRR c_eRR k_eRR
  have b_eRR := F_eRR.binds (ps := ["self", "index"]) fun _ _ _ _ _ _ us hl => match us, hl with | [_, _], _ => rfl
  have ERR : ErrF K mg "InvalidRows" "index" "InvalidRows.__init__" sErrInvalidRows cRR f_eRR _ := ⟨⟨⟨_, _, _, _, _, _, _, _, _, _, _, _, _, _, _, xLRR, (show PySem.HandSPX.refsVE [.type "ValueError", .type "Exception", .type "BaseException", .type "object"] = true by decide +kernel)⟩, saRRx, exRR, tyRR, kcRRx⟩, ⟨gaRR, ggRR, exRR, hdRRx⟩, noRR, iniRR, fnRR, F_eRR, b_eRR, PySem.W.mg_of X G aXRR⟩
  have F_eTT := fun_mk (st := sErrInvalidTurns) l_eTT c_eTT k_eTT
  have b_eTT := F_eTT.binds (ps := ["self", "index"]) fun _ _ _ _ _ _ us hl => match us, hl with | [_, _], _ => rfl
  have ETT : ErrF K mg "InvalidTurns" "index" "InvalidTurns.__init__" sErrInvalidTurns cTT f_eTT _ := ⟨⟨⟨_, _, _, _, _, _, _, _, _, _, _, _, _, _, _, xLTT, (show PySem.HandSPX.refsVE [.type "ValueError", .type "Exception", .type "BaseException", .type "object"] = true by decide +kernel)⟩, saTTx, exTT, tyTT, kcTTx⟩, ⟨gaTT, ggTT, exTT, hdTTx⟩, noTT, iniTT, fnTT, F_eTT, b_eTT, PySem.W.mg_of X G aXTT⟩
  have S3 : ∀ d1 d2 d3 d4, TakesP K ⟨cGG, f_eGG, d1, cSS, f_eSS, d2, cRR, f_eRR, d3, cTT, f_eTT, d4⟩ := fun _ _ _ _ => ⟨PySem.W.exm_ref exGG hdGGx tyGG sGGGG, PySem.W.exm_ref exGG hdGGx tyGG sSSGG, PySem.W.exm_ref exSS hdSSx tySS sSSSS, PySem.W.exm_ref exGG hdGGx tyGG sRRGG, PySem.W.exm_ref exSS hdSSx tySS sRRSS, PySem.W.exm_ref exRR hdRRx tyRR sRRRR, PySem.W.exm_ref exGG hdGGx tyGG sTTGG, PySem.W.exm_ref exSS hdSSx tySS sTTSS, PySem.W.exm_ref exRR hdRRx tyRR sTTRR, PySem.W.exm_ref exTT hdTTx tyTT sTTTT⟩
  have EB : ErL K mg ⟨cGG, f_eGG, _, cSS, f_eSS, _, cRR, f_eRR, _, cTT, f_eTT, _⟩ := ⟨EGG, ESS, ERR, ETT⟩
  have FT : FunT K "_law_parts_right" "_law_parts_right" sPrRight f_prr _ cRt := ⟨_, _, _, _, _, _, _, _, rfl, l_prr, c_prr⟩
  have ht : PySem.W.tabIn K "_law_parts_right" = some (cRt, PtR) := by
    unfold PySem.W.tabIn
    rw [a_prr]
    dsimp only
    rw [l_prr]
    dsimp only [PySem.W.fnOf]
    rw [l_cR]
    dsimp only
    rw [v11]
  exact ⟨PySem.W.fnOf "law" "law" (defArgs sLaw) (defBody sLaw) (defScope sLaw) .none kv_law dc_law pm_law an_law cd_law ct_law, cRt, PtR, nP, ht, fun s v => .of_eq rfl, fun base _ _ TB => ok_law (fun_mk (st := sLaw) l_law c_law k_law) TB FT Z ZT R' ⟨⟨_, k5.choose_spec⟩, ⟨e2, _, e0_of l_e2, b0.choose_spec.1, b0.choose_spec.2⟩, e0_of l_e0⟩ EB (S3 _ _ _ _) D'⟩
theorem walk {l : PySem.W.OpenLaw} {q : Program} {loose : List Str} {XP : (Str → Option Value) → Heap → Prop} {YP : World → Heap → Prop} {d d2 : DefRec} {K : Params → PySem.W.Frag} (hn : l.most = some 63) (hdf : d.params.defaults = []) (hY : ∀ (w : World) (h : Heap), YP w h → (K w.params).In h)
    (find : (PyProof.Rows.recsOf q).find? (fun e => e.name == Str.ofString "_law_parts_right") = some d2)
    (F : ∀ (w : World) (mg : Str → Option Value) (fa : Addr) (h : Heap), (K w.params).In h → h.Ns mainGlobals mg → mg d.name = some (.ref fa) → ∃ (fd : FuncData) (c Pt : Addr), (K w.params).lookup Pt = none ∧ PySem.W.tabIn (K w.params) "_law_parts_right" = some (c, Pt) ∧ (∀ (s : Shared) (u : Value), BindsTo s fd ⟨[u], []⟩ [("_law_script", u)]) ∧
      ∀ base : Heap, (K w.params).In base → base.Ns mainGlobals mg → LamX.TabB base mg c Pt → FnOk l.prog w (K w.params) mg base CX0 11 fa fd ["_law_script"] (spLawT (K w.params) Pt)) :
    PySem.W.WalkO q loose XP YP l.row.toRowW d [] (fun f vs => PySem.call f vs) := by
  refine Att.attach_callB hn hdf fun w s0 s1 mg mb fa o pm cd doc a vs ns G Y ho hd hcd hmg hobj hints hlen hbits hg => ?_
  have KX := hY w _ Y
  obtain ⟨fd, c, Pt, nP, ht, hb, hF⟩ := F w mg fa _ KX G.T.g hmg
  obtain ⟨hC, hT⟩ := PySem.W.tab_of G.T KX find ht
  refine LamX.law_callTs (k := 11) (cs := [(c, Pt)]) (fd := fd) (x := "_law_script") (CX := CX0) (sp := spLawT (K w.params) Pt) KX G.T.g G.T.b G.T.builtins G.T.nolimit hg ?_ ?_ ?_ G.T.bmain hobj hints (Nat.le_trans hlen (by decide)) ⟨rfl, by decide, by decide⟩ (fun base h1 h2 h3 => hF base h1 h2 (h3 _ List.mem_cons_self)) hb ?_ (fun _ _ _ z => z)
  · intro y hy
    rw [List.mem_singleton.mp hy]
    exact hT
  · intro y hy
    rw [List.mem_singleton.mp hy]
    exact nP
  · intro y hy
    rw [List.mem_singleton.mp hy]
    exact hC
  · intro H hH hS
    refine ⟨a, ns, rfl, hS, hlen, fun y hy => ?_, fun _ => rfl⟩
    rw [List.mem_singleton.mp hy]
    exact LamX.TabS.nil (hH _ List.mem_cons_self)
end Wb
local macro_rules
  | `(tactic| kernel_rfl%$tk) => do
    match tk.getInfo? with
    | some .none => Lean.Macro.throwUnsupported
    | _ =>
      let k : Lean.TSyntax `tactic := ⟨Lean.Syntax.node .none (← `(tactic| kernel_rfl)).raw.getKind #[Lean.Syntax.atom .none "kernel_rfl"]⟩
      `(tactic| first | (rename_i v0 v1; refine Wb.map_split (Wb.cast_to (Wb.run1 v0 v1) ?_) (Wb.cast_to (Wb.run2 v0 v1) ?_) ?_ <;> $k:tactic) | $k:tactic)
open PySem PySem.W PyProof.Rows in
set_option maxRecDepth 100000 in
set_option maxHeartbeats 0 in
theorem PySem.Challenge.cw_wherebegun_k14_loops_refused_holds : PySem.Challenge.rw_wherebegun_k14_loops_refused.Holds := by
  w_on; o_law; k_headL; (case hw => w_witness2)
  k_fill
  refine Wb.walk (l := PySem.Challenge.rw_wherebegun_k14_loops_refused) rfl rfl (fun w h Y => PySem.W.kIn_of Y) rfl ?F
  case F =>
    intro w mg fa h KX G hmg
    refine' Wb.all_mk KX G hmg ?a_cell ?l_cell ?c_cell ?k_cell ?a_pool ?l_pool ?c_pool ?k_pool ?a_draw ?l_draw ?c_draw ?k_draw ?a_shuf ?l_shuf ?c_shuf ?k_shuf ?a_face ?l_face ?c_face ?k_face ?a_whole ?l_whole ?c_whole ?k_whole ?a_odd ?l_odd ?c_odd ?k_odd ?a_signs ?l_signs ?c_signs ?k_signs ?a_isword ?l_isword ?c_isword ?k_isword ?a_name ?l_name ?c_name ?k_name ?a_names ?l_names ?c_names ?k_names ?a_amount ?l_amount ?c_amount ?k_amount ?a_model ?l_model ?c_model ?k_model ?a_line ?l_line ?c_line ?k_line ?a_isname ?l_isname ?c_isname ?k_isname ?a_step ?l_step ?c_step ?k_step ?a_ende ?l_ende ?c_ende ?k_ende ?a_bads ?l_bads ?c_bads ?k_bads ?a_std ?l_std ?c_std ?k_std ?a_rod ?l_rod ?c_rod ?k_rod ?a_end_ ?l_end_ ?c_end_ ?k_end_ ?a_yed ?l_yed ?c_yed ?k_yed ?a_due ?l_due ?c_due ?k_due ?a_parts ?l_parts ?c_parts ?k_parts ?a_bent ?l_bent ?c_bent ?k_bent ?a_spline ?l_spline ?c_spline ?k_spline ?a_spoilt ?l_spoilt ?c_spoilt ?k_spoilt ?a_heard ?l_heard ?c_heard ?k_heard ?a_prr ?l_prr ?c_prr ?k_prr ?a_right ?l_right ?c_right ?k_right ?a_lim ?l_lim ?c_lim ?k_lim ?a_ksigns ?l_ksigns ?c_ksigns ?k_ksigns ?a_ksignof ?l_ksignof ?c_ksignof ?k_ksignof ?a_kfirst ?l_kfirst ?c_kfirst ?k_kfirst ?a_kisword ?l_kisword ?c_kisword ?k_kisword ?a_kisname ?l_kisname ?c_kisname ?k_kisname ?a_kisint ?l_kisint ?c_kisint ?k_kisint ?a_kintfrom ?l_kintfrom ?c_kintfrom ?k_kintfrom ?a_kstateof ?l_kstateof ?c_kstateof ?k_kstateof ?a_krowof ?l_krowof ?c_krowof ?k_krowof ?a_kturnof ?l_kturnof ?c_kturnof ?k_kturnof ?a_kchst ?l_kchst ?c_kchst ?k_kchst ?a_kchro ?l_kchro ?c_kchro ?k_kchro ?a_kchtu ?l_kchtu ?c_kchtu ?k_kchtu ?a_kchye ?l_kchye ?c_kchye ?k_kchye ?a_korro ?l_korro ?c_korro ?k_korro ?a_kortu ?l_kortu ?c_kortu ?k_kortu ?a_korye ?l_korye ?c_korye ?k_korye ?a_law ?l_law ?c_law ?k_law ?aC ?aT ?aO ?a_mI ?i_mI ?l_mI ?c_mI ?k_mI ?p_atW ?p_getW ?p_takW ?p_recW ?l_mW ?c_mW ?k_mW ?a_mAn ?i_mAn ?l_mAn ?c_mAn ?k_mAn ?a_mSt ?i_mSt ?l_mSt ?c_mSt ?k_mSt ?a_mTx ?i_mTx ?l_mTx ?c_mTx ?k_mTx ?a_mGo ?i_mGo ?l_mGo ?c_mGo ?k_mGo ?a_mOf ?i_mOf ?l_mOf ?c_mOf ?k_mOf ?a_mtI ?i_mtI ?l_mtI ?c_mtI ?k_mtI ?a_mtG ?i_mtG ?l_mtG ?c_mtG ?k_mtG ?a_mcI ?i_mcI ?l_mcI ?c_mcI ?k_mcI ?a_mcP ?i_mcP ?l_mcP ?c_mcP ?k_mcP ?a_mcB ?i_mcB ?l_mcB ?c_mcB ?k_mcB ?l_tD ?n_yes ?pgC ?hdC ?poC ?saC ?mkC ?kcC ?pgT ?hdT ?poT ?saT ?mkT ?kcT ?pgO ?hdO ?poO ?saO ?mkO ?kcO ?nC__signs ?nC__states ?nC__rows ?nC__turns ?nC__yes ?nC__table ?nT_number ?nT_nexts ?nT_amounts ?nT_turn_nexts ?nT_turn_amounts ?nT_says ?nO_path ?nO_head ?nO_again ?gt600 ?gt4 ?gt8 ?gt6 ?l_e0 ?l_e2 ?l_cR ?v11 ?nP ?aXGG ?exGG ?tyGG ?gaGG ?ggGG ?hdGGx ?noGG ?aXSS ?exSS ?tySS ?gaSS ?ggSS ?hdSSx ?noSS ?aXRR ?exRR ?tyRR ?gaRR ?ggRR ?hdRRx ?noRR ?aXTT ?exTT ?tyTT ?gaTT ?ggTT ?hdTTx ?noTT ?sGGGG ?sSSGG ?sSSSS ?sRRGG ?sRRSS ?sRRRR ?sTTGG ?sTTSS ?sTTRR ?sTTTT ?xLGG ?saGGx ?kcGGx ?iniGG ?fnGG ?l_eGG ?c_eGG ?k_eGG ?xLSS ?saSSx ?kcSSx ?iniSS ?fnSS ?l_eSS ?c_eSS ?k_eSS ?xLRR ?saRRx ?kcRRx ?iniRR ?fnRR ?l_eRR ?c_eRR ?k_eRR ?xLTT ?saTTx ?kcTTx ?iniTT ?fnTT ?l_eTT ?c_eTT ?k_eTT ?z_int ?z_len ?z_range ?z_divmod ?z_abs ?z_isinstance ?z_str ?z_all ?z_min ?z_max ?z_set ?z_bool ?z_tuple ?z_enumerate ?z_zip ?z_sorted ?z_list ?z_dict
    (case a_cell => k_is)
    (case l_cell => k_is)
    (case c_cell => k_is)
    (case k_cell => k_is)
    (case a_pool => k_is)
    (case l_pool => k_is)
    (case c_pool => k_is)
    (case k_pool => k_is)
    (case a_draw => k_is)
    (case l_draw => k_is)
    (case c_draw => k_is)
    (case k_draw => k_is)
    (case a_shuf => k_is)
    (case l_shuf => k_is)
    (case c_shuf => k_is)
    (case k_shuf => k_is)
    (case a_face => k_is)
    (case l_face => k_is)
    (case c_face => k_is)
    (case k_face => k_is)
    (case a_whole => k_is)
    (case l_whole => k_is)
    (case c_whole => k_is)
    (case k_whole => k_is)
    (case a_odd => k_is)
    (case l_odd => k_is)
    (case c_odd => k_is)
    (case k_odd => k_is)
    (case a_signs => k_is)
    (case l_signs => k_is)
    (case c_signs => k_is)
    (case k_signs => k_is)
    (case a_isword => k_is)
    (case l_isword => k_is)
    (case c_isword => k_is)
    (case k_isword => k_is)
    (case a_name => k_is)
    (case l_name => k_is)
    (case c_name => k_is)
    (case k_name => k_is)
    (case a_names => k_is)
    (case l_names => k_is)
    (case c_names => k_is)
    (case k_names => k_is)
    (case a_amount => k_is)
    (case l_amount => k_is)
    (case c_amount => k_is)
    (case k_amount => k_is)
    (case a_model => k_is)
    (case l_model => k_is)
    (case c_model => k_is)
    (case k_model => k_is)
    (case a_line => k_is)
    (case l_line => k_is)
    (case c_line => k_is)
    (case k_line => k_is)
    (case a_isname => k_is)
    (case l_isname => k_is)
    (case c_isname => k_is)
    (case k_isname => k_is)
    (case a_step => k_is)
    (case l_step => k_is)
    (case c_step => k_is)
    (case k_step => k_is)
    (case a_ende => k_is)
    (case l_ende => k_is)
    (case c_ende => k_is)
    (case k_ende => k_is)
    (case a_bads => k_is)
    (case l_bads => k_is)
    (case c_bads => k_is)
    (case k_bads => k_is)
    (case a_std => k_is)
    (case l_std => k_is)
    (case c_std => k_is)
    (case k_std => k_is)
    (case a_rod => k_is)
    (case l_rod => k_is)
    (case c_rod => k_is)
    (case k_rod => k_is)
    (case a_end_ => k_is)
    (case l_end_ => k_is)
    (case c_end_ => k_is)
    (case k_end_ => k_is)
    (case a_yed => k_is)
    (case l_yed => k_is)
    (case c_yed => k_is)
    (case k_yed => k_is)
    (case a_due => k_is)
    (case l_due => k_is)
    (case c_due => k_is)
    (case k_due => k_is)
    (case a_parts => k_is)
    (case l_parts => k_is)
    (case c_parts => k_is)
    (case k_parts => k_is)
    (case a_bent => k_is)
    (case l_bent => k_is)
    (case c_bent => k_is)
    (case k_bent => k_is)
    (case a_spline => k_is)
    (case l_spline => k_is)
    (case c_spline => k_is)
    (case k_spline => k_is)
    (case a_spoilt => k_is)
    (case l_spoilt => k_is)
    (case c_spoilt => k_is)
    (case k_spoilt => k_is)
    (case a_heard => k_is)
    (case l_heard => k_is)
    (case c_heard => k_is)
    (case k_heard => k_is)
    (case a_prr => k_is)
    (case l_prr => k_is)
    (case c_prr => k_is)
    (case k_prr => k_is)
    (case a_right => k_is)
    (case l_right => k_is)
    (case c_right => k_is)
    (case k_right => k_is)
    (case a_lim => k_is)
    (case l_lim => k_is)
    (case c_lim => k_is)
    (case k_lim => k_is)
    (case a_ksigns => k_is)
    (case l_ksigns => k_is)
    (case c_ksigns => k_is)
    (case k_ksigns => k_is)
    (case a_ksignof => k_is)
    (case l_ksignof => k_is)
    (case c_ksignof => k_is)
    (case k_ksignof => k_is)
    (case a_kfirst => k_is)
    (case l_kfirst => k_is)
    (case c_kfirst => k_is)
    (case k_kfirst => k_is)
    (case a_kisword => k_is)
    (case l_kisword => k_is)
    (case c_kisword => k_is)
    (case k_kisword => k_is)
    (case a_kisname => k_is)
    (case l_kisname => k_is)
    (case c_kisname => k_is)
    (case k_kisname => k_is)
    (case a_kisint => k_is)
    (case l_kisint => k_is)
    (case c_kisint => k_is)
    (case k_kisint => k_is)
    (case a_kintfrom => k_is)
    (case l_kintfrom => k_is)
    (case c_kintfrom => k_is)
    (case k_kintfrom => k_is)
    (case a_kstateof => k_is)
    (case l_kstateof => k_is)
    (case c_kstateof => k_is)
    (case k_kstateof => k_is)
    (case a_krowof => k_is)
    (case l_krowof => k_is)
    (case c_krowof => k_is)
    (case k_krowof => k_is)
    (case a_kturnof => k_is)
    (case l_kturnof => k_is)
    (case c_kturnof => k_is)
    (case k_kturnof => k_is)
    (case a_kchst => k_is)
    (case l_kchst => k_is)
    (case c_kchst => k_is)
    (case k_kchst => k_is)
    (case a_kchro => k_is)
    (case l_kchro => k_is)
    (case c_kchro => k_is)
    (case k_kchro => k_is)
    (case a_kchtu => k_is)
    (case l_kchtu => k_is)
    (case c_kchtu => k_is)
    (case k_kchtu => k_is)
    (case a_kchye => k_is)
    (case l_kchye => k_is)
    (case c_kchye => k_is)
    (case k_kchye => k_is)
    (case a_korro => k_is)
    (case l_korro => k_is)
    (case c_korro => k_is)
    (case k_korro => k_is)
    (case a_kortu => k_is)
    (case l_kortu => k_is)
    (case c_kortu => k_is)
    (case k_kortu => k_is)
    (case a_korye => k_is)
    (case l_korye => k_is)
    (case c_korye => k_is)
    (case k_korye => k_is)
    (case a_law => k_is)
    (case l_law => k_is)
    (case c_law => k_is)
    (case k_law => k_is)
    (case aC => k_is)
    (case aT => k_is)
    (case aO => k_is)
    (case a_mI => k_is)
    (case i_mI => k_is)
    (case l_mI => k_is)
    (case c_mI => k_is)
    (case k_mI => k_is)
    (case p_atW => k_is)
    (case p_getW => k_is)
    (case p_takW => k_is)
    (case p_recW => k_is)
    (case l_mW => k_is)
    (case c_mW => k_is)
    (case k_mW => k_is)
    (case a_mAn => k_is)
    (case i_mAn => k_is)
    (case l_mAn => k_is)
    (case c_mAn => k_is)
    (case k_mAn => k_is)
    (case a_mSt => k_is)
    (case i_mSt => k_is)
    (case l_mSt => k_is)
    (case c_mSt => k_is)
    (case k_mSt => k_is)
    (case a_mTx => k_is)
    (case i_mTx => k_is)
    (case l_mTx => k_is)
    (case c_mTx => k_is)
    (case k_mTx => k_is)
    (case a_mGo => k_is)
    (case i_mGo => k_is)
    (case l_mGo => k_is)
    (case c_mGo => k_is)
    (case k_mGo => k_is)
    (case a_mOf => k_is)
    (case i_mOf => k_is)
    (case l_mOf => k_is)
    (case c_mOf => k_is)
    (case k_mOf => k_is)
    (case a_mtI => k_is)
    (case i_mtI => k_is)
    (case l_mtI => k_is)
    (case c_mtI => k_is)
    (case k_mtI => k_is)
    (case a_mtG => k_is)
    (case i_mtG => k_is)
    (case l_mtG => k_is)
    (case c_mtG => k_is)
    (case k_mtG => k_is)
    (case a_mcI => k_is)
    (case i_mcI => k_is)
    (case l_mcI => k_is)
    (case c_mcI => k_is)
    (case k_mcI => k_is)
    (case a_mcP => k_is)
    (case i_mcP => k_is)
    (case l_mcP => k_is)
    (case c_mcP => k_is)
    (case k_mcP => k_is)
    (case a_mcB => k_is)
    (case i_mcB => k_is)
    (case l_mcB => k_is)
    (case c_mcB => k_is)
    (case k_mcB => k_is)
    (case l_tD => k_is)
    (case n_yes => k_is)
    (case pgC => k_is)
    (case hdC => k_is)
    (case poC => k_is)
    (case saC => k_is)
    (case mkC => k_is)
    (case kcC => k_is)
    (case pgT => k_is)
    (case hdT => k_is)
    (case poT => k_is)
    (case saT => k_is)
    (case mkT => k_is)
    (case kcT => k_is)
    (case pgO => k_is)
    (case hdO => k_is)
    (case poO => k_is)
    (case saO => k_is)
    (case mkO => k_is)
    (case kcO => k_is)
    (case nC__signs => k_is)
    (case nC__states => k_is)
    (case nC__rows => k_is)
    (case nC__turns => k_is)
    (case nC__yes => k_is)
    (case nC__table => k_is)
    (case nT_number => k_is)
    (case nT_nexts => k_is)
    (case nT_amounts => k_is)
    (case nT_turn_nexts => k_is)
    (case nT_turn_amounts => k_is)
    (case nT_says => k_is)
    (case nO_path => k_is)
    (case nO_head => k_is)
    (case nO_again => k_is)
    (case gt600 => k_is)
    (case gt4 => k_is)
    (case gt8 => k_is)
    (case gt6 => k_is)
    (case l_e0 => k_is)
    (case l_e2 => k_is)
    (case l_cR => k_is)
    (case v11 => exact rfl)
    (case nP => kernel_rfl)
    (case aXGG => k_is)
    (case exGG => k_is)
    (case tyGG => k_is)
    (case gaGG => k_is)
    (case ggGG => k_is)
    (case hdGGx => k_is)
    (case noGG => k_is)
    (case aXSS => k_is)
    (case exSS => k_is)
    (case tySS => k_is)
    (case gaSS => k_is)
    (case ggSS => k_is)
    (case hdSSx => k_is)
    (case noSS => k_is)
    (case aXRR => k_is)
    (case exRR => k_is)
    (case tyRR => k_is)
    (case gaRR => k_is)
    (case ggRR => k_is)
    (case hdRRx => k_is)
    (case noRR => k_is)
    (case aXTT => k_is)
    (case exTT => k_is)
    (case tyTT => k_is)
    (case gaTT => k_is)
    (case ggTT => k_is)
    (case hdTTx => k_is)
    (case noTT => k_is)
    (case sGGGG => k_is)
    (case sSSGG => k_is)
    (case sSSSS => k_is)
    (case sRRGG => k_is)
    (case sRRSS => k_is)
    (case sRRRR => k_is)
    (case sTTGG => k_is)
    (case sTTSS => k_is)
    (case sTTRR => k_is)
    (case sTTTT => k_is)
    (case xLGG => k_is)
    (case saGGx => k_is)
    (case kcGGx => k_is)
    (case iniGG => k_is)
    (case fnGG => k_is)
    (case l_eGG => k_is)
    (case c_eGG => k_is)
    (case k_eGG => k_is)
    (case xLSS => k_is)
    (case saSSx => k_is)
    (case kcSSx => k_is)
    (case iniSS => k_is)
    (case fnSS => k_is)
    (case l_eSS => k_is)
    (case c_eSS => k_is)
    (case k_eSS => k_is)
    (case xLRR => k_is)
    (case saRRx => k_is)
    (case kcRRx => k_is)
    (case iniRR => k_is)
    (case fnRR => k_is)
    (case l_eRR => k_is)
    (case c_eRR => k_is)
    (case k_eRR => k_is)
    (case xLTT => k_is)
    (case saTTx => k_is)
    (case kcTTx => k_is)
    (case iniTT => k_is)
    (case fnTT => k_is)
    (case l_eTT => k_is)
    (case c_eTT => k_is)
    (case k_eTT => k_is)
    (case z_int => k_is)
    (case z_len => k_is)
    (case z_range => k_is)
    (case z_divmod => k_is)
    (case z_abs => k_is)
    (case z_isinstance => k_is)
    (case z_str => k_is)
    (case z_all => k_is)
    (case z_min => k_is)
    (case z_max => k_is)
    (case z_set => k_is)
    (case z_bool => k_is)
    (case z_tuple => k_is)
    (case z_enumerate => k_is)
    (case z_zip => k_is)
    (case z_sorted => k_is)
    (case z_list => k_is)
    (case z_dict => k_is)
