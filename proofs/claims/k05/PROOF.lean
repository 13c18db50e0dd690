import PyProof.Rows.All
import Wide.All
import OpenK.AllK
import Wide.FinOn
import HandS.Zip
import HandS.ForMost
import HandS.Walk
import HandS.DictComp
import HandS.IsInst
import HandS.Property
import HandS.Wide
import HandS.MakeKw
import KE.DataMinMax
import PyProof.StrBlock2
import HandS.Strs
import PyProof.CollectStr
import PyProof.TupleOfSeq
import HandS.More
import KE.GoesMore
import KE.GoesEnum
import HandS.Deep
import HandS.TupAny
import HandS.ExcInit
import PyProof.Rows.StrMeet
import PyProof.Rows.SortStr
import HandS.MakeKwOnly
import KE.KCallOwn
import PyProof.Conv_bool
import PyProof.InstNe
import HandS.SlotsOwn
import PyProof.ListStr
import HandS.ExcCtx
import HandS.TryMany
import HandS.HotCalls
import HandS.ExcField
import PyProof.Rows.TupIter
import HandS.Hot
import HandS.ExcInitHot
import HandS.Lambda
import HandS.Comp
import PyProof.TupleIter
import PyProof.Seq
import HandS.Iter
import PyProof.NeKinds
import KE.KOpsOwn
import PyProof.MeetsIn
import HandS.Star
import HandS.Dict
import HandS.ExcIs
import HandS.EndTab
import KE.KNest
import PySem.Challenge.RW_wherebegun_k05_rings_refused
set_option Elab.async false
set_option maxRecDepth 100000
set_option maxHeartbeats 1000000
/-! zip of two walks of any kind; then zip(a tuple, a list) -/
namespace Lz
open PySem PySem.Spec PyProof.Rows L2
/-- how one of the two is walked -/
structure Kind2 where
  It : Heap → Addr → Addr → Nat → Prop
  Src : Heap → Addr → Array Value → Prop
  obj : ∀ {h it l k}, It h it l k → ∃ o, h.get? it = some o ∧ ∀ v, o.data ≠ .cell v
  mvIt : ∀ {h h' it l k}, It h it l k → (∀ o, h.get? it = some o → h'.get? it = some o) → It h' it l k
  mvSrc : ∀ {h h' l xs}, Src h l xs → (∀ o, h.get? l = some o → h'.get? l = some o) → Src h' l xs
  item : ∀ {prog : Program} {w : World} {A : Around} {E : Value → Shared → Prop} {s : Shared} {it l : Addr} {i : Nat} {xs : Array Value} {x : Value} {Q : Value → Shared → Prop}, It s.heap it l i → Src s.heap l xs → xs[i]? = some x →
    (∀ h', It h' it l (i + 1) → Heap.SameBut it s.heap h' → Q x { s with heap := h' }) → wpAny (model prog w) A (Builtin.SmallTypes.nextOf (.ref it)) Q E s
  fin : ∀ {prog : Program} {w : World} {A : Around} {E : Value → Shared → Prop} {s : Shared} {it l : Addr} {i : Nat} {xs : Array Value} {Q : Value → Shared → Prop}, A.handled = none → It s.heap it l i → Src s.heap l xs → xs[i]? = none →
    (∀ h' e, Heap.ExtBut it s.heap h' → (∃ o, h'.get? e = some o ∧ o.cls = .type "StopIteration") → E (.ref e) { s with heap := h' }) → wpAny (model prog w) A (Builtin.SmallTypes.nextOf (.ref it)) Q E s
section
variable {prog : Program} {w : World} {A : Around} {E : Value → Shared → Prop} {s : Shared} {z TI TO i1 i2 l1 l2 : Addr} {k1 k2 : Nat} {xs ys : Array Value} {x y a b : Value} (U V : Kind2)
end
end Lz
set_option maxHeartbeats 1000000
namespace Lz
open PySem PySem.Spec PyProof.Rows L2
section
variable {prog : Program} {w : World} {A : Around} {E : Value → Shared → Prop} {s : Shared} {z TI TO i1 i2 l1 l2 : Addr} {k1 k2 : Nat} {xs ys : Array Value} {x y a b : Value} (U V : Kind2)
end
/-! ### zip(a tuple, a list) is made -/
abbrev m1 (h : Heap) (l1 : Addr) : Heap := h.push { cls := .type "tuple_iterator", data := .fields #[.ref l1, .int 0 0] }
abbrev m2 (h : Heap) (l1 l2 : Addr) : Heap := (m1 h l1).push { cls := .type "list_iterator", data := .fields #[.ref l2, .int 0 0] }
section
variable {prog : Program} {w : World} {A : Around} {E : Value → Shared → Prop} {s : Shared}
end
/-! ### its turns -/
end Lz
set_option maxHeartbeats 1000000
/-! {k: v for ..} with tuples as keys -/
namespace Lz
open PySem PySem.Spec PyProof.Rows L2
section
variable {X : Cx}
variable {kx vx tg iter : Expr} {ifs : List Expr} {scope : Scope} {own : List (Str × Nat)} {pos : Pos} {wi : TI} {g : TG} {tt : TT} {tk tv : TE}
end
end Lz
namespace Wb
open PySem L2
def top (i : Nat) : Stmt := PySem.Challenge.pw_wherebegun_k05_rings_refused.main.body.getD i (.Pass ⟨0, 0, 0, 0⟩)
abbrev sCell : Stmt := top 19
abbrev sPool : Stmt := top 20
abbrev sDraw : Stmt := top 21
/-- all but what lies at p stays -/
def But (p : Addr) (H H' : Hp) : Prop := ∀ b o, b ≠ p → H b = some o → H' b = some o
theorem But.refl (p : Addr) (H : Hp) : But p H H := fun _ _ _ h => h
theorem But.trans {p : Addr} {H H1 H2 : Hp} (a : But p H H1) (b : But p H1 H2) : But p H H2 := fun c o n h => b c o n (a c o n h)
theorem But.of {p : Addr} {H H' : Hp} (a : Same H H') : But p H H' := fun c o _ h => a c o h
theorem But.upd {p q : Addr} {o : HO} {H H' : Hp} (a : But p H H') (n : H' q = none) : But p H (L2.upd H' q o) := fun c u k h => by
  rw [upd_ne (ne_of_none (a c u k h) n)]
  exact a c u k h
theorem But.here {p : Addr} {o : HO} {H H' : Hp} (a : But p H H') : But p H (L2.upd H' p o) := fun c u k h => by
  rw [upd_ne k]
  exact a c u k h
theorem Same.put {q : Addr} {o : HO} {H H' : Hp} (a : Same H H') (n : H' q = none) : Same H (L2.upd H' q o) := fun c u h => by
  rw [upd_ne (ne_of_none (a c u h) n)]
  exact a c u h
/-- a pool stands at p: three ints -/
def PoolAt (H : Hp) (p : Addr) : Prop := ∃ a b c : Int, H p = some (.lst [.int a, .int b, .int c]) ∧ 0 ≤ a ∧ a < 2147483648 ∧ 0 ≤ b
def spDraw : Sp := fun vs H Q _ => ∃ (p : Addr) (m : Int), vs = [.ref p, .int m] ∧ 0 < m ∧ m < 1073741824 ∧ PoolAt H p ∧
  ∀ (d : Int) (H' : Hp), 0 ≤ d → d < m → PoolAt H' p → But p H H' → Q (.int d) H'
def spPool : Sp := fun vs H Q _ => ∃ c : Int, vs = [.int c] ∧ ∀ (p : Addr) (H' : Hp), H p = none → Same H H' → PoolAt H' p → Q (.ref p) H'
def spCell (K : PySem.W.Frag) : Sp := fun vs H Q _ => ∃ (a : Addr) (ns : List Int) (k : Int), vs = [.ref a, .int k] ∧ SqL K H a (ns.map V.int) ∧ ns.length ≤ 63 ∧ 0 ≤ k ∧ k < 64 ∧
  ∀ (n : Int) (H' : Hp), Same H H' → Q (.int n) H'
theorem cut_int {ns : List Int} {lo hi : Option Int} {i : Nat} {y : V} (h : (cutV (ns.map V.int) lo hi)[i]? = some y) : ∃ u, y = V.int u := by
  have q := List.mem_of_getElem? h
  unfold cutV at q
  obtain ⟨u, _, e⟩ := List.mem_map.mp (List.mem_of_mem_drop (List.mem_of_mem_take q))
  exact ⟨u, e.symm⟩
section
variable {P : Program} {w : World} {K : PySem.W.Frag} {mg : Str → Option Value} {base : Heap}
theorem scP : FnScope ["_law_cell_here", "_law_digits"] ["_law_cell_here"] (defScope sPool) := ⟨rfl, rfl, rfl, by decide +kernel, rfl, by decide +kernel, by decide +kernel⟩
theorem ok_pool {f : Addr} {fd : FuncData} (F : Fun K "_law_pool" "_law_pool" sPool f fd) (mAbs : mg "abs" = none) (mInt : mg "int" = none) : FnOk P w K mg base CX0 1 f fd ["_law_cell_here"] spPool := by
  refine F.ok scP (fun vs H Q E h => ?_) (fun cdv A outer s H vs Q E hr h => ?_)
  · obtain ⟨c, rfl, _⟩ := h
    rfl
  · obtain ⟨c, rfl, k⟩ := h
    refine ⟨_, pss_cons (ps_set (i := 1) scP.nd rfl (.inl rfl) (pe_ifExp (PW.pt (pw_or (pt_cmpR op_lt (pv 0) pe_int (nomark _)) (pw_or1 (pt_cmpR op_ge (pv 0) (pe_op op_pow pe_int pe_int) (nomark _)))))
        (pe_callB call_abs (by rfl) mAbs (by decide +kernel) (pa_cons (pv 0) pa_nil)) pe_int))
      (pss_one (ps_ret (pe_lst (pa_cons (pe_op op_mod (pe_callTy call_int1 (by rfl) mInt (by decide +kernel) (pa_cons (pv 0) pa_nil)) pe_int) (pa_cons (pv 1) (pa_cons pe_int pa_nil)))))), ?_⟩
    have fin : ∀ d : Int, 0 ≤ d → (tRet (tLst (tCons (tOp (rI (fun x j => 0 < j) fun i j => V.int (i % j)) (tCB (fun xs H Q => (∃ i, xs = [V.int i] ∧ Q (V.int i) H) ∨ ∃ k, xs = [V.bl k] ∧ Q (V.int (if k = true then 1 else 0)) H) (tCons (tVar 0) tNil)) (tC (V.int 2147483587))) (tCons (tVar 1) (tCons (tC (V.int 0)) tNil)))))
        { nx := fun x H' => Q V.non H', rt := Q } [some (V.int c), some (V.int d)] H := fun d h0 => by
      refine ⟨_, rfl, .inl ⟨_, rfl, _, _, rfl, rfl, (by show (0 : Int) < 2147483587; decide), _, rfl, (by show 3 ≤ sizeLine; decide), fun p hp => ?_⟩⟩
      refine k p _ hp (Same.put (Same.refl H) hp) ⟨_, _, _, upd_same, ?_⟩
      omega
    refine ⟨_, rfl, _, _, rfl, rfl, _, rfl, ite2 (fun h1 => iteT ?_) (fun h1 => ?_)⟩
    · refine ⟨_, rfl, _, rfl, ?_⟩
      exact fin _ (by split <;> omega)
    · refine ⟨_, rfl, _, _, rfl, rfl, (by refine ⟨?_, ?_, ?_⟩ <;> decide), _, _, rfl, rfl, _, rfl, ?_⟩
      refine ite2 (fun h2 => ?_) (fun h2 => ?_)
      · refine ⟨_, rfl, _, rfl, ?_⟩
        exact fin _ (by split <;> omega)
      · exact fin 0 (by omega)
theorem scD : FnScope ["_law_pool_here", "_law_many", "_law_mixed", "_law_digit"] ["_law_pool_here", "_law_many"] (defScope sDraw) := ⟨rfl, rfl, rfl, by decide +kernel, rfl, by decide +kernel, by decide +kernel⟩
theorem ok_draw {f : Addr} {fd : FuncData} (F : Fun K "_law_draw" "_law_draw" sDraw f fd) (mInt : mg "int" = none) (mDm : mg "divmod" = none) : FnOk P w K mg base CX0 1 f fd ["_law_pool_here", "_law_many"] spDraw := by
  refine F.ok scD (fun vs H Q E h => ?_) (fun cdv A outer s H vs Q E hr h => ?_)
  · obtain ⟨p, m, rfl, _⟩ := h
    rfl
  · obtain ⟨p, m, rfl, m0, m1, ⟨a, b, c, hp, a0, a1, b0⟩, k⟩ := h
    refine ⟨_, pss_cons (ps_asg (pe_op op_add (pe_ix ix_list (pv 0) pe_int (fun _ _ => rfl)) pe_int) (pg_sub (pv 0) pe_int set_list))
      (pss_cons (ps_set (i := 2) scD.nd rfl (.inl rfl) (pe_op op_mod (pe_callTy call_int1 (by rfl) mInt (by decide +kernel) (pa_cons (pe_op op_add (pe_op op_add (pe_op op_mul (pe_ix ix_list (pv 0) pe_int (fun _ _ => rfl)) pe_int) (pe_op op_mul (pe_ix ix_list (pv 0) pe_int (fun _ _ => rfl)) pe_int)) pe_int) pa_nil)) pe_int))
      (pss_cons (ps_asg (pe_op op_mod (pe_callTy call_int1 (by rfl) mInt (by decide +kernel) (pa_cons (pe_op op_mul (pv 2) (pe_op op_add (pe_op op_fdiv (pv 2) pe_int) pe_int)) pa_nil)) pe_int) (pg_sub (pv 0) pe_int set_list))
      (pss_cons (ps_if (pt_cmpR op_gt (pe_ix ix_list (pv 0) pe_int (fun _ _ => rfl)) pe_int (nomark _))
          (pss_cons (ps_asg (pe_callB call_divmod (by rfl) mDm (by decide +kernel) (pa_cons (pe_ix ix_list (pv 0) pe_int (fun _ _ => rfl)) (pa_cons (pv 1) pa_nil))) (pg_tup (by rfl) (pgs_cons (pg_sub (pv 0) pe_int set_list) (pgs_cons (pg_name (i := 3) scD.nd rfl (.inl rfl)) pgs_nil))))
            (pss_one (ps_ret (pv 3)))) pss_nil)
      (pss_one (ps_ret (pe_op op_mod (pe_callTy call_int1 (by rfl) mInt (by decide +kernel) (pa_cons (pe_op op_fdiv (pe_ix ix_list (pv 0) pe_int (fun _ _ => rfl)) pe_int) pa_nil)) (pv 1))))))), ?_⟩
    refine ⟨_, rfl, p, _, _, _, rfl, rfl, SqL.of hp, rfl, _, _, rfl, rfl, _, rfl, p, _, _, 2, rfl, rfl, hp, rfl, ?_⟩
    have hp1 : (L2.upd H p (.lst [.int a, .int b, .int (c + 1)])) p = some (.lst [.int a, .int b, .int (c + 1)]) := upd_same
    refine ⟨_, rfl, p, _, _, _, rfl, rfl, SqL.of hp1, rfl, _, _, rfl, rfl, .inl ⟨by omega, by omega⟩, _, rfl, p, _, _, _, rfl, rfl, SqL.of hp1, rfl, _, _, rfl, rfl, .inr ⟨by decide, by decide⟩, _, _, rfl, rfl, _, _, rfl, rfl, .inl ⟨_, rfl, _, _, rfl, rfl, (by show (0 : Int) < 2147483587; decide), ?_⟩⟩
    have x0 : ∀ z : Int, 0 ≤ z % 2147483587 ∧ z % 2147483587 < 2147483587 := fun z => ⟨Int.emod_nonneg _ (by decide), Int.emod_lt_of_pos _ (by decide)⟩
    generalize hx : ((a * 50021 + (c + 1) * 69067 + 31) % 2147483587 : Int) = x
    have ⟨x1, x2⟩ : 0 ≤ x ∧ x < 2147483587 := by rw [← hx]; exact x0 _
    refine ⟨_, rfl, _, rfl, _, _, rfl, rfl, ⟨by decide, by decide⟩, _, _, rfl, rfl, _, _, rfl, rfl, .inl ⟨by omega, by omega⟩, .inl ⟨_, rfl, _, _, rfl, rfl, (by show (0 : Int) < 2147483629; decide), ?_⟩⟩
    have y0 : ∀ z : Int, 0 ≤ z % 2147483629 ∧ z % 2147483629 < 2147483629 := fun z => ⟨Int.emod_nonneg _ (by decide), Int.emod_lt_of_pos _ (by decide)⟩
    refine ⟨_, rfl, p, _, _, 0, rfl, rfl, hp1, rfl, ?_⟩
    refine ⟨_, rfl, p, _, _, _, rfl, rfl, SqL.of upd_same, rfl, _, _, rfl, rfl, _, rfl, ite2 (fun h1 => ?_) (fun h1 => ?_)⟩
    · refine ⟨_, rfl, p, _, _, _, rfl, rfl, SqL.of upd_same, rfl, _, rfl, _, _, rfl, ⟨m0, m1⟩, fun t ht => ?_⟩
      have npt : p ≠ t := ne_of_none upd_same ht
      refine ⟨t, _, rfl, SqT.of upd_same, rfl, _, _, rfl, _, rfl, p, _, _, 1, rfl, rfl, (upd_ne npt).trans upd_same, rfl, _, _, rfl, ?_⟩
      refine ⟨rfl, _, rfl, k _ _ (Int.emod_nonneg _ (by omega)) (Int.emod_lt_of_pos _ m0) ⟨_, _, _, upd_same, ?_⟩ (But.here (But.upd (But.here (But.here (But.refl p H))) ht))⟩
      refine ⟨(y0 _).1, Int.lt_trans (y0 _).2 (by decide), ?_⟩
      exact Int.ediv_nonneg b0 (Int.le_of_lt m0)
    · refine ⟨_, rfl, p, _, _, _, rfl, rfl, SqL.of upd_same, rfl, _, _, rfl, rfl, ⟨by decide, by decide⟩, .inl ⟨_, rfl, _, rfl, _, _, rfl, rfl, m0, ?_⟩⟩
      exact k _ _ (Int.emod_nonneg _ (by omega)) (Int.emod_lt_of_pos _ m0) ⟨_, _, _, upd_same, (y0 _).1, Int.lt_trans (y0 _).2 (by decide), b0⟩ (But.here (But.here (But.refl p H)))
theorem scC : FnScope ["_law_script", "_law_k", "_law_mixed", "_law_cell_here"] ["_law_script", "_law_k"] (defScope sCell) := ⟨rfl, rfl, rfl, by decide +kernel, rfl, by decide +kernel, by decide +kernel⟩
theorem ok_cell {f : Addr} {fd : FuncData} (F : Fun K "_law_cell" "_law_cell" sCell f fd) (mInt : mg "int" = none) (mLen : mg "len" = none) : FnOk P w K mg base CX0 1 f fd ["_law_script", "_law_k"] (spCell K) := by
  refine F.ok scC (fun vs H Q E h => ?_) (fun cdv A outer s H vs Q E hr h => ?_)
  · obtain ⟨a, ns, j, rfl, _⟩ := h
    rfl
  · obtain ⟨a, ns, j, rfl, hS, hlen, j0, j1, k⟩ := h
    refine ⟨_, pss_cons (ps_if (pt_cmpR op_lt (pv 1) (pe_callB call_len_seq (by rfl) mLen PySem.boot_len (pa_cons (pv 0) pa_nil)) (nomark _)) (pss_one (ps_ret (pe_ix ix_list (pv 0) (pv 1) (fun _ _ => rfl)))) pss_nil)
      (pss_cons (ps_set (i := 2) scC.nd rfl (.inl rfl) (pe_op op_add pe_int (pe_op op_mul (pe_op op_mul pe_int (pv 1)) (pv 1))))
      (pss_cons (ps_for PassesOwn.never rfl (pi_list (pe_slice sl_list (pv 0) po_none (po_some pe_int))) (pg_name (i := 3) scC.nd rfl (.inl rfl))
        (pss_one (ps_set (i := 2) scC.nd rfl (.inl rfl) (pe_op op_mod (pe_callTy call_int1 (by rfl) mInt (by decide +kernel) (pa_cons (pe_op op_add (pe_op op_mul (pv 2) pe_int) (pv 3)) pa_nil)) pe_int))))
      (pss_one (ps_ret (pv 2))))), ?_⟩
    refine ⟨_, rfl, _, rfl, a, _, rfl, .inl hS, _, _, rfl, rfl, _, rfl, ite2 (fun h1 => ?_) (fun h1 => ?_)⟩
    · have h2 : j < (ns.length : Int) := by
        have q := of_decide_eq_true h1
        rw [List.length_map] at q
        exact q
      have h3 : (ns.map V.int)[j.toNat]? = some (V.int (ns[j.toNat]'(by omega))) := by
        rw [List.getElem?_map, List.getElem?_eq_getElem (by omega)] <;> rfl
      have h4 : atI (ns.map V.int) j = some (V.int (ns[j.toNat]'(by omega))) := by
        have q := atI_nat h3
        rw [Int.toNat_of_nonneg j0] at q
        exact q
      exact ⟨_, rfl, _, rfl, a, _, _, _, rfl, rfl, hS, h4, k _ _ (Same.refl H)⟩
    · have b1 : (-(2 ^ 64) < (4093 : Int) ∧ (4093 : Int) < 2 ^ 64) := by decide
      refine ⟨_, rfl, _, _, rfl, rfl, .inl b1, _, rfl, _, _, rfl, rfl, .inr ⟨by omega, by omega⟩, _, _, rfl, rfl, ?_⟩
      refine ⟨_, rfl, _, rfl, a, _, rfl, hS, fun q hq => ?_⟩
      have sq : SqL K (L2.upd H q (.lst (cutV (ns.map V.int) none (some 4)))) q (cutV (ns.map V.int) none (some 4)) := SqL.of upd_same
      refine ⟨q, rfl, ⟨_, sq⟩, for_list (K := K) (a := q) (xs := cutV (ns.map V.int) none (some 4)) (fun i σ H' => ∃ (z : Int) (v : Option V), σ = [some (.ref a), some (.int j), some (.int z), v] ∧ Same H H' ∧ SqL K H' q (cutV (ns.map V.int) none (some 4)))
        ⟨_, none, rfl, Same.put (Same.refl H) hq, sq⟩ (fun i σ H' _ ⟨_, _, _, _, s⟩ => s) ?_ ?_⟩
      · rintro i y σ H' hi ⟨z, v, rfl, s1, s2⟩
        obtain ⟨u, rfl⟩ := cut_int hi
        exact ⟨_, rfl, _, _, rfl, rfl, .inr ⟨by decide, by decide⟩, _, rfl, _, _, rfl, rfl, .inl ⟨_, rfl, _, _, rfl, rfl, (by show (0 : Int) < 2147483629; decide), _, _, rfl, s1, s2⟩⟩
      · rintro σ H' ⟨z, v, rfl, s1, s2⟩
        exact ⟨_, rfl, k _ _ s1⟩
end
end Wb
/-! min(xs) of a list of texts; a text so many times -/
namespace WbMin
open PySem PySem.W PySem.Spec PyProof.Rows L2
/-- the least text, the first of them -/
def minS (x : Str) (xs : List Str) : Str := xs.foldl (fun a y => if y.cps.toList < a.cps.toList then y else a) x
theorem minD_minS (x : Str) : ∀ xs : List Str, minD (.str x) (xs.map PyData.str) = .str (minS x xs) := by
  intro xs
  unfold minD minS
  induction xs generalizing x with
  | nil => rfl
  | cons y r ih =>
    simp only [List.map_cons, List.foldl_cons, dataLt_str]
    by_cases q : y.cps.toList < x.cps.toList
    · simp only [q, decide_true, if_true]
      exact ih y
    · simp only [q, decide_false, if_false, Bool.false_eq_true]
      exact ih x
theorem depthAll_strs : ∀ xs : List Str, PyData.depthAll (xs.map PyData.str) = 0
  | [] => rfl
  | x :: r => by
    show max (PyData.depth (.str x)) (PyData.depthAll (r.map PyData.str)) = 0
    rw [depthAll_strs r] <;> rfl
theorem alike_strs (xs : List Str) : AlikeAll (xs.map PyData.str) := by
  refine ⟨fun d hd e he => ?_, fun d hd => ?_⟩
  · obtain ⟨x, _, rfl⟩ := List.mem_map.mp hd
    obtain ⟨y, _, rfl⟩ := List.mem_map.mp he
    rfl
  · obtain ⟨x, _, rfl⟩ := List.mem_map.mp hd
    exact fun z => nomatch z
theorem reads_strs {h : Heap} : ∀ {xs : List Str} {us : List Value}, Vals (xs.map V.str) us → ReadsAll h us (xs.map PyData.str) []
  | [], _, .nil => .nil
  | x :: r, _, .cons q t => by
    obtain ⟨k, rfl⟩ := q
    exact ReadsAll.cons (as := []) (bs := []) (.str x k) (reads_strs t)
theorem reads_str {h : Heap} {v : Value} {x : Str} {bs : List Addr} (r : Reads h v (.str x) bs) : ∃ t, v = .str x t := by
  cases r with
  | str _ t => exact ⟨t, rfl⟩
section
variable {X : Cx}
/-- min(xs), xs a list of one text or more -/
def rMinS (K : PySem.W.Frag) : List V → Hp → VK → Prop := fun vs H Q => ∃ (a : Addr) (x : Str) (xs : List Str), vs = [V.ref a] ∧ SqL K H a ((x :: xs).map V.str) ∧ Q (.str (minS x xs)) H
theorem cr_minS {k : Nat} (hr : Room k X.A) (hc : X.calm = true) : CallR X (.builtin "min") (rMinS X.K) := by
  intro pins s σ H vs us Q I r h
  obtain ⟨a, x, xs, rfl, hs, q⟩ := h
  obtain ⟨its, rv, hl, _⟩ := I.list hs
  rw [Vals.ref1 r]
  have rd : ReadsAll s.heap its.toArray.toList (PyData.str x :: xs.map PyData.str) [] := by simpa using reads_strs (h := s.heap) rv
  have un := hr.units
  have al : AlikeAll (PyData.str x :: xs.map PyData.str) := alike_strs (x :: xs)
  have dp : PyData.depthAll (PyData.str x :: xs.map PyData.str) = 0 := depthAll_strs (x :: xs)
  refine min_list_data (I.ok.hd hc) hl.isList rd al (by rw [dp]; omega) fun i v h' tk bs hv hm kept => ?_
  rw [minD_minS] at hm
  obtain ⟨t, rfl⟩ := reads_str hm
  exact ⟨.str (minS x xs), H, I.kept kept, ⟨t, rfl⟩, q⟩
/-- z * k, z a text -/
def rMulS : R2 := fun x y H Q => ∃ (z : Str) (k : Int), x = .str z ∧ y = .int k ∧ MulOk z k ∧ Q (.str (Txt.mul z k)) H
theorem op_mulS : OpR X (binaryOp .Mult) rMulS := by
  intro pins s σ H x y v u Q I rx ry h
  obtain ⟨z, k, rfl, rfl, ok, q⟩ := h
  obtain ⟨t, rfl⟩ := rx
  obtain ⟨t2, rfl⟩ := ry
  exact SB.mul ok fun t' n => ⟨.str (Txt.mul z k), H, I.tok n, ⟨t', rfl⟩, q⟩
end
/-- so many times, by the signs -/
theorem mulOk {z : Str} {k : Int} (h0 : 0 ≤ k) (h : z.length * k.toNat ≤ 16777216) (hk : k ≤ 16777216) : MulOk z k := by
  refine ⟨?_, fun h1 _ => ?_, fun h1 _ => ?_⟩
  · rw [decide_eq_false (show ¬ k < -(2 ^ 63) by omega), decide_eq_false (show ¬ k ≥ 2 ^ 63 by omega)] <;> rfl
  · intro q
    have k1 : 0 < k := by omega
    have h2 : (z.length : Int) * k ≤ 16777216 := by
      have e : ((z.length * k.toNat : Nat) : Int) = (z.length : Int) * k := by
        rw [Int.natCast_mul, Int.toNat_of_nonneg h0]
      rw [← e]
      exact Int.ofNat_le.mpr h
    have h3 : (2 ^ 63 - 1) / k < (z.length : Int) := q
    have h4 : (2 ^ 63 - 1 : Int) < (z.length : Int) * k := (Int.ediv_lt_iff_lt_mul k1).mp h3
    omega
  · show decide (z.length * k.toNat > sizeLine) = false
    exact decide_eq_false (by rw [sizeLine_eq]; omega)
theorem fold_cat : ∀ (n : Nat) (c acc : Array Nat), ((List.replicate n c).foldl (· ++ ·) acc).toList = acc.toList ++ (List.replicate n c.toList).flatten
  | 0, c, acc => by simp
  | n + 1, c, acc => by
    rw [List.replicate_succ, List.foldl_cons, fold_cat n c (acc ++ c), List.replicate_succ, List.flatten_cons, Array.toList_append, List.append_assoc]
theorem mul_cps {z : Str} {k : Int} (h0 : 0 ≤ k) : (Txt.mul z k).cps.toList = (List.replicate k.toNat z.cps.toList).flatten := by
  unfold Txt.mul
  by_cases h1 : k < 1
  · obtain rfl : k = 0 := by omega
    rw [if_pos h1] <;> rfl
  · rw [if_neg h1]
    by_cases h2 : (k == 1 || z.length == 0) = true
    · rw [if_pos h2]
      rcases Bool.or_eq_true _ _ ▸ h2 with e | e
      · have e1 : k = 1 := by simpa using e
        subst e1
        simp
      · have e1 : z.cps.size = 0 := by
          have q : z.length = 0 := by simpa using e
          exact q
        have e2 : z.cps.toList = [] := List.eq_nil_of_length_eq_zero (by rw [Array.length_toList]; exact e1)
        rw [e2]
        simp
    · rw [if_neg h2]
      show ((List.replicate k.toNat z.cps).foldl (· ++ ·) #[]).toList = _
      rw [fold_cat]
      simp
end WbMin
namespace Wb
open PySem L2 WbMin
abbrev sSigns : Stmt := top 25
/-- the text of these codes -/
def S (l : List Nat) : Str := ⟨l.toArray⟩
theorem S_cps (l : List Nat) : (S l).cps.toList = l := by simp [S]
theorem S_size (l : List Nat) : (S l).cps.size = l.length := by simp [S]
theorem S_len (l : List Nat) : (S l).length = l.length := S_size l
theorem S_of (z : Str) : S z.cps.toList = z := by cases z; simp [S]
theorem S_eq {z : Str} {l : List Nat} (h : z.cps.toList = l) : z = S l := by rw [← h, S_of]
theorem S_add (l m : List Nat) : S l ++ S m = S (l ++ m) := by
  show Str.append (S l) (S m) = S (l ++ m)
  simp [S, Str.append]
def one (c : Nat) : Str := ⟨#[c]⟩
theorem S_one (c : Nat) : one c = S [c] := rfl
def abc : List Nat := (List.range 26).map (· + 97)
theorem abc_is : ("abcdefghijklmnopqrstuvwxyz" : Str) = S abc := by decide +kernel
/-- small letters -/
def Low (l : List Nat) : Prop := ∀ c ∈ l, 97 ≤ c ∧ c ≤ 122
theorem abc_low : Low abc := by unfold Low abc; decide
theorem abc_len : abc.length = 26 := rfl
/-- a def of the top -/
structure Def (K : PySem.W.Frag) (mg : Str → Option Value) (x : Str) (st : Stmt) (ps : List Str) (f : Addr) (fd : FuncData) : Prop where
  F : Fun K x x st f fd
  g : mg x = some (.ref f)
  kp : PySem.W.keepIn K (.ref f) = true
  b : Binds K fd ps []
def spSigns : Sp := fun vs H Q _ => ∃ (p : Addr) (m : Int), vs = [.ref p, .int m] ∧ 0 < m ∧ m ≤ 26 ∧ PoolAt H p ∧
  ∀ (l : List Nat) (H' : Hp), Low l → l.Nodup → 0 < l.length → (l.length : Int) ≤ m → PoolAt H' p → But p H H' → Q (.str (S l)) H'
theorem drop_one (a : Nat) : ∀ ys : List Nat, ys.Nodup → ys.length ≤ (ys.filter fun c => !decide (c = a)).length + 1
  | [], _ => Nat.zero_le _
  | y :: r, nd => by
    obtain ⟨n1, n2⟩ := List.nodup_cons.mp nd
    by_cases e : y = a
    · have e1 : (r.filter fun c => !decide (c = a)) = r := List.filter_eq_self.mpr fun c hc => by
        have : c ≠ a := fun z => n1 (e ▸ z ▸ hc)
        simp [this]
      rw [List.filter_cons_of_neg (by simp [e]), e1] <;> exact Nat.le_refl _
    · rw [List.filter_cons_of_pos (by simp [e])]
      have := drop_one a r n2
      simp only [List.length_cons]
      omega
theorem left_len : ∀ (l xs : List Nat), xs.Nodup → xs.length ≤ (xs.filter fun c => !decide (c ∈ l)).length + l.length
  | [], xs, _ => by
    have e : (xs.filter fun c => !decide (c ∈ ([] : List Nat))) = xs := List.filter_eq_self.mpr (by simp)
    rw [e] <;> exact Nat.le_refl _
  | a :: l, xs, nd => by
    have ih := left_len l xs nd
    have e : (xs.filter fun c => !decide (c ∈ a :: l)) = ((xs.filter fun c => !decide (c ∈ l)).filter fun c => !decide (c = a)) := by
      rw [List.filter_filter]
      refine List.filter_congr fun c _ => ?_
      by_cases h1 : c = a <;> by_cases h2 : c ∈ l <;> simp [h1, h2]
    have := drop_one a _ (nd.filter fun c => !decide (c ∈ l))
    rw [e]
    simp only [List.length_cons]
    omega
theorem rest_pos {l : List Nat} (h : l.length < 26) : 0 < (abc.filter fun c => !decide (c ∈ l)).length := by
  have := left_len l abc (by unfold abc; decide)
  rw [abc_len] at this
  omega
theorem PoolAt.up {H : Hp} {p q : Addr} {o : HO} (h : PoolAt H p) (n : H q = none) : PoolAt (L2.upd H q o) p := by
  obtain ⟨a, b, c, e, r⟩ := h
  exact ⟨a, b, c, by rw [upd_ne (ne_of_none e n)]; exact e, r⟩
theorem PoolAt.ne {H : Hp} {p q : Addr} (h : PoolAt H p) (n : H q = none) : q ≠ p := by
  obtain ⟨a, b, c, e, r⟩ := h
  exact (ne_of_none e n).symm
theorem PoolAt.put {H : Hp} {p q : Addr} {o : HO} (h : PoolAt H p) (n : q ≠ p) : PoolAt (L2.upd H q o) p := by
  obtain ⟨a, b, c, e, r⟩ := h
  exact ⟨a, b, c, by rw [upd_ne n.symm]; exact e, r⟩
/-- a store at a thing that was not there at first -/
theorem But.new {p q : Addr} {o : HO} {H H' : Hp} (a : But p H H') (n : H q = none) : But p H (L2.upd H' q o) := fun c u k h => by
  rw [upd_ne (ne_of_none h n)]
  exact a c u k h
theorem But.free {p q : Addr} {H H' : Hp} (a : But p H H') (n : H' q = none) (ne : q ≠ p) : H q = none := by
  cases e : H q with
  | none => rfl
  | some o =>
    rw [a q o ne e] at n
    cases n
theorem take_more {α : Type} : ∀ {l : List α} {i : Nat} {x : α}, l[i]? = some x → l.take (i + 1) = l.take i ++ [x] := fun {l i x} h => by
  rw [List.take_add_one, h] <;> rfl
def vOne (c : Nat) : V := .str (one c)
section
variable {P : Program} {w : World} {K : PySem.W.Frag} {mg : Str → Option Value} {base : Heap} {f fD : Addr} {fd fdD : FuncData}
theorem scS : FnScope ["_law_pool_here", "_law_most", "_law_found", "_law_turn", "_law_rest", "_law_mark"] ["_law_pool_here", "_law_most"] (defScope sSigns) := ⟨rfl, rfl, rfl, by decide +kernel, rfl, by decide +kernel, by decide +kernel⟩
theorem ok_signs (F : Fun K "_law_signs" "_law_signs" sSigns f fd) (D : Def K mg "_law_draw" sDraw ["_law_pool_here", "_law_many"] fD fdD) (mInt : mg "int" = none) (mDm : mg "divmod" = none) (mLen : mg "len" = none) (mRange : mg "range" = none) :
    FnOk P w K mg base CX0 2 f fd ["_law_pool_here", "_law_most"] spSigns := by
  have G : FnOk P w K mg base CX0 1 fD fdD ["_law_pool_here", "_law_many"] spDraw := ok_draw D.F mInt mDm
  refine F.ok scS (fun vs H Q E h => ?_) (fun cdv A outer s H vs Q E hr h => ?_)
  · obtain ⟨p, m, rfl, _⟩ := h
    rfl
  · obtain ⟨p, m, rfl, m0, m1, hp, k⟩ := h
    refine ⟨_, pss_cons (ps_set (i := 2) scS.nd rfl (.inr rfl) pe_str)
      (pss_cons (ps_for PassesOwn.never rfl (pi_range1 rfl mRange (pa_cons (pe_op op_add pe_int (pe_call G hr rfl D.g D.kp D.b .nil pass0 (pa_cons (pv 0) (pa_cons (pv 1) pa_nil)))) pa_nil)) (pg_name (i := 3) scS.nd rfl (.inl rfl))
        (pss_cons (ps_setLc (i := 4) (own := [("_law_mark", 5)]) (g := gName 5) rfl scS.nd rfl rfl (sw_true rfl rfl rfl (by decide +kernel)) (pi_str pe_str) (blkOk_by (N := ["_law_pool_here", "_law_most", "_law_found", "_law_turn", "_law_rest", "_law_mark"]) (sc := defScope sSigns) (by decide +kernel))
            (fun _ _ _ _ _ => pg_name (i := 5) scS.nd rfl (.inl rfl)) (fun _ _ _ _ _ => pts_one (pt_cmpR op_notIn_sign (pv 5) (pv 2) rfl)) (fun _ _ _ _ _ => pv 5))
          (pss_one (ps_set (i := 2) scS.nd rfl (.inr rfl) (pe_op op_add_str (pv 2) (pe_ix ix_list (pv 4) (pe_call G hr rfl D.g D.kp D.b .nil pass0 (pa_cons (pv 0) (pa_cons (pe_callB call_len_seq (by rfl) mLen PySem.boot_len (pa_cons (pv 4) pa_nil)) pa_nil))) (fun _ _ => rfl)))))))
      (pss_one (ps_ret (pv 2)))), ?_⟩
    have e0 : (Str.ofString "" : Str) = S [] := by decide +kernel
    refine ⟨_, rfl, _, rfl, p, m, rfl, m0, by omega, hp, fun d H1 d0 d1 hp1 b1 => ⟨_, _, rfl, rfl, _, rfl, by omega, by omega, for_it walk_range
      (fun i σ H' => ∃ (l : List Nat) (v3 v4 v5 : Option V), σ = [some (.ref p), some (.int m), some (.str (S l)), v3, v4, v5] ∧ Low l ∧ l.Nodup ∧ l.length = i ∧ PoolAt H' p ∧ But p H H')
      ⟨[], none, none, none, by rw [← e0]; rfl, (fun c hc => nomatch hc), List.nodup_nil, rfl, hp1, b1⟩ (fun _ _ _ _ _ => trivial) ?_ ?_⟩⟩
    · rintro i x σ H2 H2' hi ⟨l, v3, v4, v5, rfl, lo, nd, ll, hp2, b2⟩ ⟨rfl, rfl⟩
      refine ⟨_, rfl, fun D hD => lc_it walk_str (fun j H3 => H3 D = some (.lst (((abc.take j).filter fun c => !decide (c ∈ l)).map vOne)) ∧ PoolAt H3 p ∧ But p H H3) ?_ (fun _ _ _ _ => trivial) ?_ ?_⟩
      · exact ⟨upd_same, hp2.up hD, b2.upd hD⟩
      · rintro j y H3 H3' hj ⟨h1, h2, h3⟩ ⟨rfl, c, hc, rfl⟩
        have hc' : abc[j]? = some c := by
          rw [abc_is] at hc
          simpa [S] using hc
        have hD0 : H D = none := b2.free hD (hp2.ne hD)
        refine ⟨rfl, _, rfl, _, rfl, c, S l, rfl, rfl, _, rfl, ite2 (fun q => ?_) (fun q => ?_)⟩
        · refine ⟨_, rfl, _, h1, ?_, ?_, h2.put (hp2.ne hD), h3.new hD0⟩
          · rw [List.length_map, sizeLine_eq]
            have := List.length_filter_le (fun c => !decide (c ∈ l)) (abc.take j)
            have := List.length_take_le' j abc
            rw [abc_len] at this
            omega
          · rw [upd_same, take_more hc', List.filter_append, List.map_append]
            rw [S_cps] at q
            rw [show ([c].filter fun c => !decide (c ∈ l)) = [c] from List.filter_cons_of_pos q] <;> rfl
        · refine ⟨?_, h2, h3⟩
          rw [S_cps] at q
          rw [h1, take_more hc', List.filter_append, show ([c].filter fun c => !decide (c ∈ l)) = [] from List.filter_cons_of_neg q, List.append_nil]
      · rintro H3 ⟨h1, h2, h3⟩
        have full : abc.take ("abcdefghijklmnopqrstuvwxyz" : Str).cps.size = abc := by rw [abc_is, S_size, List.take_length]
        rw [full] at h1
        have ne : 0 < (abc.filter fun c => !decide (c ∈ l)).length := rest_pos (by omega)
        refine ⟨_, rfl, _, rfl, _, rfl, _, rfl, D, _, rfl, .inl (SqL.of h1), p, _, rfl, ?_, ?_, h2, fun e H4 e0 e1 hp4 b4 => ?_⟩
        · rw [List.length_map]
          omega
        · rw [List.length_map]
          have := List.length_filter_le (fun c => !decide (c ∈ l)) abc
          rw [abc_len] at this
          omega
        · have e1' : e.toNat < (abc.filter fun c => !decide (c ∈ l)).length := by
            rw [List.length_map] at e1
            omega
          obtain ⟨c, hc⟩ : ∃ c, (abc.filter fun c => !decide (c ∈ l))[e.toNat]? = some c := ⟨_, List.getElem?_eq_getElem e1'⟩
          obtain ⟨c1, c2⟩ := List.mem_filter.mp (List.mem_of_getElem? hc)
          have c3 : c ∉ l := by simpa using c2
          have hat : atI ((abc.filter fun c => !decide (c ∈ l)).map vOne) e = some (vOne c) := by
            have q := atI_nat (xs := (abc.filter fun c => !decide (c ∈ l)).map vOne) (j := e.toNat) (v := vOne c) (by rw [List.getElem?_map, hc] <;> rfl)
            rwa [Int.toNat_of_nonneg e0] at q
          have h4 := b4 D _ (hp2.ne hD) h1
          refine ⟨D, _, _, _, rfl, rfl, SqL.of h4, hat, _, _, rfl, rfl, ?_, l ++ [c], some (.int (0 + (i : Nat))), some (.ref D), v5, ?_, fun z hz => ?_, ?_, ?_, hp4, h3.trans b4⟩
          · rw [S_len, sizeLine_eq]
            show l.length + 1 ≤ 16777216
            omega
          · rw [← S_add]
            rfl
          · rcases List.mem_append.mp hz with hz | hz
            · exact lo z hz
            · rw [List.mem_singleton.mp hz]
              exact abc_low c c1
          · rw [List.nodup_append]
            exact ⟨nd, by simp, fun a ha b hb q => c3 (by rw [← List.mem_singleton.mp hb, ← q]; exact ha)⟩
          · rw [List.length_append, ll] <;> rfl
    · rintro σ H2 ⟨l, v3, v4, v5, rfl, lo, nd, ll, hp2, b2⟩
      exact ⟨_, rfl, k l _ lo nd (by omega) (by omega) hp2 b2⟩
end
end Wb
namespace Wb
open PySem L2 WbMin
theorem one_cat : ∀ (l : List Nat) (c : Nat), Str.join (S []) ((c :: l).map one) = S (c :: l)
  | [], c => rfl
  | d :: l, c => by
    have ih := one_cat l d
    show one c ++ S [] ++ Str.join (S []) ((d :: l).map one) = S (c :: d :: l)
    rw [ih, S_one, S_add, S_add]
    rfl
theorem join_one {l : List Nat} (h : 0 < l.length) : Txt.join (Str.ofString "") (l.map one) = S l := by
  have e0 : (Str.ofString "" : Str) = S [] := by decide +kernel
  cases l with
  | nil => cases h
  | cons c l =>
    rw [e0]
    show Builtin.Str.glued (S []) ((c :: l).map one) = S (c :: l)
    rw [StrLaws.glued_eq_join]
    exact one_cat l c
end Wb
/-! set(xs) and len(set(xs)) of a list of texts, any of them, below the scanned bound -/
namespace WbSet
open PySem PySem.Spec PyProof.Rows
/-- the different ones, by their first places -/
def addNew (acc : List Str) (x : Str) : List Str := if x ∈ acc then acc else acc ++ [x]
def differ (xs : List Str) : List Str := xs.foldl addNew []
theorem addNew_mem (acc : List Str) (x k : Str) : k ∈ addNew acc x ↔ k ∈ acc ∨ k = x := by
  unfold addNew
  by_cases h : x ∈ acc
  · rw [if_pos h]
    exact ⟨.inl, fun q => q.elim id fun e => e ▸ h⟩
  · rw [if_neg h, List.mem_append, List.mem_singleton]
theorem addNew_len (acc : List Str) (x : Str) : (addNew acc x).length = if x ∈ acc then acc.length else acc.length + 1 := by
  unfold addNew
  by_cases h : x ∈ acc
  · rw [if_pos h, if_pos h]
  · rw [if_neg h, if_neg h, List.length_append] <;> rfl
theorem differ_more (xs : List Str) (x : Str) : differ (xs ++ [x]) = addNew (differ xs) x := by
  unfold differ
  rw [List.foldl_append] <;> rfl
theorem fold_le : ∀ (xs acc : List Str), (xs.foldl addNew acc).length ≤ acc.length + xs.length
  | [], acc => Nat.le_refl _
  | x :: r, acc => by
    have h1 := fold_le r (addNew acc x)
    have h2 : (addNew acc x).length ≤ acc.length + 1 := by rw [addNew_len]; split <;> omega
    show (r.foldl addNew (addNew acc x)).length ≤ acc.length + (r.length + 1)
    omega
theorem differ_le (xs : List Str) : (differ xs).length ≤ xs.length := by
  have h := fold_le xs []
  show (xs.foldl addNew []).length ≤ xs.length
  simpa using h
/-- what the set at a holds behind the first i -/
def Has (P : Program) (w : World) (h : Heap) (a : Addr) (ys : List Str) : Prop := h.SetOf (strKind P w) a (fun k => decide (k ∈ ys)) ys.length
section
variable {prog : Program} {w : World} {A : Around} {R : Result → Shared → Prop} {I : Addr} {fp wr : List Addr} {G : Array GenState → Array GenState → Prop} {n : Nat} {P : Nat → Value → Prop} {St : Nat → Shared → Prop}
theorem Has.keep {h h' : Heap} {a : Addr} {ys : List Str} (q : Has prog w h a ys) (k : ∀ o, h.get? a = some o → h'.get? a = some o) : Has prog w h' a ys := by
  obtain ⟨o, es, ep, t, ho, r⟩ := q
  exact ⟨o, es, ep, t, k o ho, r⟩
theorem Has.more {h : Heap} {a : Addr} {ys : List Str} {x : Str} (q : h.SetOf (strKind prog w) a (fun j => decide (j ∈ ys) || decide (j = x)) (if decide (x ∈ ys) = true then ys.length else ys.length + 1)) : Has prog w h a (addNew ys x) := by
  refine SetOf_congr q (fun k => ?_) ?_
  · rw [← Bool.decide_or]
    exact decide_eq_decide.mpr (addNew_mem ys x k).symm
  · rw [addNew_len]
    by_cases e : x ∈ ys
    · rw [if_pos e, if_pos (decide_eq_true e)]
    · rw [if_neg e, if_neg (fun z => e (of_decide_eq_true z))]
theorem turns (W : WalksS prog w A.in1 I fp wr G n P St) (T : Addr) (nT : T ∉ fp) (xs : List Str) (lx : xs.length = n) (few : n + 1 < scanBound) (told : ∀ i v, P i v → ∃ x t, xs[i]? = some x ∧ v = .str x t) :
    ∀ (left i : Nat) (s : Shared), n - i = left → i ≤ n → St i s → Has prog w s.heap T (differ (xs.take i)) →
      (∀ s', Moved (T :: wr) G s s' → Has prog w s'.heap T (differ xs) → R (.ok (.ret .none)) s') → codeAny (model prog w) A (.builtin "set.update.loop" ⟨[.ref T, .ref I], []⟩) R s := by
  have nTw : T ∉ wr := fun q => nT (W.sub _ q)
  have wider : ∀ b ∈ wr, b ∈ T :: wr := fun _ q => List.mem_cons_of_mem _ q
  intro left
  induction left with
  | zero =>
    intro i s e1 e2 hst has fin
    obtain rfl : i = n := by omega
    refine codeAny_builtin PyProof.Rows.F.entry_set_update_loop ?_ ; rw [Around.under_plainId PyProof.Rows.F.plain_set_update_loop _]
    show wpAny _ A.in1 (pyNext (.ref I) >>= _) _ _ s ; refine wpAny_bind (W.done s _ _ hst fun s1 mv => ?_)
    show wpAny _ A.in1 (ret Value.none) _ _ s1
    refine wpAny_pure (fin s1 (mv.mono wider) ?_)
    rw [← lx, List.take_length] at has
    exact has.keep fun o e => mv.heap T o nTw e
  | succ left ih =>
    intro i s e1 e2 hst has fin
    have lt : i < n := by omega
    refine codeAny_builtin PyProof.Rows.F.entry_set_update_loop ?_ ; rw [Around.under_plainId PyProof.Rows.F.plain_set_update_loop _]
    show wpAny _ A.in1 (pyNext (.ref I) >>= _) _ _ s ; refine wpAny_bind (W.item i s _ _ lt hst fun v s1 hP hst1 mv => ?_)
    obtain ⟨x, t, hx, rfl⟩ := told i v hP
    have has1 : Has prog w s1.heap T (differ (xs.take i)) := has.keep fun o e => mv.heap T o nTw e
    have room : (differ (xs.take i)).length + 1 < scanBound := by
      have := differ_le (xs.take i)
      rw [List.length_take] at this
      omega
    have step : differ (xs.take (i + 1)) = addNew (differ (xs.take i)) x := by
      rw [← differ_more, List.take_add_one, hx] <;> rfl
    show wpAny _ A.in1 (holding [Value.str x t] (setAdd T (.str x t)) >>= _) _ _ s1 ; refine wpAny_bind (wpAny_holding ?_)
    unfold setAdd ; refine wpAny_holding (wpAny_bind ((strKind prog w).pyHash (k := x) (strKind_is _ _ _ _) ?_))
    refine wpAny_setAddHashed_of (knd := strKind prog w) (s := { s1 with toks := s1.toks + 1 }) (strKind_is _ _ _ _) rfl has1 room fun h2 but new => ?_
    have has2 : Has prog w h2 T (differ (xs.take (i + 1))) := by rw [step]; exact Has.more new
    refine wpAny_pure ⟨plainId_quiet PyProof.Rows.F.plain_set_update_loop _, ih (i + 1) _ (by omega) lt (W.frame _ s1 _ _ hst1 (Nat.le_succ _) fun b hb o e => ?_) has2 fun s2 mv2 has3 => fin s2 (Moved.trans W.gtrans ((mv.mono wider).then_heap (Nat.le_succ _) fun b o hb e => ?_) mv2) has3⟩
    · rw [but.2 b fun q => nT (q ▸ hb)] ; exact e
    · rw [but.2 b fun q => hb (q ▸ List.mem_cons_self)] ; exact e
end
section
variable {prog : Program} {w : World} {A : Around} {E : Value → Shared → Prop} {s : Shared}
theorem strs_told : ∀ {vs : List Value} {xs : List Str}, StrsAre vs xs → ∀ (i : Nat) (v : Value), vs[i]? = some v → ∃ x t, xs[i]? = some x ∧ v = .str x t
  | _, _, .nil, i, v, h => by simp at h
  | _, _, .cons x t r, 0, v, h => ⟨x, t, rfl, by simp at h; exact h.symm⟩
  | _, _, .cons x t r, i + 1, v, h => by
    simp only [List.getElem?_cons_succ] at h ⊢
    exact strs_told r i v h
/-- the set object that set() makes first -/
abbrev setO (led : Bool) : Obj := { cls := .type "set", dict := none, data := .set #[] 0 (.fresh 0 0 led) }
set_option maxHeartbeats 3200000 in
theorem call_set {l : Addr} {items : Array Value} {xs : List Str} {Q : Value → Shared → Prop} (calm : A.handled = none) (il : s.heap.IsList l items) (told : StrsAre items.toList xs) (few : xs.length + 1 < scanBound)
    (k : ∀ (h' : Heap) (tk : Nat), Has prog w h' s.heap.objs.size (differ xs) → (∀ b o, b < s.heap.objs.size → s.heap.get? b = some o → h'.get? b = some o) → Q (.ref s.heap.objs.size) { s with heap := h', toks := tk }) :
    wpAny (model prog w) A (call (.type "set") [.ref l]) Q E s := by
  obtain ⟨c, tl, mro⟩ := PySem.F.called_set.mro
  have f1 := PySem.F.called_set.made
  have f2 := PySem.F.called_set.sub
  refine wpAny_call (codeAny_of_tree ?_) ; show wpAny _ _ (callAny (.type "set") _) _ _ _
  refine wpAny_pure ⟨Code.quiet_builtin _ (by decide +kernel), codeAny_builtin PySem.F.entry_type_call ?_⟩ ; rw [Around.under_plain (weight_type_call_type "set" [.ref l] []) rfl]
  have f3 := PySem.F.called_set.notType
  have f4 := PySem.F.called_set.canCreate
  have f5 := PySem.F.typeCall_set_1 (.ref l)
  repeat (any_goals (first | assumption | wp_step))
  refine codeAny_mono (code_set_new_1 (.ref l) (E := E) (Q₁ := fun v s1 => ∃ led : Bool, v = .ref s.heap.objs.size ∧ s1 = { s with heap := s.heap.push (setO led) }) fun led => ⟨led, rfl, rfl⟩) fun r s1 hr => ?_
  cases r with
  | error e => exact hr
  | ok fl =>
    cases fl with
    | ret v =>
      obtain ⟨led, rfl, rfl⟩ := hr
      have g1 : (s.heap.push (setO led)).get? s.heap.objs.size = some (setO led) := Heap.get?_push_size _ rfl
      have g2 : Shared.TypeIs { s with heap := s.heap.push (setO led) } (.ref s.heap.objs.size) "set" := ⟨_, g1, rfl⟩
      have f6 := PySem.F.called_set.init.lookup
      have f7 := PySem.F.called_set.init.bind (.ref s.heap.objs.size)
      repeat (any_goals (first | assumption | wp_step))
      refine codeAny_mono (codeAny_call_builtin (R := wants (fun r s2 => r = .none ∧ ∃ h' tk, s2 = { s with heap := h', toks := tk } ∧ Has prog w h' s.heap.objs.size (differ xs) ∧ (∀ b o, b < s.heap.objs.size → s.heap.get? b = some o → h'.get? b = some o)) E) PySem.F.called_set.init.plain PySem.F.entry_set_init (check_set_init_1 g2 ?_)) fun r2 s2 hr2 => ?_
      · obtain ⟨⟨oc, od, dt, sl⟩, ho, hc, nl, hd⟩ := il
        simp only at hc hd
        subst hc hd
        have g3 : (s.heap.push (setO led)).get? l = some { cls := .type "list", dict := od, data := .seq items nl, slots := sl } := Heap.get?_push_of_some _ ho
        have f8 := PySem.F.sub_list_set
        have f9 := PySem.F.sub_list_frozenset
        have f10 : (Value.type "list" == Value.type "dict") = false := by decide
        have il1 : (s.heap.push (setO led)).IsList l items := ⟨_, g3, rfl, nl, rfl⟩
        unfold Builtin.«set.__init__» noKeywords Builtin.Frozenset.updateFrom
        generalize hit : pyIter = it
        wp_walk
        subst hit
        refine wpAny_pyIter_list il1 (wpAny_bind (wpAny_runValue ?_))
        have lt : l < s.heap.objs.size := Heap.lt_size ho
        have calm3 : A.in1.in1.in1.handled = none := by simp [calm]
        have sz : (s.heap.push (setO led)).objs.size = s.heap.objs.size + 1 := Heap.size_push _ _
        have ne1 : l ≠ (s.heap.push (setO led)).objs.size := by rw [sz]; exact Nat.ne_of_lt (Nat.lt_succ_of_lt lt)
        have ne2 : s.heap.objs.size ∉ [(s.heap.push (setO led)).objs.size, l] := by
          intro q
          rcases List.mem_cons.mp q with q | q
          · rw [sz] at q; exact absurd q (Nat.ne_of_lt (Nat.lt_succ_self _))
          · exact absurd (List.mem_singleton.mp q) (Nat.ne_of_gt lt)
        have lx : xs.length = items.size := by rw [← StrsAre.len_eq told, Array.length_toList]
        refine turns ((Walks.list calm3 _ l ne1 items).toS) s.heap.objs.size ne2 xs lx (by rw [← lx]; exact few) (fun i v hv => strs_told told i v (by rw [Array.getElem?_toList]; exact hv)) (items.size - 0) 0 _ (by omega) (Nat.zero_le _) ⟨⟨_, Heap.get?_push_size _ rfl, rfl, rfl⟩, (il1.push _)⟩ ?start ?fin
        case start =>
          have g4 : ((s.heap.push (setO led)).push { cls := .type "list_iterator", data := .fields #[.ref l, .int 0 0] }).get? s.heap.objs.size = some (setO led) := Heap.get?_push_of_some _ g1
          exact SetOf_congr ((setObjOf_fresh (knd := strKind prog w) led).setOf g4 (by unfold scanBound; omega)) (fun _ => rfl) rfl
        case fin =>
          intro s3 mv has
          obtain ⟨h3, g3', d3, tk3, os3⟩ := s3
          obtain rfl : g3' = s.gens := mv.gens
          obtain rfl : d3 = s.drawn := mv.drawn
          obtain rfl : os3 = s.os := mv.os
          show wpAny _ _ _ _ _ _ ; refine wpAny_pure ?_ ; show wpAny _ _ (ret Value.none) _ _ _
          refine wpAny_pure ⟨rfl, h3, tk3, rfl, has, fun b o hb e => mv.heap b o ?_ (Heap.get?_push_of_some _ (Heap.get?_push_of_some _ e))⟩
          intro q
          rcases List.mem_cons.mp q with q | q
          · exact absurd q (Nat.ne_of_lt hb)
          · have q2 := List.mem_singleton.mp q
            rw [sz] at q2
            exact absurd q2 (Nat.ne_of_lt (Nat.lt_succ_of_lt hb))
      · cases r2 with
        | error e => exact hr2
        | ok fl2 =>
          cases fl2 with
          | ret r =>
            obtain ⟨rfl, h', tk, rfl, has, kept⟩ := hr2
            repeat (any_goals (first | assumption | wp_step))
            exact k _ _ has kept
          | _ => exact hr2.elim
    | _ => exact hr.elim
end
end WbSet
namespace WbSet
open PySem PySem.Spec PyProof.Rows L2
variable {X : Cx}
/-- len(set(xs)), xs a list of texts -/
def tLenSet (K : PySem.W.Frag) (ta : TE) : TE := fun σ H Q => ta σ H fun x H1 => ∃ l, ∃ xs : List Str, x = .ref l ∧ SqL K H1 l (xs.map V.str) ∧ xs.length ≤ 4000 ∧ Q (.int (differ xs).length) H1
theorem pe_lenSet {a : Expr} {ta : TE} {p p2 q pos : Pos} (hc : X.calm = true) (hg : Gl X "len") (hm : X.mg "len" = none) (hg2 : Gl X "set") (hm2 : X.mg "set" = none) (ha : PE X a ta)
    (na : starEach [a] X.env = (false, eval a X.env) :: starEach [] X.env := by rfl) : PE X (.Call (.Name "len" p) [.Call (.Name "set" p2) [a] [] q] [] pos) (tLenSet X.K ta) := by
  refine ⟨fun pins s σ H Q I h => Call_ (ld_blt I hg hm boot_len ?_)⟩
  refine callWith_builtin1 (args_cons (Call_ (ld_blt I hg2 hm2 boot_set ?_)) rfl) rfl rfl
  refine callWith_type1 (args_cons (thn (ha.run pins s σ H _ I h) fun v s1 ⟨x, H1, I1, r1, q1⟩ => args_nil ?_) na) na rfl
  obtain ⟨l, xs, rfl, hq, few, q1⟩ := q1
  cases r1
  obtain ⟨its, r, pl, hz⟩ := I1.list hq
  refine call_set (I1.ok.hd hc) pl.isList (by simpa using strsAre_of r) (by unfold scanBound; omega) fun h' tk has kept => args_nil ?_
  obtain ⟨o, es, ep, t, ho, hex, hd, _, _, _, hf, hn⟩ := has
  have I2 : Inv X pins σ H1 { s1 with heap := h', toks := tk } := I1.kept fun b o e => kept b o (Heap.lt_size e) e
  have le := differ_le xs
  exact call_len_set ho hex hd hf (by rw [hn]; omega) ⟨.int (differ xs).length, H1, I2.tok _, ⟨_, by rw [hn]⟩, q1⟩
end WbSet
/-! sorted of a text, of a tuple of texts; len(set(z)) of a text -/
namespace WbS
open PySem PySem.Spec PyProof.Rows L2
section
variable {X : Cx}
end
end WbS
namespace WbSet
open PySem PySem.Spec PyProof.Rows
def signs (x : Str) : List Str := x.cps.toList.map fun c => ⟨#[c]⟩
section
variable {prog : Program} {w : World} {A : Around} {E : Value → Shared → Prop} {s : Shared}
end
end WbSet
namespace WbSet
open PySem PySem.Spec PyProof.Rows L2
variable {X : Cx}
end WbSet
namespace Wb
open PySem L2 WbMin WbS
abbrev sIsInt : Stmt := top 3
abbrev sIsWord : Stmt := top 4
/-- a word as it is passed -/
structure IsW (l : List Nat) : Prop where
  low : Low l
  pos : 0 < l.length
  few : l.length ≤ 600
theorem IsW.fits {l : List Nat} (h : IsW l) : (S l).length ≤ sizeLine := by
  rw [S_len, sizeLine_eq]
  have := h.few
  omega
def spIsWord : Sp := fun vs H Q _ => ∃ l : List Nat, vs = [.str (S l)] ∧ IsW l ∧ ∀ H', Same H H' → Q (.bl true) H'
/-- the built-ins that nobody has put another thing in the place of -/
structure Free (mg : Str → Option Value) : Prop where
  int : mg "int" = none
  len : mg "len" = none
  range : mg "range" = none
  divmod : mg "divmod" = none
  abs : mg "abs" = none
  isi : mg "isinstance" = none
  str : mg "str" = none
  all : mg "all" = none
  min : mg "min" = none
  max : mg "max" = none
  set : mg "set" = none
  bool : mg "bool" = none
theorem ifd {p A B : Prop} [Decidable p] (hp : p) (h : A) : if decide p = true then A else B := by
  rw [if_pos (decide_eq_true hp)]
  exact h
theorem ifn {p A B : Prop} [Decidable p] (hp : ¬ p) (h : B) : if decide p = true then A else B := by
  rw [if_neg (fun q => hp (of_decide_eq_true q))]
  exact h
theorem iteS {p A B : Prop} [Decidable p] (hp : ¬ p) (h : A) : if (!decide p) = true then A else B := by
  rw [decide_eq_false hp]
  exact h
theorem Same.new' {q : Addr} {o : HO} {H H' : Hp} (a : Same H H') (n : H q = none) : Same H (L2.upd H' q o) := fun c u h => by
  rw [upd_ne (ne_of_none h n)]
  exact a c u h
/-! ### lists without doubles -/
theorem S_inj {l m : List Nat} (h : S l = S m) : l = m := by rw [← S_cps l, h, S_cps]
theorem getD_at {l : List Nat} {i : Nat} (h : i < l.length) : l[i]? = some (l.getD i 0) := by
  rw [List.getD_eq_getElem?_getD, List.getElem?_eq_getElem h] <;> rfl
/-- the signs of a kind, in any order -/
structure Sgs (l : List Nat) : Prop where
  low : Low l
  nd : l.Nodup
  pos : 0 < l.length
  few : l.length ≤ 4
theorem Sgs.w {l : List Nat} (h : Sgs l) : IsW l := ⟨h.low, h.pos, by have := h.few; omega⟩
section
variable {P : Program} {w : World} {K : PySem.W.Frag} {mg : Str → Option Value} {base : Heap} {f fD fS fW : Addr} {fd fdD fdS dW : FuncData}
theorem scIW : FnScope ["value", "sign"] ["value"] (defScope sIsWord) := ⟨rfl, rfl, rfl, by decide +kernel, rfl, by decide +kernel, by decide +kernel⟩
theorem ok_isword (F : Fun K "is_word" "is_word" sIsWord f fd) (Z : Free mg) (t6 : Tok) (g6 : mg "MOST_WORD" = some (.int 600 t6)) : FnOk P w K mg base CX0 1 f fd ["value"] spIsWord := by
  refine F.ok scIW (fun vs H Q E h => ?_) (fun cdv A outer s H vs Q E hr h => ?_)
  · obtain ⟨l, rfl, _⟩ := h
    rfl
  · obtain ⟨l, rfl, W, k⟩ := h
    refine ⟨_, pss_cons (ps_if (PW.pt (pw_or (pt_not (pt_val (pe_callB call_isi (by rfl) Z.isi (by decide +kernel) (pa_cons (pv 0) (pa_cons (pe_bltn (v := .ty "str") (u := .type "str") (by rfl) Z.str (by decide +kernel) rfl) pa_nil)))))
        (pw_or1 (pt_not (pt_chain op_le op_le pe_int (pe_callB call_len_str (by rfl) Z.len PySem.boot_len (pa_cons (pv 0) pa_nil)) (pe_glob (v := .int 600) (by rfl) g6 ⟨_, rfl⟩)))))) (pss_one (ps_never)) pss_nil)
      (pss_one (ps_ret (pe_callB (cr_all rfl) (by rfl) Z.all (by decide +kernel) (pa_cons
        (pe_lc (own := [("sign", 1)]) (g := gName 1) (tt := tYes) rfl scIW.nd (pi_str (pv 0)) (blkOk_by (N := ["value", "sign"]) (sc := defScope sIsWord) (by decide +kernel)) (fun _ _ _ _ _ => pg_name (i := 1) scIW.nd rfl (.inl rfl)) (fun _ _ _ _ _ => pts_nil)
          (fun _ _ _ _ _ => pe_chain op_le_str op_le_str pe_str (pv 1) pe_str)) pa_nil)))), ?_⟩
    have len1 : 1 ≤ ((S l).length : Int) := by rw [S_len]; have := W.pos; omega
    have len2 : ((S l).length : Int) ≤ 600 := by rw [S_len]; have := W.few; omega
    refine ⟨_, rfl, _, _, .type "str", .type "str", true, rfl, .ty "str", .base (.str _), kit_ty (by decide +kernel), true, rfl, ?_⟩
    refine ⟨_, rfl, _, rfl, W.fits, _, _, rfl, rfl, _, rfl, ifd len1 ⟨_, _, rfl, rfl, _, rfl, iteNS len2 ?_⟩⟩
    refine ⟨_, rfl, _, rfl, fun D hD => lc_it walk_str (fun i H3 => H3 D = some (.lst ((List.replicate i true).map V.bl)) ∧ Same H H3) ⟨upd_same, Same.put (Same.refl H) hD⟩ (fun _ _ _ _ => trivial) ?_ ?_⟩
    · rintro i x H3 H3' hi ⟨h1, h2⟩ ⟨rfl, c, hc, rfl⟩
      have mem : c ∈ l := by
        have q := Array.mem_of_getElem? hc
        simpa [S] using q
      have c12 := W.low c mem
      have la : ¬ (([c] : List Nat) < [97]) := by rw [List.cons_lt_cons_iff]; simp; omega
      have lz : ¬ (([122] : List Nat) < [c]) := by rw [List.cons_lt_cons_iff]; simp; omega
      have ea : ("a" : Str).cps.toList = [97] := by decide +kernel
      have ez : ("z" : Str).cps.toList = [122] := by decide +kernel
      refine ⟨rfl, _, rfl, _, _, rfl, rfl, _, rfl, iteS (by rw [ea]; exact la) ⟨_, _, rfl, rfl, ?_⟩⟩
      rw [ez, decide_eq_false (show ¬ (([122] : List Nat) < (⟨#[c]⟩ : Str).cps.toList) from lz)]
      refine ⟨_, h1, ?_, ?_, Same.new' h2 hD⟩
      · rw [List.length_map, List.length_replicate, sizeLine_eq]
        have := W.few
        rw [S_size] at hi
        omega
      · rw [upd_same, List.replicate_succ', List.map_append] <;> rfl
    · rintro H3 ⟨h1, h2⟩
      refine ⟨D, _, rfl, SqL.of h1, ?_⟩
      have e : (List.replicate (S l).cps.size true).all id = true := List.all_eq_true.mpr fun b hb => by rw [List.eq_of_mem_replicate hb] <;> rfl
      show Q (.bl ((List.replicate (S l).cps.size true).all id)) H3
      rw [e]
      exact k H3 h2
end
end Wb
/-! the parts of a loop, asked whether they are right -/
namespace Wb
open PySem L2 WbMin WbS Lz
/-- a name -/
structure IsNm (l : List Nat) : Prop where
  pos : 0 < l.length
  few : l.length ≤ 8
  hd : 97 ≤ l.getD 0 0 ∧ l.getD 0 0 ≤ 122
  ok : ∀ c ∈ l, (97 ≤ c ∧ c ≤ 122) ∨ (48 ≤ c ∧ c ≤ 57)
theorem IsNm.fits {l : List Nat} (h : IsNm l) : (S l).length ≤ sizeLine := by
  rw [S_len, sizeLine_eq]
  have := h.few
  omega
section
variable {P : Program} {w : World} {K : PySem.W.Frag} {mg : Str → Option Value} {base : Heap} {f fS fO fI : Addr} {fd dS dO dI : FuncData}
theorem scII : FnScope ["value"] ["value"] (defScope sIsInt) := ⟨rfl, rfl, rfl, by decide +kernel, rfl, by decide +kernel, by decide +kernel⟩
end
end Wb
/-! enumerate(t), t a tuple -/
namespace WbS
open PySem PySem.Spec PyProof.Rows
open AutoSeq1 (wpAny_loadPart')
section
variable {prog : Program} {w : World} {A : Around} {E : Value → Shared → Prop} {s : Shared}
end
end WbS
namespace WbS
open PySem PySem.Spec PyProof.Rows L2
end WbS
/-! first_wrong of texts and of pairs -/
namespace Wb
open PySem L2 WbMin WbS Lz
theorem un65 {k : Nat} {A : Around} (r : Room k A) : A.units + 65 < cLine := by have := r.un; omega
/-- tuples that stand -/
def Tups (H : Hp) : List Addr → List (List V) → Prop
  | [], [] => True
  | a :: as, x :: xs => H a = some (.tup x) ∧ Tups H as xs
  | _, _ => False
theorem Tups.length {H : Hp} : ∀ {as : List Addr} {xs : List (List V)}, Tups H as xs → as.length = xs.length
  | [], [], _ => rfl
  | _ :: _, _ :: _, h => congrArg (· + 1) (Tups.length h.2)
  | [], _ :: _, h => h.elim
  | _ :: _, [], h => h.elim
theorem Tups.same {H H' : Hp} (s : Same H H') : ∀ {as : List Addr} {xs : List (List V)}, Tups H as xs → Tups H' as xs
  | [], [], _ => trivial
  | _ :: _, _ :: _, h => ⟨s _ _ h.1, Tups.same s h.2⟩
  | [], _ :: _, h => h.elim
  | _ :: _, [], h => h.elim
theorem Tups.get {H : Hp} : ∀ {as : List Addr} {xs : List (List V)} {i : Nat} {a : Addr} {x : List V}, Tups H as xs → as[i]? = some a → xs[i]? = some x → H a = some (.tup x)
  | [], _, _, _, _, _, h, _ => nomatch h
  | _ :: _, [], _, _, _, h, _, _ => h.elim
  | b :: as, y :: xs, 0, a, x, h, e, f => by
    cases e
    cases f
    exact h.1
  | b :: as, y :: xs, i + 1, a, x, h, e, f => Tups.get h.2 e f
theorem Tups.snoc {H : Hp} {a : Addr} {x : List V} (n : H a = some (.tup x)) : ∀ {as : List Addr} {xs : List (List V)}, Tups H as xs → Tups H (as ++ [a]) (xs ++ [x])
  | [], [], _ => ⟨n, trivial⟩
  | _ :: _, _ :: _, h => ⟨h.1, Tups.snoc n h.2⟩
  | [], _ :: _, h => h.elim
  | _ :: _, [], h => h.elim
theorem Tups.take {H : Hp} : ∀ {as : List Addr} {xs : List (List V)} (i : Nat), Tups H as xs → Tups H (as.take i) (xs.take i)
  | [], [], i, _ => by rw [List.take_nil, List.take_nil]; exact trivial
  | [], _ :: _, _, h => h.elim
  | _ :: _, [], _, h => h.elim
  | _ :: _, _ :: _, 0, _ => trivial
  | _ :: _, _ :: _, i + 1, h => ⟨h.1, Tups.take i h.2⟩
section
variable {P : Program} {w : World} {K : PySem.W.Frag} {mg : Str → Option Value} {base : Heap} {f : Addr} {fd : FuncData}
end
end Wb
/-! the parts of a loop, checked -/
namespace Wb
open PySem L2 WbMin WbS Lz
/-- the names of states -/
structure Sts (st : List Str) : Prop where
  of : ∀ z ∈ st, ∃ l, z = S l ∧ IsNm l
  nd : st.Nodup
  pos : 0 < st.length
  few : st.length ≤ 6
/-- a row of a loop: state, sign, next state, amount -/
structure Row where
  a : Str
  c : Nat
  b : Str
  m : Int
def Row.v (r : Row) : List V := [.str r.a, .str (S [r.c]), .str r.b, .int r.m]
def Row.k (r : Row) : Str × Str := (r.a, S [r.c])
/-- a turn: state, next state, amount -/
structure Trn where
  a : Str
  b : Str
  m : Int
def Trn.v (r : Trn) : List V := [.str r.a, .str r.b, .int r.m]
section
variable {P : Program} {w : World} {K : PySem.W.Frag} {mg : Str → Option Value} {base : Heap} {f fN fF fS fO fI fR : Addr} {fd dN dF dS dO dI dR : FuncData}
end
end Wb
/-! the rows of a loop, checked -/
namespace Wb
open PySem L2 WbMin WbS Lz
theorem Tups.upd {H : Hp} {D : Addr} {o : HO} : ∀ {as : List Addr} {xs : List (List V)}, (∀ c ∈ as, c ≠ D) → Tups H as xs → Tups (L2.upd H D o) as xs
  | [], [], _, _ => trivial
  | a :: as, _ :: _, n, h => ⟨(upd_ne (n a List.mem_cons_self)).trans h.1, Tups.upd (fun c q => n c (List.mem_cons_of_mem _ q)) h.2⟩
  | [], _ :: _, _, h => h.elim
  | _ :: _, [], _, h => h.elim
section
variable {P : Program} {w : World} {K : PySem.W.Frag} {mg : Str → Option Value} {base : Heap} {f fN fF fS fO fI fR : Addr} {fd dN dF dS dO dI dR : FuncData}
end
end Wb
/-! the parts of a loop, put in order -/
namespace Wb
open PySem L2 WbMin WbS Lz
section
variable {κ : Type} [DecidableEq κ]
end
theorem un2 {k : Nat} {A : Around} (r : Room k A) : A.units + 1 < cLine := by have := r.un; omega
/-- keys of a dict -/
def kk (p : Str × Str) : List Key := [.inr p.1, .inr p.2]
theorem kk_inj {p q : Str × Str} (h : kk p = kk q) : p = q := by
  cases p
  cases q
  injection h with h1 h2
  injection h2 with h2 _
  injection h1 with h1
  injection h2 with h2
  dsimp only at h1 h2
  subst h1
  subst h2
  rfl
section
variable {P : Program} {w : World} {K : PySem.W.Frag} {mg : Str → Option Value} {base : Heap} {f : Addr} {fd : FuncData}
end
end Wb
/-! turns and yes states, put in order -/
namespace Wb
open PySem L2 WbMin WbS Lz
/-- the key that a text is -/
def k1 (z : Str) : Key := .inr z
theorem k1_inj {p q : Str} (h : k1 p = k1 q) : p = q := by
  injection h
section
variable {P : Program} {w : World} {K : PySem.W.Frag} {mg : Str → Option Value} {base : Heap} {f : Addr} {fd : FuncData}
end
end Wb
/-! a loop in numbers -/
namespace Wb
open PySem L2 WbMin WbS Lz
/-- a loop: signs, names of states, next states, amounts, turns, their amounts, yes states -/
structure LD where
  sg : List Nat
  st : List Str
  nx : Nat → Nat → Nat
  am : Nat → Nat → Int
  tn : Nat → Nat
  ta : Nat → Int
  ys : Nat → Bool
def LD.n (L : LD) : Nat := L.st.length
def LD.nm (L : LD) (i : Nat) : Str := L.st.getD i (S [])
structure LD.Ok (L : LD) : Prop where
  sgs : Sgs L.sg
  sts : Sts L.st
  nxlt : ∀ i c, i < L.n → c ∈ L.sg → L.nx i c < L.n
  tnlt : ∀ i, i < L.n → L.tn i < L.n
def LD.row (L : LD) (i c : Nat) : Row := ⟨L.nm i, c, L.nm (L.nx i c), L.am i c⟩
def LD.rows (L : LD) : List Row := (List.range L.n).flatMap fun i => L.sg.map (L.row i)
def LD.turn (L : LD) (i : Nat) : Trn := ⟨L.nm i, L.nm (L.tn i), L.ta i⟩
def LD.turns (L : LD) : List Trn := (List.range L.n).map L.turn
def LD.yes (L : LD) : List Str := ((List.range L.n).filter L.ys).map L.nm
/-- what a row of a loop reads -/
def RowAt (H : Hp) (q : Addr) (L : LD) : Prop := ∃ (t r u y : Addr) (as bs : List Addr), H q = some (.tup [.str (S L.sg), .ref t, .ref r, .ref u, .ref y]) ∧ H t = some (.tup (L.st.map V.str)) ∧ H r = some (.tup (as.map V.ref)) ∧ Tups H as (L.rows.map Row.v) ∧ H u = some (.tup (bs.map V.ref)) ∧ Tups H bs (L.turns.map Trn.v) ∧ H y = some (.tup (L.yes.map V.str))
def tf (dN dX dA tX tA tY : Addr) : List (Str × V) := putF "says" (.ref tY) (putF "turn_amounts" (.ref tA) (putF "turn_nexts" (.ref tX) (putF "amounts" (.ref dA) (putF "nexts" (.ref dX) (putF "number" (.ref dN) [])))))
def kS (c : Nat) : Key := .inr (S [c])
/-- the table stands -/
def TableAt (C : Addr) (H : Hp) (r : Addr) (L : LD) : Prop := ∃ (dx dN dX dA tX tA tY : Addr) (xs as : List Addr), H r = some (.ins C dx (tf dN dX dA tX tA tY)) ∧
  H dX = some (.dK ((L.sg.map kS).zip (xs.map V.ref))) ∧ Tups H xs (L.sg.map fun c => (List.range L.n).map fun i => V.int (L.nx i c : Nat)) ∧
  H dA = some (.dK ((L.sg.map kS).zip (as.map V.ref))) ∧ Tups H as (L.sg.map fun c => (List.range L.n).map fun i => V.int (L.am i c)) ∧
  H tX = some (.tup ((List.range L.n).map fun i => V.int (L.tn i : Nat))) ∧ H tA = some (.tup ((List.range L.n).map fun i => V.int (L.ta i))) ∧ H tY = some (.tup ((List.range L.n).map fun i => V.bl (L.ys i)))
/-! ### the mathematics of rows -/
/-- the parts of a row stand -/
structure Prt (L : LD) (t rr u y : Addr) (as bs : List Addr) (H : Hp) : Prop where
  ht : H t = some (.tup (L.st.map V.str))
  hr : H rr = some (.tup (as.map V.ref))
  hT : Tups H as (L.rows.map Row.v)
  hu : H u = some (.tup (bs.map V.ref))
  hU : Tups H bs (L.turns.map Trn.v)
  hy : H y = some (.tup (L.yes.map V.str))
theorem Tups.but {H H' : Hp} {p : Addr} {o : HO} (no : ∀ x, o ≠ .tup x) (hp : H p = some o) (s : But p H H') : ∀ {as : List Addr} {xs : List (List V)}, Tups H as xs → Tups H' as xs
  | [], [], _ => trivial
  | a :: _, x :: _, h => ⟨s _ _ (ne_of h.1 hp fun e => no x e.symm) h.1, Tups.but no hp s h.2⟩
  | [], _ :: _, h => h.elim
  | _ :: _, [], h => h.elim
theorem Prt.but {L : LD} {t rr u y : Addr} {as bs : List Addr} {H H' : Hp} {p : Addr} {o : HO} (no : ∀ x, o ≠ .tup x) (hp : H p = some o) (s : But p H H') (h : Prt L t rr u y as bs H) : Prt L t rr u y as bs H' :=
  ⟨s _ _ (ne_of h.ht hp fun e => no _ e.symm) h.ht, s _ _ (ne_of h.hr hp fun e => no _ e.symm) h.hr, h.hT.but no hp s, s _ _ (ne_of h.hu hp fun e => no _ e.symm) h.hu, h.hU.but no hp s, s _ _ (ne_of h.hy hp fun e => no _ e.symm) h.hy⟩
theorem Prt.same {L : LD} {t rr u y : Addr} {as bs : List Addr} {H H' : Hp} (s : Same H H') (h : Prt L t rr u y as bs H) : Prt L t rr u y as bs H' :=
  ⟨s _ _ h.ht, s _ _ h.hr, h.hT.same s, s _ _ h.hu, h.hU.same s, s _ _ h.hy⟩
section
variable {P : Program} {w : World} {K : PySem.W.Frag} {mg : Str → Option Value} {base : Heap} {f C : Addr} {fd : FuncData}
end
end Wb
/-! one round by the table -/
namespace Wb
open PySem L2 WbMin WbS Lz
def LD.stp (L : LD) (p : Nat × Int) (c : Nat) : Nat × Int := (L.nx p.1 c, p.2 + L.am p.1 c)
def LD.wk (L : LD) (w : List Nat) (i : Nat) : Nat × Int := w.foldl L.stp (i, 0)
def LD.gone (L : LD) (w : List Nat) (i : Nat) : Nat × Int := (L.tn (L.wk w i).1, (L.wk w i).2 + L.ta (L.wk w i).1)
theorem wk_lt {L : LD} (O : L.Ok) {i : Nat} (hi : i < L.n) : ∀ {w : List Nat}, (∀ c ∈ w, c ∈ L.sg) → (L.wk w i).1 < L.n := by
  intro w
  unfold LD.wk
  have gen : ∀ (w : List Nat) (p : Nat × Int), p.1 < L.n → (∀ c ∈ w, c ∈ L.sg) → (w.foldl L.stp p).1 < L.n := by
    intro w
    induction w with
    | nil => exact fun p h _ => h
    | cons c w ih => exact fun p h hw => ih _ (O.nxlt _ _ h (hw c List.mem_cons_self)) fun d hd => hw d (List.mem_cons_of_mem _ hd)
  exact fun hw => gen w (i, 0) hi hw
theorem gone_lt {L : LD} (O : L.Ok) {i : Nat} (hi : i < L.n) {w : List Nat} (hw : ∀ c ∈ w, c ∈ L.sg) : (L.gone w i).1 < L.n := O.tnlt _ (wk_lt O hi hw)
theorem TableAt.same {C : Addr} {H H' : Hp} {r : Addr} {L : LD} (s : Same H H') (h : TableAt C H r L) : TableAt C H' r L := by
  obtain ⟨dx, dN, dX, dA, tX, tA, tY, xs, as, h0, hX, hx, hA, ha, hTX, hTA, hTY⟩ := h
  exact ⟨dx, dN, dX, dA, tX, tA, tY, xs, as, s _ _ h0, s _ _ hX, hx.same s, s _ _ hA, ha.same s, s _ _ hTX, s _ _ hTA, s _ _ hTY⟩
theorem TableAt.but {C D : Addr} {H H' : Hp} {r tb dx : Addr} {fs : List (Str × V)} {L : LD} (h : TableAt C H tb L) (n : tb ≠ r) (hr : H r = some (.ins D dx fs)) (s : But r H H') : TableAt C H' tb L := by
  obtain ⟨dx, dN, dX, dA, tX, tA, tY, xs, as, h0, hX, hx, hA, ha, hTX, hTA, hTY⟩ := h
  exact ⟨dx, dN, dX, dA, tX, tA, tY, xs, as, s _ _ n h0, s _ _ (ne_of hX hr (by intro q; cases q)) hX, hx.but (fun x => by intro q; cases q) hr s, s _ _ (ne_of hA hr (by intro q; cases q)) hA, ha.but (fun x => by intro q; cases q) hr s, s _ _ (ne_of hTX hr (by intro q; cases q)) hTX, s _ _ (ne_of hTA hr (by intro q; cases q)) hTA, s _ _ (ne_of hTY hr (by intro q; cases q)) hTY⟩
section
variable {P : Program} {w : World} {K : PySem.W.Frag} {mg : Str → Option Value} {base : Heap} {f C : Addr} {fd : FuncData}
end
end Wb
/-! where a map leads, again and again -/
namespace Wb
open PySem L2 WbMin WbS Lz
/-- the state behind m rounds -/
def it (g : Nat → Nat) : Nat → Nat
  | 0 => 0
  | m + 1 => g (it g m)
theorem it_lt {g : Nat → Nat} {n : Nat} (h0 : 0 < n) (h : ∀ i, i < n → g i < n) : ∀ m, it g m < n
  | 0 => h0
  | m + 1 => h _ (it_lt h0 h m)
theorem it_add {g : Nat → Nat} {a b : Nat} (h : it g a = it g b) : ∀ d, it g (a + d) = it g (b + d)
  | 0 => h
  | d + 1 => congrArg g (it_add h d)
/-- what a course knows: k states, those from h on come again -/
structure Crs (g : Nat → Nat) (n k h : Nat) : Prop where
  lt : h < k
  le : k ≤ n
  eq : it g k = it g h
  nd : ∀ i j, i < j → j < k → it g i ≠ it g j
theorem Crs.mul {g : Nat → Nat} {n k h : Nat} (c : Crs g n k h) : ∀ (q m : Nat), h ≤ m → it g (m + q * (k - h)) = it g m
  | 0, m, _ => by rw [Nat.zero_mul, Nat.add_zero]
  | q + 1, m, hm => by
    have e : m + (q + 1) * (k - h) = k + (m - h + q * (k - h)) := by
      have := c.lt
      rw [Nat.add_mul]
      omega
    rw [e, it_add c.eq, show h + (m - h + q * (k - h)) = m + q * (k - h) by omega, Crs.mul c q m hm]
theorem Crs.place {g : Nat → Nat} {n k h m : Nat} (c : Crs g n k h) (hm : k ≤ m) : h + (m - h) % (k - h) < k ∧ it g (h + (m - h) % (k - h)) = it g m := by
  have lt := c.lt
  have pos : 0 < k - h := by omega
  have := Nat.mod_lt (m - h) pos
  refine ⟨by omega, ?_⟩
  have e := c.mul ((m - h) / (k - h)) (h + (m - h) % (k - h)) (by omega)
  have d := Nat.mod_add_div (m - h) (k - h)
  rw [Nat.mul_comm] at d
  rw [← e]
  congr 1
  omega
def nat (g : Nat → Nat) (k : Nat) : List V := (List.range k).map fun m => V.int (it g m : Nat)
def cf (p : Addr) (h k : Nat) : List (Str × V) := putF "again" (.int ((k : Int) - (h : Int))) (putF "head" (.int (h : Nat)) (putF "path" (.ref p) []))
/-- the course stands -/
def CourseAt (C : Addr) (H : Hp) (r : Addr) (g : Nat → Nat) (k h : Nat) : Prop := ∃ dx p, H r = some (.ins C dx (cf p h k)) ∧ H p = some (.lst (nat g k))
theorem CourseAt.same {C : Addr} {H H' : Hp} {r : Addr} {g : Nat → Nat} {k h : Nat} (s : Same H H') : CourseAt C H r g k h → CourseAt C H' r g k h := fun ⟨dx, p, a, b⟩ => ⟨dx, p, s _ _ a, s _ _ b⟩
section
variable {X : Cx}
end
section
variable {P : Program} {w : World} {K : PySem.W.Frag} {mg : Str → Option Value} {base : Heap} {f fP C : Addr} {fd dP : FuncData}
end
end Wb
/-! sorted texts: one order alone -/
namespace Wb
open PySem L2 WbMin WbS
end Wb
/-! a loop is made -/
namespace Wb
open PySem L2 WbMin WbS Lz
/-- Loop(signs, states, rows, turns, yes=yes) -/
def gL {α : Type} : List α → List α → List α → List α
  | [r, a, b, c, d], _, [y] => [r, a, b, c, d, y]
  | _, _, _ => []
def lf (z : Str) (t rr u y tb : Addr) : List (Str × V) := putF "_table" (.ref tb) (putF "_yes" (.ref y) (putF "_turns" (.ref u) (putF "_rows" (.ref rr) (putF "_states" (.ref t) (putF "_signs" (.str z) [])))))
/-- a loop stands at r: its class C, its table's class T -/
def LoopAt (C T : Addr) (H : Hp) (r : Addr) (L : LD) : Prop := ∃ (dx t rr u y tb : Addr) (as bs : List Addr), H r = some (.ins C dx (lf (S L.sg) t rr u y tb)) ∧ Prt L t rr u y as bs H ∧ TableAt T H tb L
theorem LoopAt.same {C T : Addr} {H H' : Hp} {r : Addr} {L : LD} (s : Same H H') : LoopAt C T H r L → LoopAt C T H' r L := fun ⟨dx, t, rr, u, y, tb, as, bs, a, b, c⟩ => ⟨dx, t, rr, u, y, tb, as, bs, s _ _ a, b.same s, c.same s⟩
structure LA where
  (C T O fI fW fAn fSt fTx fGo fOf pW tI tG cI cP cB : Addr)
  (dI dW dAn dSt dTx dGo dOf etI etG ecI ecP ecB : FuncData)
  (signs signof first isword isname isint intfrom stateof rowof turnof chst chro chtu chye orro ortu orye : Addr)
  (dsigns dsignof dfirst disword disname disint dintfrom dstateof drowof dturnof dchst dchro dchtu dchye dorro dortu dorye : FuncData)
/-! ### the mathematics -/
end Wb
/-! a loop is made: the defs -/
namespace Wb
open PySem L2 WbMin WbS Lz
theorem Prt.row {L : LD} {t rr u y q : Addr} {as bs : List Addr} {H : Hp} (h : Prt L t rr u y as bs H) (e : H q = some (.tup [.str (S L.sg), .ref t, .ref rr, .ref u, .ref y])) : RowAt H q L :=
  ⟨t, rr, u, y, as, bs, e, h.ht, h.hr, h.hT, h.hu, h.hU, h.hy⟩
section
variable {P : Program} {w : World} {K : PySem.W.Frag} {mg : Str → Option Value} {base : Heap} {A : LA} {e : Addr}
end
end Wb
/-! a loop is asked -/
namespace Wb
open PySem L2 WbMin WbS Lz
/-- where a round leads, and its count -/
def LD.lead (L : LD) (w : List Nat) (i : Nat) : Nat := (L.gone w i).1
def LD.cnt (L : LD) (w : List Nat) (i : Nat) : Int := (L.gone w i).2
theorem lf_none (z : Str) (t rr u y tb : Addr) : (lf z t rr u y tb).lookup ("_check_text" : Str) = none ∧ (lf z t rr u y tb).lookup ("_gone" : Str) = none ∧ (lf z t rr u y tb).lookup ("_answer_of" : Str) = none ∧ (lf z t rr u y tb).lookup ("answer" : Str) = none ∧ (lf z t rr u y tb).lookup ("state" : Str) = none := by
  unfold lf
  refine ⟨?_, ?_, ?_, ?_, ?_⟩ <;> (repeat rw [lookup_putF, if_neg (by decide +kernel)]) <;> rfl
section
variable {P : Program} {w : World} {K : PySem.W.Frag} {mg : Str → Option Value} {base : Heap} {A : LA} {e : Addr} {f fI : Addr} {fd dI : FuncData}
end
end Wb
/-! the ways of a statement, an expression and a test brought together -/
namespace Lz
open PySem PySem.Spec PyProof.Rows L2
section
variable {X : Cx}
def tJoin (t : TS) : TS := fun D σ H => ∃ T : L2.St → Hp → Prop, t { D with nx := T } σ H ∧ ∀ σ' H', T σ' H' → D.nx σ' H'
theorem ps_join {st : Stmt} {t : TS} (h : PS X st t) : PS X st (tJoin t) := by
  refine ⟨fun pins s σ H D I ⟨T, q, k⟩ => thn (h.run pins s σ H _ I q) fun f s' z => ?_⟩
  cases f with
  | next => obtain ⟨σ', H', I', w⟩ := z; exact ⟨σ', H', I', k _ _ w⟩
  | ret u => exact z
  | brk => exact z
  | cont => exact z
def tJoinE (t : TE) : TE := fun σ H Q => ∃ T : V → Hp → Prop, t σ H T ∧ ∀ x H', T x H' → Q x H'
theorem pe_joinE {e : Expr} {t : TE} (h : PE X e t) : PE X e (tJoinE t) := by
  refine ⟨fun pins s σ H Q I ⟨T, q, k⟩ => thn (h.run pins s σ H _ I q) fun f s' z => ?_⟩
  obtain ⟨x, H', I', r, w⟩ := z
  exact ⟨x, H', I', r, k _ _ w⟩
end
end Lz
namespace Wb
open PySem L2 WbMin WbS Lz
abbrev sWord : Stmt := top 26
def spWord : Sp := fun vs H Q _ => ∃ (p : Addr) (a : List Nat) (m : Int), vs = [.ref p, .str (S a), .int m] ∧ 0 < a.length ∧ a.length ≤ 1000 ∧ 0 < m ∧ m ≤ 1000 ∧ PoolAt H p ∧
  ∀ (l : List Nat) (H' : Hp), (∀ c ∈ l, c ∈ a) → 0 < l.length → (l.length : Int) ≤ m → PoolAt H' p → But p H H' → Q (.str (S l)) H'
theorem pool_ne {H : Hp} {p F : Addr} {zs : List Str} (hp : PoolAt H p) (h : H F = some (.lst (zs.map V.str))) : F ≠ p := by
  obtain ⟨x, y, z, e3, _⟩ := hp
  intro q
  subst q
  rw [e3] at h
  injection h with q
  injection q with q
  cases zs with
  | nil => cases q
  | cons a zs => cases q
theorem nat_of {d : Int} (h : 0 ≤ d) : ∃ n : Nat, d = (n : Int) := ⟨d.toNat, (Int.toNat_of_nonneg h).symm⟩
def marks : List Nat := abc ++ (List.range 10).map (· + 48)
theorem cut_to {l : List Nat} {i : Nat} : cutS (S l) none (some (i : Int)) = S (l.take i) := by
  show S _ = S _
  rw [HT.sIx_none, HT.sIx_nat, S_len, S_cps, List.drop_zero, Nat.sub_zero]
  refine congrArg S ?_
  by_cases h : i ≤ l.length
  · rw [Nat.min_eq_left h]
  · rw [Nat.min_eq_right (by omega), List.take_length, List.take_of_length_le (by omega)]
theorem cut_from {l : List Nat} {i : Nat} : cutS (S l) (some (i : Int)) none = S (l.drop i) := by
  show S _ = S _
  rw [HT.sIx_none, HT.sIx_nat, S_len, S_cps]
  refine congrArg S ?_
  by_cases h : i ≤ l.length
  · rw [Nat.min_eq_left h]
    exact List.take_of_length_le (by rw [List.length_drop]; omega)
  · rw [Nat.min_eq_right (by omega), Nat.sub_self, List.take_zero, List.drop_eq_nil_of_le (by omega)]
theorem eqv_nil {α : Type} (f : α → PyData) : ∀ zs : List α, PyData.eqv (.list (zs.map f)) (.list []) = zs.isEmpty
  | [] => rfl
  | _ :: _ => rfl
theorem dp_strs {K : PySem.W.Frag} {H : Hp} : ∀ zs : List Str, DpAll K H (zs.map V.str) (zs.map PyData.str)
  | [] => .nil
  | z :: r => .cons (.str z) (dp_strs r)
theorem can_strs : ∀ {zs : List Str}, (∀ z ∈ zs, PyData.strOk z = true) → PyData.canLayAll0 (zs.map PyData.str) = true
  | [], _ => rfl
  | z :: r, h => by
    show (PyData.strOk z && PyData.canLayAll0 (r.map PyData.str)) = true
    rw [h z List.mem_cons_self, can_strs fun y q => h y (List.mem_cons_of_mem _ q)] <;> rfl
theorem shaped_strs {zs : List Str} (h : ∀ z ∈ zs, PyData.strOk z = true) : SeqAt.shaped (.list (zs.map PyData.str)) = true := by
  have d : PyData.depth (.list (zs.map PyData.str)) = 1 := by
    show PyData.depthAll (zs.map PyData.str) + 1 = 1
    rw [depthAll_strs]
  unfold SeqAt.shaped
  rw [d]
  show (PyData.canLayAll0 (zs.map PyData.str) && decide (1 ≤ 64)) = true
  rw [can_strs h] <;> rfl
theorem ok_codes {l : List Nat} (h : ∀ c ∈ l, c < 1000) : PyData.strOk (S l) = true := by
  unfold PyData.strOk
  rw [Array.all_eq_true]
  intro i hi
  have m : (S l).cps[i] ∈ l := by
    have q : (S l).cps[i] ∈ (S l).cps.toList := Array.mem_toList_iff.mpr (Array.getElem_mem hi)
    rwa [S_cps] at q
  have q := h _ m
  simp only [decide_eq_true_eq]
  omega
theorem IsNm.low {l : List Nat} (h : IsNm l) : ∀ c ∈ l, c < 1000 := fun c hc => by
  have := h.ok c hc
  omega
/-- the spare names -/
def spare : List Str := (marks.take 9).map fun c => S [122, c]
section
variable {P : Program} {w : World} {K : PySem.W.Frag} {mg : Str → Option Value} {base : Heap} {f fD fN : Addr} {fd fdD dN : FuncData}
theorem scW : FnScope ["_law_pool_here", "_law_abc", "_law_most", "_law_turn"] ["_law_pool_here", "_law_abc", "_law_most"] (defScope sWord) := ⟨rfl, rfl, rfl, by decide +kernel, rfl, by decide +kernel, by decide +kernel⟩
theorem ok_word (F : Fun K "_law_word" "_law_word" sWord f fd) (D : Def K mg "_law_draw" sDraw ["_law_pool_here", "_law_many"] fD fdD) (mInt : mg "int" = none) (mDm : mg "divmod" = none) (mLen : mg "len" = none) (mRange : mg "range" = none) :
    FnOk P w K mg base CX0 2 f fd ["_law_pool_here", "_law_abc", "_law_most"] spWord := by
  have G : FnOk P w K mg base CX0 1 fD fdD ["_law_pool_here", "_law_many"] spDraw := ok_draw D.F mInt mDm
  refine F.ok scW (fun vs H Q E h => ?_) (fun cdv A outer s H vs Q E hr h => ?_)
  · obtain ⟨p, a, m, rfl, _⟩ := h
    rfl
  · obtain ⟨p, a, m, rfl, a0, a1, m0, m1, hp, k⟩ := h
    refine ⟨_, pss_one (ps_ret (pe_join pe_str
      (pe_lc (own := [("_law_turn", 3)]) (g := gName 3) (tt := tYes) rfl scW.nd (pi_range1 rfl mRange (pa_cons (pe_op op_add pe_int (pe_call G hr rfl D.g D.kp D.b .nil pass0 (pa_cons (pv 0) (pa_cons (pv 2) pa_nil)))) pa_nil))
        (blkOk_by (N := ["_law_pool_here", "_law_abc", "_law_most", "_law_turn"]) (sc := defScope sWord) (by decide +kernel)) (fun _ _ _ _ _ => pg_name (i := 3) scW.nd rfl (.inl rfl)) (fun _ _ _ _ _ => pts_nil)
        (fun _ _ _ _ _ => pe_ix ix_str (pv 1) (pe_call G hr rfl D.g D.kp D.b .nil pass0 (pa_cons (pv 0) (pa_cons (pe_callB call_len_str (by rfl) mLen PySem.boot_len (pa_cons (pv 1) pa_nil)) pa_nil))) (fun _ _ => rfl))))), ?_⟩
    refine ⟨⟨_, rfl⟩, _, rfl, _, rfl, p, m, rfl, m0, by omega, hp, fun d H1 d0 d1 hp1 b1 => ⟨_, _, rfl, rfl, _, rfl, by omega, by omega, fun D hD => ?_⟩⟩
    have sA : (S a).length ≤ sizeLine := by rw [S_len, sizeLine_eq]; omega
    refine lc_it walk_range (fun i H3 => ∃ l : List Nat, H3 D = some (.lst (l.map vOne)) ∧ l.length = i ∧ (∀ c ∈ l, c ∈ a) ∧ PoolAt H3 p ∧ But p H H3) ⟨[], upd_same, rfl, (fun c hc => nomatch hc), hp1.up hD, b1.upd hD⟩ (fun _ _ _ _ => trivial) ?_ ?_
    · rintro i x H3 H3' hi ⟨l, h1, ll, sub, h2, h3⟩ ⟨rfl, rfl⟩
      have hD0 : H D = none := b1.free hD (hp1.ne hD)
      have nD := hp1.ne hD
      refine ⟨rfl, _, rfl, _, rfl, _, rfl, _, rfl, sA, p, _, rfl, ?_, ?_, h2, fun e H4 e0 e1 hp4 b4 => ?_⟩
      · rw [S_len]; omega
      · rw [S_len]; omega
      · rw [S_len] at e1
        obtain ⟨c, hc⟩ : ∃ c, a[e.toNat]? = some c := ⟨_, List.getElem?_eq_getElem (by omega)⟩
        have hat : atI (S a).cps.toList e = some c := by
          rw [S_cps]
          have q := atI_nat hc
          rwa [Int.toNat_of_nonneg e0] at q
        refine ⟨_, _, c, rfl, rfl, sA, hat, _, b4 D _ nD h1, ?_, l ++ [c], ?_, ?_, fun z hz => ?_, hp4.put nD, (h3.trans b4).new hD0⟩
        · rw [List.length_map, sizeLine_eq]; omega
        · rw [upd_same, List.map_append] <;> rfl
        · rw [List.length_append, ll] <;> rfl
        · rcases List.mem_append.mp hz with hz | hz
          · exact sub z hz
          · rw [List.mem_singleton.mp hz]
            exact List.mem_of_getElem? hc
    · rintro H3 ⟨l, h1, ll, sub, h2, h3⟩
      have pos : 0 < l.length := by omega
      have h1' : H3 D = some (.lst ((l.map one).map V.str)) := by rw [h1, List.map_map] <;> rfl
      refine ⟨_, D, l.map one, rfl, rfl, .inl (SqL.of h1'), ?_, ?_⟩
      · have e1 : ((l.map one).map fun x => x.length) = List.replicate l.length 1 := by
          rw [List.map_map]
          exact List.map_eq_replicate_iff.mpr fun _ _ => rfl
        have e2 : (Str.ofString "").length = 0 := by decide +kernel
        rw [e1, e2, List.sum_replicate_nat]
        omega
      · show Q (.str (Txt.join (Str.ofString "") (l.map one))) H3
        rw [join_one pos]
        exact k l H3 sub pos (by omega) h2 h3
end
end Wb
/-! drawn names and amounts -/
namespace Wb
open PySem L2 WbMin WbS Lz
section
variable {P : Program} {w : World} {K : PySem.W.Frag} {mg : Str → Option Value} {base : Heap} {f fD fN : Addr} {fd fdD dN : FuncData}
end
end Wb
/-! a model of a loop is drawn -/
namespace Wb
open PySem L2 WbMin WbS Lz
/-- what stands at a state and a sign, at a state -/
def Entry2 (H : Hp) (kvs : List (List Key × V)) (z : Str) (c : Nat) (y : Str) (m : Int) : Prop := ∃ t, valV kvs (kk (z, S [c])) = some (.ref t) ∧ H t = some (.tup [.str y, .int m])
def Entry1 (H : Hp) (kvs : List (Key × V)) (z y : Str) (m : Int) : Prop := ∃ t, valV kvs (k1 z) = some (.ref t) ∧ H t = some (.tup [.str y, .int m])
/-- tuples stay -/
def Tk (H H' : Hp) : Prop := ∀ b x, H b = some (.tup x) → H' b = some (.tup x)
theorem Tk.refl (H : Hp) : Tk H H := fun _ _ h => h
theorem Tk.trans {H H1 H2 : Hp} (a : Tk H H1) (b : Tk H1 H2) : Tk H H2 := fun c x h => b c x (a c x h)
theorem Tk.of {H H' : Hp} (s : Same H H') : Tk H H' := fun b _ h => s b _ h
theorem pool_other {H : Hp} {p b : Addr} {o : HO} (hp : PoolAt H p) (h : H b = some o) (n : ∀ x y z : Int, o ≠ .lst [.int x, .int y, .int z]) : b ≠ p := by
  obtain ⟨x, y, z, e, _⟩ := hp
  intro q
  subst q
  rw [e] at h
  exact n x y z (Option.some.inj h).symm
theorem Tk.but {H H' : Hp} {p : Addr} (hp : PoolAt H p) (s : But p H H') : Tk H H' := fun b x h => s b _ (pool_other hp h (fun _ _ _ q => by cases q)) h
theorem Tk.put {H : Hp} {S : Addr} {o o' : HO} (h : H S = some o) (n : ∀ x, o ≠ .tup x) : Tk H (L2.upd H S o') := fun b x e => by
  rw [upd_ne (ne_of e h (n x).symm)]
  exact e
theorem Tk.new {H : Hp} {S : Addr} {o' : HO} (h : H S = none) : Tk H (L2.upd H S o') := fun b x e => by
  rw [upd_ne (ne_of_none e h)]
  exact e
theorem Entry2.tk {H H' : Hp} {kvs : List (List Key × V)} {z y : Str} {c : Nat} {m : Int} (s : Tk H H') : Entry2 H kvs z c y m → Entry2 H' kvs z c y m := fun ⟨t, a, b⟩ => ⟨t, a, s _ _ b⟩
theorem Entry1.tk {H H' : Hp} {kvs : List (Key × V)} {z y : Str} {m : Int} (s : Tk H H') : Entry1 H kvs z y m → Entry1 H' kvs z y m := fun ⟨t, a, b⟩ => ⟨t, a, s _ _ b⟩
/-- a model of a loop stands: letters, states, steps, ends, yes states -/
def MdAt (H : Hp) (q : Addr) (L : LD) : Prop := ∃ (A Sd Ed O : Addr) (kvs : List (List Key × V)) (ws : List (Key × V)), H q = some (.lst [.str (S L.sg), .ref A, .ref Sd, .ref Ed, .ref O]) ∧ H A = some (.lst (L.st.map V.str)) ∧ H Sd = some (.dT kvs) ∧ H Ed = some (.dK ws) ∧
  (∀ i c, i < L.n → c ∈ L.sg → Entry2 H kvs (L.nm i) c (L.nm (L.nx i c)) (L.am i c)) ∧ (∀ i, i < L.n → Entry1 H ws (L.nm i) (L.nm (L.tn i)) (L.ta i)) ∧ H O = some (.lst (L.yes.map V.str))
theorem MdAt.but {H H' : Hp} {p q : Addr} {L : LD} (hp : PoolAt H p) (s : But p H H') : MdAt H q L → MdAt H' q L := fun ⟨A, Sd, Ed, O, kvs, ws, h0, hA, hS, hE, e2, e1, hO⟩ =>
  have tk := Tk.but hp s
  ⟨A, Sd, Ed, O, kvs, ws, s _ _ (pool_other hp h0 fun _ _ _ q => by cases q) h0, s _ _ (pool_ne hp hA) hA, s _ _ (pool_other hp hS fun _ _ _ q => by cases q) hS, s _ _ (pool_other hp hE fun _ _ _ q => by cases q) hE,
    fun i c hi hc => (e2 i c hi hc).tk tk, fun i hi => (e1 i hi).tk tk, s _ _ (pool_ne hp hO) hO⟩
theorem MdAt.same {H H' : Hp} {q : Addr} {L : LD} (s : Same H H') : MdAt H q L → MdAt H' q L := fun ⟨A, Sd, Ed, O, kvs, ws, h0, hA, hS, hE, e2, e1, hO⟩ =>
  ⟨A, Sd, Ed, O, kvs, ws, s _ _ h0, s _ _ hA, s _ _ hS, s _ _ hE, fun i c hi hc => (e2 i c hi hc).tk (Tk.of s), fun i hi => (e1 i hi).tk (Tk.of s), s _ _ hO⟩
/-- amounts that are not too great -/
structure LD.Small (L : LD) : Prop where
  am : ∀ i c, i < L.n → c ∈ L.sg → (L.am i c).natAbs < 2 ^ 110
  ta : ∀ i, i < L.n → (L.ta i).natAbs < 2 ^ 110
/-- drawn amounts are smaller yet: two of them together are small -/
structure LD.Tiny (L : LD) : Prop where
  am : ∀ i c, i < L.n → c ∈ L.sg → (L.am i c).natAbs < 2 ^ 100
  ta : ∀ i, i < L.n → (L.ta i).natAbs < 2 ^ 100
theorem LD.Tiny.small {L : LD} (t : L.Tiny) : L.Small := ⟨fun i c hi hc => Nat.lt_trans (t.am i c hi hc) (by decide), fun i hi => Nat.lt_trans (t.ta i hi) (by decide)⟩
/-- the entries of the pairs that are done -/
def E2s (H : Hp) (kvs : List (List Key × V)) (nm : Nat → Str) (n : Nat) (nx : Nat → Nat → Nat) (am : Nat → Nat → Int) (Dn : Nat → Nat → Prop) : Prop := ∀ i c, Dn i c → nx i c < n ∧ (am i c).natAbs < 2 ^ 100 ∧ Entry2 H kvs (nm i) c (nm (nx i c)) (am i c)
def E1s (H : Hp) (ws : List (Key × V)) (nm : Nat → Str) (n : Nat) (tn : Nat → Nat) (ta : Nat → Int) (k : Nat) : Prop := ∀ i, i < k → tn i < n ∧ (ta i).natAbs < 2 ^ 100 ∧ Entry1 H ws (nm i) (nm (tn i)) (ta i)
theorem E2s.tk {H H' : Hp} {kvs : List (List Key × V)} {nm : Nat → Str} {n : Nat} {nx : Nat → Nat → Nat} {am : Nat → Nat → Int} {Dn : Nat → Nat → Prop} (s : Tk H H') (h : E2s H kvs nm n nx am Dn) : E2s H' kvs nm n nx am Dn := fun i c d => ⟨(h i c d).1, (h i c d).2.1, (h i c d).2.2.tk s⟩
theorem E1s.tk {H H' : Hp} {ws : List (Key × V)} {nm : Nat → Str} {n : Nat} {tn : Nat → Nat} {ta : Nat → Int} {k : Nat} (s : Tk H H') (h : E1s H ws nm n tn ta k) : E1s H' ws nm n tn ta k := fun i d => ⟨(h i d).1, (h i d).2.1, (h i d).2.2.tk s⟩
theorem kk_eq {z y : Str} {a c : Nat} (h : kk (z, S [a]) = kk (y, S [c])) : z = y ∧ a = c := by
  have q := kk_inj h
  injection q with q1 q2
  refine ⟨q1, ?_⟩
  have := S_inj q2
  injection this
theorem E2s.put {H : Hp} {kvs : List (List Key × V)} {nm : Nat → Str} {n : Nat} {nx : Nat → Nat → Nat} {am : Nat → Nat → Int} {Dn Dn' : Nat → Nat → Prop} (h : E2s H kvs nm n nx am Dn) {i c e : Nat} {m : Int} {t : Addr} (ht : H t = some (.tup [.str (nm e), .int m])) (he : e < n) (hm : m.natAbs < 2 ^ 100) (hd : ∀ i' c', Dn' i' c' → Dn i' c' ∨ (nm i' = nm i ∧ c' = c)) :
    ∃ nx' am', E2s H (putK kvs (kk (nm i, S [c])) (.ref t)) nm n nx' am' Dn' := by
  refine ⟨fun i' c' => if nm i' = nm i ∧ c' = c then e else nx i' c', fun i' c' => if nm i' = nm i ∧ c' = c then m else am i' c', fun i' c' d => ?_⟩
  dsimp only
  by_cases q : nm i' = nm i ∧ c' = c
  · rw [if_pos q, if_pos q]
    refine ⟨he, hm, t, ?_, ht⟩
    rw [valV_put, if_pos (by rw [q.1, q.2])]
  · rw [if_neg q, if_neg q]
    have h0 := h i' c' ((hd i' c' d).resolve_right q)
    obtain ⟨t', a, b⟩ := h0.2.2
    refine ⟨h0.1, h0.2.1, t', ?_, b⟩
    rw [valV_put, if_neg fun z => q (kk_eq z)]
    exact a
theorem E1s.put {H : Hp} {ws : List (Key × V)} {nm : Nat → Str} {n : Nat} {tn : Nat → Nat} {ta : Nat → Int} {k : Nat} (h : E1s H ws nm n tn ta k) {e : Nat} {m : Int} {t : Addr} (ht : H t = some (.tup [.str (nm e), .int m])) (he : e < n) (hm : m.natAbs < 2 ^ 100) :
    ∃ tn' ta', E1s H (putK ws (k1 (nm k)) (.ref t)) nm n tn' ta' (k + 1) := by
  refine ⟨fun i' => if nm i' = nm k then e else tn i', fun i' => if nm i' = nm k then m else ta i', fun i' d => ?_⟩
  dsimp only
  by_cases q : nm i' = nm k
  · rw [if_pos q, if_pos q]
    refine ⟨he, hm, t, ?_, ht⟩
    rw [valV_put, if_pos (by rw [q])]
  · rw [if_neg q, if_neg q]
    have h0 := h i' (by
      have : i' ≠ k := fun z => q (by rw [z])
      omega)
    obtain ⟨t', a, b⟩ := h0.2.2
    refine ⟨h0.1, h0.2.1, t', ?_, b⟩
    rw [valV_put, if_neg fun z => q (k1_inj z)]
    exact a
/-- the same state once more -/
theorem E1s.over {H : Hp} {ws : List (Key × V)} {nm : Nat → Str} {n : Nat} {tn : Nat → Nat} {ta : Nat → Int} {k : Nat} (h : E1s H ws nm n tn ta (k + 1)) {e : Nat} {m : Int} {t : Addr} (ht : H t = some (.tup [.str (nm e), .int m])) (he : e < n) (hm : m.natAbs < 2 ^ 100) :
    ∃ tn' ta', E1s H (putK ws (k1 (nm k)) (.ref t)) nm n tn' ta' (k + 1) := E1s.put (k := k) (fun i d => h i (by omega)) ht he hm
def nmOf (st : List Str) (i : Nat) : Str := st.getD i (S [])
/-- a model while it is drawn -/
structure MSt (H H' : Hp) (p A Sd Ed : Addr) (st : List Str) (Dn : Nat → Nat → Prop) (k l1 l2 : Nat) : Prop where
  ex : ∃ (kvs : List (List Key × V)) (ws : List (Key × V)) (nx : Nat → Nat → Nat) (am : Nat → Nat → Int) (tn : Nat → Nat) (ta : Nat → Int), H' Sd = some (.dT kvs) ∧ H' Ed = some (.dK ws) ∧ kvs.length ≤ l1 ∧ ws.length ≤ l2 ∧ E2s H' kvs (nmOf st) st.length nx am Dn ∧ E1s H' ws (nmOf st) st.length tn ta k
  hA : H' A = some (.lst (st.map V.str))
  hp : PoolAt H' p
  b : But p H H'
  nS : H Sd = none
  nE : H Ed = none
section
variable {H H1 H2 : Hp} {p A Sd Ed : Addr} {st : List Str} {Dn Dn' : Nat → Nat → Prop} {k l1 l2 : Nat}
theorem MSt.but (q : MSt H H1 p A Sd Ed st Dn k l1 l2) (hp : PoolAt H2 p) (s : But p H1 H2) : MSt H H2 p A Sd Ed st Dn k l1 l2 := by
  obtain ⟨⟨kvs, ws, nx, am, tn, ta, hS, hE, c1, c2, e2, e1⟩, hA, hp1, b, nS, nE⟩ := q
  have tk := Tk.but hp1 s
  exact ⟨⟨kvs, ws, nx, am, tn, ta, s _ _ (pool_other hp1 hS fun _ _ _ q => by cases q) hS, s _ _ (pool_other hp1 hE fun _ _ _ q => by cases q) hE, c1, c2, e2.tk tk, e1.tk tk⟩, s _ _ (pool_ne hp1 hA) hA, hp, b.trans s, nS, nE⟩
theorem MSt.new (q : MSt H H1 p A Sd Ed st Dn k l1 l2) {t : Addr} {o : HO} (h : H1 t = none) : MSt H (L2.upd H1 t o) p A Sd Ed st Dn k l1 l2 := by
  obtain ⟨⟨kvs, ws, nx, am, tn, ta, hS, hE, c1, c2, e2, e1⟩, hA, hp1, b, nS, nE⟩ := q
  have tk : Tk H1 (L2.upd H1 t o) := Tk.new h
  have s : Same H1 (L2.upd H1 t o) := Same.put (Same.refl H1) h
  exact ⟨⟨kvs, ws, nx, am, tn, ta, s _ _ hS, s _ _ hE, c1, c2, e2.tk tk, e1.tk tk⟩, s _ _ hA, hp1.up h, b.upd h, nS, nE⟩
theorem MSt.up (q : MSt H H1 p A Sd Ed st Dn k l1 l2) {R : Addr} {o : HO} {xs : List V} (h : H1 R = some (.lst xs)) (nA : R ≠ A) (np : R ≠ p) (n0 : H R = none) : MSt H (L2.upd H1 R o) p A Sd Ed st Dn k l1 l2 := by
  obtain ⟨⟨kvs, ws, nx, am, tn, ta, hS, hE, c1, c2, e2, e1⟩, hA, hp1, b, nS, nE⟩ := q
  have tk : Tk H1 (L2.upd H1 R o) := Tk.put h (fun x => by intro z; cases z)
  exact ⟨⟨kvs, ws, nx, am, tn, ta, (upd_ne (ne_of hS h (by intro z; cases z))).trans hS, (upd_ne (ne_of hE h (by intro z; cases z))).trans hE, c1, c2, e2.tk tk, e1.tk tk⟩, (upd_ne nA.symm).trans hA, hp1.put np, b.new n0, nS, nE⟩
theorem MSt.put1 (q : MSt H H1 p A Sd Ed st Dn k l1 l2) {e : Nat} {m : Int} {t : Addr} (ht : H1 t = some (.tup [.str (nmOf st e), .int m])) (he : e < st.length) (hm : m.natAbs < 2 ^ 100) (hl : l2 < 100) :
    ∃ H4, DPut H1 Ed (.str (nmOf st k)) (.ref t) H4 ∧ MSt H H4 p A Sd Ed st Dn (k + 1) l1 (l2 + 1) := by
  obtain ⟨⟨kvs, ws, nx, am, tn, ta, hS, hE, c1, c2, e2, e1⟩, hA, hp1, b, nS, nE⟩ := q
  have nEp : Ed ≠ p := pool_other hp1 hE fun _ _ _ q => by cases q
  refine ⟨_, DPut.k (k := k1 (nmOf st k)) hE (by rw [sizeLine_eq]; omega), ?_⟩
  have tk : Tk H1 (L2.upd H1 Ed (.dK (putK ws (k1 (nmOf st k)) (.ref t)))) := Tk.put hE (fun x => by intro z; cases z)
  obtain ⟨tn', ta', e1'⟩ := e1.put ht he hm
  refine ⟨⟨kvs, _, nx, am, tn', ta', (upd_ne (ne_of hS hE (by intro z; cases z))).trans hS, upd_same, c1, ?_, e2.tk tk, e1'.tk tk⟩, (upd_ne (ne_of hA hE (by intro z; cases z))).trans hA, hp1.put nEp, b.new nE, nS, nE⟩
  exact Nat.le_trans (length_putK ws _ _) (by omega)
theorem MSt.over (q : MSt H H1 p A Sd Ed st Dn (k + 1) l1 l2) {e : Nat} {m : Int} {t : Addr} (ht : H1 t = some (.tup [.str (nmOf st e), .int m])) (he : e < st.length) (hm : m.natAbs < 2 ^ 100) (hl : l2 < 100) :
    ∃ H4, DPut H1 Ed (.str (nmOf st k)) (.ref t) H4 ∧ MSt H H4 p A Sd Ed st Dn (k + 1) l1 (l2 + 1) := by
  obtain ⟨⟨kvs, ws, nx, am, tn, ta, hS, hE, c1, c2, e2, e1⟩, hA, hp1, b, nS, nE⟩ := q
  exact MSt.put1 (k := k) ⟨⟨kvs, ws, nx, am, tn, ta, hS, hE, c1, c2, e2, fun i d => e1 i (by omega)⟩, hA, hp1, b, nS, nE⟩ ht he hm hl
theorem MSt.less (q : MSt H H1 p A Sd Ed st Dn k l1 l2) (h : ∀ i c, Dn' i c → Dn i c) {l1' l2' : Nat} (a : l1 ≤ l1') (b : l2 ≤ l2') : MSt H H1 p A Sd Ed st Dn' k l1' l2' := by
  obtain ⟨⟨kvs, ws, nx, am, tn, ta, hS, hE, c1, c2, e2, e1⟩, hA, hp1, b', nS, nE⟩ := q
  exact ⟨⟨kvs, ws, nx, am, tn, ta, hS, hE, Nat.le_trans c1 a, Nat.le_trans c2 b, fun i c d => e2 i c (h i c d), e1⟩, hA, hp1, b', nS, nE⟩
end
section
variable {P : Program} {w : World} {K : PySem.W.Frag} {mg : Str → Option Value} {base : Heap} {f fD fN fNs fA : Addr} {fd fdD dN dNs dA : FuncData}
end
end Wb
/-! a list unpacked into names -/
namespace Lz
open PySem PySem.W PySem.Spec PyProof.Rows
section
variable {prog : Program} {w : World} {A : Around} {E : Value → Shared → Prop} {I l : Addr} {St : Nat → Shared → Prop} {items : Array Value} {s : Shared}
end
end Lz
namespace Lz
open PySem PySem.Spec PyProof.Rows L2
section
variable {X : Cx}
end
end Lz
/-! all that a loop is made of, in its one order; the program's loop -/
namespace Wb
open PySem L2 WbMin WbS Lz
def LD.srt (L : LD) (sg : List Nat) : LD := { L with sg := sg }
theorem LD.Ok.srt {L : LD} (O : L.Ok) {sg : List Nat} (p : sg.Perm L.sg) : (L.srt sg).Ok :=
  ⟨⟨fun c hc => O.sgs.low c (p.mem_iff.mp hc), p.nodup_iff.mpr O.sgs.nd, by show 0 < sg.length; rw [p.length_eq]; exact O.sgs.pos, by show sg.length ≤ 4; rw [p.length_eq]; exact O.sgs.few⟩, O.sts, fun i c hi hc => O.nxlt i c hi (p.mem_iff.mp hc), O.tnlt⟩
theorem Tups.append {H : Hp} : ∀ {as bs : List Addr} {xs ys : List (List V)}, Tups H as xs → Tups H bs ys → Tups H (as ++ bs) (xs ++ ys)
  | [], _, [], _, _, h => h
  | _ :: _, _, _ :: _, _, h, g => ⟨h.1, Tups.append h.2 g⟩
  | [], _, _ :: _, _, h, _ => h.elim
  | _ :: _, _, [], _, h, _ => h.elim
section
variable {P : Program} {w : World} {K : PySem.W.Frag} {mg : Str → Option Value} {base : Heap} {f fL : Addr} {fd dL : FuncData} {A : LA} {e : Addr}
end
end Wb
/-! what a loop's answers hang on: the map of a word alone -/
namespace Wb
open PySem L2 WbMin WbS Lz
theorem it_congr {g g' : Nat → Nat} {n : Nat} (h0 : 0 < n) (lt : ∀ i, i < n → g i < n) (h : ∀ i, i < n → g i = g' i) : ∀ m, it g m = it g' m
  | 0 => rfl
  | m + 1 => by
    show g (it g m) = g' (it g' m)
    rw [← it_congr h0 lt h m]
    exact h _ (it_lt h0 lt m)
theorem fold_fst (L : LD) : ∀ (w : List Nat) (p p' : Nat × Int), p.1 = p'.1 → (w.foldl L.stp p).1 = (w.foldl L.stp p').1
  | [], _, _, h => h
  | c :: w, p, p', h => fold_fst L w _ _ (by show L.nx p.1 c = L.nx p'.1 c; rw [h])
theorem wk_app (L : LD) (u v : List Nat) (i : Nat) : (L.wk (u ++ v) i).1 = (L.wk v (L.wk u i).1).1 := by
  unfold LD.wk
  rw [List.foldl_append]
  exact fold_fst L v _ _ rfl
theorem lead_of {L : LD} {u v : List Nat} {i : Nat} (h : (L.wk u i).1 = (L.wk v i).1) : L.lead u i = L.lead v i := congrArg L.tn h
/-- a word that leads from each state where the other one leads -/
def Alike (L : LD) (u v : List Nat) : Prop := ∀ i, i < L.n → (L.wk u i).1 = (L.wk v i).1
theorem Alike.left {L : LD} {u v w : List Nat} (h : Alike L u v) : Alike L (u ++ w) (v ++ w) := fun i hi => by rw [wk_app, wk_app, h i hi]
theorem Alike.right {L : LD} (O : L.Ok) {u v w : List Nat} (hw : ∀ c ∈ w, c ∈ L.sg) (h : Alike L u v) : Alike L (w ++ u) (w ++ v) := fun i hi => by rw [wk_app, wk_app, h _ (wk_lt O hi hw)]
theorem Alike.it {L : LD} (O : L.Ok) {u v : List Nat} (hu : ∀ c ∈ u, c ∈ L.sg) (h : Alike L u v) (m : Nat) : it (L.lead u) m = it (L.lead v) m :=
  it_congr O.sts.pos (fun i hi => gone_lt O hi hu) (fun i hi => lead_of (h i hi)) m
theorem LoopAt.but {C T : Addr} {H H' : Hp} {p r : Addr} {L : LD} (hp : PoolAt H p) (s : But p H H') : LoopAt C T H r L → LoopAt C T H' r L := by
  rintro ⟨dx, t, rr, u, y, tb, as, bs, h0, pr, dx', dN, dX, dA, tX, tA, tY, xs, as', g0, hX, hx, hA, ha, hTX, hTA, hTY⟩
  obtain ⟨a, b, c, e, _⟩ := id hp
  have no : ∀ x, HO.lst [V.int a, .int b, .int c] ≠ HO.tup x := fun x q => by cases q
  exact ⟨dx, t, rr, u, y, tb, as, bs, s _ _ (pool_other hp h0 fun _ _ _ q => by cases q) h0, pr.but no e s, dx', dN, dX, dA, tX, tA, tY, xs, as', s _ _ (pool_other hp g0 fun _ _ _ q => by cases q) g0, s _ _ (pool_other hp hX fun _ _ _ q => by cases q) hX, hx.but no e s,
    s _ _ (pool_other hp hA fun _ _ _ q => by cases q) hA, ha.but no e s, s _ _ (pool_other hp hTX fun _ _ _ q => by cases q) hTX, s _ _ (pool_other hp hTA fun _ _ _ q => by cases q) hTA, s _ _ (pool_other hp hTY fun _ _ _ q => by cases q) hTY⟩
theorem LoopAt.hd {C T : Addr} {H : Hp} {r : Addr} {L : LD} (h : LoopAt C T H r L) : ∃ (dx : Addr) (fs : List (Str × V)), H r = some (.ins C dx fs) ∧ fs.lookup ("answer" : Str) = none ∧ fs.lookup ("state" : Str) = none := by
  obtain ⟨dx, t, rr, u, y, tb, as, bs, h0, pr, TA⟩ := h
  obtain ⟨_, _, _, x4, x5⟩ := lf_none (S L.sg) t rr u y tb
  exact ⟨dx, _, h0, x4, x5⟩
theorem MdAt.hd {H : Hp} {q : Addr} {L : LD} (h : MdAt H q L) : ∃ A Sd Ed O : Addr, H q = some (.lst [.str (S L.sg), .ref A, .ref Sd, .ref Ed, .ref O]) ∧ H A = some (.lst (L.st.map V.str)) ∧ H O = some (.lst (L.yes.map V.str)) := by
  obtain ⟨A, Sd, Ed, O, kvs, ws, h0, hA, hS, hE, e2, e1, hO⟩ := h
  exact ⟨A, Sd, Ed, O, h0, hA, hO⟩
theorem PoolAt.same {H H' : Hp} {p : Addr} (h : PoolAt H p) (s : Same H H') : PoolAt H' p := by
  obtain ⟨a, b, c, e, r⟩ := h
  exact ⟨a, b, c, s _ _ e, r⟩
end Wb
/-! totals of a loop: the mathematics -/
namespace Wb
open PySem L2 WbMin WbS Lz
theorem LD.Small.srt {L : LD} (s : L.Small) {sg : List Nat} (p : sg.Perm L.sg) : (L.srt sg).Small := ⟨fun i c hi hc => s.am i c hi (p.mem_iff.mp hc), s.ta⟩
def LD.cf (L : LD) (w : List Nat) (m : Nat) : Int := L.cnt w (it (L.lead w) m)
end Wb
/-! the total of the first rounds -/
namespace Wb
open PySem L2 WbMin WbS Lz
structure TotA where
  (fTo : Addr)
  (dTo : FuncData)
section
variable {P : Program} {w : World} {K : PySem.W.Frag} {mg : Str → Option Value} {base : Heap} {A : LA} {B : TotA} {e : Addr}
end
end Wb
namespace Wb
open PySem L2 WbMin WbS Lz
abbrev sTurns : Stmt := top 14
abbrev sInit : Stmt := inClass (top 17) 0
/-! ### the mathematics: turnings as lists of codes -/
def rot (l : List Nat) (i : Nat) : List Nat := l.drop i ++ l.take i
def turnsS (l : List Nat) : List Str := (List.range l.length).map fun i => S (rot l i)
def leastOf : List Str → Str
  | [] => S []
  | x :: xs => minS x xs
def textS (l : List Nat) : Str := leastOf (turnsS l)
def perN (l : List Nat) : Nat := (WbSet.differ (turnsS l)).length
theorem rot_len (l : List Nat) (i : Nat) : (rot l i).length = l.length := by
  unfold rot
  rw [List.length_append, List.length_drop, List.length_take]
  omega
theorem turns_len (l : List Nat) : (turnsS l).length = l.length := by
  unfold turnsS
  rw [List.length_map, List.length_range]
theorem least_cons {xs : List Str} (h : 0 < xs.length) : ∃ x r, xs = x :: r ∧ leastOf xs = minS x r := by
  cases xs with
  | nil => cases h
  | cons x r => exact ⟨x, r, rfl, rfl⟩
/-! ### the object -/
def rf (t : Str) (n : Int) : List (Str × V) := putF "_period" (.int n) (putF "_text" (.str t) [])
theorem tp_ : ¬ (("_text" : Str) = "_period") := by decide +kernel
theorem rf_text (t : Str) (n : Int) : (rf t n).lookup ("_text" : Str) = some (.str t) := by
  unfold rf
  rw [lookup_putF, if_neg tp_, lookup_putF, if_pos rfl]
theorem rf_no (t : Str) (n : Int) {m : Str} (h1 : ¬ m = "_period") (h2 : ¬ m = "_text") : (rf t n).lookup m = none := by
  unfold rf
  rw [lookup_putF, if_neg h1, lookup_putF, if_neg h2] <;> rfl
/-- the ring of the word l stands at r -/
def RingAt (C : Addr) (H : Hp) (r : Addr) (l : List Nat) : Prop := IsW l ∧ ∃ dx, H r = some (.ins C dx (rf (textS l) (perN l)))
theorem RingAt.same {C : Addr} {H H' : Hp} {r : Addr} {l : List Nat} (h : RingAt C H r l) (s : Same H H') : RingAt C H' r l := by
  obtain ⟨W, dx, e⟩ := h
  exact ⟨W, dx, s _ _ e⟩
theorem RingAt.but {C p : Addr} {H H' : Hp} {r : Addr} {l : List Nat} (h : RingAt C H r l) (s : But p H H') (n : r ≠ p) : RingAt C H' r l := by
  obtain ⟨W, dx, e⟩ := h
  exact ⟨W, dx, s _ _ n e⟩
def spTurns : Sp := fun vs H Q _ => ∃ l : List Nat, vs = [.str (S l)] ∧ IsW l ∧ ∀ (a : Addr) (H' : Hp), H a = none → Same H H' → H' a = some (.lst ((turnsS l).map V.str)) → Q (.ref a) H'
def spInit (C : Addr) : Sp := fun vs H Q _ => ∃ (H0 : Hp) (r dx : Addr) (l : List Nat), vs = [.ref r, .str (S l)] ∧ IsW l ∧ Same H0 H ∧ H0 r = none ∧ H r = some (.ins C dx []) ∧ ∀ H' : Hp, Same H0 H' → RingAt C H' r l → Q .non H'
/-- what the top has written of the class -/
structure Txt (K : PySem.W.Frag) (mg : Str → Option Value) (C : Addr) : Prop where
  cl : Cls K C
  nT : NoAttr K C "_text"
  nP : NoAttr K C "_period"
  gC : mg "Ring" = some (.ref C)
  hcl : PySem.W.findIn K (.ref C) "__class__" = some (some (.builtin "object.__class__"))
  hgt : PySem.W.specialIn K (.builtin "object.__class__") "__get__" = some (some (.builtin "getset_descriptor.__get__"))
  htk : PySem.W.takesIn K (.builtin "object.__class__") = some true
  hob : PySem.W.mroIn K C (.type "object") = some true
section
variable {P : Program} {w : World} {K : PySem.W.Frag} {mg : Str → Option Value} {base : Heap} {f fD fS fW : Addr} {fd fdD fdS fdW : FuncData}
theorem scT : FnScope ["word", "place"] ["word"] (defScope sTurns) := ⟨rfl, rfl, rfl, by decide +kernel, rfl, by decide +kernel, by decide +kernel⟩
theorem ok_turns (F : Fun K "_all_turnings" "_all_turnings" sTurns f fd) (Z : Free mg) : FnOk P w K mg base CX0 1 f fd ["word"] spTurns := by
  refine F.ok scT (fun vs H Q E h => ?_) (fun cdv A outer s H vs Q E hr h => ?_)
  · obtain ⟨l, rfl, _⟩ := h
    rfl
  · obtain ⟨l, rfl, W, k⟩ := h
    refine ⟨_, pss_one (ps_ret (pe_lc (own := [("place", 1)]) (g := gName 1) (tt := tYes) rfl scT.nd (pi_range1 rfl Z.range (pa_cons (pe_callB call_len_str (by rfl) Z.len PySem.boot_len (pa_cons (pv 0) pa_nil)) pa_nil))
      (blkOk_by (N := ["word", "place"]) (sc := defScope sTurns) (by decide +kernel)) (fun _ _ _ _ _ => pg_name (i := 1) scT.nd rfl (.inl rfl)) (fun _ _ _ _ _ => pts_nil)
      (fun _ _ _ _ _ => pe_op op_add_str (pe_slice sl_str (pv 0) (po_some (pv 1)) po_none) (pe_slice sl_str (pv 0) po_none (po_some (pv 1)))))), ?_⟩
    have few := W.few
    refine ⟨_, rfl, _, rfl, W.fits, _, rfl, (by rw [S_len]; omega), (by rw [S_len]; omega), fun D hD => lc_it walk_range (fun i H3 => H3 D = some (.lst ((((List.range i).map fun j => S (rot l j))).map V.str)) ∧ Same H H3) ⟨upd_same, Same.put (Same.refl H) hD⟩ (fun _ _ _ _ => trivial) ?_ ?_⟩
    · rintro i x H3 H3' hi ⟨h1, h2⟩ ⟨rfl, rfl⟩
      rw [S_len] at hi
      have hi' : i ≤ l.length := by omega
      have c1 : cutS (S l) (some (0 + (i : Int))) none = S (l.drop i) := by rw [Int.zero_add]; exact cut_from
      have c2 : cutS (S l) none (some (0 + (i : Int))) = S (l.take i) := by rw [Int.zero_add]; exact cut_to
      have s1 := rot_len l i
      unfold rot at s1
      rw [List.length_append] at s1
      refine ⟨rfl, _, rfl, _, rfl, _, rfl, _, rfl, W.fits, _, rfl, _, rfl, _, rfl, _, rfl, W.fits, _, _, rfl, rfl, ?_, _, h1, ?_, ?_, Same.new' h2 hD⟩
      · rw [c1, c2, S_len, S_len, sizeLine_eq]
        omega
      · rw [List.length_map, List.length_map, List.length_range, sizeLine_eq]
        omega
      · rw [upd_same, c1, c2, S_add, List.range_succ, List.map_append, List.map_append] <;> rfl
    · rintro H3 ⟨h1, h2⟩
      refine k D H3 hD h2 ?_
      rw [h1, S_len] <;> rfl
/-- of InvalidWord nothing is asked: the branch is not taken -/
theorem scI : FnScope ["self", "text", "turnings"] ["self", "text"] (defScope sInit) := ⟨rfl, rfl, rfl, by decide +kernel, rfl, by decide +kernel, by decide +kernel⟩
theorem ok_init {C : Addr} (F : Fun K "__init__" "Ring.__init__" sInit f fd) (T : Txt K mg C) (Z : Free mg) (t6 : Tok) (g6 : mg "MOST_WORD" = some (.int 600 t6)) (DW : Def K mg "is_word" sIsWord ["value"] fW fdW) (DT : Def K mg "_all_turnings" sTurns ["word"] fS fdS) :
    FnOk P w K mg base CX0 2 f fd ["self", "text"] (spInit C) := by
  have GW : FnOk P w K mg base CX0 1 fW fdW ["value"] spIsWord := ok_isword DW.F Z t6 g6
  have GT : FnOk P w K mg base CX0 1 fS fdS ["word"] spTurns := ok_turns DT.F Z
  refine F.ok scI (fun vs H Q E h => ?_) (fun cdv A outer s H vs Q E hr h => ?_)
  · obtain ⟨H0, r, dx, l, rfl, _⟩ := h
    rfl
  · obtain ⟨H0, r, dx, l, rfl, W, s0, r0, hp, k⟩ := h
    refine ⟨_, pss_cons (ps_if (pt_not (pt_val (pe_call GW hr rfl DW.g DW.kp DW.b .nil pass0 (pa_cons (pv 1) pa_nil)))) (pss_one ps_never) pss_nil)
      (pss_cons (ps_set (i := 2) scI.nd rfl (.inl rfl) (pe_call GT hr rfl DT.g DT.kp DT.b .nil pass0 (pa_cons (pv 1) pa_nil)))
      (pss_cons (ps_fld (pv 0) (pe_callB (cr_minS hr rfl) (by rfl) Z.min (by decide +kernel) (pa_cons (pv 2) pa_nil)) rfl)
      (pss_one (ps_fld (pv 0) (WbSet.pe_lenSet rfl (by rfl) Z.len (by rfl) Z.set (pv 2)) rfl)))), ?_⟩
    refine ⟨_, rfl, l, rfl, W, fun H1 s1 => ⟨true, rfl, _, rfl, l, rfl, W, fun a H2 a0 s2 h2 => ?_⟩⟩
    obtain ⟨x, xs, e1, e2⟩ := least_cons (xs := turnsS l) (by rw [turns_len]; exact W.pos)
    have hr2 : H2 r = some (.ins C dx []) := s2 _ _ (s1 _ _ hp)
    have nra : a ≠ r := ne_of h2 hr2 (by intro z; cases z)
    refine ⟨_, rfl, a, x, xs, rfl, SqL.of (by rw [h2, e1]), _, rfl, r, C, dx, _, rfl, hr2, T.cl, T.nT, (by show 0 < 1000; decide), ?_⟩
    refine ⟨_, rfl, a, turnsS l, rfl, SqL.of (by rw [upd_ne nra]; exact h2), (by rw [turns_len]; have := W.few; omega), _, rfl, r, C, dx, _, rfl, upd_same, T.cl, T.nP, (by show 1 < 1000; decide), ?_⟩
    refine k _ ?_ ⟨W, dx, ?_⟩
    · exact Same.new' (Same.new' ((s0.trans s1).trans s2) r0) r0
    · rw [upd_same]
      unfold rf textS perN
      rw [e2]
end
end Wb
/-! the mathematics of turnings: the least one, the number of different ones -/
namespace Wb
open PySem L2 WbMin WbS Lz
/-! ### lists without doubles -/
/-! ### the least text -/
theorem min_mem : ∀ (xs : List Str) (x : Str), minS x xs ∈ x :: xs
  | [], x => List.mem_cons_self
  | y :: r, x => by
    show minS (if y.cps.toList < x.cps.toList then y else x) r ∈ x :: y :: r
    split
    · exact List.mem_cons_of_mem _ (min_mem r y)
    · rcases List.mem_cons.mp (min_mem r x) with q | q
      · rw [q] <;> exact List.mem_cons_self
      · exact List.mem_cons_of_mem _ (List.mem_cons_of_mem _ q)
theorem least_mem {xs : List Str} (h : 0 < xs.length) : leastOf xs ∈ xs := by
  obtain ⟨x, r, e, q⟩ := least_cons h
  rw [q, e]
  exact min_mem r x
/-! ### turnings -/
theorem rot_get {l : List Nat} {i j : Nat} (hi : i ≤ l.length) (hj : j < l.length) : (rot l i)[j]? = l[(i + j) % l.length]? := by
  unfold rot
  by_cases h : j < l.length - i
  · rw [List.getElem?_append_left (by rw [List.length_drop]; exact h), List.getElem?_drop, Nat.mod_eq_of_lt (by omega)]
  · have e : (i + j) % l.length = i + j - l.length := by
      rw [Nat.mod_eq_sub_mod (by omega), Nat.mod_eq_of_lt (by omega)]
    rw [List.getElem?_append_right (by rw [List.length_drop]; omega), List.length_drop, e, List.getElem?_take, if_pos (by omega)]
    congr 1
    omega
theorem rot_rot {l : List Nat} {i j : Nat} (hi : i ≤ l.length) (hj : j ≤ l.length) (h0 : 0 < l.length) : rot (rot l i) j = rot l ((i + j) % l.length) := by
  refine List.ext_getElem? fun k => ?_
  by_cases hk : k < l.length
  · rw [rot_get (by rw [rot_len]; exact hj) (by rw [rot_len]; exact hk), rot_len, rot_get hi (Nat.mod_lt _ h0), rot_get (Nat.le_of_lt (Nat.mod_lt _ h0)) hk]
    congr 1
    rw [Nat.add_mod_mod, Nat.mod_add_mod, Nat.add_assoc]
  · rw [List.getElem?_eq_none (by rw [rot_len, rot_len]; omega), List.getElem?_eq_none (by rw [rot_len]; omega)]
theorem turns_mem {l : List Nat} {z : Str} : z ∈ turnsS l ↔ ∃ i, i < l.length ∧ z = S (rot l i) := by
  unfold turnsS
  rw [List.mem_map]
  constructor
  · rintro ⟨i, h, e⟩
    exact ⟨i, List.mem_range.mp h, e.symm⟩
  · rintro ⟨i, h, e⟩
    exact ⟨i, List.mem_range.mpr h, e.symm⟩
/-- the text of a ring is one of its turnings -/
theorem text_is {l : List Nat} (h0 : 0 < l.length) : ∃ i, i < l.length ∧ textS l = S (rot l i) := turns_mem.mp (least_mem (by rw [turns_len]; exact h0))
theorem text_len {l : List Nat} (h0 : 0 < l.length) : (textS l).length = l.length := by
  obtain ⟨i, _, e⟩ := text_is h0
  rw [e, S_len, rot_len]
theorem IsW.rot {l : List Nat} (W : IsW l) (i : Nat) : IsW (Wb.rot l i) := by
  refine ⟨fun c hc => W.low c ?_, by rw [rot_len]; exact W.pos, by rw [rot_len]; exact W.few⟩
  unfold Wb.rot at hc
  rcases List.mem_append.mp hc with q | q
  · exact List.mem_of_mem_drop q
  · exact List.mem_of_mem_take q
/-! ### the number of different turnings -/
theorem back {l : List Nat} {p : Nat} (h0 : 0 < l.length) (hp : 0 < p) (hpn : p ≤ l.length) (e : rot l p = l) : ∀ i, i < l.length → rot l i = rot l (i % p) := fun i => by
  induction i using Nat.strongRecOn with
  | ind i ih =>
    intro hi
    by_cases q : i < p
    · rw [Nat.mod_eq_of_lt q]
    · have h1 := rot_rot (l := l) (i := p) (j := i - p) hpn (by omega) h0
      rw [e, show p + (i - p) = i by omega, Nat.mod_eq_of_lt hi] at h1
      rw [← h1, ih (i - p) (by omega) (by omega), ← Nat.mod_eq_sub_mod (by omega)]
end Wb
/-! what an own class's special methods are worth: len(o), bool(o), str(o), o == p, o != p, o an instance of a class of the program's own -/
namespace WbO
open PySem PySem.W PySem.Spec PyProof.Rows
section
variable {prog : Program} {w : World} {A : Around} {E : Value → Shared → Prop} {s : Shared} {K : Frag} {x C f : Addr} {ox : Obj} {od : Option Obj}
end
end WbO
namespace WbO
open PySem PySem.Spec PyProof.Rows L2
section
variable {X : Cx} {CX : CXT} {k : Nat} {C g : Addr} {fd : FuncData} {ps : List Str} {sp : Sp} {E : XK}
/-- a def called at values, anywhere deeper -/
theorem run_at {pins : List (Addr × Obj)} {σ : L2.St} {H : Hp} {s : Shared} {Q : VK} {vs : List V} {us : List Value} {A' : Around} {E' : Value → Shared → Prop} (F : FnOk X.prog X.w X.K X.mg X.base CX k g fd ps sp) (hr : Room k A') (e0 : Env0 X.prog X.w X.K X.mg X.base A' X.stack s H)
    (hb : Binds X.K fd ps []) (hx : Passes CX X.nox E) (I : Inv X pins σ H s) (r : Vals vs us) (h : sp vs H Q E) : wpAny (model X.prog X.w) A' (call (.ref g) us) (EP X pins σ Q) E' s := by
  have hl : (us ++ ([] : List Value)).length = ps.length := by rw [List.append_nil, ← r.length]; exact F.len _ _ _ _ h
  have hB := hb s us I.kIn hl
  rw [List.append_nil] at hB
  refine wpAny_call (codeAny_mono (F.run A' X.stack s H ⟨us, []⟩ us vs Q E hr e0 hB r h) fun r s' hq => ?_)
  cases r with
  | error er => exact (hx pins σ H s er s' (I.wish _) hq).elim
  | ok fl =>
    cases fl with
    | ret u => exact I.after hq
    | next => exact hq.elim
    | brk => exact hq.elim
    | cont => exact hq.elim
/-- len(o) -/
def rLenO (C : Addr) (sp : Sp) (E : XK) : List V → Hp → VK → Prop := fun xs H Q => ∃ (a dx : Addr) (fs : List (Str × V)), xs = [.ref a] ∧ H a = some (.ins C dx fs) ∧ sp [.ref a] H (fun v H' => ∃ n : Int, v = .int n ∧ 0 ≤ n ∧ n < 2 ^ 63 ∧ Q v H') E
theorem call_lenO (M : Meth X.K C "__len__" g) (F : FnOk X.prog X.w X.K X.mg X.base CX k g fd ps sp) (hr : Room (k + 1) X.A) (hb : Binds X.K fd ps []) (hx : Passes CX X.nox E) : CallR X (.builtin "len") (rLenO C sp E) := by
  intro pins s σ H xs us Q I r h
  obtain ⟨a, dx, fs, rfl, ha, q⟩ := h
  rw [Vals.ref1 r]
  obtain ⟨mA, O, _⟩ := ins_get I.hok ha
  obtain ⟨od, J, _⟩ := O.look
  obtain ⟨m, hF⟩ := I.fr
  refine PySem.W.len_K hF I.ok.mod.kin J M.at_ M.fn (wpAny_mono (run_at (vs := [.ref a]) (us := [.ref a]) F hr.in1 I.env0.in1 hb hx I (.cons rfl .nil) q) (fun v s' z => ?_) fun _ _ e => e)
  obtain ⟨y, H', I', ry, n, rfl, n0, n1, qq⟩ := z
  obtain ⟨t, rfl⟩ := ry
  exact ⟨⟨n0, n1⟩, .int n, H', I'.tok _, ⟨_, rfl⟩, qq⟩
end
end WbO
/-! reading round a ring: turned, [i], [i, n] -/
namespace WbT
open PySem PySem.Spec PyProof.Rows L2
section
variable {X : Cx} {CX : CXT} {k : Nat} {C g : Addr} {fd : FuncData} {ps ks : List Str} {sp : Sp} {E : XK} {o : Expr} {m : Str} {apos pos : Pos} {kws : List Keyword} {ta : TE} {tk : TA} {kg : List Value → List Value → List Value} {gV : List V → List V → List V}
/-- o[e] by an own __getitem__ -/
def rIxO (C : Addr) (sp : Sp) (E : XK) : R2 := fun x y H Q => ∃ (a dx : Addr) (fs : List (Str × V)), x = .ref a ∧ H a = some (.ins C dx fs) ∧ sp [.ref a, y] H Q E
end
end WbT
namespace Wb
open PySem L2 WbMin WbS Lz WbO WbT
theorem text_fits {l : List Nat} (W : IsW l) : (textS l).length ≤ sizeLine := by
  rw [text_len W.pos, sizeLine_eq]
  have := W.few
  omega
abbrev sIsPlace : Stmt := top 15
abbrev sReadR : Stmt := top 16
abbrev sTurned : Stmt := inClass (top 17) 3
abbrev sGet : Stmt := inClass (top 17) 8
/-! ### reading so many signs round a word -/
def readN (l : List Nat) (st n : Nat) : List Nat := (List.range n).map fun k => l.getD ((st + k) % l.length) 0
/-- from any place -/
def readW (l : List Nat) (i : Int) (n : Nat) : List Nat := readN l (i % (l.length : Int)).toNat n
theorem readN_len (l : List Nat) (st n : Nat) : (readN l st n).length = n := by
  unfold readN
  rw [List.length_map, List.length_range]
theorem readN_get {l : List Nat} {st n k : Nat} (h0 : 0 < l.length) (hk : k < n) : (readN l st n)[k]? = l[(st + k) % l.length]? := by
  unfold readN
  rw [List.getElem?_map, List.getElem?_range hk, getD_at (Nat.mod_lt _ h0)] <;> rfl
theorem rep_get {l : List Nat} (h0 : 0 < l.length) : ∀ (t i : Nat), i < t * l.length → (List.replicate t l).flatten[i]? = l[i % l.length]?
  | 0, i, h => by omega
  | t + 1, i, h => by
    rw [List.replicate_succ, List.flatten_cons]
    by_cases q : i < l.length
    · rw [List.getElem?_append_left q, Nat.mod_eq_of_lt q]
    · rw [Nat.succ_mul] at h
      rw [List.getElem?_append_right (by omega), rep_get h0 t (i - l.length) (by omega), ← Nat.mod_eq_sub_mod (by omega)]
theorem rep_len (l : List Nat) (t : Nat) : (List.replicate t l).flatten.length = t * l.length := by rw [List.length_flatten, List.map_replicate, List.sum_replicate_nat]
theorem rep_read {l : List Nat} {t st n : Nat} (h0 : 0 < l.length) (h : st + n ≤ t * l.length) : ((List.replicate t l).flatten.drop st).take n = readN l st n := by
  refine List.ext_getElem? fun k => ?_
  by_cases hk : k < n
  · rw [List.getElem?_take, if_pos hk, List.getElem?_drop, rep_get h0 t _ (by omega), readN_get h0 hk]
  · rw [List.getElem?_take, if_neg hk, List.getElem?_eq_none (by rw [readN_len]; omega)]
theorem place_of {n : Nat} (h0 : 0 < n) (i : Int) : ∃ st : Nat, st < n ∧ i % (n : Int) = (st : Int) ∧ (i % (n : Int)).toNat = st := by
  have h1 := Int.emod_nonneg i (show (n : Int) ≠ 0 by omega)
  have h2 := Int.emod_lt_of_pos i (show (0 : Int) < n by omega)
  exact ⟨(i % (n : Int)).toNat, by omega, (Int.toNat_of_nonneg h1).symm, rfl⟩
theorem cut_mid {l : List Nat} {i j : Nat} (h : i ≤ j) (hj : j ≤ l.length) : cutS (S l) (some (i : Int)) (some (j : Int)) = S ((l.drop i).take (j - i)) := by
  show S _ = S _
  rw [HT.sIx_nat, HT.sIx_nat, S_len, S_cps, Nat.min_eq_left hj, Nat.min_eq_left (Nat.le_trans h hj)]
/-- the text of the ring as codes -/
def tx (l : List Nat) : List Nat := (textS l).cps.toList
theorem S_tx (l : List Nat) : S (tx l) = textS l := S_of _
theorem tx_len {l : List Nat} (h0 : 0 < l.length) : (tx l).length = l.length := by
  have q := text_len h0
  rw [← S_tx, S_len] at q
  exact q
theorem tx_is {l : List Nat} (h0 : 0 < l.length) : ∃ i, i < l.length ∧ tx l = rot l i := by
  obtain ⟨i, h, e⟩ := text_is h0
  exact ⟨i, h, by unfold tx; rw [e, S_cps]⟩
theorem tx_w {l : List Nat} (W : IsW l) : IsW (tx l) := by
  obtain ⟨i, _, e⟩ := tx_is W.pos
  rw [e]
  exact W.rot i
/-! ### the promises -/
def spReadR : Sp := fun vs H Q _ => ∃ (l : List Nat) (i n : Int), vs = [.str (S l), .int i, .int n] ∧ IsW l ∧ 1 ≤ n ∧ n ≤ 600 ∧ Q (.str (S (readW l i n.toNat))) H
section
variable {P : Program} {w : World} {K : PySem.W.Frag} {mg : Str → Option Value} {base : Heap} {f fI fP fR C : Addr} {fd dI dP dR : FuncData}
theorem scIP : FnScope ["value", "place", "number"] ["value"] (defScope sIsPlace) := ⟨rfl, rfl, rfl, by decide +kernel, rfl, by decide +kernel, by decide +kernel⟩
theorem scRd : FnScope ["text", "place", "number", "start", "times"] ["text", "place", "number"] (defScope sReadR) := ⟨rfl, rfl, rfl, by decide +kernel, rfl, by decide +kernel, by decide +kernel⟩
theorem ok_readr (F : Fun K "_read_round" "_read_round" sReadR f fd) (Z : Free mg) : FnOk P w K mg base CX0 1 f fd ["text", "place", "number"] spReadR := by
  refine F.ok scRd (fun vs H Q E h => ?_) (fun cdv A outer s H vs Q E hr h => ?_)
  · obtain ⟨l, i, n, rfl, _⟩ := h
    rfl
  · obtain ⟨l, i, n, rfl, W, n1, n2, k⟩ := h
    refine ⟨_, pss_cons (ps_set (i := 3) scRd.nd rfl (.inl rfl) (pe_op op_modN (pv 1) (pe_callB call_len_str (by rfl) Z.len PySem.boot_len (pa_cons (pv 0) pa_nil))))
      (pss_cons (ps_set (i := 4) scRd.nd rfl (.inl rfl) (pe_op op_add (pe_op op_fdivN (pe_op op_add (pv 3) (pv 2)) (pe_callB call_len_str (by rfl) Z.len PySem.boot_len (pa_cons (pv 0) pa_nil))) pe_int))
      (pss_one (ps_ret (pe_slice sl_str (pe_op op_mulS (pv 0) (pv 4)) (po_some (pv 3)) (po_some (pe_op op_add (pv 3) (pv 2))))))), ?_⟩
    have l0 := W.pos
    have l1 := W.few
    obtain ⟨m, rfl⟩ : ∃ m : Nat, n = (m : Int) := ⟨n.toNat, by omega⟩
    obtain ⟨st, s1, s2, s3⟩ := place_of l0 i
    have e1 : Int.fmod i ((S l).length : Int) = (st : Int) := by rw [S_len, Int.fmod_eq_emod_of_nonneg _ (Int.natCast_nonneg _)]; exact s2
    have e2 : Int.fdiv ((st : Int) + (m : Int)) ((S l).length : Int) + 1 = (((st + m) / l.length + 1 : Nat) : Int) := by
      rw [S_len, Int.fdiv_eq_ediv_of_nonneg _ (Int.natCast_nonneg _)] <;> rfl
    refine ⟨_, rfl, _, rfl, _, rfl, W.fits, _, _, rfl, rfl, (by rw [S_len]; omega), ?_⟩
    dsimp only
    rw [e1]
    refine ⟨_, rfl, _, rfl, _, _, rfl, rfl, _, rfl, _, rfl, W.fits, _, _, rfl, rfl, ⟨by rw [S_len]; omega, by rw [S_len]; omega⟩, _, _, rfl, rfl, ?_⟩
    dsimp only
    rw [e2]
    have d1 := Nat.div_mul_le_self (st + m) l.length
    have d2 : st + m ≤ ((st + m) / l.length + 1) * l.length := by
      have := Nat.lt_div_mul_add (a := st + m) l0
      rw [Nat.add_mul, Nat.one_mul]
      omega
    have d3 : ((st + m) / l.length + 1) * l.length ≤ 1800 := by
      rw [Nat.add_mul, Nat.one_mul]
      omega
    have d4 : (st + m) / l.length ≤ st + m := Nat.div_le_self _ _
    have e3 : Txt.mul (S l) (((st + m) / l.length + 1 : Nat) : Int) = S ((List.replicate ((st + m) / l.length + 1) l).flatten) := S_eq (by rw [mul_cps (Int.natCast_nonneg _), S_cps, Int.toNat_natCast])
    refine ⟨_, rfl, _, rfl, _, _, rfl, rfl, ?_, ?_⟩
    · refine mulOk (Int.natCast_nonneg _) ?_ (by omega)
      rw [S_len, Int.toNat_natCast, Nat.mul_comm]
      omega
    dsimp only
    rw [e3]
    refine ⟨_, rfl, _, rfl, _, rfl, _, rfl, _, _, rfl, rfl, _, rfl, _, rfl, ?_, ?_⟩
    · rw [S_len, rep_len, sizeLine_eq]
      omega
    · have e4 : cutS (S ((List.replicate ((st + m) / l.length + 1) l).flatten)) (some (st : Int)) (some ((st : Int) + (m : Int))) = S (readW l i m) := by
        have q := cut_mid (l := (List.replicate ((st + m) / l.length + 1) l).flatten) (i := st) (j := st + m) (by omega) (by rw [rep_len]; exact d2)
        rw [Int.natCast_add] at q
        rw [q, show st + m - st = m by omega, rep_read l0 d2]
        unfold readW
        rw [s3]
      rw [e4]
      exact k
theorem scTu : FnScope ["self", "i"] ["self", "i"] (defScope sTurned) := ⟨rfl, rfl, rfl, by decide +kernel, rfl, by decide +kernel, by decide +kernel⟩
theorem scGi : FnScope ["self", "at", "place", "number"] ["self", "at"] (defScope sGet) := ⟨rfl, rfl, rfl, by decide +kernel, rfl, by decide +kernel, by decide +kernel⟩
end
end Wb
/-! the mathematics of words so many times, joined, read from behind -/
namespace Wb
open PySem L2 WbMin
def rep (j : Nat) (l : List Nat) : List Nat := (List.replicate j l).flatten
theorem repQ_len (j : Nat) (l : List Nat) : (rep j l).length = j * l.length := by
  unfold rep
  rw [List.length_flatten, List.map_replicate, List.sum_replicate_nat]
theorem IsW.rep {l : List Nat} (W : IsW l) {j : Nat} (hj : 1 ≤ j) (h : j * l.length ≤ 600) : IsW (Wb.rep j l) := by
  refine ⟨fun c hc => ?_, by rw [repQ_len]; exact Nat.mul_pos hj W.pos, by rw [repQ_len]; exact h⟩
  obtain ⟨m, hm, q⟩ := List.mem_flatten.mp hc
  rw [List.eq_of_mem_replicate hm] at q
  exact W.low c q
theorem IsW.join {l m : List Nat} (W : IsW l) (V : IsW m) (h : l.length + m.length ≤ 600) : IsW (l ++ m) := by
  refine ⟨fun c hc => ?_, by rw [List.length_append]; have := W.pos; omega, by rw [List.length_append]; exact h⟩
  rcases List.mem_append.mp hc with q | q
  · exact W.low c q
  · exact V.low c q
theorem IsW.rev {l : List Nat} (W : IsW l) : IsW l.reverse := ⟨fun c hc => W.low c (List.mem_reverse.mp hc), by rw [List.length_reverse]; exact W.pos, by rw [List.length_reverse]; exact W.few⟩
end Wb
set_option maxHeartbeats 1000000
/-! try: .. except X as n: .. except Y as n: .. and so on, the clauses behind the one that takes it unlooked at -/
namespace Le
open PySem PySem.Spec PyProof.Rows L2
/-- a suite's ways out, where the clause's name i goes -/
def offD (D : Ends) (i : Nat) : Ends where
  nx := fun τ G => D.nx (τ.set i none) G
  rt := D.rt
  bk := fun τ G => D.bk (τ.set i none) G
  ct := fun τ G => D.ct (τ.set i none) G
abbrev Suite := Addr → Value → Option Addr → TS
/-- the wish of the clauses, one by one -/
def wCls (K : PySem.W.Frag) (D : Ends) : List (Value × Nat × Suite) → WX
  | [] => fun _ _ _ _ => False
  | (c, i, t) :: more => fun cl dd τ G => ∃ yes, PySem.W.exmOne K cl c = some yes ∧ (yes = true → ∀ r, G r = none → t r cl dd (offD D i) (τ.set i (some (.ref r))) G) ∧ (yes = false → wCls K D more cl dd τ G)
inductive Clauses (X : Cx) : List ExceptHandler → List (Value × Nat × Suite) → Prop
  | rest (hds : List ExceptHandler) : Clauses X hds []
  | as_ {x n : Str} {c : Value} {i : Nat} {t : Suite} {b : Stmt} {bs : List Stmt} {p p' : Pos} {hds : List ExceptHandler} {more : List (Value × Nat × Suite)} (at_ : X.N[i]? = some n) (lo : X.env.kindOf n = some .local) (nm : Names X x c)
      (suite : ∀ (r : Addr) (o : Obj) (cl : Value) (dd : Option Addr) (pn : List (Addr × Obj)), L2N.Zn cl dd o → (∃ fs, o.data = .fields fs) → PSs (X.suite r ((r, o) :: pn)) (b :: bs) (t r cl dd)) (tl : Clauses X hds more) :
      Clauses X (.ExceptHandler (some (.Name x p)) (some n) (b :: bs) p' :: hds) ((c, i, t) :: more)
section
variable {X : Cx} {pins : List (Addr × Obj)} {τ : L2.St} {G : Hp} {D : Ends}
/-- the exception r is on the ground, the state without it is known: the clauses take it -/
theorem taken {r : Addr} {B : Heap} {cl : Value} {dd : Option Addr} {sI s : Shared} (hN : X.N.Nodup) (J : Inv X pins τ G sI) (far : ∀ b o, sI.heap.get? b = some o → b ∉ frs X.stack → B.get? b = some o) (hs : X.stack = X.env :: X.outer) (hf : X.env.frame = some X.env.locals)
    (up : sI.heap.UpToSlots s.heap) (sos : s.os = sI.os) (sb : AllBare s.gens) (nr : G r = none) (fly : HandSPX.FlyingZ B (X.env :: X.outer) r (L2N.Zn cl dd) s.heap) :
    ∀ {hds : List ExceptHandler} {l : List (Value × Nat × Suite)}, Clauses X hds l → wCls X.K D l cl dd τ G → wpAny (model X.prog X.w) X.A (handleBy (.ref r) X.env hds) (SP X pins D) X.xe s := by
  have okX := J.ok
  have grounded : ∀ {h : Heap}, HandSPX.FlyingZ B (X.env :: X.outer) r (L2N.Zn cl dd) h → sI.heap.UpToSlots h → Inv X pins τ G { s with heap := h } := fun {h} fl u =>
    J.landed (s' := { s with heap := h }) far fl.1 u sos sb
  obtain ⟨o1, fs1, g1, z1, d1⟩ := fly.there
  have out : r ∉ frs (X.env :: X.outer) := fun m => by
    obtain ⟨_, o2, g2, nof⟩ := fly.2.2.1.mem m
    rw [g1] at g2
    cases g2
    exact nof _ d1
  have offL : r ≠ X.env.locals := fun q => out (List.mem_filterMap.mpr ⟨X.env, List.mem_cons_self, by rw [hf, q]⟩)
  have offF : r ∉ X.fs := fun m => by
    obtain ⟨en, hen, q⟩ := List.mem_filterMap.mp m
    exact out (List.mem_filterMap.mpr ⟨en, List.mem_cons_of_mem _ hen, q⟩)
  have J1 : Inv X pins τ G s := grounded (h := s.heap) fly up
  intro hds l hk
  induction hk with
  | rest _ => exact fun no => no.elim
  | @as_ x n c i t b bs p p' hds more at_ lo nm suite tl ih =>
    rintro ⟨yes, hy, onYes, onNo⟩
    have inS := J1.suite g1 d1 nr offL offF
    have ty : PySem.W.Looks (model X.prog X.w) s.heap (typeOf (.ref r)) cl := fun A' Q' E' s' st q => wpAny_typeOf_ref (st _ _ g1) (by rw [z1.1]; exact q)
    have asked := PySem.W.exm_one (M := model X.prog X.w) J1.kIn ty hy
    have named : ∀ {Q' : Value → Shared → Prop} {E' : Value → Shared → Prop}, Q' c s → wpAny (model X.prog X.w) (X.A.mark (some (.ref r))) (eval (.Name x p) X.env) Q' E' s := fun {Q' E'} q => by
      obtain ⟨gl, nd, way⟩ := nm
      rcases way with m | ⟨m, bt, nn⟩
      · exact ld_glob (X := X.suite r ((r, o1) :: (X.pn ++ pins))) inS gl m q nd
      · exact ld_blt (X := X.suite r ((r, o1) :: (X.pn ++ pins))) inS gl m bt q nn nd
    refine wpAny_handleBy_cons (codeAny_handlers_test (named (asked.here ?_))) (by intro q; cases q)
    cases yes with
    | false => exact ih (onNo rfl)
    | true =>
      refine codeAny_handlers_suite_as (HandSPX.lands_againZ fly fun h' fly' u' => ?_)
      obtain ⟨o2, fs2, g2, z2, d2⟩ := fly'.there
      have J2 := grounded fly' (up.trans u')
      refine store_ok (X := X.suite r ((r, o2) :: (X.pn ++ pins))) (v := .ref r) (J2.suite g2 d2 nr offL offF) hN at_ (.inl lo) rfl (fun s3 I3 => ?_) (.inr lo)
      have leave : ∀ {τ' : L2.St} {G' : Hp} {s4 : Shared} {Q' : Shared → Prop}, Inv (X.suite r ((r, o2) :: (X.pn ++ pins))) [] τ' G' s4 → (∀ s5, Inv X pins (τ'.set i none) G' s5 → Q' s5) →
          wpAny (model X.prog X.w) X.A (do bindName X.env n .none; unbindBehindTheSuite X.env n p') (fun _ s5 => Q' s5) X.xe s4 := fun {τ' G' s4 Q'} I4 q => gone_ok (I4.unsuite okX) hN at_ lo q
      refine wpAny_mono ((suite r o2 cl dd (X.pn ++ pins) z2 ⟨_, d2⟩).run [] s3 _ G _ I3 (onYes rfl r nr)) (fun w s4 done => ?_) (fun _ _ no => no.elim)
      cases w with
      | next =>
        obtain ⟨_, _, I4, q⟩ := done
        exact leave I4 fun s5 I5 => ⟨_, _, I5, q⟩
      | brk =>
        obtain ⟨_, _, I4, q⟩ := done
        exact leave I4 fun s5 I5 => ⟨_, _, I5, q⟩
      | cont =>
        obtain ⟨_, _, I4, q⟩ := done
        exact leave I4 fun s5 I5 => ⟨_, _, I5, q⟩
      | ret u =>
        obtain ⟨_, _, _, I4, rel, q⟩ := done
        exact leave I4 fun s5 I5 => ⟨_, _, _, I5, rel, q⟩
/-- try: body, then the clauses -/
theorem ps_tryCls {body : List Stmt} {h0 : ExceptHandler} {hds : List ExceptHandler} {l : List (Value × Nat × Suite)} {pos : Pos} {tb : WX → TS} (hs : X.stack = X.env :: X.outer) (hf : X.env.frame = some X.env.locals) (hN : X.N.Nodup)
    (hb : ∀ (W : WX) (pn : List (Addr × Obj)) (xe : Value → Shared → Prop), L2N.Takes (X.tr pn xe) W → PassesOwn (model X.prog X.w) X.A X.env xe → PSs (X.tr pn xe) body (tb W)) (hc : Clauses X (h0 :: hds) l) :
    PS X (.Try body (h0 :: hds) [] [] pos) (fun D σ H => tb (wCls X.K D l) D σ H) := by
  refine ⟨fun pins s σ H D I start => wpAny_Try_except ?_⟩
  have okX := I.ok
  have frames : X.A.frames = some (X.env :: X.outer) := by rw [okX.frames, hs]
  refine wpAny_mono ((hb (wCls X.K D l) (X.pn ++ pins) _ (fun u s' air => ?capt) PassesOwn.looking).run [] s σ H D (I.toTry _) start) (fun w s' done => ?_) (fun _ _ q => q)
  case capt =>
    obtain ⟨r, B, sI, _, τ, G, cl, dd, rfl, J, far, up, sky, nr, sos, sb, w⟩ := air
    have sky : Sky B (X.env :: X.outer) r (L2N.Zn cl dd) X.env.locals s'.heap := by rw [← hs]; exact sky
    exact L2N.Sky.land L2N.Zn.steady frames hf sky fun h1 fly u1 => taken (s := { s' with heap := h1 }) hN (J.ofTry okX) far hs hf (up.trans u1) sos sb nr fly hc w
  cases w with
  | next =>
    obtain ⟨_, _, I', q⟩ := done
    exact wpAny_execs_nil ⟨_, _, I'.ofTry okX, q⟩
  | brk =>
    obtain ⟨_, _, I', q⟩ := done
    exact ⟨_, _, I'.ofTry okX, q⟩
  | cont =>
    obtain ⟨_, _, I', q⟩ := done
    exact ⟨_, _, I'.ofTry okX, q⟩
  | ret u =>
    obtain ⟨_, _, _, I', rel, q⟩ := done
    exact ⟨_, _, _, I'.ofTry okX, rel, q⟩
end
end Le
set_option maxHeartbeats 1000000
/-! a, b = x, y where an exception is being handled -/
namespace Le
open PySem PySem.Spec PyProof.Rows L2 HotX
section
variable {prog : Program} {w : World} {A : Around} {E : Value → Shared → Prop} {s : Shared}
/-- a tuple's walk is over, an exception r being handled -/
theorem over_hot {it t r : Addr} {i : Nat} {items : Array Value} {Q : Option Value → Shared → Prop} (hot : HotAt A r s.heap) (nit : r ≠ it) (a : IsTupIter s.heap it t i) (b : IsTup s.heap t items) (e : items[i]? = none)
    (q : ∀ h', Heap.ExtBut it s.heap h' → Q none { s with heap := h' }) : wpAny (model prog w) A (pyNext (.ref it)) Q E s := by
  obtain ⟨ob, g, _, dd⟩ := id a
  obtain ⟨_, gt, _, _, dt⟩ := b
  obtain ⟨hh, o1, vs1, g1, d1, c1⟩ := hot
  unfold pyNext
  refine wpAny_bind (wpAny_attempt (wpAny_callSpecial?_slot (name := Str.ofString "__next__") a.typeIs slot_tupleiter_next (wpAny_call_entry slot_tupleiter_next a.typeIs entry_tupleiter_next ?_ (args_tupleiter_next _))))
  show wpAny _ _ (field (.ref it) 0 >>= _) _ _ s ; refine wpAny_bind (wpAny_field g dd (x := .ref t) rfl ?_)
  show wpAny _ _ (if (Value.ref t == Value.none) = true then _ else _) _ _ s ; rw [if_neg (by simp)]
  show wpAny _ _ (field (.ref it) 1 >>= _) _ _ s ; refine wpAny_bind (wpAny_field g dd (x := .int i 0) rfl ?_)
  show wpAny _ _ (seqItems? (.ref t) >>= _) _ _ s ; refine wpAny_bind (wpAny_seqItems gt dt ?_)
  simp only [Int.toNat_natCast, e]
  refine wpAny_bind (wpAny_rule (wpAny_bind (wpAny_setField g dd (by simp) ?_)))
  show wpAny _ _ (newExc (.type "StopIteration") [] >>= _) _ _ _ ; refine wpAny_bind ?_ ; simp only [newExc, newTuple]
  refine wpAny_bind (wpAny_newObj_type (wpAny_bind (m := firstArgMember _ _) (wpAny_of_eq (a := Value.none) (by first | rfl | (simp only [firstArgMember]; rfl)) (wpAny_newObj_type ?_ (by size_fits)))) (by size_fits))
  have kept : ∀ {u : Obj}, s.heap.get? r = some u → (s.heap.update it (Obj.mapFields (·.setIfInBounds 0 .none))).get? r = some u := fun z => (Heap.get?_update_other _ _ (Ne.symm nit)).trans z
  have g2 := Heap.get?_push_of_some { cls := .type "tuple", data := .seq #[] } (kept g1)
  refine raiseNew_hot ⟨hh, o1, vs1, Heap.get?_push_of_some _ g2, d1, c1⟩ (Nat.ne_of_lt (Heap.lt_size g2)) (Heap.get?_push_size _ rfl) rfl (by first | (simp; done) | (simp; omega) | (simp only [Array.size_append]; simp; omega)) ?_
  refine wpAny_bind (wpAny_isInstance (T := "StopIteration") (b := true) ⟨_, Heap.get?_update_self _ (Heap.get?_push_size _ rfl) rfl, rfl⟩ isSubtype_stop (wpAny_pure (q _ fun c u nc z => ?_)))
  have z1 : (s.heap.update it (Obj.mapFields (·.setIfInBounds 0 .none))).get? c = some u := (Heap.get?_update_other _ _ (Ne.symm nc)).trans z
  have z2 := Heap.get?_push_of_some { cls := .type "tuple", data := .seq #[] } z1
  rw [Heap.get?_update_other _ _ (Nat.ne_of_gt (Heap.lt_size z2))]
  exact Heap.get?_push_of_some _ z2
/-- a tuple taken apart, an exception r being handled -/
theorem apart_hot {t r : Addr} {items : Array Value} {Q : List Value → Shared → Prop} (hot : HotAt A r s.heap) (b : IsTup s.heap t items) (q : ∀ h', Heap.ExtBut s.heap.objs.size s.heap h' → Q items.toList { s with heap := h' }) :
    wpAny (model prog w) A (unpackItems (.ref t) items.size none) Q E s := by
  obtain ⟨hh, o1, vs1, g1, d1, c1⟩ := hot
  have nt : t ≠ s.heap.objs.size := let ⟨_, g, _⟩ := b; Nat.ne_of_lt (Heap.lt_size g)
  have nr : r ≠ s.heap.objs.size := Nat.ne_of_lt (Heap.lt_size g1)
  unfold unpackItems notIterableAtAll
  refine wpAny_bind (wpAny_bind (wpAny_specialOf b.typeIs slot_tuple_iter.lookup (wpAny_pure ?_)))
  simp only [Bool.false_eq_true, if_false]
  refine wpAny_bind (wpAny_holding (iter_tuple b (wpAny_bind (wpAny_holding (draw_tuple nt items.size 0 _ _ ⟨_, Heap.get?_push_size _ rfl, rfl, rfl⟩ (b.push _) (by omega) fun h1 a1 sb => ?_)))))
  have whole : (items.toList.drop 0).take items.size = items.toList := by rw [List.drop_zero]; exact List.take_of_length_le (by simp)
  rw [whole, if_neg (by simp)]
  have g2 : h1.get? r = some o1 := sb.extBut _ _ nr (Heap.get?_push_of_some _ g1)
  refine wpAny_bind (wpAny_holding (over_hot ⟨hh, o1, vs1, g2, d1, c1⟩ nr a1 ((b.push _).extBut sb.extBut nt) (by simp) fun h2 x2 => ?_))
  simp only [Option.isSome_none, Bool.false_eq_true, if_false]
  exact wpAny_pure (q h2 fun c u nc z => x2 c u nc (sb.extBut c u nc (Heap.get?_push_of_some _ z)))
end
/-- a, b = x, y with plain local names, an exception being handled -/
theorem ps_parH {X : Cx} {i j : Nat} {x y : Str} {a b : Expr} {ta : TA} {px py pt pos : Pos} {kt k2 : Nat} {pt2 : Pos} (hot : L2H.HotC X) (hN : X.N.Nodup) (hi : X.N[i]? = some x) (hj : X.N[j]? = some y) (ne : i ≠ j) (hx : X.env.scope.names.lookup x = some .local) (hy : X.env.scope.names.lookup y = some .local) (ha : PA X [a, b] ta)
    (sw : swappedStores [.Tuple [.Name x px, .Name y py] kt pt] (.Tuple [a, b] k2 pt2) X.env = pure (some [x, y])) (sole : swapsWithSole [.Tuple [.Name x px, .Name y py] kt pt] (.Tuple [a, b] k2 pt2) pos.line X.env = pure false := by rfl) :
    PS X (.Assign [.Tuple [.Name x px, .Name y py] kt pt] (.Tuple [a, b] k2 pt2) pos) (tPar i j ta) := by
  refine ⟨fun pins s σ H D I h => ?_⟩
  rw [exec_Assign_arm]
  refine wpAny_bind (wpAny_standAt ?_)
  rw [sole]
  refine wpAny_bind (wpAny_pure ?_)
  rw [if_neg (by decide)]
  refine wpAny_bind (Tuple_ (thn (ha.run _ pins s σ H _ I h) fun us s1 ⟨vs, H1, I1, r1, v, w, ev, q⟩ => ?_))
  subst ev
  obtain ⟨u1, u2, eu, rv, rw'⟩ : ∃ u1 u2, us = [u1, u2] ∧ RelV v u1 ∧ RelV w u2 := by
    cases r1 with
    | cons p1 more =>
      cases more with
      | cons p2 none_ =>
        cases none_
        exact ⟨_, _, rfl, p1, p2⟩
  subst eu
  refine wpAny_newObj_type ?_ (by show 2 ≤ sizeLine; decide)
  have kp : ∀ c o, s1.heap.get? c = some o → (s1.heap.push { cls := .type "tuple", data := .seq [u1, u2].toArray }).get? c = some o := fun c o z => Heap.get?_push_of_some _ z
  have I2 : Inv X pins σ H1 { s1 with heap := s1.heap.push { cls := .type "tuple", data := .seq [u1, u2].toArray } } := I1.kept (t' := s1.toks) kp
  obtain ⟨r, hr⟩ := hot.at I2
  rw [sw]
  refine wpAny_bind (wpAny_pure ?_)
  show wpAny (model X.prog X.w) X.A (rule "assign.swapped-stores" >>= fun _ => unpackItems (.ref s1.heap.objs.size) 2 none >>= fun items => assignInOrder [fun v => bindName X.env y v, fun v => bindName X.env x v] items.reverse >>= fun _ => pure Flow.next) _ _ _
  refine wpAny_bind (wpAny_rule (wpAny_bind (apart_hot (items := #[u1, u2]) hr (IsTup.new s1.heap _) fun h' ext => ?_)))
  have I3 := I2.kept (h' := h') (t' := s1.toks) fun c o z => ext c o (Nat.ne_of_lt (Heap.lt_size z)) z
  refine wpAny_bind ?_
  show wpAny _ _ (assignInOrder [fun v => bindName X.env y v, fun v => bindName X.env x v] [u2, u1]) _ _ _
  refine assignInOrder_cons (wpAny_bindName (store_ok I3 hN hj (.inl hy) rw' (fun s2 I4 => ?_) (.inr hy)))
  refine assignInOrder_cons (wpAny_bindName (store_ok I4 hN hi (.inl hx) rv (fun s3 I5 => assignInOrder_nil (wpAny_pure ?_)) (.inr hx)))
  rw [List.set_comm _ _ (Ne.symm ne)] at I5
  exact ⟨_, H1, I5, q⟩
end Le
set_option maxHeartbeats 1000000
/-! C(e, ..) of an own class of errors with an own __init__, nothing being handled: its context is None -/
namespace Le
open PySem PySem.Spec PyProof.Rows L2
section
variable {X : Cx} {CX : CXT} {x : Str} {e : Expr} {es : List Expr} {ta : TA} {p pos : Pos} {C fI : Addr} {k : Nat} {fd : FuncData} {ps : List Str} {sp : Sp}
theorem pmk_calm (T : OexC X.K C) (ini : PySem.W.findIn X.K (.ref C) "__init__" = some (some (.ref fI))) (fun_ : PySem.W.typeIn X.K (.ref fI) = some (.type "function")) (F1 : FnOk X.prog X.w X.K X.mg X.base CX k fI fd ps sp) (hr : Room (k + 1) X.A) (hb : Binds X.K fd ps [])
    (quiet : Passes CX X fun _ _ _ => False) (gl : Gl X x) (gv : X.mg x = some (.ref C)) (ha : PA X (e :: es) ta) (nd : (x == ("__debug__" : Str)) = false := by decide) (st : starEach (e :: es) X.env = (false, eval e X.env) :: starEach es X.env := by rfl)
    (pl : (backTo pos (starEach es X.env)).any (·.1) = false := by rfl) : L2N.PMk X (.Call (.Name x p) (e :: es) [] pos) (tMkO C sp [] ta) := by
  intro pins s σ H Q I h
  obtain ⟨_, _, _, _, bm, _, _, _, _, _, _, _, _, _, _, cls, has⟩ := T.cls
  refine wpAny_Call_Name_kw (ld_glob I gl gv (PySem.W.callWith_K (h₀ := X.base) I.ok.mod.kin T.kC (thn (ha.run pos pins s σ H _ I h) fun us s1 ⟨vs, H1, I1, rel, few, goal⟩ => ⟨I1.kIn, ?_⟩) st pl) nd)
  obtain ⟨hp, g, dr, tk, os⟩ := s1
  obtain ⟨n, en⟩ : ∃ n, n = hp.objs.size + 1 := ⟨_, rfl⟩
  obtain ⟨h1, eh1⟩ : ∃ h1, h1 = (hp.push (PySem.W.kdv_tup us)).push (PySem.HandSPX.excO C hp.objs.size) := ⟨_, rfl⟩
  have up1 : hp.objs.size ≤ n := by rw [en]; exact Nat.le_succ _
  have fresh : H1 n = none := I1.hok.fresh up1
  have asked := goal n fresh
  rw [List.append_nil] at asked
  have kept : ∀ b o, hp.get? b = some o → h1.get? b = some o := fun b o z => by rw [eh1]; exact Heap.get?_push_of_some _ (Heap.get?_push_of_some _ z)
  have there : h1.get? n = some (PySem.HandSPX.excO C hp.objs.size) := by rw [eh1, en]; heap_get
  have I2 : Inv X pins σ (upd H1 n (exo n C none)) ⟨h1, g, dr, tk, os⟩ := I1.laid (t' := tk) (a := n) (o := exo n C none) (h' := h1) kept up1 (exo_ok there)
  have rel2 : Vals (V.ref n :: vs) (Value.ref n :: us) := .cons rfl rel
  have cnt : (Value.ref n :: us ++ []).length = ps.length := by rw [List.append_nil, ← rel2.length]; exact F1.len _ _ _ _ asked
  have b2 := hb _ (Value.ref n :: us) I2.kIn cnt
  rw [List.append_nil] at b2
  have small : us.length ≤ sizeLine := by rw [← Paired.length rel, sizeLine_eq]; omega
  show wpAny _ _ (call (.ref C) us) _ _ _
  have run := F1.run (X.A.under (.builtin "type.__call__" ⟨.ref C :: us, []⟩)) X.stack _ _ ⟨Value.ref n :: us, []⟩ (Value.ref n :: us) _ _ (fun _ _ _ => False) (hr.make C us []) (I2.env0.make C us []) b2 rel2 asked
  subst en
  subst eh1
  refine wpAny_call (PySem.HandSPX.call_own F.excBase_ValueError (fun Y => PySem.HandSPX.refsVE_contains Y bm has) (I1.kIn _ _ cls) (PySem.W.looks_findIn I1.kIn ini) (fun self => PySem.W.bind_fn I1.kIn self fun_) small (codeAny_mono run fun r s' q => ?_))
  cases r with
  | error er => exact quiet pins σ _ _ er s' I2 q
  | ok fl =>
    cases fl with
    | next => exact q.elim
    | brk => exact q.elim
    | cont => exact q.elim
    | ret u =>
      obtain ⟨v, H2, os2, bare2, un2, hok2, rv, ev, d, fs, ea, ed, hd1, q2⟩ := q
      subst ev
      obtain ⟨h2, g2, d2, t2, os'⟩ := s'
      obtain ⟨t0, G, J, kG, ge, hoe, na⟩ := mk_end0 (d2 := d2) (t2 := t2) I1 up1 kept un2 hok2 os2 bare2 ea ed hd1
      exact ⟨rv, hp.objs.size + 1, _, _, ⟨G, g2, d2, t2, os'⟩, _, .ref C, some d, rfl, J, kG, ge, hoe, ⟨rfl, rfl, fun vs hv => by cases hv; rfl⟩, rfl, rfl, na, rfl, bare2, raises_own T.exC T.tyC, q2⟩
end
end Le
set_option maxHeartbeats 1000000
/-! a def called with a lambda that may raise; of the exception it is kept that its context is None -/
namespace Le
open PySem PySem.Spec PyProof.Rows L2 LamX
/-- the context of the lambda's body -/
def lamX (X : Cx) (A : Around) (outer : List Env) (s : Shared) (H : Hp) (E : XK) (scope : Scope) (f c : Addr) : Cx :=
  (lamCx X A outer s H (fun _ _ _ => False) scope f c).wish fun u s' => wpAny (model X.prog X.w) (A.deeper (lamEnv X scope s.heap.objs.size f c)) (leaving (lamEnv X scope s.heap.objs.size f c) u) (fun _ s2 => L2N.CX X.prog X.w outer H s E u s2) (fun u2 s2 => L2N.CX X.prog X.w outer H s E u2 s2) s'
section
variable {X : Cx} {pins : List (Addr × Obj)} {σ : L2.St} {H HZ : Hp} {s s1 : Shared}
/-- act(), act the lambda, in the def that got it -/
theorem pe_actN {CXg : CXT} {Eg : XK} {Ng : List Str} {qg : Str} {sg : Scope} {g f c : Addr} {cdg pm ct : Value} {params : Arguments} {body : Expr} {scope : Scope} {k i : Nat} {a : Str} {pn : List (Addr × Obj)} {xe : Value → Shared → Prop} {W : WX} {t : XK → TE} {p1 p2 : Pos}
    (I : Inv X pins σ H s) (L : LamS X.env.scope scope) (there : s.heap.get? f = some (PySem.W.kla_obj "<lambda>" (X.env.qual ++ "<lambda>") params body scope (cloFrom X.env.cells scope.names []) pm c ct)) (nf : H f = none) (nfr : f ∉ frs X.stack)
    (noArgs : bindArgs (PySem.W.kla_fn "<lambda>" (X.env.qual ++ "<lambda>") params body scope (cloFrom X.env.cells scope.names []) pm (.ref c) ct) ⟨[], []⟩ = pure []) (tk : L2N.Takes ((cxOf CXg X.prog X.w X.K X.mg X.base Ng qg sg g cdg X.A X.stack s H Eg).tr pn xe) W)
    (hr : Room (k + 1) (X.A.deeper (envOfC qg sg s.heap.objs.size g cdg))) (inner : ∀ (A : Around) (outer : List Env) (s : Shared) (H : Hp) (E : XK), Room k (A.deeper (lamEnv X scope s.heap.objs.size f c)) → PE (lamX X A outer s H E scope f c) body (t E))
    (hN : Ng[i]? = some a) (hv : Vis sg a) (n1 : (a == ("__debug__" : Str)) = false := by decide) (n2 : (a == ("__classdict__" : Str)) = false := by decide) :
    PE ((cxOf CXg X.prog X.w X.K X.mg X.base Ng qg sg g cdg X.A X.stack s H Eg).tr pn xe) (.Call (.Name a p1) [] [] p2) (fun τ G Q => τ[i]? = some (some (.ref f)) ∧ G c = some (CodeO c (X.env.qual ++ "<lambda>")) ∧ t (fun cl d G' => W cl d τ G') σ G Q) := by
  refine ⟨fun pz sz τ G Q IZ ⟨hslot, hcode, goal⟩ => wpAny_Call_Name_kw (thn ((pe_var (pos := p1) (i := i) hN hv n1 n2).run pz sz τ G (fun v G1 => v = .ref f ∧ G1 = G) IZ ⟨.ref f, hslot, rfl, rfl⟩) fun u s1 ⟨v, G1, I1, rel, ev, eG⟩ => ?_)⟩
  subst ev
  rw [eG] at I1
  obtain rfl : u = Value.ref f := rel
  have still := I1.base.keep f _ there nf nfr (fun z => nomatch (show f ∈ ([] : List Addr) from z))
  have grown : Un (frs X.stack) [] H G s.heap s1.heap := I1.base
  obtain ⟨⟨oc, fs, t, g1, g2, g3⟩, _, _⟩ := I1.hok c _ hcode
  let E : XK := fun cl d G' => W cl d τ G'
  have ran : codeAny (model X.prog X.w) (X.A.deeper (envOfC qg sg s.heap.objs.size g cdg)) (.call (.ref f) ⟨[], []⟩) (CR (L2N.CX X.prog X.w) (envOfC qg sg s.heap.objs.size g cdg :: X.stack) X.prog X.w G s1 Q E) s1 := by
    refine PySem.W.kla_callFunE hr.depth still rfl L.co L.gen rfl ⟨c, oc, fs, t, rfl, g1, g2, g3⟩ ?_
    rw [noArgs]
    refine wpAny_pure (wpAny_newFunctionEnv (fun y hy => (L.own y hy).2) (fun y hy => absurd hy (by simp)) (fun h1 ns but => ⟨I1.nolimit.fresh _ but, ?_⟩) L.kind)
    have kept : ∀ b o, s1.heap.get? b = some o → h1.get? b = some o := fun b o z => but.extBut b o (Nat.ne_of_lt (Heap.lt_size z)) (Heap.get?_push_of_some _ z)
    have J := (lam_start2 (tk := s1.toks + ([] : List (Str × Value)).length) (E := fun _ _ _ => False) (c' := c) (f := f) I L I1.env0 hr.hd grown ns kept).wish fun u s' => wpAny (model X.prog X.w) ((X.A.deeper (envOfC qg sg s.heap.objs.size g cdg)).deeper (lamEnv X scope s1.heap.objs.size f c)) (leaving (lamEnv X scope s1.heap.objs.size f c) u)
      (fun _ s2 => L2N.CX X.prog X.w (envOfC qg sg s.heap.objs.size g cdg :: X.stack) G s1 E u s2) (fun u2 s2 => L2N.CX X.prog X.w (envOfC qg sg s.heap.objs.size g cdg :: X.stack) G s1 E u2 s2) s'
    refine PySem.W.kla_codeExpr (wpAny_mono ((inner _ _ s1 G E (hr.deeper _)).run [] _ _ G Q J goal) (fun v s' done => ?_) fun _ _ z => z)
    obtain ⟨v', G', J', rv, q⟩ := done
    exact ⟨v', G', J'.os, J'.bare, J'.base, J'.hok, rv, q⟩
  refine PySem.W.callWith_F0 ⟨_, _, _, _, still⟩ (wpAny_call (codeAny_mono ran fun r s' done => ?_))
  · cases r with
    | error e => exact tk e s' (L2N.XE.of_call I1 (fun _ _ _ h => h) done)
    | ok fl =>
      cases fl with
      | ret u => exact I1.after done
      | next => exact done.elim
      | brk => exact done.elim
      | cont => exact done.elim
end
end Le
set_option maxHeartbeats 1000000
/-! heard(lambda: ..): what the def that hears makes of the lambda's reading -/
namespace Le
open PySem PySem.Spec PyProof.Rows L2 LamX
/-- the context of the def at g that hears, called in X at s -/
abbrev heardCx (X : Cx) (Ng : List Str) (x : Str) (sg : Scope) (g : Addr) (cdg : Value) (s : Shared) (H : Hp) : Cx := cxOf C8.CX0 X.prog X.w X.K X.mg X.base Ng x sg g cdg X.A X.stack s H C8.E0
abbrev Act := XK → Hp → VK → Prop
def Hears (X : Cx) (Ng : List Str) (x : Str) (sg : Scope) (g : Addr) (cdg : Value) (bg : List Stmt) (a q : Str) (k : Nat) (TT : Act → Hp → VK → Prop) : Prop :=
  ∀ (f c : Addr) (s : Shared) (H : Hp) (Q : VK) (act : Act), Room k (X.A.deeper (envOfC x sg s.heap.objs.size g cdg)) →
    (∀ (W : WX) (pn : List (Addr × Obj)) (xe : Value → Shared → Prop) (p1 p2 : Pos), L2N.Takes ((heardCx X Ng x sg g cdg s H).tr pn xe) W →
      PE ((heardCx X Ng x sg g cdg s H).tr pn xe) (.Call (.Name a p1) [] [] p2) (fun τ G Q' => τ[0]? = some (some (.ref f)) ∧ G c = some (CodeO c q) ∧ act (fun cl d G' => W cl d τ G') G Q')) →
    H c = some (CodeO c q) → TT act H Q → ∃ t, PSs (heardCx X Ng x sg g cdg s H).nox bg t ∧ t { nx := fun _ H' => Q .non H', rt := Q } (L2.start Ng [.ref f]) H
section
variable {X : Cx}
/-- x(lambda: body) -/
theorem pe_heard {T : List (Addr × Str)} {TT : Act → Hp → VK → Prop} {x a : Str} {g c P : Addr} {k : Nat} {pg : Arguments} {bg : List Stmt} {sg : Scope} {dV kV doc pm cdv ct oc : Value} {an od : Option Addr} {osl : Array (Option Value)} {Ng : List Str} {params : Arguments} {body : Expr} {scope : Scope} {t : XK → TE} {p lp pos : Pos}
    (gl : Gl X x) (gv : X.mg x = some (.ref g)) (kp : PySem.W.keepIn X.K (.ref g) = true) (lk : X.K.lookup g = some ⟨oc, od, .func (PySem.W.fnOf x x pg bg sg dV kV doc pm an cdv ct), osl⟩) (cg : PySem.W.codeIn X.K cdv x = true)
    (bi : L2.Binds X.K (PySem.W.fnOf x x pg bg sg dV kV doc pm an cdv ct) [a] []) (Sg : FnScope Ng [a] sg) (hNg : Ng[0]? = some a) (va : Vis sg a) (hears : Hears X Ng x sg g cdv bg a (X.env.qual ++ "<lambda>") (k + 1) TT) (TB : TabB X.base X.mg c P) (code : X.env.code = .ref c)
    (inT : (P, X.env.qual ++ "<lambda>") ∈ T) (one : ∀ y ∈ T, y.1 = P → y.2 = X.env.qual ++ "<lambda>") (hr : Room (k + 2) X.A) (L : LamS X.env.scope scope) (nodef : defaultsOf params X.env = ([], []))
    (noArgs : ∀ (q : Str) (cl : List (Str × Addr)) (pm cv ctv : Value), bindArgs (PySem.W.kla_fn "<lambda>" q params body scope cl pm cv ctv) ⟨[], []⟩ = pure [])
    (inner : ∀ (A : Around) (outer : List Env) (s : Shared) (H : Hp) (E : XK) (f c' : Addr), Room k (A.deeper (lamEnv X scope s.heap.objs.size f c')) → PE (lamX X A outer s H E scope f c') body (t E))
    (n0 : (x == ("__debug__" : Str)) = false := by decide) (n1 : (a == ("__debug__" : Str)) = false := by decide) (n2 : (a == ("__classdict__" : Str)) = false := by decide) :
    PE X (.Call (.Name x p) [.Lambda params body scope lp] [] pos) (tLam T TT t) := by
  refine ⟨fun pins s σ H Q I ⟨tabs, goal⟩ => wpAny_Call_Name_kw (ld_glob I gl gv (PySem.W.callWith_K (h₀ := X.base) I.ok.mod.kin kp ?_ (by rfl) (by rfl)) n0)⟩
  show wpAny _ _ (spliced ((false, eval (.Lambda params body scope lp) X.env) :: backTo pos (starEach [] X.env))) _ _ s
  refine Calls.spliced_cons (lam_make2 I TB code inT one tabs nodef (L.has I.ok) fun f c' pm' ctv H1 s1 I1 eN T1 there nf nfr co => Calls.spliced_nil ⟨I1.kIn, ?_⟩)
  have ran : codeAny (model X.prog X.w) X.A (.call (.ref g) ⟨[.ref f], []⟩) (CR C8.CX0 X.stack X.prog X.w H1 s1 Q C8.E0) s1 :=
    run_ofS (N := Ng) (ps := [a]) (us := [.ref f]) (vs := [.ref f]) lk cg Sg hr I1.env0 (bi s1 [.ref f] I1.kIn rfl) (.cons rfl .nil) rfl fun hr1 =>
      let ⟨t1, ht, hq⟩ := hears f c' s1 H1 Q (fun E G Q' => t E σ G Q') hr1 (fun W pn xe p1 p2 tk => pe_actN (i := 0) (t := t) I1 L there nf nfr (noArgs _ _ _ _ _) tk hr1 (fun A outer s H E hr2 => inner A outer s H E f c' hr2) hNg va n1 n2) co (goal H1 eN T1)
      ⟨t1, ht.nox, hq⟩
  refine wpAny_call (codeAny_mono ran fun r s2 done => ?_)
  cases r with
  | error e => exact (show False from done).elim
  | ok fl =>
    cases fl with
    | ret u => exact I1.after done
    | next => exact done.elim
    | brk => exact done.elim
    | cont => exact done.elim
end
end Le
/-! the errors that the program raises itself: made, raised, asked for what they keep -/
namespace Wb
open PySem L2 PySem.Spec PyProof.Rows
section
variable {P : Program} {w : World} {K : PySem.W.Frag} {mg : Str → Option Value} {base : Heap}
/-- as Fun.ok, for a def that lets errors out; of their context it is told that it is None -/
theorem okN {x qual : Str} {st : Stmt} {f : Addr} {fd : FuncData} {N ps : List Str} {k : Nat} {sp : Sp} (F : Fun K x qual st f fd) (S : FnScope N ps (defScope st)) (len : ∀ vs H Q E, sp vs H Q E → vs.length = ps.length)
    (body : ∀ (cdv : Value) (A : Around) (outer : List Env) (s : Shared) (H : Hp) (vs : List V) (Q : VK) (E : XK), Room k (A.deeper (envOfC qual (defScope st) s.heap.objs.size f cdv)) → sp vs H Q E →
      ∃ t, PSs (cxOf (L2N.CX P w) P w K mg base N qual (defScope st) f cdv A outer s H E) (defBody st) t ∧ t { nx := fun _ H' => Q .non H', rt := Q } (L2.start N vs) H) : FnOk P w K mg base (L2N.CX P w) (k + 1) f fd ps sp := by
  obtain ⟨_, _, _, _, _, _, _, _, _, rfl, at_, code⟩ := F.ex
  exact fn_of at_ code S len (body _)
/-- what never raises keeps its promise whatever is told of errors -/
theorem FnOk.calm {CX : CXT} {k : Nat} {f : Addr} {fd : FuncData} {ps : List Str} {sp : Sp} (F : FnOk P w K mg base CX0 k f fd ps sp) : FnOk P w K mg base CX k f fd ps sp :=
  ⟨F.len, fun A outer s H args us vs Q E hr e0 hb r h => codeAny_mono (F.run A outer s H args us vs Q E hr e0 hb r h) fun res s' q => by
    cases res with
    | error e => exact (show False from q).elim
    | ok fl => cases fl <;> exact q⟩
theorem FnOk.either {CX : CXT} {k : Nat} {f : Addr} {fd : FuncData} {ps : List Str} {sp sp' : Sp} (F : FnOk P w K mg base CX k f fd ps sp) (G : FnOk P w K mg base CX k f fd ps sp') : FnOk P w K mg base CX k f fd ps (fun vs H Q E => sp vs H Q E ∨ sp' vs H Q E) :=
  ⟨fun vs H Q E h => h.elim (F.len vs H Q E) (G.len vs H Q E), fun A outer s H args us vs Q E hr e0 hb r h => h.elim (F.run A outer s H args us vs Q E hr e0 hb r) (G.run A outer s H args us vs Q E hr e0 hb r)⟩
end
def spErr (C : Addr) (g : Str) : Sp := fun vs H Q _ => ∃ (a : Addr) (y : V), vs = [.ref a, y] ∧ H a = some (exo a C none) ∧ ∀ d, H d = none → d ≠ a → Q .non (upd (upd H d (exd d [(g, y)])) a (exo a C (some d)))
/-- what the top has written of an error x whose attribute is g -/
structure ErrF (K : PySem.W.Frag) (mg : Str → Option Value) (x g qual : Str) (st : Stmt) (C f : Addr) (fd : FuncData) : Prop where
  o : OexC K C
  xf : XfC K C
  no : PySem.W.findIn K (.ref C) g = some none
  ini : PySem.W.findIn K (.ref C) "__init__" = some (some (.ref f))
  fn : PySem.W.typeIn K (.ref f) = some (.type "function")
  F : Fun K "__init__" qual st f fd
  b : Binds K fd ["self", g] []
  g : mg x = some (.ref C)
/-- raise C(y), y in slot i -/
def tBad (C : Addr) (g : Str) (W : WX) (i : Nat) : TS := fun _ σ H => ∃ v, σ[i]? = some (some v) ∧ ∀ d, H d = none → W (.ref C) (some d) σ (upd H d (.xd [(g, v)]))
theorem dict_left {H : Hp} {a d : Addr} {u1 u2 u3 o : HO} (ha : H a = none) (_ : d ≠ a) : upd (del (upd (upd (upd H a u1) d u2) a u3) a) d o = upd H d o := by
  funext b
  by_cases e : b = d
  · rw [e, upd_same, upd_same]
  · rw [upd_ne e, upd_ne e]
    by_cases e2 : b = a
    · rw [e2, del_same, ha]
    · rw [del_ne e2, upd_ne e2, upd_ne e, upd_ne e2]
section
variable {X : Cx} {W : WX} {C f : Addr} {fd : FuncData} {x g qual y : Str} {st : Stmt} {k i : Nat} {p p0 pos pos2 : Pos}
theorem ps_bad (E : ErrF X.K X.mg x g qual st C f fd) (F1 : FnOk X.prog X.w X.K X.mg X.base CX0 k f fd ["self", g] (spErr C g)) (hr : Room (k + 1) X.A) (calm : X.calm = true) (tk : L2N.Takes X W) (gl : Gl X x) (ha : PE X (.Name y p0) (tVar i))
    (nd : (x == ("__debug__" : Str)) = false := by decide) : PS X (.Raise (some (.Call (.Name x p) [.Name y p0] [] pos)) none pos2) (tBad C g W i) := by
  refine ⟨fun pins s σ H D I h => (L2N.ps_raise calm tk (Le.pmk_calm (CX := CX0) E.o E.ini E.fn F1 hr E.b (fun _ _ _ _ _ _ _ z => z.elim) gl E.g (pa_cons ha pa_nil) nd rfl rfl)).run pins s σ H D I ?_⟩
  obtain ⟨v, hv, q⟩ := h
  refine ⟨v, hv, (by show 1 ≤ 1000; decide), fun a na => ⟨a, v, rfl, upd_same, fun d nd ne => ⟨rfl, d, [(g, v)], upd_same, ?_, ?_, ?_⟩⟩⟩
  · rw [upd_ne ne, upd_same]
  · rw [upd_ne ne] at nd
    exact nd
  · have nd' : H d = none := by
      rw [upd_ne ne] at nd
      exact nd
    rw [dict_left na ne]
    exact q d nd'
end
section
variable {P : Program} {w : World} {K : PySem.W.Frag} {mg : Str → Option Value} {base : Heap} {C f : Addr} {fd : FuncData}
abbrev sErrInvalidWord : Stmt := inClass (top 7) 0
theorem scErrW : FnScope ["self", "given"] ["self", "given"] (defScope sErrInvalidWord) := ⟨rfl, rfl, rfl, by decide +kernel, rfl, by decide +kernel, by decide +kernel⟩
theorem ok_errW (E : ErrF K mg "InvalidWord" "given" "InvalidWord.__init__" sErrInvalidWord C f fd) : FnOk P w K mg base CX0 1 f fd ["self", "given"] (spErr C "given") := by
  refine E.F.ok scErrW (fun vs H Q E h => by obtain ⟨a, y, rfl, _⟩ := h; rfl) (fun cdv A outer s H vs Q E' hr h => ?_)
  obtain ⟨a, y, rfl, ha, k⟩ := h
  exact ⟨_, pss_one (ps_ost (pv 0) (pv 1)), _, rfl, _, rfl, a, C, rfl, E.o, E.no, .inl ⟨ha, k⟩⟩
abbrev sErrInvalidNumber : Stmt := inClass (top 8) 0
theorem scErrN : FnScope ["self", "given"] ["self", "given"] (defScope sErrInvalidNumber) := ⟨rfl, rfl, rfl, by decide +kernel, rfl, by decide +kernel, by decide +kernel⟩
theorem ok_errN (E : ErrF K mg "InvalidNumber" "given" "InvalidNumber.__init__" sErrInvalidNumber C f fd) : FnOk P w K mg base CX0 1 f fd ["self", "given"] (spErr C "given") := by
  refine E.F.ok scErrN (fun vs H Q E h => by obtain ⟨a, y, rfl, _⟩ := h; rfl) (fun cdv A outer s H vs Q E' hr h => ?_)
  obtain ⟨a, y, rfl, ha, k⟩ := h
  exact ⟨_, pss_one (ps_ost (pv 0) (pv 1)), _, rfl, _, rfl, a, C, rfl, E.o, E.no, .inl ⟨ha, k⟩⟩
end
end Wb
/-! the face of a thing: a def that calls itself, over things of any kind -/
namespace Wb
open PySem L2
abbrev sFace : Stmt := top 22
theorem Same.new2 {q : Addr} {o : HO} {H H' : Hp} (a : Same H H') (n : H q = none) : Same H (L2.upd H' q o) := fun c u h => by
  rw [upd_ne (ne_of_none h n)]
  exact a c u h
/-! ### data stay -/
theorem SqT.stay {K : PySem.W.Frag} {H H' : Hp} {a : Addr} {xs : List V} (s : Same H H') (h : SqT K H a xs) : SqT K H' a xs := by
  rcases h with (q | ⟨o, q⟩) | q
  · exact .inl (.inl (s _ _ q))
  · exact .inl (.inr ⟨o, s _ _ q⟩)
  · exact .inr q
mutual
theorem Dp.stay {K : PySem.W.Frag} {H H' : Hp} (s : Same H H') : ∀ {v : V} {d : PyData}, Dp K H v d → Dp K H' v d
  | _, _, .non => .non
  | _, _, .bl b => .bl b
  | _, _, .int i => .int i
  | _, _, .str x => .str x
  | _, _, .lst h r => .lst (s.seq h) (DpAll.stay s r)
  | _, _, .tup h r => .tup (SqT.stay s h) (DpAll.stay s r)
theorem DpAll.stay {K : PySem.W.Frag} {H H' : Hp} (s : Same H H') : ∀ {vs : List V} {ds : List PyData}, DpAll K H vs ds → DpAll K H' vs ds
  | _, _, .nil => .nil
  | _, _, .cons h r => .cons (Dp.stay s h) (DpAll.stay s r)
end
theorem DpAll.snoc {K : PySem.W.Frag} {H : Hp} {v : V} {d : PyData} : ∀ {vs : List V} {ds : List PyData}, DpAll K H vs ds → Dp K H v d → DpAll K H (vs ++ [v]) (ds ++ [d])
  | _, _, .nil, h => .cons h .nil
  | _, _, .cons h r, q => .cons h (DpAll.snoc r q)
/-! ### what a thing is, by the face that it has -/
def plainD (d : PyData) : PyData := .list [.str "plain", d]
/-- a thing without parts -/
inductive Leaf : V → PyData → Prop
  | non : Leaf .non (plainD .none)
  | bl (b : Bool) : Leaf (.bl b) (.list [.str "truth", .bool b])
  | int (i : Int) : Leaf (.int i) (plainD (.int i))
  | str (x : Str) : Leaf (.str x) (plainD (.str x))
inductive Both {α β : Type} (R : α → β → Prop) : List α → List β → Prop
  | nil : Both R [] []
  | cons {x : α} {y : β} {xs : List α} {ys : List β} (h : R x y) (r : Both R xs ys) : Both R (x :: xs) (y :: ys)
theorem Both.imp {α β : Type} {R R' : α → β → Prop} (f : ∀ x y, R x y → R' x y) : ∀ {xs : List α} {ys : List β}, Both R xs ys → Both R' xs ys
  | _, _, .nil => .nil
  | _, _, .cons h r => .cons (f _ _ h) (Both.imp f r)
theorem Both.len {α β : Type} {R : α → β → Prop} : ∀ {xs : List α} {ys : List β}, Both R xs ys → xs.length = ys.length
  | _, _, .nil => rfl
  | _, _, .cons _ r => congrArg (· + 1) (Both.len r)
theorem Both.get {α β : Type} {R : α → β → Prop} : ∀ {xs : List α} {ys : List β} {i : Nat} {x : α}, Both R xs ys → xs[i]? = some x → ∃ y, ys[i]? = some y ∧ R x y
  | _, _, _, _, .nil, h => by cases h
  | _, _, 0, _, .cons h _, e => by cases e; exact ⟨_, rfl, h⟩
  | _ :: _, _ :: _, i + 1, _, .cons _ r, e => Both.get (i := i) r e
def keyD (k : Str) (d : PyData) : PyData := .list [plainD (.str k), d]
def kvsOf (ks : List Str) (xs : List V) : List (Key × V) := List.zipWith (fun k x => (Sum.inr k, x)) ks xs
/-- all but what lies at a -/
def cut (H : Hp) (a : Addr) : Hp := fun b => if b = a then none else H b
theorem cut_same {H H' : Hp} {a : Addr} (s : Same H H') : Same (cut H a) (cut H' a) := fun b o h => by
  unfold cut at h ⊢
  by_cases e : b = a
  · rw [if_pos e] at h
    cases h
  · rw [if_neg e] at h ⊢
    exact s _ _ h
theorem cutH_to {H H' : Hp} {a : Addr} (s : ∀ b o, b ≠ a → H b = some o → H' b = some o) : Same (cut H a) H' := fun b o h => by
  unfold cut at h
  by_cases e : b = a
  · rw [if_pos e] at h
    cases h
  · rw [if_neg e] at h
    exact s _ _ e h
/-- at most n parts within parts; d the face -/
def Thing (H : Hp) : Nat → V → PyData → Prop
  | 0, _, _ => False
  | n + 1, v, d => Leaf v d ∨ (∃ (a : Addr) (xs : List V) (ds : List PyData), v = .ref a ∧ H a = some (.lst xs) ∧ xs.length ≤ 1000 ∧ Both (Thing H n) xs ds ∧ d = .list (.str "list" :: ds))
    ∨ (∃ (a : Addr) (xs : List V) (ds : List PyData), v = .ref a ∧ H a = some (.tup xs) ∧ xs.length ≤ 1000 ∧ Both (Thing H n) xs ds ∧ d = .list (.str "tuple" :: ds))
    ∨ (∃ (a : Addr) (ks : List Str) (xs : List V) (ds : List PyData), v = .ref a ∧ H a = some (.dK (kvsOf ks xs)) ∧ ks.Nodup ∧ ks.length = xs.length ∧ xs.length ≤ 1000 ∧ Both (Thing (cut H a) n) xs ds ∧ d = .list (.str "dict" :: List.zipWith keyD ks ds))
theorem Thing.same {H H' : Hp} (s : Same H H') : ∀ {n : Nat} {v : V} {d : PyData}, Thing H n v d → Thing H' n v d
  | 0, _, _, h => h.elim
  | _ + 1, _, _, .inl h => .inl h
  | _ + 1, _, _, .inr (.inl ⟨a, xs, ds, e, h, l, r, q⟩) => .inr (.inl ⟨a, xs, ds, e, s _ _ h, l, r.imp fun _ _ z => Thing.same s z, q⟩)
  | _ + 1, _, _, .inr (.inr (.inl ⟨a, xs, ds, e, h, l, r, q⟩)) => .inr (.inr (.inl ⟨a, xs, ds, e, s _ _ h, l, r.imp fun _ _ z => Thing.same s z, q⟩))
  | _ + 1, _, _, .inr (.inr (.inr ⟨a, ks, xs, ds, e, h, nd, l1, l, r, q⟩)) => .inr (.inr (.inr ⟨a, ks, xs, ds, e, s _ _ h, nd, l1, l, r.imp fun _ _ z => Thing.same (cut_same s) z, q⟩))
/-- what is new in H' -/
def New (H H' : Hp) : Hp := fun b => match H b with
  | none => H' b
  | some _ => none
theorem New.at {H H' : Hp} {b : Addr} (h : H b = none) : New H H' b = H' b := by
  unfold New
  rw [h]
theorem New.inv {H H' : Hp} {b : Addr} {o : HO} (h : New H H' b = some o) : H b = none ∧ H' b = some o := by
  unfold New at h
  cases e : H b with
  | none =>
    rw [e] at h
    exact ⟨rfl, h⟩
  | some u =>
    rw [e] at h
    cases h
theorem New.sub {H H' : Hp} : Same (New H H') H' := fun _ _ h => (New.inv h).2
theorem New.mono {A B A' B' : Hp} (f : ∀ b o, A b = none → B b = some o → A' b = none ∧ B' b = some o) : Same (New A B) (New A' B') := fun b o h => by
  obtain ⟨h1, h2⟩ := New.inv h
  obtain ⟨g1, g2⟩ := f b o h1 h2
  rw [New.at g1]
  exact g2
def spFace (K : PySem.W.Frag) (n : Nat) : Sp := fun vs H Q _ => ∃ (v : V) (d : PyData), vs = [v] ∧ Thing H n v d ∧ ∀ (a : Addr) (H' : Hp), H a = none → Same H H' → Dp K (New H H') (.ref a) d → Q (.ref a) H'
abbrev NF : List Str := ["_law_thing", "_law_part", "_law_key"]
theorem scFace : FnScope NF ["_law_thing"] (defScope sFace) := ⟨rfl, rfl, rfl, by decide +kernel, rfl, by decide +kernel, by decide +kernel⟩
structure FreeT (mg : Str → Option Value) : Prop where
  isi : mg "isinstance" = none
  tup : mg "tuple" = none
  lst : mg "list" = none
  dct : mg "dict" = none
  bool : mg "bool" = none
theorem leaf_ty {K : PySem.W.Frag} {H : Hp} {v : V} {d : PyData} (h : Leaf v d) : ∃ (t : String) (b : Bool) (d' : PyData), TyX K H v (.type t) ∧ PySem.W.kitOne K (.type t) (.type "tuple") = some false ∧ PySem.W.kitOne K (.type t) (.type "list") = some false ∧
    PySem.W.kitOne K (.type t) (.type "dict") = some false ∧ PySem.W.kitOne K (.type t) (.type "bool") = some b ∧ d = .list [.str (if b = true then "truth" else "plain"), d'] ∧ ∀ H', Dp K H' v d' := by
  cases h with
  | non => exact ⟨_, _, _, .base .non, kit_ty (by decide +kernel), kit_ty (by decide +kernel), kit_ty (by decide +kernel), kit_ty (r := false) (by decide +kernel), rfl, fun _ => .non⟩
  | bl b => exact ⟨_, _, _, .base (.bl b), kit_ty (by decide +kernel), kit_ty (by decide +kernel), kit_ty (by decide +kernel), kit_ty (r := true) (by decide +kernel), rfl, fun _ => .bl b⟩
  | int i => exact ⟨_, _, _, .base (.int i), kit_ty (by decide +kernel), kit_ty (by decide +kernel), kit_ty (by decide +kernel), kit_ty (r := false) (by decide +kernel), rfl, fun _ => .int i⟩
  | str x => exact ⟨_, _, _, .base (.str x), kit_ty (by decide +kernel), kit_ty (by decide +kernel), kit_ty (by decide +kernel), kit_ty (r := false) (by decide +kernel), rfl, fun _ => .str x⟩
theorem free_of {H H' : Hp} {q : Addr} (s : Same H H') (n : H' q = none) : H q = none := by
  cases e : H q with
  | none => rfl
  | some o =>
    rw [s _ _ e] at n
    cases n
/-- the list of faces grows in D -/
def FacePv (K : PySem.W.Frag) (B : Hp) (D : Addr) (ds : List PyData) (i : Nat) (H : Hp) : Prop := ∃ ys : List V, H D = some (.lst ys) ∧ ys.length = i ∧ DpAll K (New (upd B D (.lst [])) H) ys (ds.take i) ∧ Same B H
theorem FacePv.same {K : PySem.W.Frag} {B H : Hp} {D : Addr} {ds : List PyData} {i : Nat} (h : FacePv K B D ds i H) (_ : B D = none) : Same B H := h.choose_spec.2.2.2
theorem FacePv.start {K : PySem.W.Frag} {B : Hp} {D : Addr} {ds : List PyData} (hD : B D = none) : FacePv K B D ds 0 (upd B D (.lst [])) := ⟨[], upd_same, rfl, by rw [List.take_zero]; exact .nil, Same.new2 (Same.refl _) hD⟩
theorem FacePv.grow {K : PySem.W.Frag} {B H H5 : Hp} {D : Addr} {ds : List PyData} {i : Nat} {v : V} {y : PyData} (h : FacePv K B D ds i H) (hD : B D = none) (hy : ds[i]? = some y) (s5 : Same H H5)
    (d5 : ∀ ys, H D = some (.lst ys) → Dp K (New (upd B D (.lst [])) (upd H5 D (.lst (ys ++ [v])))) v y) (few : i < 16777216) : ∃ acc, H5 D = some (.lst acc) ∧ acc.length < sizeLine ∧ FacePv K B D ds (i + 1) (upd H5 D (.lst (acc ++ [v]))) := by
  obtain ⟨ys, e1, e2, e3, e4⟩ := h
  refine ⟨ys, s5 _ _ e1, by rw [sizeLine_eq]; omega, ys ++ [v], upd_same, by rw [List.length_append, e2] <;> rfl, ?_, Same.new2 (e4.trans s5) hD⟩
  rw [List.take_add_one, hy]
  refine DpAll.snoc (DpAll.stay (New.mono fun b o h1 h2 => ⟨h1, ?_⟩) e3) (d5 ys e1)
  have n : b ≠ D := fun z => by
    rw [z, upd_same] at h1
    cases h1
  rw [upd_ne n]
  exact s5 _ _ h2
/-- what is new since later is new since earlier -/
theorem new_in {B H H5 : Hp} {D : Addr} {o : HO} (hB : Same B H) {ys : List V} (hD : H D = some (.lst ys)) : Same (New H H5) (New (upd B D (.lst [])) (upd H5 D o)) := New.mono fun b u h1 h2 => by
  have n : b ≠ D := fun z => by
    rw [z, hD] at h1
    cases h1
  refine ⟨?_, ?_⟩
  · rw [upd_ne n]
    exact free_of hB h1
  · rw [upd_ne n]
    exact h2
theorem FacePv.step {K : PySem.W.Frag} {B H H5 : Hp} {D : Addr} {ds : List PyData} {i : Nat} {c : Addr} {y : PyData} (h : FacePv K B D ds i H) (hD : B D = none) (hy : ds[i]? = some y) (_ : H c = none) (s5 : Same H H5) (d5 : Dp K (New H H5) (.ref c) y) (few : i < 16777216) :
    ∃ acc, H5 D = some (.lst acc) ∧ acc.length < sizeLine ∧ FacePv K B D ds (i + 1) (upd H5 D (.lst (acc ++ [.ref c]))) :=
  h.grow hD hy s5 (fun ys e => Dp.stay (new_in (h.same hD) e) d5) few
theorem FacePv.done {K : PySem.W.Frag} {H H3 : Hp} {L D : Addr} {ds : List PyData} {w : Str} {n : Nat} {Q : VK} (h : FacePv K (upd H L (.lst [.str w])) D ds n H3) (hD : upd H L (.lst [.str w]) D = none) (hL : H L = none) (len : n = ds.length) (few : n ≤ 1000)
    (k : ∀ (a : Addr) (H' : Hp), H a = none → Same H H' → Dp K (New H H') (.ref a) (.list (.str w :: ds)) → Q (.ref a) H') : rCat (.ref L) (.ref D) H3 Q := by
  obtain ⟨ys, e1, e2, e3, e4⟩ := h
  have s0 : Same H H3 := (Same.new2 (Same.refl H) hL).trans e4
  refine ⟨L, D, _, ys, rfl, rfl, e4 _ _ upd_same, e1, by rw [sizeLine_eq, e2]; show 1 + n ≤ _; omega, fun M hM => ?_⟩
  have nM := free_of s0 hM
  refine k M _ nM (Same.new2 s0 nM) ?_
  refine .lst (SqL.of ((New.at nM).trans upd_same)) (.cons (.str _) ?_)
  rw [show ds.take n = ds by rw [len, List.take_length]] at e3
  refine DpAll.stay (New.mono fun b o h1 h2 => ?_) e3
  have n1 : b ≠ D := fun z => by
    rw [z, upd_same] at h1
    cases h1
  rw [upd_ne n1] at h1
  have n2 : b ≠ L := fun z => by
    rw [z, upd_same] at h1
    cases h1
  rw [upd_ne n2] at h1
  refine ⟨h1, ?_⟩
  rw [upd_ne (ne_of_none h2 hM)]
  exact h2
theorem FacePv.unlock {K : PySem.W.Frag} {B H3 : Hp} {a D : Addr} {ds : List PyData} {n : Nat} {u : HO} {od : Obj} (h : FacePv K (upd B a (.frz od u)) D ds n H3) (hD : upd B a (.frz od u) D = none) (ha : B a = some u) : FacePv K B D ds n (upd H3 a u) := by
  obtain ⟨ys, e1, e2, e3, e4⟩ := h
  have nD : D ≠ a := fun z => by
    rw [z, upd_same] at hD
    cases hD
  refine ⟨ys, (upd_ne nD).trans e1, e2, DpAll.stay (New.mono fun b o h1 h2 => ?_) e3, fun b o h => ?_⟩
  · have n1 : b ≠ D := fun z => by
      rw [z, upd_same] at h1
      cases h1
    rw [upd_ne n1] at h1
    have n2 : b ≠ a := fun z => by
      rw [z, upd_same] at h1
      cases h1
    rw [upd_ne n2] at h1
    rw [upd_ne n1, upd_ne n2]
    exact ⟨h1, h2⟩
  · by_cases e : b = a
    · rw [e, upd_same]
      rw [e, ha] at h
      exact h
    · rw [upd_ne e]
      exact e4 _ _ ((upd_ne e).trans h)
theorem kvs_at {ks : List Str} {xs : List V} {i : Nat} {kk : Key} {vv : V} (h : (kvsOf ks xs)[i]? = some (kk, vv)) : ∃ kt, kk = Sum.inr kt ∧ ks[i]? = some kt ∧ xs[i]? = some vv := by
  unfold kvsOf at h
  rw [List.getElem?_zipWith] at h
  cases h1 : ks[i]? with
  | none =>
    rw [h1] at h
    cases h
  | some kt =>
    cases h2 : xs[i]? with
    | none =>
      rw [h1, h2] at h
      cases h
    | some x =>
      rw [h1, h2] at h
      cases h
      exact ⟨kt, rfl, rfl, rfl⟩
theorem valV_at : ∀ {ks : List Str} {xs : List V} {i : Nat} {kt : Str} {vv : V}, ks.Nodup → ks.length = xs.length → ks[i]? = some kt → xs[i]? = some vv → valV (kvsOf ks xs) (Sum.inr kt) = some vv
  | [], _, _, _, _, _, _, h, _ => by cases h
  | _ :: _, [], _, _, _, _, h, _, _ => by cases h
  | k :: ks, x :: xs, 0, kt, vv, _, _, h1, h2 => by
    cases h1
    cases h2
    show ((List.find? _ ((Sum.inr k, x) :: kvsOf ks xs)).map (·.2)) = some x
    rw [List.find?_cons_of_pos (by simp)] <;> rfl
  | k :: ks, x :: xs, i + 1, kt, vv, nd, len, h1, h2 => by
    obtain ⟨n1, n2⟩ := List.nodup_cons.mp nd
    have h1' : ks[i]? = some kt := h1
    have ne : k ≠ kt := fun z => n1 (z ▸ List.mem_of_getElem? h1')
    have ih := valV_at (ks := ks) (xs := xs) (i := i) n2 (Nat.succ.inj len) h1' h2
    show ((List.find? _ ((Sum.inr k, x) :: kvsOf ks xs)).map (·.2)) = some vv
    rw [List.find?_cons_of_neg (by simpa using ne)]
    exact ih
section
variable {P : Program} {w : World} {K : PySem.W.Frag} {mg : Str → Option Value} {base : Heap} {f : Addr} {fd : FuncData}
theorem face_none : FnOk P w K mg base CX0 1 f fd ["_law_thing"] (spFace K 0) :=
  ⟨fun vs H Q E h => by obtain ⟨v, d, rfl, z, _⟩ := h; exact z.elim, fun A outer s H args us vs Q E hr e0 hb hv h => by obtain ⟨v, d, rfl, z, _⟩ := h; exact z.elim⟩
set_option maxHeartbeats 0 in
theorem face_more {n : Nat} (D : Fun K "_law_face" "_law_face" sFace f fd) (g : mg "_law_face" = some (.ref f)) (kp : PySem.W.keepIn K (.ref f) = true) (b : Binds K fd ["_law_thing"] []) (Z : FreeT mg)
    (G : FnOk P w K mg base CX0 (n + 1) f fd ["_law_thing"] (spFace K n)) : FnOk P w K mg base CX0 (n + 2) f fd ["_law_thing"] (spFace K (n + 1)) := by
  refine D.ok scFace (fun vs H Q E h => ?_) (fun cdv A outer s H vs Q E hr h => ?_)
  · obtain ⟨v, d, rfl, _⟩ := h
    rfl
  · obtain ⟨v, d, rfl, th, k⟩ := h
    refine ⟨_, pss_cons (ps_if (pt_val (pe_callB call_isi (by rfl) Z.isi (by decide +kernel) (pa_cons (pv 0) (pa_cons (pe_bltn (v := .ty "tuple") (u := .type "tuple") (by rfl) Z.tup (by decide +kernel) rfl) pa_nil))))
        (pss_one (ps_ret (pe_op op_cat (pe_lst (pa_cons pe_str pa_nil))
          (pe_lc (own := [("_law_part", 1)]) (g := gName 1) (tt := tYes) rfl scFace.nd (pi_tup (pv 0)) (blkOk_by (N := NF) (sc := defScope sFace) (by decide +kernel)) (fun _ _ _ _ _ => pg_name (i := 1) scFace.nd rfl (.inl rfl)) (fun _ _ _ _ _ => pts_nil)
            (fun _ _ _ _ _ => pe_call G hr rfl g kp b .nil pass0 (pa_cons (pv 1) pa_nil)))))) pss_nil)
      (pss_cons (ps_if (pt_val (pe_callB call_isi (by rfl) Z.isi (by decide +kernel) (pa_cons (pv 0) (pa_cons (pe_bltn (v := .ty "list") (u := .type "list") (by rfl) Z.lst (by decide +kernel) rfl) pa_nil))))
        (pss_one (ps_ret (pe_op op_cat (pe_lst (pa_cons pe_str pa_nil))
          (pe_lc (own := [("_law_part", 1)]) (g := gName 1) (tt := tYes) rfl scFace.nd (pi_list (pv 0)) (blkOk_by (N := NF) (sc := defScope sFace) (by decide +kernel)) (fun _ _ _ _ _ => pg_name (i := 1) scFace.nd rfl (.inl rfl)) (fun _ _ _ _ _ => pts_nil)
            (fun _ _ _ _ _ => pe_call G hr rfl g kp b .nil pass0 (pa_cons (pv 1) pa_nil)))))) pss_nil)
      (pss_cons (ps_if (pt_val (pe_callB call_isi (by rfl) Z.isi (by decide +kernel) (pa_cons (pv 0) (pa_cons (pe_bltn (v := .ty "dict") (u := .type "dict") (by rfl) Z.dct (by decide +kernel) rfl) pa_nil))))
        (pss_one (ps_ret (pe_op op_cat (pe_lst (pa_cons pe_str pa_nil))
          (pe_lock (pe_lc (own := [("_law_key", 2)]) (g := gName 2) (tt := tYes) rfl scFace.nd (pi_keys (pv 0)) (blkOk_by (N := NF) (sc := defScope sFace) (by decide +kernel)) (fun _ _ _ _ _ => pg_name (i := 2) scFace.nd rfl (.inl rfl)) (fun _ _ _ _ _ => pts_nil)
            (fun _ _ _ _ _ => pe_lst (pa_cons (pe_call G hr rfl g kp b .nil pass0 (pa_cons (pv 2) pa_nil)) (pa_cons (pe_call G hr rfl g kp b .nil pass0 (pa_cons (pe_dget (hu_of hr) (pv 0) (pv 2) (fun _ _ => rfl)) pa_nil)) pa_nil)))))))) pss_nil)
      (pss_one (ps_ret (pe_lst (pa_cons (pe_ifExp (pt_val (pe_callB call_isi (by rfl) Z.isi (by decide +kernel) (pa_cons (pv 0) (pa_cons (pe_bltn (v := .ty "bool") (u := .type "bool") (by rfl) Z.bool (by decide +kernel) rfl) pa_nil)))) pe_str pe_str) (pa_cons (pv 0) pa_nil))))))), ?_⟩
    rcases th with lf | ⟨a, xs, ds, rfl, ha, few, parts, rfl⟩ | ⟨a, xs, ds, rfl, ha, few, parts, rfl⟩ | ⟨a, ks, xs, ds, rfl, ha, nd, len, few, parts, rfl⟩
    · obtain ⟨t, c, d', ty, k1, k2, k3, k4, rfl, dp⟩ := leaf_ty (K := K) (H := H) lf
      refine ⟨_, rfl, _, _, .type t, .type "tuple", false, rfl, .ty "tuple", ty, k1, false, rfl, iteF ?_⟩
      refine ⟨_, rfl, _, _, .type t, .type "list", false, rfl, .ty "list", ty, k2, false, rfl, iteF ?_⟩
      refine ⟨_, rfl, _, _, .type t, .type "dict", false, rfl, .ty "dict", ty, k3, false, rfl, iteF ?_⟩
      refine ⟨_, rfl, _, _, .type t, .type "bool", c, rfl, .ty "bool", ty, k4, c, rfl, ?_⟩
      cases c with
      | true => exact iteT ⟨_, rfl, (by show 2 ≤ sizeLine; decide), fun q hq => k q _ hq (Same.new2 (Same.refl H) hq) (.lst (SqL.of ((New.at hq).trans upd_same)) (.cons (.str _) (.cons (dp _) .nil)))⟩
      | false => exact iteF ⟨_, rfl, (by show 2 ≤ sizeLine; decide), fun q hq => k q _ hq (Same.new2 (Same.refl H) hq) (.lst (SqL.of ((New.at hq).trans upd_same)) (.cons (.str _) (.cons (dp _) .nil)))⟩
    · refine ⟨_, rfl, _, _, .type "list", .type "tuple", false, rfl, .ty "tuple", .base (.lst ha), kit_ty (by decide +kernel), false, rfl, iteF ?_⟩
      refine ⟨_, rfl, _, _, .type "list", .type "list", true, rfl, .ty "list", .base (.lst ha), kit_ty (by decide +kernel), true, rfl, iteT ?_⟩
      have mk : ∀ L, H L = none → Same H (upd H L (.lst [.str "list"])) := fun L hL => Same.new2 (Same.refl H) hL
      refine ⟨(by show 1 ≤ sizeLine; decide), fun L hL => ⟨_, rfl, a, rfl, ⟨xs, SqL.of (mk L hL _ _ ha)⟩, fun D hD => ?_⟩⟩
      refine lc_it (walk_list (xs := xs)) (FacePv K (upd H L (.lst [.str "list"])) D ds) (FacePv.start hD) (fun i H3 _ q => SqL.of (q.same hD _ _ (mk L hL _ _ ha))) ?_ ?_
      · rintro i x H3 H3' hi q ⟨rfl, hx⟩
        obtain ⟨y, hy, th⟩ := parts.get hx
        refine ⟨rfl, _, rfl, x, y, rfl, th.same ((mk L hL).trans (q.same hD)), fun c H5 hc s5 d5 => q.step hD hy hc s5 d5 (by omega)⟩
      · rintro H3 q
        exact q.done hD hL parts.len few k
    · refine ⟨_, rfl, _, _, .type "tuple", .type "tuple", true, rfl, .ty "tuple", .base (.tup ha), kit_ty (by decide +kernel), true, rfl, iteT ?_⟩
      have mk : ∀ L, H L = none → Same H (upd H L (.lst [.str "tuple"])) := fun L hL => Same.new2 (Same.refl H) hL
      refine ⟨(by show 1 ≤ sizeLine; decide), fun L hL => ⟨_, rfl, a, rfl, ⟨xs, SqT.of (mk L hL _ _ ha)⟩, fun D hD => ?_⟩⟩
      refine lc_it (walk_tup (xs := xs)) (FacePv K (upd H L (.lst [.str "tuple"])) D ds) (FacePv.start hD) (fun i H3 _ q => SqT.of (q.same hD _ _ (mk L hL _ _ ha))) ?_ ?_
      · rintro i x H3 H3' hi q ⟨rfl, hx⟩
        obtain ⟨y, hy, th⟩ := parts.get hx
        refine ⟨rfl, _, rfl, x, y, rfl, th.same ((mk L hL).trans (q.same hD)), fun c H5 hc s5 d5 => q.step hD hy hc s5 d5 (by omega)⟩
      · rintro H3 q
        exact q.done hD hL parts.len few k
    · refine ⟨_, rfl, _, _, .type "dict", .type "tuple", false, rfl, .ty "tuple", .base (.dK ha), kit_ty (by decide +kernel), false, rfl, iteF ?_⟩
      refine ⟨_, rfl, _, _, .type "dict", .type "list", false, rfl, .ty "list", .base (.dK ha), kit_ty (by decide +kernel), false, rfl, iteF ?_⟩
      refine ⟨_, rfl, _, _, .type "dict", .type "dict", true, rfl, .ty "dict", .base (.dK ha), kit_ty (by decide +kernel), true, rfl, iteT ?_⟩
      have mk : ∀ L, H L = none → Same H (upd H L (.lst [.str "dict"])) := fun L hL => Same.new2 (Same.refl H) hL
      refine ⟨(by show 1 ≤ sizeLine; decide), fun L hL => ⟨a, .dK (kvsOf ks xs), mk L hL _ _ ha, trivial, fun od => ⟨_, rfl, a, od, rfl, .inl ⟨_, upd_same, fun D hD => ?_⟩⟩⟩⟩
      have klen : (kvsOf ks xs).length = xs.length := by unfold kvsOf; rw [List.length_zipWith]; omega
      have dlen : (List.zipWith keyD ks ds).length = xs.length := by have := parts.len; rw [List.length_zipWith]; omega
      refine lc_it (walk_keys (kvs := kvsOf ks xs)) (FacePv K (upd (upd H L (.lst [.str "dict"])) a (.frz od (.dK (kvsOf ks xs)))) D (List.zipWith keyD ks ds)) (FacePv.start hD) (fun i H3 _ q => q.same hD _ _ upd_same) ?_ ?_
      · rintro i x H3 H3' hi q ⟨rfl, kk, vv, hk, rfl⟩
        obtain ⟨kt, rfl, ek, ev⟩ := kvs_at hk
        obtain ⟨y, hy, th⟩ := parts.get ev
        have s3 := q.same hD
        have lo : Same (cut H a) H3' := cutH_to fun b o n h => s3 _ _ ((upd_ne n).trans (mk L hL _ _ h))
        refine ⟨rfl, _, rfl, .str kt, plainD (.str kt), rfl, ?_, fun c H5 hc s5 d5 => ⟨_, rfl, _, rfl, a, _, rfl, .inl ⟨kvsOf ks xs, Sum.inr kt, .inr ⟨od, s5 _ _ (s3 _ _ upd_same)⟩, rfl, (valV_at nd len ek ev).symm⟩, vv, y, rfl, th.same (lo.trans s5), fun c2 H6 hc2 s6 d6 => ?_⟩⟩
        · cases n with
          | zero => exact th.elim
          | succ m => exact .inl (.str kt)
        · refine ⟨(by show 2 ≤ sizeLine; decide), fun E hE => ?_⟩
          have s56 := s5.trans s6
          have nE3 := free_of s56 hE
          refine q.grow hD (y := keyD kt y) ?_ (s56.trans (Same.new2 (Same.refl _) hE)) (fun ys e => ?_) (by omega)
          · rw [List.getElem?_zipWith, ek, hy] <;> rfl
          · have nDE : E ≠ D := fun z => by
              rw [z, e] at nE3
              cases nE3
            have nB := free_of (q.same hD) nE3
            refine .lst (SqL.of (xs := [.ref c, .ref c2]) ((New.at (by rw [upd_ne nDE]; exact nB)).trans ?_)) (.cons (Dp.stay ?_ d5) (.cons (Dp.stay ?_ d6) .nil))
            · rw [upd_ne nDE, upd_same]
            · refine New.mono fun b o h1 h2 => ?_
              have n : b ≠ D := fun z => by
                rw [z, e] at h1
                cases h1
              have n2 : b ≠ E := ne_of_none (s6 _ _ h2) hE
              rw [upd_ne n, upd_ne n, upd_ne n2]
              exact ⟨free_of s3 h1, s6 _ _ h2⟩
            · refine New.mono fun b o h1 h2 => ?_
              have h1' := free_of s5 h1
              have n : b ≠ D := fun z => by
                rw [z, e] at h1'
                cases h1'
              have n2 : b ≠ E := ne_of_none h2 hE
              rw [upd_ne n, upd_ne n, upd_ne n2]
              exact ⟨free_of s3 h1', h2⟩
      · rintro H3 q
        refine ⟨q.same hD _ _ upd_same, (q.unlock hD (mk L hL _ _ ha)).done ?_ hL (klen.trans dlen.symm) (by omega) k⟩
        have nD : D ≠ a := fun z => by
          rw [z, upd_same] at hD
          cases hD
        exact (upd_ne nD).symm.trans hD
theorem ok_face (D' : Def K mg "_law_face" sFace ["_law_thing"] f fd) (Z : FreeT mg) : ∀ n, FnOk P w K mg base CX0 (n + 1) f fd ["_law_thing"] (spFace K n)
  | 0 => face_none
  | n + 1 => face_more D'.F D'.g D'.kp D'.b Z (ok_face D' Z n)
end
end Wb
/-! values of any sort, asked what they are -/
namespace Wb
open PySem L2 WbMin WbS
abbrev sLWhole : Stmt := top 23
/-- a text as it may be passed -/
structure Tx (l : List Nat) : Prop where
  few : l.length ≤ 2000
  cod : ∀ c ∈ l, c < 1000
theorem Tx.fits {l : List Nat} (h : Tx l) : (S l).length ≤ sizeLine := by
  rw [S_len, sizeLine_eq]
  have := h.few
  omega
/-- a value of any sort, the pool p no part of it; d its face -/
def Any (p : Addr) (H : Hp) (x : V) (d : PyData) : Prop := Thing (cut H p) 5 x d ∧ (∀ z, x = .str z → ∃ l, z = S l ∧ Tx l) ∧ (∀ i, x = .int i → i < 2 ^ 1000) ∧ d.canLay0 = true ∧ PyData.depth d ≤ 60
theorem cut_but {p : Addr} {H H' : Hp} (b : But p H H') : Same (cut H p) (cut H' p) := fun c o h => by
  unfold cut at h ⊢
  by_cases e : c = p
  · rw [if_pos e] at h
    cases h
  · rw [if_neg e] at h ⊢
    exact b _ _ e h
theorem Any.but {p : Addr} {H H' : Hp} {x : V} {d : PyData} (h : Any p H x d) (b : But p H H') : Any p H' x d := ⟨h.1.same (cut_but b), h.2⟩
theorem Any.same {p : Addr} {H H' : Hp} {x : V} {d : PyData} (h : Any p H x d) (s : Same H H') : Any p H' x d := ⟨h.1.same (cut_same s), h.2⟩
theorem Any.thing {p : Addr} {H : Hp} {x : V} {d : PyData} (h : Any p H x d) : Thing H 5 x d := h.1.same (cutH_to fun _ _ _ e => e)
/-- what is neither a text nor an integer -/
inductive Neither (H : Hp) : V → Prop where
  | non : Neither H .non
  | bl (b : Bool) : Neither H (.bl b)
  | lst {a : Addr} {xs : List V} (h : H a = some (.lst xs)) : Neither H (.ref a)
  | tup {a : Addr} {xs : List V} (h : H a = some (.tup xs)) : Neither H (.ref a)
  | dK {a : Addr} {xs : List (Key × V)} (h : H a = some (.dK xs)) : Neither H (.ref a)
theorem Neither.same {H H' : Hp} {x : V} (h : Neither H x) (s : Same H H') : Neither H' x := by
  cases h with
  | non => exact .non
  | bl b => exact .bl b
  | lst h => exact .lst (s _ _ h)
  | tup h => exact .tup (s _ _ h)
  | dK h => exact .dK (s _ _ h)
theorem Any.sort {p : Addr} {H : Hp} {x : V} {d : PyData} (h : Any p H x d) : (∃ l, x = .str (S l) ∧ Tx l) ∨ (∃ i, x = .int i) ∨ Neither H x := by
  have th := h.thing
  rcases th with lf | ⟨a, xs, ds, rfl, ha, _⟩ | ⟨a, xs, ds, rfl, ha, _⟩ | ⟨a, ks, xs, ds, rfl, ha, _⟩
  · cases lf with
    | non => exact .inr (.inr .non)
    | bl b => exact .inr (.inr (.bl b))
    | int i => exact .inr (.inl ⟨i, rfl⟩)
    | str z =>
      obtain ⟨l, rfl, t⟩ := h.2.1 z rfl
      exact .inl ⟨l, rfl, t⟩
  · exact .inr (.inr (.lst ha))
  · exact .inr (.inr (.tup ha))
  · exact .inr (.inr (.dK ha))
theorem Neither.str {H : Hp} {K : PySem.W.Frag} {x : V} (h : Neither H x) : ∃ t, TyX K H x t ∧ PySem.W.kitOne K t (.type "str") = some false := by
  cases h with
  | non => exact ⟨_, .base .non, kit_ty (by decide +kernel)⟩
  | bl b => exact ⟨_, .base (.bl b), kit_ty (by decide +kernel)⟩
  | lst h => exact ⟨_, .base (.lst h), kit_ty (by decide +kernel)⟩
  | tup h => exact ⟨_, .base (.tup h), kit_ty (by decide +kernel)⟩
  | dK h => exact ⟨_, .base (.dK h), kit_ty (by decide +kernel)⟩
theorem Neither.int {H : Hp} {K : PySem.W.Frag} {x : V} (h : Neither H x) : ∃ (t : Value) (b : Bool), TyX K H x t ∧ PySem.W.kitOne K t (.type "int") = some b ∧ (b = true → PySem.W.kitOne K t (.type "bool") = some true) := by
  cases h with
  | non => exact ⟨_, false, .base .non, kit_ty (by decide +kernel), fun z => by cases z⟩
  | bl b => exact ⟨_, true, .base (.bl b), kit_ty (by decide +kernel), fun _ => kit_ty (by decide +kernel)⟩
  | lst h => exact ⟨_, false, .base (.lst h), kit_ty (by decide +kernel), fun z => by cases z⟩
  | tup h => exact ⟨_, false, .base (.tup h), kit_ty (by decide +kernel), fun z => by cases z⟩
  | dK h => exact ⟨_, false, .base (.dK h), kit_ty (by decide +kernel), fun z => by cases z⟩
/-! ### the answers -/
def okc (c : Nat) : Bool := decide (97 ≤ c) && decide (c ≤ 122)
def isWB (l : List Nat) : Bool := decide (1 ≤ l.length) && decide (l.length ≤ 600) && l.all okc
theorem isWB_iff {l : List Nat} : isWB l = true ↔ IsW l := by
  unfold isWB
  rw [Bool.and_eq_true, Bool.and_eq_true, decide_eq_true_iff, decide_eq_true_iff, List.all_eq_true]
  constructor
  · rintro ⟨⟨a, b⟩, c⟩
    refine ⟨fun d hd => ?_, by omega, b⟩
    have q := c d hd
    unfold okc at q
    rw [Bool.and_eq_true, decide_eq_true_iff, decide_eq_true_iff] at q
    exact q
  · rintro ⟨a, b, c⟩
    refine ⟨⟨by omega, c⟩, fun d hd => ?_⟩
    unfold okc
    rw [Bool.and_eq_true, decide_eq_true_iff, decide_eq_true_iff]
    exact a d hd
/-- a word -/
def wordB : V → Bool
  | .str z => isWB z.cps.toList
  | _ => false
/-- a word of these signs -/
def goodW (sg : List Nat) : V → Bool
  | .str z => isWB z.cps.toList && z.cps.toList.all fun c => decide (c ∈ sg)
  | _ => false
def intB : V → Bool
  | .int _ => true
  | _ => false
/-- an integer from lo on -/
def goodI (lo : Int) : V → Bool
  | .int i => decide (lo ≤ i)
  | _ => false
theorem wordB_S {l : List Nat} : wordB (.str (S l)) = isWB l := congrArg isWB (S_cps l)
theorem goodW_S {sg l : List Nat} : goodW sg (.str (S l)) = (isWB l && l.all fun c => decide (c ∈ sg)) := by
  show (isWB (S l).cps.toList && (S l).cps.toList.all fun c => decide (c ∈ sg)) = _
  rw [S_cps]
theorem Neither.word {H : Hp} {x : V} (h : Neither H x) : wordB x = false := by cases h <;> rfl
theorem Neither.good {H : Hp} {x : V} {sg : List Nat} (h : Neither H x) : goodW sg x = false := by cases h <;> rfl
theorem Neither.intB {H : Hp} {x : V} (h : Neither H x) : intB x = false := by cases h <;> rfl
theorem Neither.goodI {H : Hp} {x : V} {lo : Int} (h : Neither H x) : goodI lo x = false := by cases h <;> rfl
def spIsWordA : Sp := fun vs H Q _ => ∃ (p : Addr) (x : V) (d : PyData), vs = [x] ∧ Any p H x d ∧ ∀ H', Same H H' → Q (.bl (wordB x)) H'
def spIsIntA : Sp := fun vs H Q _ => ∃ (p : Addr) (x : V) (d : PyData), vs = [x] ∧ Any p H x d ∧ Q (.bl (intB x)) H
section
variable {P : Program} {w : World} {K : PySem.W.Frag} {mg : Str → Option Value} {base : Heap} {f fI : Addr} {fd dI : FuncData}
theorem isint_body {Q : VK} {H : Hp} {p : Addr} {x : V} {d : PyData} (h : Any p H x d) (k : Q (.bl (intB x)) H) :
    ∃ (t : Value) (b : Bool), TyX K H x t ∧ PySem.W.kitOne K t (.type "int") = some b ∧ (b = false → Q (.bl false) H) ∧ (b = true → ∃ c, PySem.W.kitOne K t (.type "bool") = some c ∧ Q (.bl (!c)) H) := by
  rcases h.sort with ⟨l, rfl, _⟩ | ⟨i, rfl⟩ | n
  · exact ⟨_, false, .base (.str _), kit_ty (by decide +kernel), fun _ => k, fun z => by cases z⟩
  · exact ⟨_, true, .base (.int _), kit_ty (by decide +kernel), (fun z => by cases z), fun _ => ⟨false, kit_ty (by decide +kernel), k⟩⟩
  · obtain ⟨t, b, ty, ki, kb⟩ := n.int (K := K)
    rw [n.intB] at k
    exact ⟨t, b, ty, ki, fun _ => k, fun z => ⟨true, kb z, k⟩⟩
theorem ok_isintA (F : Fun K "is_integer" "is_integer" sIsInt f fd) (Z : Free mg) : FnOk P w K mg base CX0 1 f fd ["value"] spIsIntA := by
  refine F.ok scII (fun vs H Q E h => by obtain ⟨p, x, d, rfl, _⟩ := h; rfl) (fun cdv A outer s H vs Q E hr h => ?_)
  obtain ⟨p, x, d, rfl, ha, k⟩ := h
  refine ⟨_, pss_one (ps_ret (pe_and (pe_callB call_isi (by rfl) Z.isi (by decide +kernel) (pa_cons (pv 0) (pa_cons (pe_bltn (v := .ty "int") (u := .type "int") (by rfl) Z.int (by decide +kernel) rfl) pa_nil)))
      (pe_one (pe_not (pe_callB call_isi (by rfl) Z.isi (by decide +kernel) (pa_cons (pv 0) (pa_cons (pe_bltn (v := .ty "bool") (u := .type "bool") (by rfl) Z.bool (by decide +kernel) rfl) pa_nil))))))), ?_⟩
  obtain ⟨t, b, ty, ki, no, yes⟩ := isint_body (K := K) ha k
  cases b with
  | false => exact ⟨_, rfl, _, _, t, .type "int", false, rfl, .ty "int", ty, ki, false, rfl, no rfl⟩
  | true =>
    obtain ⟨c, kc, q⟩ := yes rfl
    exact ⟨_, rfl, _, _, t, .type "int", true, rfl, .ty "int", ty, ki, true, rfl, _, rfl, _, _, t, .type "bool", c, rfl, .ty "bool", ty, kc, _, rfl, q⟩
theorem scLW : FnScope ["_law_thing"] ["_law_thing"] (defScope sLWhole) := ⟨rfl, rfl, rfl, by decide +kernel, rfl, by decide +kernel, by decide +kernel⟩
theorem ok_lwhole (F : Fun K "_law_whole" "_law_whole" sLWhole f fd) (Z : Free mg) : FnOk P w K mg base CX0 1 f fd ["_law_thing"] spIsIntA := by
  refine F.ok scLW (fun vs H Q E h => by obtain ⟨p, x, d, rfl, _⟩ := h; rfl) (fun cdv A outer s H vs Q E hr h => ?_)
  obtain ⟨p, x, d, rfl, ha, k⟩ := h
  refine ⟨_, pss_one (ps_ret (pe_and (pe_callB call_isi (by rfl) Z.isi (by decide +kernel) (pa_cons (pv 0) (pa_cons (pe_bltn (v := .ty "int") (u := .type "int") (by rfl) Z.int (by decide +kernel) rfl) pa_nil)))
      (pe_one (pe_not (pe_callB call_isi (by rfl) Z.isi (by decide +kernel) (pa_cons (pv 0) (pa_cons (pe_bltn (v := .ty "bool") (u := .type "bool") (by rfl) Z.bool (by decide +kernel) rfl) pa_nil))))))), ?_⟩
  obtain ⟨t, b, ty, ki, no, yes⟩ := isint_body (K := K) ha k
  cases b with
  | false => exact ⟨_, rfl, _, _, t, .type "int", false, rfl, .ty "int", ty, ki, false, rfl, no rfl⟩
  | true =>
    obtain ⟨c, kc, q⟩ := yes rfl
    exact ⟨_, rfl, _, _, t, .type "int", true, rfl, .ty "int", ty, ki, true, rfl, _, rfl, _, _, t, .type "bool", c, rfl, .ty "bool", ty, kc, _, rfl, q⟩
set_option maxHeartbeats 0 in
theorem ok_iswordA (F : Fun K "is_word" "is_word" sIsWord f fd) (Z : Free mg) (t6 : Tok) (g6 : mg "MOST_WORD" = some (.int 600 t6)) : FnOk P w K mg base CX0 1 f fd ["value"] spIsWordA := by
  refine F.ok scIW (fun vs H Q E h => by obtain ⟨p, x, d, rfl, _⟩ := h; rfl) (fun cdv A outer s H vs Q E hr h => ?_)
  obtain ⟨p, x, d, rfl, ha, k⟩ := h
  refine ⟨_, pss_cons (ps_if (PW.pt (pw_or (pt_not (pt_val (pe_callB call_isi (by rfl) Z.isi (by decide +kernel) (pa_cons (pv 0) (pa_cons (pe_bltn (v := .ty "str") (u := .type "str") (by rfl) Z.str (by decide +kernel) rfl) pa_nil)))))
      (pw_or1 (pt_not (pt_chain op_le op_le pe_int (pe_callB call_len_str (by rfl) Z.len PySem.boot_len (pa_cons (pv 0) pa_nil)) (pe_glob (v := .int 600) (by rfl) g6 ⟨_, rfl⟩)))))) (pss_one (ps_ret pe_bl)) pss_nil)
    (pss_one (ps_ret (pe_callB (cr_all rfl) (by rfl) Z.all (by decide +kernel) (pa_cons
      (pe_lc (own := [("sign", 1)]) (g := gName 1) (tt := tYes) rfl scIW.nd (pi_str (pv 0)) (blkOk_by (N := ["value", "sign"]) (sc := defScope sIsWord) (by decide +kernel)) (fun _ _ _ _ _ => pg_name (i := 1) scIW.nd rfl (.inl rfl)) (fun _ _ _ _ _ => pts_nil)
        (fun _ _ _ _ _ => pe_chain op_le_str op_le_str pe_str (pv 1) pe_str)) pa_nil)))), ?_⟩
  rcases ha.sort with ⟨l, rfl, tl⟩ | ⟨i, rfl⟩ | n
  · rw [wordB_S] at k
    have few := tl.few
    refine ⟨_, rfl, _, _, .type "str", .type "str", true, rfl, .ty "str", .base (.str _), kit_ty (by decide +kernel), true, rfl, ?_⟩
    have no : ¬ (1 ≤ l.length ∧ l.length ≤ 600) → Q (.bl false) H := fun z => by
      have e : isWB l = false := by
        cases e : isWB l with
        | false => rfl
        | true =>
          have q := isWB_iff.mp e
          exact absurd ⟨q.pos, q.few⟩ z
      have q := k H (Same.refl H)
      rw [e] at q
      exact q
    refine ⟨_, rfl, _, rfl, tl.fits, _, _, rfl, rfl, _, rfl, ite2 (fun z1 => ?_) (fun z1 => ?_)⟩
    · have h1 : 1 ≤ l.length := by
        have q := of_decide_eq_true z1
        rw [S_len] at q
        omega
      refine ⟨_, _, rfl, rfl, _, rfl, ?_⟩
      by_cases h2 : l.length ≤ 600
      · refine iteNS (by rw [S_len]; omega) ?_
        refine ⟨_, rfl, _, rfl, fun D hD => lc_it walk_str (fun i H3 => H3 D = some (.lst (((l.take i).map okc).map V.bl)) ∧ Same H H3) ⟨upd_same, Same.put (Same.refl H) hD⟩ (fun _ _ _ _ => trivial) ?_ ?_⟩
        · rintro i x H3 H3' hi ⟨h1, h2⟩ ⟨rfl, c, hc, rfl⟩
          have hc' : l[i]? = some c := by simpa [S] using hc
          have la : (([c] : List Nat) < [97]) ↔ c < 97 := by rw [List.cons_lt_cons_iff]; simp
          have lz : (([122] : List Nat) < [c]) ↔ 122 < c := by rw [List.cons_lt_cons_iff]; simp
          have ea : ("a" : Str).cps.toList = [97] := by decide +kernel
          have ez : ("z" : Str).cps.toList = [122] := by decide +kernel
          have fin : ∀ b : Bool, b = okc c → (∃ acc : List V, H3' D = some (.lst acc) ∧ acc.length < sizeLine ∧ (L2.upd H3' D (.lst (acc ++ [V.bl b]))) D = some (.lst (((l.take (i + 1)).map okc).map V.bl)) ∧ Same H (L2.upd H3' D (.lst (acc ++ [V.bl b])))) := fun b eb => by
            refine ⟨_, h1, ?_, ?_, Same.new' h2 hD⟩
            · rw [List.length_map, List.length_map, sizeLine_eq]
              have := List.length_take_le' i l
              omega
            · rw [upd_same, take_more hc', List.map_append, List.map_append, eb] <;> rfl
          refine ⟨rfl, _, rfl, _, _, rfl, rfl, _, rfl, ?_⟩
          rw [ea]
          by_cases q1 : c < 97
          · have e : okc c = false := by unfold okc; rw [decide_eq_false (show ¬ 97 ≤ c by omega)]; rfl
            have q1' : (!decide ((⟨#[c]⟩ : Str).cps.toList < [97])) = false := by
              rw [decide_eq_true (show (⟨#[c]⟩ : Str).cps.toList < [97] from la.mpr q1)] <;> rfl
            rw [q1', if_neg Bool.false_ne_true]
            exact fin false e.symm
          · have q1' : (!decide ((⟨#[c]⟩ : Str).cps.toList < [97])) = true := by
              rw [decide_eq_false (show ¬ (⟨#[c]⟩ : Str).cps.toList < [97] from fun z => q1 (la.mp z))] <;> rfl
            rw [q1', if_pos rfl]
            refine ⟨_, _, rfl, rfl, ?_⟩
            rw [ez]
            refine fin _ ?_
            unfold okc
            rw [decide_eq_true (show 97 ≤ c by omega)]
            by_cases q2 : c ≤ 122
            · rw [decide_eq_true q2, decide_eq_false (show ¬ [122] < (⟨#[c]⟩ : Str).cps.toList from fun z => by have := lz.mp z; omega)] <;> rfl
            · rw [decide_eq_false q2, decide_eq_true (show [122] < (⟨#[c]⟩ : Str).cps.toList from lz.mpr (by omega))] <;> rfl
        · rintro H3 ⟨h1', h2'⟩
          refine ⟨D, _, rfl, SqL.of h1', ?_⟩
          have q := k H3 h2'
          have e : isWB l = ((l.take (S l).cps.size).map okc).all id := by
            rw [S_size, List.take_length, List.all_map]
            unfold isWB
            rw [decide_eq_true (show 1 ≤ l.length by omega), decide_eq_true h2] <;> rfl
          rw [e] at q
          exact q
      · refine iteS ?_ ?_
        · rw [S_len]; omega
        · exact no (fun z => h2 z.2)
    · refine ⟨_, rfl, no (fun z => z1 (decide_eq_true ?_))⟩
      rw [S_len]
      omega
  · exact ⟨_, rfl, _, _, .type "int", .type "str", false, rfl, .ty "str", .base (.int _), kit_ty (by decide +kernel), false, rfl, k H (Same.refl H)⟩
  · obtain ⟨t, ty, kt⟩ := n.str (K := K)
    rw [n.word] at k
    exact ⟨_, rfl, _, _, t, .type "str", false, rfl, .ty "str", ty, kt, false, rfl, k H (Same.refl H)⟩
theorem ok_oneA {c : Nat} (h : c < 1000) : PyData.strOk (one c) = true := by
  unfold PyData.strOk one
  rw [Array.all_eq_true]
  intro i hi
  have e : i = 0 := by
    have : i < 1 := hi
    omega
  subst e
  show decide _ = true
  simp only [decide_eq_true_eq]
  show c < _
  omega
end
end Wb
set_option maxHeartbeats 1000000
/-! a list comprehension where an exception is being handled -/
namespace Le
open PySem PySem.Spec PyProof.Rows L2 L2H
section
end
end Le
set_option maxHeartbeats 1000000
/-! walks over lists, tuples and a dict's keys while an exception is handled -/
namespace Le
open PySem PySem.Spec PyProof.Rows L2 L2H HotX
section
variable {prog : Program} {w : World} {A : Around} {E : Value → Shared → Prop} {s : Shared}
end
end Le
/-! the face of a thing, asked where an exception is being handled -/
namespace Le
open PySem PySem.Spec PyProof.Rows L2 L2H HotX
section
variable {P : Program} {w : World} {K : PySem.W.Frag} {tg : Expr} {d : Addr} {o : Obj} {es : Array DictEntry} {ep : Nat}
end
section
variable {P : Program} {w : World} {K : PySem.W.Frag} {mg : Str → Option Value} {base : Heap}
end
end Le
namespace Wb
open PySem L2 L2H Le
section
variable {P : Program} {w : World} {K : PySem.W.Frag} {mg : Str → Option Value} {base : Heap} {f : Addr} {fd : FuncData}
end
end Wb
/-! faces of own instances; lists that hold such faces compared -/
namespace Wb
open PySem L2 L2H WbMin WbS Lz Le
theorem kit_cb {K : PySem.W.Frag} {C : Addr} {T : String} (m : PySem.W.kitMeta T = true) (h : PySem.W.subIn K (.ref C) (.type T) = some false) : PySem.W.kitOne K (.ref C) (.type T) = some false := by
  unfold PySem.W.kitOne
  rw [if_neg (by intro z; have q := beq_iff_eq.mp z; cases q)]
  show (if PySem.W.kitMeta T = true then PySem.W.subIn K (.ref C) (.type T) else none) = some false
  rw [if_pos m]
  exact h
/-- what the face asks of an own class -/
structure FaceC (K : PySem.W.Frag) (C : Addr) : Prop where
  cl : Cls K C
  cc : PySem.W.findIn K (.ref C) "__class__" = some (some (.builtin "object.__class__"))
  cg : PySem.W.specialIn K (.builtin "object.__class__") "__get__" = some (some (.builtin "getset_descriptor.__get__"))
  ct : PySem.W.takesIn K (.builtin "object.__class__") = some true
  co : PySem.W.mroIn K C (.type "object") = some true
  st : PySem.W.subIn K (.ref C) (.type "tuple") = some false
  sl : PySem.W.subIn K (.ref C) (.type "list") = some false
  sd : PySem.W.subIn K (.ref C) (.type "dict") = some false
  sb : PySem.W.subIn K (.ref C) (.type "bool") = some false
def spFaceI (C : Addr) : Sp := fun vs H Q _ => ∃ (r dx : Addr) (fs : List (Str × V)), vs = [.ref r] ∧ H r = some (.ins C dx fs) ∧ ∀ (a : Addr) (H' : Hp), H a = none → Same H H' → H' a = some (.lst [.str "plain", .ref r]) → Q (.ref a) H'
section
variable {P : Program} {w : World} {K : PySem.W.Frag} {mg : Str → Option Value} {base : Heap} {f C : Addr} {fd : FuncData}
theorem FnH.either {CX : CXT} {k : Nat} {ps : List Str} {sp sp' : Sp} (F : FnH P w K mg base CX k f fd ps sp) (G : FnH P w K mg base CX k f fd ps sp') : FnH P w K mg base CX k f fd ps (fun vs H Q E => sp vs H Q E ∨ sp' vs H Q E) :=
  ⟨fun vs H Q E h => h.elim (F.len vs H Q E) (G.len vs H Q E), fun A outer s H args us vs Q E p hr hot pin e0 hb r h => h.elim (F.run A outer s H args us vs Q E p hr hot pin e0 hb r) (G.run A outer s H args us vs Q E p hr hot pin e0 hb r)⟩
set_option maxHeartbeats 0 in
theorem ok_faceI (D' : Def K mg "_law_face" sFace ["_law_thing"] f fd) (Z : FreeT mg) (FC : FaceC K C) : FnOk P w K mg base CX0 6 f fd ["_law_thing"] (spFaceI C) := by
  have D := D'.F
  have g := D'.g
  have kp := D'.kp
  have b := D'.b
  have G : FnOk P w K mg base CX0 5 f fd ["_law_thing"] (spFace K 4) := ok_face D' Z 4
  refine D.ok scFace (fun vs H Q E h => ?_) (fun cdv A outer s H vs Q E hr h => ?_)
  · obtain ⟨r, dx, fs, rfl, _⟩ := h
    rfl
  · obtain ⟨r, dx, fs, rfl, hR, k⟩ := h
    refine ⟨_, pss_cons (ps_if (pt_val (pe_callB call_isi (by rfl) Z.isi (by decide +kernel) (pa_cons (pv 0) (pa_cons (pe_bltn (v := .ty "tuple") (u := .type "tuple") (by rfl) Z.tup (by decide +kernel) rfl) pa_nil))))
        (pss_one (ps_ret (pe_op op_cat (pe_lst (pa_cons pe_str pa_nil))
          (pe_lc (own := [("_law_part", 1)]) (g := gName 1) (tt := tYes) rfl scFace.nd (pi_tup (pv 0)) (blkOk_by (N := NF) (sc := defScope sFace) (by decide +kernel)) (fun _ _ _ _ _ => pg_name (i := 1) scFace.nd rfl (.inl rfl)) (fun _ _ _ _ _ => pts_nil)
            (fun _ _ _ _ _ => pe_call G hr rfl g kp b .nil pass0 (pa_cons (pv 1) pa_nil)))))) pss_nil)
      (pss_cons (ps_if (pt_val (pe_callB call_isi (by rfl) Z.isi (by decide +kernel) (pa_cons (pv 0) (pa_cons (pe_bltn (v := .ty "list") (u := .type "list") (by rfl) Z.lst (by decide +kernel) rfl) pa_nil))))
        (pss_one (ps_ret (pe_op op_cat (pe_lst (pa_cons pe_str pa_nil))
          (pe_lc (own := [("_law_part", 1)]) (g := gName 1) (tt := tYes) rfl scFace.nd (pi_list (pv 0)) (blkOk_by (N := NF) (sc := defScope sFace) (by decide +kernel)) (fun _ _ _ _ _ => pg_name (i := 1) scFace.nd rfl (.inl rfl)) (fun _ _ _ _ _ => pts_nil)
            (fun _ _ _ _ _ => pe_call G hr rfl g kp b .nil pass0 (pa_cons (pv 1) pa_nil)))))) pss_nil)
      (pss_cons (ps_if (pt_val (pe_callB call_isi (by rfl) Z.isi (by decide +kernel) (pa_cons (pv 0) (pa_cons (pe_bltn (v := .ty "dict") (u := .type "dict") (by rfl) Z.dct (by decide +kernel) rfl) pa_nil))))
        (pss_one (ps_ret (pe_op op_cat (pe_lst (pa_cons pe_str pa_nil))
          (pe_lock (pe_lc (own := [("_law_key", 2)]) (g := gName 2) (tt := tYes) rfl scFace.nd (pi_keys (pv 0)) (blkOk_by (N := NF) (sc := defScope sFace) (by decide +kernel)) (fun _ _ _ _ _ => pg_name (i := 2) scFace.nd rfl (.inl rfl)) (fun _ _ _ _ _ => pts_nil)
            (fun _ _ _ _ _ => pe_lst (pa_cons (pe_call G hr rfl g kp b .nil pass0 (pa_cons (pv 2) pa_nil)) (pa_cons (pe_call G hr rfl g kp b .nil pass0 (pa_cons (pe_dget (hu_of hr) (pv 0) (pv 2) (fun _ _ => rfl)) pa_nil)) pa_nil)))))))) pss_nil)
      (pss_one (ps_ret (pe_lst (pa_cons (pe_ifExp (pt_val (pe_callB call_isi (by rfl) Z.isi (by decide +kernel) (pa_cons (pv 0) (pa_cons (pe_bltn (v := .ty "bool") (u := .type "bool") (by rfl) Z.bool (by decide +kernel) rfl) pa_nil)))) pe_str pe_str) (pa_cons (pv 0) pa_nil))))))), ?_⟩
    have tt : TyX K H (.ref r) (.ref C) := .base (.ins hR FC.cl FC.cc FC.cg FC.ct FC.co)
    refine ⟨_, rfl, _, _, .ref C, .type "tuple", false, rfl, .ty "tuple", tt, kit_cb (by decide +kernel) FC.st, false, rfl, iteF ?_⟩
    refine ⟨_, rfl, _, _, .ref C, .type "list", false, rfl, .ty "list", tt, kit_cb (by decide +kernel) FC.sl, false, rfl, iteF ?_⟩
    refine ⟨_, rfl, _, _, .ref C, .type "dict", false, rfl, .ty "dict", tt, kit_cb (by decide +kernel) FC.sd, false, rfl, iteF ?_⟩
    refine ⟨_, rfl, _, _, .ref C, .type "bool", false, rfl, .ty "bool", tt, kit_cb (by decide +kernel) FC.sb, false, rfl, iteF ?_⟩
    exact ⟨_, rfl, (by show 2 ≤ sizeLine; decide), fun q hq => k q _ hq (Same.put (Same.refl H) hq) upd_same⟩
end
/-! ### a word and the face of one instance, twice -/
section
variable {X : Cx}
def rNeF : R2 := fun x y H Q => ∃ (a b a2 b2 r : Addr) (wd pl : Str), x = .ref a ∧ y = .ref b ∧ H a = some (.lst [.str wd, .ref a2]) ∧ H b = some (.lst [.str wd, .ref b2]) ∧ H a2 = some (.lst [.str pl, .ref r]) ∧ H b2 = some (.lst [.str pl, .ref r]) ∧ Q (.bl false) H
theorem two_vals {x y : V} {its : List Value} (h : Vals [x, y] its) : ∃ u v, its = [u, v] ∧ RelV x u ∧ RelV y v := by
  cases h with
  | cons r t =>
    cases t with
    | cons r2 t2 =>
      cases t2
      exact ⟨_, _, rfl, r, r2⟩
theorem eq_word {A : Around} {s : Shared} (z : Str) (t u : Tok) : SeqAt.EqAt A s (.str z t) (.str z u) true := by
  have h := SeqAt.EqAt.str_str (A := A) (s := s) z t z u
  rw [beq_self_eq_true] at h
  exact h
theorem op_neF (hu : X.A.units + 65 < cLine) : OpR X (compareOp .NotEq) rNeF := by
  intro pins s σ H x y v u Q I rx ry h
  obtain ⟨a, b, a2, b2, r, wd, pl, rfl, rfl, h1, h2, h3, h4, q⟩ := h
  cases rx
  cases ry
  obtain ⟨i1, r1, p1, _⟩ := I.list (SqL.of h1)
  obtain ⟨i2, r2, p2, _⟩ := I.list (SqL.of h2)
  obtain ⟨i3, r3, p3, _⟩ := I.list (SqL.of h3)
  obtain ⟨i4, r4, p4, _⟩ := I.list (SqL.of h4)
  obtain ⟨_, _, rfl, ⟨t1, rfl⟩, e1⟩ := two_vals r1
  obtain ⟨_, _, rfl, ⟨t2, rfl⟩, e2⟩ := two_vals r2
  obtain ⟨_, _, rfl, ⟨t3, rfl⟩, e3⟩ := two_vals r3
  obtain ⟨_, _, rfl, ⟨t4, rfl⟩, e4⟩ := two_vals r4
  cases e1
  cases e2
  cases e3
  cases e4
  have u1 : X.A.in1.units < cLine := by
    show X.A.units + 1 < cLine
    omega
  have inner : SeqAt.EqAt X.A.in1 s (.ref a2) (.ref b2) true := by
    by_cases e : a2 = b2
    · subst e
      exact SeqAt.EqAt.same _
    · refine SeqAt.EqAt.of_refs e ?_
      refine SeqAt.RcAt.lists (e := fun _ => true) p3.isList p4.isList rfl u1 fun j j1 j2 => ?_
      have : j = 0 ∨ j = 1 := by
        have : j < 2 := j1
        omega
      rcases this with rfl | rfl
      · exact eq_word pl t3 t4
      · exact SeqAt.EqAt.same _
  refine SeqAt.RcNeAt.lists (e := fun _ => true) p1.isList p2.isList rfl (by omega) (fun j j1 j2 => ?_) X.prog X.w _ _ ⟨.bl false, H, I, rfl, q⟩
  have : j = 0 ∨ j = 1 := by
    have : j < 2 := j1
    omega
  rcases this with rfl | rfl
  · exact eq_word wd t1 t2
  · exact inner
end
end Wb
set_option maxHeartbeats 1000000
/-! o op y by o's own method, y of any built-in type -/
namespace PySem.W
open PySem Sem PySem.Calls PyProof.Rows Builtin
section
variable {prog : Program} {w : World} {A : Around} {E : Value → Shared → Prop} {s : Shared} {K : Frag} {base : Heap} {L a : Addr} {m : Str → Option Value} {oa : Obj} {C f : Addr} {od : Option Obj} {t : String}
/-- the left operand's own method, the right one's type is known by a look -/
theorem left_own {op : Operator} {y : Value} {fo ro rc : Option Value} {Q : Value → Shared → Prop} (fr : Fr base L s.heap m) (kin : K.In base) (inst : InstAt s.heap a oa C od) (ty : Looks (model prog w) s.heap (typeOf y) (.type t)) (first_ : selfFirst K C = true)
    (own : findIn K (.ref C) (PySem.dunder op.info.2) = some (some (.ref f))) (fn : isFn K (.ref f) = true) (rev : findIn K (.ref C) (dunderR op.info.2) = some rc) (py : rc = none ∨ ∃ g : Addr, rc = some (.ref g))
    (its : findIn K (.type t) (PySem.dunder op.info.2) = some fo) (itsR : findIn K (.type t) (dunderR op.info.2) = some ro) (sub : subIn K (.type t) (.ref C) = some false)
    (run : wpAny (model prog w) A (call (.ref f) [.ref a, y]) (CmpBack Q) E s) : wpAny (model prog w) A (binaryOp op (.ref a) y) Q E s := by
  have X := kin.keeps fr.keep
  obtain ⟨cd, rest, inCls, mro⟩ := ksp_first first_
  obtain ⟨sym, nm, ei⟩ : ∃ sym nm, op.info = (sym, nm) := ⟨op.info.1, op.info.2, rfl⟩
  rw [ei] at own rev its itsR
  dsimp only at own rev its itsR
  have tried := ksp_try X inst own fn run
  obtain ⟨hp, gs, dr, tk, os⟩ := s
  have l1 : Looks (model prog w) hp (typeOf (.ref a)) (.ref C) := inst.type
  have l2 : Looks (model prog w) hp (typeOf y) (.type t) := ty
  have l3 : Looks (model prog w) hp (fillsNumberSlot (.ref C) nm) true := fills_K X inCls mro own
  have l4 : Looks (model prog w) hp (fillsNumberSlot (.type t) nm) ((fo.isSome && !isSeqSlot fo) || (ro.isSome && !isSeqSlot ro)) := ksp_fillsT X its itsR
  have l5 : Looks (model prog w) hp (isSubtype (.type t) (.ref C)) false := looks_subIn X sub
  have l6 : Looks (model prog w) hp (numberSlotInPython (.ref C) nm) true := ksp_inPy X own rev py
  have l7 : Looks (model prog w) hp (numberSlotInPython (.type t) nm) false := Looks.of_pure rfl
  have l8 : Looks (model prog w) hp (typeLookup (.type t) (dunderR nm)) ro := looks_findIn X itsR
  obtain ⟨right, er⟩ : ∃ right, ((fo.isSome && !isSeqSlot fo) || (ro.isSome && !isSeqSlot ro)) = right := ⟨_, rfl⟩
  rw [er] at l4
  have unlike : (Value.ref C == Value.type t) = false := Bool.eq_false_iff.mpr fun q => by cases beq_iff_eq.mp q
  simp only [binaryOp, ei] ; refine wpAny_holding (wpAny_bind ?_) ; unfold binaryOp1
  refine wpAny_bind (l1.at (wpAny_bind (l2.at (wpAny_bind (l3.at ?_)))))
  simp only [unlike, Bool.false_eq_true, if_false]
  cases right with
  | false =>
    ksp_lk
    refine wpAny_mono tried (fun r s' back => ?_) fun _ _ e => e
    obtain ⟨v, rfl, q⟩ := back
    ksp_lk
    exact q
  | true =>
    ksp_lk
    refine wpAny_mono tried (fun r s' back => ?_) fun _ _ e => e
    obtain ⟨v, rfl, q⟩ := back
    ksp_lk
    exact q
end
end PySem.W
namespace Le
open PySem PySem.Spec PyProof.Rows L2
/-- what the class and a built-in type say of an operator -/
structure OpT (K : PySem.W.Frag) (C : Addr) (nm : String) (t : String) : Prop where
  its : ∃ fo, PySem.W.findIn K (.type t) (PySem.dunder nm) = some fo
  itsR : ∃ ro, PySem.W.findIn K (.type t) (PySem.dunderR nm) = some ro
  sub : PySem.W.subIn K (.type t) (.ref C) = some false
section
variable {X : Cx} {CX : CXT} {k : Nat} {C g : Addr} {fd : FuncData} {ps : List Str} {sp : Sp} {E : XK} {op : Operator}
def rOpU (K : PySem.W.Frag) (C : Addr) (nm : String) (sp : Sp) (E : XK) : R2 := fun x y H Q => ∃ (a dx : Addr) (fs : List (Str × V)) (t : String), x = .ref a ∧ H a = some (.ins C dx fs) ∧ TyX K H y (.type t) ∧ OpT K C nm t ∧ sp [.ref a, y] H Q E
theorem op_U (sf : PySem.W.selfFirst X.K C = true) (own : PySem.W.findIn X.K (.ref C) (PySem.dunder op.info.2) = some (some (.ref g))) (fn : PySem.W.isFn X.K (.ref g) = true) {rc : Option Value} (rev : PySem.W.findIn X.K (.ref C) (PySem.dunderR op.info.2) = some rc) (py : rc = none ∨ ∃ g : Addr, rc = some (.ref g))
    (F : FnOk X.prog X.w X.K X.mg X.base CX k g fd ps sp) (hr : Room k X.A) (hb : Binds X.K fd ps []) (hx : Passes CX X E) : OpR X (binaryOp op) (rOpU X.K C op.info.2 sp E) := by
  intro pins s σ H x y v u Q I rx ry h
  obtain ⟨a, dx, fs, t, rfl, ha, ty, T, q⟩ := h
  cases (show v = Value.ref a from rx)
  obtain ⟨mA, O, _⟩ := ins_get I.hok ha
  obtain ⟨od, J, _⟩ := O.look
  obtain ⟨m, hF⟩ := I.fr
  obtain ⟨Pp, kx, hP, _⟩ := kit_of I ry ty
  obtain ⟨_, i1⟩ := T.its
  obtain ⟨_, i2⟩ := T.itsR
  refine PySem.W.left_own hF I.ok.mod.kin J (kx.ty _ _ I.kIn hP) sf own fn rev py i1 i2 T.sub ?_
  have len : ([Value.ref a, u] ++ ([] : List Value)).length = ps.length := by
    rw [← F.len _ _ _ _ q]
    rfl
  have bound := hb s [.ref a, u] I.kIn len
  rw [List.append_nil] at bound
  refine wpAny_call (codeAny_mono (F.run X.A X.stack s H ⟨[.ref a, u], []⟩ [.ref a, u] [.ref a, y] Q E hr I.env0 bound (.cons rfl (.cons ry .nil)) q) fun res s' done => ?_)
  cases res with
  | error e => exact hx pins σ H s e s' I done
  | ok fl =>
    cases fl with
    | ret z =>
      obtain ⟨z', H', I', rz, qz⟩ := I.after done
      exact SlX.cmpback rz ⟨z', H', I', rz, qz⟩
    | next => exact False.elim done
    | brk => exact False.elim done
    | cont => exact False.elim done
end
end Le
set_option maxHeartbeats 1000000
/-! o op p by o's own method, p of another own class that knows nothing of the operator -/
namespace PySem.W
open PySem Sem PySem.Calls PyProof.Rows Builtin
/-- a class of one's own that stands right under object -/
def mroTwo (K : Frag) (C : Addr) : Bool := match clsIn K C with
  | some cd => match cd.mro with
    | [.ref c, .type t] => c == C && t == "object"
    | _ => false
  | none => false
theorem mro_two {K : Frag} {C : Addr} (h : mroTwo K C = true) : ∃ cd, clsIn K C = some cd ∧ cd.mro = [.ref C, .type "object"] := by
  unfold mroTwo at h
  split at h
  · rename_i cd e
    split at h
    · rename_i c t e2
      rw [Bool.and_eq_true] at h
      obtain ⟨e3, e4⟩ := h
      have e3 := beq_iff_eq.mp e3
      have e4 := beq_iff_eq.mp e4
      subst e3 e4
      exact ⟨cd, e, e2⟩
    · cases h
  · cases h
section
variable {prog : Program} {w : World} {A : Around} {E : Value → Shared → Prop} {s : Shared} {K : Frag} {base : Heap} {L a : Addr} {m : Str → Option Value} {oa : Obj} {C D f : Addr} {od : Option Obj}
theorem fills_not {M : Model} {h : Heap} {nm : String} (X : K.In h) (two : mroTwo K D = true) (n1 : findIn K (.ref D) (PySem.dunder nm) = some none) (n2 : findIn K (.ref D) (dunderR nm) = some none)
    (n3 : findIn K (.type "object") (PySem.dunder nm) = some none) (n4 : findIn K (.type "object") (dunderR nm) = some none) : Looks M h (fillsNumberSlot (.ref D) nm) false := by
  intro A Q E s k q
  obtain ⟨cd, inC, mro⟩ := mro_two two
  unfold fillsNumberSlot
  refine wpAny_bind ((looks_clsIn X inC).andThen (f := fun cd : ClassData => Pure.pure cd.mro) .now A _ E s k ?_)
  rw [mro, List.anyM_cons]
  refine wpAny_bind ?_
  show wpAny M A (List.anyM _ [PySem.dunder nm, dunderR nm]) _ _ _
  rw [List.anyM_cons]
  refine wpAny_bind (wpAny_bind (looks_findIn X n1 A _ E s k ?_))
  refine wpAny_pure ?_
  rw [if_neg Bool.false_ne_true, List.anyM_cons]
  refine wpAny_bind (wpAny_bind (looks_findIn X n2 A _ E s k ?_))
  refine wpAny_pure ?_
  rw [if_neg Bool.false_ne_true, List.anyM_nil]
  refine wpAny_pure ?_
  rw [if_neg Bool.false_ne_true, List.anyM_cons]
  refine wpAny_bind (wpAny_bind (looks_findIn X n3 A _ E s k ?_))
  refine wpAny_bind (looks_findIn X n4 A _ E s k ?_)
  refine wpAny_pure ?_
  show wpAny M A (if (false || false) = true then _ else _) _ _ _
  rw [if_neg (by decide), List.anyM_nil]
  exact wpAny_pure q
theorem left_alone {op : Operator} {y : Value} {Q : Value → Shared → Prop} (fr : Fr base L s.heap m) (kin : K.In base) (inst : InstAt s.heap a oa C od) (ty : Looks (model prog w) s.heap (typeOf y) (.ref D)) (first_ : selfFirst K C = true)
    (own : findIn K (.ref C) (PySem.dunder op.info.2) = some (some (.ref f))) (fn : isFn K (.ref f) = true) (ne : C ≠ D) (two : mroTwo K D = true) (n1 : findIn K (.ref D) (PySem.dunder op.info.2) = some none) (n2 : findIn K (.ref D) (dunderR op.info.2) = some none)
    (n3 : findIn K (.type "object") (PySem.dunder op.info.2) = some none) (n4 : findIn K (.type "object") (dunderR op.info.2) = some none)
    (run : wpAny (model prog w) A (call (.ref f) [.ref a, y]) (CmpBack Q) E s) : wpAny (model prog w) A (binaryOp op (.ref a) y) Q E s := by
  have X := kin.keeps fr.keep
  obtain ⟨cd, rest, inCls, mro⟩ := ksp_first first_
  obtain ⟨sym, nm, ei⟩ : ∃ sym nm, op.info = (sym, nm) := ⟨op.info.1, op.info.2, rfl⟩
  rw [ei] at own n1 n2 n3 n4
  dsimp only at own n1 n2 n3 n4
  have tried := ksp_try X inst own fn run
  have l4 : Looks (model prog w) s.heap (fillsNumberSlot (.ref D) nm) false := fills_not X two n1 n2 n3 n4
  obtain ⟨hp, gs, dr, tk, os⟩ := s
  have l1 : Looks (model prog w) hp (typeOf (.ref a)) (.ref C) := inst.type
  have l2 : Looks (model prog w) hp (typeOf y) (.ref D) := ty
  have l3 : Looks (model prog w) hp (fillsNumberSlot (.ref C) nm) true := fills_K X inCls mro own
  have l4 : Looks (model prog w) hp (fillsNumberSlot (.ref D) nm) false := l4
  have unlike : (Value.ref C == Value.ref D) = false := Bool.eq_false_iff.mpr fun q => by
    have e := beq_iff_eq.mp q
    injection e with e
    exact ne e
  simp only [binaryOp, ei]
  refine wpAny_holding (wpAny_bind ?_)
  unfold binaryOp1
  refine wpAny_bind (l1.at (wpAny_bind (l2.at (wpAny_bind (l3.at ?_)))))
  simp only [unlike, Bool.false_eq_true, if_false]
  ksp_lk
  refine wpAny_mono tried (fun r s' back => ?_) fun _ _ e => e
  obtain ⟨v, rfl, q⟩ := back
  ksp_lk
  exact q
end
end PySem.W
namespace Le
open PySem PySem.Spec PyProof.Rows L2
/-- what an own class says of an operator: nothing -/
structure OpN (K : PySem.W.Frag) (C D : Addr) (nm : String) : Prop where
  ne : C ≠ D
  two : PySem.W.mroTwo K D = true
  n1 : PySem.W.findIn K (.ref D) (PySem.dunder nm) = some none
  n2 : PySem.W.findIn K (.ref D) (PySem.dunderR nm) = some none
  n3 : PySem.W.findIn K (.type "object") (PySem.dunder nm) = some none
  n4 : PySem.W.findIn K (.type "object") (PySem.dunderR nm) = some none
section
variable {X : Cx} {CX : CXT} {k : Nat} {C g : Addr} {fd : FuncData} {ps : List Str} {sp : Sp} {E : XK} {op : Operator}
/-- o op y: y of o's class, of another own one, or of a built-in type -/
def rOpW (K : PySem.W.Frag) (C : Addr) (nm : String) (sp : Sp) (E : XK) : R2 := fun x y H Q => ∃ (a dx : Addr) (fs : List (Str × V)), x = .ref a ∧ H a = some (.ins C dx fs) ∧
  ((∃ t : String, TyX K H y (.type t) ∧ OpT K C nm t) ∨ (∃ (b dy : Addr) (gs : List (Str × V)), y = .ref b ∧ H b = some (.ins C dy gs)) ∨ ∃ (D b dy : Addr) (gs : List (Str × V)), y = .ref b ∧ H b = some (.ins D dy gs) ∧ OpN K C D nm) ∧ sp [.ref a, y] H Q E
theorem op_W (sf : PySem.W.selfFirst X.K C = true) (own : PySem.W.findIn X.K (.ref C) (PySem.dunder op.info.2) = some (some (.ref g))) (fn : PySem.W.isFn X.K (.ref g) = true) {rc : Option Value} (rev : PySem.W.findIn X.K (.ref C) (PySem.dunderR op.info.2) = some rc) (py : rc = none ∨ ∃ g : Addr, rc = some (.ref g))
    (F : FnOk X.prog X.w X.K X.mg X.base CX k g fd ps sp) (hr : Room k X.A) (hb : Binds X.K fd ps []) (hx : Passes CX X E) : OpR X (binaryOp op) (rOpW X.K C op.info.2 sp E) := by
  intro pins s σ H x y v u Q I rx ry h
  obtain ⟨a, dx, fs, rfl, ha, way, q⟩ := h
  rcases way with ⟨t, ty, T⟩ | ⟨b, dy, gs, rfl, hb2⟩ | ⟨D, b, dy, gs, rfl, hb2, N⟩
  · exact op_U sf own fn rev py F hr hb hx pins s σ H _ y v u Q I rx ry ⟨a, dx, fs, t, rfl, ha, ty, T, q⟩
  all_goals
    cases (show v = Value.ref a from rx)
    cases (show u = Value.ref b from ry)
    obtain ⟨mA, O, _⟩ := ins_get I.hok ha
    obtain ⟨od, J, _⟩ := O.look
    obtain ⟨mB, O', _⟩ := ins_get I.hok hb2
    obtain ⟨od', J', _⟩ := O'.look
    obtain ⟨m, hF⟩ := I.fr
    have run : wpAny (model X.prog X.w) X.A (call (.ref g) [.ref a, .ref b]) (PySem.W.CmpBack (EP X pins σ Q)) X.xe s := by
      have len : ([Value.ref a, Value.ref b] ++ ([] : List Value)).length = ps.length := by
        rw [← F.len _ _ _ _ q]
        rfl
      have bound := hb s [.ref a, .ref b] I.kIn len
      rw [List.append_nil] at bound
      refine wpAny_call (codeAny_mono (F.run X.A X.stack s H ⟨[.ref a, .ref b], []⟩ [.ref a, .ref b] [.ref a, .ref b] Q E hr I.env0 bound (.cons rfl (.cons rfl .nil)) q) fun res s' done => ?_)
      cases res with
      | error e => exact hx pins σ H s e s' I done
      | ok fl =>
        cases fl with
        | ret z =>
          obtain ⟨z', H', I', rz, qz⟩ := I.after done
          exact SlX.cmpback rz ⟨z', H', I', rz, qz⟩
        | next => exact False.elim done
        | brk => exact False.elim done
        | cont => exact False.elim done
  · exact PySem.W.binop_K (op := op) hF I.ok.mod.kin J J'.type sf own fn run
  · exact PySem.W.left_alone hF I.ok.mod.kin J J'.type sf own fn N.ne N.two N.n1 N.n2 N.n3 N.n4 run
end
end Le
/-! o == v, o != v with a v of any type (out of k08's WbE) -/
namespace WbO
open PySem PySem.Spec PyProof.Rows L2
section
variable {X : Cx} {CX : CXT} {k : Nat} {C g : Addr} {fd : FuncData} {ps : List Str} {sp : Sp} {E : XK}
end
end WbO
/-! lists whose last items are compared by an own __eq__ -/
namespace PySem.SeqAt
open AutoSeq1 (wpAny_loadPart')
open MeetsSeq MeetsSeq2 MeetsSeq3
section
variable {prog : Program} {w : World} {items items2 : Array Value} {x1 x2 y1 y2 : Value}
/-- what lies at both lists -/
def Both2 (l b : Addr) (items items2 : Array Value) (n n2 : Nat) (dd dd2 : Option Addr) (sl sl2 : Array (Option Value)) (s : Shared) : Prop :=
  s.heap.get? l = some { cls := .type "list", dict := dd, data := .seq items n, slots := sl } ∧ s.heap.get? b = some { cls := .type "list", dict := dd2, data := .seq items2 n2, slots := sl2 }
/-- two lists of two -/
def Pair2 (l b : Addr) (s : Shared) : Prop := ∃ (items items2 : Array Value) (n n2 : Nat) (dd dd2 : Option Addr) (sl sl2 : Array (Option Value)), Both2 l b items items2 n n2 dd dd2 sl sl2 s ∧ items.size = 2 ∧ items2.size = 2
theorem ne_loop2 (hi : items = #[x1, x2]) (hi2 : items2 = #[y1, y2]) (l b : Addr) (n n2 : Nat) (dd dd2 : Option Addr) (sl sl2 : Array (Option Value)) :
    MeetsIn prog w (Builtin.«list.__eq__.loop» ⟨[.ref l, .ref b, rawInt 0, rawInt 3], []⟩)
      (fun A R s => Both2 l b items items2 n n2 dd dd2 sl sl2 s ∧ EqAt A.in1 s x1 y1 true ∧
        wpAny (model prog w) A.in1 (eqBool x2 y2) (fun c s' => c = true ∧ Pair2 l b s' ∧ R (.ok (.ret (.bool false))) s') (fun e s' => R (.error e) s') s) := by
  intro A R s h
  obtain ⟨hp, g, d, tk, os⟩ := s; obtain ⟨⟨hl, hb⟩, e1, e2⟩ := h
  have f0 : items[(0 : Int).toNat]? = some x1 := by rw [hi] <;> rfl
  have g0 : items2[(0 : Int).toNat]? = some y1 := by rw [hi2] <;> rfl
  have f1 : items[((0 : Int) + 1).toNat]? = some x2 := by rw [hi] <;> rfl
  have g1 : items2[((0 : Int) + 1).toNat]? = some y2 := by rw [hi2] <;> rfl
  clear hi hi2
  wp_walk using wpAny_loadPart' hl, wpAny_loadPart' hb
  rw [f0, g0]
  refine wpAny_bind (e1 prog w _ _ ?_)
  wp_walk
  refine ⟨plainId_quiet plain_eq_loop _, codeAny_builtin entry_eq_loop ?_⟩
  rw [Around.under_plainId plain_eq_loop _]
  wp_walk using wpAny_loadPart' hl, wpAny_loadPart' hb
  rw [f1, g1]
  refine wpAny_bind (wpAny_mono e2 (fun c s' z => ?_) fun _ _ e => e)
  obtain ⟨rfl, ⟨its, its2, m, m2, ee, ee2, sm, sm2, ⟨hl', hb'⟩, sz1, sz2⟩, q⟩ := z
  have f2 : its[((0 : Int) + 1 + 1).toNat]? = none := Array.getElem?_eq_none (by rw [sz1]; decide)
  have g2 : its2[((0 : Int) + 1 + 1).toNat]? = none := Array.getElem?_eq_none (by rw [sz2]; decide)
  obtain ⟨hp', g', d', tk', os'⟩ := s'
  wp_walk
  refine ⟨plainId_quiet plain_eq_loop _, codeAny_builtin entry_eq_loop ?_⟩
  rw [Around.under_plainId plain_eq_loop _]
  wp_walk using wpAny_loadPart' hl', wpAny_loadPart' hb'
  rw [f2, g2]
  wp_walk using wpAny_loadPart' hl', wpAny_loadPart' hb'
  show R (.ok (.ret (.bool (its.size != its2.size)))) _
  rw [sz1, sz2]
  exact q
theorem eq_loop2 (hi : items = #[x1, x2]) (hi2 : items2 = #[y1, y2]) (l b : Addr) (n n2 : Nat) (dd dd2 : Option Addr) (sl sl2 : Array (Option Value)) :
    MeetsIn prog w (Builtin.«list.__eq__.loop» ⟨[.ref l, .ref b, rawInt 0, rawInt 2], []⟩)
      (fun A R s => Both2 l b items items2 n n2 dd dd2 sl sl2 s ∧ EqAt A.in1 s x1 y1 true ∧
        wpAny (model prog w) A.in1 (eqBool x2 y2) (fun c s' => c = true ∧ Pair2 l b s' ∧ R (.ok (.ret (.bool true))) s') (fun e s' => R (.error e) s') s) := by
  intro A R s h
  obtain ⟨hp, g, d, tk, os⟩ := s; obtain ⟨⟨hl, hb⟩, e1, e2⟩ := h
  have f0 : items[(0 : Int).toNat]? = some x1 := by rw [hi] <;> rfl
  have g0 : items2[(0 : Int).toNat]? = some y1 := by rw [hi2] <;> rfl
  have f1 : items[((0 : Int) + 1).toNat]? = some x2 := by rw [hi] <;> rfl
  have g1 : items2[((0 : Int) + 1).toNat]? = some y2 := by rw [hi2] <;> rfl
  clear hi hi2
  wp_walk using wpAny_loadPart' hl, wpAny_loadPart' hb
  rw [f0, g0]
  refine wpAny_bind (e1 prog w _ _ ?_)
  wp_walk
  refine ⟨plainId_quiet plain_eq_loop _, codeAny_builtin entry_eq_loop ?_⟩
  rw [Around.under_plainId plain_eq_loop _]
  wp_walk using wpAny_loadPart' hl, wpAny_loadPart' hb
  rw [f1, g1]
  refine wpAny_bind (wpAny_mono e2 (fun c s' z => ?_) fun _ _ e => e)
  obtain ⟨rfl, ⟨its, its2, m, m2, ee, ee2, sm, sm2, ⟨hl', hb'⟩, sz1, sz2⟩, q⟩ := z
  have f2 : its[((0 : Int) + 1 + 1).toNat]? = none := Array.getElem?_eq_none (by rw [sz1]; decide)
  have g2 : its2[((0 : Int) + 1 + 1).toNat]? = none := Array.getElem?_eq_none (by rw [sz2]; decide)
  obtain ⟨hp', g', d', tk', os'⟩ := s'
  wp_walk
  refine ⟨plainId_quiet plain_eq_loop _, codeAny_builtin entry_eq_loop ?_⟩
  rw [Around.under_plainId plain_eq_loop _]
  wp_walk using wpAny_loadPart' hl', wpAny_loadPart' hb'
  rw [f2, g2]
  wp_walk using wpAny_loadPart' hl', wpAny_loadPart' hb'
  show R (.ok (.ret (.bool (its.size == its2.size)))) _
  rw [sz1, sz2]
  exact q
theorem list_ne2 (hi : items = #[x1, x2]) (hi2 : items2 = #[y1, y2]) (l b : Addr) (n n2 : Nat) (dd dd2 : Option Addr) (sl sl2 : Array (Option Value)) :
    MeetsIn prog w (Builtin.«list.__ne__» ⟨[.ref l, .ref b], []⟩)
      (fun A R s => Both2 l b items items2 n n2 dd dd2 sl sl2 s ∧ EqAt A.in1 s x1 y1 true ∧
        wpAny (model prog w) A.in1 (eqBool x2 y2) (fun c s' => c = true ∧ Pair2 l b s' ∧ R (.ok (.ret (.bool false))) s') (fun e s' => R (.error e) s') s) := by
  intro A R s h
  obtain ⟨hp, g, d, tk, os⟩ := s; obtain ⟨⟨hl, hb⟩, e1, e2⟩ := h
  have f3 := AutoSeq1.sub_list_list
  have hne : ¬ (items.size != items2.size) = true := by rw [hi, hi2]; show ¬ ((2 != 2) = true); decide
  wp_walk using wpAny_loadPart' hl, wpAny_loadPart' hb
  exact ⟨plainId_quiet plain_eq_loop _, codeAny_builtin entry_eq_loop (by
    rw [Around.under_plainId plain_eq_loop _]
    exact ne_loop2 hi hi2 l b n n2 dd dd2 sl sl2 A R _ ⟨⟨hl, hb⟩, e1, e2⟩)⟩
theorem list_eq2 (hi : items = #[x1, x2]) (hi2 : items2 = #[y1, y2]) (l b : Addr) (n n2 : Nat) (dd dd2 : Option Addr) (sl sl2 : Array (Option Value)) :
    MeetsIn prog w (Builtin.«list.__eq__» ⟨[.ref l, .ref b], []⟩)
      (fun A R s => Both2 l b items items2 n n2 dd dd2 sl sl2 s ∧ EqAt A.in1 s x1 y1 true ∧
        wpAny (model prog w) A.in1 (eqBool x2 y2) (fun c s' => c = true ∧ Pair2 l b s' ∧ R (.ok (.ret (.bool true))) s') (fun e s' => R (.error e) s') s) := by
  intro A R s h
  obtain ⟨hp, g, d, tk, os⟩ := s; obtain ⟨⟨hl, hb⟩, e1, e2⟩ := h
  have f3 := AutoSeq1.sub_list_list
  have hne : ¬ (items.size != items2.size) = true := by rw [hi, hi2]; show ¬ ((2 != 2) = true); decide
  wp_walk using wpAny_loadPart' hl, wpAny_loadPart' hb
  exact ⟨plainId_quiet plain_eq_loop _, codeAny_builtin entry_eq_loop (by
    rw [Around.under_plainId plain_eq_loop _]
    exact eq_loop2 hi hi2 l b n n2 dd dd2 sl sl2 A R _ ⟨⟨hl, hb⟩, e1, e2⟩)⟩
variable {A : Around} {E : Value → Shared → Prop} {s : Shared} {Q : Value → Shared → Prop}
theorem rc_ne2 {l b : Addr} (hl : s.heap.IsList l #[x1, x2]) (hb : s.heap.IsList b #[y1, y2]) (hu : A.units < cLine) (e1 : EqAt A.in1 s x1 y1 true)
    (e2 : wpAny (model prog w) A.in1 (eqBool x2 y2) (fun c s' => c = true ∧ Pair2 l b s' ∧ Q (.bool false) s') E s) : wpAny (model prog w) A (richCompare .NotEq (.ref l) (.ref b)) Q E s := by
  obtain ⟨⟨cls, dd, data, sl⟩, ho, hc, n, hd⟩ := id hl
  obtain ⟨⟨cls2, dd2, data2, sl2⟩, ho2, hc2, n2, hd2⟩ := id hb
  simp only at hc hd hc2 hd2
  subst hc hd hc2 hd2
  exact wpAny_richCompare_same_room (op := .NotEq) ⟨_, ho, rfl⟩ ⟨_, ho2, rfl⟩ F.slot_list_ne (call_meetsIn F.slot_list_ne ⟨_, ho, rfl⟩ F.entry_list_ne (F.args_list_ne_2 _ _) (list_ne2 rfl rfl l b n n2 dd dd2 sl sl2)
    ⟨⟨ho, ho2⟩, e1, wpAny_mono e2 (fun c s' z => ⟨z.1, z.2.1, show Value.bool false ≠ Value.notImplemented ∧ Q (.bool false) s' from ⟨(fun x => nomatch x), z.2.2⟩⟩) fun _ _ e => e⟩) hu
theorem rc_eq2 {l b : Addr} (hl : s.heap.IsList l #[x1, x2]) (hb : s.heap.IsList b #[y1, y2]) (hu : A.units < cLine) (e1 : EqAt A.in1 s x1 y1 true)
    (e2 : wpAny (model prog w) A.in1 (eqBool x2 y2) (fun c s' => c = true ∧ Pair2 l b s' ∧ Q (.bool true) s') E s) : wpAny (model prog w) A (richCompare .Eq (.ref l) (.ref b)) Q E s := by
  obtain ⟨⟨cls, dd, data, sl⟩, ho, hc, n, hd⟩ := id hl
  obtain ⟨⟨cls2, dd2, data2, sl2⟩, ho2, hc2, n2, hd2⟩ := id hb
  simp only at hc hd hc2 hd2
  subst hc hd hc2 hd2
  exact wpAny_richCompare_same_room (op := .Eq) ⟨_, ho, rfl⟩ ⟨_, ho2, rfl⟩ F.slot_list_eq (call_meetsIn F.slot_list_eq ⟨_, ho, rfl⟩ F.entry_list_eq (F.args_list_eq_2 _ _) (list_eq2 rfl rfl l b n n2 dd dd2 sl sl2)
    ⟨⟨ho, ho2⟩, e1, wpAny_mono e2 (fun c s' z => ⟨z.1, z.2.1, show Value.bool true ≠ Value.notImplemented ∧ Q (.bool true) s' from ⟨(fun x => nomatch x), z.2.2⟩⟩) fun _ _ e => e⟩) hu
/-- two things that are not the same one -/
theorem eqb_refs {l b : Addr} {Q : Bool → Shared → Prop} (hne : l ≠ b) (h : wpAny (model prog w) A (richCompare .Eq (.ref l) (.ref b)) (fun v s' => ∃ c, v = .bool c ∧ Q c s') E s) : wpAny (model prog w) A (eqBool (.ref l) (.ref b)) Q E s := by
  unfold eqBool
  refine wpAny_holding ?_
  refine wpAny_ite_split (fun hab => absurd (by have := eq_of_beq hab; injection this) hne) (fun _ => ?_)
  refine wpAny_bind (wpAny_mono h (fun v s' z => ?_) fun _ _ e => e)
  obtain ⟨c, rfl, q⟩ := z
  exact wpAny_truthy_bool q
end
end PySem.SeqAt
namespace Wb
open PySem L2 WbO
section
variable {X : Cx} {CX : CXT} {k : Nat} {C g : Addr} {fd : FuncData} {ps : List Str} {sp : Sp} {E : XK}
/-- ["w", ["plain", o]] != ["w", ["plain", p]]: o == p by o's own __eq__ -/
def rNeI (C : Addr) (sp : Sp) (E : XK) : R2 := fun x y H Q => ∃ (a b a2 b2 r1 r2 d1 d2 : Addr) (fs gs : List (Str × V)) (wd pl : Str), x = .ref a ∧ y = .ref b ∧ H a = some (.lst [.str wd, .ref a2]) ∧ H b = some (.lst [.str wd, .ref b2]) ∧ H a2 = some (.lst [.str pl, .ref r1]) ∧ H b2 = some (.lst [.str pl, .ref r2]) ∧
  H r1 = some (.ins C d1 fs) ∧ H r2 = some (.ins C d2 gs) ∧ a2 ≠ b2 ∧ r1 ≠ r2 ∧ sp [.ref r1, .ref r2] H (fun v H' => v = .bl true ∧ Same H H' ∧ Q (.bl false) H') E
theorem pair_of {pins : List (Addr × Obj)} {σ : L2.St} {H : Hp} {s : Shared} {a b : Addr} {x1 x2 y1 y2 : V} (I : Inv X pins σ H s) (h1 : H a = some (.lst [x1, x2])) (h2 : H b = some (.lst [y1, y2])) : SeqAt.Pair2 a b s := by
  obtain ⟨i1, r1, ⟨o1, n1, p1, c1, q1, e1⟩, _⟩ := I.list (SqL.of h1)
  obtain ⟨i2, r2, ⟨o2, n2, p2, c2, q2, e2⟩, _⟩ := I.list (SqL.of h2)
  obtain ⟨_, _, rfl, _⟩ := two_vals r1
  obtain ⟨_, _, rfl, _⟩ := two_vals r2
  obtain ⟨cl1, dd1, da1, sl1⟩ := o1
  obtain ⟨cl2, dd2, da2, sl2⟩ := o2
  simp only at c1 c2 e1 e2
  subst c1 c2 e1 e2
  exact ⟨_, _, _, _, _, _, _, _, ⟨p1, p2⟩, rfl, rfl⟩
theorem op_neI (hs : PySem.W.findIn X.K (.ref C) "__eq__" = some (some (.ref g))) (hf : PySem.W.isFn X.K (.ref g) = true) (nf : PySem.W.notFirst X.K C (.ref C) = true) (F : FnOk X.prog X.w X.K X.mg X.base CX k g fd ps sp) (hr : Room (k + 2) X.A) (hb : Binds X.K fd ps []) (hx : Passes CX X.nox E) : OpR X (compareOp .NotEq) (rNeI C sp E) := by
  intro pins s σ H x y v u Q I rx ry h
  obtain ⟨a, b, a2, b2, q1, q2, dd1, dd2, fs, gs, wd, pl, rfl, rfl, h1, h2, h3, h4, h5, h6, n1, n2, q⟩ := h
  cases rx
  cases ry
  obtain ⟨i1, r1, p1, _⟩ := I.list (SqL.of h1)
  obtain ⟨i2, r2, p2, _⟩ := I.list (SqL.of h2)
  obtain ⟨i3, r3, p3, _⟩ := I.list (SqL.of h3)
  obtain ⟨i4, r4, p4, _⟩ := I.list (SqL.of h4)
  obtain ⟨_, _, rfl, ⟨t1, rfl⟩, e1⟩ := two_vals r1
  obtain ⟨_, _, rfl, ⟨t2, rfl⟩, e2⟩ := two_vals r2
  obtain ⟨_, _, rfl, ⟨t3, rfl⟩, e3⟩ := two_vals r3
  obtain ⟨_, _, rfl, ⟨t4, rfl⟩, e4⟩ := two_vals r4
  cases e1
  cases e2
  cases e3
  cases e4
  obtain ⟨mA, O, _⟩ := ins_get I.hok h5
  obtain ⟨od, J, _⟩ := O.look
  obtain ⟨mB, O', _⟩ := ins_get I.hok h6
  obtain ⟨od', J', _⟩ := O'.look
  obtain ⟨m, hF⟩ := I.fr
  have un := hr.un
  have u1 : X.A.in1.units < cLine := by
    show X.A.units + 1 < cLine
    omega
  have u2 : X.A.in1.in1.units < cLine := by
    show X.A.units + 1 + 1 < cLine
    omega
  refine SeqAt.rc_ne2 (x1 := .str wd t1) (x2 := .ref a2) (y1 := .str wd t2) (y2 := .ref b2) p1.isList p2.isList (by omega) (eq_word wd t1 t2) (SeqAt.eqb_refs n1 ?_)
  refine SeqAt.rc_eq2 (x1 := .str pl t3) (x2 := .ref q1) (y1 := .str pl t4) (y2 := .ref q2) p3.isList p4.isList u1 (eq_word pl t3 t4) (SeqAt.eqb_refs n2 ?_)
  refine PySem.W.cmp_K (op := .Eq) (tb := .ref C) u2 hF I.ok.mod.kin J J'.type nf hs hf (wpAny_mono (run_at (vs := [.ref q1, .ref q2]) (us := [.ref q1, .ref q2]) F hr.in1.in1 I.env0.in1.in1 hb hx I (.cons rfl (.cons rfl .nil)) q) (fun z s' w => ?_) fun _ _ e => e)
  obtain ⟨z', H', I', rz, rfl, sm, qz⟩ := w
  cases (show z = Value.bool true from rz)
  refine SlX.cmpback (z := .bl true) (v := .bool true) rfl ⟨true, rfl, rfl, pair_of I' (sm _ _ h3) (sm _ _ h4), true, rfl, rfl, pair_of I' (sm _ _ h1) (sm _ _ h2), .bl false, H', I', rfl, qz⟩
end
end Wb
/-! rings asked with values of any sort: what they answer, what they refuse -/
namespace Wb
open PySem L2 WbMin WbS Lz WbO WbT Le
abbrev sErrInvalidPlace : Stmt := inClass (top 9) 0
abbrev sErrNotARing : Stmt := inClass (top 10) 0
abbrev sText : Stmt := inClass (top 17) 1
abbrev sLen : Stmt := inClass (top 17) 5
abbrev sREq : Stmt := inClass (top 17) 6
abbrev sMul : Stmt := inClass (top 17) 11
abbrev sAdd : Stmt := inClass (top 17) 12
def FailsX (E : XK) (C : Addr) (x : V) (H : Hp) : Prop := ∀ (dx : Addr) (H' : Hp), Same H H' → H' dx = none → E (.ref C) (some dx) (upd H' dx (.xd [("given", x)]))
theorem FailsX.later {E : XK} {C : Addr} {x : V} {H H' : Hp} (h : FailsX E C x H) (s : Same H H') : FailsX E C x H' := fun dx G s2 n => h dx G (s.trans s2) n
section
variable {P : Program} {w : World} {K : PySem.W.Frag} {mg : Str → Option Value} {base : Heap} {C f : Addr} {fd : FuncData}
theorem scErrP : FnScope ["self", "given"] ["self", "given"] (defScope sErrInvalidPlace) := ⟨rfl, rfl, rfl, by decide +kernel, rfl, by decide +kernel, by decide +kernel⟩
theorem ok_errP (E : ErrF K mg "InvalidPlace" "given" "InvalidPlace.__init__" sErrInvalidPlace C f fd) : FnOk P w K mg base CX0 1 f fd ["self", "given"] (spErr C "given") := by
  refine E.F.ok scErrP (fun vs H Q E h => by obtain ⟨a, y, rfl, _⟩ := h; rfl) (fun cdv A outer s H vs Q E' hr h => ?_)
  obtain ⟨a, y, rfl, ha, k⟩ := h
  exact ⟨_, pss_one (ps_ost (pv 0) (pv 1)), _, rfl, _, rfl, a, C, rfl, E.o, E.no, .inl ⟨ha, k⟩⟩
theorem scErrG : FnScope ["self", "given"] ["self", "given"] (defScope sErrNotARing) := ⟨rfl, rfl, rfl, by decide +kernel, rfl, by decide +kernel, by decide +kernel⟩
theorem ok_errG (E : ErrF K mg "NotARing" "given" "NotARing.__init__" sErrNotARing C f fd) : FnOk P w K mg base CX0 1 f fd ["self", "given"] (spErr C "given") := by
  refine E.F.ok scErrG (fun vs H Q E h => by obtain ⟨a, y, rfl, _⟩ := h; rfl) (fun cdv A outer s H vs Q E' hr h => ?_)
  obtain ⟨a, y, rfl, ha, k⟩ := h
  exact ⟨_, pss_one (ps_ost (pv 0) (pv 1)), _, rfl, _, rfl, a, C, rfl, E.o, E.no, .inl ⟨ha, k⟩⟩
end
/-! ### sorts -/
/-- a value of one of the built-in types -/
def Srt (H : Hp) (x : V) : Prop := (∃ z, x = .str z) ∨ (∃ i, x = .int i) ∨ Neither H x
theorem Thing.srt {H : Hp} : ∀ {n : Nat} {x : V} {d : PyData}, Thing H n x d → Srt H x
  | 0, _, _, h => h.elim
  | _ + 1, _, _, .inl h => by
    cases h with
    | non => exact .inr (.inr .non)
    | bl b => exact .inr (.inr (.bl b))
    | int i => exact .inr (.inl ⟨i, rfl⟩)
    | str z => exact .inl ⟨z, rfl⟩
  | _ + 1, _, _, .inr (.inl ⟨_, _, _, e, h, _⟩) => by
    subst e
    exact .inr (.inr (.lst h))
  | _ + 1, _, _, .inr (.inr (.inl ⟨_, _, _, e, h, _⟩)) => by
    subst e
    exact .inr (.inr (.tup h))
  | _ + 1, _, _, .inr (.inr (.inr ⟨_, _, _, _, e, h, _⟩)) => by
    subst e
    exact .inr (.inr (.dK h))
theorem Any.srt {p : Addr} {H : Hp} {x : V} {d : PyData} (h : Any p H x d) : Srt H x := h.thing.srt
theorem both_mem {α β : Type} {R : α → β → Prop} {y : α} : ∀ {xs : List α} {ys : List β}, Both R xs ys → y ∈ xs → ∃ z, R y z
  | _, _, .nil, h => by cases h
  | _, _, .cons h r, m => by
    rcases List.mem_cons.mp m with rfl | m
    · exact ⟨_, h⟩
    · exact both_mem r m
theorem Thing.part {H : Hp} {n : Nat} {t : Addr} {xs : List V} {d : PyData} (h : Thing H (n + 1) (.ref t) d) (e : H t = some (.tup xs)) : ∀ y ∈ xs, ∃ dy, Thing H n y dy := by
  rcases h with h | ⟨a, ys, ds, q, h, _⟩ | ⟨a, ys, ds, q, h, _, b, _⟩ | ⟨a, ks, ys, ds, q, h, _⟩
  · cases h
  · cases q
    rw [e] at h
    cases h
  · cases q
    rw [e] at h
    cases h
    exact fun y hy => both_mem b hy
  · cases q
    rw [e] at h
    cases h
theorem Any.part {p : Addr} {H : Hp} {t : Addr} {xs : List V} {d : PyData} (h : Any p H (.ref t) d) (e : H t = some (.tup xs)) : ∀ y ∈ xs, Srt H y := fun y hy => by
  obtain ⟨dy, q⟩ := h.thing.part e y hy
  exact q.srt
theorem Srt.tup {H : Hp} {K : PySem.W.Frag} {x : V} (h : Srt H x) : (∃ t xs, x = .ref t ∧ H t = some (.tup xs)) ∨ ((∀ t xs, x = .ref t → H t ≠ some (.tup xs)) ∧ ∃ ty, TyX K H x ty ∧ PySem.W.kitOne K ty (.type "tuple") = some false) := by
  rcases h with ⟨z, rfl⟩ | ⟨i, rfl⟩ | n
  · exact .inr ⟨(fun t xs e => by cases e), _, .base (.str _), kit_ty (by decide +kernel)⟩
  · exact .inr ⟨(fun t xs e => by cases e), _, .base (.int i), kit_ty (by decide +kernel)⟩
  · cases n with
    | non => exact .inr ⟨(fun t xs e => by cases e), _, .base .non, kit_ty (by decide +kernel)⟩
    | bl b => exact .inr ⟨(fun t xs e => by cases e), _, .base (.bl b), kit_ty (by decide +kernel)⟩
    | lst g => exact .inr ⟨(fun t xs e q => by cases e; rw [g] at q; cases q), _, .base (.lst g), kit_ty (by decide +kernel)⟩
    | tup g => exact .inl ⟨_, _, rfl, g⟩
    | dK g => exact .inr ⟨(fun t xs e q => by cases e; rw [g] at q; cases q), _, .base (.dK g), kit_ty (by decide +kernel)⟩
theorem intB_is {x : V} (h : intB x = true) : ∃ i, x = .int i := by
  cases x with
  | int i => exact ⟨i, rfl⟩
  | _ => cases h
def spIsIntS : Sp := fun vs H Q _ => ∃ x : V, vs = [x] ∧ Srt H x ∧ Q (.bl (intB x)) H
def le600 : V → Bool
  | .int n => decide (n ≤ 600)
  | _ => false
/-- a place and a number from 1 to 600 -/
def placeO : Option HO → Bool
  | some (.tup [a, b]) => intB a && (goodI 1 b && le600 b)
  | _ => false
def placeV (H : Hp) : V → Bool
  | .ref t => placeO (H t)
  | _ => false
/-- a value of one of the built-in types, a tuple's parts too -/
def SrtT (H : Hp) (x : V) : Prop := Srt H x ∧ ∀ t xs, x = .ref t → H t = some (.tup xs) → ∀ y ∈ xs, Srt H y
theorem Any.srtT {p : Addr} {H : Hp} {x : V} {d : PyData} (h : Any p H x d) : SrtT H x := ⟨h.srt, fun t xs e q => by
  subst e
  exact h.part q⟩
def spPlaceX : Sp := fun vs H Q _ => ∃ x : V, vs = [x] ∧ SrtT H x ∧ Q (.bl (placeV H x)) H
section
variable {P : Program} {w : World} {K : PySem.W.Frag} {mg : Str → Option Value} {base : Heap} {f fI : Addr} {fd dI : FuncData}
theorem ok_isintS (F : Fun K "is_integer" "is_integer" sIsInt f fd) (Z : Free mg) : FnOk P w K mg base CX0 1 f fd ["value"] spIsIntS := by
  refine F.ok scII (fun vs H Q E h => by obtain ⟨x, rfl, _⟩ := h; rfl) (fun cdv A outer s H vs Q E hr h => ?_)
  obtain ⟨x, rfl, ha, k⟩ := h
  refine ⟨_, pss_one (ps_ret (pe_and (pe_callB call_isi (by rfl) Z.isi (by decide +kernel) (pa_cons (pv 0) (pa_cons (pe_bltn (v := .ty "int") (u := .type "int") (by rfl) Z.int (by decide +kernel) rfl) pa_nil)))
      (pe_one (pe_not (pe_callB call_isi (by rfl) Z.isi (by decide +kernel) (pa_cons (pv 0) (pa_cons (pe_bltn (v := .ty "bool") (u := .type "bool") (by rfl) Z.bool (by decide +kernel) rfl) pa_nil))))))), ?_⟩
  rcases ha with ⟨l, rfl⟩ | ⟨i, rfl⟩ | n
  · exact ⟨_, rfl, _, _, _, .type "int", false, rfl, .ty "int", .base (.str _), kit_ty (by decide +kernel), false, rfl, k⟩
  · exact ⟨_, rfl, _, _, _, .type "int", true, rfl, .ty "int", .base (.int _), kit_ty (by decide +kernel), true, rfl, _, rfl, _, _, _, .type "bool", false, rfl, .ty "bool", .base (.int _), kit_ty (by decide +kernel), _, rfl, k⟩
  · obtain ⟨t, b, ty, ki, kb⟩ := n.int (K := K)
    rw [n.intB] at k
    cases b with
    | false => exact ⟨_, rfl, _, _, t, .type "int", false, rfl, .ty "int", ty, ki, false, rfl, k⟩
    | true => exact ⟨_, rfl, _, _, t, .type "int", true, rfl, .ty "int", ty, ki, true, rfl, _, rfl, _, _, t, .type "bool", true, rfl, .ty "bool", ty, kb rfl, _, rfl, k⟩
set_option maxHeartbeats 0 in
theorem ok_isplaceX (F : Fun K "_is_place_with_number" "_is_place_with_number" sIsPlace f fd) (Z : Free mg) (DI : Def K mg "is_integer" sIsInt ["value"] fI dI) (t6 : Tok) (g6 : mg "MOST_WORD" = some (.int 600 t6)) (mT : mg "tuple" = none) : FnOk P w K mg base CX0 2 f fd ["value"] spPlaceX := by
  have GI : FnOk P w K mg base CX0 1 fI dI ["value"] spIsIntS := ok_isintS DI.F Z
  refine F.ok scIP (fun vs H Q E h => by obtain ⟨x, rfl, _⟩ := h; rfl) (fun cdv A outer s H vs Q E hr h => ?_)
  obtain ⟨x, rfl, ha, k⟩ := h
  refine ⟨_, pss_cons (ps_if (PW.pt (pw_or (pt_not (pt_val (pe_callB call_isi (by rfl) Z.isi (by decide +kernel) (pa_cons (pv 0) (pa_cons (pe_bltn (v := .ty "tuple") (u := .type "tuple") (by rfl) mT (by decide +kernel) rfl) pa_nil)))))
        (pw_or1 (pt_cmpR op_ne (pe_callB call_len_seq (by rfl) Z.len PySem.boot_len (pa_cons (pv 0) pa_nil)) pe_int (nomark _))))) (pss_one (ps_ret pe_bl)) pss_nil)
      (pss_cons (ps_asg (pv 0) (pg_tup (by rfl) (pgs_cons (pg_name (i := 1) scIP.nd rfl (.inl rfl)) (pgs_cons (pg_name (i := 2) scIP.nd rfl (.inl rfl)) pgs_nil))))
      (pss_one (ps_ret (pe_and (pe_call GI hr rfl DI.g DI.kp DI.b .nil pass0 (pa_cons (pv 1) pa_nil)) (pe_and (pe_call GI hr rfl DI.g DI.kp DI.b .nil pass0 (pa_cons (pv 2) pa_nil))
        (pe_one (pe_chain op_le op_le pe_int (pv 2) (pe_glob (v := .int 600) (by rfl) g6 ⟨_, rfl⟩)))))))), ?_⟩
  rcases ha.1.tup (K := K) with ⟨t, xs, rfl, ht⟩ | ⟨no, ty, h1, h2⟩
  · refine ⟨_, rfl, _, _, .type "tuple", .type "tuple", true, rfl, .ty "tuple", .base (.tup ht), kit_ty (by decide +kernel), true, rfl, ?_⟩
    have k : Q (.bl (placeO (H t))) H := k
    rw [ht] at k
    have part := ha.2 t _ rfl ht
    refine ⟨_, rfl, t, _, rfl, .inr (SqT.of ht), rfl, _, rfl, ?_⟩
    rcases xs with _ | ⟨a, _ | ⟨b, _ | ⟨c, ys⟩⟩⟩
    · exact iteS (fun q => by injection q with q; cases q) k
    · exact iteS (fun q => by injection q with q; have q : ((1 : Nat) : Int) = 2 := q; omega) k
    rotate_left
    · refine iteS (fun q => ?_) k
      injection q with q
      have q : ((ys.length + 1 + 1 + 1 : Nat) : Int) = 2 := q
      omega
    · refine iteNS rfl ?_
      have sa := part a List.mem_cons_self
      have sb := part b (List.mem_cons_of_mem _ List.mem_cons_self)
      have k : Q (.bl (intB a && (goodI 1 b && le600 b))) H := k
      refine ⟨_, rfl, t, _, rfl, SqT.of ht, rfl, _, _, rfl, _, _, rfl, rfl, ?_⟩
      refine ⟨_, rfl, a, rfl, sa, intB a, rfl, ?_⟩
      cases ia : intB a with
      | false =>
        rw [ia] at k
        exact k
      | true =>
        rw [ia, Bool.true_and] at k
        refine ⟨_, rfl, b, rfl, sb, intB b, rfl, ?_⟩
        cases ib : intB b with
        | false =>
          have e : goodI 1 b = false := by cases b <;> first | rfl | cases ib
          rw [e] at k
          exact k
        | true =>
          obtain ⟨n, rfl⟩ := intB_is ib
          have k : Q (.bl (decide (1 ≤ n) && decide (n ≤ 600))) H := k
          refine ⟨_, rfl, _, _, rfl, rfl, _, rfl, ite2 (fun q => ?_) (fun q => ?_)⟩
          · rw [decide_eq_true (of_decide_eq_true q), Bool.true_and] at k
            exact ⟨_, _, rfl, rfl, k⟩
          · rw [decide_eq_false (fun z => q (decide_eq_true z)), Bool.false_and] at k
            exact k
  · refine ⟨_, rfl, _, _, ty, .type "tuple", false, rfl, .ty "tuple", h1, h2, false, rfl, ?_⟩
    have e : placeV H x = false := by
      cases x with
      | ref t =>
        show placeO (H t) = false
        unfold placeO
        split
        · rename_i a b q
          exact absurd q (no t _ rfl)
        · rfl
      | _ => rfl
    rw [e] at k
    exact k
end
end Wb
/-! Ring(x), o.turned(x), o[x], o * x, o + x of a value of any sort -/
namespace Wb
open PySem L2 WbMin WbS Lz WbO WbT Le
structure RA where
  (C fI fT pT fU fG fM fA fE fL turns readr place isint isword cW cN cP cG fW fN fP fX : Addr)
  (dI dT dU dG dM dA dE dL dturns dreadr dplace disint disword dW dN dP dX : FuncData)
/-- what the top has written of Ring and of its errors -/
structure RgX (K : PySem.W.Frag) (mg : Str → Option Value) (R : RA) : Prop where
  T : Txt K mg R.C
  M : Mk K R.C R.fI
  FI : Fun K "__init__" "Ring.__init__" sInit R.fI R.dI
  bI : Binds K R.dI ["self", "text"] []
  FT : Fun K "text" "Ring.text" sText R.fT R.dT
  bT : Binds K R.dT ["self"] []
  hT : PropOf K R.C "text" R.pT R.fT
  FU : Fun K "turned" "Ring.turned" sTurned R.fU R.dU
  bU : Binds K R.dU ["self", "i"] []
  mU : Meth K R.C "turned" R.fU
  FG : Fun K "__getitem__" "Ring.__getitem__" sGet R.fG R.dG
  bG : Binds K R.dG ["self", "at"] []
  mG : Meth K R.C "__getitem__" R.fG
  nG : PySem.W.fnIn K R.fG = true
  FM : Fun K "__mul__" "Ring.__mul__" sMul R.fM R.dM
  bM : Binds K R.dM ["self", "other"] []
  mM : Meth K R.C "__mul__" R.fM
  rM : PySem.W.findIn K (.ref R.C) "__rmul__" = some none
  FA : Fun K "__add__" "Ring.__add__" sAdd R.fA R.dA
  bA : Binds K R.dA ["self", "other"] []
  mA : Meth K R.C "__add__" R.fA
  rA : PySem.W.findIn K (.ref R.C) "__radd__" = some none
  FE : Fun K "__eq__" "Ring.__eq__" sREq R.fE R.dE
  bE : Binds K R.dE ["self", "other"] []
  mE : Meth K R.C "__eq__" R.fE
  nf : PySem.W.notFirst K R.C (.ref R.C) = true
  FL : Fun K "__len__" "Ring.__len__" sLen R.fL R.dL
  bL : Binds K R.dL ["self"] []
  mL : Meth K R.C "__len__" R.fL
  sf : PySem.W.selfFirst K R.C = true
  turns : Def K mg "_all_turnings" sTurns ["word"] R.turns R.dturns
  readr : Def K mg "_read_round" sReadR ["text", "place", "number"] R.readr R.dreadr
  place : Def K mg "_is_place_with_number" sIsPlace ["value"] R.place R.dplace
  isint : Def K mg "is_integer" sIsInt ["value"] R.isint R.disint
  isword : Def K mg "is_word" sIsWord ["value"] R.isword R.disword
  EW : ErrF K mg "InvalidWord" "given" "InvalidWord.__init__" sErrInvalidWord R.cW R.fW R.dW
  EN : ErrF K mg "InvalidNumber" "given" "InvalidNumber.__init__" sErrInvalidNumber R.cN R.fN R.dN
  EP : ErrF K mg "InvalidPlace" "given" "InvalidPlace.__init__" sErrInvalidPlace R.cP R.fP R.dP
  EG : ErrF K mg "NotARing" "given" "NotARing.__init__" sErrNotARing R.cG R.fX R.dX
  w6 : ∃ t : Tok, mg "MOST_WORD" = some (.int 600 t)
  tup : mg "tuple" = none
/-- a new ring of this text, or the error -/
def spInitX (C cW : Addr) : Sp := fun vs H Q E => ∃ (H0 : Hp) (p r dx : Addr) (x : V) (d : PyData), vs = [.ref r, x] ∧ Any p H0 x d ∧ Same H0 H ∧ H0 r = none ∧ H r = some (.ins C dx []) ∧
  (wordB x = true → ∀ (l : List Nat) (H' : Hp), x = .str (S l) → Same H0 H' → RingAt C H' r l → Q .non H') ∧ (wordB x = false → FailsX E cW x H0)
def spAskR (C cP : Addr) (ok : Hp → V → Bool) : Sp := fun vs H Q E => ∃ (r : Addr) (l : List Nat) (x : V), vs = [.ref r, x] ∧ RingAt C H r l ∧ SrtT H x ∧ (ok H x = true → ∀ v, Q v H) ∧ (ok H x = false → FailsX E cP x H)
/-- how many times: 0 good, 1 no number, 2 too long -/
def mulG (n : Nat) : V → Nat
  | .int j => if j < 1 then 1 else if (n : Int) * j ≤ 600 then 0 else 2
  | _ => 1
def spMulX (C cN cW : Addr) : Sp := fun vs H Q E => ∃ (p r : Addr) (l : List Nat) (x : V) (d : PyData), vs = [.ref r, x] ∧ RingAt C H r l ∧ Any p H x d ∧
  (mulG l.length x = 0 → ∀ (q : Addr) (m : List Nat) (H' : Hp), (∀ j, x = .int j → (m.length : Int) = (l.length : Int) * j) → RingAt C H' q m → Same H H' → Q (.ref q) H') ∧ (mulG l.length x = 1 → FailsX E cN x H) ∧ (mulG l.length x = 2 → FailsX E cW x H)
def spAddX (K : PySem.W.Frag) (C cG cW : Addr) : Sp := fun vs H Q E => ∃ (r : Addr) (l : List Nat) (x : V), vs = [.ref r, x] ∧ RingAt C H r l ∧
  ((∃ (q : Addr) (m : List Nat), x = .ref q ∧ RingAt C H q m ∧ (l.length + m.length ≤ 600 → ∀ (y : Addr) (n : List Nat) (H' : Hp), n.length = l.length + m.length → RingAt C H' y n → Same H H' → Q (.ref y) H') ∧ (600 < l.length + m.length → FailsX E cW x H)) ∨
    ((∃ t, TyX K H x t ∧ PySem.W.kitOne K t (.ref C) = some false) ∧ FailsX E cG x H))
section
variable {P : Program} {w : World} {K : PySem.W.Frag} {mg : Str → Option Value} {base : Heap} {R : RA}
set_option maxHeartbeats 0 in
theorem ok_initX (D : RgX K mg R) (Z : Free mg) : FnOk P w K mg base (L2N.CX P w) 3 R.fI R.dI ["self", "text"] (spInitX R.C R.cW) := by
  obtain ⟨t6, g6⟩ := D.w6
  have GW : FnOk P w K mg base CX0 1 R.isword R.disword ["value"] spIsWordA := ok_iswordA D.isword.F Z t6 g6
  have GE : FnOk P w K mg base CX0 1 R.fW R.dW ["self", "given"] (spErr R.cW "given") := ok_errW D.EW
  have bad : FnOk P w K mg base (L2N.CX P w) 3 R.fI R.dI ["self", "text"] (fun vs H Q E => ∃ (p r : Addr) (x : V) (d : PyData), vs = [.ref r, x] ∧ Any p H x d ∧ wordB x = false ∧ FailsX E R.cW x H) := by
    refine okN D.FI scI (fun vs H Q E h => by obtain ⟨p, r, x, d, rfl, _⟩ := h; rfl) (fun cdv A outer s H vs Q E hr h => ?_)
    obtain ⟨p, r, x, d, rfl, hx, no, k⟩ := h
    have hr1 : Room 1 _ := hr.mono (by decide)
    refine ⟨_, pss_cons (ps_if (pt_not (pt_val (pe_call GW hr1 rfl D.isword.g D.isword.kp D.isword.b .nil pass0 (pa_cons (pv 1) pa_nil)))) (pss_one (ps_bad D.EW GE hr rfl (L2N.takes_of rfl rfl rfl rfl) rfl (pv 1))) pss_nil) pss_never, ?_⟩
    refine ⟨_, rfl, p, x, d, rfl, hx, fun H1 s1 => ?_⟩
    rw [no]
    exact ⟨false, rfl, iteT ⟨x, rfl, fun dx n => k dx H1 s1 n⟩⟩
  refine (FnOk.either ((FnOk.calm (ok_init D.FI D.T Z t6 g6 D.isword D.turns)).mono (by decide)) bad).imp fun vs H Q E h => ?_
  obtain ⟨H0, p, r, dx, x, d, rfl, hx, s0, r0, hp, good, no⟩ := h
  cases g : wordB x with
  | true =>
    obtain ⟨l, rfl, W⟩ : ∃ l, x = .str (S l) ∧ IsW l := by
      rcases hx.sort with ⟨l, rfl, _⟩ | ⟨i, rfl⟩ | n
      · rw [wordB_S] at g
        exact ⟨l, rfl, isWB_iff.mp g⟩
      · cases g
      · rw [n.word] at g
        cases g
    exact .inl ⟨H0, r, dx, l, rfl, W, s0, r0, hp, fun H' s' R' => good g l H' rfl s' R'⟩
  | false => exact .inr ⟨p, r, x, d, rfl, hx.same s0, g, (no g).later s0⟩
set_option maxHeartbeats 0 in
theorem ok_turnedX (D : RgX K mg R) (Z : Free mg) : FnOk P w K mg base (L2N.CX P w) 3 R.fU R.dU ["self", "i"] (spAskR R.C R.cP fun _ x => intB x) := by
  have GI : FnOk P w K mg base CX0 1 R.isint R.disint ["value"] spIsIntS := ok_isintS D.isint.F Z
  have GR : FnOk P w K mg base CX0 1 R.readr R.dreadr ["text", "place", "number"] spReadR := ok_readr D.readr.F Z
  have GE : FnOk P w K mg base CX0 1 R.fP R.dP ["self", "given"] (spErr R.cP "given") := ok_errP D.EP
  refine okN D.FU scTu (fun vs H Q E h => by obtain ⟨r, l, x, rfl, _⟩ := h; rfl) (fun cdv A outer s H vs Q E hr h => ?_)
  obtain ⟨r, l, x, rfl, ⟨W, dx, hR⟩, hx, good, no⟩ := h
  have hr1 : Room 1 _ := hr.mono (by decide)
  refine ⟨_, pss_cons (ps_if (pt_not (pt_val (pe_call GI hr1 rfl D.isint.g D.isint.kp D.isint.b .nil pass0 (pa_cons (pv 1) pa_nil)))) (pss_one (ps_bad D.EP GE hr rfl (L2N.takes_of rfl rfl rfl rfl) rfl (pv 1))) pss_nil)
      (pss_one (ps_ret (pe_call GR hr1 rfl D.readr.g D.readr.kp D.readr.b .nil pass0 (pa_cons (pe_fld (pv 0) rfl) (pa_cons (pv 1) (pa_cons (pe_callB call_len_str (by rfl) Z.len PySem.boot_len (pa_cons (pe_fld (pv 0) rfl) pa_nil)) pa_nil)))))), ?_⟩
  refine ⟨_, rfl, x, rfl, hx.1, ?_⟩
  cases g : intB x with
  | false => exact ⟨false, rfl, iteT ⟨x, rfl, fun dx' n => no g dx' H (Same.refl H) n⟩⟩
  | true =>
    obtain ⟨i, rfl⟩ := intB_is g
    have l0 := W.pos
    have l1 := W.few
    exact ⟨true, rfl, iteF ⟨_, rfl, r, R.C, dx, _, _, rfl, hR, D.T.cl, D.T.nT, rf_text _ _, _, rfl, _, rfl, r, R.C, dx, _, _, rfl, hR, D.T.cl, D.T.nT, rf_text _ _, _, rfl, text_fits W, tx l, i, ((textS l).length : Int), by rw [S_tx] <;> rfl, tx_w W, by rw [text_len l0]; omega, by rw [text_len l0]; omega, good g _⟩⟩
set_option maxHeartbeats 0 in
theorem ok_getX (D : RgX K mg R) (Z : Free mg) : FnOk P w K mg base (L2N.CX P w) 4 R.fG R.dG ["self", "at"] (spAskR R.C R.cP fun H x => intB x || placeV H x) := by
  obtain ⟨t6, g6⟩ := D.w6
  have GI : FnOk P w K mg base CX0 1 R.isint R.disint ["value"] spIsIntS := ok_isintS D.isint.F Z
  have GP : FnOk P w K mg base CX0 2 R.place R.dplace ["value"] spPlaceX := ok_isplaceX D.place.F Z D.isint t6 g6 D.tup
  have GR : FnOk P w K mg base CX0 1 R.readr R.dreadr ["text", "place", "number"] spReadR := ok_readr D.readr.F Z
  have GE : FnOk P w K mg base CX0 1 R.fP R.dP ["self", "given"] (spErr R.cP "given") := ok_errP D.EP
  refine okN D.FG scGi (fun vs H Q E h => by obtain ⟨r, l, x, rfl, _⟩ := h; rfl) (fun cdv A outer s H vs Q E hr h => ?_)
  obtain ⟨r, l, x, rfl, ⟨W, dx, hR⟩, hx, good, no⟩ := h
  have hr1 : Room 1 _ := hr.mono (by decide)
  have hr2 : Room 2 _ := hr.mono (by decide)
  refine ⟨_, pss_cons (ps_if (pt_val (pe_call GI hr1 rfl D.isint.g D.isint.kp D.isint.b .nil pass0 (pa_cons (pv 1) pa_nil))) (pss_one (ps_ret (pe_ix ix_str (pe_fld (pv 0) rfl) (pe_op op_modN (pv 1) (pe_callB call_len_str (by rfl) Z.len PySem.boot_len (pa_cons (pe_fld (pv 0) rfl) pa_nil))) (fun _ _ => rfl)))) pss_nil)
      (pss_cons (ps_if (pt_not (pt_val (pe_call GP hr2 rfl D.place.g D.place.kp D.place.b .nil pass0 (pa_cons (pv 1) pa_nil)))) (pss_one (ps_bad D.EP GE hr2 rfl (L2N.takes_of rfl rfl rfl rfl) rfl (pv 1))) pss_nil)
      (pss_cons (ps_asg (pv 1) (pg_tup (by rfl) (pgs_cons (pg_name (i := 2) scGi.nd rfl (.inl rfl)) (pgs_cons (pg_name (i := 3) scGi.nd rfl (.inl rfl)) pgs_nil))))
      (pss_one (ps_ret (pe_call GR hr1 rfl D.readr.g D.readr.kp D.readr.b .nil pass0 (pa_cons (pe_fld (pv 0) rfl) (pa_cons (pv 2) (pa_cons (pv 3) pa_nil)))))))), ?_⟩
  have l0 := W.pos
  have l1 := W.few
  refine ⟨_, rfl, x, rfl, hx.1, ?_⟩
  cases g : intB x with
  | true =>
    obtain ⟨i, rfl⟩ := intB_is g
    obtain ⟨st, s1, s2, s3⟩ := place_of (n := (tx l).length) (by rw [tx_len l0]; exact l0) i
    have hlen : (textS l).length = (tx l).length := by rw [text_len l0, tx_len l0]
    have hat : atI (textS l).cps.toList (Int.fmod i ((textS l).length : Int)) = some ((tx l).getD st 0) := by
      rw [hlen, Int.fmod_eq_emod_of_nonneg _ (Int.natCast_nonneg _), s2]
      exact atI_nat (getD_at s1)
    exact ⟨true, rfl, iteT ⟨_, rfl, r, R.C, dx, _, _, rfl, hR, D.T.cl, D.T.nT, rf_text _ _, _, rfl, _, rfl, r, R.C, dx, _, _, rfl, hR, D.T.cl, D.T.nT, rf_text _ _, _, rfl, text_fits W, _, _, rfl, rfl, (by rw [text_len l0]; omega), _, _, _, rfl, rfl, text_fits W, hat, good (by show (intB _ || placeV H _) = true; rw [g] <;> rfl) _⟩⟩
  | false =>
    refine ⟨false, rfl, iteF ⟨_, rfl, x, rfl, hx, ?_⟩⟩
    cases gp : placeV H x with
    | false => exact ⟨false, rfl, iteT ⟨x, rfl, fun dx' n => no (by show (intB _ || placeV H _) = false; rw [g, gp] <;> rfl) dx' H (Same.refl H) n⟩⟩
    | true =>
      obtain ⟨t, i, n, rfl, ht, n1, n2⟩ : ∃ (t : Addr) (i n : Int), x = .ref t ∧ H t = some (.tup [.int i, .int n]) ∧ 1 ≤ n ∧ n ≤ 600 := by
        cases x with
        | ref t =>
          have gp : placeO (H t) = true := gp
          unfold placeO at gp
          split at gp
          · rename_i a b q
            rw [Bool.and_eq_true, Bool.and_eq_true] at gp
            obtain ⟨ia, gb, lb⟩ := gp
            obtain ⟨i, rfl⟩ := intB_is ia
            cases b with
            | int n => exact ⟨t, i, n, rfl, q, of_decide_eq_true gb, of_decide_eq_true lb⟩
            | _ => cases gb
          · cases gp
        | _ => cases gp
      refine ⟨true, rfl, iteF ?_⟩
      refine ⟨_, rfl, t, _, rfl, SqT.of ht, rfl, _, _, rfl, _, _, rfl, rfl, ?_⟩
      exact ⟨_, rfl, r, R.C, dx, _, _, rfl, hR, D.T.cl, D.T.nT, rf_text _ _, _, rfl, _, rfl, tx l, i, n, by rw [S_tx] <;> rfl, tx_w W, n1, n2, good (by show (intB _ || placeV H _) = true; rw [g, gp] <;> rfl) _⟩
theorem scMuX : FnScope ["self", "other"] ["self", "other"] (defScope sMul) := ⟨rfl, rfl, rfl, by decide +kernel, rfl, by decide +kernel, by decide +kernel⟩
set_option maxHeartbeats 0 in
theorem ok_mulX (D : RgX K mg R) (Z : Free mg) : FnOk P w K mg base (L2N.CX P w) 4 R.fM R.dM ["self", "other"] (spMulX R.C R.cN R.cW) := by
  obtain ⟨t6, g6⟩ := D.w6
  have GI : FnOk P w K mg base CX0 2 R.fI R.dI ["self", "text"] (spInit R.C) := ok_init D.FI D.T Z t6 g6 D.isword D.turns
  have Gi : FnOk P w K mg base CX0 1 R.isint R.disint ["value"] spIsIntA := ok_isintA D.isint.F Z
  have GN : FnOk P w K mg base CX0 1 R.fN R.dN ["self", "given"] (spErr R.cN "given") := ok_errN D.EN
  have GW : FnOk P w K mg base CX0 1 R.fW R.dW ["self", "given"] (spErr R.cW "given") := ok_errW D.EW
  refine okN D.FM scMuX (fun vs H Q E h => by obtain ⟨p, r, l, x, d, rfl, _⟩ := h; rfl) (fun cdv A outer s H vs Q E hr h => ?_)
  obtain ⟨p, r, l, x, d, rfl, ⟨W, dx, hR⟩, hx, k0, k1, k2⟩ := h
  have hr1 : Room 1 _ := hr.mono (by decide)
  have hr2 : Room 2 _ := hr.mono (by decide)
  have l0 := W.pos
  have l6 := W.few
  have tn := text_len l0
  refine ⟨_, pss_cons (ps_if (PW.pt (pw_or (pt_not (pt_val (pe_call Gi hr1 rfl D.isint.g D.isint.kp D.isint.b .nil pass0 (pa_cons (pv 1) pa_nil)))) (pw_or1 (pt_cmpR op_lt (pv 1) pe_int (nomark _))))) (pss_one (ps_bad D.EN GN hr2 rfl (L2N.takes_of rfl rfl rfl rfl) rfl (pv 1))) pss_nil)
      (pss_cons (ps_if (pt_cmpR op_gt (pe_op op_mul (pe_callB call_len_str (by rfl) Z.len PySem.boot_len (pa_cons (pe_fld (pv 0) rfl) pa_nil)) (pv 1)) (pe_glob (v := .int 600) (by rfl) g6 ⟨_, rfl⟩) (nomark _)) (pss_one (ps_bad D.EW GW hr2 rfl (L2N.takes_of rfl rfl rfl rfl) rfl (pv 1))) pss_nil)
      (pss_one (ps_ret (pe_make D.M GI hr rfl D.T.gC D.bI .nil pass0 (pa_cons (pe_op op_mulS (pe_fld (pv 0) rfl) (pv 1)) pa_nil))))), ?_⟩
  refine ⟨_, rfl, p, x, d, rfl, hx, ?_⟩
  cases g : intB x with
  | false =>
    have e : mulG l.length x = 1 := by cases x <;> first | rfl | cases g
    exact ⟨false, rfl, ⟨x, rfl, fun dx' n => k1 e dx' H (Same.refl H) n⟩⟩
  | true =>
    obtain ⟨j, rfl⟩ := intB_is g
    refine ⟨true, rfl, ?_⟩
    refine ⟨_, rfl, _, _, rfl, rfl, _, rfl, ?_⟩
    by_cases j1 : j < 1
    · have e : mulG l.length (.int j) = 1 := if_pos j1
      exact ifd j1 ⟨_, rfl, fun dx' n => k1 e dx' H (Same.refl H) n⟩
    refine ifn j1 ?_
    refine ⟨_, rfl, r, R.C, dx, _, _, rfl, hR, D.T.cl, D.T.nT, rf_text _ _, _, rfl, text_fits W, _, rfl, _, _, rfl, rfl, .inl ⟨by rw [tn]; omega, by rw [tn]; omega⟩, _, _, rfl, rfl, _, rfl, ?_⟩
    rw [tn]
    by_cases big : (600 : Int) < (l.length : Int) * j
    · have e : mulG l.length (.int j) = 2 := (if_neg j1).trans (if_neg (by omega))
      exact ifd big ⟨_, rfl, fun dx' n => k2 e dx' H (Same.refl H) n⟩
    refine ifn big ?_
    have e : mulG l.length (.int j) = 0 := (if_neg j1).trans (if_pos (by omega))
    obtain ⟨m, rfl⟩ : ∃ m : Nat, j = (m : Int) := ⟨j.toNat, by omega⟩
    have m1 : 1 ≤ m := by omega
    have j2 : m * l.length ≤ 600 := by
      have e : ((m * l.length : Nat) : Int) = (l.length : Int) * (m : Int) := by rw [Int.natCast_mul, Int.mul_comm]
      omega
    have e4 : Txt.mul (textS l) (m : Int) = S (rep m (tx l)) := S_eq (by rw [mul_cps (Int.natCast_nonneg _), Int.toNat_natCast] <;> rfl)
    have jb : m ≤ 600 := Nat.le_trans (Nat.le_mul_of_pos_right m l0) j2
    refine ⟨_, rfl, r, R.C, dx, _, _, rfl, hR, D.T.cl, D.T.nT, rf_text _ _, _, rfl, _, _, rfl, rfl, mulOk (Int.natCast_nonneg _) ?_ (by omega), fun q dx2 hq hdx ne => ?_⟩
    · rw [tn, Int.toNat_natCast, Nat.mul_comm]
      omega
    have Wr : IsW (rep m (tx l)) := (tx_w W).rep m1 (by rw [tx_len l0]; exact j2)
    refine ⟨H, q, dx2, rep m (tx l), by rw [e4] <;> rfl, Wr, Same.new' (Same.new' (Same.refl H) hdx) hq, hq, upd_same, fun H3 s3 R3 => ⟨rfl, k0 e q _ H3 (fun j' ej => ?_) R3 s3⟩⟩
    injection ej with ej
    subst ej
    rw [repQ_len, tx_len l0, Int.natCast_mul, Int.mul_comm]
theorem scAdX : FnScope ["self", "other"] ["self", "other"] (defScope sAdd) := ⟨rfl, rfl, rfl, by decide +kernel, rfl, by decide +kernel, by decide +kernel⟩
set_option maxHeartbeats 0 in
theorem ok_addX (D : RgX K mg R) (Z : Free mg) : FnOk P w K mg base (L2N.CX P w) 4 R.fA R.dA ["self", "other"] (spAddX K R.C R.cG R.cW) := by
  obtain ⟨t6, g6⟩ := D.w6
  have GI : FnOk P w K mg base CX0 2 R.fI R.dI ["self", "text"] (spInit R.C) := ok_init D.FI D.T Z t6 g6 D.isword D.turns
  have GG : FnOk P w K mg base CX0 1 R.fX R.dX ["self", "given"] (spErr R.cG "given") := ok_errG D.EG
  have GW : FnOk P w K mg base CX0 1 R.fW R.dW ["self", "given"] (spErr R.cW "given") := ok_errW D.EW
  refine okN D.FA scAdX (fun vs H Q E h => by obtain ⟨r, l, x, rfl, _⟩ := h; rfl) (fun cdv A outer s H vs Q E hr h => ?_)
  obtain ⟨r, l, x, rfl, ⟨W, dx, hR⟩, way⟩ := h
  have hr2 : Room 2 _ := hr.mono (by decide)
  have l0 := W.pos
  have l6 := W.few
  have tn := text_len l0
  refine ⟨_, pss_cons (ps_if (pt_not (pt_val (pe_callB call_isi (by rfl) Z.isi (by decide +kernel) (pa_cons (pv 1) (pa_cons (pe_glob (v := .ref R.C) (by rfl) D.T.gC rfl) pa_nil))))) (pss_one (ps_bad D.EG GG hr2 rfl (L2N.takes_of rfl rfl rfl rfl) rfl (pv 1))) pss_nil)
      (pss_cons (ps_if (pt_cmpR op_gt (pe_op op_add (pe_callB call_len_str (by rfl) Z.len PySem.boot_len (pa_cons (pe_fld (pv 0) rfl) pa_nil)) (pe_callB call_len_str (by rfl) Z.len PySem.boot_len (pa_cons (pe_fld (pv 1) rfl) pa_nil))) (pe_glob (v := .int 600) (by rfl) g6 ⟨_, rfl⟩) (nomark _)) (pss_one (ps_bad D.EW GW hr2 rfl (L2N.takes_of rfl rfl rfl rfl) rfl (pv 1))) pss_nil)
      (pss_one (ps_ret (pe_make D.M GI hr rfl D.T.gC D.bI .nil pass0 (pa_cons (pe_op op_add_str (pe_fld (pv 0) rfl) (pe_fld (pv 1) rfl)) pa_nil))))), ?_⟩
  rcases way with ⟨q, m, rfl, ⟨Wm, dy, hQ⟩, good, big⟩ | ⟨⟨t, h1, h2⟩, no⟩
  · have m0 := Wm.pos
    have m6 := Wm.few
    have tm := text_len m0
    refine ⟨_, rfl, _, _, .ref R.C, .ref R.C, true, rfl, .own R.C, .base (.ins hQ D.T.cl D.T.hcl D.T.hgt D.T.htk D.T.hob), ?_, true, rfl, iteF ?_⟩
    · unfold PySem.W.kitOne
      rw [if_pos (beq_self_eq_true _)]
    refine ⟨_, rfl, r, R.C, dx, _, _, rfl, hR, D.T.cl, D.T.nT, rf_text _ _, _, rfl, text_fits W, _, rfl, q, R.C, dy, _, _, rfl, hQ, D.T.cl, D.T.nT, rf_text _ _, _, rfl, text_fits Wm, _, _, rfl, rfl, _, _, rfl, rfl, _, rfl, ?_⟩
    rw [tn, tm]
    by_cases b : (600 : Int) < (l.length : Int) + (m.length : Int)
    · exact ifd b ⟨_, rfl, fun dx' n => big (by omega) dx' H (Same.refl H) n⟩
    refine ifn b ?_
    have e4 : textS l ++ textS m = S (tx l ++ tx m) := by rw [← S_add, S_tx, S_tx]
    have len : (tx l ++ tx m).length = l.length + m.length := by rw [List.length_append, tx_len l0, tx_len m0]
    have Wr : IsW (tx l ++ tx m) := ⟨fun c hc => (List.mem_append.mp hc).elim ((tx_w W).low c) ((tx_w Wm).low c), by omega, by omega⟩
    refine ⟨_, rfl, r, R.C, dx, _, _, rfl, hR, D.T.cl, D.T.nT, rf_text _ _, _, rfl, q, R.C, dy, _, _, rfl, hQ, D.T.cl, D.T.nT, rf_text _ _, _, _, rfl, rfl, ?_, fun y dx2 hy hdx ne => ?_⟩
    · rw [tn, tm, sizeLine_eq]
      omega
    exact ⟨H, y, dx2, tx l ++ tx m, by rw [e4] <;> rfl, Wr, Same.new' (Same.new' (Same.refl H) hdx) hy, hy, upd_same, fun H3 s3 R3 => ⟨rfl, good (by omega) y _ H3 len R3 s3⟩⟩
  · exact ⟨_, rfl, _, _, t, .ref R.C, false, rfl, .own R.C, h1, h2, false, rfl, iteT ⟨_, rfl, fun dx' n => no dx' H (Same.refl H) n⟩⟩
theorem scLn : FnScope ["self"] ["self"] (defScope sLen) := ⟨rfl, rfl, rfl, by decide +kernel, rfl, by decide +kernel, by decide +kernel⟩
def spLenR (C : Addr) : Sp := fun vs H Q _ => ∃ (r : Addr) (l : List Nat), vs = [.ref r] ∧ RingAt C H r l ∧ Q (.int l.length) H
theorem ok_lenR (D : RgX K mg R) (Z : Free mg) : FnOk P w K mg base CX0 1 R.fL R.dL ["self"] (spLenR R.C) := by
  refine D.FL.ok scLn (fun vs H Q E h => by obtain ⟨r, l, rfl, _⟩ := h; rfl) (fun cdv A outer s H vs Q E hr h => ?_)
  obtain ⟨r, l, rfl, ⟨W, dx, hR⟩, k⟩ := h
  refine ⟨_, pss_one (ps_ret (pe_callB call_len_str (by rfl) Z.len PySem.boot_len (pa_cons (pe_fld (pv 0) rfl) pa_nil))), ?_⟩
  refine ⟨_, rfl, r, R.C, dx, _, _, rfl, hR, D.T.cl, D.T.nT, rf_text _ _, _, rfl, text_fits W, ?_⟩
  rw [text_len W.pos]
  exact k
theorem scTxT : FnScope ["self"] ["self"] (defScope sText) := ⟨rfl, rfl, rfl, by decide +kernel, rfl, by decide +kernel, by decide +kernel⟩
def spTextR (C : Addr) : Sp := fun vs H Q _ => ∃ (r : Addr) (l : List Nat), vs = [.ref r] ∧ RingAt C H r l ∧ Q (.str (textS l)) H
theorem ok_textR (D : RgX K mg R) : FnOk P w K mg base CX0 1 R.fT R.dT ["self"] (spTextR R.C) := by
  refine D.FT.ok scTxT (fun vs H Q E h => by obtain ⟨r, l, rfl, _⟩ := h; rfl) (fun cdv A outer s H vs Q E hr h => ?_)
  obtain ⟨r, l, rfl, ⟨W, dx, hR⟩, k⟩ := h
  exact ⟨_, pss_one (ps_ret (pe_fld (pv 0) rfl)), _, rfl, r, R.C, dx, _, _, rfl, hR, D.T.cl, D.T.nT, rf_text _ _, k⟩
theorem scEqR : FnScope ["self", "other"] ["self", "other"] (defScope sREq) := ⟨rfl, rfl, rfl, by decide +kernel, rfl, by decide +kernel, by decide +kernel⟩
/-- two rings of the same text -/
def spEqR (C : Addr) : Sp := fun vs H Q _ => ∃ (r q : Addr) (l : List Nat), vs = [.ref r, .ref q] ∧ RingAt C H r l ∧ RingAt C H q l ∧ Q (.bl true) H
theorem ok_eqR (D : RgX K mg R) (Z : Free mg) : FnOk P w K mg base CX0 1 R.fE R.dE ["self", "other"] (spEqR R.C) := by
  refine D.FE.ok scEqR (fun vs H Q E h => by obtain ⟨r, q, l, rfl, _⟩ := h; rfl) (fun cdv A outer s H vs Q E hr h => ?_)
  obtain ⟨r, q, l, rfl, ⟨W, dx, hR⟩, ⟨W2, dy, hQ⟩, k⟩ := h
  refine ⟨_, pss_one (ps_ret (pe_and (pe_callB call_isi (by rfl) Z.isi (by decide +kernel) (pa_cons (pv 1) (pa_cons (pe_glob (v := .ref R.C) (by rfl) D.T.gC rfl) pa_nil))) (pe_one (pe_cmpR op_eq (pe_fld (pv 0) rfl) (pe_fld (pv 1) rfl) (nomark _))))), ?_⟩
  refine ⟨_, rfl, _, _, .ref R.C, .ref R.C, true, rfl, .own R.C, .base (.ins hQ D.T.cl D.T.hcl D.T.hgt D.T.htk D.T.hob), ?_, true, rfl, ?_⟩
  · unfold PySem.W.kitOne
    rw [if_pos (beq_self_eq_true _)]
  refine ⟨_, rfl, r, R.C, dx, _, _, rfl, hR, D.T.cl, D.T.nT, rf_text _ _, _, rfl, q, R.C, dy, _, _, rfl, hQ, D.T.cl, D.T.nT, rf_text _ _, rfl, ?_⟩
  rw [decide_eq_true rfl]
  exact k
end
end Wb
/-! o.m(k = v, ..) of an own method -/
namespace Lz
open PySem PySem.Spec PyProof.Rows L2
section
variable {X : Cx} {CX : CXT} {k : Nat} {C g : Addr} {fd : FuncData} {ps ks : List Str} {sp : Sp} {E : XK} {o : Expr} {m : Str} {apos pos : Pos} {kws : List Keyword} {ta : TE} {tk : TA} {kg : List Value → List Value → List Value} {gV : List V → List V → List V}
end
end Lz
namespace Wb
open PySem L2 WbMin WbS Lz
/-! ### rounds that come again -/
/-! ### faces of answers -/
theorem str_plain : PyData.strOk ("plain" : Str) = true := by decide +kernel
theorem int_lay (c : Int) : (plainD (.int c)).canLay0 = true := by
  show ((PyData.strOk "plain") && (true && true)) = true
  rw [str_plain] <;> rfl
theorem shaped_of {d : PyData} (h : d.canLay0 = true) (n : PyData.depth d ≤ 64) : SeqAt.shaped d = true := by
  unfold SeqAt.shaped
  rw [h, decide_eq_true n] <;> rfl
end Wb
/-! what stays while lambdas are made: all but the pool and the tables of code objects -/
namespace Wb
open PySem L2 WbMin WbS Lz Le LamX
/-- the heap without its tables -/
def noT (H : Hp) : Hp := fun b => match H b with
  | some (.tbl _) => none
  | o => o
theorem noT_at {H : Hp} {b : Addr} {o : HO} (h : H b = some o) (n : ∀ ps, o ≠ .tbl ps) : noT H b = some o := by
  unfold noT
  rw [h]
  cases o with
  | tbl ps => exact (n ps rfl).elim
  | _ => rfl
theorem noT_inv {H : Hp} {b : Addr} {o : HO} (h : noT H b = some o) : H b = some o ∧ ∀ ps, o ≠ .tbl ps := by
  unfold noT at h
  cases e : H b with
  | none =>
    rw [e] at h
    cases h
  | some u =>
    rw [e] at h
    cases u with
    | tbl ps => cases h
    | _ =>
      cases h
      exact ⟨rfl, fun ps z => by cases z⟩
def Bt (p : Addr) (H H' : Hp) : Prop := But p (noT H) H'
theorem Bt.of {p : Addr} {H H' : Hp} (b : But p H H') : Bt p H H' := fun c o n h => b c o n (noT_inv h).1
theorem Bt.same {p : Addr} {H H' : Hp} (s : Same H H') : Bt p H H' := fun c o _ h => s c o (noT_inv h).1
theorem Bt.ext {p : Addr} {H H' : Hp} (e : ExtN H H') : Bt p H H' := fun c o _ h => e c o (noT_inv h).1 (noT_inv h).2
theorem Bt.trans {p : Addr} {H H1 H2 : Hp} (a : Bt p H H1) (b : Bt p H1 H2) : Bt p H H2 := fun c o n h => b c o n (noT_at (a c o n h) (noT_inv h).2)
theorem PoolAt.noT {H : Hp} {p : Addr} (h : PoolAt H p) : PoolAt (noT H) p := by
  obtain ⟨a, b, c, e, r⟩ := h
  exact ⟨a, b, c, noT_at e (fun _ z => by cases z), r⟩
theorem PoolAt.ext {H H' : Hp} {p : Addr} (h : PoolAt H p) (s : ExtN H H') : PoolAt H' p := by
  obtain ⟨a, b, c, e, r⟩ := h
  exact ⟨a, b, c, s _ _ e (fun _ z => by cases z), r⟩
theorem Tups.noT {H : Hp} : ∀ {as : List Addr} {xs : List (List V)}, Tups H as xs → Tups (noT H) as xs
  | [], [], _ => trivial
  | _ :: _, _ :: _, h => ⟨noT_at h.1 (fun _ z => by cases z), Tups.noT h.2⟩
  | [], _ :: _, h => h.elim
  | _ :: _, [], h => h.elim
theorem Prt.noT {L : LD} {t rr u y : Addr} {as bs : List Addr} {H : Hp} (h : Prt L t rr u y as bs H) : Prt L t rr u y as bs (noT H) :=
  ⟨noT_at h.ht (fun _ z => by cases z), noT_at h.hr (fun _ z => by cases z), h.hT.noT, noT_at h.hu (fun _ z => by cases z), h.hU.noT, noT_at h.hy (fun _ z => by cases z)⟩
theorem LoopAt.noT {C T : Addr} {H : Hp} {r : Addr} {L : LD} : LoopAt C T H r L → LoopAt C T (noT H) r L := by
  rintro ⟨dx, t, rr, u, y, tb, as, bs, h0, pr, dx', dN, dX, dA, tX, tA, tY, xs, as', g0, hX, hx, hA, ha, hTX, hTA, hTY⟩
  have nt : ∀ {a : Addr} {o : HO}, H a = some o → (∀ ps, o ≠ .tbl ps) → Wb.noT H a = some o := noT_at
  exact ⟨dx, t, rr, u, y, tb, as, bs, nt h0 (fun _ z => by cases z), pr.noT, dx', dN, dX, dA, tX, tA, tY, xs, as', nt g0 (fun _ z => by cases z), nt hX (fun _ z => by cases z), hx.noT, nt hA (fun _ z => by cases z), ha.noT, nt hTX (fun _ z => by cases z), nt hTA (fun _ z => by cases z), nt hTY (fun _ z => by cases z)⟩
theorem MdAt.noT {H : Hp} {q : Addr} {L : LD} : MdAt H q L → MdAt (noT H) q L := fun ⟨A, Sd, Ed, O, kvs, ws, h0, hA, hS, hE, e2, e1, hO⟩ =>
  have tk : Tk H (Wb.noT H) := fun _ _ h => noT_at h (fun _ z => by cases z)
  ⟨A, Sd, Ed, O, kvs, ws, noT_at h0 (fun _ z => by cases z), noT_at hA (fun _ z => by cases z), noT_at hS (fun _ z => by cases z), noT_at hE (fun _ z => by cases z), fun i c hi hc => (e2 i c hi hc).tk tk, fun i hi => (e1 i hi).tk tk, by
    first
    | exact noT_at hO (fun _ z => by cases z)
    | exact (let ⟨os, h, g⟩ := hO ; ⟨os, noT_at h (fun _ z => by cases z), g⟩)⟩
theorem noT_cut {H : Hp} {a : Addr} : Same (noT (cut H a)) (cut (noT H) a) := fun b o h => by
  obtain ⟨h1, h2⟩ := noT_inv h
  unfold cut at h1 ⊢
  by_cases e : b = a
  · rw [if_pos e] at h1
    cases h1
  · rw [if_neg e] at h1 ⊢
    exact noT_at h1 h2
theorem Thing.noT : ∀ {n : Nat} {H : Hp} {v : V} {d : PyData}, Thing H n v d → Thing (noT H) n v d
  | 0, _, _, _, h => h.elim
  | _ + 1, _, _, _, .inl h => .inl h
  | _ + 1, _, _, _, .inr (.inl ⟨a, xs, ds, e, h, l, r, q⟩) => .inr (.inl ⟨a, xs, ds, e, noT_at h (fun _ z => by cases z), l, r.imp fun _ _ z => Thing.noT z, q⟩)
  | _ + 1, _, _, _, .inr (.inr (.inl ⟨a, xs, ds, e, h, l, r, q⟩)) => .inr (.inr (.inl ⟨a, xs, ds, e, noT_at h (fun _ z => by cases z), l, r.imp fun _ _ z => Thing.noT z, q⟩))
  | _ + 1, _, _, _, .inr (.inr (.inr ⟨a, ks, xs, ds, e, h, nd, l1, l, r, q⟩)) => .inr (.inr (.inr ⟨a, ks, xs, ds, e, noT_at h (fun _ z => by cases z), nd, l1, l, r.imp fun _ _ z => (Thing.noT z).same noT_cut, q⟩))
theorem Any.noT {p : Addr} {H : Hp} {x : V} {d : PyData} (h : Any p H x d) : Any p (noT H) x d := ⟨(Thing.noT h.1).same noT_cut, h.2⟩
theorem Any.bt {p : Addr} {H H' : Hp} {x : V} {d : PyData} (h : Any p H x d) (b : Bt p H H') : Any p H' x d := h.noT.but b
theorem LoopAt.bt {C T : Addr} {H H' : Hp} {p r : Addr} {L : LD} (h : LoopAt C T H r L) (hp : PoolAt H p) (b : Bt p H H') : LoopAt C T H' r L := h.noT.but hp.noT b
theorem MdAt.bt {H H' : Hp} {p q : Addr} {L : LD} (h : MdAt H q L) (hp : PoolAt H p) (b : Bt p H H') : MdAt H' q L := h.noT.but hp.noT b
/-- the tables stay while the pool changes -/
theorem Tabs.but {T : List (Addr × Str)} {H H' : Hp} {p : Addr} (t : Tabs T H) (hp : PoolAt H p) (b : But p H H') : Tabs T H' := fun y hy => by
  obtain ⟨ps, h1, h2, h3⟩ := t y hy
  refine ⟨ps, b _ _ (pool_other hp h1 fun _ _ _ q => by cases q) h1, h2, fun pos cv hc => ?_⟩
  obtain ⟨c, e1, e2⟩ := h3 pos cv hc
  exact ⟨c, e1, b _ _ (pool_other hp e2 fun _ _ _ q => by cases q) e2⟩
theorem heard_due {K : PySem.W.Frag} {H : Hp} {Q : VK} {a b : Addr} {d : PyData} (h1 : Dp K H (.ref a) d) (h2 : Dp K H (.ref b) d) (ok : d.canLay0 = true ∧ PyData.depth d ≤ 64) (k : Q (.bl false) H) : rNeD K (.ref a) (.ref b) H Q := by
  refine ⟨d, d, h1, h2, shaped_of ok.1 ok.2, shaped_of ok.1 ok.2, ?_⟩
  rw [SeqAt.eqv_refl _ ok.1]
  exact k
mutual
theorem Dp.noT {K : PySem.W.Frag} {H : Hp} : ∀ {v : V} {d : PyData}, Dp K H v d → Dp K (noT H) v d
  | _, _, .non => .non
  | _, _, .bl b => .bl b
  | _, _, .int i => .int i
  | _, _, .str x => .str x
  | _, _, .lst h r => .lst (by
      rcases h with (q | ⟨o, q⟩) | q
      · exact .inl (.inl (noT_at q (fun _ z => by cases z)))
      · exact .inl (.inr ⟨o, noT_at q (fun _ z => by cases z)⟩)
      · exact .inr q) (DpAll.noT r)
  | _, _, .tup h r => .tup (by
      rcases h with (q | ⟨o, q⟩) | q
      · exact .inl (.inl (noT_at q (fun _ z => by cases z)))
      · exact .inl (.inr ⟨o, noT_at q (fun _ z => by cases z)⟩)
      · exact .inr q) (DpAll.noT r)
theorem DpAll.noT {K : PySem.W.Frag} {H : Hp} : ∀ {vs : List V} {ds : List PyData}, DpAll K H vs ds → DpAll K (noT H) vs ds
  | _, _, .nil => .nil
  | _, _, .cons h r => .cons (Dp.noT h) (DpAll.noT r)
end
/-- all but tables stay -/
def Xt (H H' : Hp) : Prop := Same (noT H) H'
theorem Xt.of {H H' : Hp} (s : Same H H') : Xt H H' := fun b o h => s b o (noT_inv h).1
theorem Xt.ext {H H' : Hp} (e : ExtN H H') : Xt H H' := fun b o h => e b o (noT_inv h).1 (noT_inv h).2
theorem Xt.trans {H H1 H2 : Hp} (a : Xt H H1) (b : Xt H1 H2) : Xt H H2 := fun c o h => b c o (noT_at (a c o h) (noT_inv h).2)
theorem Xt.bt {p : Addr} {H H' : Hp} (x : Xt H H') : Bt p H H' := fun c o _ h => x c o h
theorem Any.xt {p : Addr} {H H' : Hp} {x : V} {d : PyData} (h : Any p H x d) (s : Xt H H') : Any p H' x d := h.noT.same s
theorem LoopAt.xt {C T : Addr} {H H' : Hp} {r : Addr} {L : LD} (h : LoopAt C T H r L) (s : Xt H H') : LoopAt C T H' r L := h.noT.same s
theorem PoolAt.xt {H H' : Hp} {p : Addr} (h : PoolAt H p) (s : Xt H H') : PoolAt H' p := h.noT.same s
theorem Dp.xt {K : PySem.W.Frag} {H H' : Hp} {v : V} {d : PyData} (h : Dp K H v d) (s : Xt H H') : Dp K H' v d := Dp.stay s (Dp.noT h)
end Wb
/-! an instance called; a loop called -/
namespace Lz
open PySem PySem.Spec PyProof.Rows L2 StX
section
variable {X : Cx} {CX : CXT} {k : Nat} {C g : Addr} {fd : FuncData} {ps ks : List Str} {sp : Sp} {E : XK} {fe e : Expr} {es : List Expr} {pos : Pos} {kws : List Keyword} {tf : TE} {t tk : TA} {kg : List Value → List Value → List Value} {gV : List V → List V → List V}
end
end Lz
namespace Wb
open PySem L2 WbMin WbS Lz
structure CalA where
  (fCa : Addr)
  (dCa : FuncData)
/-- the answers of the first rounds -/
def LD.answers (L : LD) (w : List Nat) (m : Nat) : List (List V) := (List.range m).map fun j => [V.int (L.cf w j), .bl (L.ys (it (L.lead w) (j + 1)))]
section
variable {P : Program} {w : World} {K : PySem.W.Frag} {mg : Str → Option Value} {base : Heap} {A : LA} {B : CalA} {e : Addr}
end
end Wb
/-! faces of rows of answers, of a loop's row -/
namespace Wb
open PySem L2 WbMin WbS Lz
theorem Thing.up : ∀ {n : Nat} {H : Hp} {v : V} {d : PyData}, Thing H n v d → Thing H (n + 1) v d
  | 0, _, _, _, h => h.elim
  | _ + 1, _, _, _, .inl h => .inl h
  | _ + 1, _, _, _, .inr (.inl ⟨a, xs, ds, e, h, l, r, q⟩) => .inr (.inl ⟨a, xs, ds, e, h, l, r.imp fun _ _ z => Thing.up z, q⟩)
  | _ + 1, _, _, _, .inr (.inr (.inl ⟨a, xs, ds, e, h, l, r, q⟩)) => .inr (.inr (.inl ⟨a, xs, ds, e, h, l, r.imp fun _ _ z => Thing.up z, q⟩))
  | _ + 1, _, _, _, .inr (.inr (.inr ⟨a, ks, xs, ds, e, h, nd, l1, l, r, q⟩)) => .inr (.inr (.inr ⟨a, ks, xs, ds, e, h, nd, l1, l, r.imp fun _ _ z => Thing.up z, q⟩))
/-! ### answers -/
/-! ### rows -/
def strF (z : Str) : PyData := plainD (.str z)
theorem strF_lay {z : Str} (h : PyData.strOk z = true) : (strF z).canLay0 = true := by
  show ((PyData.strOk "plain") && (PyData.strOk z && true)) = true
  rw [str_plain, h] <;> rfl
end Wb
/-! an odd value: one of 27 -/
namespace Wb
open PySem L2 WbMin WbS
abbrev sLOdd : Stmt := top 24
def spOddA : Sp := fun vs H Q _ => ∃ p : Addr, vs = [.ref p] ∧ PoolAt H p ∧ ∀ (x : V) (d : PyData) (H' : Hp), Any p H' x d → PoolAt H' p → But p H H' → Q x H'
def Val (p : Addr) (H : Hp) (x : V) : Prop := ∃ d, Any p H x d
theorem cut_at {H : Hp} {a p : Addr} (n : a ≠ p) : cut H p a = H a := if_neg n
theorem Val.non {p : Addr} {H : Hp} : Val p H .non := ⟨_, .inl .non, (fun z e => by cases e), (fun i e => by cases e), by decide +kernel, by decide +kernel⟩
theorem Val.bl {p : Addr} {H : Hp} (b : Bool) : Val p H (.bl b) := ⟨_, .inl (.bl b), (fun z e => by cases e), (fun i e => by cases e), by cases b <;> decide +kernel, by cases b <;> decide +kernel⟩
theorem Val.int {p : Addr} {H : Hp} {i : Int} (h : i < 2 ^ 1000) : Val p H (.int i) := ⟨_, .inl (.int i), (fun z e => by cases e), (fun j e => by cases e; exact h), int_lay i, (by show 1 ≤ 60; decide)⟩
theorem Val.str {p : Addr} {H : Hp} {l : List Nat} (h : Tx l) : Val p H (.str (S l)) := ⟨_, .inl (.str _), (fun z e => by cases e; exact ⟨l, rfl, h⟩), (fun i e => by cases e), strF_lay (ok_codes fun c hc => by have := h.cod c hc; omega), (by show 1 ≤ 60; decide)⟩
theorem Val.lit {p : Addr} {H : Hp} {z : Str} (l : List Nat) (e : z.cps.toList = l) (h1 : l.length ≤ 2000) (h2 : ∀ c ∈ l, c < 1000) : Val p H (.str z) := by
  rw [S_eq e]
  exact .str ⟨h1, h2⟩
theorem Val.of {p a : Addr} {H : Hp} (h : ∃ d, Thing (cut H p) 5 (.ref a) d ∧ d.canLay0 = true ∧ PyData.depth d ≤ 60) : Val p H (.ref a) := ⟨h.choose, h.choose_spec.1, (fun z e => by cases e), (fun i e => by cases e), h.choose_spec.2⟩
theorem keepA {H : Hp} {a b : Addr} {o u : HO} (h : H a = some o) (n : H b = none) : upd H b u a = some o := (upd_ne (ne_of_none h n)).trans h
theorem keep5 {H : Hp} {e f g t L x : Addr} {o u1 u2 u3 u4 u5 u6 : HO} (h : H x = some o) (he : H e = none) (hf : upd H e u1 f = none) (hg : upd (upd H e u1) f u2 g = none) (ht : upd (upd (upd (upd H e u1) f u2) g u3) e u4 t = none)
    (hL : upd (upd (upd (upd (upd H e u1) f u2) g u3) e u4) t u5 L = none) : upd (upd (upd (upd (upd (upd H e u1) f u2) g u3) e u4) t u5) L u6 x = some o :=
  keepA (keepA ((upd_ne (ne_of_none h he)).trans (keepA (keepA (keepA h he) hf) hg)) ht) hL
theorem int_lt {d m : Int} (h0 : 0 ≤ d) (h1 : d < m) : ∃ j : Nat, d = (j : Int) ∧ (j : Int) < m := ⟨d.toNat, by omega, by omega⟩
section
variable {P : Program} {w : World} {K : PySem.W.Frag} {mg : Str → Option Value} {base : Heap} {f fD fW : Addr} {fd fdD dW : FuncData}
theorem scOdA : FnScope ["_law_pool_here", "_law_way"] ["_law_pool_here"] (defScope sLOdd) := ⟨rfl, rfl, rfl, by decide +kernel, rfl, by decide +kernel, by decide +kernel⟩
set_option maxHeartbeats 0 in
theorem ok_oddA (F : Fun K "_law_odd" "_law_odd" sLOdd f fd) (D : Def K mg "_law_draw" sDraw ["_law_pool_here", "_law_many"] fD fdD) (Z : Free mg) : FnOk P w K mg base CX0 2 f fd ["_law_pool_here"] spOddA := by
  have G : FnOk P w K mg base CX0 1 fD fdD ["_law_pool_here", "_law_many"] spDraw := ok_draw D.F Z.int Z.divmod
  refine F.ok scOdA (fun vs H Q E h => ?_) (fun cdv A outer s H vs Q E hr h => ?_)
  · obtain ⟨p, rfl, _⟩ := h
    rfl
  · obtain ⟨p, rfl, hp, k⟩ := h
    refine ⟨_, pss_cons (ps_set (i := 1) scOdA.nd rfl (.inl rfl) (pe_call G hr rfl D.g D.kp D.b .nil pass0 (pa_cons (pv 0) (pa_cons pe_int pa_nil))))
      (pss_cons (ps_if (pt_cmpR op_lt (pv 1) pe_int (nomark _)) (pss_one (ps_ret (pe_ix ix_list (pe_lst (pa_cons pe_non (pa_cons pe_bl (pa_cons pe_bl (pa_cons pe_int (pa_cons pe_int (pa_cons (pe_un un_neg pe_int) (pa_cons pe_int (pa_cons pe_int (pa_cons pe_int (pa_cons (pe_op op_pow pe_int pe_int) (pa_cons (pe_un un_neg (pe_op op_pow pe_int pe_int)) pa_nil)))))))))))) (pv 1) (fun _ _ => rfl)))) pss_nil)
      (pss_cons (ps_if (pt_cmpR op_lt (pv 1) pe_int (nomark _)) (pss_one (ps_ret (pe_ix ix_list (pe_lst (pa_cons pe_str (pa_cons pe_str (pa_cons pe_str (pa_cons pe_str (pa_cons pe_str (pa_cons pe_str (pa_cons pe_str (pa_cons pe_str pa_nil))))))))) (pe_op op_sub (pv 1) pe_int) (fun _ _ => rfl)))) pss_nil)
      (pss_cons (ps_if (pt_cmpR op_lt (pv 1) pe_int (nomark _)) (pss_one (ps_ret (pe_ix ix_list (pe_lst (pa_cons (pe_lst pa_nil) (pa_cons (pe_lst (pa_cons pe_str pa_nil)) (pa_cons pe_dnewK (pa_cons (pe_disp (pps_cons pe_str pe_int pps_nil) (by rfl) (by rfl) (fun z => by cases z) (by decide)) pa_nil))))) (pe_op op_sub (pv 1) pe_int) (fun _ _ => rfl)))) pss_nil)
      (pss_one (ps_ret (pe_ix ix_list (pe_lst (pa_cons (pe_tup pa_nil) (pa_cons (pe_tup (pa_cons pe_str pa_nil)) (pa_cons (pe_tup (pa_cons pe_int (pa_cons pe_int pa_nil))) (pa_cons (pe_tup (pa_cons (pe_lst pa_nil) (pa_cons (pe_disp (pps_cons pe_str (pe_tup (pa_cons pe_int (pa_cons (pe_lst pa_nil) pa_nil))) pps_nil) (by rfl) (by rfl) (fun z => by cases z) (by decide)) pa_nil))) pa_nil))))) (pe_op op_sub (pv 1) pe_int) (fun _ _ => rfl))))))), ?_⟩
    have pw : CPow 10 38 := by refine ⟨?_, ?_, ?_⟩ <;> decide
    refine ⟨_, rfl, p, _, rfl, by decide, by decide, hp, fun d H1 d0 d1 hp1 b1 => ?_⟩
    obtain ⟨j, rfl, j1⟩ := int_lt d0 d1
    have nil : ∀ {H' : Hp}, ∀ x ∈ ([] : List V), Val p H' x := fun x hx => nomatch hx
    have vc : ∀ {H' : Hp} {y : V} {ys : List V}, Val p H' y → (∀ x ∈ ys, Val p H' x) → ∀ x ∈ y :: ys, Val p H' x := fun h1 h2 x hx => by
      rcases List.mem_cons.mp hx with rfl | hx
      · exact h1
      · exact h2 x hx
    have fin : ∀ {H' : Hp} {L : Addr} {xs : List V} {i : Int} {n : Nat}, H' L = some (.lst xs) → i = (n : Int) → n < xs.length → (∀ x ∈ xs, Val p H' x) → PoolAt H' p → But p H H' → rIxL K (.ref L) (.int i) H' Q := fun {H' L xs i n} hL ei hn hv hp' hb' => by
      subst ei
      obtain ⟨x, hx⟩ : ∃ x, xs[n]? = some x := ⟨_, List.getElem?_eq_getElem hn⟩
      exact ⟨L, xs, _, x, rfl, rfl, SqL.of hL, atI_nat hx, let ⟨dd, hd⟩ := hv x (List.mem_of_getElem? hx)
      k x dd H' hd hp' hb'⟩
    refine ⟨_, rfl, _, _, rfl, rfl, _, rfl, ite2 (fun q => ?_) (fun q => ?_)⟩
    · have q' : j < 11 := by have := of_decide_eq_true q; omega
      refine ⟨_, rfl, _, _, rfl, rfl, pw, _, _, rfl, rfl, pw, _, rfl, (by show 11 ≤ sizeLine; decide), fun L hL => ⟨_, rfl, ?_⟩⟩
      have nL := hp1.ne hL
      refine fin upd_same rfl (by show j < 11; exact q') (vc .non (vc (.bl _) (vc (.bl _) (vc (.int ?_) (vc (.int ?_) (vc (.int ?_) (vc (.int ?_) (vc (.int ?_) (vc (.int ?_) (vc (.int ?_) (vc (.int ?_) nil))))))))))) (hp1.put nL) (b1.upd hL)
      all_goals decide +kernel
    have q1 : 11 ≤ j := by
      have z : ¬ ((j : Int) < 11) := fun z => q (decide_eq_true z)
      omega
    refine ⟨_, rfl, _, _, rfl, rfl, _, rfl, ite2 (fun r => ?_) (fun r => ?_)⟩
    · have r' : j < 19 := by have := of_decide_eq_true r; omega
      refine ⟨(by show 8 ≤ sizeLine; decide), fun L hL => ⟨_, rfl, _, _, rfl, rfl, ?_⟩⟩
      have nL := hp1.ne hL
      refine fin (n := j - 11) upd_same (by omega) (by show j - 11 < 8; omega) ?_ (hp1.put nL) (b1.upd hL)
      refine vc (Val.lit [] ?_ (by decide) (by decide)) (vc (Val.lit [97] ?_ (by decide) (by decide)) (vc (Val.lit [97, 98] ?_ (by decide) (by decide)) (vc (Val.lit [65] ?_ (by decide) (by decide)) (vc (Val.lit [97, 32, 98] ?_ (by decide) (by decide)) (vc (Val.lit [97, 97] ?_ (by decide) (by decide)) (vc (Val.lit [97, 10] ?_ (by decide) (by decide)) (vc (Val.lit [97, 98, 99, 100, 101] ?_ (by decide) (by decide)) nil))))))) <;> decide +kernel
    have r1 : 19 ≤ j := by
      have z : ¬ ((j : Int) < 19) := fun z => r (decide_eq_true z)
      omega
    refine ⟨_, rfl, _, _, rfl, rfl, _, rfl, ite2 (fun u => ?_) (fun u => ?_)⟩
    · have u' : j < 23 := by have := of_decide_eq_true u; omega
      refine ⟨(by show 0 ≤ sizeLine; decide), fun a ha => ⟨(by show 1 ≤ sizeLine; decide), fun b hb => fun c hc => fun d hd => ⟨upd_same, [(Sum.inr "a", .int 1)], rfl, by decide, (by show 4 ≤ sizeLine; decide), fun L hL => ⟨_, rfl, _, _, rfl, rfl, ?_⟩⟩⟩⟩
      have na := hp1.ne ha
      have p2 := hp1.put (o := .lst []) na
      have nb := p2.ne hb
      have p3 := p2.put (o := .lst [.str "a"]) nb
      have nc := p3.ne hc
      have p4 := p3.put (o := .dK []) nc
      have nd := p4.ne hd
      have p5 := (p4.put (o := .dK []) nd).put (o := .dK (mergeK [] [(Sum.inr "a", .int 1)])) nd
      have nL := p5.ne hL
      have d1 := ((((But.refl p _).upd (o := .lst []) ha).upd (o := .lst [.str "a"]) hb).upd (o := .dK []) hc).free hd nd
      have fa := keepA (u := .lst [.ref a, .ref b, .ref c, .ref d]) ((upd_ne (o := .dK (mergeK [] [(Sum.inr "a", .int 1)])) (ne_of_none (keepA (u := .dK []) (keepA (u := .lst [.str "a"]) upd_same hb) hc) hd)).trans (keepA (u := .dK []) (keepA (u := .dK []) (keepA (u := .lst [.str "a"]) (upd_same (o := .lst [])) hb) hc) hd)) hL
      have fb := keepA (u := .lst [.ref a, .ref b, .ref c, .ref d]) ((upd_ne (o := .dK (mergeK [] [(Sum.inr "a", .int 1)])) (ne_of_none (keepA (u := .dK []) upd_same hc) hd)).trans (keepA (u := .dK []) (keepA (u := .dK []) (upd_same (o := .lst [.str "a"])) hc) hd)) hL
      have fc := keepA (u := .lst [.ref a, .ref b, .ref c, .ref d]) ((upd_ne (o := .dK (mergeK [] [(Sum.inr "a", .int 1)])) (ne_of_none upd_same hd)).trans (keepA (u := .dK []) (upd_same (o := .dK [])) hd)) hL
      have fd' := keepA (u := .lst [.ref a, .ref b, .ref c, .ref d]) (upd_same (o := .dK (mergeK [] [(Sum.inr "a", .int 1)]))) hL
      have kH := ((((((b1.upd (o := .lst []) ha).upd (o := .lst [.str "a"]) hb).upd (o := .dK []) hc).upd (o := .dK []) hd).new (o := .dK (mergeK [] [(Sum.inr "a", .int 1)])) (b1.free d1 nd)).upd (o := .lst [.ref a, .ref b, .ref c, .ref d]) hL)
      refine fin (n := j - 19) upd_same (by omega) (by show j - 19 < 4; omega) (vc (.of ?_) (vc (.of ?_) (vc (.of ?_) (vc (.of ?_) nil)))) (p5.put nL) kH
      · exact ⟨_, .inr (.inl ⟨a, [], [], rfl, (cut_at na).trans fa, by decide, .nil, rfl⟩), by decide +kernel, by decide +kernel⟩
      · exact ⟨_, .inr (.inl ⟨b, [.str "a"], [_], rfl, (cut_at nb).trans fb, by decide, .cons (.inl (.str _)) .nil, rfl⟩), by decide +kernel, by decide +kernel⟩
      · exact ⟨_, .inr (.inr (.inr ⟨c, [], [], [], rfl, (cut_at nc).trans fc, .nil, rfl, by decide, .nil, rfl⟩)), by decide +kernel, by decide +kernel⟩
      · exact ⟨_, .inr (.inr (.inr ⟨d, ["a"], [.int 1], [_], rfl, (cut_at nd).trans fd', by decide, rfl, by decide, .cons (.inl (.int _)) .nil, rfl⟩)), by decide +kernel, by decide +kernel⟩
    · have u1 : 23 ≤ j := by
        have z : ¬ ((j : Int) < 23) := fun z => u (decide_eq_true z)
        omega
      refine ⟨(by show 0 ≤ sizeLine; decide), fun a ha => ⟨(by show 1 ≤ sizeLine; decide), fun b hb => ⟨(by show 2 ≤ sizeLine; decide), fun c hc => ⟨(by show 0 ≤ sizeLine; decide), fun d hd => fun e he => ⟨(by show 0 ≤ sizeLine; decide), fun f hf => ⟨(by show 2 ≤ sizeLine; decide), fun g hg => ?_⟩⟩⟩⟩⟩⟩
      have na := hp1.ne ha
      have p2 := hp1.put (o := .tup []) na
      have nb := p2.ne hb
      have p3 := p2.put (o := .tup [.str "a"]) nb
      have nc := p3.ne hc
      have p4 := p3.put (o := .tup [.int 0, .int 1]) nc
      have nd := p4.ne hd
      have p5 := p4.put (o := .lst []) nd
      have ne := p5.ne he
      have p6 := p5.put (o := .dK []) ne
      have nf := p6.ne hf
      have p7 := p6.put (o := .lst []) nf
      have ng := p7.ne hg
      have p8 := (p7.put (o := .tup [.int 1, .ref f]) ng).put (o := .dK (mergeK [] [(Sum.inr "a", .ref g)])) ne
      have eE : upd (upd (upd _ e (.dK [])) f (.lst [])) g (.tup [.int 1, .ref f]) e = some (.dK []) := keepA (keepA upd_same hf) hg
      refine ⟨eE, [(Sum.inr "a", .ref g)], rfl, (by show 1 ≤ 15; decide), (by show 2 ≤ sizeLine; decide), fun t ht => ⟨(by show 4 ≤ sizeLine; decide), fun L hL => ⟨_, rfl, _, _, rfl, rfl, ?_⟩⟩⟩
      have nt := p8.ne ht
      have p9 := p8.put (o := .tup [.ref d, .ref e]) nt
      have nL := p9.ne hL
      have e1 := (((((But.refl p _).upd (o := .tup []) ha).upd (o := .tup [.str "a"]) hb).upd (o := .tup [.int 0, .int 1]) hc).upd (o := .lst []) hd).free he ne
      have kH := ((((((((((b1.upd (o := .tup []) ha).upd (o := .tup [.str "a"]) hb).upd (o := .tup [.int 0, .int 1]) hc).upd (o := .lst []) hd).upd (o := .dK []) he).upd (o := .lst []) hf).upd (o := .tup [.int 1, .ref f]) hg).new (o := .dK (mergeK [] [(Sum.inr "a", .ref g)])) (b1.free e1 ne)).upd (o := .tup [.ref d, .ref e]) ht)).upd (o := .lst [.ref a, .ref b, .ref c, .ref t]) hL
      have ef := ne_of_none (upd_same (o := .dK [])) hf
      have eg := ne_of_none (keepA (u := .lst []) (upd_same (o := .dK [])) hf) hg
      have xa := keep5 (u6 := .lst [.ref a, .ref b, .ref c, .ref t]) (keepA (u := .lst []) (keepA (u := .tup [.int 0, .int 1]) (keepA (u := .tup [.str "a"]) (upd_same (o := .tup [])) hb) hc) hd) he hf hg ht hL
      have xb := keep5 (u6 := .lst [.ref a, .ref b, .ref c, .ref t]) (keepA (u := .lst []) (keepA (u := .tup [.int 0, .int 1]) (upd_same (o := .tup [.str "a"])) hc) hd) he hf hg ht hL
      have xc := keep5 (u6 := .lst [.ref a, .ref b, .ref c, .ref t]) (keepA (u := .lst []) (upd_same (o := .tup [.int 0, .int 1])) hd) he hf hg ht hL
      have xd := keep5 (u6 := .lst [.ref a, .ref b, .ref c, .ref t]) (upd_same (o := .lst [])) he hf hg ht hL
      have xe := keepA (u := .lst [.ref a, .ref b, .ref c, .ref t]) (keepA (u := .tup [.ref d, .ref e]) (upd_same (o := .dK (mergeK [] [(Sum.inr "a", .ref g)]))) ht) hL
      have xf := keepA (u := .lst [.ref a, .ref b, .ref c, .ref t]) (keepA (u := .tup [.ref d, .ref e]) ((upd_ne (o := .dK (mergeK [] [(Sum.inr "a", .ref g)])) ef.symm).trans (keepA (u := .tup [.int 1, .ref f]) (upd_same (o := .lst [])) hg)) ht) hL
      have xg := keepA (u := .lst [.ref a, .ref b, .ref c, .ref t]) (keepA (u := .tup [.ref d, .ref e]) ((upd_ne (o := .dK (mergeK [] [(Sum.inr "a", .ref g)])) eg.symm).trans (upd_same (o := .tup [.int 1, .ref f]))) ht) hL
      have xt := keepA (u := .lst [.ref a, .ref b, .ref c, .ref t]) (upd_same (o := .tup [.ref d, .ref e])) hL
      refine fin (n := j - 23) upd_same (by omega) (by show j - 23 < 4; omega) (vc (.of ?_) (vc (.of ?_) (vc (.of ?_) (vc (.of ?_) nil)))) (p9.put nL) kH
      · exact ⟨_, .inr (.inr (.inl ⟨a, [], [], rfl, (cut_at na).trans xa, by decide, .nil, rfl⟩)), by decide +kernel, by decide +kernel⟩
      · exact ⟨_, .inr (.inr (.inl ⟨b, [.str "a"], [_], rfl, (cut_at nb).trans xb, by decide, .cons (.inl (.str _)) .nil, rfl⟩)), by decide +kernel, by decide +kernel⟩
      · exact ⟨_, .inr (.inr (.inl ⟨c, [.int 0, .int 1], [_, _], rfl, (cut_at nc).trans xc, by decide, .cons (.inl (.int _)) (.cons (.inl (.int _)) .nil), rfl⟩)), by decide +kernel, by decide +kernel⟩
      · exact ⟨_, .inr (.inr (.inl ⟨t, [.ref d, .ref e], [_, _], rfl, (cut_at nt).trans xt, (by show 2 ≤ 1000; decide), .cons (.inr (.inl ⟨d, [], [], rfl, (cut_at nd).trans xd, by decide, .nil, rfl⟩)) (.cons (.inr (.inr (.inr ⟨e, ["a"], [.ref g], [_], rfl, (cut_at ne).trans xe, by decide, rfl, (by show 1 ≤ 1000; decide),
          .cons (.inr (.inr (.inl ⟨g, [.int 1, .ref f], [_, _], rfl, (cut_at eg.symm).trans ((cut_at ng).trans xg), (by show 2 ≤ 1000; decide), .cons (.inl (.int _)) (.cons (.inr (.inl ⟨f, [], [], rfl, (cut_at ef.symm).trans ((cut_at nf).trans xf), by decide, .nil, rfl⟩)) .nil), rfl⟩))) .nil, rfl⟩))) .nil), rfl⟩)), by decide +kernel, by decide +kernel⟩
end
end Wb
/-! o[x] that may raise; _law_heard: the word of an error, what it keeps: a value or a ring -/
namespace Wb
open PySem PySem.Spec PyProof.Rows L2 WbO WbT
section
variable {X : Cx} {CX : CXT} {k : Nat} {C g : Addr} {fd : FuncData} {ps : List Str} {sp : Sp} {E : XK}
theorem pe_ixX {e i : Expr} {te ti : TE} {pos : Pos} (he : PE X e te) (hi : PE X i ti) (hm : Meth X.K C "__getitem__" g) (hf : PySem.W.fnIn X.K g = true) (F : FnOk X.prog X.w X.K X.mg X.base CX k g fd ps sp) (hr : Room (k + 1) X.A) (hb : Binds X.K fd ps []) (hx : Passes CX X E)
    (hsl : ∀ v u, subscripted i true v u = runValue (.builtin "lifetime.subscript" ⟨[v, u], []⟩) := by intro _ _; with_unfolding_all rfl) : PE X (.Subscript e i pos) (tOp (rIxO C sp E) te ti) := by
  refine ⟨fun pins s σ H Q I h => Subscript_ (binT he hi I h fun v u s2 x y H2 I2 rx ry q => ?_)⟩
  obtain ⟨a, dx, fs, rfl, ha, q⟩ := q
  cases (show v = Value.ref a from rx)
  obtain ⟨mA, O, _⟩ := ins_get I2.hok ha
  obtain ⟨od, J, _⟩ := O.look
  obtain ⟨n, hF⟩ := I2.fr
  have len : ([Value.ref a, u] ++ ([] : List Value)).length = ps.length := by
    rw [← F.len _ _ _ _ q]
    rfl
  have bound := hb s2 [.ref a, u] I2.kIn len
  rw [List.append_nil] at bound
  refine PySem.W.sub_K hF I2.ok.mod.kin J hm.at_ hf hm.fn (wpAny_call (codeAny_mono (F.run X.A.in1 X.stack s2 H2 ⟨[.ref a, u], []⟩ [.ref a, u] [.ref a, y] Q E hr.in1 I2.env0.in1 bound (.cons rfl (.cons ry .nil)) q) fun res s' done => ?_)) (hsl _ _)
  cases res with
  | error e => exact hx pins σ H2 s2 e s' I2 done
  | ok fl =>
    cases fl with
    | ret z => exact I2.after done
    | next => exact False.elim done
    | brk => exact False.elim done
    | cont => exact False.elim done
end
end Wb
namespace Wb
open PySem L2 WbMin WbS Lz WbO WbT Le
abbrev sHeard : Stmt := top 29
abbrev sRDue : Stmt := top 30
abbrev NH : List Str := ["_law_act", "_law_kept", "_law_word_here", "e"]
theorem scHe : FnScope NH ["_law_act"] (defScope sHeard) := ⟨rfl, rfl, rfl, by decide +kernel, rfl, by decide +kernel, by decide +kernel⟩
/-- which error is whose -/
structure Takes4 (K : PySem.W.Frag) (R : RA) : Prop where
  ww : PySem.W.exmOne K (.ref R.cW) (.ref R.cW) = some true
  pw : PySem.W.exmOne K (.ref R.cP) (.ref R.cW) = some false
  pp : PySem.W.exmOne K (.ref R.cP) (.ref R.cP) = some true
  nw : PySem.W.exmOne K (.ref R.cN) (.ref R.cW) = some false
  np : PySem.W.exmOne K (.ref R.cN) (.ref R.cP) = some false
  nn : PySem.W.exmOne K (.ref R.cN) (.ref R.cN) = some true
  gw : PySem.W.exmOne K (.ref R.cG) (.ref R.cW) = some false
  gp : PySem.W.exmOne K (.ref R.cG) (.ref R.cP) = some false
  gn : PySem.W.exmOne K (.ref R.cG) (.ref R.cN) = some false
  gg : PySem.W.exmOne K (.ref R.cG) (.ref R.cG) = some true
def RErr (R : RA) (C : Addr) (wd : Str) : Prop := C = R.cW ∧ wd = "word" ∨ C = R.cP ∧ wd = "place" ∨ C = R.cN ∧ wd = "number" ∨ C = R.cG ∧ wd = "ring"
def Tell (K : PySem.W.Frag) (H : Hp) (wd : Str) (d : PyData) (Q : VK) : Prop := ∀ (a : Addr) (H' : Hp), H a = none → Same H H' → Dp K (New H H') (.ref a) (.list [.str wd, d]) → Q (.ref a) H'
def TellI (H : Hp) (wd : Str) (r : Addr) (Q : VK) : Prop := ∀ (a f : Addr) (H' : Hp), H f = none → Same H H' → H' a = some (.lst [.str wd, .ref f]) → H' f = some (.lst [.str "plain", .ref r]) → Q (.ref a) H'
def TTR (K : PySem.W.Frag) (R : RA) : Le.Act → Hp → VK → Prop := fun act H Q =>
  ((∀ (E : XK) (k : VK), (∀ v H', Same H H' → k v H') → act E H k) ∧ Tell K H "nothing" (plainD .none) Q) ∨
    (∃ (C : Addr) (wd : Str) (x : V) (d : PyData), RErr R C wd ∧ Thing H 6 x d ∧ (∀ (E : XK) (k : VK), FailsX E C x H → act E H k) ∧ Tell K H wd d Q) ∨
    (∃ (C : Addr) (wd : Str) (m : List Nat), RErr R C wd ∧ (∀ (E : XK) (k : VK), (∀ (r : Addr) (H' : Hp), Same H H' → RingAt R.C H' r m → FailsX E C (.ref r) H') → act E H k) ∧ ∀ (r : Addr) (H' : Hp), Same H H' → RingAt R.C H' r m → TellI H' wd r Q) ∨
    ∃ (C : Addr) (wd : Str) (r : Addr) (m : List Nat), RErr R C wd ∧ RingAt R.C H r m ∧ (∀ (E : XK) (k : VK), FailsX E C (.ref r) H → act E H k) ∧ TellI H wd r Q
theorem hot_suite {X : Cx} {r : Addr} {o : Obj} {cl : Value} {dd : Option Addr} {pn : List (Addr × Obj)} (z : L2N.Zn cl dd o) (hf : ∃ fs, o.data = .fields fs) : L2H.HotC (X.suite r ((r, o) :: pn)) := by
  obtain ⟨vs, hd⟩ := hf
  exact ⟨(r, o), ⟨rfl, vs, hd, z.2.2 vs hd⟩, List.mem_cons_self⟩
def tSuite (wd : Str) (C : Addr) : Suite := fun r cl dd => tSeq (tPar 2 1 (tCons (tC (.str wd)) (tCons (tXf r cl dd C "given" (tVar 3)) tNil))) tNext
def spFaceR (K : PySem.W.Frag) (CR : Addr) : Sp := fun vs H Q E => spFace K 6 vs H Q E ∨ spFaceI CR vs H Q E
set_option maxHeartbeats 0 in
theorem hears_ring {X : Cx} {R : RA} {q : Str} {k : Nat} {g fF : Addr} {dF : FuncData} {cdg : Value} (DF : Def X.K X.mg "_law_face" sFace ["_law_thing"] fF dF) (Z : FreeT X.mg) (FC : FaceC X.K R.C) (D : RgX X.K X.mg R) (M : Takes4 X.K R) (k7 : 7 ≤ k) : Hears X NH "_law_heard" (defScope sHeard) g cdg (defBody sHeard) "_law_act" q k (TTR X.K R) := by
  have GF : FnOk X.prog X.w X.K X.mg X.base CX0 7 fF dF ["_law_thing"] (spFaceR X.K R.C) := FnOk.either (ok_face DF Z 6) ((ok_faceI DF Z FC).mono (by decide))
  intro f c s H Q act hr0 call hc tt
  have hr : Room 7 (X.A.deeper (PyProof.Rows.envOfC "_law_heard" (defScope sHeard) s.heap.objs.size g cdg)) := hr0.mono k7
  refine ⟨_, pss_cons (ps_set (i := 1) scHe.nd rfl (.inl rfl) pe_non)
    (pss_cons (ps_tryCls (l := [(.ref R.cW, 3, tSuite "word" R.cW), (.ref R.cP, 3, tSuite "place" R.cP), (.ref R.cN, 3, tSuite "number" R.cN), (.ref R.cG, 3, tSuite "ring" R.cG)]) rfl rfl scHe.nd
        (fun W pn xe tk own => pss_cons (ps_expr (call W pn xe _ _ tk)) (pss_one (ps_set (i := 2) scHe.nd rfl (.inl rfl) pe_str)))
        (.as_ (n := "e") (i := 3) rfl rfl ⟨rfl, by decide, .inl D.EW.g⟩ (fun r o cl dd pn z hf => pss_one (ps_parH (i := 2) (j := 1) (hot_suite z hf) scHe.nd rfl rfl (by decide) rfl rfl (pa_cons pe_str (pa_cons (pe_xf D.EW.xf D.EW.no z.zc hf (pv 3)) pa_nil)) (by rfl)))
        (.as_ (n := "e") (i := 3) rfl rfl ⟨rfl, by decide, .inl D.EP.g⟩ (fun r o cl dd pn z hf => pss_one (ps_parH (i := 2) (j := 1) (hot_suite z hf) scHe.nd rfl rfl (by decide) rfl rfl (pa_cons pe_str (pa_cons (pe_xf D.EP.xf D.EP.no z.zc hf (pv 3)) pa_nil)) (by rfl)))
        (.as_ (n := "e") (i := 3) rfl rfl ⟨rfl, by decide, .inl D.EN.g⟩ (fun r o cl dd pn z hf => pss_one (ps_parH (i := 2) (j := 1) (hot_suite z hf) scHe.nd rfl rfl (by decide) rfl rfl (pa_cons pe_str (pa_cons (pe_xf D.EN.xf D.EN.no z.zc hf (pv 3)) pa_nil)) (by rfl)))
        (.as_ (n := "e") (i := 3) rfl rfl ⟨rfl, by decide, .inl D.EG.g⟩ (fun r o cl dd pn z hf => pss_one (ps_parH (i := 2) (j := 1) (hot_suite z hf) scHe.nd rfl rfl (by decide) rfl rfl (pa_cons pe_str (pa_cons (pe_xf D.EG.xf D.EG.no z.zc hf (pv 3)) pa_nil)) (by rfl)))
        (.rest _))))))
    (pss_one (ps_ret (pe_lst (pa_cons (pv 2) (pa_cons (pe_call GF hr rfl DF.g DF.kp DF.b .nil pass0 (pa_cons (pv 1) pa_nil)) pa_nil)))))), ?_⟩
  have last : ∀ (wd : Str) (x : V) (d : PyData) (G : Hp) (y : Option V), Same H G → Thing G 6 x d → Tell X.K H wd d Q → tRet (tLst (tCons (tVar 2) (tCons (tCall (spFaceR X.K R.C) [] E0 (tCons (tVar 1) tNil)) tNil))) { nx := fun _ H' => Q .non H', rt := Q } [some (.ref f), some x, some (.str wd), y] G := fun wd x d G y s1 th told => by
    refine ⟨_, rfl, _, rfl, .inl ⟨x, d, rfl, th, fun b G1 hb s2 d2 => ⟨(by show 2 ≤ sizeLine; decide), fun a ha => ?_⟩⟩⟩
    have s3 := s1.trans s2
    refine told a _ (free_of s3 ha) (Same.new2 s3 (free_of s3 ha)) (.lst (SqL.of ((New.at (free_of s3 ha)).trans upd_same)) (.cons (.str _) (.cons (Dp.stay (New.mono fun c u h1 h2 => ⟨free_of s1 h1, ?_⟩) d2) .nil)))
    rw [upd_ne (ne_of_none h2 ha)]
    exact h2
  have lastI : ∀ (wd : Str) (r : Addr) (m : List Nat) (G0 G : Hp) (y : Option V), Same G0 G → RingAt R.C G r m → TellI G0 wd r Q → tRet (tLst (tCons (tVar 2) (tCons (tCall (spFaceR X.K R.C) [] E0 (tCons (tVar 1) tNil)) tNil))) { nx := fun _ H' => Q .non H', rt := Q } [some (.ref f), some (.ref r), some (.str wd), y] G := fun wd r m G0 G y s1 ra told => by
    obtain ⟨W, dx, hR⟩ := id ra
    refine ⟨_, rfl, _, rfl, .inr ⟨r, dx, _, rfl, hR, fun b G1 hb s2 hb1 => ⟨(by show 2 ≤ sizeLine; decide), fun a ha => ?_⟩⟩⟩
    exact told a b _ (free_of s1 hb) (Same.new2 (s1.trans s2) (free_of (s1.trans s2) ha)) upd_same (keepA hb1 ha)
  refine ⟨rfl, ?_⟩
  have go : ∀ (C : Addr) (wd : Str) (x : V) (dx : Addr) (G : Hp), RErr R C wd → G dx = some (.xd [("given", x)]) → (∀ y, tRet (tLst (tCons (tVar 2) (tCons (tCall (spFaceR X.K R.C) [] E0 (tCons (tVar 1) tNil)) tNil))) { nx := fun _ H' => Q .non H', rt := Q } [some (.ref f), some x, some (.str wd), y] G) →
      wCls X.K { nx := fun σ' H'' => tRet (tLst (tCons (tVar 2) (tCons (tCall (spFaceR X.K R.C) [] E0 (tCons (tVar 1) tNil)) tNil))) { nx := fun _ H' => Q .non H', rt := Q } σ' H'', rt := Q } [(.ref R.cW, 3, tSuite "word" R.cW), (.ref R.cP, 3, tSuite "place" R.cP), (.ref R.cN, 3, tSuite "number" R.cN), (.ref R.cG, 3, tSuite "ring" R.cG)] (.ref C) (some dx) [some (.ref f), some .non, none, none] G := fun C wd x dx G is hx fin => by
    have suite : ∀ (r : Addr) (wd' : Str), wd' = wd → G r = none → tSuite wd' C r (.ref C) (some dx) (offD { nx := fun σ' H'' => tRet (tLst (tCons (tVar 2) (tCons (tCall (spFaceR X.K R.C) [] E0 (tCons (tVar 1) tNil)) tNil))) { nx := fun _ H' => Q .non H', rt := Q } σ' H'', rt := Q } 3) [some (.ref f), some .non, none, some (.ref r)] G := by
      rintro r _ rfl _
      exact ⟨_, rfl, rfl, rfl, dx, _, x, rfl, hx, rfl, _, _, rfl, fin none⟩
    rcases is with ⟨rfl, ew⟩ | ⟨rfl, ew⟩ | ⟨rfl, ew⟩ | ⟨rfl, ew⟩
    · exact ⟨true, M.ww, fun _ r nr => suite r "word" ew.symm nr, fun z => by cases z⟩
    · exact ⟨false, M.pw, (fun z => by cases z), fun _ => ⟨true, M.pp, fun _ r nr => suite r "place" ew.symm nr, fun z => by cases z⟩⟩
    · exact ⟨false, M.nw, (fun z => by cases z), fun _ => ⟨false, M.np, (fun z => by cases z), fun _ => ⟨true, M.nn, fun _ r nr => suite r "number" ew.symm nr, fun z => by cases z⟩⟩⟩
    · exact ⟨false, M.gw, (fun z => by cases z), fun _ => ⟨false, M.gp, (fun z => by cases z), fun _ => ⟨false, M.gn, (fun z => by cases z), fun _ => ⟨true, M.gg, fun _ r nr => suite r "ring" ew.symm nr, fun z => by cases z⟩⟩⟩⟩
  rcases tt with ⟨run, told⟩ | ⟨C, wd, x, d, is, th, run, told⟩ | ⟨C, wd, m, is, run, told⟩ | ⟨C, wd, r, m, is, ra, run, told⟩
  · refine ⟨hc, run _ _ fun v H' s1 => ?_⟩
    exact last _ _ _ _ none s1 (.inl .non) told
  · refine ⟨hc, run _ _ fun dx H' s1 n => ?_⟩
    have s2 : Same H (upd H' dx (.xd [("given", x)])) := Same.new2 s1 (free_of s1 n)
    exact go C wd x dx _ is upd_same fun y => last _ _ _ _ y s2 (th.same s2) told
  · refine ⟨hc, run _ _ fun r H1 s1 ra dx H' s2 n => ?_⟩
    have s3 : Same H1 (upd H' dx (.xd [("given", .ref r)])) := Same.new2 s2 (free_of s2 n)
    exact go C wd (.ref r) dx _ is upd_same fun y => lastI wd r m H1 _ y s3 (ra.same s3) (told r H1 s1 ra)
  · refine ⟨hc, run _ _ fun dx H' s1 n => ?_⟩
    have s2 : Same H (upd H' dx (.xd [("given", .ref r)])) := Same.new2 s1 (free_of s1 n)
    exact go C wd (.ref r) dx _ is upd_same fun y => lastI wd r m H _ y s2 (ra.same s2) told
end Wb
/-! the law's defs for rings refused -/
namespace Wb
open PySem L2 WbMin WbS Lz WbO WbT Le
abbrev sLong : Stmt := top 27
abbrev sRIsWord : Stmt := top 28
abbrev sRSpoilt : Stmt := top 31
abbrev sRSpot : Stmt := top 32
abbrev sRSpotDue : Stmt := top 33
abbrev sRTimesDue : Stmt := top 34
/-- a word of small letters -/
def spLong : Sp := fun vs H Q _ => ∃ (p : Addr) (m : Int), vs = [.ref p, .int m] ∧ 0 < m ∧ m ≤ 600 ∧ PoolAt H p ∧
  ∀ (l : List Nat) (H' : Hp), Low l → 0 < l.length → l.length ≤ 600 → PoolAt H' p → But p H H' → Q (.str (S l)) H'
def tLongRest : TS :=
  tSeq (tAsg (tCall spDraw [] E0 (tCons (tVar 0) (tCons (tC (V.int 8)) tNil))) (gName 3))
    (tSeq (tIfS (tTest (tOp (rI0 fun i j => V.bl (decide (i < j))) (tVar 3) (tC (V.int 4)))) (tRet (tCall spWord [] E0 (tCons (tVar 0) (tCons (tVar 2) (tCons (tC (V.int 7)) tNil))))) tNext)
      (tSeq (tIfS (tTest (tOp (rI0 fun i j => V.bl (decide (i < j))) (tVar 3) (tC (V.int 6)))) (tRet (tCall spWord [] E0 (tCons (tVar 0) (tCons (tVar 2) (tCons (tVar 1) tNil))))) tNext)
        (tSeq (tAsg (tCall spWord [] E0 (tCons (tVar 0) (tCons (tVar 2) (tCons (tC (V.int 5)) tNil)))) (gName 4))
          (tRet (tIf (tTest (tOp rEq (tVar 3) (tC (V.int 6))))
            (tOp rMulS (tVar 4) (tOp (rI0 fun i j => V.int (i + j)) (tC (V.int 1)) (tCall spDraw [] E0 (tCons (tVar 0) (tCons (tC (V.int 6)) tNil)))))
            (tOp rMulS (tVar 4) (tOp (rI CDivN fun i j => V.int (i.fdiv j)) (tC (V.int 600)) (tCB (fun xs H Q => ∃ z, xs = [V.str z] ∧ z.length ≤ sizeLine ∧ Q (V.int (z.length : Nat)) H) (tCons (tVar 4) tNil)))))))))
theorem div600 {n : Nat} : Int.fdiv 600 (n : Int) = ((600 / n : Nat) : Int) := by
  rw [Int.fdiv_eq_ediv_of_nonneg _ (Int.natCast_nonneg n)] <;> rfl
theorem low_rep {l : List Nat} {n : Nat} (h : Low l) : Low (List.replicate n l).flatten := fun c hc => by
  obtain ⟨m, hm, q⟩ := List.mem_flatten.mp hc
  rw [List.eq_of_mem_replicate hm] at q
  exact h c q
theorem good_isL {sg l : List Nat} (h : Low sg) : goodW sg (.str (S l)) = (decide (1 ≤ l.length) && decide (l.length ≤ 600) && (l.filter fun c => !decide (c ∈ sg)).isEmpty) := by
  rw [goodW_S, Bool.eq_iff_iff]
  unfold isWB
  simp only [Bool.and_eq_true, decide_eq_true_iff, List.all_eq_true, List.isEmpty_iff, List.filter_eq_nil_iff, Bool.not_eq_true', decide_eq_false_iff_not, Classical.not_not]
  constructor
  · rintro ⟨⟨a, _⟩, b⟩
    exact ⟨a, b⟩
  · rintro ⟨a, b⟩
    refine ⟨⟨a, fun c hc => ?_⟩, b⟩
    have q := h c (b c hc)
    unfold okc
    rw [Bool.and_eq_true, decide_eq_true_iff, decide_eq_true_iff]
    exact q
def spLIsWordL : Sp := fun vs H Q _ => ∃ (p : Addr) (x : V) (d : PyData) (sg : List Nat), vs = [x, .str (S sg)] ∧ Any p H x d ∧ Low sg ∧ ∀ H', Same H H' → Q (.bl (goodW sg x)) H'
theorem scRIw : FnScope ["_law_thing", "_law_abc", "_law_mark"] ["_law_thing", "_law_abc"] (defScope sRIsWord) := ⟨rfl, rfl, rfl, by decide +kernel, rfl, by decide +kernel, by decide +kernel⟩
section
variable {P : Program} {w : World} {K : PySem.W.Frag} {mg : Str → Option Value} {base : Heap} {f fD fS fW fF : Addr} {fd fdD fdS fdW dF : FuncData}
theorem scG : FnScope ["_law_pool_here", "_law_most", "_law_abc", "_law_way", "_law_piece"] ["_law_pool_here", "_law_most"] (defScope sLong) := ⟨rfl, rfl, rfl, by decide +kernel, rfl, by decide +kernel, by decide +kernel⟩
theorem ok_long (F : Fun K "_law_long" "_law_long" sLong f fd) (D : Def K mg "_law_draw" sDraw ["_law_pool_here", "_law_many"] fD fdD) (DS : Def K mg "_law_signs" sSigns ["_law_pool_here", "_law_most"] fS fdS) (DW : Def K mg "_law_word" sWord ["_law_pool_here", "_law_abc", "_law_most"] fW fdW)
    (mInt : mg "int" = none) (mDm : mg "divmod" = none) (mLen : mg "len" = none) (mRange : mg "range" = none) :
    FnOk P w K mg base CX0 3 f fd ["_law_pool_here", "_law_most"] spLong := by
  have G : FnOk P w K mg base CX0 1 fD fdD ["_law_pool_here", "_law_many"] spDraw := ok_draw D.F mInt mDm
  have GS : FnOk P w K mg base CX0 2 fS fdS ["_law_pool_here", "_law_most"] spSigns := ok_signs DS.F D mInt mDm mLen mRange
  have GW : FnOk P w K mg base CX0 2 fW fdW ["_law_pool_here", "_law_abc", "_law_most"] spWord := ok_word DW.F D mInt mDm mLen mRange
  refine F.ok scG (fun vs H Q E h => ?_) (fun cdv A outer s H vs Q E hr h => ?_)
  · obtain ⟨p, m, rfl, _⟩ := h
    rfl
  · obtain ⟨p, m, rfl, m0, m1, hp, k⟩ := h
    have hr1 : Room 1 _ := hr.mono (by decide)
    refine ⟨_, pss_cons (ps_set (i := 2) scG.nd rfl (.inl rfl) (pe_ifExp (pt_cmpR op_eq (pe_call G hr1 rfl D.g D.kp D.b .nil pass0 (pa_cons (pv 0) (pa_cons pe_int pa_nil))) pe_int (nomark _)) pe_str (pe_call GS hr rfl DS.g DS.kp DS.b .nil pass0 (pa_cons (pv 0) (pa_cons pe_int pa_nil)))))
      (pss_cons (ps_set (i := 3) scG.nd rfl (.inl rfl) (pe_call G hr1 rfl D.g D.kp D.b .nil pass0 (pa_cons (pv 0) (pa_cons pe_int pa_nil))))
      (pss_cons (ps_if (pt_cmpR op_lt (pv 3) pe_int (nomark _)) (pss_one (ps_ret (pe_call GW hr rfl DW.g DW.kp DW.b .nil pass0 (pa_cons (pv 0) (pa_cons (pv 2) (pa_cons pe_int pa_nil)))))) pss_nil)
      (pss_cons (ps_if (pt_cmpR op_lt (pv 3) pe_int (nomark _)) (pss_one (ps_ret (pe_call GW hr rfl DW.g DW.kp DW.b .nil pass0 (pa_cons (pv 0) (pa_cons (pv 2) (pa_cons (pv 1) pa_nil)))))) pss_nil)
      (pss_cons (ps_set (i := 4) scG.nd rfl (.inl rfl) (pe_call GW hr rfl DW.g DW.kp DW.b .nil pass0 (pa_cons (pv 0) (pa_cons (pv 2) (pa_cons pe_int pa_nil)))))
      (pss_one (ps_ret (pe_ifExp (pt_cmpR op_eq (pv 3) pe_int (nomark _))
        (pe_op op_mulS (pv 4) (pe_op op_add pe_int (pe_call G hr1 rfl D.g D.kp D.b .nil pass0 (pa_cons (pv 0) (pa_cons pe_int pa_nil)))))
        (pe_op op_mulS (pv 4) (pe_op op_fdivN pe_int (pe_callB call_len_str (by rfl) mLen PySem.boot_len (pa_cons (pv 4) pa_nil))))))))))), ?_⟩
    refine ⟨_, rfl, p, _, rfl, by decide, by decide, hp, fun d H1 d0 d1 hp1 b1 => ⟨rfl, _, rfl, ?_⟩⟩
    have fin : ∀ (a : List Nat) (H2 : Hp), Low a → 0 < a.length → a.length ≤ 26 → PoolAt H2 p → But p H H2 → tLongRest { nx := fun x H' => Q V.non H', rt := Q } [some (.ref p), some (.int m), some (.str (S a)), none, none] H2 := by
      intro a H2 lo a0 a1 hp2 b2
      have low : ∀ {l : List Nat}, (∀ c ∈ l, c ∈ a) → Low l := fun s c hc => lo c (s c hc)
      refine ⟨_, rfl, p, _, rfl, by decide, by decide, hp2, fun e H3 e0 e1 hp3 b3 => ⟨_, rfl, _, _, rfl, rfl, _, rfl, ite2 (fun _ => ?_) (fun _ => ?_)⟩⟩
      · exact ⟨_, rfl, _, rfl, p, a, _, rfl, a0, by omega, by decide, by decide, hp3, fun l H4 sub l0 l1 hp4 b4 => k l H4 (low sub) l0 (by omega) hp4 (b2.trans (b3.trans b4))⟩
      · refine ⟨_, rfl, _, _, rfl, rfl, _, rfl, ite2 (fun _ => ?_) (fun _ => ?_)⟩
        · exact ⟨_, rfl, _, rfl, _, rfl, p, a, _, rfl, a0, by omega, m0, by omega, hp3, fun l H4 sub l0 l1 hp4 b4 => k l H4 (low sub) l0 (by omega) hp4 (b2.trans (b3.trans b4))⟩
        · refine ⟨_, rfl, _, rfl, p, a, _, rfl, a0, by omega, by decide, by decide, hp3, fun l H4 sub l0 l1 hp4 b4 => ⟨_, rfl, rfl, _, rfl, ite2 (fun _ => ?_) (fun _ => ?_)⟩⟩
          · refine ⟨_, rfl, _, rfl, p, _, rfl, by decide, by decide, hp4, fun g H5 g0 g1 hp5 b5 => ⟨_, _, rfl, rfl, _, _, rfl, rfl, ?_, ?_⟩⟩
            · refine mulOk (by omega) ?_ (by omega)
              rw [S_len]
              have : l.length * (1 + g).toNat ≤ 5 * 6 := Nat.mul_le_mul (by omega) (by omega)
              omega
            · have e : Txt.mul (S l) (1 + g) = S ((List.replicate (1 + g).toNat l).flatten) := S_eq (by rw [mul_cps (by omega), S_cps])
              have len : ((List.replicate (1 + g).toNat l).flatten).length = (1 + g).toNat * l.length := by rw [List.length_flatten, List.map_replicate, List.sum_replicate_nat]
              have b : (1 + g).toNat * l.length ≤ 6 * 5 := Nat.mul_le_mul (by omega) (by omega)
              have c : 0 < (1 + g).toNat * l.length := Nat.mul_pos (by omega) l0
              rw [e]
              exact k _ H5 (low_rep (low sub)) (by omega) (by omega) hp5 (b2.trans (b3.trans (b4.trans b5)))
          · refine ⟨_, rfl, _, rfl, _, rfl, (by rw [S_len, sizeLine_eq]; omega), _, _, rfl, rfl, (by rw [S_len]; constructor <;> omega), _, _, rfl, rfl, ?_, ?_⟩
            · rw [S_len, div600]
              refine mulOk (Int.natCast_nonneg _) ?_ (Int.le_trans (Int.ofNat_le.mpr (Nat.div_le_self 600 l.length)) (by decide))
              rw [S_len, Int.toNat_natCast, Nat.mul_comm]
              have := Nat.div_mul_le_self 600 l.length
              omega
            · have hq : Q (.str (Txt.mul (S l) ((600 / l.length : Nat) : Int))) H4 := by
                have e : Txt.mul (S l) ((600 / l.length : Nat) : Int) = S ((List.replicate (600 / l.length) l).flatten) := S_eq (by rw [mul_cps (Int.natCast_nonneg _), S_cps, Int.toNat_natCast])
                have len : ((List.replicate (600 / l.length) l).flatten).length = 600 / l.length * l.length := by rw [List.length_flatten, List.map_replicate, List.sum_replicate_nat]
                have b := Nat.div_mul_le_self 600 l.length
                have c : 0 < 600 / l.length * l.length := Nat.mul_pos (Nat.div_pos (by omega) l0) l0
                rw [e]
                exact k _ H4 (low_rep (low sub)) (by omega) (by omega) hp4 (b2.trans (b3.trans b4))
              rw [← div600, ← S_len l] at hq
              exact hq
    refine ite2 (fun _ => ?_) (fun _ => ?_)
    · have q := fin abc H1 abc_low (by decide) (by decide) hp1 b1
      rw [← abc_is] at q
      exact q
    · exact ⟨_, rfl, p, _, rfl, by decide, by decide, hp1, fun l H2 lo nd l0 l1 hp2 b2 => fin l H2 lo l0 (by omega) hp2 (b1.trans b2)⟩
set_option maxHeartbeats 0 in
theorem ok_liswordL (F : Fun K "_law_is_word" "_law_is_word" sRIsWord f fd) (Z : Free mg) : FnOk P w K mg base CX0 1 f fd ["_law_thing", "_law_abc"] spLIsWordL := by
  refine F.ok scRIw (fun vs H Q E h => by obtain ⟨p, x, d, sg, rfl, _⟩ := h; rfl) (fun cdv A outer s H vs Q E hr h => ?_)
  obtain ⟨p, x, d, sg, rfl, ha, hs, k⟩ := h
  refine ⟨_, pss_cons (ps_if (PW.pt (pw_or (pt_not (pt_val (pe_callB call_isi (by rfl) Z.isi (by decide +kernel) (pa_cons (pv 0) (pa_cons (pe_bltn (v := .ty "str") (u := .type "str") (by rfl) Z.str (by decide +kernel) rfl) pa_nil)))))
      (pw_or (pt_cmpR op_eq (pv 0) pe_str (nomark _)) (pw_or1 (pt_cmpR op_gt (pe_callB call_len_str (by rfl) Z.len PySem.boot_len (pa_cons (pv 0) pa_nil)) pe_int (nomark _)))))) (pss_one (ps_ret pe_bl)) pss_nil)
    (pss_one (ps_ret (pe_cmpR (op_eqD hr.units) (pe_lc (own := [("_law_mark", 2)]) (g := gName 2) rfl scRIw.nd (pi_str (pv 0)) (blkOk_by (N := ["_law_thing", "_law_abc", "_law_mark"]) (sc := defScope sRIsWord) (by decide +kernel))
        (fun _ _ _ _ _ => pg_name (i := 2) scRIw.nd rfl (.inl rfl)) (fun _ _ _ _ _ => pts_one (pt_cmpR op_notIn_sign (pv 2) (pv 1) rfl)) (fun _ _ _ _ _ => pv 2)) (pe_lst pa_nil) (nomark _)))), ?_⟩
  rcases ha.sort with ⟨l, rfl, tl⟩ | ⟨i, rfl⟩ | n
  · rw [good_isL hs] at k
    have few := tl.few
    have no : ¬ (1 ≤ l.length ∧ l.length ≤ 600) → Q (.bl false) H := fun z => by
      have q := k H (Same.refl H)
      have e : (decide (1 ≤ l.length) && decide (l.length ≤ 600)) = false := by
        rw [Bool.eq_false_iff]
        intro y
        rw [Bool.and_eq_true, decide_eq_true_iff, decide_eq_true_iff] at y
        exact z y
      rw [e, Bool.false_and] at q
      exact q
    refine ⟨_, rfl, _, _, .type "str", .type "str", true, rfl, .ty "str", .base (.str _), kit_ty (by decide +kernel), true, rfl, ?_⟩
    refine ⟨_, rfl, rfl, _, rfl, ite2 (fun q => ?_) (fun q => ?_)⟩
    · refine no fun z => ?_
      have q1 : S l = Str.ofString "" := by injection of_decide_eq_true q
      have q2 : (S l).length = 0 := by rw [q1]; decide +kernel
      rw [S_len] at q2
      omega
    · have l0 : 1 ≤ l.length := by
        cases l with
        | nil => exact absurd (decide_eq_true (congrArg V.str (show S [] = Str.ofString "" by decide +kernel))) q
        | cons c l => exact Nat.succ_le_succ (Nat.zero_le _)
      refine ⟨_, rfl, _, rfl, tl.fits, _, _, rfl, rfl, _, rfl, ite2 (fun q => ?_) (fun q => ?_)⟩
      · refine no fun z => ?_
        have q1 := of_decide_eq_true q
        rw [S_len] at q1
        omega
      · have l1 : l.length ≤ 600 := by
          have z : ¬ ((600 : Int) < ((S l).length : Int)) := fun z => q (decide_eq_true z)
          rw [S_len] at z
          omega
        refine ⟨_, rfl, _, rfl, fun D hD => lc_it walk_str (fun i H3 => H3 D = some (.lst (((l.take i).filter fun c => !decide (c ∈ sg)).map vOne)) ∧ Same H H3) ⟨upd_same, Same.put (Same.refl H) hD⟩ (fun _ _ _ _ => trivial) ?_ ?_⟩
        · rintro i x H3 H3' hi ⟨h1, h2⟩ ⟨rfl, c, hc, rfl⟩
          have hc' : l[i]? = some c := by simpa [S] using hc
          refine ⟨rfl, _, rfl, _, rfl, c, S sg, rfl, rfl, _, rfl, ?_⟩
          rw [S_cps]
          by_cases hk : c ∈ sg
          · rw [decide_eq_true hk]
            refine iteF ⟨?_, h2⟩
            rw [h1, take_more hc', List.filter_append, show ([c].filter fun c => !decide (c ∈ sg)) = [] from List.filter_cons_of_neg (by simp [hk]), List.append_nil]
          · rw [decide_eq_false hk]
            refine iteT ⟨_, rfl, _, h1, ?_, ?_, Same.new' h2 hD⟩
            · rw [List.length_map, sizeLine_eq]
              have := List.length_filter_le (fun c => !decide (c ∈ sg)) (l.take i)
              have := List.length_take_le' i l
              omega
            · rw [upd_same, take_more hc', List.filter_append, List.map_append, show ([c].filter fun c => !decide (c ∈ sg)) = [c] from List.filter_cons_of_pos (by simp [hk])] <;> rfl
        · rintro H3 ⟨h1, h2⟩
          rw [S_size, List.take_length] at h1
          refine ⟨(by show 0 ≤ sizeLine; decide), fun M hM => ?_⟩
          have nD : D ≠ M := ne_of_none h1 hM
          have h1' : H3 D = some (.lst (((l.filter fun c => !decide (c ∈ sg)).map one).map V.str)) := by rw [h1, List.map_map] <;> rfl
          refine ⟨_, _, .lst (SqL.of (by rw [upd_ne nD, h1'])) (dp_strs _), .lst (SqL.of upd_same) .nil, shaped_strs fun z hz => ?_, rfl, ?_⟩
          · obtain ⟨c, hc, rfl⟩ := List.mem_map.mp hz
            exact ok_oneA (tl.cod c (List.mem_filter.mp hc).1)
          · have q := k _ (Same.put (o := .lst []) h2 hM)
            have e : (decide (1 ≤ l.length) && decide (l.length ≤ 600) && (l.filter fun c => !decide (c ∈ sg)).isEmpty) = PyData.eqv (.list (((l.filter fun c => !decide (c ∈ sg)).map one).map PyData.str)) (.list []) := by
              rw [eqv_nil, decide_eq_true l0, decide_eq_true l1]
              cases (l.filter fun c => !decide (c ∈ sg)) <;> rfl
            rw [e] at q
            exact q
  · exact ⟨_, rfl, _, _, .type "int", .type "str", false, rfl, .ty "str", .base (.int _), kit_ty (by decide +kernel), false, rfl, k H (Same.refl H)⟩
  · obtain ⟨t, ty, kt⟩ := n.str (K := K)
    rw [n.good] at k
    exact ⟨_, rfl, _, _, t, .type "str", false, rfl, .ty "str", ty, kt, false, rfl, k H (Same.refl H)⟩
/-- good of the small letters is a word -/
theorem goodW_abc {x : V} : goodW abc x = wordB x := by
  cases x with
  | str z =>
    show (isWB z.cps.toList && z.cps.toList.all fun c => decide (c ∈ abc)) = isWB z.cps.toList
    cases h : isWB z.cps.toList with
    | false => rfl
    | true =>
      rw [Bool.true_and, List.all_eq_true]
      intro c hc
      have q := (isWB_iff.mp h).low c hc
      refine decide_eq_true ?_
      unfold abc
      exact List.mem_map.mpr ⟨c - 97, List.mem_range.mpr (by omega), by omega⟩
  | _ => rfl
theorem scTD : FnScope ["_law_times", "_law_size"] ["_law_times", "_law_size"] (defScope sRTimesDue) := ⟨rfl, rfl, rfl, by decide +kernel, rfl, by decide +kernel, by decide +kernel⟩
def tdue (n : Nat) (x : V) : Str := if mulG n x = 0 then "nothing" else if mulG n x = 1 then "number" else "word"
def spTimesDue : Sp := fun vs H Q _ => ∃ (p : Addr) (x : V) (d : PyData) (n : Nat), vs = [x, .int (n : Nat)] ∧ Any p H x d ∧ n ≤ 600 ∧ Q (.str (tdue n x)) H
set_option maxHeartbeats 0 in
theorem ok_timesdue (F : Fun K "_law_times_due" "_law_times_due" sRTimesDue f fd) (DW : Def K mg "_law_whole" sLWhole ["_law_thing"] fW fdW) (Z : Free mg) : FnOk P w K mg base CX0 2 f fd ["_law_times", "_law_size"] spTimesDue := by
  have GW : FnOk P w K mg base CX0 1 fW fdW ["_law_thing"] spIsIntA := ok_lwhole DW.F Z
  refine F.ok scTD (fun vs H Q E h => by obtain ⟨p, x, d, n, rfl, _⟩ := h; rfl) (fun cdv A outer s H vs Q E hr h => ?_)
  obtain ⟨p, x, d, n, rfl, hx, n6, k⟩ := h
  refine ⟨_, pss_cons (ps_if (PW.pt (pw_or (pt_not (pt_val (pe_call GW hr rfl DW.g DW.kp DW.b .nil pass0 (pa_cons (pv 0) pa_nil)))) (pw_or1 (pt_cmpR op_lt (pv 0) pe_int (nomark _))))) (pss_one (ps_ret pe_str)) pss_nil)
    (pss_one (ps_ret (pe_ifExp (pt_cmpR op_le (pe_op op_mul (pv 1) (pv 0)) pe_int (nomark _)) pe_str pe_str))), ?_⟩
  unfold tdue at k
  refine ⟨_, rfl, p, x, d, rfl, hx, ?_⟩
  cases g : intB x with
  | false =>
    have e : mulG n x = 1 := by cases x <;> first | rfl | cases g
    rw [e] at k
    exact ⟨false, rfl, k⟩
  | true =>
    obtain ⟨j, rfl⟩ := intB_is g
    refine ⟨true, rfl, ?_⟩
    refine ⟨_, rfl, _, _, rfl, rfl, _, rfl, ?_⟩
    by_cases j1 : j < 1
    · have e : mulG n (.int j) = 1 := if_pos j1
      rw [e] at k
      exact ifd j1 k
    refine ifn j1 ?_
    refine ⟨_, rfl, _, rfl, _, _, rfl, rfl, .inl ⟨by omega, by omega⟩, _, _, rfl, rfl, _, rfl, ?_⟩
    by_cases big : (n : Int) * j ≤ 600
    · have e : mulG n (.int j) = 0 := (if_neg j1).trans (if_pos big)
      rw [e] at k
      exact ifd big k
    · have e : mulG n (.int j) = 2 := (if_neg j1).trans (if_neg big)
      rw [e] at k
      exact ifn big k
theorem scRD : FnScope ["_law_word_here", "_law_thing"] ["_law_word_here", "_law_thing"] (defScope sRDue) := ⟨rfl, rfl, rfl, by decide +kernel, rfl, by decide +kernel, by decide +kernel⟩
/-- what is due -/
def spRDue (K : PySem.W.Frag) (C : Addr) : Sp := fun vs H Q _ => ∃ (wd : Str) (x : V), vs = [.str wd, x] ∧ ((wd = "nothing" ∧ Tell K H wd (plainD .none) Q) ∨ (wd ≠ "nothing" ∧ ((∃ d, Thing H 6 x d ∧ Tell K H wd d Q) ∨ ∃ (r : Addr) (m : List Nat), x = .ref r ∧ RingAt C H r m ∧ TellI H wd r Q)))
set_option maxHeartbeats 0 in
theorem ok_rdue {C : Addr} (F : Fun K "_law_due" "_law_due" sRDue f fd) (DF : Def K mg "_law_face" sFace ["_law_thing"] fF dF) (ZT : FreeT mg) (FC : FaceC K C) : FnOk P w K mg base CX0 8 f fd ["_law_word_here", "_law_thing"] (spRDue K C) := by
  have GF : FnOk P w K mg base CX0 7 fF dF ["_law_thing"] (spFaceR K C) := FnOk.either (ok_face DF ZT 6) ((ok_faceI DF ZT FC).mono (by decide))
  refine F.ok scRD (fun vs H Q E h => by obtain ⟨wd, x, rfl, _⟩ := h; rfl) (fun cdv A outer s H vs Q E hr h => ?_)
  obtain ⟨wd, x, rfl, way⟩ := h
  refine ⟨_, pss_one (ps_ret (pe_lst (pa_cons (pv 0) (pa_cons (pe_call GF hr rfl DF.g DF.kp DF.b .nil pass0 (pa_cons (pe_ifExp (pt_cmpR op_eq (pv 0) pe_str (nomark _)) pe_non (pv 1)) pa_nil)) pa_nil)))), ?_⟩
  refine ⟨_, rfl, _, rfl, rfl, _, rfl, ?_⟩
  rcases way with ⟨rfl, told⟩ | ⟨ne, way⟩
  · refine ifd rfl (.inl ⟨.non, plainD .none, rfl, .inl .non, fun b G1 hb s2 d2 => ⟨(by show 2 ≤ sizeLine; decide), fun a ha => ?_⟩⟩)
    refine told a _ (free_of s2 ha) (Same.new2 s2 (free_of s2 ha)) (.lst (SqL.of ((New.at (free_of s2 ha)).trans upd_same)) (.cons (.str _) (.cons (Dp.stay (New.mono fun c u h1 h2 => ⟨h1, ?_⟩) d2) .nil)))
    rw [upd_ne (ne_of_none h2 ha)]
    exact h2
  · refine ifn (fun q => ne (by injection q)) ?_
    rcases way with ⟨d, th, told⟩ | ⟨r, m, rfl, ra, told⟩
    · refine ⟨_, rfl, .inl ⟨x, d, rfl, th, fun b G1 hb s2 d2 => ⟨(by show 2 ≤ sizeLine; decide), fun a ha => ?_⟩⟩⟩
      refine told a _ (free_of s2 ha) (Same.new2 s2 (free_of s2 ha)) (.lst (SqL.of ((New.at (free_of s2 ha)).trans upd_same)) (.cons (.str _) (.cons (Dp.stay (New.mono fun c u h1 h2 => ⟨h1, ?_⟩) d2) .nil)))
      rw [upd_ne (ne_of_none h2 ha)]
      exact h2
    · obtain ⟨W, dx, hR⟩ := id ra
      refine ⟨_, rfl, .inr ⟨r, dx, _, rfl, hR, fun b G1 hb s2 hb1 => ⟨(by show 2 ≤ sizeLine; decide), fun a ha => ?_⟩⟩⟩
      exact told a b _ hb (Same.new2 s2 (free_of s2 ha)) upd_same (keepA hb1 ha)
end
end Wb
/-! spoilt words, spots and what is due of them -/
namespace Wb
open PySem L2 WbMin WbS Lz WbO WbT Le
section
variable {P : Program} {w : World} {K : PySem.W.Frag} {mg : Str → Option Value} {base : Heap} {f fD fO fW : Addr} {fd dD dO dW : FuncData}
theorem ok_lwholeR (F : Fun K "_law_whole" "_law_whole" sLWhole f fd) (Z : Free mg) : FnOk P w K mg base CX0 1 f fd ["_law_thing"] spIsIntS := by
  refine F.ok scLW (fun vs H Q E h => by obtain ⟨x, rfl, _⟩ := h; rfl) (fun cdv A outer s H vs Q E hr h => ?_)
  obtain ⟨x, rfl, ha, k⟩ := h
  refine ⟨_, pss_one (ps_ret (pe_and (pe_callB call_isi (by rfl) Z.isi (by decide +kernel) (pa_cons (pv 0) (pa_cons (pe_bltn (v := .ty "int") (u := .type "int") (by rfl) Z.int (by decide +kernel) rfl) pa_nil)))
      (pe_one (pe_not (pe_callB call_isi (by rfl) Z.isi (by decide +kernel) (pa_cons (pv 0) (pa_cons (pe_bltn (v := .ty "bool") (u := .type "bool") (by rfl) Z.bool (by decide +kernel) rfl) pa_nil))))))), ?_⟩
  rcases ha with ⟨l, rfl⟩ | ⟨i, rfl⟩ | n
  · exact ⟨_, rfl, _, _, _, .type "int", false, rfl, .ty "int", .base (.str _), kit_ty (by decide +kernel), false, rfl, k⟩
  · exact ⟨_, rfl, _, _, _, .type "int", true, rfl, .ty "int", .base (.int _), kit_ty (by decide +kernel), true, rfl, _, rfl, _, _, _, .type "bool", false, rfl, .ty "bool", .base (.int _), kit_ty (by decide +kernel), _, rfl, k⟩
  · obtain ⟨t, b, ty, ki, kb⟩ := n.int (K := K)
    rw [n.intB] at k
    cases b with
    | false => exact ⟨_, rfl, _, _, t, .type "int", false, rfl, .ty "int", ty, ki, false, rfl, k⟩
    | true => exact ⟨_, rfl, _, _, t, .type "int", true, rfl, .ty "int", ty, ki, true, rfl, _, rfl, _, _, t, .type "bool", true, rfl, .ty "bool", ty, kb rfl, _, rfl, k⟩
/-! ### a spoilt word -/
def spRSpoilt : Sp := fun vs H Q _ => ∃ (p : Addr) (l : List Nat), vs = [.ref p, .str (S l)] ∧ IsW l ∧ PoolAt H p ∧ ∀ (m : List Nat) (H' : Hp), Tx m → PoolAt H' p → But p H H' → Q (.str (S m)) H'
abbrev NSp : List Str := ["_law_pool_here", "_law_word_here", "_law_at", "_law_mark"]
theorem scSp : FnScope NSp ["_law_pool_here", "_law_word_here"] (defScope sRSpoilt) := ⟨rfl, rfl, rfl, by decide +kernel, rfl, by decide +kernel, by decide +kernel⟩
theorem marks8 : ("A0 _-{\nz" : Str) = S [65, 48, 32, 95, 45, 123, 10, 122] := by decide +kernel
set_option maxHeartbeats 0 in
theorem ok_rspoilt (F : Fun K "_law_spoilt" "_law_spoilt" sRSpoilt f fd) (D : Def K mg "_law_draw" sDraw ["_law_pool_here", "_law_many"] fD dD) (Z : Free mg) : FnOk P w K mg base CX0 2 f fd ["_law_pool_here", "_law_word_here"] spRSpoilt := by
  have G : FnOk P w K mg base CX0 1 fD dD ["_law_pool_here", "_law_many"] spDraw := ok_draw D.F Z.int Z.divmod
  refine F.ok scSp (fun vs H Q E h => by obtain ⟨p, l, rfl, _⟩ := h; rfl) (fun cdv A outer s H vs Q E hr h => ?_)
  obtain ⟨p, l, rfl, W, hp, k⟩ := h
  refine ⟨_, pss_cons (ps_par (i := 2) (j := 3) rfl scSp.nd rfl rfl (by decide) rfl rfl (pa_cons (pe_call G hr rfl D.g D.kp D.b .nil pass0 (pa_cons (pv 0) (pa_cons (pe_op op_add (pe_callB call_len_str (by rfl) Z.len PySem.boot_len (pa_cons (pv 1) pa_nil)) pe_int) pa_nil)))
        (pa_cons (pe_ix ix_str pe_str (pe_call G hr rfl D.g D.kp D.b .nil pass0 (pa_cons (pv 0) (pa_cons pe_int pa_nil))) (fun _ _ => rfl)) pa_nil)) (by rfl))
    (pss_cons (ps_if (pt_cmpR op_gt (pe_call G hr rfl D.g D.kp D.b .nil pass0 (pa_cons (pv 0) (pa_cons pe_int pa_nil))) pe_int (nomark _)) (pss_one (ps_ret (pe_op op_add_str (pe_op op_add_str (pe_slice sl_str (pv 1) po_none (po_some (pv 2))) (pv 3)) (pe_slice sl_str (pv 1) (po_some (pe_op op_add (pv 2) (pe_call G hr rfl D.g D.kp D.b .nil pass0 (pa_cons (pv 0) (pa_cons pe_int pa_nil))))) po_none)))) pss_nil)
    (pss_one (ps_ret (pe_slice sl_str (pe_op op_mulS (pv 1) (pe_op op_add (pe_op op_fdivN pe_int (pe_callB call_len_str (by rfl) Z.len PySem.boot_len (pa_cons (pv 1) pa_nil))) pe_int)) po_none (po_some (pe_op op_add pe_int (pe_call G hr rfl D.g D.kp D.b .nil pass0 (pa_cons (pv 0) (pa_cons pe_int pa_nil))))))))), ?_⟩
  have l0 := W.pos
  have l6 := W.few
  have low : ∀ c ∈ l, c < 1000 := fun c hc => by
    have := W.low c hc
    omega
  refine ⟨_, rfl, _, rfl, _, rfl, W.fits, _, _, rfl, rfl, p, _, rfl, by rw [S_len]; omega, by rw [S_len]; omega, hp, fun e H1 e0 e1 hp1 b1 => ?_⟩
  rw [S_len] at e1
  obtain ⟨a, rfl⟩ := nat_of e0
  refine ⟨_, rfl, p, _, rfl, by decide, by decide, hp1, fun j H2 j0 j1 hp2 b2 => ?_⟩
  obtain ⟨i, rfl⟩ := nat_of j0
  obtain ⟨c, hc⟩ : ∃ c, ([65, 48, 32, 95, 45, 123, 10, 122] : List Nat)[i]? = some c := ⟨_, List.getElem?_eq_getElem (by show i < 8; omega)⟩
  have c1 : c < 1000 := (show ∀ c ∈ ([65, 48, 32, 95, 45, 123, 10, 122] : List Nat), c < 1000 by decide) c (List.mem_of_getElem? hc)
  refine ⟨_, _, c, rfl, rfl, by rw [marks8, S_len, sizeLine_eq]; decide, by rw [marks8, S_cps]; exact atI_nat hc, _, _, rfl, ?_⟩
  dsimp only [L2.start, List.set]
  refine ⟨_, rfl, p, _, rfl, by decide, by decide, hp2, fun g H3 g0 g1 hp3 b3 => ⟨_, _, rfl, rfl, _, rfl, ite2 (fun _ => ?_) (fun _ => ?_)⟩⟩
  · refine ⟨_, rfl, _, rfl, _, rfl, _, rfl, W.fits, _, rfl, _, _, rfl, rfl, ?_, ?_⟩
    · rw [cut_to, S_len, sizeLine_eq, List.length_take]
      show _ + 1 ≤ _
      omega
    refine ⟨_, rfl, _, rfl, _, rfl, p, _, rfl, by decide, by decide, hp3, fun z H4 z0 z1 hp4 b4 => ?_⟩
    obtain ⟨y, rfl⟩ := nat_of z0
    refine ⟨_, _, rfl, rfl, _, rfl, _, rfl, W.fits, _, _, rfl, rfl, ?_⟩
    dsimp only
    rw [show (a : Int) + (y : Int) = ((a + y : Nat) : Int) by omega, cut_to, cut_from, show (⟨#[c]⟩ : Str) = S [c] from rfl, S_add, S_add]
    have len : (l.take a ++ [c] ++ l.drop (a + y)).length ≤ 1201 := by
      rw [List.length_append, List.length_append, List.length_take, List.length_drop]
      show min a l.length + 1 + (l.length - _) ≤ 1201
      omega
    refine ⟨?_, ?_⟩
    · rw [S_len, S_len, sizeLine_eq, ← List.length_append]
      omega
    · refine k _ H4 ⟨by omega, fun d hd => ?_⟩ hp4 (((b1.trans b2).trans b3).trans b4)
      rcases List.mem_append.mp hd with hd | hd
      · rcases List.mem_append.mp hd with hd | hd
        · exact low d (List.mem_of_mem_take hd)
        · rw [List.mem_singleton.mp hd]
          exact c1
      · exact low d (List.mem_of_mem_drop hd)
  · have q1 := Nat.div_le_self 602 l.length
    have q2 := Nat.div_mul_le_self 602 l.length
    have big : (602 / l.length + 1) * l.length ≤ 1202 := by
      rw [Nat.succ_mul]
      omega
    have e3 : Txt.mul (S l) ((602 / l.length + 1 : Nat) : Int) = S ((List.replicate (602 / l.length + 1) l).flatten) := S_eq (by rw [mul_cps (Int.natCast_nonneg _), S_cps, Int.toNat_natCast])
    have e4 : ((List.replicate (602 / l.length + 1) l).flatten).length = (602 / l.length + 1) * l.length := by rw [List.length_flatten, List.map_replicate, List.sum_replicate_nat]
    have ediv : Int.fdiv 602 ((S l).length : Int) + 1 = ((602 / l.length + 1 : Nat) : Int) := by
      rw [S_len, Int.fdiv_eq_ediv_of_nonneg _ (Int.natCast_nonneg _)]
      rfl
    refine ⟨_, rfl, _, rfl, _, rfl, W.fits, _, _, rfl, rfl, by rw [S_len]; constructor <;> omega, _, _, rfl, rfl, ?_⟩
    show rMulS (V.str (S l)) (V.int (Int.fdiv 602 ((S l).length : Int) + 1)) H3 _
    rw [ediv]
    refine ⟨_, _, rfl, rfl, mulOk (Int.natCast_nonneg _) (by rw [S_len, Int.toNat_natCast, Nat.mul_comm]; omega) (by omega), ?_⟩
    refine ⟨_, rfl, p, 4, rfl, by decide, by decide, hp3, fun z H4 z0 z1 hp4 b4 => ?_⟩
    obtain ⟨m, rfl⟩ := nat_of z0
    refine ⟨_, _, rfl, rfl, _, rfl, _, rfl, ?_, ?_⟩
    · rw [e3, S_len, e4, sizeLine_eq]
      omega
    · have part : (599 : Int) + (m : Int) = ((599 + m : Nat) : Int) := by omega
      rw [e3, part, cut_to]
      refine k _ H4 ⟨?_, fun z hz => ?_⟩ hp4 (((b1.trans b2).trans b3).trans b4)
      · rw [List.length_take]
        omega
      · obtain ⟨n, hn, q⟩ := List.mem_flatten.mp (List.mem_of_mem_take hz)
        rw [(List.mem_replicate.mp hn).2] at q
        exact low z q
/-! ### what is due of a spot -/
theorem scSD : FnScope ["_law_spot_here"] ["_law_spot_here"] (defScope sRSpotDue) := ⟨rfl, rfl, rfl, by decide +kernel, rfl, by decide +kernel, by decide +kernel⟩
def spotW (H : Hp) (x : V) : Str := if (intB x || placeV H x) = true then "nothing" else "place"
def spSpotDue : Sp := fun vs H Q _ => ∃ x : V, vs = [x] ∧ SrtT H x ∧ Q (.str (spotW H x)) H
set_option maxHeartbeats 0 in
theorem ok_spotdue (F : Fun K "_law_spot_due" "_law_spot_due" sRSpotDue f fd) (DW : Def K mg "_law_whole" sLWhole ["_law_thing"] fW dW) (Z : Free mg) (mT : mg "tuple" = none) : FnOk P w K mg base CX0 2 f fd ["_law_spot_here"] spSpotDue := by
  have GW : FnOk P w K mg base CX0 1 fW dW ["_law_thing"] spIsIntS := ok_lwholeR DW.F Z
  refine F.ok scSD (fun vs H Q E h => by obtain ⟨x, rfl, _⟩ := h; rfl) (fun cdv A outer s H vs Q E hr h => ?_)
  obtain ⟨x, rfl, hx, k⟩ := h
  refine ⟨_, pss_cons (ps_if (PW.pt (pw_and (pt_val (pe_callB call_isi (by rfl) Z.isi (by decide +kernel) (pa_cons (pv 0) (pa_cons (pe_bltn (v := .ty "tuple") (u := .type "tuple") (by rfl) mT (by decide +kernel) rfl) pa_nil))))
        (pw_and (pt_cmpR op_eq (pe_callB call_len_seq (by rfl) Z.len PySem.boot_len (pa_cons (pv 0) pa_nil)) pe_int (nomark _))
        (pw_and (pt_val (pe_call GW hr rfl DW.g DW.kp DW.b .nil pass0 (pa_cons (pe_ix ix_tup (pv 0) pe_int (fun _ _ => rfl)) pa_nil)))
        (pw_and1 (pt_val (pe_call GW hr rfl DW.g DW.kp DW.b .nil pass0 (pa_cons (pe_ix ix_tup (pv 0) pe_int (fun _ _ => rfl)) pa_nil))))))))
      (pss_one (ps_ret (pe_ifExp (pt_chain op_le op_le pe_int (pe_ix ix_tup (pv 0) pe_int (fun _ _ => rfl)) pe_int) pe_str pe_str))) pss_nil)
    (pss_one (ps_ret (pe_ifExp (pt_val (pe_call GW hr rfl DW.g DW.kp DW.b .nil pass0 (pa_cons (pv 0) pa_nil))) pe_str pe_str))), ?_⟩
  unfold spotW at k
  have other : placeV H x = false → ∀ (σ : St), σ = L2.start ["_law_spot_here"] [x] → tRet (tIf (tB (tCall spIsIntS [] E0 (tCons (tVar 0) tNil))) (tC (.str (Str.ofString "nothing"))) (tC (.str (Str.ofString "place")))) { nx := fun _ H' => Q .non H', rt := Q } σ H := fun e σ eσ => by
    subst eσ
    rw [e, Bool.or_false] at k
    refine ⟨_, rfl, x, rfl, hx.1, ?_⟩
    cases g : intB x with
    | true =>
      rw [g, if_pos rfl] at k
      exact ⟨true, rfl, k⟩
    | false =>
      rw [g, if_neg (by decide)] at k
      exact ⟨false, rfl, k⟩
  rcases hx.1.tup (K := K) with ⟨t, xs, rfl, ht⟩ | ⟨no, ty, h1, h2⟩
  · refine ⟨_, rfl, _, _, .type "tuple", .type "tuple", true, rfl, .ty "tuple", .base (.tup ht), kit_ty (by decide +kernel), true, rfl, ?_⟩
    have part := hx.2 t _ rfl ht
    have e0 : placeV H (.ref t) = placeO (H t) := rfl
    refine ⟨_, rfl, t, _, rfl, .inr (SqT.of ht), rfl, _, rfl, ?_⟩
    rcases xs with _ | ⟨a, _ | ⟨b, _ | ⟨c, ys⟩⟩⟩
    · exact ifn (fun q => by injection q with q; cases q) (other (by rw [e0, ht] <;> rfl) _ rfl)
    · exact ifn (fun q => by injection q with q; have q : ((1 : Nat) : Int) = 2 := q; omega) (other (by rw [e0, ht] <;> rfl) _ rfl)
    rotate_left
    · refine ifn (fun q => ?_) (other (by rw [e0, ht] <;> rfl) _ rfl)
      injection q with q
      have q : ((ys.length + 1 + 1 + 1 : Nat) : Int) = 2 := q
      omega
    · refine ifd rfl ?_
      have sa := part a List.mem_cons_self
      have sb := part b (List.mem_cons_of_mem _ List.mem_cons_self)
      refine ⟨_, rfl, t, _, _, _, rfl, rfl, SqT.of ht, atI_nat (j := 0) rfl, a, rfl, sa, ?_⟩
      have e1 : placeV H (.ref t) = (intB a && (goodI 1 b && le600 b)) := by rw [e0, ht] <;> rfl
      cases ia : intB a with
      | false => exact ⟨false, rfl, other (by rw [e1, ia] <;> rfl) _ rfl⟩
      | true =>
        refine ⟨true, rfl, ?_⟩
        refine ⟨_, rfl, t, _, _, _, rfl, rfl, SqT.of ht, atI_nat (j := 1) rfl, b, rfl, sb, ?_⟩
        cases ib : intB b with
        | false =>
          have e2 : goodI 1 b = false := by cases b <;> first | rfl | cases ib
          exact ⟨false, rfl, other (by rw [e1, e2, Bool.false_and, Bool.and_false]) _ rfl⟩
        | true =>
          obtain ⟨n, rfl⟩ := intB_is ib
          refine ⟨true, rfl, ?_⟩
          rw [e1, ia, show intB (.ref t) = false from rfl, Bool.false_or, Bool.true_and] at k
          have k : Q (.str (if (decide (1 ≤ n) && decide (n ≤ 600)) = true then "nothing" else "place")) H := k
          refine ⟨_, rfl, t, _, _, _, rfl, rfl, SqT.of ht, atI_nat (j := 1) rfl, _, _, rfl, rfl, _, rfl, ?_⟩
          by_cases n1 : 1 ≤ n
          · rw [decide_eq_true n1, Bool.true_and] at k
            refine ifd n1 ⟨_, _, rfl, rfl, _, rfl, ?_⟩
            by_cases n6 : n ≤ 600
            · rw [decide_eq_true n6, if_pos rfl] at k
              exact ifd n6 k
            · rw [decide_eq_false n6, if_neg (by decide)] at k
              exact ifn n6 k
          · rw [decide_eq_false n1, Bool.false_and, if_neg (by decide)] at k
            exact ifn n1 ⟨_, rfl, iteF k⟩
  · refine ⟨_, rfl, _, _, ty, .type "tuple", false, rfl, .ty "tuple", h1, h2, false, rfl, ?_⟩
    refine other ?_ _ rfl
    cases x with
    | ref t =>
      show placeO (H t) = false
      unfold placeO
      split
      · rename_i a b q
        exact absurd q (no t _ rfl)
      · rfl
    | _ => rfl
/-! ### a spot -/
/-- a value of any sort, one level deeper than Any; the pool no part of it -/
def AnyS (p : Addr) (H : Hp) (x : V) (d : PyData) : Prop := Thing (cut H p) 6 x d ∧ d.canLay0 = true ∧ PyData.depth d ≤ 61
theorem AnyS.of {p : Addr} {H : Hp} {x : V} {d : PyData} (h : Any p H x d) : AnyS p H x d := ⟨h.1.up, h.2.2.2.1, Nat.le_trans h.2.2.2.2 (by decide)⟩
theorem AnyS.but {p : Addr} {H H' : Hp} {x : V} {d : PyData} (h : AnyS p H x d) (b : But p H H') : AnyS p H' x d := ⟨h.1.same (cut_but b), h.2⟩
theorem AnyS.same {p : Addr} {H H' : Hp} {x : V} {d : PyData} (h : AnyS p H x d) (s : Same H H') : AnyS p H' x d := ⟨h.1.same (cut_same s), h.2⟩
theorem AnyS.thing {p : Addr} {H : Hp} {x : V} {d : PyData} (h : AnyS p H x d) : Thing H 6 x d := h.1.same (cutH_to fun _ _ _ e => e)
theorem AnyS.srtT {p : Addr} {H : Hp} {x : V} {d : PyData} (h : AnyS p H x d) : SrtT H x := ⟨h.thing.srt, fun t xs e q y hy => by
  subst e
  obtain ⟨dy, z⟩ := h.thing.part q y hy
  exact z.srt⟩
/-- values and their faces -/
inductive Parts (p : Addr) (H : Hp) : List V → List PyData → Prop
  | nil : Parts p H [] []
  | cons {x : V} {d : PyData} {xs : List V} {ds : List PyData} (h : Any p H x d) (r : Parts p H xs ds) : Parts p H (x :: xs) (d :: ds)
theorem Parts.both {p : Addr} {H : Hp} : ∀ {xs : List V} {ds : List PyData}, Parts p H xs ds → Both (Thing (cut H p) 5) xs ds ∧ PyData.canLayAll0 ds = true ∧ PyData.depthAll ds ≤ 60
  | _, _, .nil => ⟨.nil, rfl, Nat.zero_le _⟩
  | _, _, .cons (d := d) (ds := ds) h r => by
    obtain ⟨b, c, e⟩ := r.both
    refine ⟨.cons h.1 b, ?_, ?_⟩
    · show (d.canLay0 && PyData.canLayAll0 ds) = true
      rw [h.2.2.2.1, c] <;> rfl
    · show max (PyData.depth d) (PyData.depthAll ds) ≤ 60
      have := h.2.2.2.2
      omega
theorem anyS_tup {p t : Addr} {H : Hp} {xs : List V} {ds : List PyData} (h : H t = some (.tup xs)) (n : t ≠ p) (few : xs.length ≤ 9) (b : Parts p H xs ds) : ∃ d, AnyS p H (.ref t) d := by
  obtain ⟨b1, c, e⟩ := b.both
  refine ⟨.list (.str "tuple" :: ds), .inr (.inr (.inl ⟨t, xs, ds, rfl, (if_neg n).trans h, by omega, b1, rfl⟩)), ?_, ?_⟩
  · show (PyData.strOk "tuple" && PyData.canLayAll0 ds) = true
    rw [c]
    decide +kernel
  · show max 0 (PyData.depthAll ds) + 1 ≤ 61
    omega
theorem anyS_lst {p t : Addr} {H : Hp} {xs : List V} {ds : List PyData} (h : H t = some (.lst xs)) (n : t ≠ p) (few : xs.length ≤ 9) (b : Parts p H xs ds) : ∃ d, AnyS p H (.ref t) d := by
  obtain ⟨b1, c, e⟩ := b.both
  refine ⟨.list (.str "list" :: ds), .inr (.inl ⟨t, xs, ds, rfl, (if_neg n).trans h, by omega, b1, rfl⟩), ?_, ?_⟩
  · show (PyData.strOk "list" && PyData.canLayAll0 ds) = true
    rw [c]
    decide +kernel
  · show max 0 (PyData.depthAll ds) + 1 ≤ 61
    omega
theorem estSo (p : Addr) : L2.start ["_law_pool_here", "_law_at", "_law_many", "_law_odd_here", "_law_way"] [V.ref p] = [some (V.ref p), none, none, none, none] := rfl
def spRSpot : Sp := fun vs H Q _ => ∃ p : Addr, vs = [.ref p] ∧ PoolAt H p ∧ ∀ (x : V) (d : PyData) (H' : Hp), AnyS p H' x d → PoolAt H' p → But p H H' → Q x H'
abbrev NSo : List Str := ["_law_pool_here", "_law_at", "_law_many", "_law_odd_here", "_law_way"]
theorem scSo : FnScope NSo ["_law_pool_here"] (defScope sRSpot) := ⟨rfl, rfl, rfl, by decide +kernel, rfl, by decide +kernel, by decide +kernel⟩
set_option maxHeartbeats 0 in
theorem ok_rspot (F : Fun K "_law_spot" "_law_spot" sRSpot f fd) (D : Def K mg "_law_draw" sDraw ["_law_pool_here", "_law_many"] fD dD) (DO : Def K mg "_law_odd" sLOdd ["_law_pool_here"] fO dO) (Z : Free mg) : FnOk P w K mg base CX0 3 f fd ["_law_pool_here"] spRSpot := by
  have G : FnOk P w K mg base CX0 1 fD dD ["_law_pool_here", "_law_many"] spDraw := ok_draw D.F Z.int Z.divmod
  have GO : FnOk P w K mg base CX0 2 fO dO ["_law_pool_here"] spOddA := ok_oddA DO.F D Z
  refine F.ok scSo (fun vs H Q E h => by obtain ⟨p, rfl, _⟩ := h; rfl) (fun cdv A outer s H vs Q E hr h => ?_)
  obtain ⟨p, rfl, hp, k⟩ := h
  have hr1 : Room 1 _ := hr.mono (by decide)
  refine ⟨_, pss_cons (ps_par (i := 1) (j := 2) rfl scSo.nd rfl rfl (by decide) rfl rfl (pa_cons (pe_op op_sub (pe_call G hr1 rfl D.g D.kp D.b .nil pass0 (pa_cons (pv 0) (pa_cons pe_int pa_nil))) pe_int)
        (pa_cons (pe_ix ix_list (pe_lst (pa_cons pe_int (pa_cons pe_int (pa_cons pe_int (pa_cons pe_int (pa_cons pe_int (pa_cons (pe_un un_neg pe_int) (pa_cons (pe_op op_pow pe_int pe_int) pa_nil)))))))) (pe_call G hr1 rfl D.g D.kp D.b .nil pass0 (pa_cons (pv 0) (pa_cons pe_int pa_nil))) (fun _ _ => rfl)) pa_nil)) (by rfl))
    (pss_cons (ps_par (i := 3) (j := 4) rfl scSo.nd rfl rfl (by decide) rfl rfl (pa_cons (pe_call GO hr rfl DO.g DO.kp DO.b .nil pass0 (pa_cons (pv 0) pa_nil)) (pa_cons (pe_call G hr1 rfl D.g D.kp D.b .nil pass0 (pa_cons (pv 0) (pa_cons pe_int pa_nil))) pa_nil)) (by rfl))
    (pss_cons (ps_if (pt_cmpR op_lt (pv 4) pe_int (nomark _)) (pss_one (ps_ret (pe_ix ix_list (pe_lst (pa_cons (pv 1) (pa_cons (pe_tup (pa_cons (pv 1) (pa_cons (pv 2) pa_nil))) pa_nil))) (pv 4) (fun _ _ => rfl)))) pss_nil)
    (pss_cons (ps_if (pt_cmpR op_lt (pv 4) pe_int (nomark _)) (pss_one (ps_ret (pe_ix ix_list (pe_lst (pa_cons (pe_tup (pa_cons (pv 3) (pa_cons pe_int pa_nil))) (pa_cons (pe_tup (pa_cons (pv 1) (pa_cons (pv 3) pa_nil))) (pa_cons (pe_tup (pa_cons (pv 3) (pa_cons (pv 3) pa_nil))) pa_nil)))) (pe_op op_sub (pv 4) pe_int) (fun _ _ => rfl)))) pss_nil)
    (pss_one (ps_ret (pe_ifExp (pt_cmpR op_gt (pe_call G hr1 rfl D.g D.kp D.b .nil pass0 (pa_cons (pv 0) (pa_cons pe_int pa_nil))) pe_int (nomark _))
      (pe_ix ix_list (pe_lst (pa_cons (pe_lst (pa_cons (pv 1) (pa_cons pe_int pa_nil))) (pa_cons (pe_tup (pa_cons (pv 1) pa_nil)) (pa_cons (pe_tup (pa_cons (pv 1) (pa_cons pe_int (pa_cons pe_int pa_nil)))) pa_nil)))) (pe_op op_sub (pv 4) pe_int) (fun _ _ => rfl)) (pv 3))))))), ?_⟩
  have pw : CPow 10 30 := by refine ⟨?_, ?_, ?_⟩ <;> decide
  refine ⟨_, rfl, p, 9, rfl, by decide, by decide, hp, fun d0 H1 d00 d01 hp1 b1 => ⟨_, _, rfl, rfl, ?_⟩⟩
  refine ⟨_, rfl, _, _, rfl, rfl, pw, by show 7 ≤ sizeLine; decide, fun Lx hLx => ?_⟩
  have nL := hp1.ne hLx
  refine ⟨_, rfl, p, 7, rfl, by decide, by decide, hp1.put nL, fun j H3 j0 j1 hp3 b3 => ?_⟩
  obtain ⟨i, rfl⟩ := nat_of j0
  obtain ⟨mv, hat, hm⟩ : ∃ mv : Int, atI [V.int 0, V.int 1, V.int 5, V.int 600, V.int 601, V.int (-1), V.int (10 ^ (30 : Int).toNat)] (i : Int) = some (.int mv) ∧ mv < 2 ^ 1000 := by
    rcases i with _ | _ | _ | _ | _ | _ | _ | i
    · exact ⟨0, atI_nat (j := 0) rfl, by decide +kernel⟩
    · exact ⟨1, atI_nat (j := 1) rfl, by decide +kernel⟩
    · exact ⟨5, atI_nat (j := 2) rfl, by decide +kernel⟩
    · exact ⟨600, atI_nat (j := 3) rfl, by decide +kernel⟩
    · exact ⟨601, atI_nat (j := 4) rfl, by decide +kernel⟩
    · exact ⟨-1, atI_nat (j := 5) rfl, by decide +kernel⟩
    · exact ⟨10 ^ (30 : Int).toNat, atI_nat (j := 6) rfl, by decide +kernel⟩
    · omega
  refine ⟨Lx, _, _, _, rfl, rfl, SqL.of (b3 _ _ nL upd_same), hat, _, _, rfl, ?_⟩
  have b13 : But p H H3 := (b1.upd hLx).trans b3
  clear b3 hLx nL hat
  refine ⟨_, rfl, p, rfl, hp3, fun x dx H4 hx hp4 b4 => ?_⟩
  refine ⟨_, rfl, p, 8, rfl, by decide, by decide, hp4, fun w0 H5 w1 w2 hp5 b5 => ⟨_, _, rfl, ?_⟩⟩
  obtain ⟨y, rfl⟩ := nat_of w1
  have hx := hx.but b5
  have b05 := (b13.trans b4).trans b5
  obtain ⟨at0, eat⟩ : ∃ at0 : Int, at0 = d0 - 4 := ⟨_, rfl⟩
  have at1 : at0 < 2 ^ 1000 := by
    have : at0 < 5 := by omega
    exact Int.lt_trans this (by decide +kernel)
  dsimp only [estSo, List.set]
  rw [← eat]
  have numb : ∀ (i : Int) (G : Hp), i < 2 ^ 1000 → ∃ d, Any p G (.int i) d := fun i G h => Val.int h
  refine ⟨_, rfl, _, _, rfl, rfl, _, rfl, ite2 (fun q => ?_) (fun q => ?_)⟩
  · have y2 : y < 2 := by have := of_decide_eq_true q; omega
    refine ⟨_, rfl, _, rfl, _, rfl, by show 2 ≤ sizeLine; decide, fun t ht => ⟨by show 2 ≤ sizeLine; decide, fun L hL => ⟨_, rfl, ?_⟩⟩⟩
    have nt := hp5.ne ht
    have hpt := hp5.put (o := .tup [.int at0, .int mv]) nt
    have nL := hpt.ne hL
    have hp7 := hpt.put (o := .lst [.int at0, .ref t]) nL
    have b07 := (b05.upd (o := .tup [.int at0, .int mv]) ht).upd (o := .lst [.int at0, .ref t]) hL
    have ht7 : (L2.upd (L2.upd H5 t (.tup [.int at0, .int mv])) L (.lst [.int at0, .ref t])) t = some (.tup [.int at0, .int mv]) := keepA upd_same hL
    have hL7 : (L2.upd (L2.upd H5 t (.tup [.int at0, .int mv])) L (.lst [.int at0, .ref t])) L = some (.lst [.int at0, .ref t]) := upd_same
    generalize L2.upd (L2.upd H5 t (.tup [.int at0, .int mv])) L (.lst [.int at0, .ref t]) = H7 at hp7 b07 ht7 hL7 ⊢
    rcases y with _ | _ | y
    · obtain ⟨d, hd⟩ := numb at0 H7 at1
      exact ⟨L, _, _, _, rfl, rfl, SqL.of hL7, atI_nat (j := 0) rfl, k _ _ H7 (AnyS.of hd) hp7 b07⟩
    · obtain ⟨d, hd⟩ := numb at0 H7 at1
      obtain ⟨e, he⟩ := numb mv H7 hm
      obtain ⟨g, hg⟩ := anyS_tup ht7 nt (by show 2 ≤ 9; decide) (.cons hd (.cons he .nil))
      exact ⟨L, _, _, _, rfl, rfl, SqL.of hL7, atI_nat (j := 1) rfl, k _ _ H7 hg hp7 b07⟩
    · omega
  have y2 : 2 ≤ y := by
    have z : ¬ ((y : Int) < 2) := fun z => q (decide_eq_true z)
    omega
  refine ⟨_, rfl, _, _, rfl, rfl, _, rfl, ite2 (fun r => ?_) (fun r => ?_)⟩
  · have y5 : y < 5 := by have := of_decide_eq_true r; omega
    refine ⟨_, rfl, by show 2 ≤ sizeLine; decide, fun t1 h1 => ⟨_, rfl, _, rfl, by show 2 ≤ sizeLine; decide, fun t2 h2 => ⟨_, rfl, _, rfl, by show 2 ≤ sizeLine; decide, fun t3 h3 => ⟨by show 3 ≤ sizeLine; decide, fun L hL => ⟨_, rfl, _, _, rfl, rfl, ?_⟩⟩⟩⟩⟩
    have n1 := hp5.ne h1
    have q1 := hp5.put (o := .tup [x, .int 1]) n1
    have n2 := q1.ne h2
    have q2 := q1.put (o := .tup [.int at0, x]) n2
    have n3 := q2.ne h3
    have q3 := q2.put (o := .tup [x, x]) n3
    have nL := q3.ne hL
    have hp7 := q3.put (o := .lst [.ref t1, .ref t2, .ref t3]) nL
    have b57 := ((((But.refl p H5).upd (o := .tup [x, .int 1]) h1).upd (o := .tup [.int at0, x]) h2).upd (o := .tup [x, x]) h3).upd (o := .lst [.ref t1, .ref t2, .ref t3]) hL
    have e1 : (L2.upd (L2.upd (L2.upd (L2.upd H5 t1 (.tup [x, .int 1])) t2 (.tup [.int at0, x])) t3 (.tup [x, x])) L (.lst [.ref t1, .ref t2, .ref t3])) t1 = some (.tup [x, .int 1]) := keepA (keepA (keepA upd_same h2) h3) hL
    have e2 : (L2.upd (L2.upd (L2.upd (L2.upd H5 t1 (.tup [x, .int 1])) t2 (.tup [.int at0, x])) t3 (.tup [x, x])) L (.lst [.ref t1, .ref t2, .ref t3])) t2 = some (.tup [.int at0, x]) := keepA (keepA upd_same h3) hL
    have e3 : (L2.upd (L2.upd (L2.upd (L2.upd H5 t1 (.tup [x, .int 1])) t2 (.tup [.int at0, x])) t3 (.tup [x, x])) L (.lst [.ref t1, .ref t2, .ref t3])) t3 = some (.tup [x, x]) := keepA upd_same hL
    have eL : (L2.upd (L2.upd (L2.upd (L2.upd H5 t1 (.tup [x, .int 1])) t2 (.tup [.int at0, x])) t3 (.tup [x, x])) L (.lst [.ref t1, .ref t2, .ref t3])) L = some (.lst [.ref t1, .ref t2, .ref t3]) := upd_same
    generalize L2.upd (L2.upd (L2.upd (L2.upd H5 t1 (.tup [x, .int 1])) t2 (.tup [.int at0, x])) t3 (.tup [x, x])) L (.lst [.ref t1, .ref t2, .ref t3]) = H7 at hp7 b57 e1 e2 e3 eL ⊢
    have hx7 := hx.but b57
    have b07 := b05.trans b57
    dsimp only
    rw [show (y : Int) - 2 = ((y - 2 : Nat) : Int) by omega]
    obtain ⟨z, hz⟩ : ∃ z, z = y - 2 := ⟨_, rfl⟩
    rw [← hz]
    have z3 : z < 3 := by omega
    rcases z with _ | _ | _ | z
    · obtain ⟨d, hd⟩ := numb 1 H7 (by decide +kernel)
      obtain ⟨g, hg⟩ := anyS_tup e1 n1 (by show 2 ≤ 9; decide) (.cons hx7 (.cons hd .nil))
      exact ⟨L, _, _, _, rfl, rfl, SqL.of eL, atI_nat (j := 0) rfl, k _ _ H7 hg hp7 b07⟩
    · obtain ⟨d, hd⟩ := numb at0 H7 at1
      obtain ⟨g, hg⟩ := anyS_tup e2 n2 (by show 2 ≤ 9; decide) (.cons hd (.cons hx7 .nil))
      exact ⟨L, _, _, _, rfl, rfl, SqL.of eL, atI_nat (j := 1) rfl, k _ _ H7 hg hp7 b07⟩
    · obtain ⟨g, hg⟩ := anyS_tup e3 n3 (by show 2 ≤ 9; decide) (.cons hx7 (.cons hx7 .nil))
      exact ⟨L, _, _, _, rfl, rfl, SqL.of eL, atI_nat (j := 2) rfl, k _ _ H7 hg hp7 b07⟩
    · omega
  have y5 : 5 ≤ y := by
    have z : ¬ ((y : Int) < 5) := fun z => r (decide_eq_true z)
    omega
  refine ⟨_, rfl, p, 3, rfl, by decide, by decide, hp5, fun g0 H6 g1 g2 hp6 b6 => ⟨_, _, rfl, rfl, _, rfl, ite2 (fun _ => ?_) (fun _ => ?_)⟩⟩
  · refine ⟨_, rfl, by show 2 ≤ sizeLine; decide, fun t1 h1 => ⟨_, rfl, by show 1 ≤ sizeLine; decide, fun t2 h2 => ⟨_, rfl, by show 3 ≤ sizeLine; decide, fun t3 h3 => ⟨by show 3 ≤ sizeLine; decide, fun L hL => ⟨_, rfl, _, _, rfl, rfl, ?_⟩⟩⟩⟩⟩
    have n1 := hp6.ne h1
    have q1 := hp6.put (o := .lst [.int at0, .int 1]) n1
    have n2 := q1.ne h2
    have q2 := q1.put (o := .tup [.int at0]) n2
    have n3 := q2.ne h3
    have q3 := q2.put (o := .tup [.int at0, .int 1, .int 1]) n3
    have nL := q3.ne hL
    have hp7 := q3.put (o := .lst [.ref t1, .ref t2, .ref t3]) nL
    have b57 := ((((But.refl p H6).upd (o := .lst [.int at0, .int 1]) h1).upd (o := .tup [.int at0]) h2).upd (o := .tup [.int at0, .int 1, .int 1]) h3).upd (o := .lst [.ref t1, .ref t2, .ref t3]) hL
    have e1 : (L2.upd (L2.upd (L2.upd (L2.upd H6 t1 (.lst [.int at0, .int 1])) t2 (.tup [.int at0])) t3 (.tup [.int at0, .int 1, .int 1])) L (.lst [.ref t1, .ref t2, .ref t3])) t1 = some (.lst [.int at0, .int 1]) := keepA (keepA (keepA upd_same h2) h3) hL
    have e2 : (L2.upd (L2.upd (L2.upd (L2.upd H6 t1 (.lst [.int at0, .int 1])) t2 (.tup [.int at0])) t3 (.tup [.int at0, .int 1, .int 1])) L (.lst [.ref t1, .ref t2, .ref t3])) t2 = some (.tup [.int at0]) := keepA (keepA upd_same h3) hL
    have e3 : (L2.upd (L2.upd (L2.upd (L2.upd H6 t1 (.lst [.int at0, .int 1])) t2 (.tup [.int at0])) t3 (.tup [.int at0, .int 1, .int 1])) L (.lst [.ref t1, .ref t2, .ref t3])) t3 = some (.tup [.int at0, .int 1, .int 1]) := keepA upd_same hL
    have eL : (L2.upd (L2.upd (L2.upd (L2.upd H6 t1 (.lst [.int at0, .int 1])) t2 (.tup [.int at0])) t3 (.tup [.int at0, .int 1, .int 1])) L (.lst [.ref t1, .ref t2, .ref t3])) L = some (.lst [.ref t1, .ref t2, .ref t3]) := upd_same
    generalize L2.upd (L2.upd (L2.upd (L2.upd H6 t1 (.lst [.int at0, .int 1])) t2 (.tup [.int at0])) t3 (.tup [.int at0, .int 1, .int 1])) L (.lst [.ref t1, .ref t2, .ref t3]) = H7 at hp7 b57 e1 e2 e3 eL ⊢
    have b07 := (b05.trans b6).trans b57
    obtain ⟨d, hd⟩ := numb 1 H7 (by decide +kernel)
    obtain ⟨e, he⟩ := numb at0 H7 at1
    dsimp only
    rw [show (y : Int) - 5 = ((y - 5 : Nat) : Int) by omega]
    obtain ⟨z, hz⟩ : ∃ z, z = y - 5 := ⟨_, rfl⟩
    rw [← hz]
    have z3 : z < 3 := by omega
    rcases z with _ | _ | _ | z
    · obtain ⟨g, hg⟩ := anyS_lst e1 n1 (by show 2 ≤ 9; decide) (.cons he (.cons hd .nil))
      exact ⟨L, _, _, _, rfl, rfl, SqL.of eL, atI_nat (j := 0) rfl, k _ _ H7 hg hp7 b07⟩
    · obtain ⟨g, hg⟩ := anyS_tup e2 n2 (by show 1 ≤ 9; decide) (.cons he .nil)
      exact ⟨L, _, _, _, rfl, rfl, SqL.of eL, atI_nat (j := 1) rfl, k _ _ H7 hg hp7 b07⟩
    · obtain ⟨g, hg⟩ := anyS_tup e3 n3 (by show 3 ≤ 9; decide) (.cons he (.cons hd (.cons hd .nil)))
      exact ⟨L, _, _, _, rfl, rfl, SqL.of eL, atI_nat (j := 2) rfl, k _ _ H7 hg hp7 b07⟩
    · omega
  · exact ⟨_, rfl, k x _ H6 (AnyS.of (hx.but b6)) hp6 (b05.trans b6)⟩
end
end Wb
namespace Wb
open PySem L2 WbMin WbS Lz WbO WbT Le LamX
abbrev sRight : Stmt := top 35
structure DA where
  (cell pool draw face whole odd signs word long isword heard due spoilt spot spotdue timesdue right : Addr)
  (dcell dpool ddraw dface dwhole dodd dsigns dword dlong disword dheard ddue dspoilt dspot dspotdue dtimesdue dright : FuncData)
structure Defs (K : PySem.W.Frag) (mg : Str → Option Value) (D : DA) : Prop where
  cell : Def K mg "_law_cell" sCell ["_law_script", "_law_k"] D.cell D.dcell
  pool : Def K mg "_law_pool" sPool ["_law_cell_here"] D.pool D.dpool
  draw : Def K mg "_law_draw" sDraw ["_law_pool_here", "_law_many"] D.draw D.ddraw
  face : Def K mg "_law_face" sFace ["_law_thing"] D.face D.dface
  whole : Def K mg "_law_whole" sLWhole ["_law_thing"] D.whole D.dwhole
  odd : Def K mg "_law_odd" sLOdd ["_law_pool_here"] D.odd D.dodd
  signs : Def K mg "_law_signs" sSigns ["_law_pool_here", "_law_most"] D.signs D.dsigns
  word : Def K mg "_law_word" sWord ["_law_pool_here", "_law_abc", "_law_most"] D.word D.dword
  long : Def K mg "_law_long" sLong ["_law_pool_here", "_law_most"] D.long D.dlong
  isword : Def K mg "_law_is_word" sRIsWord ["_law_thing", "_law_abc"] D.isword D.disword
  heard : Def K mg "_law_heard" sHeard ["_law_act"] D.heard D.dheard
  due : Def K mg "_law_due" sRDue ["_law_word_here", "_law_thing"] D.due D.ddue
  spoilt : Def K mg "_law_spoilt" sRSpoilt ["_law_pool_here", "_law_word_here"] D.spoilt D.dspoilt
  spot : Def K mg "_law_spot" sRSpot ["_law_pool_here"] D.spot D.dspot
  spotdue : Def K mg "_law_spot_due" sRSpotDue ["_law_spot_here"] D.spotdue D.dspotdue
  timesdue : Def K mg "_law_times_due" sRTimesDue ["_law_times", "_law_size"] D.timesdue D.dtimesdue
  right : Def K mg "_law_right" sRight ["_law_pool_here"] D.right D.dright
/-- a def whose code object is known: it makes lambdas -/
structure FunT (K : PySem.W.Frag) (x qual : Str) (st : Stmt) (f : Addr) (fd : FuncData) (c : Addr) : Prop where
  ex : ∃ (oc : Value) (od : Option Addr) (kV doc pm : Value) (an : Option Addr) (ct : Value) (osl : Array (Option Value)),
    fd = PySem.W.fnOf x qual (defArgs st) (defBody st) (defScope st) .none kV doc pm an (.ref c) ct ∧ K.lookup f = some ⟨oc, od, .func fd, osl⟩ ∧ PySem.W.codeIn K (.ref c) qual = true
section
variable {P : Program} {w : World} {K : PySem.W.Frag} {mg : Str → Option Value} {base : Heap}
theorem okT {x qual : Str} {st : Stmt} {f c : Addr} {fd : FuncData} {N ps : List Str} {k : Nat} {sp : Sp} (F : FunT K x qual st f fd c) (S : FnScope N ps (defScope st)) (len : ∀ vs H Q E, sp vs H Q E → vs.length = ps.length)
    (body : ∀ (A : Around) (outer : List Env) (s : Shared) (H : Hp) (vs : List V) (Q : VK) (E : XK), Room k (A.deeper (PyProof.Rows.envOfC qual (defScope st) s.heap.objs.size f (.ref c))) → sp vs H Q E →
      ∃ t, PSs (cxOf CX0 P w K mg base N qual (defScope st) f (.ref c) A outer s H E).nox (defBody st) t ∧ t { nx := fun _ H' => Q .non H', rt := Q } (L2.start N vs) H) : FnOk P w K mg base CX0 (k + 1) f fd ps sp := by
  obtain ⟨_, _, _, _, _, _, _, _, rfl, at_, code⟩ := F.ex
  refine fn_of at_ code S len fun A outer s H vs Q E hr h => ?_
  obtain ⟨t, h1, q⟩ := body A outer s H vs Q E hr h
  exact ⟨t, h1.nox, q⟩
end
theorem passNk {X : Cx} {E : XK} (tk : L2N.Takes X (fun cls d _ H => E cls d H)) : Passes (L2N.CX X.prog X.w) X E := L2N.passes_call tk fun _ _ _ _ h => h
abbrev qLam : Str := "_law_right.<locals>.<lambda>"
/-- what * and + ask of the types of what stands right of them -/
structure OpsR (K : PySem.W.Frag) (C : Addr) : Prop where
  o : ∀ nm t, (nm = "mul" ∨ nm = "add") → t ∈ ["int", "bool", "NoneType", "str", "list", "tuple", "dict"] → OpT K C nm t
  k : ∀ t, t ∈ ["int", "bool", "NoneType", "str", "list", "tuple", "dict"] → PySem.W.kitOne K (.type t) (.ref C) = some false
theorem Any.opR {K : PySem.W.Frag} {C p : Addr} (G : OpsR K C) {H : Hp} {x : V} {d : PyData} (h : Any p H x d) {nm : String} (n : nm = "mul" ∨ nm = "add") : ∃ t, TyX K H x (.type t) ∧ OpT K C nm t ∧ PySem.W.kitOne K (.type t) (.ref C) = some false := by
  rcases h.sort with ⟨l, rfl, _⟩ | ⟨i, rfl⟩ | z
  · exact ⟨"str", .base (.str _), G.o nm _ n (by simp), G.k _ (by simp)⟩
  · exact ⟨"int", .base (.int i), G.o nm _ n (by simp), G.k _ (by simp)⟩
  · cases z with
    | non => exact ⟨"NoneType", .base .non, G.o nm _ n (by simp), G.k _ (by simp)⟩
    | bl b => exact ⟨"bool", .base (.bl b), G.o nm _ n (by simp), G.k _ (by simp)⟩
    | lst g => exact ⟨"list", .base (.lst g), G.o nm _ n (by simp), G.k _ (by simp)⟩
    | tup g => exact ⟨"tuple", .base (.tup g), G.o nm _ n (by simp), G.k _ (by simp)⟩
    | dK g => exact ⟨"dict", .base (.dK g), G.o nm _ n (by simp), G.k _ (by simp)⟩
/-- what stays of the law's things -/
structure RT (C p r q kp : Addr) (l m : List Nat) (Tb : List (Addr × Str)) (H : Hp) : Prop where
  A : RingAt C H r l
  M : RingAt C H q m
  hk : H kp = some (.lst [.str (textS l), .str (textS m)])
  po : PoolAt H p
  tb : Tabs Tb H
section
variable {C p r q kp : Addr} {l m : List Nat} {Tb : List (Addr × Str)} {H H' : Hp}
theorem ring_ne {r : Addr} {l : List Nat} (h : RingAt C H r l) (hp : PoolAt H p) : r ≠ p := by
  obtain ⟨W, dx, e⟩ := h
  exact pool_other hp e fun _ _ _ z => by cases z
theorem RingAt.xt {r : Addr} {l : List Nat} (h : RingAt C H r l) (x : Xt H H') : RingAt C H' r l := by
  obtain ⟨W, dx, e⟩ := h
  exact ⟨W, dx, x _ _ (noT_at e (fun _ z => by cases z))⟩
theorem RT.but (h : RT C p r q kp l m Tb H) (b : But p H H') (po : PoolAt H' p) : RT C p r q kp l m Tb H' :=
  ⟨h.A.but b (ring_ne h.A h.po), h.M.but b (ring_ne h.M h.po), b _ _ (pool_other h.po h.hk fun _ _ _ z => by
    injection z with z
    injection z with z _
    cases z) h.hk, po, Tabs.but h.tb h.po b⟩
theorem RT.xt (h : RT C p r q kp l m Tb H) (x : Xt H H') (tb : Tabs Tb H') : RT C p r q kp l m Tb H' := ⟨RingAt.xt h.A x, RingAt.xt h.M x, x _ _ (noT_at h.hk fun _ z => by cases z), PoolAt.xt h.po x, tb⟩
theorem RT.same (h : RT C p r q kp l m Tb H) (s : Same H H') : RT C p r q kp l m Tb H' := h.xt (Xt.of s) (Tabs.ext h.tb s)
theorem AnyS.noT {x : V} {d : PyData} (h : AnyS p H x d) : AnyS p (Wb.noT H) x d := ⟨(Thing.noT h.1).same noT_cut, h.2⟩
theorem AnyS.xt {x : V} {d : PyData} (h : AnyS p H x d) (s : Xt H H') : AnyS p H' x d := h.noT.same s
/-- a thing good or refused, heard -/
theorem ttr_data {K : PySem.W.Frag} {R : RA} {act : Le.Act} {Q : VK} {x : V} {dx : PyData} (b : Bool) {wd : Str} {Ce : Addr} (is : RErr R Ce wd) (th : Thing H 6 x dx) (good : b = true → ∀ (E : XK) (k : VK), (∀ v H', Same H H' → k v H') → act E H k)
    (bad : b = false → ∀ (E : XK) (k : VK), FailsX E Ce x H → act E H k) (told : Tell K H (if b = true then "nothing" else wd) (if b = true then plainD .none else dx) Q) : TTR K R act H Q := by
  cases b with
  | true => exact .inl ⟨good rfl, told⟩
  | false => exact .inr (.inl ⟨Ce, wd, x, dx, is, th, bad rfl, told⟩)
/-- what is due of it -/
theorem due_data {K : PySem.W.Frag} {Q : VK} {E : XK} {x : V} {dx : PyData} (b : Bool) {wd : Str} (ne : wd ≠ "nothing") (th : Thing H 6 x dx) (told : Tell K H (if b = true then "nothing" else wd) (if b = true then plainD .none else dx) Q) : spRDue K C [.str (if b = true then "nothing" else wd), x] H Q E := by
  cases b with
  | true => exact ⟨_, _, rfl, .inl ⟨rfl, told⟩⟩
  | false => exact ⟨_, _, rfl, .inr ⟨ne, .inl ⟨dx, th, told⟩⟩⟩
theorem ok_data {x : V} {dx : PyData} (h : AnyS p H x dx) (b : Bool) {wd : Str} (hw : PyData.strOk wd = true) : (PyData.list [.str (if b = true then "nothing" else wd), if b = true then plainD .none else dx]).canLay0 = true ∧ PyData.depth (PyData.list [.str (if b = true then "nothing" else wd), if b = true then plainD .none else dx]) ≤ 64 := by
  cases b with
  | true => exact (show (PyData.list [.str "nothing", plainD .none]).canLay0 = true ∧ PyData.depth (PyData.list [.str "nothing", plainD .none]) ≤ 64 from ⟨by decide +kernel, by decide +kernel⟩)
  | false =>
    refine ⟨?_, ?_⟩
    · show (PyData.strOk wd && (dx.canLay0 && true)) = true
      rw [hw, h.2.1] <;> rfl
    · show max 0 (max (PyData.depth dx) 0) + 1 ≤ 64
      have := h.2.2
      omega
end
theorem placeV_xt {H H' : Hp} {y : V} (h : SrtT H y) (x : Xt H H') : placeV H' y = placeV H y := by
  rcases h.1 with ⟨z, rfl⟩ | ⟨i, rfl⟩ | n
  · rfl
  · rfl
  · cases n with
    | non => rfl
    | bl b => rfl
    | lst g =>
      show placeO (H' _) = placeO (H _)
      rw [x _ _ (noT_at g fun _ z => by cases z), g]
    | tup g =>
      show placeO (H' _) = placeO (H _)
      rw [x _ _ (noT_at g fun _ z => by cases z), g]
    | dK g =>
      show placeO (H' _) = placeO (H _)
      rw [x _ _ (noT_at g fun _ z => by cases z), g]
theorem text_ok {l : List Nat} (W : IsW l) : PyData.strOk (textS l) = true := by
  rw [← S_tx]
  exact ok_codes fun c hc => by
    have := (tx_w W).low c hc
    omega
theorem mulG_cases (n : Nat) (v : V) : mulG n v = 0 ∨ mulG n v = 1 ∨ mulG n v = 2 := by
  cases v with
  | int j =>
    show (if j < 1 then 1 else if (n : Int) * j ≤ 600 then 0 else 2) = 0 ∨ (if j < 1 then 1 else if (n : Int) * j ≤ 600 then 0 else 2) = 1 ∨ (if j < 1 then 1 else if (n : Int) * j ≤ 600 then 0 else 2) = 2
    split
    · exact .inr (.inl rfl)
    · split
      · exact .inl rfl
      · exact .inr (.inr rfl)
  | _ => exact .inr (.inl rfl)
def spRightT (c P : Addr) : Sp := fun vs H Q _ => ∃ p : Addr, vs = [.ref p] ∧ PoolAt H p ∧ Tabs [(P, qLam)] H ∧ ∀ H', Bt p H H' → Tabs [(P, qLam)] H' → Q (.bl true) H'
abbrev NR : List Str := ["_law_pool_here", "_law_word_here", "_law_ring", "_law_mate", "_law_kept", "_law_turn", "_law_thing", "_law_spot_here", "_law_line", "_law_due_here", "_law_near", "_law_joined"]
theorem scRi : FnScope NR ["_law_pool_here"] (defScope sRight) := ⟨rfl, rfl, rfl, by decide +kernel, rfl, by decide +kernel, by decide +kernel⟩
theorem estRi (p : Addr) : L2.start NR [V.ref p] = [some (V.ref p), none, none, none, none, none, none, none, none, none, none, none] := rfl
section
variable {P : Program} {w : World} {K : PySem.W.Frag} {mg : Str → Option Value} {base : Heap} {f c Pt : Addr} {fd : FuncData} {R : RA} {D : DA}
set_option maxHeartbeats 0 in
theorem ok_right (F : FunT K "_law_right" "_law_right" sRight f fd c) (TB : TabB base mg c Pt) (Z : Free mg) (ZT : FreeT mg) (X : RgX K mg R) (FC : FaceC K R.C) (ME : Takes4 K R) (G : OpsR K R.C)
    (D' : Defs K mg D) : FnOk P w K mg base CX0 10 f fd ["_law_pool_here"] (spRightT c Pt) := by
  obtain ⟨t6, g6⟩ := X.w6
  have GD : FnOk P w K mg base CX0 1 D.draw D.ddraw ["_law_pool_here", "_law_many"] spDraw := ok_draw D'.draw.F Z.int Z.divmod
  have GLo : FnOk P w K mg base CX0 3 D.long D.dlong ["_law_pool_here", "_law_most"] spLong := ok_long D'.long.F D'.draw D'.signs D'.word Z.int Z.divmod Z.len Z.range
  have GI : FnOk P w K mg base CX0 2 R.fI R.dI ["self", "text"] (spInit R.C) := ok_init X.FI X.T Z t6 g6 X.isword X.turns
  have GX : FnOk P w K mg base (L2N.CX P w) 3 R.fI R.dI ["self", "text"] (spInitX R.C R.cW) := ok_initX X Z
  have GT : FnOk P w K mg base CX0 1 R.fT R.dT ["self"] (spTextR R.C) := ok_textR X
  have GO : FnOk P w K mg base CX0 2 D.odd D.dodd ["_law_pool_here"] spOddA := ok_oddA D'.odd.F D'.draw Z
  have GSp : FnOk P w K mg base CX0 3 D.spot D.dspot ["_law_pool_here"] spRSpot := ok_rspot D'.spot.F D'.draw D'.odd Z
  have GSt : FnOk P w K mg base CX0 2 D.spoilt D.dspoilt ["_law_pool_here", "_law_word_here"] spRSpoilt := ok_rspoilt D'.spoilt.F D'.draw Z
  have GIs : FnOk P w K mg base CX0 1 D.isword D.disword ["_law_thing", "_law_abc"] spLIsWordL := ok_liswordL D'.isword.F Z
  have GWh : FnOk P w K mg base CX0 1 D.whole D.dwhole ["_law_thing"] spIsIntS := ok_lwholeR D'.whole.F Z
  have GSd : FnOk P w K mg base CX0 2 D.spotdue D.dspotdue ["_law_spot_here"] spSpotDue := ok_spotdue D'.spotdue.F D'.whole Z X.tup
  have GTd : FnOk P w K mg base CX0 2 D.timesdue D.dtimesdue ["_law_times", "_law_size"] spTimesDue := ok_timesdue D'.timesdue.F D'.whole Z
  have GDu : FnOk P w K mg base CX0 8 D.due D.ddue ["_law_word_here", "_law_thing"] (spRDue K R.C) := ok_rdue D'.due.F D'.face ZT FC
  have GTu : FnOk P w K mg base (L2N.CX P w) 3 R.fU R.dU ["self", "i"] (spAskR R.C R.cP fun _ x => intB x) := ok_turnedX X Z
  have GGe : FnOk P w K mg base (L2N.CX P w) 4 R.fG R.dG ["self", "at"] (spAskR R.C R.cP fun H x => intB x || placeV H x) := ok_getX X Z
  have GMu : FnOk P w K mg base (L2N.CX P w) 4 R.fM R.dM ["self", "other"] (spMulX R.C R.cN R.cW) := ok_mulX X Z
  have GAd : FnOk P w K mg base (L2N.CX P w) 4 R.fA R.dA ["self", "other"] (spAddX K R.C R.cG R.cW) := ok_addX X Z
  obtain ⟨ocH, odH, kVH, docH, pmH, anH, cdvH, ctH, oslH, eH, lkH, cdH⟩ := D'.heard.F.ex
  have bH := D'.heard.b
  rw [eH] at lkH bH
  refine okT F scRi (fun vs H Q E h => by obtain ⟨p, rfl, _⟩ := h; rfl) (fun A' outer s H vs Q E hr h => ?_)
  obtain ⟨p, rfl, hp, tabs0, k⟩ := h
  have hr1 : Room 1 _ := hr.mono (by decide)
  have hr2' : Room 2 _ := hr.mono (by decide)
  have hr3 : Room 3 _ := hr.mono (by decide)
  have hr8 : Room 8 _ := hr.mono (by decide)
  refine ⟨_, pss_cons (ps_set (i := 1) scRi.nd rfl (.inl rfl) (pe_call GLo hr3 rfl D'.long.g D'.long.kp D'.long.b .nil pass0 (pa_cons (pv 0) (pa_cons pe_int pa_nil))))
    (pss_cons (ps_asg (pe_tup (pa_cons (pe_make X.M GI hr3 rfl X.T.gC X.bI .nil pass0 (pa_cons (pv 1) pa_nil)) (pa_cons (pe_make X.M GI hr3 rfl X.T.gC X.bI .nil pass0 (pa_cons (pe_call GLo hr3 rfl D'.long.g D'.long.kp D'.long.b .nil pass0 (pa_cons (pv 0) (pa_cons pe_int pa_nil))) pa_nil)) pa_nil))) (pg_tup (by rfl) (pgs_cons (pg_name (i := 2) scRi.nd rfl (.inr rfl)) (pgs_cons (pg_name (i := 3) scRi.nd rfl (.inr rfl)) pgs_nil))))
    (pss_cons (ps_set (i := 4) scRi.nd rfl (.inl rfl) (pe_lst (pa_cons (pe_prop (pv 2) X.T.cl X.hT GT hr2' X.bT .nil pass0 rfl) (pa_cons (pe_prop (pv 3) X.T.cl X.hT GT hr2' X.bT .nil pass0 rfl) pa_nil))))
    (pss_cons (ps_for PassesOwn.never rfl (pi_range1 rfl Z.range (pa_cons pe_int pa_nil)) (pg_name (i := 5) scRi.nd rfl (.inl rfl))
      (pss_cons (ps_asg (pe_tup (pa_cons (pe_call GO hr2' rfl D'.odd.g D'.odd.kp D'.odd.b .nil pass0 (pa_cons (pv 0) pa_nil)) (pa_cons (pe_call GSp hr3 rfl D'.spot.g D'.spot.kp D'.spot.b .nil pass0 (pa_cons (pv 0) pa_nil)) pa_nil))) (pg_tup (by rfl) (pgs_cons (pg_name (i := 6) scRi.nd rfl (.inr rfl)) (pgs_cons (pg_name (i := 7) scRi.nd rfl (.inr rfl)) pgs_nil))))
    (pss_cons (ps_set (i := 8) scRi.nd rfl (.inr rfl) (pe_joinE (pe_ifExp (pt_cmpR op_eq (pe_call GD hr1 rfl D'.draw.g D'.draw.kp D'.draw.b .nil pass0 (pa_cons (pv 0) (pa_cons pe_int pa_nil))) pe_int (nomark _)) (pv 6) (pe_call GSt hr2' rfl D'.spoilt.g D'.spoilt.kp D'.spoilt.b .nil pass0 (pa_cons (pv 0) (pa_cons (pv 1) pa_nil))))))
    (pss_cons (ps_set (i := 9) scRi.nd rfl (.inl rfl) (pe_call GDu hr8 rfl D'.due.g D'.due.kp D'.due.b .nil pass0 (pa_cons (pe_joinE (pe_ifExp (pt_val (pe_call GIs hr1 rfl D'.isword.g D'.isword.kp D'.isword.b .nil pass0 (pa_cons (pv 8) (pa_cons pe_str pa_nil)))) pe_str pe_str)) (pa_cons (pv 8) pa_nil))))
    (pss_cons (ps_if (pt_cmpR (op_neD hr.units) (pe_heard (T := [(Pt, qLam)]) (TT := TTR K R) (k := 7) (Ng := NH) (a := "_law_act") (by rfl) D'.heard.g D'.heard.kp lkH cdH bH scHe rfl (.inl rfl) (hears_ring D'.face ZT FC X ME (by decide)) TB rfl (List.mem_singleton.mpr rfl) (fun y hy _ => congrArg Prod.snd (List.mem_singleton.mp hy)) hr (lamS_by (show lamSB (defScope sRight) _ = true by decide +kernel)) rfl (fun _ _ _ _ _ => rfl)
          (fun A2 outer2 s2 H2 E2 f2 c2 hr2 => pe_make X.M GX (hr2.mono (by decide)) rfl X.T.gC X.bI .nil (passNk (L2N.takes_of rfl rfl rfl rfl)) (pa_cons (pv 8) pa_nil))) (pv 9) (nomark _)) (pss_one ps_never) pss_nil)
    (pss_cons (ps_if (pt_cmpR (op_neD hr.units) (pe_heard (T := [(Pt, qLam)]) (TT := TTR K R) (k := 7) (Ng := NH) (a := "_law_act") (by rfl) D'.heard.g D'.heard.kp lkH cdH bH scHe rfl (.inl rfl) (hears_ring D'.face ZT FC X ME (by decide)) TB rfl (List.mem_singleton.mpr rfl) (fun y hy _ => congrArg Prod.snd (List.mem_singleton.mp hy)) hr (lamS_by (show lamSB (defScope sRight) _ = true by decide +kernel)) rfl (fun _ _ _ _ _ => rfl)
          (fun A2 outer2 s2 H2 E2 f2 c2 hr2 => pe_ixX (pv 2) (pv 7) X.mG X.nG GGe (hr2.mono (by decide)) X.bG (passNk (L2N.takes_of rfl rfl rfl rfl)))) (pe_call GDu hr8 rfl D'.due.g D'.due.kp D'.due.b .nil pass0 (pa_cons (pe_call GSd hr2' rfl D'.spotdue.g D'.spotdue.kp D'.spotdue.b .nil pass0 (pa_cons (pv 7) pa_nil)) (pa_cons (pv 7) pa_nil))) (nomark _)) (pss_one ps_never) pss_nil)
    (pss_cons (ps_if (pt_cmpR (op_neD hr.units) (pe_heard (T := [(Pt, qLam)]) (TT := TTR K R) (k := 7) (Ng := NH) (a := "_law_act") (by rfl) D'.heard.g D'.heard.kp lkH cdH bH scHe rfl (.inl rfl) (hears_ring D'.face ZT FC X ME (by decide)) TB rfl (List.mem_singleton.mpr rfl) (fun y hy _ => congrArg Prod.snd (List.mem_singleton.mp hy)) hr (lamS_by (show lamSB (defScope sRight) _ = true by decide +kernel)) rfl (fun _ _ _ _ _ => rfl)
          (fun A2 outer2 s2 H2 E2 f2 c2 hr2 => pe_meth (pv 2) X.T.cl X.mU GTu (hr2.mono (by decide)) X.bU .nil (passNk (L2N.takes_of rfl rfl rfl rfl)) (pa_cons (pv 7) pa_nil))) (pe_call GDu hr8 rfl D'.due.g D'.due.kp D'.due.b .nil pass0 (pa_cons (pe_joinE (pe_ifExp (pt_val (pe_call GWh hr1 rfl D'.whole.g D'.whole.kp D'.whole.b .nil pass0 (pa_cons (pv 7) pa_nil))) pe_str pe_str)) (pa_cons (pv 7) pa_nil))) (nomark _)) (pss_one ps_never) pss_nil)
    (pss_cons (ps_set (i := 10) scRi.nd rfl (.inr rfl) (pe_op op_sub (pe_op op_add (pe_op op_fdivN pe_int (pe_callB call_len_str (by rfl) Z.len PySem.boot_len (pa_cons (pv 1) pa_nil))) (pe_call GD hr1 rfl D'.draw.g D'.draw.kp D'.draw.b .nil pass0 (pa_cons (pv 0) (pa_cons pe_int pa_nil)))) pe_int))
    (pss_cons (ps_join (ps_if (pt_cmpR (op_neD hr.units) (pe_heard (T := [(Pt, qLam)]) (TT := TTR K R) (k := 7) (Ng := NH) (a := "_law_act") (by rfl) D'.heard.g D'.heard.kp lkH cdH bH scHe rfl (.inl rfl) (hears_ring D'.face ZT FC X ME (by decide)) TB rfl (List.mem_singleton.mpr rfl) (fun y hy _ => congrArg Prod.snd (List.mem_singleton.mp hy)) hr (lamS_by (show lamSB (defScope sRight) _ = true by decide +kernel)) rfl (fun _ _ _ _ _ => rfl)
          (fun A2 outer2 s2 H2 E2 f2 c2 hr2 => pe_op (show OpR _ (binaryOp .Mult) (rOpW K R.C "mul" (spMulX R.C R.cN R.cW) E2) from op_W (op := .Mult) X.sf X.mM.at_ X.mM.fn X.rM (.inl rfl) GMu (hr2.mono (by decide)) X.bM (passNk (L2N.takes_of rfl rfl rfl rfl))) (pv 2) (pv 10))) (pe_call GDu hr8 rfl D'.due.g D'.due.kp D'.due.b .nil pass0 (pa_cons (pe_call GTd hr2' rfl D'.timesdue.g D'.timesdue.kp D'.timesdue.b .nil pass0 (pa_cons (pv 10) (pa_cons (pe_callB call_len_str (by rfl) Z.len PySem.boot_len (pa_cons (pv 1) pa_nil)) pa_nil))) (pa_cons (pv 10) pa_nil))) (nomark _)) (pss_one ps_never) pss_nil))
    (pss_cons (ps_join (ps_if (pt_cmpR (op_neD hr.units) (pe_heard (T := [(Pt, qLam)]) (TT := TTR K R) (k := 7) (Ng := NH) (a := "_law_act") (by rfl) D'.heard.g D'.heard.kp lkH cdH bH scHe rfl (.inl rfl) (hears_ring D'.face ZT FC X ME (by decide)) TB rfl (List.mem_singleton.mpr rfl) (fun y hy _ => congrArg Prod.snd (List.mem_singleton.mp hy)) hr (lamS_by (show lamSB (defScope sRight) _ = true by decide +kernel)) rfl (fun _ _ _ _ _ => rfl)
          (fun A2 outer2 s2 H2 E2 f2 c2 hr2 => pe_op (show OpR _ (binaryOp .Mult) (rOpW K R.C "mul" (spMulX R.C R.cN R.cW) E2) from op_W (op := .Mult) X.sf X.mM.at_ X.mM.fn X.rM (.inl rfl) GMu (hr2.mono (by decide)) X.bM (passNk (L2N.takes_of rfl rfl rfl rfl))) (pv 2) (pv 6))) (pe_call GDu hr8 rfl D'.due.g D'.due.kp D'.due.b .nil pass0 (pa_cons (pe_call GTd hr2' rfl D'.timesdue.g D'.timesdue.kp D'.timesdue.b .nil pass0 (pa_cons (pv 6) (pa_cons (pe_callB call_len_str (by rfl) Z.len PySem.boot_len (pa_cons (pv 1) pa_nil)) pa_nil))) (pa_cons (pv 6) pa_nil))) (nomark _)) (pss_one ps_never) pss_nil))
    (pss_cons (ps_if (pt_cmpR (op_neD hr.units) (pe_heard (T := [(Pt, qLam)]) (TT := TTR K R) (k := 7) (Ng := NH) (a := "_law_act") (by rfl) D'.heard.g D'.heard.kp lkH cdH bH scHe rfl (.inl rfl) (hears_ring D'.face ZT FC X ME (by decide)) TB rfl (List.mem_singleton.mpr rfl) (fun y hy _ => congrArg Prod.snd (List.mem_singleton.mp hy)) hr (lamS_by (show lamSB (defScope sRight) _ = true by decide +kernel)) rfl (fun _ _ _ _ _ => rfl)
          (fun A2 outer2 s2 H2 E2 f2 c2 hr2 => pe_op (show OpR _ (binaryOp .Add) (rOpW K R.C "add" (spAddX K R.C R.cG R.cW) E2) from op_W (op := .Add) X.sf X.mA.at_ X.mA.fn X.rA (.inl rfl) GAd (hr2.mono (by decide)) X.bA (passNk (L2N.takes_of rfl rfl rfl rfl))) (pv 2) (pv 6))) (pe_call GDu hr8 rfl D'.due.g D'.due.kp D'.due.b .nil pass0 (pa_cons pe_str (pa_cons (pv 6) pa_nil))) (nomark _)) (pss_one ps_never) pss_nil)
    (pss_cons (ps_set (i := 11) scRi.nd rfl (.inl rfl) (pe_joinE (pe_ifExp (pt_cmpR op_le (pe_op op_add (pe_callB call_len_str (by rfl) Z.len PySem.boot_len (pa_cons (pe_ix ix_list (pv 4) pe_int (fun _ _ => rfl)) pa_nil)) (pe_callB call_len_str (by rfl) Z.len PySem.boot_len (pa_cons (pe_ix ix_list (pv 4) pe_int (fun _ _ => rfl)) pa_nil))) pe_int (nomark _)) pe_str pe_str)))
    (pss_one (ps_join (ps_if (PW.pt (pw_or (pt_cmpR ((op_neD hr.units).or (op_neF (un65 hr))) (pe_heard (T := [(Pt, qLam)]) (TT := TTR K R) (k := 7) (Ng := NH) (a := "_law_act") (by rfl) D'.heard.g D'.heard.kp lkH cdH bH scHe rfl (.inl rfl) (hears_ring D'.face ZT FC X ME (by decide)) TB rfl (List.mem_singleton.mpr rfl) (fun y hy _ => congrArg Prod.snd (List.mem_singleton.mp hy)) hr (lamS_by (show lamSB (defScope sRight) _ = true by decide +kernel)) rfl (fun _ _ _ _ _ => rfl)
          (fun A2 outer2 s2 H2 E2 f2 c2 hr2 => pe_op (show OpR _ (binaryOp .Add) (rOpW K R.C "add" (spAddX K R.C R.cG R.cW) E2) from op_W (op := .Add) X.sf X.mA.at_ X.mA.fn X.rA (.inl rfl) GAd (hr2.mono (by decide)) X.bA (passNk (L2N.takes_of rfl rfl rfl rfl))) (pv 2) (pv 3))) (pe_call GDu hr8 rfl D'.due.g D'.due.kp D'.due.b .nil pass0 (pa_cons (pv 11) (pa_cons (pv 3) pa_nil))) (nomark _)) (pw_or1 (pt_cmpR (op_neD hr.units) (pe_lst (pa_cons (pe_prop (pv 2) X.T.cl X.hT GT hr2' X.bT .nil pass0 rfl) (pa_cons (pe_prop (pv 3) X.T.cl X.hT GT hr2' X.bT .nil pass0 rfl) pa_nil))) (pv 4) (nomark _))))) (pss_one ps_never) pss_nil)))))))))))))))
    (pss_one (ps_ret pe_bl))))), ?_⟩
  refine ⟨_, rfl, p, 40, rfl, by decide, by decide, hp, fun wl H1 lo l0 l6 hp1 b1 => ?_⟩
  have W : IsW wl := ⟨lo, l0, l6⟩
  dsimp only [estRi, List.set]
  refine ⟨_, rfl, fun r dxr hr0 hdr ner => ⟨H1, r, dxr, wl, rfl, W, Same.new' (Same.new' (Same.refl H1) hdr) hr0, hr0, upd_same, fun H2 s2 R2 => ⟨rfl, ?_⟩⟩⟩
  have hp2 := hp1.same s2
  refine ⟨_, rfl, p, 40, rfl, by decide, by decide, hp2, fun wm H3 lom m0 m6 hp3 b3 => ?_⟩
  have Wm : IsW wm := ⟨lom, m0, m6⟩
  have R3 := R2.but b3 (ring_ne R2 hp2)
  refine fun q dxq hq0 hdq neq => ⟨H3, q, dxq, wm, rfl, Wm, Same.new' (Same.new' (Same.refl H3) hdq) hq0, hq0, upd_same, fun H4 s4 M4 => ⟨rfl, ?_⟩⟩
  refine ⟨by show 2 ≤ sizeLine; decide, fun T hT => ?_⟩
  have s5 := Same.put (o := .tup [.ref r, .ref q]) (Same.refl H4) hT
  have hT5 : (L2.upd H4 T (.tup [.ref r, .ref q])) T = some (.tup [.ref r, .ref q]) := upd_same
  generalize L2.upd H4 T (.tup [.ref r, .ref q]) = H5 at s5 hT5 ⊢
  have A5 := (R3.same s4).same s5
  have M5 := M4.same s5
  refine ⟨T, _, rfl, SqT.of hT5, rfl, _, _, rfl, _, _, rfl, rfl, ?_⟩
  dsimp only [List.set]
  obtain ⟨_, dx5, hR5⟩ := id A5
  obtain ⟨_, dy5, hQ5⟩ := id M5
  refine ⟨_, rfl, r, dx5, _, rfl, hR5, r, wl, rfl, A5, _, rfl, q, dy5, _, rfl, hQ5, q, wm, rfl, M5, by show 2 ≤ sizeLine; decide, fun kp hkp => ?_⟩
  have s6 := Same.put (o := .lst [.str (textS wl), .str (textS wm)]) (Same.refl H5) hkp
  have hk6 : (L2.upd H5 kp (.lst [.str (textS wl), .str (textS wm)])) kp = some (.lst [.str (textS wl), .str (textS wm)]) := upd_same
  generalize L2.upd H5 kp (.lst [.str (textS wl), .str (textS wm)]) = H6 at s6 hk6 ⊢
  have b16 : But p H H6 := (((b1.trans (But.of s2)).trans b3).trans (But.of s4)).trans ((But.of s5).trans (But.of s6))
  have S6 : RT R.C p r q kp wl wm [(Pt, qLam)] H6 := ⟨A5.same s6, M5.same s6, hk6, ((hp3.same s4).same s5).same s6, Tabs.but tabs0 hp b16⟩
  have t6' : Bt p H H6 := Bt.of b16
  clear b16 s6 hk6 hkp hR5 hQ5 A5 M5 s5 hT5 hT s4 M4 hq0 hdq neq R3 b3 hp3 hp2 s2 R2 hr0 hdr ner hp1 b1 lo l0 l6 lom m0 m6
  dsimp only [List.set]
  refine ⟨5, rfl, by decide, by decide, for_it walk_range (fun j σ H' => ∃ v5 v6 v7 v8 v9 v10 v11 : Option V, σ = [some (V.ref p), some (V.str (S wl)), some (V.ref r), some (V.ref q), some (V.ref kp), v5, v6, v7, v8, v9, v10, v11] ∧ RT R.C p r q kp wl wm [(Pt, qLam)] H' ∧ Bt p H H') ⟨none, none, none, none, none, none, none, rfl, S6, t6'⟩ (fun _ _ _ _ _ => trivial) ?_ ?_⟩
  · rintro j x0 σ H7 H7' hj ⟨v5, v6, v7, v8, v9, v10, v11, rfl, S7, t7⟩ ⟨rfl, hx0⟩
    dsimp only [List.set]
    refine ⟨_, rfl, p, rfl, S7.po, fun x dx H8 hx8 hp8 b8 => ?_⟩
    refine ⟨_, rfl, p, rfl, hp8, fun y dy H9 hy9 hp9 b9 => ⟨by show 2 ≤ sizeLine; decide, fun T hT => ?_⟩⟩
    have s10 := Same.put (o := .tup [x, y]) (Same.refl H9) hT
    have hT10 : (L2.upd H9 T (.tup [x, y])) T = some (.tup [x, y]) := upd_same
    generalize L2.upd H9 T (.tup [x, y]) = H10 at s10 hT10 ⊢
    have S10 := ((S7.but b8 hp8).but b9 hp9).same s10
    have t10 := ((t7.trans (Bt.of b8)).trans (Bt.of b9)).trans (Bt.same s10)
    have hx10 := (hx8.but b9).same s10
    have hy10 := hy9.same s10
    refine ⟨T, _, rfl, SqT.of hT10, rfl, _, _, rfl, _, _, rfl, rfl, ?_⟩
    dsimp only [List.set]
    refine ⟨fun v H' => ∃ d, Any p H' v d ∧ PoolAt H' p ∧ But p H10 H', ?_, ?_⟩
    · refine ⟨_, rfl, p, 3, rfl, by decide, by decide, S10.po, fun g H11 g0 g1 hp11 b11 => ⟨rfl, _, rfl, ite2 (fun _ => ?_) (fun _ => ?_)⟩⟩
      · exact ⟨_, rfl, dx, hx10.but b11, hp11, b11⟩
      · refine ⟨_, rfl, _, rfl, p, wl, rfl, W, hp11, fun m H12 tm hp12 b12 => ?_⟩
        obtain ⟨d, hd⟩ := Val.str (p := p) (H := H12) tm
        exact ⟨d, hd, hp12, b11.trans b12⟩
    rintro z H12 ⟨dz, hz12, hp12, b12⟩
    have S12 := S10.but b12 hp12
    have t12 := t10.trans (Bt.of b12)
    have hx12 := hx10.but b12
    have hy12 := hy10.but b12
    clear s10 hT10 hT hx10 hy10 S10 t10 hp12 b12 hx8 hy9 hp8 hp9 b8 b9
    dsimp only [List.set]
    refine ⟨fun v H' => v = .str (if wordB z = true then Str.ofString "nothing" else Str.ofString "word") ∧ Same H12 H', ?_, ?_⟩
    · refine ⟨_, rfl, p, z, dz, abc, by rw [← abc_is] <;> rfl, hz12, abc_low, fun H' s' => ⟨_, rfl, ?_⟩⟩
      rw [goodW_abc]
      cases wordB z with
      | true => exact ⟨rfl, s'⟩
      | false => exact ⟨rfl, s'⟩
    rintro v H13 ⟨rfl, s13⟩
    have S13 := S12.same s13
    have hz13 := hz12.same s13
    refine ⟨_, rfl, due_data (E := E0) (wd := "word") (wordB z) (by decide +kernel) (AnyS.of hz13).thing fun aD H14 nD s14 dpD => ?_⟩
    have dD : Dp K H14 (.ref aD) (.list [.str (if wordB z = true then Str.ofString "nothing" else Str.ofString "word"), if wordB z = true then plainD .none else dz]) := Dp.stay New.sub dpD
    have S14 := S13.same s14
    have X1214 : Xt H12 H14 := Xt.of (s13.trans s14)
    have hx14 := hx12.xt X1214
    have hy14 := hy12.xt X1214
    have hz14 := hz13.same s14
    have t14 := t12.trans X1214.bt
    clear s13 S13 hz13 S12 hz12 hx12 hy12 t12 s14 X1214 nD dpD
    dsimp only [List.set]
    -- Ring(line)
    refine ⟨S14.tb, fun H20 x20 tb20 => ?_⟩
    have S20 := S14.xt (Xt.ext x20) tb20
    have hz20 := hz14.xt (Xt.ext x20)
    refine ttr_data (wordB z) (.inl ⟨rfl, rfl⟩) (AnyS.of hz20).thing (fun g E' k' good => ⟨_, rfl, fun o dxo ho hdo neo => ⟨H20, p, o, dxo, z, dz, rfl, hz20, Same.new' (Same.new' (Same.refl H20) hdo) ho, ho, upd_same, fun _ l H' _ s' _ => ⟨rfl, good _ H' s'⟩, fun g' => absurd (g.symm.trans g') (by decide)⟩⟩)
      (fun g E' k' fails => ⟨_, rfl, fun o dxo ho hdo neo => ⟨H20, p, o, dxo, z, dz, rfl, hz20, Same.new' (Same.new' (Same.refl H20) hdo) ho, ho, upd_same, (fun g' => absurd (g.symm.trans g') (by decide)), fun _ => fails⟩⟩) (fun a21 H21 n21 s21 dp21 => ?_)
    have X21 : Xt H14 H21 := (Xt.ext x20).trans (Xt.of s21)
    refine ⟨_, rfl, heard_due (Dp.stay New.sub dp21) (Dp.xt dD X21) (ok_data (AnyS.of hz20) (wordB z) (by decide +kernel)) ⟨_, rfl, iteF ?_⟩⟩
    have S21 := S20.same s21
    have hx21 := hx14.xt X21
    have hy21 := hy14.xt X21
    have t21 := t14.trans X21.bt
    clear S20 hz20 tb20 x20 s21 dp21 n21 X21 dD S14 hx14 hy14 hz14 t14
    -- ring[spot]
    refine ⟨S21.tb, fun H22 x22 tb22 => ?_⟩
    have S22 := S21.xt (Xt.ext x22) tb22
    have hy22 := hy21.xt (Xt.ext x22)
    obtain ⟨_, dR22, hR22⟩ := id S22.A
    refine ttr_data (intB y || placeV H22 y) (.inr (.inl ⟨rfl, rfl⟩)) hy22.thing (fun g E' k' good => ⟨_, rfl, _, rfl, r, dR22, _, rfl, hR22, r, wl, y, rfl, S22.A, hy22.srtT, fun _ v => good v H22 (Same.refl H22), fun g' => absurd (g.symm.trans g') (by decide)⟩)
      (fun g E' k' fails => ⟨_, rfl, _, rfl, r, dR22, _, rfl, hR22, r, wl, y, rfl, S22.A, hy22.srtT, (fun g' => absurd (g.symm.trans g') (by decide)), fun _ => fails⟩) (fun a23 H23 n23 s23 dp23 => ?_)
    have hy23 := hy22.same s23
    refine ⟨_, rfl, y, rfl, hy23.srtT, _, rfl, ?_⟩
    have ep : spotW H23 y = (if (intB y || placeV H22 y) = true then Str.ofString "nothing" else Str.ofString "place") := by
      unfold spotW
      rw [placeV_xt hy22.srtT (Xt.of s23)] <;> rfl
    rw [ep]
    refine due_data (E := E0) (wd := "place") (intB y || placeV H22 y) (by decide +kernel) hy23.thing fun a24 H24 n24 s24 dp24 => ?_
    refine heard_due (Dp.stay s24 (Dp.stay New.sub dp23)) (Dp.stay New.sub dp24) (ok_data hy22 (intB y || placeV H22 y) (by decide +kernel)) ⟨_, rfl, iteF ?_⟩
    have X24 : Xt H21 H24 := (Xt.ext x22).trans (Xt.of (s23.trans s24))
    have S24 := S22.same (s23.trans s24)
    have hx24 := hx21.xt X24
    have hy24 := hy21.xt X24
    have t24 := t21.trans X24.bt
    clear S22 hy22 tb22 x22 s23 s24 dp23 dp24 n23 n24 X24 S21 hx21 hy21 t21 hy23 ep hR22
    -- ring.turned(spot)
    refine ⟨S24.tb, fun H25 x25 tb25 => ?_⟩
    have S25 := S24.xt (Xt.ext x25) tb25
    have hy25 := hy24.xt (Xt.ext x25)
    obtain ⟨_, dR25, hR25⟩ := id S25.A
    refine ttr_data (intB y) (.inr (.inl ⟨rfl, rfl⟩)) hy25.thing (fun g E' k' good => ⟨_, rfl, r, dR25, _, rfl, hR25, rf_no _ _ (by decide +kernel) (by decide +kernel), _, rfl, r, wl, y, rfl, S25.A, hy25.srtT, fun _ v => good v H25 (Same.refl H25), fun g' => absurd (g.symm.trans g') (by decide)⟩)
      (fun g E' k' fails => ⟨_, rfl, r, dR25, _, rfl, hR25, rf_no _ _ (by decide +kernel) (by decide +kernel), _, rfl, r, wl, y, rfl, S25.A, hy25.srtT, (fun g' => absurd (g.symm.trans g') (by decide)), fun _ => fails⟩) (fun a26 H26 n26 s26 dp26 => ?_)
    have hy26 := hy25.same s26
    refine ⟨fun v H' => v = .str (if intB y = true then Str.ofString "nothing" else Str.ofString "place") ∧ H' = H26, ?_, ?_⟩
    · refine ⟨_, rfl, y, rfl, hy26.srtT.1, intB y, rfl, ?_⟩
      cases intB y with
      | true => exact ⟨rfl, rfl⟩
      | false => exact ⟨rfl, rfl⟩
    rintro v H27 ⟨rfl, rfl⟩
    refine ⟨_, rfl, due_data (E := E0) (wd := "place") (intB y) (by decide +kernel) hy26.thing fun a28 H28 n28 s28 dp28 => ?_⟩
    refine heard_due (Dp.stay s28 (Dp.stay New.sub dp26)) (Dp.stay New.sub dp28) (ok_data hy25 (intB y) (by decide +kernel)) ⟨_, rfl, iteF ?_⟩
    have X28 : Xt H24 H28 := (Xt.ext x25).trans (Xt.of (s26.trans s28))
    have S28 := S25.same (s26.trans s28)
    have hx28 := hx24.xt X28
    have t28 := t24.trans X28.bt
    clear S25 hy25 tb25 x25 s26 s28 dp26 dp28 n26 n28 X28 S24 hx24 hy24 t24 hy26 hR25
    -- near
    have l0 := W.pos
    have l6 := W.few
    have q1 := Nat.div_le_self 600 wl.length
    refine ⟨_, rfl, _, rfl, W.fits, _, _, rfl, rfl, by rw [S_len]; constructor <;> omega, _, rfl, p, 3, rfl, by decide, by decide, S28.po, fun g H29 g0 g1 hp29 b29 => ⟨_, _, rfl, rfl, _, _, rfl, rfl, ?_⟩⟩
    obtain ⟨nv, env⟩ : ∃ nv : Int, nv = Int.fdiv 600 ((S wl).length : Int) + g - 1 := ⟨_, rfl⟩
    have nv1 : nv < 2 ^ 1000 := by
      have e : Int.fdiv 600 ((S wl).length : Int) = ((600 / wl.length : Nat) : Int) := by rw [S_len, div600]
      have : nv < 700 := by
        rw [env, e]
        omega
      exact Int.lt_trans this (by decide +kernel)
    have S290 := S28.but b29 hp29
    have hx290 := hx28.but b29
    have t290 := t28.trans (Bt.of b29)
    obtain ⟨en, hn290⟩ : ∃ d, Any p H29 (.int nv) d := Val.int nv1
    dsimp only [List.set]
    rw [← env]
    clear b29 hp29 S28 hx28 t28
    refine ⟨fun σ' H' => σ' = [some (V.ref p), some (V.str (S wl)), some (V.ref r), some (V.ref q), some (V.ref kp), some x0, some x, some y, some z, some (V.ref aD), some (V.int nv), v11] ∧ Xt H29 H' ∧ RT R.C p r q kp wl wm [(Pt, qLam)] H', ?_, ?_⟩
    · refine ⟨S290.tb, fun HA xA tbA => ?_⟩
      have SA := S290.xt (Xt.ext xA) tbA
      have hv := hn290.xt (Xt.ext xA)
      obtain ⟨_, dR, hR⟩ := id SA.A
      obtain ⟨ty, tyx, opt, kit⟩ := hv.opR G (nm := "mul") (.inl rfl)
      rcases mulG_cases wl.length (.int nv) with m | m | m
      · refine .inl ⟨fun E' k' good => ⟨_, rfl, _, rfl, r, dR, _, rfl, hR, .inl ⟨ty, tyx, opt⟩, p, r, wl, (.int nv), en, rfl, SA.A, hv, fun e q m' H' _ _ s' => good _ H' s', (fun e => absurd (m.symm.trans e) (by decide)), (fun e => absurd (m.symm.trans e) (by decide))⟩, fun aB HB nB sB dpB => ?_⟩
        have ed : tdue wl.length (.int nv) = Str.ofString "nothing" := by
          unfold tdue
          rw [m] <;> rfl
        refine ⟨_, rfl, _, rfl, _, rfl, W.fits, p, (.int nv), en, wl.length, by rw [S_len] <;> rfl, hv.same sB, l6, _, rfl, ?_⟩
        rw [ed]
        refine ⟨_, _, rfl, .inl ⟨rfl, fun aC HC nC sC dpC => ?_⟩⟩
        refine heard_due (Dp.stay sC (Dp.stay New.sub dpB)) (Dp.stay New.sub dpC) ⟨by decide +kernel, by decide +kernel⟩ ⟨_, rfl, iteF ?_⟩
        exact ⟨rfl, (Xt.ext xA).trans (Xt.of (sB.trans sC)), SA.same (sB.trans sC)⟩
      · refine .inr (.inl ⟨R.cN, "number", (.int nv), en, .inr (.inr (.inl ⟨rfl, rfl⟩)), (AnyS.of hv).thing, fun E' k' fails => ⟨_, rfl, _, rfl, r, dR, _, rfl, hR, .inl ⟨ty, tyx, opt⟩, p, r, wl, (.int nv), en, rfl, SA.A, hv, (fun e => absurd (m.symm.trans e) (by decide)), fun _ => fails, (fun e => absurd (m.symm.trans e) (by decide))⟩, fun aB HB nB sB dpB => ?_⟩)
        have ed : tdue wl.length (.int nv) = Str.ofString "number" := by
          unfold tdue
          rw [m] <;> rfl
        refine ⟨_, rfl, _, rfl, _, rfl, W.fits, p, (.int nv), en, wl.length, by rw [S_len] <;> rfl, hv.same sB, l6, _, rfl, ?_⟩
        rw [ed]
        refine ⟨_, _, rfl, .inr ⟨by decide +kernel, .inl ⟨en, (AnyS.of (hv.same sB)).thing, fun aC HC nC sC dpC => ?_⟩⟩⟩
        refine heard_due (Dp.stay sC (Dp.stay New.sub dpB)) (Dp.stay New.sub dpC) (ok_data (AnyS.of hv) false (wd := "number") (by decide +kernel)) ⟨_, rfl, iteF ?_⟩
        exact ⟨rfl, (Xt.ext xA).trans (Xt.of (sB.trans sC)), SA.same (sB.trans sC)⟩
      · refine .inr (.inl ⟨R.cW, "word", (.int nv), en, .inl ⟨rfl, rfl⟩, (AnyS.of hv).thing, fun E' k' fails => ⟨_, rfl, _, rfl, r, dR, _, rfl, hR, .inl ⟨ty, tyx, opt⟩, p, r, wl, (.int nv), en, rfl, SA.A, hv, (fun e => absurd (m.symm.trans e) (by decide)), (fun e => absurd (m.symm.trans e) (by decide)), fun _ => fails⟩, fun aB HB nB sB dpB => ?_⟩)
        have ed : tdue wl.length (.int nv) = Str.ofString "word" := by
          unfold tdue
          rw [m] <;> rfl
        refine ⟨_, rfl, _, rfl, _, rfl, W.fits, p, (.int nv), en, wl.length, by rw [S_len] <;> rfl, hv.same sB, l6, _, rfl, ?_⟩
        rw [ed]
        refine ⟨_, _, rfl, .inr ⟨by decide +kernel, .inl ⟨en, (AnyS.of (hv.same sB)).thing, fun aC HC nC sC dpC => ?_⟩⟩⟩
        refine heard_due (Dp.stay sC (Dp.stay New.sub dpB)) (Dp.stay New.sub dpC) (ok_data (AnyS.of hv) false (wd := "word") (by decide +kernel)) ⟨_, rfl, iteF ?_⟩
        exact ⟨rfl, (Xt.ext xA).trans (Xt.of (sB.trans sC)), SA.same (sB.trans sC)⟩
    rintro σ1 H31 ⟨rfl, X31, S31⟩
    have hx31 := hx290.xt X31
    have t31 := t290.trans X31.bt
    clear S290 hx290 t290 hn290 X31
    refine ⟨fun σ' H' => σ' = [some (V.ref p), some (V.str (S wl)), some (V.ref r), some (V.ref q), some (V.ref kp), some x0, some x, some y, some z, some (V.ref aD), some (V.int nv), v11] ∧ Xt H31 H' ∧ RT R.C p r q kp wl wm [(Pt, qLam)] H', ?_, ?_⟩
    · refine ⟨S31.tb, fun HA xA tbA => ?_⟩
      have SA := S31.xt (Xt.ext xA) tbA
      have hv := hx31.xt (Xt.ext xA)
      obtain ⟨_, dR, hR⟩ := id SA.A
      obtain ⟨ty, tyx, opt, kit⟩ := hv.opR G (nm := "mul") (.inl rfl)
      rcases mulG_cases wl.length x with m | m | m
      · refine .inl ⟨fun E' k' good => ⟨_, rfl, _, rfl, r, dR, _, rfl, hR, .inl ⟨ty, tyx, opt⟩, p, r, wl, x, dx, rfl, SA.A, hv, fun e q m' H' _ _ s' => good _ H' s', (fun e => absurd (m.symm.trans e) (by decide)), (fun e => absurd (m.symm.trans e) (by decide))⟩, fun aB HB nB sB dpB => ?_⟩
        have ed : tdue wl.length x = Str.ofString "nothing" := by
          unfold tdue
          rw [m] <;> rfl
        refine ⟨_, rfl, _, rfl, _, rfl, W.fits, p, x, dx, wl.length, by rw [S_len] <;> rfl, hv.same sB, l6, _, rfl, ?_⟩
        rw [ed]
        refine ⟨_, _, rfl, .inl ⟨rfl, fun aC HC nC sC dpC => ?_⟩⟩
        refine heard_due (Dp.stay sC (Dp.stay New.sub dpB)) (Dp.stay New.sub dpC) ⟨by decide +kernel, by decide +kernel⟩ ⟨_, rfl, iteF ?_⟩
        exact ⟨rfl, (Xt.ext xA).trans (Xt.of (sB.trans sC)), SA.same (sB.trans sC)⟩
      · refine .inr (.inl ⟨R.cN, "number", x, dx, .inr (.inr (.inl ⟨rfl, rfl⟩)), (AnyS.of hv).thing, fun E' k' fails => ⟨_, rfl, _, rfl, r, dR, _, rfl, hR, .inl ⟨ty, tyx, opt⟩, p, r, wl, x, dx, rfl, SA.A, hv, (fun e => absurd (m.symm.trans e) (by decide)), fun _ => fails, (fun e => absurd (m.symm.trans e) (by decide))⟩, fun aB HB nB sB dpB => ?_⟩)
        have ed : tdue wl.length x = Str.ofString "number" := by
          unfold tdue
          rw [m] <;> rfl
        refine ⟨_, rfl, _, rfl, _, rfl, W.fits, p, x, dx, wl.length, by rw [S_len] <;> rfl, hv.same sB, l6, _, rfl, ?_⟩
        rw [ed]
        refine ⟨_, _, rfl, .inr ⟨by decide +kernel, .inl ⟨dx, (AnyS.of (hv.same sB)).thing, fun aC HC nC sC dpC => ?_⟩⟩⟩
        refine heard_due (Dp.stay sC (Dp.stay New.sub dpB)) (Dp.stay New.sub dpC) (ok_data (AnyS.of hv) false (wd := "number") (by decide +kernel)) ⟨_, rfl, iteF ?_⟩
        exact ⟨rfl, (Xt.ext xA).trans (Xt.of (sB.trans sC)), SA.same (sB.trans sC)⟩
      · refine .inr (.inl ⟨R.cW, "word", x, dx, .inl ⟨rfl, rfl⟩, (AnyS.of hv).thing, fun E' k' fails => ⟨_, rfl, _, rfl, r, dR, _, rfl, hR, .inl ⟨ty, tyx, opt⟩, p, r, wl, x, dx, rfl, SA.A, hv, (fun e => absurd (m.symm.trans e) (by decide)), (fun e => absurd (m.symm.trans e) (by decide)), fun _ => fails⟩, fun aB HB nB sB dpB => ?_⟩)
        have ed : tdue wl.length x = Str.ofString "word" := by
          unfold tdue
          rw [m] <;> rfl
        refine ⟨_, rfl, _, rfl, _, rfl, W.fits, p, x, dx, wl.length, by rw [S_len] <;> rfl, hv.same sB, l6, _, rfl, ?_⟩
        rw [ed]
        refine ⟨_, _, rfl, .inr ⟨by decide +kernel, .inl ⟨dx, (AnyS.of (hv.same sB)).thing, fun aC HC nC sC dpC => ?_⟩⟩⟩
        refine heard_due (Dp.stay sC (Dp.stay New.sub dpB)) (Dp.stay New.sub dpC) (ok_data (AnyS.of hv) false (wd := "word") (by decide +kernel)) ⟨_, rfl, iteF ?_⟩
        exact ⟨rfl, (Xt.ext xA).trans (Xt.of (sB.trans sC)), SA.same (sB.trans sC)⟩
    rintro σ2 H33 ⟨rfl, X33, S33⟩
    have hx33 := hx31.xt X33
    have t33 := t31.trans X33.bt
    clear S31 hx31 t31 X33
    -- ring + thing
    refine ⟨S33.tb, fun HA xA tbA => ?_⟩
    have SA := S33.xt (Xt.ext xA) tbA
    have hv := hx33.xt (Xt.ext xA)
    obtain ⟨_, dR, hR⟩ := id SA.A
    obtain ⟨ty, tyx, opt, kit⟩ := hv.opR G (nm := "add") (.inr rfl)
    refine .inr (.inl ⟨R.cG, "ring", x, dx, .inr (.inr (.inr ⟨rfl, rfl⟩)), (AnyS.of hv).thing, fun E' k' fails => ⟨_, rfl, _, rfl, r, dR, _, rfl, hR, .inl ⟨ty, tyx, opt⟩, r, wl, x, rfl, SA.A, .inr ⟨⟨_, tyx, kit⟩, fails⟩⟩, fun aB HB nB sB dpB => ?_⟩)
    refine ⟨_, rfl, _, _, rfl, .inr ⟨by decide +kernel, .inl ⟨dx, (AnyS.of (hv.same sB)).thing, fun aC HC nC sC dpC => ?_⟩⟩⟩
    refine heard_due (Dp.stay sC (Dp.stay New.sub dpB)) (Dp.stay New.sub dpC) (ok_data (AnyS.of hv) false (wd := "ring") (by decide +kernel)) ⟨_, rfl, iteF ?_⟩
    have S35 := SA.same (sB.trans sC)
    have t35 := t33.trans ((Xt.ext xA).trans (Xt.of (sB.trans sC))).bt
    clear SA hv tbA xA sB sC dpB dpC nB nC S33 hx33 t33 hR
    -- what is due of both
    refine ⟨fun v H' => v = .str (if wl.length + wm.length ≤ 600 then Str.ofString "nothing" else Str.ofString "word") ∧ H' = HC, ?_, ?_⟩
    · refine ⟨_, rfl, kp, _, _, _, rfl, rfl, SqL.of S35.hk, atI_nat (j := 0) rfl, _, rfl, text_fits W, _, rfl, kp, _, _, _, rfl, rfl, SqL.of S35.hk, atI_nat (j := 1) rfl, _, rfl, text_fits Wm, _, _, rfl, rfl, _, _, rfl, rfl, _, rfl, ?_⟩
      rw [text_len W.pos, text_len Wm.pos]
      by_cases le : wl.length + wm.length ≤ 600
      · rw [if_pos le]
        exact ifd (by omega) ⟨rfl, rfl⟩
      · rw [if_neg le]
        exact ifn (by omega) ⟨rfl, rfl⟩
    rintro v H36 ⟨rfl, rfl⟩
    dsimp only [List.set]
    refine ⟨fun σ' H' => σ' = [some (V.ref p), some (V.str (S wl)), some (V.ref r), some (V.ref q), some (V.ref kp), some x0, some x, some y, some z, some (V.ref aD), some (V.int nv), some (V.str (if wl.length + wm.length ≤ 600 then Str.ofString "nothing" else Str.ofString "word"))] ∧ Xt H36 H' ∧ RT R.C p r q kp wl wm [(Pt, qLam)] H', ?_, ?_⟩
    · refine ⟨S35.tb, fun HA xA tbA => ?_⟩
      have SA := S35.xt (Xt.ext xA) tbA
      obtain ⟨_, dR, hR⟩ := id SA.A
      obtain ⟨_, dQ, hQ⟩ := id SA.M
      by_cases le : wl.length + wm.length ≤ 600
      · refine .inl ⟨fun E' k' good => ⟨_, rfl, _, rfl, r, dR, _, rfl, hR, .inr (.inl ⟨q, dQ, _, rfl, hQ⟩), r, wl, .ref q, rfl, SA.A, .inl ⟨q, wm, rfl, SA.M, fun _ y' n' H' _ _ s' => good _ H' s', fun b => absurd b (by omega)⟩⟩, fun aB HB nB sB dpB => ?_⟩
        refine ⟨_, rfl, _, rfl, _, _, rfl, .inl ⟨if_pos le, fun aC HC nC sC dpC => .inl ?_⟩⟩
        rw [if_pos le] at dpC
        refine heard_due (Dp.stay sC (Dp.stay New.sub dpB)) (Dp.stay New.sub dpC) ⟨by decide +kernel, by decide +kernel⟩ ⟨_, rfl, iteF ?_⟩
        have SC := SA.same (sB.trans sC)
        have XC : Xt H36 HC := (Xt.ext xA).trans (Xt.of (sB.trans sC))
        obtain ⟨_, dR2, hR2⟩ := id SC.A
        obtain ⟨_, dQ2, hQ2⟩ := id SC.M
        refine ⟨_, rfl, r, dR2, _, rfl, hR2, r, wl, rfl, SC.A, _, rfl, q, dQ2, _, rfl, hQ2, q, wm, rfl, SC.M, by show 2 ≤ sizeLine; decide, fun L hL => ⟨_, rfl, heard_due (d := .list [.str (textS wl), .str (textS wm)]) (.lst (SqL.of upd_same) (.cons (.str _) (.cons (.str _) .nil))) (.lst (SqL.of (keepA SC.hk hL)) (.cons (.str _) (.cons (.str _) .nil))) ?_ ⟨_, rfl, iteF ?_⟩⟩⟩
        · refine ⟨?_, by show max 0 (max 0 0) + 1 ≤ 64; decide⟩
          show (PyData.strOk (textS wl) && (PyData.strOk (textS wm) && true)) = true
          rw [text_ok W, text_ok Wm] <;> rfl
        · exact ⟨rfl, XC.trans (Xt.of (Same.put (Same.refl HC) hL)), SC.same (Same.put (Same.refl HC) hL)⟩
      · refine .inr (.inr (.inr ⟨R.cW, "word", q, wm, .inl ⟨rfl, rfl⟩, SA.M, fun E' k' fails => ⟨_, rfl, _, rfl, r, dR, _, rfl, hR, .inr (.inl ⟨q, dQ, _, rfl, hQ⟩), r, wl, .ref q, rfl, SA.A, .inl ⟨q, wm, rfl, SA.M, fun b => absurd b (by omega), fun _ => fails⟩⟩, fun aB fB HB nB sB hB1 hB2 => ?_⟩))
        refine ⟨_, rfl, _, rfl, _, _, rfl, .inr ⟨by rw [if_neg le]; decide +kernel, .inr ⟨q, wm, rfl, SA.M.same sB, fun aC fC HC nC sC hC1 hC2 => .inr ?_⟩⟩⟩
        rw [if_neg le] at hC1
        refine ⟨aB, aC, fB, fC, q, _, _, rfl, rfl, sC _ _ hB1, hC1, sC _ _ hB2, hC2, ⟨_, rfl, iteF ?_⟩⟩
        have SC := SA.same (sB.trans sC)
        have XC : Xt H36 HC := (Xt.ext xA).trans (Xt.of (sB.trans sC))
        obtain ⟨_, dR2, hR2⟩ := id SC.A
        obtain ⟨_, dQ2, hQ2⟩ := id SC.M
        refine ⟨_, rfl, r, dR2, _, rfl, hR2, r, wl, rfl, SC.A, _, rfl, q, dQ2, _, rfl, hQ2, q, wm, rfl, SC.M, by show 2 ≤ sizeLine; decide, fun L hL => ⟨_, rfl, heard_due (d := .list [.str (textS wl), .str (textS wm)]) (.lst (SqL.of upd_same) (.cons (.str _) (.cons (.str _) .nil))) (.lst (SqL.of (keepA SC.hk hL)) (.cons (.str _) (.cons (.str _) .nil))) ?_ ⟨_, rfl, iteF ?_⟩⟩⟩
        · refine ⟨?_, by show max 0 (max 0 0) + 1 ≤ 64; decide⟩
          show (PyData.strOk (textS wl) && (PyData.strOk (textS wm) && true)) = true
          rw [text_ok W, text_ok Wm] <;> rfl
        · exact ⟨rfl, XC.trans (Xt.of (Same.put (Same.refl HC) hL)), SC.same (Same.put (Same.refl HC) hL)⟩
    rintro σ3 H37 ⟨rfl, X37, S37⟩
    exact ⟨_, _, _, _, _, _, _, rfl, S37, t35.trans X37.bt⟩
  · rintro σ H8 ⟨v5, v6, v7, v8, v9, v10, v11, rfl, S8, t8⟩
    exact k H8 t8 S8.tb
end
end Wb
/-! the law's asking at the limit -/
namespace Wb
open PySem L2 WbMin WbS Lz WbO WbT Le LamX
abbrev sLimit : Stmt := top 36
abbrev qLim : Str := "_law_at_the_limit.<locals>.<lambda>"
abbrev NL : List Str := ["_law_long_here", "_law_less"]
theorem scLim : FnScope NL [] (defScope sLimit) := ⟨rfl, rfl, rfl, by decide +kernel, rfl, by decide +kernel, by decide +kernel⟩
/-- so many times ab -/
def abN (n : Nat) : List Nat := (List.replicate n [97, 98]).flatten
theorem abN_len (n : Nat) : (abN n).length = n * 2 := by
  unfold abN
  rw [List.length_flatten, List.map_replicate, List.sum_replicate_nat] <;> rfl
theorem abN_w {n : Nat} (h1 : 1 ≤ n) (h2 : n ≤ 300) : IsW (abN n) := by
  refine ⟨fun c hc => ?_, by rw [abN_len]; omega, by rw [abN_len]; omega⟩
  obtain ⟨m, hm, q⟩ := List.mem_flatten.mp hc
  rw [List.eq_of_mem_replicate hm] at q
  exact (show ∀ c ∈ [97, 98], 97 ≤ c ∧ c ≤ 122 by decide) c q
theorem abN_mul (n : Nat) : Txt.mul ("ab" : Str) (n : Int) = S (abN n) := S_eq (by
  rw [mul_cps (Int.natCast_nonneg _), Int.toNat_natCast, show ("ab" : Str).cps.toList = [97, 98] by decide +kernel] <;> rfl)
def spMulG (C : Addr) : Sp := fun vs H Q _ => ∃ (p r : Addr) (l : List Nat) (x : V) (d : PyData), vs = [.ref r, x] ∧ RingAt C H r l ∧ Any p H x d ∧ mulG l.length x = 0 ∧ ∀ (q : Addr) (m : List Nat) (H' : Hp), (∀ j, x = .int j → (m.length : Int) = (l.length : Int) * j) → RingAt C H' q m → Same H H' → Q (.ref q) H'
def spAddG (C : Addr) : Sp := fun vs H Q _ => ∃ (r : Addr) (l : List Nat) (q : Addr) (m : List Nat), vs = [.ref r, .ref q] ∧ RingAt C H r l ∧ RingAt C H q m ∧ l.length + m.length ≤ 600 ∧ ∀ (y : Addr) (n : List Nat) (H' : Hp), n.length = l.length + m.length → RingAt C H' y n → Same H H' → Q (.ref y) H'
section
variable {P : Program} {w : World} {K : PySem.W.Frag} {mg : Str → Option Value} {base : Heap} {R : RA}
set_option maxHeartbeats 0 in
theorem ok_mulG (D : RgX K mg R) (Z : Free mg) : FnOk P w K mg base CX0 4 R.fM R.dM ["self", "other"] (spMulG R.C) := by
  obtain ⟨t6, g6⟩ := D.w6
  have GI : FnOk P w K mg base CX0 2 R.fI R.dI ["self", "text"] (spInit R.C) := ok_init D.FI D.T Z t6 g6 D.isword D.turns
  have Gi : FnOk P w K mg base CX0 1 R.isint R.disint ["value"] spIsIntA := ok_isintA D.isint.F Z
  refine D.FM.ok scMuX (fun vs H Q E h => by obtain ⟨p, r, l, x, d, rfl, _⟩ := h; rfl) (fun cdv A outer s H vs Q E hr h => ?_)
  obtain ⟨p, r, l, x, d, rfl, ⟨W, dx, hR⟩, hx, z0, k0⟩ := h
  have hr1 : Room 1 _ := hr.mono (by decide)
  have hr2 : Room 2 _ := hr.mono (by decide)
  have l0 := W.pos
  have l6 := W.few
  have tn := text_len l0
  refine ⟨_, pss_cons (ps_if (PW.pt (pw_or (pt_not (pt_val (pe_call Gi hr1 rfl D.isint.g D.isint.kp D.isint.b .nil pass0 (pa_cons (pv 1) pa_nil)))) (pw_or1 (pt_cmpR op_lt (pv 1) pe_int (nomark _))))) (pss_one ps_never) pss_nil)
      (pss_cons (ps_if (pt_cmpR op_gt (pe_op op_mul (pe_callB call_len_str (by rfl) Z.len PySem.boot_len (pa_cons (pe_fld (pv 0) rfl) pa_nil)) (pv 1)) (pe_glob (v := .int 600) (by rfl) g6 ⟨_, rfl⟩) (nomark _)) (pss_one ps_never) pss_nil)
      (pss_one (ps_ret (pe_make D.M GI hr rfl D.T.gC D.bI .nil pass0 (pa_cons (pe_op op_mulS (pe_fld (pv 0) rfl) (pv 1)) pa_nil))))), ?_⟩
  refine ⟨_, rfl, p, x, d, rfl, hx, ?_⟩
  cases g : intB x with
  | false =>
    have e : mulG l.length x = 1 := by cases x <;> first | rfl | cases g
    rw [z0] at e
    cases e
  | true =>
    obtain ⟨j, rfl⟩ := intB_is g
    refine ⟨true, rfl, ?_⟩
    refine ⟨_, rfl, _, _, rfl, rfl, _, rfl, ?_⟩
    by_cases j1 : j < 1
    · have e : mulG l.length (.int j) = 1 := if_pos j1
      rw [z0] at e
      cases e
    refine ifn j1 ?_
    refine ⟨_, rfl, r, R.C, dx, _, _, rfl, hR, D.T.cl, D.T.nT, rf_text _ _, _, rfl, text_fits W, _, rfl, _, _, rfl, rfl, .inl ⟨by rw [tn]; omega, by rw [tn]; omega⟩, _, _, rfl, rfl, _, rfl, ?_⟩
    rw [tn]
    by_cases big : (600 : Int) < (l.length : Int) * j
    · have e : mulG l.length (.int j) = 2 := (if_neg j1).trans (if_neg (by omega))
      rw [z0] at e
      cases e
    refine ifn big ?_
    have e : mulG l.length (.int j) = 0 := (if_neg j1).trans (if_pos (by omega))
    obtain ⟨m, rfl⟩ : ∃ m : Nat, j = (m : Int) := ⟨j.toNat, by omega⟩
    have m1 : 1 ≤ m := by omega
    have j2 : m * l.length ≤ 600 := by
      have e : ((m * l.length : Nat) : Int) = (l.length : Int) * (m : Int) := by rw [Int.natCast_mul, Int.mul_comm]
      omega
    have e4 : Txt.mul (textS l) (m : Int) = S (rep m (tx l)) := S_eq (by rw [mul_cps (Int.natCast_nonneg _), Int.toNat_natCast] <;> rfl)
    have jb : m ≤ 600 := Nat.le_trans (Nat.le_mul_of_pos_right m l0) j2
    refine ⟨_, rfl, r, R.C, dx, _, _, rfl, hR, D.T.cl, D.T.nT, rf_text _ _, _, rfl, _, _, rfl, rfl, mulOk (Int.natCast_nonneg _) ?_ (by omega), fun q dx2 hq hdx ne => ?_⟩
    · rw [tn, Int.toNat_natCast, Nat.mul_comm]
      omega
    have Wr : IsW (rep m (tx l)) := (tx_w W).rep m1 (by rw [tx_len l0]; exact j2)
    refine ⟨H, q, dx2, rep m (tx l), by rw [e4] <;> rfl, Wr, Same.new' (Same.new' (Same.refl H) hdx) hq, hq, upd_same, fun H3 s3 R3 => ⟨rfl, k0 q _ H3 (fun j' ej => ?_) R3 s3⟩⟩
    injection ej with ej
    subst ej
    rw [repQ_len, tx_len l0, Int.natCast_mul, Int.mul_comm]
set_option maxHeartbeats 0 in
theorem ok_addG (D : RgX K mg R) (Z : Free mg) : FnOk P w K mg base CX0 4 R.fA R.dA ["self", "other"] (spAddG R.C) := by
  obtain ⟨t6, g6⟩ := D.w6
  have GI : FnOk P w K mg base CX0 2 R.fI R.dI ["self", "text"] (spInit R.C) := ok_init D.FI D.T Z t6 g6 D.isword D.turns
  refine D.FA.ok scAdX (fun vs H Q E h => by obtain ⟨r, l, q, m, rfl, _⟩ := h; rfl) (fun cdv A outer s H vs Q E hr h => ?_)
  obtain ⟨r, l, q, m, rfl, ⟨W, dx, hR⟩, ⟨Wm, dy, hQ⟩, le, good⟩ := h
  have hr2 : Room 2 _ := hr.mono (by decide)
  have l0 := W.pos
  have l6 := W.few
  have tn := text_len l0
  refine ⟨_, pss_cons (ps_if (pt_not (pt_val (pe_callB call_isi (by rfl) Z.isi (by decide +kernel) (pa_cons (pv 1) (pa_cons (pe_glob (v := .ref R.C) (by rfl) D.T.gC rfl) pa_nil))))) (pss_one ps_never) pss_nil)
      (pss_cons (ps_if (pt_cmpR op_gt (pe_op op_add (pe_callB call_len_str (by rfl) Z.len PySem.boot_len (pa_cons (pe_fld (pv 0) rfl) pa_nil)) (pe_callB call_len_str (by rfl) Z.len PySem.boot_len (pa_cons (pe_fld (pv 1) rfl) pa_nil))) (pe_glob (v := .int 600) (by rfl) g6 ⟨_, rfl⟩) (nomark _)) (pss_one ps_never) pss_nil)
      (pss_one (ps_ret (pe_make D.M GI hr rfl D.T.gC D.bI .nil pass0 (pa_cons (pe_op op_add_str (pe_fld (pv 0) rfl) (pe_fld (pv 1) rfl)) pa_nil))))), ?_⟩
  have m0 := Wm.pos
  have m6 := Wm.few
  have tm := text_len m0
  refine ⟨_, rfl, _, _, .ref R.C, .ref R.C, true, rfl, .own R.C, .base (.ins hQ D.T.cl D.T.hcl D.T.hgt D.T.htk D.T.hob), ?_, true, rfl, iteF ?_⟩
  · unfold PySem.W.kitOne
    rw [if_pos (beq_self_eq_true _)]
  refine ⟨_, rfl, r, R.C, dx, _, _, rfl, hR, D.T.cl, D.T.nT, rf_text _ _, _, rfl, text_fits W, _, rfl, q, R.C, dy, _, _, rfl, hQ, D.T.cl, D.T.nT, rf_text _ _, _, rfl, text_fits Wm, _, _, rfl, rfl, _, _, rfl, rfl, _, rfl, ?_⟩
  rw [tn, tm]
  by_cases b : (600 : Int) < (l.length : Int) + (m.length : Int)
  exact absurd b (by omega)
  refine ifn b ?_
  have e4 : textS l ++ textS m = S (tx l ++ tx m) := by rw [← S_add, S_tx, S_tx]
  have len : (tx l ++ tx m).length = l.length + m.length := by rw [List.length_append, tx_len l0, tx_len m0]
  have Wr : IsW (tx l ++ tx m) := ⟨fun c hc => (List.mem_append.mp hc).elim ((tx_w W).low c) ((tx_w Wm).low c), by omega, by omega⟩
  refine ⟨_, rfl, r, R.C, dx, _, _, rfl, hR, D.T.cl, D.T.nT, rf_text _ _, _, rfl, q, R.C, dy, _, _, rfl, hQ, D.T.cl, D.T.nT, rf_text _ _, _, _, rfl, rfl, ?_, fun y dx2 hy hdx ne => ?_⟩
  · rw [tn, tm, sizeLine_eq]
    omega
  exact ⟨H, y, dx2, tx l ++ tx m, by rw [e4] <;> rfl, Wr, Same.new' (Same.new' (Same.refl H) hdx) hy, hy, upd_same, fun H3 s3 R3 => ⟨rfl, good y _ H3 len R3 s3⟩⟩
def spLimT (Pt2 Pt : Addr) : Sp := fun vs H Q _ => vs = [] ∧ Tabs [(Pt2, qLim), (Pt, qLam)] H ∧ ∀ H', Xt H H' → Tabs [(Pt2, qLim), (Pt, qLam)] H' → Q (.bl true) H'
set_option maxHeartbeats 0 in
theorem ok_limit {f c Pt2 Pt : Addr} {fd : FuncData} {D : DA} (F : FunT K "_law_at_the_limit" "_law_at_the_limit" sLimit f fd c) (TB : TabB base mg c Pt2) (nPt : Pt ≠ Pt2) (Z : Free mg) (ZT : FreeT mg) (X : RgX K mg R) (FC : FaceC K R.C) (ME : Takes4 K R) (G : OpsR K R.C)
    (D' : Defs K mg D) : FnOk P w K mg base CX0 10 f fd [] (spLimT Pt2 Pt) := by
  obtain ⟨t6, g6⟩ := X.w6
  have GI : FnOk P w K mg base CX0 2 R.fI R.dI ["self", "text"] (spInit R.C) := ok_init X.FI X.T Z t6 g6 X.isword X.turns
  have GF : FnOk P w K mg base CX0 7 D.face D.dface ["_law_thing"] (spFaceR K R.C) := FnOk.either (ok_face D'.face ZT 6) ((ok_faceI D'.face ZT FC).mono (by decide))
  have GMu : FnOk P w K mg base (L2N.CX P w) 4 R.fM R.dM ["self", "other"] (spMulX R.C R.cN R.cW) := ok_mulX X Z
  have GAd : FnOk P w K mg base (L2N.CX P w) 4 R.fA R.dA ["self", "other"] (spAddX K R.C R.cG R.cW) := ok_addX X Z
  have GMg : FnOk P w K mg base CX0 4 R.fM R.dM ["self", "other"] (spMulG R.C) := ok_mulG X Z
  have GAg : FnOk P w K mg base CX0 4 R.fA R.dA ["self", "other"] (spAddG R.C) := ok_addG X Z
  have GLn : FnOk P w K mg base CX0 1 R.fL R.dL ["self"] (spLenR R.C) := ok_lenR X Z
  have GE : FnOk P w K mg base CX0 1 R.fE R.dE ["self", "other"] (spEqR R.C) := ok_eqR X Z
  have one : ∀ y ∈ [(Pt2, qLim), (Pt, qLam)], y.1 = Pt2 → y.2 = qLim := fun y hy e => by
    rcases List.mem_cons.mp hy with rfl | hy
    · rfl
    · rw [List.mem_singleton.mp hy] at e
      exact absurd e nPt
  obtain ⟨ocH, odH, kVH, docH, pmH, anH, cdvH, ctH, oslH, eH, lkH, cdH⟩ := D'.heard.F.ex
  have bH := D'.heard.b
  rw [eH] at lkH bH
  refine okT F scLim (fun vs H Q E h => by obtain ⟨rfl, _⟩ := h; rfl) (fun A' outer s H vs Q E hr h => ?_)
  obtain ⟨rfl, tabs0, k⟩ := h
  have hr2' : Room 2 _ := hr.mono (by decide)
  have hr3 : Room 3 _ := hr.mono (by decide)
  have hr4 : Room 4 _ := hr.mono (by decide)
  have hr7 : Room 7 _ := hr.mono (by decide)
  refine ⟨_, pss_cons (ps_asg (pe_tup (pa_cons (pe_make X.M GI hr3 rfl X.T.gC X.bI .nil pass0 (pa_cons (pe_op op_mulS pe_str pe_int) pa_nil)) (pa_cons (pe_make X.M GI hr3 rfl X.T.gC X.bI .nil pass0 (pa_cons (pe_op op_mulS pe_str pe_int) pa_nil)) pa_nil))) (pg_tup (by rfl) (pgs_cons (pg_name (i := 0) scLim.nd rfl (.inr rfl)) (pgs_cons (pg_name (i := 1) scLim.nd rfl (.inr rfl)) pgs_nil))))
    (pss_cons (ps_if (pt_cmpR (op_neD hr.units) (pe_heard (T := [(Pt2, qLim), (Pt, qLam)]) (TT := TTR K R) (k := 7) (Ng := NH) (a := "_law_act") (by rfl) D'.heard.g D'.heard.kp lkH cdH bH scHe rfl (.inl rfl) (hears_ring D'.face ZT FC X ME (by decide)) TB rfl List.mem_cons_self one hr (lamS_by (show lamSB (defScope sLimit) _ = true by decide +kernel)) rfl (fun _ _ _ _ _ => rfl)
          (fun A2 outer2 s2 H2 E2 f2 c2 hr2 => pe_op (show OpR _ (binaryOp .Add) (rOpW K R.C "add" (spAddX K R.C R.cG R.cW) E2) from op_W (op := .Add) X.sf X.mA.at_ X.mA.fn X.rA (.inl rfl) GAd (hr2.mono (by decide)) X.bA (passNk (L2N.takes_of rfl rfl rfl rfl))) (pv 1) (pe_make X.M GI (hr2.mono (by decide)) rfl X.T.gC X.bI .nil pass0 (pa_cons pe_str pa_nil)))) (pe_lst (pa_cons pe_str (pa_cons (pe_call GF hr7 rfl D'.face.g D'.face.kp D'.face.b .nil pass0 (pa_cons pe_non pa_nil)) pa_nil))) (nomark _)) (pss_one ps_never) pss_nil)
    (pss_cons (ps_if (pt_cmpR (op_neI X.mE.at_ X.mE.fn X.nf GE hr3 X.bE pass0) (pe_heard (T := [(Pt2, qLim), (Pt, qLam)]) (TT := TTR K R) (k := 7) (Ng := NH) (a := "_law_act") (by rfl) D'.heard.g D'.heard.kp lkH cdH bH scHe rfl (.inl rfl) (hears_ring D'.face ZT FC X ME (by decide)) TB rfl List.mem_cons_self one hr (lamS_by (show lamSB (defScope sLimit) _ = true by decide +kernel)) rfl (fun _ _ _ _ _ => rfl)
          (fun A2 outer2 s2 H2 E2 f2 c2 hr2 => pe_op (show OpR _ (binaryOp .Add) (rOpW K R.C "add" (spAddX K R.C R.cG R.cW) E2) from op_W (op := .Add) X.sf X.mA.at_ X.mA.fn X.rA (.inl rfl) GAd (hr2.mono (by decide)) X.bA (passNk (L2N.takes_of rfl rfl rfl rfl))) (pv 0) (pe_make X.M GI (hr2.mono (by decide)) rfl X.T.gC X.bI .nil pass0 (pa_cons pe_str pa_nil)))) (pe_lst (pa_cons pe_str (pa_cons (pe_call GF hr7 rfl D'.face.g D'.face.kp D'.face.b .nil pass0 (pa_cons (pe_make X.M GI hr3 rfl X.T.gC X.bI .nil pass0 (pa_cons pe_str pa_nil)) pa_nil)) pa_nil))) (nomark _)) (pss_one ps_never) pss_nil)
    (pss_cons (ps_if (pt_cmpR (op_neI X.mE.at_ X.mE.fn X.nf GE hr3 X.bE pass0) (pe_heard (T := [(Pt2, qLim), (Pt, qLam)]) (TT := TTR K R) (k := 7) (Ng := NH) (a := "_law_act") (by rfl) D'.heard.g D'.heard.kp lkH cdH bH scHe rfl (.inl rfl) (hears_ring D'.face ZT FC X ME (by decide)) TB rfl List.mem_cons_self one hr (lamS_by (show lamSB (defScope sLimit) _ = true by decide +kernel)) rfl (fun _ _ _ _ _ => rfl)
          (fun A2 outer2 s2 H2 E2 f2 c2 hr2 => pe_op (show OpR _ (binaryOp .Add) (rOpW K R.C "add" (spAddX K R.C R.cG R.cW) E2) from op_W (op := .Add) X.sf X.mA.at_ X.mA.fn X.rA (.inl rfl) GAd (hr2.mono (by decide)) X.bA (passNk (L2N.takes_of rfl rfl rfl rfl))) (pv 1) (pe_make X.M GI (hr2.mono (by decide)) rfl X.T.gC X.bI .nil pass0 (pa_cons pe_str pa_nil)))) (pe_lst (pa_cons pe_str (pa_cons (pe_call GF hr7 rfl D'.face.g D'.face.kp D'.face.b .nil pass0 (pa_cons (pe_make X.M GI hr3 rfl X.T.gC X.bI .nil pass0 (pa_cons pe_str pa_nil)) pa_nil)) pa_nil))) (nomark _)) (pss_one ps_never) pss_nil)
    (pss_cons (ps_if (PW.pt (pw_or (pt_cmpR (op_neD hr.units) (pe_heard (T := [(Pt2, qLim), (Pt, qLam)]) (TT := TTR K R) (k := 7) (Ng := NH) (a := "_law_act") (by rfl) D'.heard.g D'.heard.kp lkH cdH bH scHe rfl (.inl rfl) (hears_ring D'.face ZT FC X ME (by decide)) TB rfl List.mem_cons_self one hr (lamS_by (show lamSB (defScope sLimit) _ = true by decide +kernel)) rfl (fun _ _ _ _ _ => rfl)
          (fun A2 outer2 s2 H2 E2 f2 c2 hr2 => pe_op (show OpR _ (binaryOp .Mult) (rOpW K R.C "mul" (spMulX R.C R.cN R.cW) E2) from op_W (op := .Mult) X.sf X.mM.at_ X.mM.fn X.rM (.inl rfl) GMu (hr2.mono (by decide)) X.bM (passNk (L2N.takes_of rfl rfl rfl rfl))) (pe_make X.M GI (hr2.mono (by decide)) rfl X.T.gC X.bI .nil pass0 (pa_cons pe_str pa_nil)) pe_int)) (pe_lst (pa_cons pe_str (pa_cons (pe_call GF hr7 rfl D'.face.g D'.face.kp D'.face.b .nil pass0 (pa_cons pe_non pa_nil)) pa_nil))) (nomark _)) (pw_or1 (pt_cmpR op_ne (pe_callB (call_lenO X.mL GLn hr2' X.bL pass0) (by rfl) Z.len PySem.boot_len (pa_cons (pe_op (show OpR _ (binaryOp .Add) (rOpW K R.C "add" (spAddG R.C) E0) from op_W (op := .Add) X.sf X.mA.at_ X.mA.fn X.rA (.inl rfl) GAg hr4 X.bA pass0) (pv 1) (pe_make X.M GI hr3 rfl X.T.gC X.bI .nil pass0 (pa_cons pe_str pa_nil))) pa_nil)) pe_int (nomark _))))) (pss_one ps_never) pss_nil)
    (pss_one (ps_ret (pe_and (pe_cmpR op_eq (pe_callB (call_lenO X.mL GLn hr2' X.bL pass0) (by rfl) Z.len PySem.boot_len (pa_cons (pe_op (show OpR _ (binaryOp .Mult) (rOpW K R.C "mul" (spMulG R.C) E0) from op_W (op := .Mult) X.sf X.mM.at_ X.mM.fn X.rM (.inl rfl) GMg hr4 X.bM pass0) (pe_make X.M GI hr3 rfl X.T.gC X.bI .nil pass0 (pa_cons pe_str pa_nil)) pe_int) pa_nil)) pe_int (nomark _)) (pe_one (pe_cmpR (op_eqD hr.units) (pe_heard (T := [(Pt2, qLim), (Pt, qLam)]) (TT := TTR K R) (k := 7) (Ng := NH) (a := "_law_act") (by rfl) D'.heard.g D'.heard.kp lkH cdH bH scHe rfl (.inl rfl) (hears_ring D'.face ZT FC X ME (by decide)) TB rfl List.mem_cons_self one hr (lamS_by (show lamSB (defScope sLimit) _ = true by decide +kernel)) rfl (fun _ _ _ _ _ => rfl)
          (fun A2 outer2 s2 H2 E2 f2 c2 hr2 => pe_op (show OpR _ (binaryOp .Mult) (rOpW K R.C "mul" (spMulX R.C R.cN R.cW) E2) from op_W (op := .Mult) X.sf X.mM.at_ X.mM.fn X.rM (.inl rfl) GMu (hr2.mono (by decide)) X.bM (passNk (L2N.takes_of rfl rfl rfl rfl))) (pe_make X.M GI (hr2.mono (by decide)) rfl X.T.gC X.bI .nil pass0 (pa_cons pe_str pa_nil)) pe_int)) (pe_lst (pa_cons pe_str (pa_cons (pe_call GF hr7 rfl D'.face.g D'.face.kp D'.face.b .nil pass0 (pa_cons pe_int pa_nil)) pa_nil))) (nomark _)))))))))), ?_⟩
  have w300 : IsW (abN 300) := abN_w (by decide) (by decide)
  have w299 : IsW (abN 299) := abN_w (by decide) (by decide)
  have e300 : Txt.mul (Str.ofString "ab") 300 = S (abN 300) := abN_mul 300
  have e299 : Txt.mul (Str.ofString "ab") 299 = S (abN 299) := abN_mul 299
  have l300 : (abN 300).length = 600 := abN_len 300
  have l299 : (abN 299).length = 598 := abN_len 299
  have ab2 : (Str.ofString "ab").length = 2 := by decide +kernel
  refine ⟨_, _, rfl, rfl, mulOk (by decide) (by rw [ab2]; decide) (by decide), fun r dxr hr0 hdr ner => ⟨H, r, dxr, abN 300, by rw [e300] <;> rfl, w300, Same.new' (Same.new' (Same.refl H) hdr) hr0, hr0, upd_same, fun H1 s1 R1 => ⟨rfl, ?_⟩⟩⟩
  refine ⟨_, _, rfl, rfl, mulOk (by decide) (by rw [ab2]; decide) (by decide), fun q dxq hq0 hdq neq => ⟨H1, q, dxq, abN 299, by rw [e299] <;> rfl, w299, Same.new' (Same.new' (Same.refl H1) hdq) hq0, hq0, upd_same, fun H2 s2 M2 => ⟨rfl, ?_⟩⟩⟩
  refine ⟨by show 2 ≤ sizeLine; decide, fun T hT => ?_⟩
  have s3 := Same.put (o := .tup [.ref r, .ref q]) (Same.refl H2) hT
  have hT3 : (L2.upd H2 T (.tup [.ref r, .ref q])) T = some (.tup [.ref r, .ref q]) := upd_same
  generalize L2.upd H2 T (.tup [.ref r, .ref q]) = H3 at s3 hT3 ⊢
  refine ⟨T, _, rfl, SqT.of hT3, rfl, _, _, rfl, _, _, rfl, rfl, ?_⟩
  have A3 := (R1.same s2).same s3
  have M3 := M2.same s3
  have x03 : Xt H H3 := Xt.of ((s1.trans s2).trans s3)
  have tb3 := Tabs.ext tabs0 ((s1.trans s2).trans s3)
  clear hT3 hT s3 M2 s2 R1 s1 hr0 hdr ner hq0 hdq neq
  -- less + Ring('ba')
  refine ⟨tb3, fun H4 x4 tb4 => ?_⟩
  have A4 := RingAt.xt A3 (Xt.ext x4)
  have M4 := RingAt.xt M3 (Xt.ext x4)
  obtain ⟨_, dM, hM⟩ := id M4
  have wba : IsW [98, 97] := ⟨by unfold Low; decide, by decide, by decide⟩
  have eba : Str.ofString "ba" = S [98, 97] := by decide +kernel
  refine .inl ⟨fun E' k' good => ⟨_, rfl, fun o dxo ho hdo neo => ⟨H4, o, dxo, [98, 97], by rw [eba] <;> rfl, wba, Same.new' (Same.new' (Same.refl H4) hdo) ho, ho, upd_same, fun H5 s5 O5 => ⟨rfl, q, dM, _, rfl, s5 _ _ hM, .inr (.inl ?_), q, abN 299, .ref o, rfl, M4.same s5, .inl ⟨o, [98, 97], rfl, O5, fun _ y n H' _ _ s' => good _ H' (s5.trans s'), fun b => absurd b (by rw [l299]; decide)⟩⟩⟩⟩, fun aB HB nB sB dpB => ?_⟩
  · obtain ⟨_, dO, hO⟩ := id O5
    exact ⟨o, dO, _, rfl, hO⟩
  refine .inl ⟨.non, plainD .none, rfl, .inl .non, fun fC HC nC sC dpC => ⟨by show 2 ≤ sizeLine; decide, fun L hL => ?_⟩⟩
  have sL := Same.put (o := .lst [.str "nothing", .ref fC]) (Same.refl HC) hL
  refine heard_due (Dp.stay (sC.trans sL) (Dp.stay New.sub dpB)) (.lst (SqL.of upd_same) (.cons (.str _) (.cons (Dp.stay sL (Dp.stay New.sub dpC)) .nil))) ⟨by decide +kernel, by decide +kernel⟩ ⟨_, rfl, iteF ?_⟩
  have X4 : Xt H3 (L2.upd HC L (.lst [.str "nothing", .ref fC])) := (Xt.ext x4).trans (Xt.of ((sB.trans sC).trans sL))
  have A5 := RingAt.xt A3 X4
  have M5 := RingAt.xt M3 X4
  have tb5 := Tabs.ext tb4 ((sB.trans sC).trans sL)
  clear x4 tb4 A4 M4 hM sB sC sL dpB dpC nB nC hL A3 M3 tb3
  -- long + Ring('c')
  refine ⟨tb5, fun H6 x6 tb6 => ?_⟩
  have A6 := RingAt.xt A5 (Xt.ext x6)
  obtain ⟨_, dR, hR⟩ := id A6
  have wc : IsW [99] := ⟨by unfold Low; decide, by decide, by decide⟩
  have ec : Str.ofString "c" = S [99] := by decide +kernel
  refine .inr (.inr (.inl ⟨R.cW, "word", [99], .inl ⟨rfl, rfl⟩, fun E' k' fails => ⟨_, rfl, fun o dxo ho hdo neo => ⟨H6, o, dxo, [99], by rw [ec] <;> rfl, wc, Same.new' (Same.new' (Same.refl H6) hdo) ho, ho, upd_same, fun H7 s7 O7 => ⟨rfl, r, dR, _, rfl, s7 _ _ hR, .inr (.inl ?_), r, abN 300, .ref o, rfl, A6.same s7, .inl ⟨o, [99], rfl, O7, fun b => absurd b (by rw [l300]; decide), fun _ => fails o H7 s7 O7⟩⟩⟩⟩, fun o HB sB OB aB fB HC nf sC hC1 hC2 => ?_⟩))
  · obtain ⟨_, dO, hO⟩ := id O7
    exact ⟨o, dO, _, rfl, hO⟩
  refine fun o2 dx2 ho2 hd2 ne2 => ⟨HC, o2, dx2, [99], by rw [ec] <;> rfl, wc, Same.new' (Same.new' (Same.refl HC) hd2) ho2, ho2, upd_same, fun HD sD OD => ⟨rfl, ?_⟩⟩
  obtain ⟨_, dO2, hO2⟩ := id OD
  obtain ⟨_, dO1, hO1⟩ := id (OB.same sC)
  refine .inr ⟨o2, dO2, _, rfl, hO2, fun fD HE nD sE hE => ⟨by show 2 ≤ sizeLine; decide, fun L hL => ?_⟩⟩
  have sL := Same.put (o := .lst [.str "word", .ref fD]) (Same.refl HE) hL
  have sEL := sE.trans sL
  have sCL := sD.trans sEL
  refine ⟨aB, L, fB, fD, o, o2, dO1, dO2, _, _, _, _, rfl, rfl, sCL _ _ hC1, upd_same, sCL _ _ hC2, keepA hE hL, sCL _ _ hO1, sEL _ _ hO2, ne_of_none (sD _ _ hC2) nD, ne_of_none hO1 ho2, o, o2, [99], rfl, (OB.same sC).same sCL, OD.same sEL, rfl, Same.refl _, ⟨_, rfl, iteF ?_⟩⟩
  have X6 : Xt _ (L2.upd HE L (.lst [.str "word", .ref fD])) := (Xt.ext x6).trans (Xt.of (sB.trans (sC.trans sCL)))
  have A7 := RingAt.xt A5 X6
  have M7 := RingAt.xt M5 X6
  have tb7 := Tabs.ext tb6 (sB.trans (sC.trans sCL))
  clear x6 tb6 A6 hR sB OB nf sC hC1 hC2 sD OD hO2 hO1 nD sE hE hL sL sEL sCL A5 M5 tb5 ho2 hd2 ne2
  -- less + Ring('abc')
  refine ⟨tb7, fun H8 x8 tb8 => ?_⟩
  have M8 := RingAt.xt M7 (Xt.ext x8)
  obtain ⟨_, dM8, hM8⟩ := id M8
  have wabc : IsW [97, 98, 99] := ⟨by unfold Low; decide, by decide, by decide⟩
  have eabc : Str.ofString "abc" = S [97, 98, 99] := by decide +kernel
  refine .inr (.inr (.inl ⟨R.cW, "word", [97, 98, 99], .inl ⟨rfl, rfl⟩, fun E' k' fails => ⟨_, rfl, fun o dxo ho hdo neo => ⟨H8, o, dxo, [97, 98, 99], by rw [eabc] <;> rfl, wabc, Same.new' (Same.new' (Same.refl H8) hdo) ho, ho, upd_same, fun H7 s7 O7 => ⟨rfl, q, dM8, _, rfl, s7 _ _ hM8, .inr (.inl ?_), q, abN 299, .ref o, rfl, M8.same s7, .inl ⟨o, [97, 98, 99], rfl, O7, fun b => absurd b (by rw [l299]; decide), fun _ => fails o H7 s7 O7⟩⟩⟩⟩, fun o HB sB OB aB fB HC nf sC hC1 hC2 => ?_⟩))
  · obtain ⟨_, dO, hO⟩ := id O7
    exact ⟨o, dO, _, rfl, hO⟩
  refine fun o2 dx2 ho2 hd2 ne2 => ⟨HC, o2, dx2, [97, 98, 99], by rw [eabc] <;> rfl, wabc, Same.new' (Same.new' (Same.refl HC) hd2) ho2, ho2, upd_same, fun HD sD OD => ⟨rfl, ?_⟩⟩
  obtain ⟨_, dO2, hO2⟩ := id OD
  obtain ⟨_, dO1, hO1⟩ := id (OB.same sC)
  refine .inr ⟨o2, dO2, _, rfl, hO2, fun fD HE nD sE hE => ⟨by show 2 ≤ sizeLine; decide, fun L hL => ?_⟩⟩
  have sL := Same.put (o := .lst [.str "word", .ref fD]) (Same.refl HE) hL
  have sEL := sE.trans sL
  have sCL := sD.trans sEL
  refine ⟨aB, L, fB, fD, o, o2, dO1, dO2, _, _, _, _, rfl, rfl, sCL _ _ hC1, upd_same, sCL _ _ hC2, keepA hE hL, sCL _ _ hO1, sEL _ _ hO2, ne_of_none (sD _ _ hC2) nD, ne_of_none hO1 ho2, o, o2, [97, 98, 99], rfl, (OB.same sC).same sCL, OD.same sEL, rfl, Same.refl _, ⟨_, rfl, iteF ?_⟩⟩
  have X8 : Xt _ (L2.upd HE L (.lst [.str "word", .ref fD])) := (Xt.ext x8).trans (Xt.of (sB.trans (sC.trans sCL)))
  have A9 := RingAt.xt A7 X8
  have M9 := RingAt.xt M7 X8
  have tb9 := Tabs.ext tb8 (sB.trans (sC.trans sCL))
  have x09 : Xt H _ := (((x03.trans X4).trans X6).trans X8)
  clear x8 tb8 sB OB nf sC hC1 hC2 sD OD hO2 hO1 nD sE hE hL sL sEL sCL X8 A7 M7 tb7 ho2 hd2 ne2 M8 hM8
  -- Ring('ab') * 300
  refine ⟨tb9, fun Ha xa tba => ?_⟩
  have wab : IsW [97, 98] := ⟨by unfold Low; decide, by decide, by decide⟩
  have eab : Str.ofString "ab" = S [97, 98] := by decide +kernel
  have Ma := RingAt.xt M9 (Xt.ext xa)
  refine .inl ⟨fun E' k' good => fun o dxo ho hdo neo => ⟨Ha, o, dxo, [97, 98], by rw [eab] <;> rfl, wab, Same.new' (Same.new' (Same.refl Ha) hdo) ho, ho, upd_same, fun Hb sb Ob => ⟨rfl, ?_⟩⟩, fun aB HB nB sB dpB => ?_⟩
  · obtain ⟨_, dO, hO⟩ := id Ob
    obtain ⟨en, hn⟩ : ∃ d, Any o Hb (.int 300) d := Val.int (by decide +kernel)
    exact ⟨o, dO, _, rfl, hO, .inl ⟨"int", .base (.int 300), G.o "mul" _ (.inl rfl) (by simp)⟩, o, o, [97, 98], .int 300, en, rfl, Ob, hn, fun _ q m' H' _ _ s' => good _ H' (sb.trans s'), (fun e => absurd e (by decide)), (fun e => absurd e (by decide))⟩
  refine .inl ⟨.non, plainD .none, rfl, .inl .non, fun fC HC nC sC dpC => ⟨by show 2 ≤ sizeLine; decide, fun L hL => ?_⟩⟩
  have sL := Same.put (o := .lst [.str "nothing", .ref fC]) (Same.refl HC) hL
  refine heard_due (Dp.stay (sC.trans sL) (Dp.stay New.sub dpB)) (.lst (SqL.of upd_same) (.cons (.str _) (.cons (Dp.stay sL (Dp.stay New.sub dpC)) .nil))) ⟨by decide +kernel, by decide +kernel⟩ ⟨_, rfl, iteF ?_⟩
  have Xb : Xt _ (L2.upd HC L (.lst [.str "nothing", .ref fC])) := (Xt.ext xa).trans (Xt.of ((sB.trans sC).trans sL))
  have Mb := RingAt.xt M9 Xb
  have tbb := Tabs.ext tba ((sB.trans sC).trans sL)
  have x0b := x09.trans Xb
  generalize L2.upd HC L (.lst [.str "nothing", .ref fC]) = Hc at Mb tbb x0b ⊢
  clear xa tba sB sC sL dpB dpC nB nC hL Xb M9 tb9 x09 Ma
  -- len(less + Ring('ba'))
  obtain ⟨_, dMb, hMb⟩ := id Mb
  refine ⟨_, rfl, fun o2 dx2 ho2 hd2 ne2 => ⟨Hc, o2, dx2, [98, 97], by rw [eba] <;> rfl, wba, Same.new' (Same.new' (Same.refl Hc) hd2) ho2, ho2, upd_same, fun HD sD OD => ⟨rfl, q, dMb, _, rfl, sD _ _ hMb, .inr (.inl ?_), q, abN 299, o2, [98, 97], rfl, Mb.same sD, OD, by rw [l299]; decide, fun y n HE len Y sE => ?_⟩⟩⟩
  · obtain ⟨_, dO2, hO2⟩ := id OD
    exact ⟨o2, dO2, _, rfl, hO2⟩
  have len6 : n.length = 600 := by rw [len, l299] <;> rfl
  obtain ⟨_, dY, hY⟩ := id Y
  refine ⟨y, dY, _, rfl, hY, y, n, rfl, Y, _, rfl, by omega, by omega, ?_⟩
  refine ⟨rfl, false, congrArg V.bl ?_, iteF ?_⟩
  · rw [len6]
    decide +kernel
  obtain ⟨d301, hd301⟩ : ∃ d, d = plainD (.int 301) := ⟨_, rfl⟩
  have xE : Xt H HE := x0b.trans (Xt.of (sD.trans sE))
  have tbE := Tabs.ext tbb (sD.trans sE)
  clear Mb x0b tbb sD sE hMb ho2 hd2 ne2 OD
  -- the return
  refine fun o3 dx3 ho3 hd3 ne3 => ⟨HE, o3, dx3, [97, 98], by rw [eab] <;> rfl, wab, Same.new' (Same.new' (Same.refl HE) hd3) ho3, ho3, upd_same, fun HF sF OF => ⟨rfl, ?_⟩⟩
  obtain ⟨_, dO3, hO3⟩ := id OF
  obtain ⟨en, hn⟩ : ∃ d, Any o3 HF (.int 300) d := Val.int (by decide +kernel)
  refine ⟨o3, dO3, _, rfl, hO3, .inl ⟨"int", .base (.int 300), G.o "mul" _ (.inl rfl) (by simp)⟩, o3, o3, [97, 98], .int 300, en, rfl, OF, hn, by decide, fun y2 m HG lm Y2 sG => ?_⟩
  have lm6 : m.length = 600 := by
    have q := lm 300 rfl
    have e : (([97, 98] : List Nat).length : Int) * 300 = 600 := by decide
    rw [e] at q
    omega
  obtain ⟨_, dY2, hY2⟩ := id Y2
  refine ⟨y2, dY2, _, rfl, hY2, y2, m, rfl, Y2, _, rfl, by omega, by omega, ?_⟩
  have e6 : decide (V.int (m.length : Int) = V.int 600) = true := by
    rw [lm6]
    decide +kernel
  refine ⟨rfl, true, congrArg V.bl e6, iteT ?_⟩
  refine ⟨Tabs.ext tbE (sF.trans sG), fun Hz xz tbz => ?_⟩
  have th : Thing Hz 6 (.int 301) (plainD (.int 301)) := .inl (.int 301)
  refine .inr (.inl ⟨R.cW, "word", .int 301, plainD (.int 301), .inl ⟨rfl, rfl⟩, th, fun E' k' fails => fun o dxo ho hdo neo => ⟨Hz, o, dxo, [97, 98], by rw [eab] <;> rfl, wab, Same.new' (Same.new' (Same.refl Hz) hdo) ho, ho, upd_same, fun Hb sb Ob => ⟨rfl, ?_⟩⟩, fun aB HB nB sB dpB => ?_⟩)
  · obtain ⟨_, dO, hO⟩ := id Ob
    obtain ⟨en, hn⟩ : ∃ d, Any o Hb (.int 301) d := Val.int (by decide +kernel)
    exact ⟨o, dO, _, rfl, hO, .inl ⟨"int", .base (.int 301), G.o "mul" _ (.inl rfl) (by simp)⟩, o, o, [97, 98], .int 301, en, rfl, Ob, hn, (fun e => absurd e (by decide)), (fun e => absurd e (by decide)), fun _ => fails.later sb⟩
  refine .inl ⟨.int 301, plainD (.int 301), rfl, .inl (.int 301), fun fC HC nC sC dpC => ⟨by show 2 ≤ sizeLine; decide, fun L hL => ?_⟩⟩
  have sL := Same.put (o := .lst [.str "word", .ref fC]) (Same.refl HC) hL
  have okd : (PyData.list [.str "word", plainD (.int 301)]).canLay0 = true ∧ PyData.depth (PyData.list [.str "word", plainD (.int 301)]) ≤ 64 := ⟨by decide +kernel, by decide +kernel⟩
  refine ⟨_, _, Dp.stay (sC.trans sL) (Dp.stay New.sub dpB), .lst (SqL.of upd_same) (.cons (.str _) (.cons (Dp.stay sL (Dp.stay New.sub dpC)) .nil)), shaped_of okd.1 okd.2, shaped_of okd.1 okd.2, ?_⟩
  rw [SeqAt.eqv_refl _ okd.1]
  exact k _ ((xE.trans (Xt.of (sF.trans sG))).trans ((Xt.ext xz).trans (Xt.of ((sB.trans sC).trans sL)))) (Tabs.ext tbz ((sB.trans sC).trans sL))
end
end Wb
namespace Wb
open PySem L2 WbMin WbO WbS WbT Lz Le LamX
abbrev sLaw : Stmt := top 37
def spLawT (K : PySem.W.Frag) (Pt2 Pt : Addr) : Sp := fun vs H Q _ => ∃ (a : Addr) (ns : List Int), vs = [.ref a] ∧ SqL K H a (ns.map V.int) ∧ ns.length ≤ 63 ∧ Tabs [(Pt2, qLim), (Pt, qLam)] H ∧ ∀ H', Q (.bl true) H'
theorem SqL.noT {K : PySem.W.Frag} {H : Hp} {a : Addr} {xs : List V} (h : SqL K H a xs) : SqL K (noT H) a xs := by
  rcases h with (q | ⟨o, q⟩) | q
  · exact .inl (.inl (noT_at q (fun _ z => by cases z)))
  · exact .inl (.inr ⟨o, noT_at q (fun _ z => by cases z)⟩)
  · exact .inr q
theorem Tabs.put {T : List (Addr × Str)} {H : Hp} {L : Addr} {xs : List V} {o : HO} (t : Tabs T H) (h : H L = some (.lst xs)) : Tabs T (upd H L o) := fun y hy => by
  obtain ⟨ps, h1, h2, h3⟩ := t y hy
  have n1 : y.1 ≠ L := ne_of h1 h fun z => by cases z
  refine ⟨ps, (upd_ne n1).trans h1, h2, fun pos cv hc => ?_⟩
  obtain ⟨c, e1, e2⟩ := h3 pos cv hc
  exact ⟨c, e1, (upd_ne (ne_of e2 h fun z => by cases z)).trans e2⟩
theorem Tabs.new {T : List (Addr × Str)} {H : Hp} {L : Addr} {o : HO} (t : Tabs T H) (h : H L = none) : Tabs T (upd H L o) := fun y hy => by
  obtain ⟨ps, h1, h2, h3⟩ := t y hy
  refine ⟨ps, (upd_ne (ne_of_none h1 h)).trans h1, h2, fun pos cv hc => ?_⟩
  obtain ⟨c, e1, e2⟩ := h3 pos cv hc
  exact ⟨c, e1, (upd_ne (ne_of_none e2 h)).trans e2⟩
section
variable {P : Program} {w : World} {K : PySem.W.Frag} {mg : Str → Option Value} {base : Heap} {f fl c c2 Pt Pt2 : Addr} {fd fdl : FuncData} {R : RA} {D : DA}
theorem scLa : FnScope ["_law_script", "_law_k"] ["_law_script"] (defScope sLaw) := ⟨rfl, rfl, rfl, by decide +kernel, rfl, by decide +kernel, by decide +kernel⟩
theorem ok_law (F : Fun K "law" "law" sLaw f fd) (TB : TabB base mg c Pt) (FT : FunT K "_law_right" "_law_right" sRight D.right D.dright c) (TB2 : TabB base mg c2 Pt2) (FT2 : FunT K "_law_at_the_limit" "_law_at_the_limit" sLimit fl fdl c2) (nPt : Pt ≠ Pt2)
    (gL : mg "_law_at_the_limit" = some (.ref fl)) (kpL : PySem.W.keepIn K (.ref fl) = true) (bL : Binds K fdl [] [])
    (Z : Free mg) (ZT : FreeT mg) (X : RgX K mg R) (FC : FaceC K R.C) (ME : Takes4 K R) (G : OpsR K R.C)
    (D' : Defs K mg D) : FnOk P w K mg base CX0 11 f fd ["_law_script"] (spLawT K Pt2 Pt) := by
  have GC : FnOk P w K mg base CX0 1 D.cell D.dcell ["_law_script", "_law_k"] (spCell K) := ok_cell D'.cell.F Z.int Z.len
  have GP : FnOk P w K mg base CX0 1 D.pool D.dpool ["_law_cell_here"] spPool := ok_pool D'.pool.F Z.abs Z.int
  have GR : FnOk P w K mg base CX0 10 D.right D.dright ["_law_pool_here"] (spRightT c Pt) := ok_right FT TB Z ZT X FC ME G D'
  have GL : FnOk P w K mg base CX0 10 fl fdl [] (spLimT Pt2 Pt) := ok_limit FT2 TB2 nPt Z ZT X FC ME G D'
  refine F.ok scLa (fun vs H Q E h => ?_) (fun cdv A' outer s H vs Q E hr h => ?_)
  · obtain ⟨a, ns, rfl, _⟩ := h
    rfl
  · obtain ⟨a, ns, rfl, hS, hlen, tabs, k⟩ := h
    have hr1 : Room 1 _ := hr.mono (by decide)
    refine ⟨_, pss_cons (ps_if (pt_not (pt_val (pe_call0 GL hr rfl gL kpL bL .nil pass0))) (pss_one ps_never) pss_nil) (pss_one (ps_ret (pe_callB (cr_all rfl) (by rfl) Z.all (by decide +kernel) (pa_cons
      (pe_lc (own := [("_law_k", 1)]) (g := gName 1) (tt := tYes) rfl scLa.nd (pi_range1 rfl Z.range (pa_cons (pe_callB (call_max2 rfl) (by rfl) Z.max (by decide +kernel) (pa_cons pe_int (pa_cons
            (pe_callB (call_min2 rfl) (by rfl) Z.min (by decide +kernel) (pa_cons (pe_callB call_len_seq (by rfl) Z.len PySem.boot_len (pa_cons (pv 0) pa_nil)) (pa_cons pe_int pa_nil))) pa_nil))) pa_nil))
        (blkOk_by (N := ["_law_script", "_law_k"]) (sc := defScope sLaw) (by decide +kernel)) (fun _ _ _ _ _ => pg_name (i := 1) scLa.nd rfl (.inl rfl)) (fun _ _ _ _ _ => pts_nil)
        (fun _ _ _ _ _ => pe_call GR hr rfl D'.right.g D'.right.kp D'.right.b .nil pass0 (pa_cons (pe_call GP hr1 rfl D'.pool.g D'.pool.kp D'.pool.b .nil pass0 (pa_cons (pe_call GC hr1 rfl D'.cell.g D'.cell.kp D'.cell.b .nil pass0 (pa_cons (pv 0) (pa_cons (pv 1) pa_nil))) pa_nil)) pa_nil))) pa_nil)))), ?_⟩
    refine ⟨rfl, tabs, fun H0 x0 tabs0 => ⟨true, rfl, iteF ?_⟩⟩
    have hS0 := Same.seq x0 (SqL.noT hS)
    have tabs1 : Tabs [(Pt, qLam)] H0 := fun y hy => tabs0 y (List.mem_cons_of_mem _ hy)
    clear hS tabs tabs0 x0
    have few : (ns.map V.int).length ≤ 63 := by rw [List.length_map]; exact hlen
    have all2 : ∀ n : Nat, (List.replicate n true).all id = true := fun n => List.all_eq_true.mpr fun b hb => by rw [List.eq_of_mem_replicate hb] <;> rfl
    refine ⟨_, rfl, a, _, rfl, .inl hS0, _, _, rfl, _, _, rfl, _, rfl, ?_, ?_, fun L hL => lc_it walk_range (fun i H3 => H3 L = some (.lst ((List.replicate i true).map V.bl)) ∧ Xt H0 H3 ∧ Tabs [(Pt, qLam)] H3) ⟨upd_same, Xt.of (Same.put (Same.refl H0) hL), Tabs.new tabs1 hL⟩ (fun _ _ _ _ => trivial) ?_ ?_⟩
    · split <;> split <;> omega
    · split <;> split <;> omega
    · rintro i x H3 H3' hi ⟨h1, h2, h3⟩ ⟨rfl, rfl⟩
      have hi' : i < 8 := by
        have q := hi
        split at q <;> (try split at q) <;> omega
      refine ⟨rfl, _, rfl, _, rfl, a, ns, _, rfl, Same.seq h2 (SqL.noT hS0), hlen, by omega, by omega, fun n H4 s4 => ⟨_, rfl, fun p H5 np s5 hp => ⟨p, rfl, hp, Tabs.ext h3 (s4.trans s5), fun H6 b6 t6 => ?_⟩⟩⟩
      have h4 := s4 _ _ h1
      have s6 : Xt H0 H6 := fun b o e => by
        have q := s4 _ _ (h2 _ _ e)
        exact b6 b o (ne_of_none q np) (noT_at (s5 _ _ q) (noT_inv e).2)
      have hL6 := b6 L _ (ne_of_none h4 np) (noT_at (s5 _ _ h4) (fun _ z => by cases z))
      refine ⟨_, hL6, ?_, ?_, ?_, Tabs.put t6 hL6⟩
      · rw [List.length_map, List.length_replicate, sizeLine_eq]
        omega
      · rw [upd_same, List.replicate_succ', List.map_append] <;> rfl
      · exact fun b o e => by
          rw [upd_ne (ne_of_none (noT_inv e).1 hL)]
          exact s6 b o e
    · rintro H3 ⟨h1, h2, h3⟩
      refine ⟨L, _, rfl, SqL.of h1, ?_⟩
      rw [all2]
      exact k H3
end
end Wb
namespace Wb
open PySem L2 WbMin WbO WbT WbS Lz Le
theorem kit_own {K : PySem.W.Frag} {C : Addr} {t : String} (h1 : PySem.W.isClsIn K C = true) (h2 : PySem.W.typeIn K (.ref C) = some (.type "type")) (h3 : PySem.W.subIn K (.type t) (.ref C) = some false) : PySem.W.kitOne K (.type t) (.ref C) = some false := by
  unfold PySem.W.kitOne
  rw [if_neg (by intro z; have q := beq_iff_eq.mp z; cases q)]
  unfold PySem.W.kitCls
  show (if ((PySem.W.clsIn K C).isSome && PySem.W.typeIn K (.ref C) == some (.type "type")) = true then PySem.W.subIn K (.type t) (.ref C) else none) = some false
  have h1' : (PySem.W.clsIn K C).isSome = true := h1
  rw [h1', h2, h3, if_pos (by rw [Bool.true_and]; exact beq_iff_eq.mpr rfl)]
set_option maxHeartbeats 0 in
theorem all_mk {l : PySem.W.OpenLaw} {w : World} {K : PySem.W.Frag} {h : Heap} {mg : Str → Option Value} {fa C pT : Addr} {t6 : Tok} {rT : List Value} (X : K.In h) (G : h.Ns mainGlobals mg) (hfa : mg "law" = some (.ref fa))
    {f_cell f_pool f_draw f_face f_whole f_odd f_signs f_word f_long f_isword_l f_heard f_due f_spoilt f_spot f_spotdue f_timesdue f_right f_turns f_readr f_place f_isint f_isword f_limit f_law f_mI f_mT f_mU f_mG f_mM f_mA f_mE f_mL : Addr} {od_cell an_cell od_pool an_pool od_draw an_draw od_face an_face od_whole an_whole od_odd an_odd od_signs an_signs od_word an_word od_long an_long od_isword_l an_isword_l od_heard an_heard od_due an_due od_spoilt an_spoilt od_spot an_spot od_spotdue an_spotdue od_timesdue an_timesdue od_right an_right od_turns an_turns od_readr an_readr od_place an_place od_isint an_isint od_isword an_isword od_limit an_limit od_law an_law od_mI an_mI od_mT an_mT od_mU an_mU od_mG an_mG od_mM an_mM od_mA an_mA od_mE an_mE od_mL an_mL : Option Addr} {sl_cell sl_pool sl_draw sl_face sl_whole sl_odd sl_signs sl_word sl_long sl_isword_l sl_heard sl_due sl_spoilt sl_spot sl_spotdue sl_timesdue sl_right sl_turns sl_readr sl_place sl_isint sl_isword sl_limit sl_law sl_mI sl_mT sl_mU sl_mG sl_mM sl_mA sl_mE sl_mL : Array (Option Value)}
    {oc_cell kv_cell dc_cell pm_cell ct_cell cd_cell oc_pool kv_pool dc_pool pm_pool ct_pool cd_pool oc_draw kv_draw dc_draw pm_draw ct_draw cd_draw oc_face kv_face dc_face pm_face ct_face cd_face oc_whole kv_whole dc_whole pm_whole ct_whole cd_whole oc_odd kv_odd dc_odd pm_odd ct_odd cd_odd oc_signs kv_signs dc_signs pm_signs ct_signs cd_signs oc_word kv_word dc_word pm_word ct_word cd_word oc_long kv_long dc_long pm_long ct_long cd_long oc_isword_l kv_isword_l dc_isword_l pm_isword_l ct_isword_l cd_isword_l oc_heard kv_heard dc_heard pm_heard ct_heard cd_heard oc_due kv_due dc_due pm_due ct_due cd_due oc_spoilt kv_spoilt dc_spoilt pm_spoilt ct_spoilt cd_spoilt oc_spot kv_spot dc_spot pm_spot ct_spot cd_spot oc_spotdue kv_spotdue dc_spotdue pm_spotdue ct_spotdue cd_spotdue oc_timesdue kv_timesdue dc_timesdue pm_timesdue ct_timesdue cd_timesdue oc_right kv_right dc_right pm_right ct_right oc_turns kv_turns dc_turns pm_turns ct_turns cd_turns oc_readr kv_readr dc_readr pm_readr ct_readr cd_readr oc_place kv_place dc_place pm_place ct_place cd_place oc_isint kv_isint dc_isint pm_isint ct_isint cd_isint oc_isword kv_isword dc_isword pm_isword ct_isword cd_isword oc_limit kv_limit dc_limit pm_limit ct_limit oc_law kv_law dc_law pm_law ct_law cd_law oc_mI kv_mI dc_mI pm_mI ct_mI cd_mI oc_mT kv_mT dc_mT pm_mT ct_mT cd_mT oc_mU kv_mU dc_mU pm_mU ct_mU cd_mU oc_mG kv_mG dc_mG pm_mG ct_mG cd_mG oc_mM kv_mM dc_mM pm_mM ct_mM cd_mM oc_mA kv_mA dc_mA pm_mA ct_mA cd_mA oc_mE kv_mE dc_mE pm_mE ct_mE cd_mE oc_mL kv_mL dc_mL pm_mL ct_mL cd_mL : Value}
    {cRt PtR cLt PtL w0 : Addr}
    {oc_cR oc_cL : Value}
    {od_cR od_cL : Option Addr}
    {sl_cR sl_cL : Array (Option Value)}
    {vsR vsL : Array Value}
    {cW cN cP cG : Addr}
    {NW f_eW : Addr}
    {nmW qW : Str}
    {bsW suW : List Value}
    {snW : List Str}
    {abW : Bool}
    {coW : Option Bool}
    {ddW : Option Addr}
    {xW_0 xW_1 xW_2 xW_3 xW_5 : Option Value}
    {od_eW an_eW : Option Addr}
    {sl_eW : Array (Option Value)}
    {oc_eW kv_eW dc_eW pm_eW cd_eW ct_eW : Value}
    {NN f_eN : Addr}
    {nmN qN : Str}
    {bsN suN : List Value}
    {snN : List Str}
    {abN : Bool}
    {coN : Option Bool}
    {ddN : Option Addr}
    {xN_0 xN_1 xN_2 xN_3 xN_5 : Option Value}
    {od_eN an_eN : Option Addr}
    {sl_eN : Array (Option Value)}
    {oc_eN kv_eN dc_eN pm_eN cd_eN ct_eN : Value}
    {NP f_eP : Addr}
    {nmP qP : Str}
    {bsP suP : List Value}
    {snP : List Str}
    {abP : Bool}
    {coP : Option Bool}
    {ddP : Option Addr}
    {xP_0 xP_1 xP_2 xP_3 xP_5 : Option Value}
    {od_eP an_eP : Option Addr}
    {sl_eP : Array (Option Value)}
    {oc_eP kv_eP dc_eP pm_eP cd_eP ct_eP : Value}
    {NG f_eG : Addr}
    {nmG qG : Str}
    {bsG suG : List Value}
    {snG : List Str}
    {abG : Bool}
    {coG : Option Bool}
    {ddG : Option Addr}
    {xG_0 xG_1 xG_2 xG_3 xG_5 : Option Value}
    {od_eG an_eG : Option Addr}
    {sl_eG : Array (Option Value)}
    {oc_eG kv_eG dc_eG pm_eG cd_eG ct_eG : Value}
    {om_mul_NoneType or_mul_NoneType : Option Value}
    {om_add_NoneType or_add_NoneType : Option Value}
    {om_mul_bool or_mul_bool : Option Value}
    {om_add_bool or_add_bool : Option Value}
    {om_mul_int or_mul_int : Option Value}
    {om_add_int or_add_int : Option Value}
    {om_mul_str or_mul_str : Option Value}
    {om_add_str or_add_str : Option Value}
    {om_mul_list or_mul_list : Option Value}
    {om_add_list or_add_list : Option Value}
    {om_mul_tuple or_mul_tuple : Option Value}
    {om_add_tuple or_add_tuple : Option Value}
    {om_mul_dict or_mul_dict : Option Value}
    {om_add_dict or_add_dict : Option Value}
    (a_cell : PySem.W.nsIn K mainGlobals "_law_cell" = some (some (.ref f_cell)))
    (l_cell : K.lookup f_cell = some ⟨oc_cell, od_cell, .func (PySem.W.fnOf "_law_cell" "_law_cell" (defArgs sCell) (defBody sCell) (defScope sCell) .none kv_cell dc_cell pm_cell an_cell cd_cell ct_cell), sl_cell⟩)
    (c_cell : PySem.W.codeIn K cd_cell "_law_cell" = true)
    (k_cell : PySem.W.keepIn K (.ref f_cell) = true)
    (a_pool : PySem.W.nsIn K mainGlobals "_law_pool" = some (some (.ref f_pool)))
    (l_pool : K.lookup f_pool = some ⟨oc_pool, od_pool, .func (PySem.W.fnOf "_law_pool" "_law_pool" (defArgs sPool) (defBody sPool) (defScope sPool) .none kv_pool dc_pool pm_pool an_pool cd_pool ct_pool), sl_pool⟩)
    (c_pool : PySem.W.codeIn K cd_pool "_law_pool" = true)
    (k_pool : PySem.W.keepIn K (.ref f_pool) = true)
    (a_draw : PySem.W.nsIn K mainGlobals "_law_draw" = some (some (.ref f_draw)))
    (l_draw : K.lookup f_draw = some ⟨oc_draw, od_draw, .func (PySem.W.fnOf "_law_draw" "_law_draw" (defArgs sDraw) (defBody sDraw) (defScope sDraw) .none kv_draw dc_draw pm_draw an_draw cd_draw ct_draw), sl_draw⟩)
    (c_draw : PySem.W.codeIn K cd_draw "_law_draw" = true)
    (k_draw : PySem.W.keepIn K (.ref f_draw) = true)
    (a_face : PySem.W.nsIn K mainGlobals "_law_face" = some (some (.ref f_face)))
    (l_face : K.lookup f_face = some ⟨oc_face, od_face, .func (PySem.W.fnOf "_law_face" "_law_face" (defArgs sFace) (defBody sFace) (defScope sFace) .none kv_face dc_face pm_face an_face cd_face ct_face), sl_face⟩)
    (c_face : PySem.W.codeIn K cd_face "_law_face" = true)
    (k_face : PySem.W.keepIn K (.ref f_face) = true)
    (a_whole : PySem.W.nsIn K mainGlobals "_law_whole" = some (some (.ref f_whole)))
    (l_whole : K.lookup f_whole = some ⟨oc_whole, od_whole, .func (PySem.W.fnOf "_law_whole" "_law_whole" (defArgs sLWhole) (defBody sLWhole) (defScope sLWhole) .none kv_whole dc_whole pm_whole an_whole cd_whole ct_whole), sl_whole⟩)
    (c_whole : PySem.W.codeIn K cd_whole "_law_whole" = true)
    (k_whole : PySem.W.keepIn K (.ref f_whole) = true)
    (a_odd : PySem.W.nsIn K mainGlobals "_law_odd" = some (some (.ref f_odd)))
    (l_odd : K.lookup f_odd = some ⟨oc_odd, od_odd, .func (PySem.W.fnOf "_law_odd" "_law_odd" (defArgs sLOdd) (defBody sLOdd) (defScope sLOdd) .none kv_odd dc_odd pm_odd an_odd cd_odd ct_odd), sl_odd⟩)
    (c_odd : PySem.W.codeIn K cd_odd "_law_odd" = true)
    (k_odd : PySem.W.keepIn K (.ref f_odd) = true)
    (a_signs : PySem.W.nsIn K mainGlobals "_law_signs" = some (some (.ref f_signs)))
    (l_signs : K.lookup f_signs = some ⟨oc_signs, od_signs, .func (PySem.W.fnOf "_law_signs" "_law_signs" (defArgs sSigns) (defBody sSigns) (defScope sSigns) .none kv_signs dc_signs pm_signs an_signs cd_signs ct_signs), sl_signs⟩)
    (c_signs : PySem.W.codeIn K cd_signs "_law_signs" = true)
    (k_signs : PySem.W.keepIn K (.ref f_signs) = true)
    (a_word : PySem.W.nsIn K mainGlobals "_law_word" = some (some (.ref f_word)))
    (l_word : K.lookup f_word = some ⟨oc_word, od_word, .func (PySem.W.fnOf "_law_word" "_law_word" (defArgs sWord) (defBody sWord) (defScope sWord) .none kv_word dc_word pm_word an_word cd_word ct_word), sl_word⟩)
    (c_word : PySem.W.codeIn K cd_word "_law_word" = true)
    (k_word : PySem.W.keepIn K (.ref f_word) = true)
    (a_long : PySem.W.nsIn K mainGlobals "_law_long" = some (some (.ref f_long)))
    (l_long : K.lookup f_long = some ⟨oc_long, od_long, .func (PySem.W.fnOf "_law_long" "_law_long" (defArgs sLong) (defBody sLong) (defScope sLong) .none kv_long dc_long pm_long an_long cd_long ct_long), sl_long⟩)
    (c_long : PySem.W.codeIn K cd_long "_law_long" = true)
    (k_long : PySem.W.keepIn K (.ref f_long) = true)
    (a_isword_l : PySem.W.nsIn K mainGlobals "_law_is_word" = some (some (.ref f_isword_l)))
    (l_isword_l : K.lookup f_isword_l = some ⟨oc_isword_l, od_isword_l, .func (PySem.W.fnOf "_law_is_word" "_law_is_word" (defArgs sRIsWord) (defBody sRIsWord) (defScope sRIsWord) .none kv_isword_l dc_isword_l pm_isword_l an_isword_l cd_isword_l ct_isword_l), sl_isword_l⟩)
    (c_isword_l : PySem.W.codeIn K cd_isword_l "_law_is_word" = true)
    (k_isword_l : PySem.W.keepIn K (.ref f_isword_l) = true)
    (a_heard : PySem.W.nsIn K mainGlobals "_law_heard" = some (some (.ref f_heard)))
    (l_heard : K.lookup f_heard = some ⟨oc_heard, od_heard, .func (PySem.W.fnOf "_law_heard" "_law_heard" (defArgs sHeard) (defBody sHeard) (defScope sHeard) .none kv_heard dc_heard pm_heard an_heard cd_heard ct_heard), sl_heard⟩)
    (c_heard : PySem.W.codeIn K cd_heard "_law_heard" = true)
    (k_heard : PySem.W.keepIn K (.ref f_heard) = true)
    (a_due : PySem.W.nsIn K mainGlobals "_law_due" = some (some (.ref f_due)))
    (l_due : K.lookup f_due = some ⟨oc_due, od_due, .func (PySem.W.fnOf "_law_due" "_law_due" (defArgs sRDue) (defBody sRDue) (defScope sRDue) .none kv_due dc_due pm_due an_due cd_due ct_due), sl_due⟩)
    (c_due : PySem.W.codeIn K cd_due "_law_due" = true)
    (k_due : PySem.W.keepIn K (.ref f_due) = true)
    (a_spoilt : PySem.W.nsIn K mainGlobals "_law_spoilt" = some (some (.ref f_spoilt)))
    (l_spoilt : K.lookup f_spoilt = some ⟨oc_spoilt, od_spoilt, .func (PySem.W.fnOf "_law_spoilt" "_law_spoilt" (defArgs sRSpoilt) (defBody sRSpoilt) (defScope sRSpoilt) .none kv_spoilt dc_spoilt pm_spoilt an_spoilt cd_spoilt ct_spoilt), sl_spoilt⟩)
    (c_spoilt : PySem.W.codeIn K cd_spoilt "_law_spoilt" = true)
    (k_spoilt : PySem.W.keepIn K (.ref f_spoilt) = true)
    (a_spot : PySem.W.nsIn K mainGlobals "_law_spot" = some (some (.ref f_spot)))
    (l_spot : K.lookup f_spot = some ⟨oc_spot, od_spot, .func (PySem.W.fnOf "_law_spot" "_law_spot" (defArgs sRSpot) (defBody sRSpot) (defScope sRSpot) .none kv_spot dc_spot pm_spot an_spot cd_spot ct_spot), sl_spot⟩)
    (c_spot : PySem.W.codeIn K cd_spot "_law_spot" = true)
    (k_spot : PySem.W.keepIn K (.ref f_spot) = true)
    (a_spotdue : PySem.W.nsIn K mainGlobals "_law_spot_due" = some (some (.ref f_spotdue)))
    (l_spotdue : K.lookup f_spotdue = some ⟨oc_spotdue, od_spotdue, .func (PySem.W.fnOf "_law_spot_due" "_law_spot_due" (defArgs sRSpotDue) (defBody sRSpotDue) (defScope sRSpotDue) .none kv_spotdue dc_spotdue pm_spotdue an_spotdue cd_spotdue ct_spotdue), sl_spotdue⟩)
    (c_spotdue : PySem.W.codeIn K cd_spotdue "_law_spot_due" = true)
    (k_spotdue : PySem.W.keepIn K (.ref f_spotdue) = true)
    (a_timesdue : PySem.W.nsIn K mainGlobals "_law_times_due" = some (some (.ref f_timesdue)))
    (l_timesdue : K.lookup f_timesdue = some ⟨oc_timesdue, od_timesdue, .func (PySem.W.fnOf "_law_times_due" "_law_times_due" (defArgs sRTimesDue) (defBody sRTimesDue) (defScope sRTimesDue) .none kv_timesdue dc_timesdue pm_timesdue an_timesdue cd_timesdue ct_timesdue), sl_timesdue⟩)
    (c_timesdue : PySem.W.codeIn K cd_timesdue "_law_times_due" = true)
    (k_timesdue : PySem.W.keepIn K (.ref f_timesdue) = true)
    (a_right : PySem.W.nsIn K mainGlobals "_law_right" = some (some (.ref f_right)))
    (l_right : K.lookup f_right = some ⟨oc_right, od_right, .func (PySem.W.fnOf "_law_right" "_law_right" (defArgs sRight) (defBody sRight) (defScope sRight) .none kv_right dc_right pm_right an_right (.ref cRt) ct_right), sl_right⟩)
    (c_right : PySem.W.codeIn K (.ref cRt) "_law_right" = true)
    (k_right : PySem.W.keepIn K (.ref f_right) = true)
    (a_turns : PySem.W.nsIn K mainGlobals "_all_turnings" = some (some (.ref f_turns)))
    (l_turns : K.lookup f_turns = some ⟨oc_turns, od_turns, .func (PySem.W.fnOf "_all_turnings" "_all_turnings" (defArgs sTurns) (defBody sTurns) (defScope sTurns) .none kv_turns dc_turns pm_turns an_turns cd_turns ct_turns), sl_turns⟩)
    (c_turns : PySem.W.codeIn K cd_turns "_all_turnings" = true)
    (k_turns : PySem.W.keepIn K (.ref f_turns) = true)
    (a_readr : PySem.W.nsIn K mainGlobals "_read_round" = some (some (.ref f_readr)))
    (l_readr : K.lookup f_readr = some ⟨oc_readr, od_readr, .func (PySem.W.fnOf "_read_round" "_read_round" (defArgs sReadR) (defBody sReadR) (defScope sReadR) .none kv_readr dc_readr pm_readr an_readr cd_readr ct_readr), sl_readr⟩)
    (c_readr : PySem.W.codeIn K cd_readr "_read_round" = true)
    (k_readr : PySem.W.keepIn K (.ref f_readr) = true)
    (a_place : PySem.W.nsIn K mainGlobals "_is_place_with_number" = some (some (.ref f_place)))
    (l_place : K.lookup f_place = some ⟨oc_place, od_place, .func (PySem.W.fnOf "_is_place_with_number" "_is_place_with_number" (defArgs sIsPlace) (defBody sIsPlace) (defScope sIsPlace) .none kv_place dc_place pm_place an_place cd_place ct_place), sl_place⟩)
    (c_place : PySem.W.codeIn K cd_place "_is_place_with_number" = true)
    (k_place : PySem.W.keepIn K (.ref f_place) = true)
    (a_isint : PySem.W.nsIn K mainGlobals "is_integer" = some (some (.ref f_isint)))
    (l_isint : K.lookup f_isint = some ⟨oc_isint, od_isint, .func (PySem.W.fnOf "is_integer" "is_integer" (defArgs sIsInt) (defBody sIsInt) (defScope sIsInt) .none kv_isint dc_isint pm_isint an_isint cd_isint ct_isint), sl_isint⟩)
    (c_isint : PySem.W.codeIn K cd_isint "is_integer" = true)
    (k_isint : PySem.W.keepIn K (.ref f_isint) = true)
    (a_isword : PySem.W.nsIn K mainGlobals "is_word" = some (some (.ref f_isword)))
    (l_isword : K.lookup f_isword = some ⟨oc_isword, od_isword, .func (PySem.W.fnOf "is_word" "is_word" (defArgs sIsWord) (defBody sIsWord) (defScope sIsWord) .none kv_isword dc_isword pm_isword an_isword cd_isword ct_isword), sl_isword⟩)
    (c_isword : PySem.W.codeIn K cd_isword "is_word" = true)
    (k_isword : PySem.W.keepIn K (.ref f_isword) = true)
    (a_limit : PySem.W.nsIn K mainGlobals "_law_at_the_limit" = some (some (.ref f_limit)))
    (l_limit : K.lookup f_limit = some ⟨oc_limit, od_limit, .func (PySem.W.fnOf "_law_at_the_limit" "_law_at_the_limit" (defArgs sLimit) (defBody sLimit) (defScope sLimit) .none kv_limit dc_limit pm_limit an_limit (.ref cLt) ct_limit), sl_limit⟩)
    (c_limit : PySem.W.codeIn K (.ref cLt) "_law_at_the_limit" = true)
    (k_limit : PySem.W.keepIn K (.ref f_limit) = true)
    (a_law : PySem.W.nsIn K mainGlobals "law" = some (some (.ref f_law)))
    (l_law : K.lookup f_law = some ⟨oc_law, od_law, .func (PySem.W.fnOf "law" "law" (defArgs sLaw) (defBody sLaw) (defScope sLaw) .none kv_law dc_law pm_law an_law cd_law ct_law), sl_law⟩)
    (c_law : PySem.W.codeIn K cd_law "law" = true)
    (k_law : PySem.W.keepIn K (.ref f_law) = true)
    (aC : PySem.W.nsIn K mainGlobals "Ring" = some (some (.ref C)))
    (a_mI : PySem.W.findIn K (.ref C) "__init__" = some (some (.ref f_mI)))
    (i_mI : PySem.W.isFn K (.ref f_mI) = true)
    (l_mI : K.lookup f_mI = some ⟨oc_mI, od_mI, .func (PySem.W.fnOf "__init__" "Ring.__init__" (defArgs sInit) (defBody sInit) (defScope sInit) .none kv_mI dc_mI pm_mI an_mI cd_mI ct_mI), sl_mI⟩)
    (c_mI : PySem.W.codeIn K cd_mI "Ring.__init__" = true)
    (k_mI : PySem.W.keepIn K (.ref f_mI) = true)
    (p_atT : PySem.W.findIn K (.ref C) "text" = some (some (.ref pT)))
    (p_getT : PySem.W.specialIn K (.ref pT) "__get__" = some (some (.builtin "property.__get__")))
    (p_takT : PySem.W.takesIn K (.ref pT) = some true)
    (p_recT : PySem.W.recIn K pT "property" = some (.ref f_mT :: rT))
    (l_mT : K.lookup f_mT = some ⟨oc_mT, od_mT, .func (PySem.W.fnOf "text" "Ring.text" (defArgs sText) (defBody sText) (defScope sText) .none kv_mT dc_mT pm_mT an_mT cd_mT ct_mT), sl_mT⟩)
    (c_mT : PySem.W.codeIn K cd_mT "Ring.text" = true)
    (k_mT : PySem.W.keepIn K (.ref f_mT) = true)
    (a_mU : PySem.W.findIn K (.ref C) "turned" = some (some (.ref f_mU)))
    (i_mU : PySem.W.isFn K (.ref f_mU) = true)
    (l_mU : K.lookup f_mU = some ⟨oc_mU, od_mU, .func (PySem.W.fnOf "turned" "Ring.turned" (defArgs sTurned) (defBody sTurned) (defScope sTurned) .none kv_mU dc_mU pm_mU an_mU cd_mU ct_mU), sl_mU⟩)
    (c_mU : PySem.W.codeIn K cd_mU "Ring.turned" = true)
    (k_mU : PySem.W.keepIn K (.ref f_mU) = true)
    (a_mG : PySem.W.findIn K (.ref C) "__getitem__" = some (some (.ref f_mG)))
    (i_mG : PySem.W.isFn K (.ref f_mG) = true)
    (l_mG : K.lookup f_mG = some ⟨oc_mG, od_mG, .func (PySem.W.fnOf "__getitem__" "Ring.__getitem__" (defArgs sGet) (defBody sGet) (defScope sGet) .none kv_mG dc_mG pm_mG an_mG cd_mG ct_mG), sl_mG⟩)
    (c_mG : PySem.W.codeIn K cd_mG "Ring.__getitem__" = true)
    (k_mG : PySem.W.keepIn K (.ref f_mG) = true)
    (a_mM : PySem.W.findIn K (.ref C) "__mul__" = some (some (.ref f_mM)))
    (i_mM : PySem.W.isFn K (.ref f_mM) = true)
    (l_mM : K.lookup f_mM = some ⟨oc_mM, od_mM, .func (PySem.W.fnOf "__mul__" "Ring.__mul__" (defArgs sMul) (defBody sMul) (defScope sMul) .none kv_mM dc_mM pm_mM an_mM cd_mM ct_mM), sl_mM⟩)
    (c_mM : PySem.W.codeIn K cd_mM "Ring.__mul__" = true)
    (k_mM : PySem.W.keepIn K (.ref f_mM) = true)
    (a_mA : PySem.W.findIn K (.ref C) "__add__" = some (some (.ref f_mA)))
    (i_mA : PySem.W.isFn K (.ref f_mA) = true)
    (l_mA : K.lookup f_mA = some ⟨oc_mA, od_mA, .func (PySem.W.fnOf "__add__" "Ring.__add__" (defArgs sAdd) (defBody sAdd) (defScope sAdd) .none kv_mA dc_mA pm_mA an_mA cd_mA ct_mA), sl_mA⟩)
    (c_mA : PySem.W.codeIn K cd_mA "Ring.__add__" = true)
    (k_mA : PySem.W.keepIn K (.ref f_mA) = true)
    (a_mE : PySem.W.findIn K (.ref C) "__eq__" = some (some (.ref f_mE)))
    (i_mE : PySem.W.isFn K (.ref f_mE) = true)
    (l_mE : K.lookup f_mE = some ⟨oc_mE, od_mE, .func (PySem.W.fnOf "__eq__" "Ring.__eq__" (defArgs sREq) (defBody sREq) (defScope sREq) .none kv_mE dc_mE pm_mE an_mE cd_mE ct_mE), sl_mE⟩)
    (c_mE : PySem.W.codeIn K cd_mE "Ring.__eq__" = true)
    (k_mE : PySem.W.keepIn K (.ref f_mE) = true)
    (a_mL : PySem.W.findIn K (.ref C) "__len__" = some (some (.ref f_mL)))
    (i_mL : PySem.W.isFn K (.ref f_mL) = true)
    (l_mL : K.lookup f_mL = some ⟨oc_mL, od_mL, .func (PySem.W.fnOf "__len__" "Ring.__len__" (defArgs sLen) (defBody sLen) (defScope sLen) .none kv_mL dc_mL pm_mL an_mL cd_mL ct_mL), sl_mL⟩)
    (c_mL : PySem.W.codeIn K cd_mL "Ring.__len__" = true)
    (k_mL : PySem.W.keepIn K (.ref f_mL) = true)
    (pg : PySem.W.plainGet K C Str.empty = true)
    (hd : PySem.W.hasDictIn K C = true)
    (po : PySem.W.plainOver K C = true)
    (sa : PySem.W.findIn K (.ref C) "__setattr__" = some (some (.builtin "object.__setattr__")))
    (mk : PySem.W.makesIn K C = true)
    (kc : PySem.W.keepIn K (.ref C) = true)
    (cc : PySem.W.findIn K (.ref C) "__class__" = some (some (.builtin "object.__class__")))
    (co : PySem.W.mroIn K C (.type "object") = some true)
    (nT : PySem.W.findIn K (.ref C) "_text" = some none)
    (nP_ : PySem.W.findIn K (.ref C) "_period" = some none)
    (cg : PySem.W.specialIn K (.builtin "object.__class__") "__get__" = some (some (.builtin "getset_descriptor.__get__")))
    (ct : PySem.W.takesIn K (.builtin "object.__class__") = some true)
    (g6 : PySem.W.nsIn K mainGlobals "MOST_WORD" = some (some (.int 600 t6)))
    (aXW : PySem.W.nsIn K mainGlobals "InvalidWord" = some (some (.ref cW)))
    (exW : PySem.W.subIn K (.ref cW) (.type "BaseException") = some true)
    (tyW : PySem.W.typeIn K (.ref cW) = some (.type "type"))
    (hdWx : PySem.W.hasDictIn K cW = true)
    (kcWx : PySem.W.keepIn K (.ref cW) = true)
    (gaW : PySem.W.findIn K (.ref cW) "__getattribute__" = some (some (.builtin "BaseException.__getattribute__")))
    (ggW : PySem.W.findIn K (.ref cW) "__getattr__" = some none)
    (noW : PySem.W.findIn K (.ref cW) "given" = some none)
    (xLW : K.lookup cW = some (excClassObj nmW qW cW NW bsW (.ref w0 :: [.type "ValueError", .type "Exception", .type "BaseException", .type "object"]) true snW suW abW coW ddW xW_0 xW_1 xW_2 xW_3 xW_5 "ValueError.__new__"))
    (saWx : PySem.W.findIn K (.ref cW) "__setattr__" = some (some (.builtin "object.__setattr__")))
    (iniW : PySem.W.findIn K (.ref cW) "__init__" = some (some (.ref f_eW)))
    (fnW : PySem.W.typeIn K (.ref f_eW) = some (.type "function"))
    (l_eW : K.lookup f_eW = some ⟨oc_eW, od_eW, .func (PySem.W.fnOf "__init__" "InvalidWord.__init__" (defArgs sErrInvalidWord) (defBody sErrInvalidWord) (defScope sErrInvalidWord) .none kv_eW dc_eW pm_eW an_eW cd_eW ct_eW), sl_eW⟩)
    (c_eW : PySem.W.codeIn K cd_eW "InvalidWord.__init__" = true)
    (k_eW : PySem.W.keepIn K (.ref f_eW) = true)
    (aXN : PySem.W.nsIn K mainGlobals "InvalidNumber" = some (some (.ref cN)))
    (exN : PySem.W.subIn K (.ref cN) (.type "BaseException") = some true)
    (tyN : PySem.W.typeIn K (.ref cN) = some (.type "type"))
    (hdNx : PySem.W.hasDictIn K cN = true)
    (kcNx : PySem.W.keepIn K (.ref cN) = true)
    (gaN : PySem.W.findIn K (.ref cN) "__getattribute__" = some (some (.builtin "BaseException.__getattribute__")))
    (ggN : PySem.W.findIn K (.ref cN) "__getattr__" = some none)
    (noN : PySem.W.findIn K (.ref cN) "given" = some none)
    (xLN : K.lookup cN = some (excClassObj nmN qN cN NN bsN (.ref w0 :: [.type "ValueError", .type "Exception", .type "BaseException", .type "object"]) true snN suN abN coN ddN xN_0 xN_1 xN_2 xN_3 xN_5 "ValueError.__new__"))
    (saNx : PySem.W.findIn K (.ref cN) "__setattr__" = some (some (.builtin "object.__setattr__")))
    (iniN : PySem.W.findIn K (.ref cN) "__init__" = some (some (.ref f_eN)))
    (fnN : PySem.W.typeIn K (.ref f_eN) = some (.type "function"))
    (l_eN : K.lookup f_eN = some ⟨oc_eN, od_eN, .func (PySem.W.fnOf "__init__" "InvalidNumber.__init__" (defArgs sErrInvalidNumber) (defBody sErrInvalidNumber) (defScope sErrInvalidNumber) .none kv_eN dc_eN pm_eN an_eN cd_eN ct_eN), sl_eN⟩)
    (c_eN : PySem.W.codeIn K cd_eN "InvalidNumber.__init__" = true)
    (k_eN : PySem.W.keepIn K (.ref f_eN) = true)
    (aXP : PySem.W.nsIn K mainGlobals "InvalidPlace" = some (some (.ref cP)))
    (exP : PySem.W.subIn K (.ref cP) (.type "BaseException") = some true)
    (tyP : PySem.W.typeIn K (.ref cP) = some (.type "type"))
    (hdPx : PySem.W.hasDictIn K cP = true)
    (kcPx : PySem.W.keepIn K (.ref cP) = true)
    (gaP : PySem.W.findIn K (.ref cP) "__getattribute__" = some (some (.builtin "BaseException.__getattribute__")))
    (ggP : PySem.W.findIn K (.ref cP) "__getattr__" = some none)
    (noP : PySem.W.findIn K (.ref cP) "given" = some none)
    (xLP : K.lookup cP = some (excClassObj nmP qP cP NP bsP (.ref w0 :: [.type "ValueError", .type "Exception", .type "BaseException", .type "object"]) true snP suP abP coP ddP xP_0 xP_1 xP_2 xP_3 xP_5 "ValueError.__new__"))
    (saPx : PySem.W.findIn K (.ref cP) "__setattr__" = some (some (.builtin "object.__setattr__")))
    (iniP : PySem.W.findIn K (.ref cP) "__init__" = some (some (.ref f_eP)))
    (fnP : PySem.W.typeIn K (.ref f_eP) = some (.type "function"))
    (l_eP : K.lookup f_eP = some ⟨oc_eP, od_eP, .func (PySem.W.fnOf "__init__" "InvalidPlace.__init__" (defArgs sErrInvalidPlace) (defBody sErrInvalidPlace) (defScope sErrInvalidPlace) .none kv_eP dc_eP pm_eP an_eP cd_eP ct_eP), sl_eP⟩)
    (c_eP : PySem.W.codeIn K cd_eP "InvalidPlace.__init__" = true)
    (k_eP : PySem.W.keepIn K (.ref f_eP) = true)
    (aXG : PySem.W.nsIn K mainGlobals "NotARing" = some (some (.ref cG)))
    (exG : PySem.W.subIn K (.ref cG) (.type "BaseException") = some true)
    (tyG : PySem.W.typeIn K (.ref cG) = some (.type "type"))
    (hdGx : PySem.W.hasDictIn K cG = true)
    (kcGx : PySem.W.keepIn K (.ref cG) = true)
    (gaG : PySem.W.findIn K (.ref cG) "__getattribute__" = some (some (.builtin "BaseException.__getattribute__")))
    (ggG : PySem.W.findIn K (.ref cG) "__getattr__" = some none)
    (noG : PySem.W.findIn K (.ref cG) "given" = some none)
    (xLG : K.lookup cG = some (excClassObj nmG qG cG NG bsG (.ref w0 :: [.type "ValueError", .type "Exception", .type "BaseException", .type "object"]) true snG suG abG coG ddG xG_0 xG_1 xG_2 xG_3 xG_5 "ValueError.__new__"))
    (saGx : PySem.W.findIn K (.ref cG) "__setattr__" = some (some (.builtin "object.__setattr__")))
    (iniG : PySem.W.findIn K (.ref cG) "__init__" = some (some (.ref f_eG)))
    (fnG : PySem.W.typeIn K (.ref f_eG) = some (.type "function"))
    (l_eG : K.lookup f_eG = some ⟨oc_eG, od_eG, .func (PySem.W.fnOf "__init__" "NotARing.__init__" (defArgs sErrNotARing) (defBody sErrNotARing) (defScope sErrNotARing) .none kv_eG dc_eG pm_eG an_eG cd_eG ct_eG), sl_eG⟩)
    (c_eG : PySem.W.codeIn K cd_eG "NotARing.__init__" = true)
    (k_eG : PySem.W.keepIn K (.ref f_eG) = true)
    (sWW : PySem.W.subIn K (.ref cW) (.ref cW) = some true)
    (sNW : PySem.W.subIn K (.ref cN) (.ref cW) = some false)
    (sNN : PySem.W.subIn K (.ref cN) (.ref cN) = some true)
    (sPW : PySem.W.subIn K (.ref cP) (.ref cW) = some false)
    (sPN : PySem.W.subIn K (.ref cP) (.ref cN) = some false)
    (sPP : PySem.W.subIn K (.ref cP) (.ref cP) = some true)
    (sGW : PySem.W.subIn K (.ref cG) (.ref cW) = some false)
    (sGN : PySem.W.subIn K (.ref cG) (.ref cN) = some false)
    (sGP : PySem.W.subIn K (.ref cG) (.ref cP) = some false)
    (sGG : PySem.W.subIn K (.ref cG) (.ref cG) = some true)
    (l_cR : K.lookup cRt = some ⟨oc_cR, od_cR, .fields vsR, sl_cR⟩)
    (v11 : (vsR[11]? : Option Value) = some (.ref PtR))
    (nP : K.lookup PtR = none)
    (l_cL : K.lookup cLt = some ⟨oc_cL, od_cL, .fields vsL, sl_cL⟩)
    (v11L : (vsL[11]? : Option Value) = some (.ref PtL))
    (nPL : K.lookup PtL = none)
    (nPt : PtR ≠ PtL)
    (sNP : PySem.W.subIn K (.ref cN) (.ref cP) = some false)
    (im_mul_NoneType : PySem.W.findIn K (.type "NoneType") "__mul__" = some om_mul_NoneType)
    (ir_mul_NoneType : PySem.W.findIn K (.type "NoneType") "__rmul__" = some or_mul_NoneType)
    (im_add_NoneType : PySem.W.findIn K (.type "NoneType") "__add__" = some om_add_NoneType)
    (ir_add_NoneType : PySem.W.findIn K (.type "NoneType") "__radd__" = some or_add_NoneType)
    (su_NoneType : PySem.W.subIn K (.type "NoneType") (.ref C) = some false)
    (im_mul_bool : PySem.W.findIn K (.type "bool") "__mul__" = some om_mul_bool)
    (ir_mul_bool : PySem.W.findIn K (.type "bool") "__rmul__" = some or_mul_bool)
    (im_add_bool : PySem.W.findIn K (.type "bool") "__add__" = some om_add_bool)
    (ir_add_bool : PySem.W.findIn K (.type "bool") "__radd__" = some or_add_bool)
    (su_bool : PySem.W.subIn K (.type "bool") (.ref C) = some false)
    (im_mul_int : PySem.W.findIn K (.type "int") "__mul__" = some om_mul_int)
    (ir_mul_int : PySem.W.findIn K (.type "int") "__rmul__" = some or_mul_int)
    (im_add_int : PySem.W.findIn K (.type "int") "__add__" = some om_add_int)
    (ir_add_int : PySem.W.findIn K (.type "int") "__radd__" = some or_add_int)
    (su_int : PySem.W.subIn K (.type "int") (.ref C) = some false)
    (im_mul_str : PySem.W.findIn K (.type "str") "__mul__" = some om_mul_str)
    (ir_mul_str : PySem.W.findIn K (.type "str") "__rmul__" = some or_mul_str)
    (im_add_str : PySem.W.findIn K (.type "str") "__add__" = some om_add_str)
    (ir_add_str : PySem.W.findIn K (.type "str") "__radd__" = some or_add_str)
    (su_str : PySem.W.subIn K (.type "str") (.ref C) = some false)
    (im_mul_list : PySem.W.findIn K (.type "list") "__mul__" = some om_mul_list)
    (ir_mul_list : PySem.W.findIn K (.type "list") "__rmul__" = some or_mul_list)
    (im_add_list : PySem.W.findIn K (.type "list") "__add__" = some om_add_list)
    (ir_add_list : PySem.W.findIn K (.type "list") "__radd__" = some or_add_list)
    (su_list : PySem.W.subIn K (.type "list") (.ref C) = some false)
    (im_mul_tuple : PySem.W.findIn K (.type "tuple") "__mul__" = some om_mul_tuple)
    (ir_mul_tuple : PySem.W.findIn K (.type "tuple") "__rmul__" = some or_mul_tuple)
    (im_add_tuple : PySem.W.findIn K (.type "tuple") "__add__" = some om_add_tuple)
    (ir_add_tuple : PySem.W.findIn K (.type "tuple") "__radd__" = some or_add_tuple)
    (su_tuple : PySem.W.subIn K (.type "tuple") (.ref C) = some false)
    (im_mul_dict : PySem.W.findIn K (.type "dict") "__mul__" = some om_mul_dict)
    (ir_mul_dict : PySem.W.findIn K (.type "dict") "__rmul__" = some or_mul_dict)
    (im_add_dict : PySem.W.findIn K (.type "dict") "__add__" = some om_add_dict)
    (ir_add_dict : PySem.W.findIn K (.type "dict") "__radd__" = some or_add_dict)
    (su_dict : PySem.W.subIn K (.type "dict") (.ref C) = some false)
    (icl : PySem.W.isClsIn K C = true)
    (tcl : PySem.W.typeIn K (.ref C) = some (.type "type"))
    (nf : PySem.W.notFirst K C (.ref C) = true)
    (sf : PySem.W.selfFirst K C = true)
    (rMu : PySem.W.findIn K (.ref C) "__rmul__" = some none)
    (rAd : PySem.W.findIn K (.ref C) "__radd__" = some none)
    (fG : PySem.W.fnIn K f_mG = true)
    (sR_tuple : PySem.W.subIn K (.ref C) (.type "tuple") = some false)
    (sR_list : PySem.W.subIn K (.ref C) (.type "list") = some false)
    (sR_dict : PySem.W.subIn K (.ref C) (.type "dict") = some false)
    (sR_bool : PySem.W.subIn K (.ref C) (.type "bool") = some false)
    (z_int : PySem.W.nsIn K mainGlobals "int" = some none)
    (z_len : PySem.W.nsIn K mainGlobals "len" = some none)
    (z_range : PySem.W.nsIn K mainGlobals "range" = some none)
    (z_divmod : PySem.W.nsIn K mainGlobals "divmod" = some none)
    (z_abs : PySem.W.nsIn K mainGlobals "abs" = some none)
    (z_isinstance : PySem.W.nsIn K mainGlobals "isinstance" = some none)
    (z_str : PySem.W.nsIn K mainGlobals "str" = some none)
    (z_all : PySem.W.nsIn K mainGlobals "all" = some none)
    (z_min : PySem.W.nsIn K mainGlobals "min" = some none)
    (z_max : PySem.W.nsIn K mainGlobals "max" = some none)
    (z_set : PySem.W.nsIn K mainGlobals "set" = some none)
    (z_bool : PySem.W.nsIn K mainGlobals "bool" = some none)
    (z_tuple : PySem.W.nsIn K mainGlobals "tuple" = some none)
    (z_list : PySem.W.nsIn K mainGlobals "list" = some none)
    (z_any : PySem.W.nsIn K mainGlobals "any" = some none)
    (z_enumerate : PySem.W.nsIn K mainGlobals "enumerate" = some none)
    (z_sorted : PySem.W.nsIn K mainGlobals "sorted" = some none)
    (z_dict : PySem.W.nsIn K mainGlobals "dict" = some none) :
    ∃ (fd : FuncData) (c Pt c2 Pt2 : Addr), K.lookup Pt = none ∧ K.lookup Pt2 = none ∧ PySem.W.tabIn K "_law_right" = some (c, Pt) ∧ PySem.W.tabIn K "_law_at_the_limit" = some (c2, Pt2) ∧ (∀ (s : Shared) (v : Value), BindsTo s fd ⟨[v], []⟩ [("_law_script", v)]) ∧ ∀ base : Heap, K.In base → base.Ns mainGlobals mg → LamX.TabB base mg c Pt → LamX.TabB base mg c2 Pt2 → FnOk l.prog w K mg base CX0 11 fa fd ["_law_script"] (spLawT K Pt2 Pt) := by
  have e := hfa.symm.trans (PySem.W.mg_of X G a_law)
  cases e
  have T : Txt K mg C := ⟨⟨pg, hd, po, sa⟩, nT, nP_, PySem.W.mg_of X G aC, cc, cg, ct, co⟩
  have Z_int := PySem.W.mg_none_of X G z_int
  have Z_len := PySem.W.mg_none_of X G z_len
  have Z_range := PySem.W.mg_none_of X G z_range
  have Z_divmod := PySem.W.mg_none_of X G z_divmod
  have Z_abs := PySem.W.mg_none_of X G z_abs
  have Z_isinstance := PySem.W.mg_none_of X G z_isinstance
  have Z_str := PySem.W.mg_none_of X G z_str
  have Z_all := PySem.W.mg_none_of X G z_all
  have Z_min := PySem.W.mg_none_of X G z_min
  have Z_max := PySem.W.mg_none_of X G z_max
  have Z_set := PySem.W.mg_none_of X G z_set
  have Z_bool := PySem.W.mg_none_of X G z_bool
  have Z_tuple := PySem.W.mg_none_of X G z_tuple
  have Z_list := PySem.W.mg_none_of X G z_list
  have Z_any := PySem.W.mg_none_of X G z_any
  have Z_enumerate := PySem.W.mg_none_of X G z_enumerate
  have Z_sorted := PySem.W.mg_none_of X G z_sorted
  have Z_dict := PySem.W.mg_none_of X G z_dict
  have Z : Free mg := ⟨Z_int, Z_len, Z_range, Z_divmod, Z_abs, Z_isinstance, Z_str, Z_all, Z_min, Z_max, Z_set, Z_bool⟩
  have F_cell := fun_mk (st := sCell) l_cell c_cell k_cell
  have b_cell := F_cell.binds (ps := ["_law_script", "_law_k"]) fun _ _ _ _ _ _ us hl => match us, hl with | [_, _], _ => rfl
  have D_cell : Def K mg "_law_cell" sCell ["_law_script", "_law_k"] f_cell _ := ⟨F_cell, PySem.W.mg_of X G a_cell, k_cell, b_cell⟩
  have F_pool := fun_mk (st := sPool) l_pool c_pool k_pool
  have b_pool := F_pool.binds (ps := ["_law_cell_here"]) fun _ _ _ _ _ _ us hl => match us, hl with | [_], _ => rfl
  have D_pool : Def K mg "_law_pool" sPool ["_law_cell_here"] f_pool _ := ⟨F_pool, PySem.W.mg_of X G a_pool, k_pool, b_pool⟩
  have F_draw := fun_mk (st := sDraw) l_draw c_draw k_draw
  have b_draw := F_draw.binds (ps := ["_law_pool_here", "_law_many"]) fun _ _ _ _ _ _ us hl => match us, hl with | [_, _], _ => rfl
  have D_draw : Def K mg "_law_draw" sDraw ["_law_pool_here", "_law_many"] f_draw _ := ⟨F_draw, PySem.W.mg_of X G a_draw, k_draw, b_draw⟩
  have F_face := fun_mk (st := sFace) l_face c_face k_face
  have b_face := F_face.binds (ps := ["_law_thing"]) fun _ _ _ _ _ _ us hl => match us, hl with | [_], _ => rfl
  have D_face : Def K mg "_law_face" sFace ["_law_thing"] f_face _ := ⟨F_face, PySem.W.mg_of X G a_face, k_face, b_face⟩
  have F_whole := fun_mk (st := sLWhole) l_whole c_whole k_whole
  have b_whole := F_whole.binds (ps := ["_law_thing"]) fun _ _ _ _ _ _ us hl => match us, hl with | [_], _ => rfl
  have D_whole : Def K mg "_law_whole" sLWhole ["_law_thing"] f_whole _ := ⟨F_whole, PySem.W.mg_of X G a_whole, k_whole, b_whole⟩
  have F_odd := fun_mk (st := sLOdd) l_odd c_odd k_odd
  have b_odd := F_odd.binds (ps := ["_law_pool_here"]) fun _ _ _ _ _ _ us hl => match us, hl with | [_], _ => rfl
  have D_odd : Def K mg "_law_odd" sLOdd ["_law_pool_here"] f_odd _ := ⟨F_odd, PySem.W.mg_of X G a_odd, k_odd, b_odd⟩
  have F_signs := fun_mk (st := sSigns) l_signs c_signs k_signs
  have b_signs := F_signs.binds (ps := ["_law_pool_here", "_law_most"]) fun _ _ _ _ _ _ us hl => match us, hl with | [_, _], _ => rfl
  have D_signs : Def K mg "_law_signs" sSigns ["_law_pool_here", "_law_most"] f_signs _ := ⟨F_signs, PySem.W.mg_of X G a_signs, k_signs, b_signs⟩
  have F_word := fun_mk (st := sWord) l_word c_word k_word
  have b_word := F_word.binds (ps := ["_law_pool_here", "_law_abc", "_law_most"]) fun _ _ _ _ _ _ us hl => match us, hl with | [_, _, _], _ => rfl
  have D_word : Def K mg "_law_word" sWord ["_law_pool_here", "_law_abc", "_law_most"] f_word _ := ⟨F_word, PySem.W.mg_of X G a_word, k_word, b_word⟩
  have F_long := fun_mk (st := sLong) l_long c_long k_long
  have b_long := F_long.binds (ps := ["_law_pool_here", "_law_most"]) fun _ _ _ _ _ _ us hl => match us, hl with | [_, _], _ => rfl
  have D_long : Def K mg "_law_long" sLong ["_law_pool_here", "_law_most"] f_long _ := ⟨F_long, PySem.W.mg_of X G a_long, k_long, b_long⟩
  have F_isword_l := fun_mk (st := sRIsWord) l_isword_l c_isword_l k_isword_l
  have b_isword_l := F_isword_l.binds (ps := ["_law_thing", "_law_abc"]) fun _ _ _ _ _ _ us hl => match us, hl with | [_, _], _ => rfl
  have D_isword_l : Def K mg "_law_is_word" sRIsWord ["_law_thing", "_law_abc"] f_isword_l _ := ⟨F_isword_l, PySem.W.mg_of X G a_isword_l, k_isword_l, b_isword_l⟩
  have F_heard := fun_mk (st := sHeard) l_heard c_heard k_heard
  have b_heard := F_heard.binds (ps := ["_law_act"]) fun _ _ _ _ _ _ us hl => match us, hl with | [_], _ => rfl
  have D_heard : Def K mg "_law_heard" sHeard ["_law_act"] f_heard _ := ⟨F_heard, PySem.W.mg_of X G a_heard, k_heard, b_heard⟩
  have F_due := fun_mk (st := sRDue) l_due c_due k_due
  have b_due := F_due.binds (ps := ["_law_word_here", "_law_thing"]) fun _ _ _ _ _ _ us hl => match us, hl with | [_, _], _ => rfl
  have D_due : Def K mg "_law_due" sRDue ["_law_word_here", "_law_thing"] f_due _ := ⟨F_due, PySem.W.mg_of X G a_due, k_due, b_due⟩
  have F_spoilt := fun_mk (st := sRSpoilt) l_spoilt c_spoilt k_spoilt
  have b_spoilt := F_spoilt.binds (ps := ["_law_pool_here", "_law_word_here"]) fun _ _ _ _ _ _ us hl => match us, hl with | [_, _], _ => rfl
  have D_spoilt : Def K mg "_law_spoilt" sRSpoilt ["_law_pool_here", "_law_word_here"] f_spoilt _ := ⟨F_spoilt, PySem.W.mg_of X G a_spoilt, k_spoilt, b_spoilt⟩
  have F_spot := fun_mk (st := sRSpot) l_spot c_spot k_spot
  have b_spot := F_spot.binds (ps := ["_law_pool_here"]) fun _ _ _ _ _ _ us hl => match us, hl with | [_], _ => rfl
  have D_spot : Def K mg "_law_spot" sRSpot ["_law_pool_here"] f_spot _ := ⟨F_spot, PySem.W.mg_of X G a_spot, k_spot, b_spot⟩
  have F_spotdue := fun_mk (st := sRSpotDue) l_spotdue c_spotdue k_spotdue
  have b_spotdue := F_spotdue.binds (ps := ["_law_spot_here"]) fun _ _ _ _ _ _ us hl => match us, hl with | [_], _ => rfl
  have D_spotdue : Def K mg "_law_spot_due" sRSpotDue ["_law_spot_here"] f_spotdue _ := ⟨F_spotdue, PySem.W.mg_of X G a_spotdue, k_spotdue, b_spotdue⟩
  have F_timesdue := fun_mk (st := sRTimesDue) l_timesdue c_timesdue k_timesdue
  have b_timesdue := F_timesdue.binds (ps := ["_law_times", "_law_size"]) fun _ _ _ _ _ _ us hl => match us, hl with | [_, _], _ => rfl
  have D_timesdue : Def K mg "_law_times_due" sRTimesDue ["_law_times", "_law_size"] f_timesdue _ := ⟨F_timesdue, PySem.W.mg_of X G a_timesdue, k_timesdue, b_timesdue⟩
  have F_right := fun_mk (st := sRight) l_right c_right k_right
  have b_right := F_right.binds (ps := ["_law_pool_here"]) fun _ _ _ _ _ _ us hl => match us, hl with | [_], _ => rfl
  have D_right : Def K mg "_law_right" sRight ["_law_pool_here"] f_right _ := ⟨F_right, PySem.W.mg_of X G a_right, k_right, b_right⟩
  have F_turns := fun_mk (st := sTurns) l_turns c_turns k_turns
  have b_turns := F_turns.binds (ps := ["word"]) fun _ _ _ _ _ _ us hl => match us, hl with | [_], _ => rfl
  have D_turns : Def K mg "_all_turnings" sTurns ["word"] f_turns _ := ⟨F_turns, PySem.W.mg_of X G a_turns, k_turns, b_turns⟩
  have F_readr := fun_mk (st := sReadR) l_readr c_readr k_readr
  have b_readr := F_readr.binds (ps := ["text", "place", "number"]) fun _ _ _ _ _ _ us hl => match us, hl with | [_, _, _], _ => rfl
  have D_readr : Def K mg "_read_round" sReadR ["text", "place", "number"] f_readr _ := ⟨F_readr, PySem.W.mg_of X G a_readr, k_readr, b_readr⟩
  have F_place := fun_mk (st := sIsPlace) l_place c_place k_place
  have b_place := F_place.binds (ps := ["value"]) fun _ _ _ _ _ _ us hl => match us, hl with | [_], _ => rfl
  have D_place : Def K mg "_is_place_with_number" sIsPlace ["value"] f_place _ := ⟨F_place, PySem.W.mg_of X G a_place, k_place, b_place⟩
  have F_isint := fun_mk (st := sIsInt) l_isint c_isint k_isint
  have b_isint := F_isint.binds (ps := ["value"]) fun _ _ _ _ _ _ us hl => match us, hl with | [_], _ => rfl
  have D_isint : Def K mg "is_integer" sIsInt ["value"] f_isint _ := ⟨F_isint, PySem.W.mg_of X G a_isint, k_isint, b_isint⟩
  have F_isword := fun_mk (st := sIsWord) l_isword c_isword k_isword
  have b_isword := F_isword.binds (ps := ["value"]) fun _ _ _ _ _ _ us hl => match us, hl with | [_], _ => rfl
  have D_isword : Def K mg "is_word" sIsWord ["value"] f_isword _ := ⟨F_isword, PySem.W.mg_of X G a_isword, k_isword, b_isword⟩
  have F_limit := fun_mk (st := sLimit) l_limit c_limit k_limit
  have b_limit := F_limit.binds (ps := []) fun _ _ _ _ _ _ us hl => match us, hl with | [], _ => rfl
  have D_limit : Def K mg "_law_at_the_limit" sLimit [] f_limit _ := ⟨F_limit, PySem.W.mg_of X G a_limit, k_limit, b_limit⟩
  have F_mI := fun_mk (st := sInit) l_mI c_mI k_mI
  have b_mI := F_mI.binds (ps := ["self", "text"]) fun _ _ _ _ _ _ us hl => match us, hl with | [_, _], _ => rfl
  have F_mT := fun_mk (st := sText) l_mT c_mT k_mT
  have b_mT := F_mT.binds (ps := ["self"]) fun _ _ _ _ _ _ us hl => match us, hl with | [_], _ => rfl
  have P_mT : PropOf K C "text" pT f_mT := ⟨p_atT, p_getT, p_takT, ⟨_, p_recT⟩⟩
  have F_mU := fun_mk (st := sTurned) l_mU c_mU k_mU
  have b_mU := F_mU.binds (ps := ["self", "i"]) fun _ _ _ _ _ _ us hl => match us, hl with | [_, _], _ => rfl
  have F_mG := fun_mk (st := sGet) l_mG c_mG k_mG
  have b_mG := F_mG.binds (ps := ["self", "at"]) fun _ _ _ _ _ _ us hl => match us, hl with | [_, _], _ => rfl
  have F_mM := fun_mk (st := sMul) l_mM c_mM k_mM
  have b_mM := F_mM.binds (ps := ["self", "other"]) fun _ _ _ _ _ _ us hl => match us, hl with | [_, _], _ => rfl
  have F_mA := fun_mk (st := sAdd) l_mA c_mA k_mA
  have b_mA := F_mA.binds (ps := ["self", "other"]) fun _ _ _ _ _ _ us hl => match us, hl with | [_, _], _ => rfl
  have F_mE := fun_mk (st := sREq) l_mE c_mE k_mE
  have b_mE := F_mE.binds (ps := ["self", "other"]) fun _ _ _ _ _ _ us hl => match us, hl with | [_, _], _ => rfl
  have F_mL := fun_mk (st := sLen) l_mL c_mL k_mL
  have b_mL := F_mL.binds (ps := ["self"]) fun _ _ _ _ _ _ us hl => match us, hl with | [_], _ => rfl
  have F_eW := fun_mk (st := sErrInvalidWord) l_eW c_eW k_eW
  have b_eW := F_eW.binds (ps := ["self", "given"]) fun _ _ _ _ _ _ us hl => match us, hl with | [_, _], _ => rfl
  have EW : ErrF K mg "InvalidWord" "given" "InvalidWord.__init__" sErrInvalidWord cW f_eW _ := ⟨⟨⟨_, _, _, _, _, _, _, _, _, _, _, _, _, _, _, xLW, (show PySem.HandSPX.refsVE [.type "ValueError", .type "Exception", .type "BaseException", .type "object"] = true by decide +kernel)⟩, saWx, exW, tyW, kcWx⟩, ⟨gaW, ggW, exW, hdWx⟩, noW, iniW, fnW, F_eW, b_eW, PySem.W.mg_of X G aXW⟩
  have F_eN := fun_mk (st := sErrInvalidNumber) l_eN c_eN k_eN
  have b_eN := F_eN.binds (ps := ["self", "given"]) fun _ _ _ _ _ _ us hl => match us, hl with | [_, _], _ => rfl
  have EN : ErrF K mg "InvalidNumber" "given" "InvalidNumber.__init__" sErrInvalidNumber cN f_eN _ := ⟨⟨⟨_, _, _, _, _, _, _, _, _, _, _, _, _, _, _, xLN, (show PySem.HandSPX.refsVE [.type "ValueError", .type "Exception", .type "BaseException", .type "object"] = true by decide +kernel)⟩, saNx, exN, tyN, kcNx⟩, ⟨gaN, ggN, exN, hdNx⟩, noN, iniN, fnN, F_eN, b_eN, PySem.W.mg_of X G aXN⟩
  have F_eP := fun_mk (st := sErrInvalidPlace) l_eP c_eP k_eP
  have b_eP := F_eP.binds (ps := ["self", "given"]) fun _ _ _ _ _ _ us hl => match us, hl with | [_, _], _ => rfl
  have EP : ErrF K mg "InvalidPlace" "given" "InvalidPlace.__init__" sErrInvalidPlace cP f_eP _ := ⟨⟨⟨_, _, _, _, _, _, _, _, _, _, _, _, _, _, _, xLP, (show PySem.HandSPX.refsVE [.type "ValueError", .type "Exception", .type "BaseException", .type "object"] = true by decide +kernel)⟩, saPx, exP, tyP, kcPx⟩, ⟨gaP, ggP, exP, hdPx⟩, noP, iniP, fnP, F_eP, b_eP, PySem.W.mg_of X G aXP⟩
  have F_eG := fun_mk (st := sErrNotARing) l_eG c_eG k_eG
  have b_eG := F_eG.binds (ps := ["self", "given"]) fun _ _ _ _ _ _ us hl => match us, hl with | [_, _], _ => rfl
  have EG : ErrF K mg "NotARing" "given" "NotARing.__init__" sErrNotARing cG f_eG _ := ⟨⟨⟨_, _, _, _, _, _, _, _, _, _, _, _, _, _, _, xLG, (show PySem.HandSPX.refsVE [.type "ValueError", .type "Exception", .type "BaseException", .type "object"] = true by decide +kernel)⟩, saGx, exG, tyG, kcGx⟩, ⟨gaG, ggG, exG, hdGx⟩, noG, iniG, fnG, F_eG, b_eG, PySem.W.mg_of X G aXG⟩
  have ZT : FreeT mg := ⟨Z_isinstance, Z_tuple, Z_list, Z_dict, Z_bool⟩
  have FT : FunT K "_law_right" "_law_right" sRight f_right _ cRt := ⟨_, _, _, _, _, _, _, _, rfl, l_right, c_right⟩
  have FT2 : FunT K "_law_at_the_limit" "_law_at_the_limit" sLimit f_limit _ cLt := ⟨_, _, _, _, _, _, _, _, rfl, l_limit, c_limit⟩
  have htright : PySem.W.tabIn K "_law_right" = some (cRt, PtR) := by
    unfold PySem.W.tabIn
    rw [a_right]
    dsimp only
    rw [l_right]
    dsimp only [PySem.W.fnOf]
    rw [l_cR]
    dsimp only
    rw [v11]
  have htlimit : PySem.W.tabIn K "_law_at_the_limit" = some (cLt, PtL) := by
    unfold PySem.W.tabIn
    rw [a_limit]
    dsimp only
    rw [l_limit]
    dsimp only [PySem.W.fnOf]
    rw [l_cL]
    dsimp only
    rw [v11L]
  have GO : OpsR K C := by
    constructor
    · intro nm t n h
      simp only [List.mem_cons, List.not_mem_nil, or_false] at h
      rcases n with rfl | rfl
      · rcases h with rfl | rfl | rfl | rfl | rfl | rfl | rfl
        · exact ⟨⟨_, im_mul_int⟩, ⟨_, ir_mul_int⟩, su_int⟩
        · exact ⟨⟨_, im_mul_bool⟩, ⟨_, ir_mul_bool⟩, su_bool⟩
        · exact ⟨⟨_, im_mul_NoneType⟩, ⟨_, ir_mul_NoneType⟩, su_NoneType⟩
        · exact ⟨⟨_, im_mul_str⟩, ⟨_, ir_mul_str⟩, su_str⟩
        · exact ⟨⟨_, im_mul_list⟩, ⟨_, ir_mul_list⟩, su_list⟩
        · exact ⟨⟨_, im_mul_tuple⟩, ⟨_, ir_mul_tuple⟩, su_tuple⟩
        · exact ⟨⟨_, im_mul_dict⟩, ⟨_, ir_mul_dict⟩, su_dict⟩
      · rcases h with rfl | rfl | rfl | rfl | rfl | rfl | rfl
        · exact ⟨⟨_, im_add_int⟩, ⟨_, ir_add_int⟩, su_int⟩
        · exact ⟨⟨_, im_add_bool⟩, ⟨_, ir_add_bool⟩, su_bool⟩
        · exact ⟨⟨_, im_add_NoneType⟩, ⟨_, ir_add_NoneType⟩, su_NoneType⟩
        · exact ⟨⟨_, im_add_str⟩, ⟨_, ir_add_str⟩, su_str⟩
        · exact ⟨⟨_, im_add_list⟩, ⟨_, ir_add_list⟩, su_list⟩
        · exact ⟨⟨_, im_add_tuple⟩, ⟨_, ir_add_tuple⟩, su_tuple⟩
        · exact ⟨⟨_, im_add_dict⟩, ⟨_, ir_add_dict⟩, su_dict⟩
    · intro t h
      simp only [List.mem_cons, List.not_mem_nil, or_false] at h
      rcases h with rfl | rfl | rfl | rfl | rfl | rfl | rfl
      · exact kit_own icl tcl su_int
      · exact kit_own icl tcl su_bool
      · exact kit_own icl tcl su_NoneType
      · exact kit_own icl tcl su_str
      · exact kit_own icl tcl su_list
      · exact kit_own icl tcl su_tuple
      · exact kit_own icl tcl su_dict
  have FC : FaceC K C := ⟨⟨pg, hd, po, sa⟩, cc, cg, ct, co, sR_tuple, sR_list, sR_dict, sR_bool⟩
  have R' : RgX K mg ⟨C, f_mI, f_mT, pT, f_mU, f_mG, f_mM, f_mA, f_mE, f_mL, f_turns, f_readr, f_place, f_isint, f_isword, cW, cN, cP, cG, f_eW, f_eN, f_eP, f_eG, _, _, _, _, _, _, _, _, _, _, _, _, _, _, _, _, _⟩ := ⟨T, ⟨mk, a_mI, i_mI, kc⟩, F_mI, b_mI, F_mT, b_mT, P_mT, F_mU, b_mU, ⟨a_mU, i_mU, k_mU⟩, F_mG, b_mG, ⟨a_mG, i_mG, k_mG⟩, fG, F_mM, b_mM, ⟨a_mM, i_mM, k_mM⟩, rMu, F_mA, b_mA, ⟨a_mA, i_mA, k_mA⟩, rAd, F_mE, b_mE, ⟨a_mE, i_mE, k_mE⟩, nf, F_mL, b_mL, ⟨a_mL, i_mL, k_mL⟩, sf, D_turns, D_readr, D_place, D_isint, D_isword, EW, EN, EP, EG, ⟨t6, PySem.W.mg_of X G g6⟩, Z_tuple⟩
  have D' : Defs K mg ⟨f_cell, f_pool, f_draw, f_face, f_whole, f_odd, f_signs, f_word, f_long, f_isword_l, f_heard, f_due, f_spoilt, f_spot, f_spotdue, f_timesdue, f_right, _, _, _, _, _, _, _, _, _, _, _, _, _, _, _, _, _⟩ := ⟨D_cell, D_pool, D_draw, D_face, D_whole, D_odd, D_signs, D_word, D_long, D_isword_l, D_heard, D_due, D_spoilt, D_spot, D_spotdue, D_timesdue, D_right⟩
  exact ⟨PySem.W.fnOf "law" "law" (defArgs sLaw) (defBody sLaw) (defScope sLaw) .none kv_law dc_law pm_law an_law cd_law ct_law, cRt, PtR, cLt, PtL, nP, nPL, htright, htlimit, fun s v => .of_eq rfl, fun base _ _ TB TB2 => ok_law (fun_mk (st := sLaw) l_law c_law k_law) TB FT TB2 FT2 nPt (PySem.W.mg_of X G a_limit) k_limit b_limit Z ZT R' FC ⟨PySem.W.exm_ref exW hdWx tyW sWW, PySem.W.exm_ref exW hdWx tyW sPW, PySem.W.exm_ref exP hdPx tyP sPP, PySem.W.exm_ref exW hdWx tyW sNW, PySem.W.exm_ref exP hdPx tyP sNP, PySem.W.exm_ref exN hdNx tyN sNN, PySem.W.exm_ref exW hdWx tyW sGW, PySem.W.exm_ref exP hdPx tyP sGP, PySem.W.exm_ref exN hdNx tyN sGN, PySem.W.exm_ref exG hdGx tyG sGG⟩ GO D'⟩
theorem walk {l : PySem.W.OpenLaw} {q : Program} {loose : List Str} {XP : (Str → Option Value) → Heap → Prop} {YP : World → Heap → Prop} {d d2 d3 : DefRec} {K : Params → PySem.W.Frag} (hn : l.most = some 63) (hdf : d.params.defaults = []) (hY : ∀ (w : World) (h : Heap), YP w h → (K w.params).In h)
    (find : (PyProof.Rows.recsOf q).find? (fun e => e.name == Str.ofString "_law_right") = some d2) (find2 : (PyProof.Rows.recsOf q).find? (fun e => e.name == Str.ofString "_law_at_the_limit") = some d3)
    (F : ∀ (w : World) (mg : Str → Option Value) (fa : Addr) (h : Heap), (K w.params).In h → h.Ns mainGlobals mg → mg d.name = some (.ref fa) → ∃ (fd : FuncData) (c Pt c2 Pt2 : Addr), (K w.params).lookup Pt = none ∧ (K w.params).lookup Pt2 = none ∧ PySem.W.tabIn (K w.params) "_law_right" = some (c, Pt) ∧ PySem.W.tabIn (K w.params) "_law_at_the_limit" = some (c2, Pt2) ∧ (∀ (s : Shared) (u : Value), BindsTo s fd ⟨[u], []⟩ [("_law_script", u)]) ∧
      ∀ base : Heap, (K w.params).In base → base.Ns mainGlobals mg → LamX.TabB base mg c Pt → LamX.TabB base mg c2 Pt2 → FnOk l.prog w (K w.params) mg base CX0 11 fa fd ["_law_script"] (spLawT (K w.params) Pt2 Pt)) :
    PySem.W.WalkO q loose XP YP l.row.toRowW d [] (fun f vs => PySem.call f vs) := by
  refine Att.attach_callB hn hdf fun w s0 s1 mg mb fa o pm cd doc a vs ns G Y ho hd hcd hmg hobj hints hlen hbits hg => ?_
  have KX := hY w _ Y
  obtain ⟨fd, c, Pt, c2, Pt2, nP, nP2, ht, ht2, hb, hF⟩ := F w mg fa _ KX G.T.g hmg
  obtain ⟨hC, hT⟩ := PySem.W.tab_of G.T KX find ht
  obtain ⟨hC2, hT2⟩ := PySem.W.tab_of G.T KX find2 ht2
  have both : ∀ {p : Addr × Addr} {S : Addr × Addr → Prop}, p ∈ [(c2, Pt2), (c, Pt)] → S (c2, Pt2) → S (c, Pt) → S p := fun hp h1 h2 => by
    rcases List.mem_cons.mp hp with rfl | hp
    · exact h1
    · rw [List.mem_singleton.mp hp]
      exact h2
  refine LamX.law_callTs (k := 11) (cs := [(c2, Pt2), (c, Pt)]) (fd := fd) (x := "_law_script") (CX := CX0) (sp := spLawT (K w.params) Pt2 Pt) KX G.T.g G.T.b G.T.builtins G.T.nolimit hg ?_ ?_ ?_ G.T.bmain hobj hints (Nat.le_trans hlen (by decide)) ⟨rfl, by decide, by decide⟩ (fun base h1 h2 h3 => hF base h1 h2 (h3 _ (List.mem_cons_of_mem _ List.mem_cons_self)) (h3 _ List.mem_cons_self)) hb ?_ (fun _ _ _ z => z)
  · exact fun y hy => both (S := fun y => s1.heap.get? y.2 = some (PySem.W.tabObj #[])) hy hT2 hT
  · exact fun y hy => both (S := fun y => (K w.params).lookup y.2 = none) hy nP2 nP
  · exact fun y hy => both (S := fun y => PySem.W.CodeHd _ y.1 y.2) hy hC2 hC
  · intro H hH hS
    refine ⟨a, ns, rfl, hS, hlen, fun y hy => ?_, fun _ => rfl⟩
    rcases List.mem_cons.mp hy with rfl | hy
    · exact LamX.TabS.nil (hH _ List.mem_cons_self)
    · rw [List.mem_singleton.mp hy]
      exact LamX.TabS.nil (hH (c, Pt) (List.mem_cons_of_mem _ List.mem_cons_self))
end Wb
open PySem PySem.W PyProof.Rows in
set_option maxRecDepth 100000 in
set_option maxHeartbeats 0 in
theorem PySem.Challenge.cw_wherebegun_k05_rings_refused_holds : PySem.Challenge.rw_wherebegun_k05_rings_refused.Holds := by
  w_on; o_law; k_head; (case hw => w_witness2)
  k_fill
  refine Wb.walk (l := PySem.Challenge.rw_wherebegun_k05_rings_refused) rfl rfl (fun w h Y => PySem.W.km_in_of Y) rfl rfl ?F
  case F =>
    intro w mg fa h KX G hmg
    refine' Wb.all_mk KX G hmg ?a_cell ?l_cell ?c_cell ?k_cell ?a_pool ?l_pool ?c_pool ?k_pool ?a_draw ?l_draw ?c_draw ?k_draw ?a_face ?l_face ?c_face ?k_face ?a_whole ?l_whole ?c_whole ?k_whole ?a_odd ?l_odd ?c_odd ?k_odd ?a_signs ?l_signs ?c_signs ?k_signs ?a_word ?l_word ?c_word ?k_word ?a_long ?l_long ?c_long ?k_long ?a_isword_l ?l_isword_l ?c_isword_l ?k_isword_l ?a_heard ?l_heard ?c_heard ?k_heard ?a_due ?l_due ?c_due ?k_due ?a_spoilt ?l_spoilt ?c_spoilt ?k_spoilt ?a_spot ?l_spot ?c_spot ?k_spot ?a_spotdue ?l_spotdue ?c_spotdue ?k_spotdue ?a_timesdue ?l_timesdue ?c_timesdue ?k_timesdue ?a_right ?l_right ?c_right ?k_right ?a_turns ?l_turns ?c_turns ?k_turns ?a_readr ?l_readr ?c_readr ?k_readr ?a_place ?l_place ?c_place ?k_place ?a_isint ?l_isint ?c_isint ?k_isint ?a_isword ?l_isword ?c_isword ?k_isword ?a_limit ?l_limit ?c_limit ?k_limit ?a_law ?l_law ?c_law ?k_law ?aC ?a_mI ?i_mI ?l_mI ?c_mI ?k_mI ?p_atT ?p_getT ?p_takT ?p_recT ?l_mT ?c_mT ?k_mT ?a_mU ?i_mU ?l_mU ?c_mU ?k_mU ?a_mG ?i_mG ?l_mG ?c_mG ?k_mG ?a_mM ?i_mM ?l_mM ?c_mM ?k_mM ?a_mA ?i_mA ?l_mA ?c_mA ?k_mA ?a_mE ?i_mE ?l_mE ?c_mE ?k_mE ?a_mL ?i_mL ?l_mL ?c_mL ?k_mL ?pg ?hd ?po ?sa ?mk ?kc ?cc ?co ?nT ?nP_ ?cg ?ct ?g6 ?aXW ?exW ?tyW ?hdWx ?kcWx ?gaW ?ggW ?noW ?xLW ?saWx ?iniW ?fnW ?l_eW ?c_eW ?k_eW ?aXN ?exN ?tyN ?hdNx ?kcNx ?gaN ?ggN ?noN ?xLN ?saNx ?iniN ?fnN ?l_eN ?c_eN ?k_eN ?aXP ?exP ?tyP ?hdPx ?kcPx ?gaP ?ggP ?noP ?xLP ?saPx ?iniP ?fnP ?l_eP ?c_eP ?k_eP ?aXG ?exG ?tyG ?hdGx ?kcGx ?gaG ?ggG ?noG ?xLG ?saGx ?iniG ?fnG ?l_eG ?c_eG ?k_eG ?sWW ?sNW ?sNN ?sPW ?sPN ?sPP ?sGW ?sGN ?sGP ?sGG ?l_cR ?v11 ?nP ?l_cL ?v11L ?nPL ?nPt ?sNP ?im_mul_NoneType ?ir_mul_NoneType ?im_add_NoneType ?ir_add_NoneType ?su_NoneType ?im_mul_bool ?ir_mul_bool ?im_add_bool ?ir_add_bool ?su_bool ?im_mul_int ?ir_mul_int ?im_add_int ?ir_add_int ?su_int ?im_mul_str ?ir_mul_str ?im_add_str ?ir_add_str ?su_str ?im_mul_list ?ir_mul_list ?im_add_list ?ir_add_list ?su_list ?im_mul_tuple ?ir_mul_tuple ?im_add_tuple ?ir_add_tuple ?su_tuple ?im_mul_dict ?ir_mul_dict ?im_add_dict ?ir_add_dict ?su_dict ?icl ?tcl ?nf ?sf ?rMu ?rAd ?fG ?sR_tuple ?sR_list ?sR_dict ?sR_bool ?z_int ?z_len ?z_range ?z_divmod ?z_abs ?z_isinstance ?z_str ?z_all ?z_min ?z_max ?z_set ?z_bool ?z_tuple ?z_list ?z_any ?z_enumerate ?z_sorted ?z_dict
    (case a_cell => k_is)
    (case l_cell => k_is)
    (case c_cell => k_is)
    (case k_cell => k_is)
    (case a_pool => k_is)
    (case l_pool => k_is)
    (case c_pool => k_is)
    (case k_pool => k_is)
    (case a_draw => k_is)
    (case l_draw => k_is)
    (case c_draw => k_is)
    (case k_draw => k_is)
    (case a_face => k_is)
    (case l_face => k_is)
    (case c_face => k_is)
    (case k_face => k_is)
    (case a_whole => k_is)
    (case l_whole => k_is)
    (case c_whole => k_is)
    (case k_whole => k_is)
    (case a_odd => k_is)
    (case l_odd => k_is)
    (case c_odd => k_is)
    (case k_odd => k_is)
    (case a_signs => k_is)
    (case l_signs => k_is)
    (case c_signs => k_is)
    (case k_signs => k_is)
    (case a_word => k_is)
    (case l_word => k_is)
    (case c_word => k_is)
    (case k_word => k_is)
    (case a_long => k_is)
    (case l_long => k_is)
    (case c_long => k_is)
    (case k_long => k_is)
    (case a_isword_l => k_is)
    (case l_isword_l => k_is)
    (case c_isword_l => k_is)
    (case k_isword_l => k_is)
    (case a_heard => k_is)
    (case l_heard => k_is)
    (case c_heard => k_is)
    (case k_heard => k_is)
    (case a_due => k_is)
    (case l_due => k_is)
    (case c_due => k_is)
    (case k_due => k_is)
    (case a_spoilt => k_is)
    (case l_spoilt => k_is)
    (case c_spoilt => k_is)
    (case k_spoilt => k_is)
    (case a_spot => k_is)
    (case l_spot => k_is)
    (case c_spot => k_is)
    (case k_spot => k_is)
    (case a_spotdue => k_is)
    (case l_spotdue => k_is)
    (case c_spotdue => k_is)
    (case k_spotdue => k_is)
    (case a_timesdue => k_is)
    (case l_timesdue => k_is)
    (case c_timesdue => k_is)
    (case k_timesdue => k_is)
    (case a_right => k_is)
    (case l_right => k_is)
    (case c_right => k_is)
    (case k_right => k_is)
    (case a_turns => k_is)
    (case l_turns => k_is)
    (case c_turns => k_is)
    (case k_turns => k_is)
    (case a_readr => k_is)
    (case l_readr => k_is)
    (case c_readr => k_is)
    (case k_readr => k_is)
    (case a_place => k_is)
    (case l_place => k_is)
    (case c_place => k_is)
    (case k_place => k_is)
    (case a_isint => k_is)
    (case l_isint => k_is)
    (case c_isint => k_is)
    (case k_isint => k_is)
    (case a_isword => k_is)
    (case l_isword => k_is)
    (case c_isword => k_is)
    (case k_isword => k_is)
    (case a_limit => k_is)
    (case l_limit => k_is)
    (case c_limit => k_is)
    (case k_limit => k_is)
    (case a_law => k_is)
    (case l_law => k_is)
    (case c_law => k_is)
    (case k_law => k_is)
    (case aC => k_is)
    (case a_mI => k_is)
    (case i_mI => k_is)
    (case l_mI => k_is)
    (case c_mI => k_is)
    (case k_mI => k_is)
    (case p_atT => k_is)
    (case p_getT => k_is)
    (case p_takT => k_is)
    (case p_recT => k_is)
    (case l_mT => k_is)
    (case c_mT => k_is)
    (case k_mT => k_is)
    (case a_mU => k_is)
    (case i_mU => k_is)
    (case l_mU => k_is)
    (case c_mU => k_is)
    (case k_mU => k_is)
    (case a_mG => k_is)
    (case i_mG => k_is)
    (case l_mG => k_is)
    (case c_mG => k_is)
    (case k_mG => k_is)
    (case a_mM => k_is)
    (case i_mM => k_is)
    (case l_mM => k_is)
    (case c_mM => k_is)
    (case k_mM => k_is)
    (case a_mA => k_is)
    (case i_mA => k_is)
    (case l_mA => k_is)
    (case c_mA => k_is)
    (case k_mA => k_is)
    (case a_mE => k_is)
    (case i_mE => k_is)
    (case l_mE => k_is)
    (case c_mE => k_is)
    (case k_mE => k_is)
    (case a_mL => k_is)
    (case i_mL => k_is)
    (case l_mL => k_is)
    (case c_mL => k_is)
    (case k_mL => k_is)
    (case pg => k_is)
    (case hd => k_is)
    (case po => k_is)
    (case sa => k_is)
    (case mk => k_is)
    (case kc => k_is)
    (case cc => k_is)
    (case co => k_is)
    (case nT => k_is)
    (case nP_ => k_is)
    (case cg => k_is)
    (case ct => k_is)
    (case g6 => k_is)
    (case aXW => k_is)
    (case exW => k_is)
    (case tyW => k_is)
    (case hdWx => k_is)
    (case kcWx => k_is)
    (case gaW => k_is)
    (case ggW => k_is)
    (case noW => k_is)
    (case xLW => k_is)
    (case saWx => k_is)
    (case iniW => k_is)
    (case fnW => k_is)
    (case l_eW => k_is)
    (case c_eW => k_is)
    (case k_eW => k_is)
    (case aXN => k_is)
    (case exN => k_is)
    (case tyN => k_is)
    (case hdNx => k_is)
    (case kcNx => k_is)
    (case gaN => k_is)
    (case ggN => k_is)
    (case noN => k_is)
    (case xLN => k_is)
    (case saNx => k_is)
    (case iniN => k_is)
    (case fnN => k_is)
    (case l_eN => k_is)
    (case c_eN => k_is)
    (case k_eN => k_is)
    (case aXP => k_is)
    (case exP => k_is)
    (case tyP => k_is)
    (case hdPx => k_is)
    (case kcPx => k_is)
    (case gaP => k_is)
    (case ggP => k_is)
    (case noP => k_is)
    (case xLP => k_is)
    (case saPx => k_is)
    (case iniP => k_is)
    (case fnP => k_is)
    (case l_eP => k_is)
    (case c_eP => k_is)
    (case k_eP => k_is)
    (case aXG => k_is)
    (case exG => k_is)
    (case tyG => k_is)
    (case hdGx => k_is)
    (case kcGx => k_is)
    (case gaG => k_is)
    (case ggG => k_is)
    (case noG => k_is)
    (case xLG => k_is)
    (case saGx => k_is)
    (case iniG => k_is)
    (case fnG => k_is)
    (case l_eG => k_is)
    (case c_eG => k_is)
    (case k_eG => k_is)
    (case sWW => k_is)
    (case sNW => k_is)
    (case sNN => k_is)
    (case sPW => k_is)
    (case sPN => k_is)
    (case sPP => k_is)
    (case sGW => k_is)
    (case sGN => k_is)
    (case sGP => k_is)
    (case sGG => k_is)
    (case l_cR => k_is)
    (case v11 => exact rfl)
    (case nP => kernel_rfl)
    (case l_cL => k_is)
    (case v11L => exact rfl)
    (case nPL => kernel_rfl)
    (case nPt => decide)
    (case sNP => k_is)
    (case im_mul_NoneType => k_is)
    (case ir_mul_NoneType => k_is)
    (case im_add_NoneType => k_is)
    (case ir_add_NoneType => k_is)
    (case su_NoneType => k_is)
    (case im_mul_bool => k_is)
    (case ir_mul_bool => k_is)
    (case im_add_bool => k_is)
    (case ir_add_bool => k_is)
    (case su_bool => k_is)
    (case im_mul_int => k_is)
    (case ir_mul_int => k_is)
    (case im_add_int => k_is)
    (case ir_add_int => k_is)
    (case su_int => k_is)
    (case im_mul_str => k_is)
    (case ir_mul_str => k_is)
    (case im_add_str => k_is)
    (case ir_add_str => k_is)
    (case su_str => k_is)
    (case im_mul_list => k_is)
    (case ir_mul_list => k_is)
    (case im_add_list => k_is)
    (case ir_add_list => k_is)
    (case su_list => k_is)
    (case im_mul_tuple => k_is)
    (case ir_mul_tuple => k_is)
    (case im_add_tuple => k_is)
    (case ir_add_tuple => k_is)
    (case su_tuple => k_is)
    (case im_mul_dict => k_is)
    (case ir_mul_dict => k_is)
    (case im_add_dict => k_is)
    (case ir_add_dict => k_is)
    (case su_dict => k_is)
    (case icl => k_is)
    (case tcl => k_is)
    (case nf => k_is)
    (case sf => k_is)
    (case rMu => k_is)
    (case rAd => k_is)
    (case fG => k_is)
    (case sR_tuple => k_is)
    (case sR_list => k_is)
    (case sR_dict => k_is)
    (case sR_bool => k_is)
    (case z_int => k_is)
    (case z_len => k_is)
    (case z_range => k_is)
    (case z_divmod => k_is)
    (case z_abs => k_is)
    (case z_isinstance => k_is)
    (case z_str => k_is)
    (case z_all => k_is)
    (case z_min => k_is)
    (case z_max => k_is)
    (case z_set => k_is)
    (case z_bool => k_is)
    (case z_tuple => k_is)
    (case z_list => k_is)
    (case z_any => k_is)
    (case z_enumerate => k_is)
    (case z_sorted => k_is)
    (case z_dict => k_is)
