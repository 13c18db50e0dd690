import PyProof.Rows.All
import Wide.All
import OpenK.AllK
import Wide.FinOn
import HandS.Zip
import HandS.ForMost
import HandS.Walk
import HandS.DictComp
import HandS.IsInst
import HandS.Property
import HandS.Wide
import HandS.MakeKw
import KE.DataMinMax
import PyProof.StrBlock2
import HandS.Strs
import PyProof.CollectStr
import PyProof.TupleOfSeq
import HandS.More
import KE.GoesMore
import KE.GoesEnum
import HandS.Deep
import HandS.TupAny
import HandS.ExcInit
import PyProof.Rows.StrMeet
import PyProof.Rows.SortStr
import HandS.MakeKwOnly
import KE.KCallOwn
import PyProof.Conv_bool
import PyProof.InstNe
import HandS.SlotsOwn
import PyProof.ListStr
import KE.KOpsOwn
import HandS.Comp
import HandS.ClsMeth
import HandS.Defaults
import PyProof.P3Eq
import PyProof.Rows.CallKw2
import HandS.ExcCtx
import HandS.TryMany
import HandS.HotCalls
import HandS.ExcField
import PyProof.Rows.TupIter
import HandS.Hot
import HandS.ExcInitHot
import HandS.Lambda
import HandS.Star
import HandS.Dict
import PyProof.TupleIter
import PyProof.Seq
import HandS.Iter
import PyProof.NeKinds
import OpenK.KMeth
import HandS.ExcIs
import HandS.EndTab
import KE.KNest
import PyProof.ExcBaseAll.ArithmeticError
import PySem.Challenge.RW_wherebegun_k12_kinds_met
set_option Elab.async false
set_option maxRecDepth 100000
set_option maxHeartbeats 1000000
/-! zip of two walks of any kind; then zip(a tuple, a list) -/
namespace Lz
open PySem PySem.Spec PyProof.Rows L2
/-- how one of the two is walked -/
structure Kind2 where
  It : Heap → Addr → Addr → Nat → Prop
  Src : Heap → Addr → Array Value → Prop
  obj : ∀ {h it l k}, It h it l k → ∃ o, h.get? it = some o ∧ ∀ v, o.data ≠ .cell v
  mvIt : ∀ {h h' it l k}, It h it l k → (∀ o, h.get? it = some o → h'.get? it = some o) → It h' it l k
  mvSrc : ∀ {h h' l xs}, Src h l xs → (∀ o, h.get? l = some o → h'.get? l = some o) → Src h' l xs
  item : ∀ {prog : Program} {w : World} {A : Around} {E : Value → Shared → Prop} {s : Shared} {it l : Addr} {i : Nat} {xs : Array Value} {x : Value} {Q : Value → Shared → Prop}, It s.heap it l i → Src s.heap l xs → xs[i]? = some x →
    (∀ h', It h' it l (i + 1) → Heap.SameBut it s.heap h' → Q x { s with heap := h' }) → wpAny (model prog w) A (Builtin.SmallTypes.nextOf (.ref it)) Q E s
  fin : ∀ {prog : Program} {w : World} {A : Around} {E : Value → Shared → Prop} {s : Shared} {it l : Addr} {i : Nat} {xs : Array Value} {Q : Value → Shared → Prop}, A.handled = none → It s.heap it l i → Src s.heap l xs → xs[i]? = none →
    (∀ h' e, Heap.ExtBut it s.heap h' → (∃ o, h'.get? e = some o ∧ o.cls = .type "StopIteration") → E (.ref e) { s with heap := h' }) → wpAny (model prog w) A (Builtin.SmallTypes.nextOf (.ref it)) Q E s
section
variable {prog : Program} {w : World} {A : Around} {E : Value → Shared → Prop} {s : Shared} {z TI TO i1 i2 l1 l2 : Addr} {k1 k2 : Nat} {xs ys : Array Value} {x y a b : Value} (U V : Kind2)
end
end Lz
set_option maxHeartbeats 1000000
namespace Lz
open PySem PySem.Spec PyProof.Rows L2
section
variable {prog : Program} {w : World} {A : Around} {E : Value → Shared → Prop} {s : Shared} {z TI TO i1 i2 l1 l2 : Addr} {k1 k2 : Nat} {xs ys : Array Value} {x y a b : Value} (U V : Kind2)
end
/-! ### zip(a tuple, a list) is made -/
abbrev m1 (h : Heap) (l1 : Addr) : Heap := h.push { cls := .type "tuple_iterator", data := .fields #[.ref l1, .int 0 0] }
section
variable {prog : Program} {w : World} {A : Around} {E : Value → Shared → Prop} {s : Shared}
end
/-! ### its turns -/
end Lz
set_option maxHeartbeats 1000000
/-! {k: v for ..} with tuples as keys -/
namespace Lz
open PySem PySem.Spec PyProof.Rows L2
section
variable {X : Cx}
variable {kx vx tg iter : Expr} {ifs : List Expr} {scope : Scope} {own : List (Str × Nat)} {pos : Pos} {wi : TI} {g : TG} {tt : TT} {tk tv : TE}
end
end Lz
namespace Wb
open PySem L2
def top (i : Nat) : Stmt := PySem.Challenge.pw_wherebegun_k12_kinds_met.main.body.getD i (.Pass ⟨0, 0, 0, 0⟩)
abbrev sCell : Stmt := top 37
abbrev sPool : Stmt := top 38
abbrev sDraw : Stmt := top 39
/-- all but what lies at p stays -/
def But (p : Addr) (H H' : Hp) : Prop := ∀ b o, b ≠ p → H b = some o → H' b = some o
theorem But.refl (p : Addr) (H : Hp) : But p H H := fun _ _ _ h => h
theorem But.trans {p : Addr} {H H1 H2 : Hp} (a : But p H H1) (b : But p H1 H2) : But p H H2 := fun c o n h => b c o n (a c o n h)
theorem But.of {p : Addr} {H H' : Hp} (a : Same H H') : But p H H' := fun c o _ h => a c o h
theorem But.upd {p q : Addr} {o : HO} {H H' : Hp} (a : But p H H') (n : H' q = none) : But p H (L2.upd H' q o) := fun c u k h => by
  rw [upd_ne (ne_of_none (a c u k h) n)]
  exact a c u k h
theorem But.here {p : Addr} {o : HO} {H H' : Hp} (a : But p H H') : But p H (L2.upd H' p o) := fun c u k h => by
  rw [upd_ne k]
  exact a c u k h
theorem Same.put {q : Addr} {o : HO} {H H' : Hp} (a : Same H H') (n : H' q = none) : Same H (L2.upd H' q o) := fun c u h => by
  rw [upd_ne (ne_of_none (a c u h) n)]
  exact a c u h
/-- a pool stands at p: three ints -/
def PoolAt (H : Hp) (p : Addr) : Prop := ∃ a b c : Int, H p = some (.lst [.int a, .int b, .int c]) ∧ 0 ≤ a ∧ a < 2147483648 ∧ 0 ≤ b
def spDraw : Sp := fun vs H Q _ => ∃ (p : Addr) (m : Int), vs = [.ref p, .int m] ∧ 0 < m ∧ m < 1073741824 ∧ PoolAt H p ∧
  ∀ (d : Int) (H' : Hp), 0 ≤ d → d < m → PoolAt H' p → But p H H' → Q (.int d) H'
def spPool : Sp := fun vs H Q _ => ∃ c : Int, vs = [.int c] ∧ ∀ (p : Addr) (H' : Hp), H p = none → Same H H' → PoolAt H' p → Q (.ref p) H'
def spCell (K : PySem.W.Frag) : Sp := fun vs H Q _ => ∃ (a : Addr) (ns : List Int) (k : Int), vs = [.ref a, .int k] ∧ SqL K H a (ns.map V.int) ∧ ns.length ≤ 63 ∧ 0 ≤ k ∧ k < 64 ∧
  ∀ (n : Int) (H' : Hp), Same H H' → Q (.int n) H'
theorem cut_int {ns : List Int} {lo hi : Option Int} {i : Nat} {y : V} (h : (cutV (ns.map V.int) lo hi)[i]? = some y) : ∃ u, y = V.int u := by
  have q := List.mem_of_getElem? h
  unfold cutV at q
  obtain ⟨u, _, e⟩ := List.mem_map.mp (List.mem_of_mem_drop (List.mem_of_mem_take q))
  exact ⟨u, e.symm⟩
section
variable {P : Program} {w : World} {K : PySem.W.Frag} {mg : Str → Option Value} {base : Heap}
theorem scP : FnScope ["_law_cell_here", "_law_digits"] ["_law_cell_here"] (defScope sPool) := ⟨rfl, rfl, rfl, by decide +kernel, rfl, by decide +kernel, by decide +kernel⟩
theorem ok_pool {f : Addr} {fd : FuncData} (F : Fun K "_law_pool" "_law_pool" sPool f fd) (mAbs : mg "abs" = none) (mInt : mg "int" = none) : FnOk P w K mg base CX0 1 f fd ["_law_cell_here"] spPool := by
  refine F.ok scP (fun vs H Q E h => ?_) (fun cdv A outer s H vs Q E hr h => ?_)
  · obtain ⟨c, rfl, _⟩ := h
    rfl
  · obtain ⟨c, rfl, k⟩ := h
    refine ⟨_, pss_cons (ps_set (i := 1) scP.nd rfl (.inl rfl) (pe_ifExp (PW.pt (pw_or (pt_cmpR op_lt (pv 0) pe_int (nomark _)) (pw_or1 (pt_cmpR op_ge (pv 0) (pe_op op_pow pe_int pe_int) (nomark _)))))
        (pe_callB call_abs (by rfl) mAbs (by decide +kernel) (pa_cons (pv 0) pa_nil)) pe_int))
      (pss_one (ps_ret (pe_lst (pa_cons (pe_op op_mod (pe_callTy call_int1 (by rfl) mInt (by decide +kernel) (pa_cons (pv 0) pa_nil)) pe_int) (pa_cons (pv 1) (pa_cons pe_int pa_nil)))))), ?_⟩
    have fin : ∀ d : Int, 0 ≤ d → (tRet (tLst (tCons (tOp (rI (fun x j => 0 < j) fun i j => V.int (i % j)) (tCB (fun xs H Q => (∃ i, xs = [V.int i] ∧ Q (V.int i) H) ∨ ∃ k, xs = [V.bl k] ∧ Q (V.int (if k = true then 1 else 0)) H) (tCons (tVar 0) tNil)) (tC (V.int 2147483587))) (tCons (tVar 1) (tCons (tC (V.int 0)) tNil)))))
        { nx := fun x H' => Q V.non H', rt := Q } [some (V.int c), some (V.int d)] H := fun d h0 => by
      refine ⟨_, rfl, .inl ⟨_, rfl, _, _, rfl, rfl, (by show (0 : Int) < 2147483587; decide), _, rfl, (by show 3 ≤ sizeLine; decide), fun p hp => ?_⟩⟩
      refine k p _ hp (Same.put (Same.refl H) hp) ⟨_, _, _, upd_same, ?_⟩
      omega
    refine ⟨_, rfl, _, _, rfl, rfl, _, rfl, ite2 (fun h1 => iteT ?_) (fun h1 => ?_)⟩
    · refine ⟨_, rfl, _, rfl, ?_⟩
      exact fin _ (by split <;> omega)
    · refine ⟨_, rfl, _, _, rfl, rfl, (by refine ⟨?_, ?_, ?_⟩ <;> decide), _, _, rfl, rfl, _, rfl, ?_⟩
      refine ite2 (fun h2 => ?_) (fun h2 => ?_)
      · refine ⟨_, rfl, _, rfl, ?_⟩
        exact fin _ (by split <;> omega)
      · exact fin 0 (by omega)
theorem scD : FnScope ["_law_pool_here", "_law_many", "_law_mixed", "_law_digit"] ["_law_pool_here", "_law_many"] (defScope sDraw) := ⟨rfl, rfl, rfl, by decide +kernel, rfl, by decide +kernel, by decide +kernel⟩
theorem ok_draw {f : Addr} {fd : FuncData} (F : Fun K "_law_draw" "_law_draw" sDraw f fd) (mInt : mg "int" = none) (mDm : mg "divmod" = none) : FnOk P w K mg base CX0 1 f fd ["_law_pool_here", "_law_many"] spDraw := by
  refine F.ok scD (fun vs H Q E h => ?_) (fun cdv A outer s H vs Q E hr h => ?_)
  · obtain ⟨p, m, rfl, _⟩ := h
    rfl
  · obtain ⟨p, m, rfl, m0, m1, ⟨a, b, c, hp, a0, a1, b0⟩, k⟩ := h
    refine ⟨_, pss_cons (ps_asg (pe_op op_add (pe_ix ix_list (pv 0) pe_int (fun _ _ => rfl)) pe_int) (pg_sub (pv 0) pe_int set_list))
      (pss_cons (ps_set (i := 2) scD.nd rfl (.inl rfl) (pe_op op_mod (pe_callTy call_int1 (by rfl) mInt (by decide +kernel) (pa_cons (pe_op op_add (pe_op op_add (pe_op op_mul (pe_ix ix_list (pv 0) pe_int (fun _ _ => rfl)) pe_int) (pe_op op_mul (pe_ix ix_list (pv 0) pe_int (fun _ _ => rfl)) pe_int)) pe_int) pa_nil)) pe_int))
      (pss_cons (ps_asg (pe_op op_mod (pe_callTy call_int1 (by rfl) mInt (by decide +kernel) (pa_cons (pe_op op_mul (pv 2) (pe_op op_add (pe_op op_fdiv (pv 2) pe_int) pe_int)) pa_nil)) pe_int) (pg_sub (pv 0) pe_int set_list))
      (pss_cons (ps_if (pt_cmpR op_gt (pe_ix ix_list (pv 0) pe_int (fun _ _ => rfl)) pe_int (nomark _))
          (pss_cons (ps_asg (pe_callB call_divmod (by rfl) mDm (by decide +kernel) (pa_cons (pe_ix ix_list (pv 0) pe_int (fun _ _ => rfl)) (pa_cons (pv 1) pa_nil))) (pg_tup (by rfl) (pgs_cons (pg_sub (pv 0) pe_int set_list) (pgs_cons (pg_name (i := 3) scD.nd rfl (.inl rfl)) pgs_nil))))
            (pss_one (ps_ret (pv 3)))) pss_nil)
      (pss_one (ps_ret (pe_op op_mod (pe_callTy call_int1 (by rfl) mInt (by decide +kernel) (pa_cons (pe_op op_fdiv (pe_ix ix_list (pv 0) pe_int (fun _ _ => rfl)) pe_int) pa_nil)) (pv 1))))))), ?_⟩
    refine ⟨_, rfl, p, _, _, _, rfl, rfl, SqL.of hp, rfl, _, _, rfl, rfl, _, rfl, p, _, _, 2, rfl, rfl, hp, rfl, ?_⟩
    have hp1 : (L2.upd H p (.lst [.int a, .int b, .int (c + 1)])) p = some (.lst [.int a, .int b, .int (c + 1)]) := upd_same
    refine ⟨_, rfl, p, _, _, _, rfl, rfl, SqL.of hp1, rfl, _, _, rfl, rfl, .inl ⟨by omega, by omega⟩, _, rfl, p, _, _, _, rfl, rfl, SqL.of hp1, rfl, _, _, rfl, rfl, .inr ⟨by decide, by decide⟩, _, _, rfl, rfl, _, _, rfl, rfl, .inl ⟨_, rfl, _, _, rfl, rfl, (by show (0 : Int) < 2147483587; decide), ?_⟩⟩
    have x0 : ∀ z : Int, 0 ≤ z % 2147483587 ∧ z % 2147483587 < 2147483587 := fun z => ⟨Int.emod_nonneg _ (by decide), Int.emod_lt_of_pos _ (by decide)⟩
    generalize hx : ((a * 50021 + (c + 1) * 69067 + 31) % 2147483587 : Int) = x
    have ⟨x1, x2⟩ : 0 ≤ x ∧ x < 2147483587 := by rw [← hx]; exact x0 _
    refine ⟨_, rfl, _, rfl, _, _, rfl, rfl, ⟨by decide, by decide⟩, _, _, rfl, rfl, _, _, rfl, rfl, .inl ⟨by omega, by omega⟩, .inl ⟨_, rfl, _, _, rfl, rfl, (by show (0 : Int) < 2147483629; decide), ?_⟩⟩
    have y0 : ∀ z : Int, 0 ≤ z % 2147483629 ∧ z % 2147483629 < 2147483629 := fun z => ⟨Int.emod_nonneg _ (by decide), Int.emod_lt_of_pos _ (by decide)⟩
    refine ⟨_, rfl, p, _, _, 0, rfl, rfl, hp1, rfl, ?_⟩
    refine ⟨_, rfl, p, _, _, _, rfl, rfl, SqL.of upd_same, rfl, _, _, rfl, rfl, _, rfl, ite2 (fun h1 => ?_) (fun h1 => ?_)⟩
    · refine ⟨_, rfl, p, _, _, _, rfl, rfl, SqL.of upd_same, rfl, _, rfl, _, _, rfl, ⟨m0, m1⟩, fun t ht => ?_⟩
      have npt : p ≠ t := ne_of_none upd_same ht
      refine ⟨t, _, rfl, SqT.of upd_same, rfl, _, _, rfl, _, rfl, p, _, _, 1, rfl, rfl, (upd_ne npt).trans upd_same, rfl, _, _, rfl, ?_⟩
      refine ⟨rfl, _, rfl, k _ _ (Int.emod_nonneg _ (by omega)) (Int.emod_lt_of_pos _ m0) ⟨_, _, _, upd_same, ?_⟩ (But.here (But.upd (But.here (But.here (But.refl p H))) ht))⟩
      refine ⟨(y0 _).1, Int.lt_trans (y0 _).2 (by decide), ?_⟩
      exact Int.ediv_nonneg b0 (Int.le_of_lt m0)
    · refine ⟨_, rfl, p, _, _, _, rfl, rfl, SqL.of upd_same, rfl, _, _, rfl, rfl, ⟨by decide, by decide⟩, .inl ⟨_, rfl, _, rfl, _, _, rfl, rfl, m0, ?_⟩⟩
      exact k _ _ (Int.emod_nonneg _ (by omega)) (Int.emod_lt_of_pos _ m0) ⟨_, _, _, upd_same, (y0 _).1, Int.lt_trans (y0 _).2 (by decide), b0⟩ (But.here (But.here (But.refl p H)))
theorem scC : FnScope ["_law_script", "_law_k", "_law_mixed", "_law_cell_here"] ["_law_script", "_law_k"] (defScope sCell) := ⟨rfl, rfl, rfl, by decide +kernel, rfl, by decide +kernel, by decide +kernel⟩
theorem ok_cell {f : Addr} {fd : FuncData} (F : Fun K "_law_cell" "_law_cell" sCell f fd) (mInt : mg "int" = none) (mLen : mg "len" = none) : FnOk P w K mg base CX0 1 f fd ["_law_script", "_law_k"] (spCell K) := by
  refine F.ok scC (fun vs H Q E h => ?_) (fun cdv A outer s H vs Q E hr h => ?_)
  · obtain ⟨a, ns, j, rfl, _⟩ := h
    rfl
  · obtain ⟨a, ns, j, rfl, hS, hlen, j0, j1, k⟩ := h
    refine ⟨_, pss_cons (ps_if (pt_cmpR op_lt (pv 1) (pe_callB call_len_seq (by rfl) mLen PySem.boot_len (pa_cons (pv 0) pa_nil)) (nomark _)) (pss_one (ps_ret (pe_ix ix_list (pv 0) (pv 1) (fun _ _ => rfl)))) pss_nil)
      (pss_cons (ps_set (i := 2) scC.nd rfl (.inl rfl) (pe_op op_add pe_int (pe_op op_mul (pe_op op_mul pe_int (pv 1)) (pv 1))))
      (pss_cons (ps_for PassesOwn.never rfl (pi_list (pe_slice sl_list (pv 0) po_none (po_some pe_int))) (pg_name (i := 3) scC.nd rfl (.inl rfl))
        (pss_one (ps_set (i := 2) scC.nd rfl (.inl rfl) (pe_op op_mod (pe_callTy call_int1 (by rfl) mInt (by decide +kernel) (pa_cons (pe_op op_add (pe_op op_mul (pv 2) pe_int) (pv 3)) pa_nil)) pe_int))))
      (pss_one (ps_ret (pv 2))))), ?_⟩
    refine ⟨_, rfl, _, rfl, a, _, rfl, .inl hS, _, _, rfl, rfl, _, rfl, ite2 (fun h1 => ?_) (fun h1 => ?_)⟩
    · have h2 : j < (ns.length : Int) := by
        have q := of_decide_eq_true h1
        rw [List.length_map] at q
        exact q
      have h3 : (ns.map V.int)[j.toNat]? = some (V.int (ns[j.toNat]'(by omega))) := by
        rw [List.getElem?_map, List.getElem?_eq_getElem (by omega)] <;> rfl
      have h4 : atI (ns.map V.int) j = some (V.int (ns[j.toNat]'(by omega))) := by
        have q := atI_nat h3
        rw [Int.toNat_of_nonneg j0] at q
        exact q
      exact ⟨_, rfl, _, rfl, a, _, _, _, rfl, rfl, hS, h4, k _ _ (Same.refl H)⟩
    · have b1 : (-(2 ^ 64) < (4093 : Int) ∧ (4093 : Int) < 2 ^ 64) := by decide
      refine ⟨_, rfl, _, _, rfl, rfl, .inl b1, _, rfl, _, _, rfl, rfl, .inr ⟨by omega, by omega⟩, _, _, rfl, rfl, ?_⟩
      refine ⟨_, rfl, _, rfl, a, _, rfl, hS, fun q hq => ?_⟩
      have sq : SqL K (L2.upd H q (.lst (cutV (ns.map V.int) none (some 4)))) q (cutV (ns.map V.int) none (some 4)) := SqL.of upd_same
      refine ⟨q, rfl, ⟨_, sq⟩, for_list (K := K) (a := q) (xs := cutV (ns.map V.int) none (some 4)) (fun i σ H' => ∃ (z : Int) (v : Option V), σ = [some (.ref a), some (.int j), some (.int z), v] ∧ Same H H' ∧ SqL K H' q (cutV (ns.map V.int) none (some 4)))
        ⟨_, none, rfl, Same.put (Same.refl H) hq, sq⟩ (fun i σ H' _ ⟨_, _, _, _, s⟩ => s) ?_ ?_⟩
      · rintro i y σ H' hi ⟨z, v, rfl, s1, s2⟩
        obtain ⟨u, rfl⟩ := cut_int hi
        exact ⟨_, rfl, _, _, rfl, rfl, .inr ⟨by decide, by decide⟩, _, rfl, _, _, rfl, rfl, .inl ⟨_, rfl, _, _, rfl, rfl, (by show (0 : Int) < 2147483629; decide), _, _, rfl, s1, s2⟩⟩
      · rintro σ H' ⟨z, v, rfl, s1, s2⟩
        exact ⟨_, rfl, k _ _ s1⟩
end
end Wb
/-! min(xs) of a list of texts; a text so many times -/
namespace WbMin
open PySem PySem.W PySem.Spec PyProof.Rows L2
/-- the least text, the first of them -/
def minS (x : Str) (xs : List Str) : Str := xs.foldl (fun a y => if y.cps.toList < a.cps.toList then y else a) x
theorem minD_minS (x : Str) : ∀ xs : List Str, minD (.str x) (xs.map PyData.str) = .str (minS x xs) := by
  intro xs
  unfold minD minS
  induction xs generalizing x with
  | nil => rfl
  | cons y r ih =>
    simp only [List.map_cons, List.foldl_cons, dataLt_str]
    by_cases q : y.cps.toList < x.cps.toList
    · simp only [q, decide_true, if_true]
      exact ih y
    · simp only [q, decide_false, if_false, Bool.false_eq_true]
      exact ih x
theorem depthAll_strs : ∀ xs : List Str, PyData.depthAll (xs.map PyData.str) = 0
  | [] => rfl
  | x :: r => by
    show max (PyData.depth (.str x)) (PyData.depthAll (r.map PyData.str)) = 0
    rw [depthAll_strs r] <;> rfl
theorem alike_strs (xs : List Str) : AlikeAll (xs.map PyData.str) := by
  refine ⟨fun d hd e he => ?_, fun d hd => ?_⟩
  · obtain ⟨x, _, rfl⟩ := List.mem_map.mp hd
    obtain ⟨y, _, rfl⟩ := List.mem_map.mp he
    rfl
  · obtain ⟨x, _, rfl⟩ := List.mem_map.mp hd
    exact fun z => nomatch z
theorem reads_strs {h : Heap} : ∀ {xs : List Str} {us : List Value}, Vals (xs.map V.str) us → ReadsAll h us (xs.map PyData.str) []
  | [], _, .nil => .nil
  | x :: r, _, .cons q t => by
    obtain ⟨k, rfl⟩ := q
    exact ReadsAll.cons (as := []) (bs := []) (.str x k) (reads_strs t)
theorem reads_str {h : Heap} {v : Value} {x : Str} {bs : List Addr} (r : Reads h v (.str x) bs) : ∃ t, v = .str x t := by
  cases r with
  | str _ t => exact ⟨t, rfl⟩
section
variable {X : Cx}
/-- min(xs), xs a list of one text or more -/
def rMinS (K : PySem.W.Frag) : List V → Hp → VK → Prop := fun vs H Q => ∃ (a : Addr) (x : Str) (xs : List Str), vs = [V.ref a] ∧ SqL K H a ((x :: xs).map V.str) ∧ Q (.str (minS x xs)) H
theorem cr_minS {k : Nat} (hr : Room k X.A) (hc : X.calm = true) : CallR X (.builtin "min") (rMinS X.K) := by
  intro pins s σ H vs us Q I r h
  obtain ⟨a, x, xs, rfl, hs, q⟩ := h
  obtain ⟨its, rv, hl, _⟩ := I.list hs
  rw [Vals.ref1 r]
  have rd : ReadsAll s.heap its.toArray.toList (PyData.str x :: xs.map PyData.str) [] := by simpa using reads_strs (h := s.heap) rv
  have un := hr.units
  have al : AlikeAll (PyData.str x :: xs.map PyData.str) := alike_strs (x :: xs)
  have dp : PyData.depthAll (PyData.str x :: xs.map PyData.str) = 0 := depthAll_strs (x :: xs)
  refine min_list_data (I.ok.hd hc) hl.isList rd al (by rw [dp]; omega) fun i v h' tk bs hv hm kept => ?_
  rw [minD_minS] at hm
  obtain ⟨t, rfl⟩ := reads_str hm
  exact ⟨.str (minS x xs), H, I.kept kept, ⟨t, rfl⟩, q⟩
end
end WbMin
namespace Wb
open PySem L2 WbMin
abbrev sSigns : Stmt := top 43
/-- the text of these codes -/
def S (l : List Nat) : Str := ⟨l.toArray⟩
theorem S_cps (l : List Nat) : (S l).cps.toList = l := by simp [S]
theorem S_size (l : List Nat) : (S l).cps.size = l.length := by simp [S]
theorem S_len (l : List Nat) : (S l).length = l.length := S_size l
theorem S_of (z : Str) : S z.cps.toList = z := by cases z; simp [S]
theorem S_eq {z : Str} {l : List Nat} (h : z.cps.toList = l) : z = S l := by rw [← h, S_of]
theorem S_add (l m : List Nat) : S l ++ S m = S (l ++ m) := by
  show Str.append (S l) (S m) = S (l ++ m)
  simp [S, Str.append]
def one (c : Nat) : Str := ⟨#[c]⟩
theorem S_one (c : Nat) : one c = S [c] := rfl
def abc : List Nat := (List.range 26).map (· + 97)
theorem abc_is : ("abcdefghijklmnopqrstuvwxyz" : Str) = S abc := by decide +kernel
/-- small letters -/
def Low (l : List Nat) : Prop := ∀ c ∈ l, 97 ≤ c ∧ c ≤ 122
theorem abc_low : Low abc := by unfold Low abc; decide
theorem abc_len : abc.length = 26 := rfl
/-- a def of the top -/
structure Def (K : PySem.W.Frag) (mg : Str → Option Value) (x : Str) (st : Stmt) (ps : List Str) (f : Addr) (fd : FuncData) : Prop where
  F : Fun K x x st f fd
  g : mg x = some (.ref f)
  kp : PySem.W.keepIn K (.ref f) = true
  b : Binds K fd ps []
def spSigns : Sp := fun vs H Q _ => ∃ (p : Addr) (m : Int), vs = [.ref p, .int m] ∧ 0 < m ∧ m ≤ 26 ∧ PoolAt H p ∧
  ∀ (l : List Nat) (H' : Hp), Low l → l.Nodup → 0 < l.length → (l.length : Int) ≤ m → PoolAt H' p → But p H H' → Q (.str (S l)) H'
theorem drop_one (a : Nat) : ∀ ys : List Nat, ys.Nodup → ys.length ≤ (ys.filter fun c => !decide (c = a)).length + 1
  | [], _ => Nat.zero_le _
  | y :: r, nd => by
    obtain ⟨n1, n2⟩ := List.nodup_cons.mp nd
    by_cases e : y = a
    · have e1 : (r.filter fun c => !decide (c = a)) = r := List.filter_eq_self.mpr fun c hc => by
        have : c ≠ a := fun z => n1 (e ▸ z ▸ hc)
        simp [this]
      rw [List.filter_cons_of_neg (by simp [e]), e1] <;> exact Nat.le_refl _
    · rw [List.filter_cons_of_pos (by simp [e])]
      have := drop_one a r n2
      simp only [List.length_cons]
      omega
theorem left_len : ∀ (l xs : List Nat), xs.Nodup → xs.length ≤ (xs.filter fun c => !decide (c ∈ l)).length + l.length
  | [], xs, _ => by
    have e : (xs.filter fun c => !decide (c ∈ ([] : List Nat))) = xs := List.filter_eq_self.mpr (by simp)
    rw [e] <;> exact Nat.le_refl _
  | a :: l, xs, nd => by
    have ih := left_len l xs nd
    have e : (xs.filter fun c => !decide (c ∈ a :: l)) = ((xs.filter fun c => !decide (c ∈ l)).filter fun c => !decide (c = a)) := by
      rw [List.filter_filter]
      refine List.filter_congr fun c _ => ?_
      by_cases h1 : c = a <;> by_cases h2 : c ∈ l <;> simp [h1, h2]
    have := drop_one a _ (nd.filter fun c => !decide (c ∈ l))
    rw [e]
    simp only [List.length_cons]
    omega
theorem rest_pos {l : List Nat} (h : l.length < 26) : 0 < (abc.filter fun c => !decide (c ∈ l)).length := by
  have := left_len l abc (by unfold abc; decide)
  rw [abc_len] at this
  omega
theorem PoolAt.up {H : Hp} {p q : Addr} {o : HO} (h : PoolAt H p) (n : H q = none) : PoolAt (L2.upd H q o) p := by
  obtain ⟨a, b, c, e, r⟩ := h
  exact ⟨a, b, c, by rw [upd_ne (ne_of_none e n)]; exact e, r⟩
theorem PoolAt.ne {H : Hp} {p q : Addr} (h : PoolAt H p) (n : H q = none) : q ≠ p := by
  obtain ⟨a, b, c, e, r⟩ := h
  exact (ne_of_none e n).symm
theorem PoolAt.put {H : Hp} {p q : Addr} {o : HO} (h : PoolAt H p) (n : q ≠ p) : PoolAt (L2.upd H q o) p := by
  obtain ⟨a, b, c, e, r⟩ := h
  exact ⟨a, b, c, by rw [upd_ne n.symm]; exact e, r⟩
/-- a store at a thing that was not there at first -/
theorem But.new {p q : Addr} {o : HO} {H H' : Hp} (a : But p H H') (n : H q = none) : But p H (L2.upd H' q o) := fun c u k h => by
  rw [upd_ne (ne_of_none h n)]
  exact a c u k h
theorem But.free {p q : Addr} {H H' : Hp} (a : But p H H') (n : H' q = none) (ne : q ≠ p) : H q = none := by
  cases e : H q with
  | none => rfl
  | some o =>
    rw [a q o ne e] at n
    cases n
theorem take_more {α : Type} : ∀ {l : List α} {i : Nat} {x : α}, l[i]? = some x → l.take (i + 1) = l.take i ++ [x] := fun {l i x} h => by
  rw [List.take_add_one, h] <;> rfl
def vOne (c : Nat) : V := .str (one c)
section
variable {P : Program} {w : World} {K : PySem.W.Frag} {mg : Str → Option Value} {base : Heap} {f fD : Addr} {fd fdD : FuncData}
theorem scS : FnScope ["_law_pool_here", "_law_most", "_law_found", "_law_turn", "_law_rest", "_law_mark"] ["_law_pool_here", "_law_most"] (defScope sSigns) := ⟨rfl, rfl, rfl, by decide +kernel, rfl, by decide +kernel, by decide +kernel⟩
theorem ok_signs (F : Fun K "_law_signs" "_law_signs" sSigns f fd) (D : Def K mg "_law_draw" sDraw ["_law_pool_here", "_law_many"] fD fdD) (mInt : mg "int" = none) (mDm : mg "divmod" = none) (mLen : mg "len" = none) (mRange : mg "range" = none) :
    FnOk P w K mg base CX0 2 f fd ["_law_pool_here", "_law_most"] spSigns := by
  have G : FnOk P w K mg base CX0 1 fD fdD ["_law_pool_here", "_law_many"] spDraw := ok_draw D.F mInt mDm
  refine F.ok scS (fun vs H Q E h => ?_) (fun cdv A outer s H vs Q E hr h => ?_)
  · obtain ⟨p, m, rfl, _⟩ := h
    rfl
  · obtain ⟨p, m, rfl, m0, m1, hp, k⟩ := h
    refine ⟨_, pss_cons (ps_set (i := 2) scS.nd rfl (.inr rfl) pe_str)
      (pss_cons (ps_for PassesOwn.never rfl (pi_range1 rfl mRange (pa_cons (pe_op op_add pe_int (pe_call G hr rfl D.g D.kp D.b .nil pass0 (pa_cons (pv 0) (pa_cons (pv 1) pa_nil)))) pa_nil)) (pg_name (i := 3) scS.nd rfl (.inl rfl))
        (pss_cons (ps_setLc (i := 4) (own := [("_law_mark", 5)]) (g := gName 5) rfl scS.nd rfl rfl (sw_true rfl rfl rfl (by decide +kernel)) (pi_str pe_str) (blkOk_by (N := ["_law_pool_here", "_law_most", "_law_found", "_law_turn", "_law_rest", "_law_mark"]) (sc := defScope sSigns) (by decide +kernel))
            (fun _ _ _ _ _ => pg_name (i := 5) scS.nd rfl (.inl rfl)) (fun _ _ _ _ _ => pts_one (pt_cmpR op_notIn_sign (pv 5) (pv 2) rfl)) (fun _ _ _ _ _ => pv 5))
          (pss_one (ps_set (i := 2) scS.nd rfl (.inr rfl) (pe_op op_add_str (pv 2) (pe_ix ix_list (pv 4) (pe_call G hr rfl D.g D.kp D.b .nil pass0 (pa_cons (pv 0) (pa_cons (pe_callB call_len_seq (by rfl) mLen PySem.boot_len (pa_cons (pv 4) pa_nil)) pa_nil))) (fun _ _ => rfl)))))))
      (pss_one (ps_ret (pv 2)))), ?_⟩
    have e0 : (Str.ofString "" : Str) = S [] := by decide +kernel
    refine ⟨_, rfl, _, rfl, p, m, rfl, m0, by omega, hp, fun d H1 d0 d1 hp1 b1 => ⟨_, _, rfl, rfl, _, rfl, by omega, by omega, for_it walk_range
      (fun i σ H' => ∃ (l : List Nat) (v3 v4 v5 : Option V), σ = [some (.ref p), some (.int m), some (.str (S l)), v3, v4, v5] ∧ Low l ∧ l.Nodup ∧ l.length = i ∧ PoolAt H' p ∧ But p H H')
      ⟨[], none, none, none, by rw [← e0]; rfl, (fun c hc => nomatch hc), List.nodup_nil, rfl, hp1, b1⟩ (fun _ _ _ _ _ => trivial) ?_ ?_⟩⟩
    · rintro i x σ H2 H2' hi ⟨l, v3, v4, v5, rfl, lo, nd, ll, hp2, b2⟩ ⟨rfl, rfl⟩
      refine ⟨_, rfl, fun D hD => lc_it walk_str (fun j H3 => H3 D = some (.lst (((abc.take j).filter fun c => !decide (c ∈ l)).map vOne)) ∧ PoolAt H3 p ∧ But p H H3) ?_ (fun _ _ _ _ => trivial) ?_ ?_⟩
      · exact ⟨upd_same, hp2.up hD, b2.upd hD⟩
      · rintro j y H3 H3' hj ⟨h1, h2, h3⟩ ⟨rfl, c, hc, rfl⟩
        have hc' : abc[j]? = some c := by
          rw [abc_is] at hc
          simpa [S] using hc
        have hD0 : H D = none := b2.free hD (hp2.ne hD)
        refine ⟨rfl, _, rfl, _, rfl, c, S l, rfl, rfl, _, rfl, ite2 (fun q => ?_) (fun q => ?_)⟩
        · refine ⟨_, rfl, _, h1, ?_, ?_, h2.put (hp2.ne hD), h3.new hD0⟩
          · rw [List.length_map, sizeLine_eq]
            have := List.length_filter_le (fun c => !decide (c ∈ l)) (abc.take j)
            have := List.length_take_le' j abc
            rw [abc_len] at this
            omega
          · rw [upd_same, take_more hc', List.filter_append, List.map_append]
            rw [S_cps] at q
            rw [show ([c].filter fun c => !decide (c ∈ l)) = [c] from List.filter_cons_of_pos q] <;> rfl
        · refine ⟨?_, h2, h3⟩
          rw [S_cps] at q
          rw [h1, take_more hc', List.filter_append, show ([c].filter fun c => !decide (c ∈ l)) = [] from List.filter_cons_of_neg q, List.append_nil]
      · rintro H3 ⟨h1, h2, h3⟩
        have full : abc.take ("abcdefghijklmnopqrstuvwxyz" : Str).cps.size = abc := by rw [abc_is, S_size, List.take_length]
        rw [full] at h1
        have ne : 0 < (abc.filter fun c => !decide (c ∈ l)).length := rest_pos (by omega)
        refine ⟨_, rfl, _, rfl, _, rfl, _, rfl, D, _, rfl, .inl (SqL.of h1), p, _, rfl, ?_, ?_, h2, fun e H4 e0 e1 hp4 b4 => ?_⟩
        · rw [List.length_map]
          omega
        · rw [List.length_map]
          have := List.length_filter_le (fun c => !decide (c ∈ l)) abc
          rw [abc_len] at this
          omega
        · have e1' : e.toNat < (abc.filter fun c => !decide (c ∈ l)).length := by
            rw [List.length_map] at e1
            omega
          obtain ⟨c, hc⟩ : ∃ c, (abc.filter fun c => !decide (c ∈ l))[e.toNat]? = some c := ⟨_, List.getElem?_eq_getElem e1'⟩
          obtain ⟨c1, c2⟩ := List.mem_filter.mp (List.mem_of_getElem? hc)
          have c3 : c ∉ l := by simpa using c2
          have hat : atI ((abc.filter fun c => !decide (c ∈ l)).map vOne) e = some (vOne c) := by
            have q := atI_nat (xs := (abc.filter fun c => !decide (c ∈ l)).map vOne) (j := e.toNat) (v := vOne c) (by rw [List.getElem?_map, hc] <;> rfl)
            rwa [Int.toNat_of_nonneg e0] at q
          have h4 := b4 D _ (hp2.ne hD) h1
          refine ⟨D, _, _, _, rfl, rfl, SqL.of h4, hat, _, _, rfl, rfl, ?_, l ++ [c], some (.int (0 + (i : Nat))), some (.ref D), v5, ?_, fun z hz => ?_, ?_, ?_, hp4, h3.trans b4⟩
          · rw [S_len, sizeLine_eq]
            show l.length + 1 ≤ 16777216
            omega
          · rw [← S_add]
            rfl
          · rcases List.mem_append.mp hz with hz | hz
            · exact lo z hz
            · rw [List.mem_singleton.mp hz]
              exact abc_low c c1
          · rw [List.nodup_append]
            exact ⟨nd, by simp, fun a ha b hb q => c3 (by rw [← List.mem_singleton.mp hb, ← q]; exact ha)⟩
          · rw [List.length_append, ll] <;> rfl
    · rintro σ H2 ⟨l, v3, v4, v5, rfl, lo, nd, ll, hp2, b2⟩
      exact ⟨_, rfl, k l _ lo nd (by omega) (by omega) hp2 b2⟩
end
end Wb
namespace Wb
open PySem L2 WbMin
theorem one_cat : ∀ (l : List Nat) (c : Nat), Str.join (S []) ((c :: l).map one) = S (c :: l)
  | [], c => rfl
  | d :: l, c => by
    have ih := one_cat l d
    show one c ++ S [] ++ Str.join (S []) ((d :: l).map one) = S (c :: d :: l)
    rw [ih, S_one, S_add, S_add]
    rfl
theorem join_one {l : List Nat} (h : 0 < l.length) : Txt.join (Str.ofString "") (l.map one) = S l := by
  have e0 : (Str.ofString "" : Str) = S [] := by decide +kernel
  cases l with
  | nil => cases h
  | cons c l =>
    rw [e0]
    show Builtin.Str.glued (S []) ((c :: l).map one) = S (c :: l)
    rw [StrLaws.glued_eq_join]
    exact one_cat l c
end Wb
/-! set(xs) and len(set(xs)) of a list of texts, any of them, below the scanned bound -/
namespace WbSet
open PySem PySem.Spec PyProof.Rows
/-- the different ones, by their first places -/
def addNew (acc : List Str) (x : Str) : List Str := if x ∈ acc then acc else acc ++ [x]
def differ (xs : List Str) : List Str := xs.foldl addNew []
theorem addNew_mem (acc : List Str) (x k : Str) : k ∈ addNew acc x ↔ k ∈ acc ∨ k = x := by
  unfold addNew
  by_cases h : x ∈ acc
  · rw [if_pos h]
    exact ⟨.inl, fun q => q.elim id fun e => e ▸ h⟩
  · rw [if_neg h, List.mem_append, List.mem_singleton]
theorem addNew_len (acc : List Str) (x : Str) : (addNew acc x).length = if x ∈ acc then acc.length else acc.length + 1 := by
  unfold addNew
  by_cases h : x ∈ acc
  · rw [if_pos h, if_pos h]
  · rw [if_neg h, if_neg h, List.length_append] <;> rfl
theorem differ_more (xs : List Str) (x : Str) : differ (xs ++ [x]) = addNew (differ xs) x := by
  unfold differ
  rw [List.foldl_append] <;> rfl
theorem fold_le : ∀ (xs acc : List Str), (xs.foldl addNew acc).length ≤ acc.length + xs.length
  | [], acc => Nat.le_refl _
  | x :: r, acc => by
    have h1 := fold_le r (addNew acc x)
    have h2 : (addNew acc x).length ≤ acc.length + 1 := by rw [addNew_len]; split <;> omega
    show (r.foldl addNew (addNew acc x)).length ≤ acc.length + (r.length + 1)
    omega
theorem differ_le (xs : List Str) : (differ xs).length ≤ xs.length := by
  have h := fold_le xs []
  show (xs.foldl addNew []).length ≤ xs.length
  simpa using h
/-- what the set at a holds behind the first i -/
def Has (P : Program) (w : World) (h : Heap) (a : Addr) (ys : List Str) : Prop := h.SetOf (strKind P w) a (fun k => decide (k ∈ ys)) ys.length
section
variable {prog : Program} {w : World} {A : Around} {R : Result → Shared → Prop} {I : Addr} {fp wr : List Addr} {G : Array GenState → Array GenState → Prop} {n : Nat} {P : Nat → Value → Prop} {St : Nat → Shared → Prop}
theorem Has.keep {h h' : Heap} {a : Addr} {ys : List Str} (q : Has prog w h a ys) (k : ∀ o, h.get? a = some o → h'.get? a = some o) : Has prog w h' a ys := by
  obtain ⟨o, es, ep, t, ho, r⟩ := q
  exact ⟨o, es, ep, t, k o ho, r⟩
theorem Has.more {h : Heap} {a : Addr} {ys : List Str} {x : Str} (q : h.SetOf (strKind prog w) a (fun j => decide (j ∈ ys) || decide (j = x)) (if decide (x ∈ ys) = true then ys.length else ys.length + 1)) : Has prog w h a (addNew ys x) := by
  refine SetOf_congr q (fun k => ?_) ?_
  · rw [← Bool.decide_or]
    exact decide_eq_decide.mpr (addNew_mem ys x k).symm
  · rw [addNew_len]
    by_cases e : x ∈ ys
    · rw [if_pos e, if_pos (decide_eq_true e)]
    · rw [if_neg e, if_neg (fun z => e (of_decide_eq_true z))]
theorem turns (W : WalksS prog w A.in1 I fp wr G n P St) (T : Addr) (nT : T ∉ fp) (xs : List Str) (lx : xs.length = n) (few : n + 1 < scanBound) (told : ∀ i v, P i v → ∃ x t, xs[i]? = some x ∧ v = .str x t) :
    ∀ (left i : Nat) (s : Shared), n - i = left → i ≤ n → St i s → Has prog w s.heap T (differ (xs.take i)) →
      (∀ s', Moved (T :: wr) G s s' → Has prog w s'.heap T (differ xs) → R (.ok (.ret .none)) s') → codeAny (model prog w) A (.builtin "set.update.loop" ⟨[.ref T, .ref I], []⟩) R s := by
  have nTw : T ∉ wr := fun q => nT (W.sub _ q)
  have wider : ∀ b ∈ wr, b ∈ T :: wr := fun _ q => List.mem_cons_of_mem _ q
  intro left
  induction left with
  | zero =>
    intro i s e1 e2 hst has fin
    obtain rfl : i = n := by omega
    refine codeAny_builtin PyProof.Rows.F.entry_set_update_loop ?_ ; rw [Around.under_plainId PyProof.Rows.F.plain_set_update_loop _]
    show wpAny _ A.in1 (pyNext (.ref I) >>= _) _ _ s ; refine wpAny_bind (W.done s _ _ hst fun s1 mv => ?_)
    show wpAny _ A.in1 (ret Value.none) _ _ s1
    refine wpAny_pure (fin s1 (mv.mono wider) ?_)
    rw [← lx, List.take_length] at has
    exact has.keep fun o e => mv.heap T o nTw e
  | succ left ih =>
    intro i s e1 e2 hst has fin
    have lt : i < n := by omega
    refine codeAny_builtin PyProof.Rows.F.entry_set_update_loop ?_ ; rw [Around.under_plainId PyProof.Rows.F.plain_set_update_loop _]
    show wpAny _ A.in1 (pyNext (.ref I) >>= _) _ _ s ; refine wpAny_bind (W.item i s _ _ lt hst fun v s1 hP hst1 mv => ?_)
    obtain ⟨x, t, hx, rfl⟩ := told i v hP
    have has1 : Has prog w s1.heap T (differ (xs.take i)) := has.keep fun o e => mv.heap T o nTw e
    have room : (differ (xs.take i)).length + 1 < scanBound := by
      have := differ_le (xs.take i)
      rw [List.length_take] at this
      omega
    have step : differ (xs.take (i + 1)) = addNew (differ (xs.take i)) x := by
      rw [← differ_more, List.take_add_one, hx] <;> rfl
    show wpAny _ A.in1 (holding [Value.str x t] (setAdd T (.str x t)) >>= _) _ _ s1 ; refine wpAny_bind (wpAny_holding ?_)
    unfold setAdd ; refine wpAny_holding (wpAny_bind ((strKind prog w).pyHash (k := x) (strKind_is _ _ _ _) ?_))
    refine wpAny_setAddHashed_of (knd := strKind prog w) (s := { s1 with toks := s1.toks + 1 }) (strKind_is _ _ _ _) rfl has1 room fun h2 but new => ?_
    have has2 : Has prog w h2 T (differ (xs.take (i + 1))) := by rw [step]; exact Has.more new
    refine wpAny_pure ⟨plainId_quiet PyProof.Rows.F.plain_set_update_loop _, ih (i + 1) _ (by omega) lt (W.frame _ s1 _ _ hst1 (Nat.le_succ _) fun b hb o e => ?_) has2 fun s2 mv2 has3 => fin s2 (Moved.trans W.gtrans ((mv.mono wider).then_heap (Nat.le_succ _) fun b o hb e => ?_) mv2) has3⟩
    · rw [but.2 b fun q => nT (q ▸ hb)] ; exact e
    · rw [but.2 b fun q => hb (q ▸ List.mem_cons_self)] ; exact e
end
section
variable {prog : Program} {w : World} {A : Around} {E : Value → Shared → Prop} {s : Shared}
theorem strs_told : ∀ {vs : List Value} {xs : List Str}, StrsAre vs xs → ∀ (i : Nat) (v : Value), vs[i]? = some v → ∃ x t, xs[i]? = some x ∧ v = .str x t
  | _, _, .nil, i, v, h => by simp at h
  | _, _, .cons x t r, 0, v, h => ⟨x, t, rfl, by simp at h; exact h.symm⟩
  | _, _, .cons x t r, i + 1, v, h => by
    simp only [List.getElem?_cons_succ] at h ⊢
    exact strs_told r i v h
/-- the set object that set() makes first -/
abbrev setO (led : Bool) : Obj := { cls := .type "set", dict := none, data := .set #[] 0 (.fresh 0 0 led) }
set_option maxHeartbeats 3200000 in
theorem call_set {l : Addr} {items : Array Value} {xs : List Str} {Q : Value → Shared → Prop} (calm : A.handled = none) (il : s.heap.IsList l items) (told : StrsAre items.toList xs) (few : xs.length + 1 < scanBound)
    (k : ∀ (h' : Heap) (tk : Nat), Has prog w h' s.heap.objs.size (differ xs) → (∀ b o, b < s.heap.objs.size → s.heap.get? b = some o → h'.get? b = some o) → Q (.ref s.heap.objs.size) { s with heap := h', toks := tk }) :
    wpAny (model prog w) A (call (.type "set") [.ref l]) Q E s := by
  obtain ⟨c, tl, mro⟩ := PySem.F.called_set.mro
  have f1 := PySem.F.called_set.made
  have f2 := PySem.F.called_set.sub
  refine wpAny_call (codeAny_of_tree ?_) ; show wpAny _ _ (callAny (.type "set") _) _ _ _
  refine wpAny_pure ⟨Code.quiet_builtin _ (by decide +kernel), codeAny_builtin PySem.F.entry_type_call ?_⟩ ; rw [Around.under_plain (weight_type_call_type "set" [.ref l] []) rfl]
  have f3 := PySem.F.called_set.notType
  have f4 := PySem.F.called_set.canCreate
  have f5 := PySem.F.typeCall_set_1 (.ref l)
  repeat (any_goals (first | assumption | wp_step))
  refine codeAny_mono (code_set_new_1 (.ref l) (E := E) (Q₁ := fun v s1 => ∃ led : Bool, v = .ref s.heap.objs.size ∧ s1 = { s with heap := s.heap.push (setO led) }) fun led => ⟨led, rfl, rfl⟩) fun r s1 hr => ?_
  cases r with
  | error e => exact hr
  | ok fl =>
    cases fl with
    | ret v =>
      obtain ⟨led, rfl, rfl⟩ := hr
      have g1 : (s.heap.push (setO led)).get? s.heap.objs.size = some (setO led) := Heap.get?_push_size _ rfl
      have g2 : Shared.TypeIs { s with heap := s.heap.push (setO led) } (.ref s.heap.objs.size) "set" := ⟨_, g1, rfl⟩
      have f6 := PySem.F.called_set.init.lookup
      have f7 := PySem.F.called_set.init.bind (.ref s.heap.objs.size)
      repeat (any_goals (first | assumption | wp_step))
      refine codeAny_mono (codeAny_call_builtin (R := wants (fun r s2 => r = .none ∧ ∃ h' tk, s2 = { s with heap := h', toks := tk } ∧ Has prog w h' s.heap.objs.size (differ xs) ∧ (∀ b o, b < s.heap.objs.size → s.heap.get? b = some o → h'.get? b = some o)) E) PySem.F.called_set.init.plain PySem.F.entry_set_init (check_set_init_1 g2 ?_)) fun r2 s2 hr2 => ?_
      · obtain ⟨⟨oc, od, dt, sl⟩, ho, hc, nl, hd⟩ := il
        simp only at hc hd
        subst hc hd
        have g3 : (s.heap.push (setO led)).get? l = some { cls := .type "list", dict := od, data := .seq items nl, slots := sl } := Heap.get?_push_of_some _ ho
        have f8 := PySem.F.sub_list_set
        have f9 := PySem.F.sub_list_frozenset
        have f10 : (Value.type "list" == Value.type "dict") = false := by decide
        have il1 : (s.heap.push (setO led)).IsList l items := ⟨_, g3, rfl, nl, rfl⟩
        unfold Builtin.«set.__init__» noKeywords Builtin.Frozenset.updateFrom
        generalize hit : pyIter = it
        wp_walk
        subst hit
        refine wpAny_pyIter_list il1 (wpAny_bind (wpAny_runValue ?_))
        have lt : l < s.heap.objs.size := Heap.lt_size ho
        have calm3 : A.in1.in1.in1.handled = none := by simp [calm]
        have sz : (s.heap.push (setO led)).objs.size = s.heap.objs.size + 1 := Heap.size_push _ _
        have ne1 : l ≠ (s.heap.push (setO led)).objs.size := by rw [sz]; exact Nat.ne_of_lt (Nat.lt_succ_of_lt lt)
        have ne2 : s.heap.objs.size ∉ [(s.heap.push (setO led)).objs.size, l] := by
          intro q
          rcases List.mem_cons.mp q with q | q
          · rw [sz] at q; exact absurd q (Nat.ne_of_lt (Nat.lt_succ_self _))
          · exact absurd (List.mem_singleton.mp q) (Nat.ne_of_gt lt)
        have lx : xs.length = items.size := by rw [← StrsAre.len_eq told, Array.length_toList]
        refine turns ((Walks.list calm3 _ l ne1 items).toS) s.heap.objs.size ne2 xs lx (by rw [← lx]; exact few) (fun i v hv => strs_told told i v (by rw [Array.getElem?_toList]; exact hv)) (items.size - 0) 0 _ (by omega) (Nat.zero_le _) ⟨⟨_, Heap.get?_push_size _ rfl, rfl, rfl⟩, (il1.push _)⟩ ?start ?fin
        case start =>
          have g4 : ((s.heap.push (setO led)).push { cls := .type "list_iterator", data := .fields #[.ref l, .int 0 0] }).get? s.heap.objs.size = some (setO led) := Heap.get?_push_of_some _ g1
          exact SetOf_congr ((setObjOf_fresh (knd := strKind prog w) led).setOf g4 (by unfold scanBound; omega)) (fun _ => rfl) rfl
        case fin =>
          intro s3 mv has
          obtain ⟨h3, g3', d3, tk3, os3⟩ := s3
          obtain rfl : g3' = s.gens := mv.gens
          obtain rfl : d3 = s.drawn := mv.drawn
          obtain rfl : os3 = s.os := mv.os
          show wpAny _ _ _ _ _ _ ; refine wpAny_pure ?_ ; show wpAny _ _ (ret Value.none) _ _ _
          refine wpAny_pure ⟨rfl, h3, tk3, rfl, has, fun b o hb e => mv.heap b o ?_ (Heap.get?_push_of_some _ (Heap.get?_push_of_some _ e))⟩
          intro q
          rcases List.mem_cons.mp q with q | q
          · exact absurd q (Nat.ne_of_lt hb)
          · have q2 := List.mem_singleton.mp q
            rw [sz] at q2
            exact absurd q2 (Nat.ne_of_lt (Nat.lt_succ_of_lt hb))
      · cases r2 with
        | error e => exact hr2
        | ok fl2 =>
          cases fl2 with
          | ret r =>
            obtain ⟨rfl, h', tk, rfl, has, kept⟩ := hr2
            repeat (any_goals (first | assumption | wp_step))
            exact k _ _ has kept
          | _ => exact hr2.elim
    | _ => exact hr.elim
end
end WbSet
namespace WbSet
open PySem PySem.Spec PyProof.Rows L2
variable {X : Cx}
/-- len(set(xs)), xs a list of texts -/
def tLenSet (K : PySem.W.Frag) (ta : TE) : TE := fun σ H Q => ta σ H fun x H1 => ∃ l, ∃ xs : List Str, x = .ref l ∧ SqL K H1 l (xs.map V.str) ∧ xs.length ≤ 4000 ∧ Q (.int (differ xs).length) H1
theorem pe_lenSet {a : Expr} {ta : TE} {p p2 q pos : Pos} (hc : X.calm = true) (hg : Gl X "len") (hm : X.mg "len" = none) (hg2 : Gl X "set") (hm2 : X.mg "set" = none) (ha : PE X a ta)
    (na : starEach [a] X.env = (false, eval a X.env) :: starEach [] X.env := by rfl) : PE X (.Call (.Name "len" p) [.Call (.Name "set" p2) [a] [] q] [] pos) (tLenSet X.K ta) := by
  refine ⟨fun pins s σ H Q I h => Call_ (ld_blt I hg hm boot_len ?_)⟩
  refine callWith_builtin1 (args_cons (Call_ (ld_blt I hg2 hm2 boot_set ?_)) rfl) rfl rfl
  refine callWith_type1 (args_cons (thn (ha.run pins s σ H _ I h) fun v s1 ⟨x, H1, I1, r1, q1⟩ => args_nil ?_) na) na rfl
  obtain ⟨l, xs, rfl, hq, few, q1⟩ := q1
  cases r1
  obtain ⟨its, r, pl, hz⟩ := I1.list hq
  refine call_set (I1.ok.hd hc) pl.isList (by simpa using strsAre_of r) (by unfold scanBound; omega) fun h' tk has kept => args_nil ?_
  obtain ⟨o, es, ep, t, ho, hex, hd, _, _, _, hf, hn⟩ := has
  have I2 : Inv X pins σ H1 { s1 with heap := h', toks := tk } := I1.kept fun b o e => kept b o (Heap.lt_size e) e
  have le := differ_le xs
  exact call_len_set ho hex hd hf (by rw [hn]; omega) ⟨.int (differ xs).length, H1, I2.tok _, ⟨_, by rw [hn]⟩, q1⟩
end WbSet
/-! sorted of a text, of a tuple of texts; len(set(z)) of a text -/
namespace WbS
open PySem PySem.Spec PyProof.Rows L2
section
variable {X : Cx}
def sOne (c : Nat) : Str := ⟨#[c]⟩
/-- a new list of these texts, sorted -/
theorem sort_new {pins : List (Addr × Obj)} {σ : L2.St} {H : Hp} {s : Shared} {Q : VK} {us : List Value} {ks : List Str} (I : Inv X pins σ H s) (hS : StrsAre us ks) (h64 : ks.length < 64) (q : ∀ ys p, ys.Perm ks → sortedS ys = true → H p = none → Q (.ref p) (upd H p (.lst (ys.map V.str)))) :
    wpAny (model X.prog X.w) X.A.in1 (newList us >>= fun l => holding [l] (call (.builtin "list.sort") [l] []) >>= fun _ => ret l) (fun fin s' => ∃ v, fin = .done (.ret v) ∧ ∃ x H', Inv X pins σ H' s' ∧ RelV x v ∧ Q x H') X.xe s := by
  have hal : us.length = ks.length := hS.len_eq
  refine wpAny_bind (wpAny_newList ?_ (by rw [hal, sizeLine_eq]; omega))
  have hoL : (s.heap.push (seqObj "list" us.toArray 0)).get? s.heap.objs.size = some (seqObj "list" us.toArray 0) := Heap.get?_push_size _ rfl
  show wpAny _ _ _ _ _ { s with heap := s.heap.push (seqObj "list" us.toArray 0) }
  refine wpAny_bind (wpAny_holding (wpAny_call_entry PyProof.Rows.slot_list_sort ⟨_, hoL, rfl⟩ PyProof.Rows.entry_list_sort
    (list_sort_treeK strKind_oneLt (s := { s with heap := s.heap.push (seqObj "list" us.toArray 0) }) hoL hS.keysOf (fun v₁ v₂ rest e => keyKind_strs (by rw [← e]; exact hS)) (by rw [hal]; exact h64) fun st' hp hs => ⟨_, rfl, ?_⟩)
    (PyProof.Rows.args_list_sort _)))
  obtain ⟨ys, g1, g2, g3⟩ := sorted_out_str hS hp hs
  obtain ⟨e', he'⟩ := PyProof.Rows.sortedHeap_at (vs := us) (out := (arrOf st').map (·.2)) hoL
  have hlen : (ys.map V.str).length ≤ sizeLine := by
    rw [List.length_map, g2.length_eq]
    exact Nat.le_trans (Nat.le_of_lt h64) (by decide)
  refine wpAny_pure ⟨_, rfl, .ref s.heap.objs.size, upd H s.heap.objs.size (.lst (ys.map V.str)), I.laid (t' := s.toks) (fun b u e => ?_) (Nat.le_refl _)
    (show ObjOk X.prog X.w _ _ _ (.lst (ys.map V.str)) from ⟨hlen, ((arrOf st').map (·.2)).toList, e', vals_of_strs g1, by rw [Array.toArray_toList]; exact he'⟩), rfl, q ys _ g2 g3 (I.hok.fresh (Nat.le_refl _))⟩
  have hb : b < s.heap.objs.size := Heap.lt_size e
  rw [PyProof.Rows.sortedHeap_old (Nat.ne_of_lt hb) (by rw [size_push']; exact Nat.lt_succ_of_lt hb)]
  exact Heap.get?_push_of_some _ e
theorem call_sortedTx (hcalm : X.calm = true) : CallR X (.builtin "sorted") (fun xs H Q => ∃ z : Str, xs = [.str z] ∧ z.length < 64 ∧ ∀ ys p, ys.Perm (z.cps.toList.map sOne) → sortedS ys = true → H p = none → Q (.ref p) (upd H p (.lst (ys.map V.str)))) := by
  intro pins s σ H xs us Q I r q
  obtain ⟨z, rfl, h64, q⟩ := q
  obtain ⟨u, rfl, t, rfl⟩ := vals1 r
  have h16 : z.cps.size ≤ sizeLine := by
    have : z.cps.size < 64 := h64
    rw [sizeLine_eq]; omega
  refine Calls.call_function_entry PyProof.Rows.kind_sorted PyProof.Rows.plain_sorted PyProof.Rows.entry_sorted (PyProof.Rows.args_sorted1 _) ?_
  unfold Builtin.«sorted»
  refine wpAny_bind (m := checkCount "sorted" 1 1 _) (wpAny_pure ?_)
  refine wpAny_bind (wpAny_collect_str (A := X.A.in1) (I.ok.hd hcalm) z t (fun s' acc hk e1 e2 e3 hacc => ?_) h16)
  obtain ⟨h', g', d', tk, os'⟩ := s'
  obtain rfl : g' = s.gens := e1
  obtain rfl : d' = s.drawn := e2
  obtain rfl : os' = s.os := e3
  have hS : StrsAre acc.toList (z.cps.toList.map sOne) := strs_at (by rw [Array.length_toList, hacc.1, List.length_map, Array.length_toList]) fun j v e => by
    obtain ⟨c, u, a1, a2⟩ := hacc.2 j v (by rw [← Array.getElem?_toList]; exact e)
    exact ⟨sOne c, u, by rw [List.getElem?_map, Array.getElem?_toList, a1] <;> rfl, a2⟩
  have I1 : Inv X pins σ H { s with heap := h', toks := tk } := I.kept hk
  exact sort_new I1 hS (by rw [List.length_map, Array.length_toList]; exact h64) q
theorem call_sortedTup : CallR X (.builtin "sorted") (fun xs H Q => ∃ (a : Addr) (ks : List Str), xs = [.ref a] ∧ SqT X.K H a (ks.map V.str) ∧ ks.length < 64 ∧ ∀ ys p, ys.Perm ks → sortedS ys = true → H p = none → Q (.ref p) (upd H p (.lst (ys.map V.str)))) := by
  intro pins s σ H xs us Q I r q
  obtain ⟨a, ks, rfl, hq, h64, q⟩ := q
  rw [Vals.ref1 r]
  obtain ⟨its, rv, ⟨o, ho, hc, n, hd⟩, hz⟩ := I.tuple hq
  have hS : StrsAre its ks := rv.strs
  have hl : its.length = ks.length := hS.len_eq
  refine Calls.call_function_entry PyProof.Rows.kind_sorted PyProof.Rows.plain_sorted PyProof.Rows.entry_sorted (PyProof.Rows.args_sorted1 _) ?_
  unfold Builtin.«sorted»
  refine wpAny_bind (m := checkCount "sorted" 1 1 _) (wpAny_pure ?_)
  refine wpAny_bind (wpAny_collect_seq (A := X.A.in1) a (.inr rfl) ho hc hd (fun h' hk => ?_) (by rw [List.size_toArray, hl, sizeLine_eq]; omega))
  have I1 : Inv X pins σ H { s with heap := h' } := I.kept (t' := s.toks) hk
  exact sort_new I1 hS h64 q
end
end WbS
namespace WbSet
open PySem PySem.Spec PyProof.Rows
def signs (x : Str) : List Str := x.cps.toList.map fun c => ⟨#[c]⟩
theorem signs_told {x : Str} {i : Nat} {v : Value} (h : SignAt x i v) : ∃ y t, (signs x)[i]? = some y ∧ v = .str y t := by
  obtain ⟨c, u, e1, e2⟩ := h
  refine ⟨⟨#[c]⟩, u, ?_, e2⟩
  unfold signs
  rw [List.getElem?_map, Array.getElem?_toList, e1] <;> rfl
section
variable {prog : Program} {w : World} {A : Around} {E : Value → Shared → Prop} {s : Shared}
set_option maxHeartbeats 3200000 in
theorem call_setT {x : Str} {u : Tok} {Q : Value → Shared → Prop} (calm : A.handled = none) (few : x.cps.size + 1 < scanBound)
    (k : ∀ (h' : Heap) (tk : Nat), Has prog w h' s.heap.objs.size (differ (signs x)) → (∀ b o, b < s.heap.objs.size → s.heap.get? b = some o → h'.get? b = some o) → Q (.ref s.heap.objs.size) { s with heap := h', toks := tk }) :
    wpAny (model prog w) A (call (.type "set") [.str x u]) Q E s := by
  obtain ⟨c, tl, mro⟩ := PySem.F.called_set.mro
  have f1 := PySem.F.called_set.made
  have f2 := PySem.F.called_set.sub
  refine wpAny_call (codeAny_of_tree ?_) ; show wpAny _ _ (callAny (.type "set") _) _ _ _
  refine wpAny_pure ⟨Code.quiet_builtin _ (by decide +kernel), codeAny_builtin PySem.F.entry_type_call ?_⟩ ; rw [Around.under_plain (weight_type_call_type "set" [.str x u] []) rfl]
  have f3 := PySem.F.called_set.notType
  have f4 := PySem.F.called_set.canCreate
  have f5 := PySem.F.typeCall_set_1 (.str x u)
  repeat (any_goals (first | assumption | wp_step))
  refine codeAny_mono (code_set_new_1 (.str x u) (E := E) (Q₁ := fun v s1 => ∃ led : Bool, v = .ref s.heap.objs.size ∧ s1 = { s with heap := s.heap.push (setO led) }) fun led => ⟨led, rfl, rfl⟩) fun r s1 hr => ?_
  cases r with
  | error e => exact hr
  | ok fl =>
    cases fl with
    | ret v =>
      obtain ⟨led, rfl, rfl⟩ := hr
      have g1 : (s.heap.push (setO led)).get? s.heap.objs.size = some (setO led) := Heap.get?_push_size _ rfl
      have g2 : Shared.TypeIs { s with heap := s.heap.push (setO led) } (.ref s.heap.objs.size) "set" := ⟨_, g1, rfl⟩
      have f6 := PySem.F.called_set.init.lookup
      have f7 := PySem.F.called_set.init.bind (.ref s.heap.objs.size)
      repeat (any_goals (first | assumption | wp_step))
      refine codeAny_mono (codeAny_call_builtin (R := wants (fun r s2 => r = .none ∧ ∃ h' tk, s2 = { s with heap := h', toks := tk } ∧ Has prog w h' s.heap.objs.size (differ (signs x)) ∧ (∀ b o, b < s.heap.objs.size → s.heap.get? b = some o → h'.get? b = some o)) E) PySem.F.called_set.init.plain PySem.F.entry_set_init (check_set_init_1 g2 ?_)) fun r2 s2 hr2 => ?_
      · have f8 := PySem.F.sub_str_set
        have f9 := PySem.F.sub_str_frozenset
        have f10 : (Value.type "str" == Value.type "dict") = false := by decide
        unfold Builtin.«set.__init__» noKeywords Builtin.Frozenset.updateFrom
        generalize hit : pyIter = it
        wp_walk
        subst hit
        refine wpAny_pyIter_str fun o St W hst => (wpAny_bind (wpAny_runValue ?_))
        have calm3 : A.in1.in1.in1.handled = none := by simp [calm]
        have sz : (s.heap.push (setO led)).objs.size = s.heap.objs.size + 1 := Heap.size_push _ _
        have ne2 : s.heap.objs.size ∉ [(s.heap.push (setO led)).objs.size] := by
          intro q
          have q := List.mem_singleton.mp q
          rw [sz] at q; exact absurd q (Nat.ne_of_lt (Nat.lt_succ_self _))
        have lx : (signs x).length = x.cps.size := by unfold signs; rw [List.length_map, Array.length_toList]
        refine turns ((W _ calm3).toS) s.heap.objs.size ne2 (signs x) lx few (fun i v hv => signs_told hv) (x.cps.size - 0) 0 _ (by omega) (Nat.zero_le _) hst ?start ?fin
        case start =>
          have g4 : ((s.heap.push (setO led)).push o).get? s.heap.objs.size = some (setO led) := Heap.get?_push_of_some _ g1
          exact SetOf_congr ((setObjOf_fresh (knd := strKind prog w) led).setOf g4 (by unfold scanBound; omega)) (fun _ => rfl) rfl
        case fin =>
          intro s3 mv has
          obtain ⟨h3, g3', d3, tk3, os3⟩ := s3
          obtain rfl : g3' = s.gens := mv.gens
          obtain rfl : d3 = s.drawn := mv.drawn
          obtain rfl : os3 = s.os := mv.os
          show wpAny _ _ _ _ _ _ ; refine wpAny_pure ?_ ; show wpAny _ _ (ret Value.none) _ _ _
          refine wpAny_pure ⟨rfl, h3, tk3, rfl, has, fun b o hb e => mv.heap b o ?_ (Heap.get?_push_of_some _ (Heap.get?_push_of_some _ e))⟩
          intro q
          rcases List.mem_cons.mp q with q | q
          · exact absurd q (Nat.ne_of_lt hb)
          · have q2 := List.mem_singleton.mp q
            rw [sz] at q2
            exact absurd q2 (Nat.ne_of_lt (Nat.lt_succ_of_lt hb))
      · cases r2 with
        | error e => exact hr2
        | ok fl2 =>
          cases fl2 with
          | ret r =>
            obtain ⟨rfl, h', tk, rfl, has, kept⟩ := hr2
            repeat (any_goals (first | assumption | wp_step))
            exact k _ _ has kept
          | _ => exact hr2.elim
    | _ => exact hr.elim
end
end WbSet
namespace WbSet
open PySem PySem.Spec PyProof.Rows L2
variable {X : Cx}
/-- len(set(z)), z a text -/
def tLenSetT (ta : TE) : TE := fun σ H Q => ta σ H fun x H1 => ∃ z : Str, x = .str z ∧ z.length ≤ 4000 ∧ Q (.int (differ (signs z)).length) H1
theorem pe_lenSetT {a : Expr} {ta : TE} {p p2 q pos : Pos} (hc : X.calm = true) (hg : Gl X "len") (hm : X.mg "len" = none) (hg2 : Gl X "set") (hm2 : X.mg "set" = none) (ha : PE X a ta)
    (na : starEach [a] X.env = (false, eval a X.env) :: starEach [] X.env := by rfl) : PE X (.Call (.Name "len" p) [.Call (.Name "set" p2) [a] [] q] [] pos) (tLenSetT ta) := by
  refine ⟨fun pins s σ H Q I h => Call_ (ld_blt I hg hm boot_len ?_)⟩
  refine callWith_builtin1 (args_cons (Call_ (ld_blt I hg2 hm2 boot_set ?_)) rfl) rfl rfl
  refine callWith_type1 (args_cons (thn (ha.run pins s σ H _ I h) fun v s1 ⟨x, H1, I1, r1, q1⟩ => args_nil ?_) na) na rfl
  obtain ⟨z, rfl, few, q1⟩ := q1
  obtain ⟨u, rfl⟩ := r1
  have few' : z.cps.size ≤ 4000 := few
  refine call_setT (I1.ok.hd hc) (by unfold scanBound; omega) fun h' tk has kept => args_nil ?_
  obtain ⟨o, es, ep, t, ho, hex, hd, _, _, _, hf, hn⟩ := has
  have I2 : Inv X pins σ H1 { s1 with heap := h', toks := tk } := I1.kept fun b o e => kept b o (Heap.lt_size e) e
  have le := differ_le (signs z)
  have ll : (signs z).length = z.cps.size := by unfold signs; rw [List.length_map, Array.length_toList]
  exact call_len_set ho hex hd hf (by rw [hn]; omega) ⟨.int (differ (signs z)).length, H1, I2.tok _, ⟨_, by rw [hn]⟩, q1⟩
end WbSet
namespace Wb
open PySem L2 WbMin WbS
abbrev sIsWord : Stmt := top 7
abbrev sIsSigns : Stmt := top 8
abbrev sSignOf : Stmt := top 9
/-- a word as it is passed -/
structure IsW (l : List Nat) : Prop where
  low : Low l
  pos : 0 < l.length
  few : l.length ≤ 600
theorem IsW.fits {l : List Nat} (h : IsW l) : (S l).length ≤ sizeLine := by
  rw [S_len, sizeLine_eq]
  have := h.few
  omega
def spIsWord : Sp := fun vs H Q _ => ∃ l : List Nat, vs = [.str (S l)] ∧ IsW l ∧ ∀ H', Same H H' → Q (.bl true) H'
/-- the built-ins that nobody has put another thing in the place of -/
structure Free (mg : Str → Option Value) : Prop where
  int : mg "int" = none
  len : mg "len" = none
  range : mg "range" = none
  divmod : mg "divmod" = none
  abs : mg "abs" = none
  isi : mg "isinstance" = none
  str : mg "str" = none
  all : mg "all" = none
  min : mg "min" = none
  max : mg "max" = none
  set : mg "set" = none
  bool : mg "bool" = none
theorem ifd {p A B : Prop} [Decidable p] (hp : p) (h : A) : if decide p = true then A else B := by
  rw [if_pos (decide_eq_true hp)]
  exact h
theorem ifn {p A B : Prop} [Decidable p] (hp : ¬ p) (h : B) : if decide p = true then A else B := by
  rw [if_neg (fun q => hp (of_decide_eq_true q))]
  exact h
theorem iteS {p A B : Prop} [Decidable p] (hp : ¬ p) (h : A) : if (!decide p) = true then A else B := by
  rw [decide_eq_false hp]
  exact h
theorem Same.new' {q : Addr} {o : HO} {H H' : Hp} (a : Same H H') (n : H q = none) : Same H (L2.upd H' q o) := fun c u h => by
  rw [upd_ne (ne_of_none h n)]
  exact a c u h
/-! ### lists without doubles -/
theorem few_of_sub {α : Type} [DecidableEq α] : ∀ (l xs : List α), xs.Nodup → (∀ x ∈ xs, x ∈ l) → xs.length ≤ l.length
  | [], xs, _, h => by
    cases xs with
    | nil => exact Nat.le_refl _
    | cons x r => exact absurd (h x List.mem_cons_self) (List.not_mem_nil)
  | a :: l, xs, nd, h => by
    have e : (xs.filter fun c => !decide (c = a)).length ≤ l.length := few_of_sub l _ (nd.filter _) fun x hx => by
      obtain ⟨h1, h2⟩ := List.mem_filter.mp hx
      rcases List.mem_cons.mp (h x h1) with q | q
      · simp [q] at h2
      · exact q
    have d : xs.length ≤ (xs.filter fun c => !decide (c = a)).length + 1 := by
      clear e h
      induction xs with
      | nil => exact Nat.zero_le _
      | cons y r ih =>
        obtain ⟨n1, n2⟩ := List.nodup_cons.mp nd
        by_cases q : y = a
        · have e1 : (r.filter fun c => !decide (c = a)) = r := List.filter_eq_self.mpr fun c hc => by
            have : c ≠ a := fun z => n1 (q ▸ z ▸ hc)
            simp [this]
          rw [List.filter_cons_of_neg (by simp [q]), e1] <;> exact Nat.le_refl _
        · rw [List.filter_cons_of_pos (by simp [q])]
          have := ih n2
          simp only [List.length_cons]
          omega
    simp only [List.length_cons]
    omega
theorem same_count {α : Type} [DecidableEq α] {xs ys : List α} (nx : xs.Nodup) (ny : ys.Nodup) (h : ∀ x, x ∈ xs ↔ x ∈ ys) : xs.length = ys.length :=
  Nat.le_antisymm (few_of_sub ys xs nx fun x q => (h x).mp q) (few_of_sub xs ys ny fun x q => (h x).mpr q)
theorem fold_mem (x : Str) : ∀ (xs acc : List Str), x ∈ xs.foldl WbSet.addNew acc ↔ x ∈ acc ∨ x ∈ xs
  | [], acc => by simp
  | y :: r, acc => by
    rw [List.foldl_cons, fold_mem x r, WbSet.addNew_mem, List.mem_cons, or_assoc]
theorem fold_nodup : ∀ (xs acc : List Str), acc.Nodup → (xs.foldl WbSet.addNew acc).Nodup
  | [], _, h => h
  | y :: r, acc, h => fold_nodup r _ (by
    unfold WbSet.addNew
    by_cases q : y ∈ acc
    · rw [if_pos q] <;> exact h
    · rw [if_neg q, List.nodup_append]
      exact ⟨h, by simp, fun a ha b hb e => q (by rw [← List.mem_singleton.mp hb, ← e]; exact ha)⟩)
theorem differ_mem (x : Str) (xs : List Str) : x ∈ WbSet.differ xs ↔ x ∈ xs := by
  unfold WbSet.differ
  rw [fold_mem]
  simp
theorem differ_nodup (xs : List Str) : (WbSet.differ xs).Nodup := fold_nodup xs [] List.nodup_nil
theorem S_inj {l m : List Nat} (h : S l = S m) : l = m := by rw [← S_cps l, h, S_cps]
theorem getD_at {l : List Nat} {i : Nat} (h : i < l.length) : l[i]? = some (l.getD i 0) := by
  rw [List.getD_eq_getElem?_getD, List.getElem?_eq_getElem h] <;> rfl
/-- the signs of a kind, in any order -/
structure Sgs (l : List Nat) : Prop where
  low : Low l
  nd : l.Nodup
  pos : 0 < l.length
  few : l.length ≤ 4
theorem Sgs.w {l : List Nat} (h : Sgs l) : IsW l := ⟨h.low, h.pos, by have := h.few; omega⟩
def spIsSigns : Sp := fun vs H Q _ => ∃ l, vs = [.str (S l)] ∧ Sgs l ∧ ∀ H', Same H H' → Q (.bl true) H'
def spSignOf : Sp := fun vs H Q _ => ∃ (c : Nat) (sg : List Nat), vs = [.str (S [c]), .str (S sg)] ∧ c ∈ sg ∧ Q (.bl true) H
theorem flat_strs (zs : List Str) : (zs.map V.str).all flatV = true := by rw [List.all_map]; exact List.all_eq_true.mpr fun _ _ => rfl
theorem inV_strs (z : Str) (zs : List Str) : inV (.str z) (zs.map V.str) = decide (z ∈ zs) := by
  unfold inV
  rw [List.any_map, Bool.eq_iff_iff, List.any_eq_true, decide_eq_true_iff]
  constructor
  · rintro ⟨y, hy, e⟩
    have e' : (y == z) = true := e
    rw [← beq_iff_eq.mp e']
    exact hy
  · intro h
    exact ⟨z, h, beq_self_eq_true z⟩
theorem take_nd {α : Type} [DecidableEq α] {l : List α} {i : Nat} {x : α} (nd : l.Nodup) (h : l[i]? = some x) : x ∉ l.take i := by
  intro m
  obtain ⟨j, hj, e⟩ := List.getElem_of_mem m
  rw [List.length_take] at hj
  rw [List.getElem_take] at e
  obtain ⟨hi, e2⟩ := List.getElem?_eq_some_iff.mp h
  exact (List.pairwise_iff_getElem.mp nd) j i (by omega) hi (by omega) (e.trans e2.symm)
section
variable {P : Program} {w : World} {K : PySem.W.Frag} {mg : Str → Option Value} {base : Heap} {f fD fS fW : Addr} {fd fdD fdS dW : FuncData}
theorem scIW : FnScope ["value", "sign"] ["value"] (defScope sIsWord) := ⟨rfl, rfl, rfl, by decide +kernel, rfl, by decide +kernel, by decide +kernel⟩
theorem ok_isword (F : Fun K "is_word" "is_word" sIsWord f fd) (Z : Free mg) (t6 : Tok) (g6 : mg "MOST_WORD" = some (.int 600 t6)) : FnOk P w K mg base CX0 1 f fd ["value"] spIsWord := by
  refine F.ok scIW (fun vs H Q E h => ?_) (fun cdv A outer s H vs Q E hr h => ?_)
  · obtain ⟨l, rfl, _⟩ := h
    rfl
  · obtain ⟨l, rfl, W, k⟩ := h
    refine ⟨_, pss_cons (ps_if (PW.pt (pw_or (pt_not (pt_val (pe_callB call_isi (by rfl) Z.isi (by decide +kernel) (pa_cons (pv 0) (pa_cons (pe_bltn (v := .ty "str") (u := .type "str") (by rfl) Z.str (by decide +kernel) rfl) pa_nil)))))
        (pw_or1 (pt_not (pt_chain op_le op_le pe_int (pe_callB call_len_str (by rfl) Z.len PySem.boot_len (pa_cons (pv 0) pa_nil)) (pe_glob (v := .int 600) (by rfl) g6 ⟨_, rfl⟩)))))) (pss_one (ps_never)) pss_nil)
      (pss_one (ps_ret (pe_callB (cr_all rfl) (by rfl) Z.all (by decide +kernel) (pa_cons
        (pe_lc (own := [("sign", 1)]) (g := gName 1) (tt := tYes) rfl scIW.nd (pi_str (pv 0)) (blkOk_by (N := ["value", "sign"]) (sc := defScope sIsWord) (by decide +kernel)) (fun _ _ _ _ _ => pg_name (i := 1) scIW.nd rfl (.inl rfl)) (fun _ _ _ _ _ => pts_nil)
          (fun _ _ _ _ _ => pe_chain op_le_str op_le_str pe_str (pv 1) pe_str)) pa_nil)))), ?_⟩
    have len1 : 1 ≤ ((S l).length : Int) := by rw [S_len]; have := W.pos; omega
    have len2 : ((S l).length : Int) ≤ 600 := by rw [S_len]; have := W.few; omega
    refine ⟨_, rfl, _, _, .type "str", .type "str", true, rfl, .ty "str", .base (.str _), kit_ty (by decide +kernel), true, rfl, ?_⟩
    refine ⟨_, rfl, _, rfl, W.fits, _, _, rfl, rfl, _, rfl, ifd len1 ⟨_, _, rfl, rfl, _, rfl, iteNS len2 ?_⟩⟩
    refine ⟨_, rfl, _, rfl, fun D hD => lc_it walk_str (fun i H3 => H3 D = some (.lst ((List.replicate i true).map V.bl)) ∧ Same H H3) ⟨upd_same, Same.put (Same.refl H) hD⟩ (fun _ _ _ _ => trivial) ?_ ?_⟩
    · rintro i x H3 H3' hi ⟨h1, h2⟩ ⟨rfl, c, hc, rfl⟩
      have mem : c ∈ l := by
        have q := Array.mem_of_getElem? hc
        simpa [S] using q
      have c12 := W.low c mem
      have la : ¬ (([c] : List Nat) < [97]) := by rw [List.cons_lt_cons_iff]; simp; omega
      have lz : ¬ (([122] : List Nat) < [c]) := by rw [List.cons_lt_cons_iff]; simp; omega
      have ea : ("a" : Str).cps.toList = [97] := by decide +kernel
      have ez : ("z" : Str).cps.toList = [122] := by decide +kernel
      refine ⟨rfl, _, rfl, _, _, rfl, rfl, _, rfl, iteS (by rw [ea]; exact la) ⟨_, _, rfl, rfl, ?_⟩⟩
      rw [ez, decide_eq_false (show ¬ (([122] : List Nat) < (⟨#[c]⟩ : Str).cps.toList) from lz)]
      refine ⟨_, h1, ?_, ?_, Same.new' h2 hD⟩
      · rw [List.length_map, List.length_replicate, sizeLine_eq]
        have := W.few
        rw [S_size] at hi
        omega
      · rw [upd_same, List.replicate_succ', List.map_append] <;> rfl
    · rintro H3 ⟨h1, h2⟩
      refine ⟨D, _, rfl, SqL.of h1, ?_⟩
      have e : (List.replicate (S l).cps.size true).all id = true := List.all_eq_true.mpr fun b hb => by rw [List.eq_of_mem_replicate hb] <;> rfl
      show Q (.bl ((List.replicate (S l).cps.size true).all id)) H3
      rw [e]
      exact k H3 h2
theorem scSg : FnScope ["value"] ["value"] (defScope sIsSigns) := ⟨rfl, rfl, rfl, by decide +kernel, rfl, by decide +kernel, by decide +kernel⟩
theorem ok_issigns (F : Fun K "is_signs" "is_signs" sIsSigns f fd) (Z : Free mg) (DW : Def K mg "is_word" sIsWord ["value"] fW dW) (t6 : Tok) (g6 : mg "MOST_WORD" = some (.int 600 t6)) (t4 : Tok) (g4 : mg "MOST_SIGNS" = some (.int 4 t4)) : FnOk P w K mg base CX0 2 f fd ["value"] spIsSigns := by
  have GW : FnOk P w K mg base CX0 1 fW dW ["value"] spIsWord := ok_isword DW.F Z t6 g6
  refine F.ok scSg (fun vs H Q E h => ?_) (fun cdv A outer s H vs Q E hr h => ?_)
  · obtain ⟨l, rfl, _⟩ := h
    rfl
  · obtain ⟨l, rfl, G, k⟩ := h
    refine ⟨_, pss_one (ps_ret (pe_and (pe_call GW hr rfl DW.g DW.kp DW.b .nil pass0 (pa_cons (pv 0) pa_nil)) (pe_and (pe_cmpR op_le (pe_callB call_len_str (by rfl) Z.len PySem.boot_len (pa_cons (pv 0) pa_nil)) (pe_glob (v := .int 4) (by rfl) g4 ⟨_, rfl⟩) (nomark _))
      (pe_one (pe_cmpR op_eq (WbSet.pe_lenSetT rfl (by rfl) Z.len (by rfl) Z.set (pv 0)) (pe_callB call_len_str (by rfl) Z.len PySem.boot_len (pa_cons (pv 0) pa_nil)) (nomark _)))))), ?_⟩
    have few := G.few
    refine ⟨_, rfl, l, rfl, G.w, fun H1 s1 => ⟨true, rfl, _, rfl, _, rfl, G.w.fits, _, _, rfl, rfl, _, rfl, ifd (by rw [S_len]; omega) ?_⟩⟩
    refine ⟨_, rfl, S l, rfl, by rw [S_len]; omega, _, rfl, _, rfl, G.w.fits, rfl, ?_⟩
    have e : (WbSet.differ (WbSet.signs (S l))).length = (S l).length := by
      have nd : (WbSet.signs (S l)).Nodup := by
        unfold WbSet.signs
        rw [S_cps]
        exact List.Pairwise.map _ (fun a b h q => h (by injection q with q; injection q with q; injection q)) G.nd
      rw [same_count (differ_nodup _) nd (fun x => differ_mem x _)]
      unfold WbSet.signs
      rw [List.length_map, S_cps, S_len]
    rw [e, decide_eq_true rfl]
    exact k H1 s1
theorem scSO : FnScope ["value", "signs"] ["value", "signs"] (defScope sSignOf) := ⟨rfl, rfl, rfl, by decide +kernel, rfl, by decide +kernel, by decide +kernel⟩
theorem ok_signof (F : Fun K "is_sign_of" "is_sign_of" sSignOf f fd) (Z : Free mg) : FnOk P w K mg base CX0 1 f fd ["value", "signs"] spSignOf := by
  refine F.ok scSO (fun vs H Q E h => ?_) (fun cdv A outer s H vs Q E hr h => ?_)
  · obtain ⟨c, sg, rfl, _⟩ := h
    rfl
  · obtain ⟨c, sg, rfl, m, k⟩ := h
    refine ⟨_, pss_one (ps_ret (pe_and (pe_callB call_isi (by rfl) Z.isi (by decide +kernel) (pa_cons (pv 0) (pa_cons (pe_bltn (v := .ty "str") (u := .type "str") (by rfl) Z.str (by decide +kernel) rfl) pa_nil)))
      (pe_and (pe_cmpR op_eq (pe_callB call_len_str (by rfl) Z.len PySem.boot_len (pa_cons (pv 0) pa_nil)) pe_int (nomark _)) (pe_one (pe_cmpR op_in_sign (pv 0) (pv 1) rfl))))), ?_⟩
    refine ⟨_, rfl, _, _, .type "str", .type "str", true, rfl, .ty "str", .base (.str _), kit_ty (by decide +kernel), true, rfl, ?_⟩
    refine ⟨_, rfl, _, rfl, (by rw [S_len, sizeLine_eq]; show 1 ≤ _; decide), rfl, _, rfl, ifd (by rw [S_len] <;> rfl) ?_⟩
    refine ⟨_, rfl, _, rfl, c, S sg, rfl, rfl, ?_⟩
    rw [S_cps, decide_eq_true m]
    exact k
end
end Wb
/-! the parts of a loop, asked whether they are right -/
namespace Wb
open PySem L2 WbMin WbS Lz
/-- a name -/
structure IsNm (l : List Nat) : Prop where
  pos : 0 < l.length
  few : l.length ≤ 8
  hd : 97 ≤ l.getD 0 0 ∧ l.getD 0 0 ≤ 122
  ok : ∀ c ∈ l, (97 ≤ c ∧ c ≤ 122) ∨ (48 ≤ c ∧ c ≤ 57)
theorem IsNm.fits {l : List Nat} (h : IsNm l) : (S l).length ≤ sizeLine := by
  rw [S_len, sizeLine_eq]
  have := h.few
  omega
section
variable {P : Program} {w : World} {K : PySem.W.Frag} {mg : Str → Option Value} {base : Heap} {f fS fO fI : Addr} {fd dS dO dI : FuncData}
end
end Wb
/-! enumerate(t), t a tuple -/
namespace WbS
open PySem PySem.Spec PyProof.Rows
open AutoSeq1 (wpAny_loadPart')
set_option maxHeartbeats 1000000 in
theorem meets_enumT {v : Value} {o : Obj} {H : Heap → Prop} (B : Begins v o H) :
    Meets (Builtin.«enumerate.__new__» ⟨[.type "enumerate", v], []⟩) (fun _ R s => H s.heap ∧
      R (.ok (.ret (.ref (s.heap.push o).objs.size))) { s with heap := (s.heap.push o).push { cls := .type "enumerate", data := .fields #[.none, .bool false, .ref s.heap.objs.size, rawInt 0, .none, .none] } }) :=
  .of_wp fun prog w A R s h => by
    obtain ⟨hp, g, d, tk, os⟩ := s; obtain ⟨h1, h⟩ := h
    have hsub := sub_enumerate
    have q1 : ∀ {A' : Around} {E : Value → Shared → Prop} {Q : Value → Shared → Prop}, Q (.ref hp.objs.size) ⟨hp.push o, g, d, tk, os⟩ → wpAny (model prog w) A' (pyIter v) Q E ⟨hp, g, d, tk, os⟩ :=
      fun q => B.iter prog w _ _ ⟨hp, g, d, tk, os⟩ _ h1 q
    wp_walk using q1
    refine wpAny_stack_any fun st => wpAny_pure ?_
    split
    · rename_i c _ _ _ _ _
      cases (c == Value.type "enumerate")
      · wp_walk using q1
        exact ⟨_, rfl, h⟩
      · wp_walk using q1
        exact ⟨_, rfl, h⟩
    · wp_walk using q1
      exact ⟨_, rfl, h⟩
section
variable {prog : Program} {w : World} {A : Around} {E : Value → Shared → Prop} {s : Shared}
theorem enum1_begins {v : Value} {o : Obj} {H : Heap → Prop} {Q : Value → Shared → Prop} (B : Begins v o H) (h1 : H s.heap)
    (h : ∀ h', IsEnum h' (s.heap.objs.size + 1) s.heap.objs.size 0 .none → h'.get? s.heap.objs.size = some o → h'.objs.size = s.heap.objs.size + 2 →
      (∀ b o, s.heap.get? b = some o → h'.get? b = some o) → Q (.ref (s.heap.objs.size + 1)) { s with heap := h' }) :
    wpAny (model prog w) A (call (.type "enumerate") [v]) Q E s := by
  refine callType_new F.called_enumerate (by decide) (F.typeCall_enumerate_1 _) (F.newCall_enumerate_1 _) (fun obj => F.args_object_init_2 obj _) F.entry_enumerate_new
    (meets_enumT B) ⟨h1, ?_⟩
  have hz : (s.heap.push o).objs.size = s.heap.objs.size + 1 := Heap.size_push ..
  show _ ∧ _
  rw [hz]
  have he : IsEnum ((s.heap.push o).push { cls := .type "enumerate", data := .fields #[.none, .bool false, .ref s.heap.objs.size, rawInt 0, .none, .none] }) (s.heap.objs.size + 1) s.heap.objs.size 0 .none := by
    have := Heap.get?_push_size (s.heap.push o) (o := { cls := .type "enumerate", data := .fields #[.none, .bool false, .ref s.heap.objs.size, rawInt 0, .none, .none] }) rfl
    rw [hz] at this; exact this
  refine ⟨⟨_, he, rfl⟩, h _ he (Heap.get?_push_of_some _ (Heap.get?_push_size _ B.free)) (by rw [Heap.size_push, hz]) fun b o x => Heap.get?_push_of_some _ (Heap.get?_push_of_some _ x)⟩
end
end WbS
namespace WbS
open PySem PySem.Spec PyProof.Rows L2
/-- the tuple at a as it stands at each turn, each item in a new pair -/
def IteT (K : PySem.W.Frag) (a : Addr) : It :=
  ⟨fun i H => ∃ (xs : List V) (x : V), SqT K H a xs ∧ xs[i]? = some x, fun i H v H' => ∃ T x, v = .ref T ∧ H T = none ∧ H' = upd H T (.tup [.int (i : Nat), x]) ∧ ∀ xs, SqT K H a xs → xs[i]? = some x, fun i H => ∃ xs : List V, SqT K H a xs ∧ xs.length = i⟩
theorem turn_enumT {P : Program} {w : World} {K : PySem.W.Frag} {elts : List Expr} {kk : Nat} {tpos : Pos} (a e it : Addr) :
    Turn P w K (.Tuple elts kk tpos) (IteT K a) [e, it] e (fun i h => (∃ old, IsEnum h e it ((i : Nat) : Int) old) ∧ h.IsTupleIter it a i ∧ e ≠ it ∧ e ≠ a ∧ a ≠ it) where
  mem := by simp
  obj := fun i h st b hb => by
    obtain ⟨⟨old, he⟩, ⟨o, ho, hc, hd⟩, _⟩ := st
    have e' : b = e ∨ b = it := by simpa using hb
    rcases e' with z | z
    · rw [z]; exact ⟨_, he, fun v q => nomatch q⟩
    · rw [z]; exact ⟨o, ho, fun v q => by rw [hd] at q; cases q⟩
  keep := fun i h h' st k => let ⟨⟨old, he⟩, hi, hne⟩ := st; ⟨⟨old, k e (by simp) _ he⟩, hi.at fun o q => k it (by simp) o q, hne⟩
  item := by
    intro X hP hw hK hc i pins s σ H E I hf st hg
    subst hP hw hK
    obtain ⟨⟨old, he⟩, hit, hne, hea, hai⟩ := st
    obtain ⟨xs, x, hq, hx⟩ := hg
    obtain ⟨its, rv, p, hz⟩ := I.tuple hq
    obtain ⟨u, hu, ru⟩ := rv.get hx
    have hel : e < s.heap.objs.size := Heap.lt_size he
    have hil : it < s.heap.objs.size := by obtain ⟨_, q, _⟩ := hit; exact Heap.lt_size q
    have hlt : i < its.toArray.size := by
      have q := List.getElem?_eq_some_iff.mp hu
      obtain ⟨q, _⟩ := q
      simpa using q
    refine wpAny_pyNext_enum_itemD (Draws.tuple (A := X.A.in1) (I.ok.hd hc) it a hai its.toArray) he ⟨hit, p⟩ hlt hne (by simp [hne, hea]) fun x' h' tk hP ho hit' hT hsz hk => ?_
    obtain rfl : x' = u := by
      have q1 : its.toArray[i]? = some x' := hP
      have q2 : its.toArray[i]? = some u := by simpa using hu
      rw [q1] at q2
      exact Option.some.inj q2
    refine ⟨_, rfl, wpAny_letOwnedTupleGo_enum (s := { s with heap := h', toks := tk + 1 }) ho fun h'' he' sb => ?_⟩
    have hT2 : h''.get? s.heap.objs.size = some { cls := .type "tuple", data := .seq #[.int i tk, x'] } := (sb.2 _ (Nat.ne_of_gt hel)).trans hT
    have new : ObjOk X.prog X.w (upd H s.heap.objs.size (.tup [.int (i : Nat), x])) h'' s.heap.objs.size (.tup [.int (i : Nat), x]) :=
      ⟨by show 2 ≤ sizeLine; decide, [.int i tk, x'], .cons ⟨_, rfl⟩ (.cons ru .nil), ⟨_, hT2, rfl, _, rfl⟩⟩
    have I1 : Inv X pins σ (upd H s.heap.objs.size (.tup [.int (i : Nat), x])) { s with heap := h'', toks := tk + 1 } :=
      I.turnedNew (ch := [e, it]) (fun b ob hb q => (sb.2 b (fun z => hb (by simp [z]))).trans (hk b ob (fun z => hb (by simp [z])) (fun z => hb (by simp [z])) q)) hf (Nat.le_refl _) new
    refine ⟨.ref s.heap.objs.size, _, I1, rfl, ⟨_, x, rfl, I.hok.fresh (Nat.le_refl _), rfl, fun ys hy => by rw [I.tuple_inj hy hq]; exact hx⟩, ⟨⟨x', ?_⟩, hit'.1.at fun o q => (sb.2 it (Ne.symm hne)).trans q, hne, hea, hai⟩, fun b hb => ?_⟩
    · have e1 : ((i + 1 : Nat) : Int) = (i : Int) + 1 := by omega
      rw [e1]; exact he'
    · have hb' : b < s.heap.objs.size := by
        have e' : b = e ∨ b = it := by simpa using hb
        rcases e' with z | z
        · rw [z]; exact hel
        · rw [z]; exact hil
      rw [upd_ne (Nat.ne_of_lt hb')]
      exact (hf b hb).1
  done := by
    intro X hP hw hK hc i pins s σ H E I hf st hg
    subst hP hw hK
    obtain ⟨⟨old, he⟩, hit, hne, hea, hai⟩ := st
    obtain ⟨xs, hq, hx⟩ := hg
    obtain ⟨its, rv, p, hz⟩ := I.tuple hq
    obtain ⟨f0, f1, f2, f3, f4, f5⟩ := hf it (by simp)
    have hl := rv.length
    have en : its.toArray.size = i := by simp; omega
    refine wpAny_pyNext_enum_endD (n := its.toArray.size) (Draws.tuple (A := X.A.in1) (I.ok.hd hc) it a hai its.toArray) he ⟨by rw [en]; exact hit, p⟩ fun h' eb => ⟨rfl, I.turned (t' := s.toks) (fun b o hb q => eb b o hb q) f0 f1 f3 f4 f5⟩
  self := fun A i s Q E st h => let ⟨⟨_, he⟩, _⟩ := st; wpAny_pyIter_enum he h
def iEnumT (K : PySem.W.Frag) (ta : TA) : TI := fun σ H R => ta σ H fun vs H1 => ∃ a xs, vs = [.ref a] ∧ SqT K H1 a xs ∧ R (IteT K a) H1
theorem pi_enumT {X : Cx} {e : Expr} {ta : TA} {p pos tpos : Pos} {elts : List Expr} {kk : Nat} (hg : Gl X "enumerate") (hm : X.mg "enumerate" = none) (ha : PA X [e] ta) (hs : starEach [e] X.env = [(false, eval e X.env)] := by rfl) :
    PI X (.Tuple elts kk tpos) (.Call (.Name "enumerate" p) [e] [] pos) (iEnumT X.K ta) := by
  refine ⟨fun pins s σ H R I h => ?_⟩
  refine Call_ (ld_blt I hg hm boot_enumerate (PyProof.Rows.callWith_type1 (thn (ha.run pos pins s σ H _ I h) fun us s1 ⟨vs, H1, I1, r1, q1⟩ => ?_) hs rfl))
  obtain ⟨a, xs, ex, hq, q⟩ := q1
  subst ex
  cases r1 with
  | cons r rr =>
    cases rr
    cases r
    obtain ⟨its, rv, p', hz⟩ := I1.tuple hq
    have hal : a < s1.heap.objs.size := by obtain ⟨_, q, _⟩ := p'; exact Heap.lt_size q
    refine enum1_begins (begins_tuple a its.toArray) p' fun h' he hit hsz hk => wpAny_pyIter_enum he ?_
    have I2 : Inv X pins σ H1 { s1 with heap := h' } := I1.kept (t' := s1.toks) hk
    refine ⟨s1.heap.objs.size + 1, [s1.heap.objs.size + 1, s1.heap.objs.size], _, _, H1, rfl, I2, turn_enumT a (s1.heap.objs.size + 1) s1.heap.objs.size, ⟨⟨.none, he⟩, ⟨_, hit, rfl, rfl⟩, Nat.succ_ne_self _, Nat.ne_of_gt (Nat.lt_succ_of_lt hal), Nat.ne_of_lt hal⟩, fun b hb => ?_, q⟩
    have e' : b = s1.heap.objs.size + 1 ∨ b = s1.heap.objs.size := by simpa using hb
    have hle : s1.heap.objs.size ≤ b := by
      rcases e' with z | z
      · rw [z]; exact Nat.le_add_right _ _
      · rw [z]; exact Nat.le_refl _
    exact I1.fpOk hle (I1.hok.fresh hle)
theorem walk_enumT {K : PySem.W.Frag} {a : Addr} {xs : List V} : Walk (IteT K a) xs.length (fun H => SqT K H a xs) (YPair (fun i => some (.int (i : Nat))) (fun i => xs[i]?)) := by
  refine ⟨fun i _ hi q => ⟨xs, xs[i], q, by simp [hi]⟩, fun _ q => ⟨xs, q, rfl⟩, fun i H v H' _ q y => ?_⟩
  obtain ⟨T, x, h1, h2, h3, h4⟩ := y
  exact ⟨T, .int (i : Nat), x, h1, h2, h3, rfl, h4 xs q⟩
end WbS
/-! first_wrong of texts and of pairs -/
namespace Wb
open PySem L2 WbMin WbS Lz
abbrev sFirst : Stmt := top 10
theorem un65 {k : Nat} {A : Around} (r : Room k A) : A.units + 65 < cLine := by have := r.un; omega
/-- tuples that stand -/
def Tups (H : Hp) : List Addr → List (List V) → Prop
  | [], [] => True
  | a :: as, x :: xs => H a = some (.tup x) ∧ Tups H as xs
  | _, _ => False
theorem Tups.length {H : Hp} : ∀ {as : List Addr} {xs : List (List V)}, Tups H as xs → as.length = xs.length
  | [], [], _ => rfl
  | _ :: _, _ :: _, h => congrArg (· + 1) (Tups.length h.2)
  | [], _ :: _, h => h.elim
  | _ :: _, [], h => h.elim
theorem Tups.same {H H' : Hp} (s : Same H H') : ∀ {as : List Addr} {xs : List (List V)}, Tups H as xs → Tups H' as xs
  | [], [], _ => trivial
  | _ :: _, _ :: _, h => ⟨s _ _ h.1, Tups.same s h.2⟩
  | [], _ :: _, h => h.elim
  | _ :: _, [], h => h.elim
theorem Tups.get {H : Hp} : ∀ {as : List Addr} {xs : List (List V)} {i : Nat} {a : Addr} {x : List V}, Tups H as xs → as[i]? = some a → xs[i]? = some x → H a = some (.tup x)
  | [], _, _, _, _, _, h, _ => nomatch h
  | _ :: _, [], _, _, _, h, _, _ => h.elim
  | b :: as, y :: xs, 0, a, x, h, e, f => by
    cases e
    cases f
    exact h.1
  | b :: as, y :: xs, i + 1, a, x, h, e, f => Tups.get h.2 e f
theorem Tups.snoc {H : Hp} {a : Addr} {x : List V} (n : H a = some (.tup x)) : ∀ {as : List Addr} {xs : List (List V)}, Tups H as xs → Tups H (as ++ [a]) (xs ++ [x])
  | [], [], _ => ⟨n, trivial⟩
  | _ :: _, _ :: _, h => ⟨h.1, Tups.snoc n h.2⟩
  | [], _ :: _, h => h.elim
  | _ :: _, [], h => h.elim
theorem Tups.take {H : Hp} : ∀ {as : List Addr} {xs : List (List V)} (i : Nat), Tups H as xs → Tups H (as.take i) (xs.take i)
  | [], [], i, _ => by rw [List.take_nil, List.take_nil]; exact trivial
  | [], _ :: _, _, h => h.elim
  | _ :: _, [], _, h => h.elim
  | _ :: _, _ :: _, 0, _ => trivial
  | _ :: _, _ :: _, i + 1, h => ⟨h.1, Tups.take i h.2⟩
def spFirst : Sp := fun vs H Q _ => ∃ (t L : Addr) (ps : List Str), vs = [.ref t, .ref L] ∧ H t = some (.tup (ps.map V.str)) ∧ H L = some (.lst ((List.replicate ps.length true).map V.bl)) ∧ ps.Nodup ∧ ∀ H', Same H H' → Q .non H'
section
variable {P : Program} {w : World} {K : PySem.W.Frag} {mg : Str → Option Value} {base : Heap} {f : Addr} {fd : FuncData}
theorem scFw : FnScope ["values", "right", "index", "value"] ["values", "right"] (defScope sFirst) := ⟨rfl, rfl, rfl, by decide +kernel, rfl, by decide +kernel, by decide +kernel⟩
theorem ok_first (F : Fun K "first_wrong" "first_wrong" sFirst f fd) (mE : mg "enumerate" = none) : FnOk P w K mg base CX0 1 f fd ["values", "right"] spFirst := by
  refine F.ok scFw (fun vs H Q E h => ?_) (fun cdv A outer s H vs Q E hr h => ?_)
  · obtain ⟨t, L, ps, rfl, _⟩ := h
    rfl
  · obtain ⟨t, L, ps, rfl, ht, hL, nd, k⟩ := h
    refine ⟨_, pss_cons (ps_for PassesOwn.never rfl (pi_enumT (by rfl) mE (pa_cons (pv 0) pa_nil)) (pg_tup (by rfl) (pgs_cons (pg_name (i := 2) scFw.nd rfl (.inl rfl)) (pgs_cons (pg_name (i := 3) scFw.nd rfl (.inl rfl)) pgs_nil)))
        (pss_one (ps_if (PW.pt (pw_or (pt_not (pt_val (pe_ix ix_list (pv 1) (pv 2) (fun _ _ => rfl)))) (pw_or1 (pt_cmpR op_in_seq (pv 3) (pe_slice sl_tup (pv 0) po_none (po_some (pv 2))) (by rfl))))) (pss_one ps_never) pss_nil)))
      (pss_one (ps_ret pe_non)), ?_⟩
    refine ⟨_, rfl, t, _, rfl, SqT.of ht, for_it walk_enumT (fun i σ H' => ∃ v2 v3 : Option V, σ = [some (.ref t), some (.ref L), v2, v3] ∧ Same H H') ⟨none, none, rfl, Same.refl H⟩ (fun _ _ _ _ h => by obtain ⟨_, _, _, h⟩ := h; exact SqT.of (h _ _ ht)) ?_ ?_⟩
    · rintro i x σ H2 H3 hi ⟨v2, v3, rfl, s2⟩ ⟨T, a, b, rfl, hT, rfl, ea, eb⟩
      cases ea
      dsimp only at eb
      rw [List.getElem?_map] at eb
      obtain ⟨z, hz, rfl⟩ := Option.map_eq_some_iff.mp eb
      have hi' : i < ps.length := by rw [List.length_map] at hi; exact hi
      have sT := Same.put (o := .tup [.int (i : Nat), .str z]) s2 hT
      refine ⟨T, _, rfl, SqT.of upd_same, rfl, _, _, rfl, _, _, rfl, rfl, ?_⟩
      refine ⟨_, rfl, _, rfl, L, _, _, .bl true, rfl, rfl, SqL.of (sT _ _ hL), ?_, true, rfl, ?_⟩
      · refine atI_nat ?_
        rw [List.getElem?_map, List.getElem?_replicate, if_pos hi'] <;> rfl
      have ec : cutV (ps.map V.str) none (some ((i : Nat) : Int)) = (ps.take i).map V.str := by
        unfold cutV
        rw [HT.sIx_none, HT.sIx_nat, List.length_map, Nat.min_eq_left (Nat.le_of_lt hi')]
        show (ps.map V.str).take i = _
        rw [List.map_take]
      refine ⟨_, rfl, _, rfl, _, rfl, _, rfl, t, _, rfl, SqT.of (sT _ _ ht), ?_, fun u hu => ?_⟩
      · rintro ⟨_, q⟩
        rw [HT.sIx_nat, List.length_map] at q
        omega
      · rw [ec]
        refine ⟨u, _, rfl, .inr (SqT.of upd_same), rfl, flat_strs _, _, rfl, ?_⟩
        have no : inV (.str z) ((ps.take i).map V.str) = false := by
          rw [inV_strs]
          exact decide_eq_false (take_nd nd hz)
        show if inV (.str z) ((ps.take i).map V.str) = true then _ else _
        rw [no, if_neg Bool.false_ne_true]
        exact ⟨_, _, rfl, Same.put sT hu⟩
    · rintro σ H2 ⟨v2, v3, rfl, s2⟩
      exact k H2 s2
end
end Wb
/-! the parts of a loop, checked -/
namespace Wb
open PySem L2 WbMin WbS Lz
/-- the names of states -/
structure Sts (st : List Str) : Prop where
  of : ∀ z ∈ st, ∃ l, z = S l ∧ IsNm l
  nd : st.Nodup
  pos : 0 < st.length
  few : st.length ≤ 6
/-- a row of a loop: state, sign, next state, amount -/
structure Row where
  a : Str
  c : Nat
  b : Str
  m : Int
def Row.v (r : Row) : List V := [.str r.a, .str (S [r.c]), .str r.b, .int r.m]
def Row.k (r : Row) : Str × Str := (r.a, S [r.c])
/-- a turn: state, next state, amount -/
structure Trn where
  a : Str
  b : Str
  m : Int
def Trn.v (r : Trn) : List V := [.str r.a, .str r.b, .int r.m]
section
variable {P : Program} {w : World} {K : PySem.W.Frag} {mg : Str → Option Value} {base : Heap} {f fN fF fS fO fI fR : Addr} {fd dN dF dS dO dI dR : FuncData}
end
end Wb
/-! the rows of a loop, checked -/
namespace Wb
open PySem L2 WbMin WbS Lz
theorem Tups.upd {H : Hp} {D : Addr} {o : HO} : ∀ {as : List Addr} {xs : List (List V)}, (∀ c ∈ as, c ≠ D) → Tups H as xs → Tups (L2.upd H D o) as xs
  | [], [], _, _ => trivial
  | a :: as, _ :: _, n, h => ⟨(upd_ne (n a List.mem_cons_self)).trans h.1, Tups.upd (fun c q => n c (List.mem_cons_of_mem _ q)) h.2⟩
  | [], _ :: _, _, h => h.elim
  | _ :: _, [], _, h => h.elim
section
variable {P : Program} {w : World} {K : PySem.W.Frag} {mg : Str → Option Value} {base : Heap} {f fN fF fS fO fI fR : Addr} {fd dN dF dS dO dI dR : FuncData}
end
end Wb
/-! the parts of a loop, put in order -/
namespace Wb
open PySem L2 WbMin WbS Lz
section
variable {κ : Type} [DecidableEq κ]
end
theorem un2 {k : Nat} {A : Around} (r : Room k A) : A.units + 1 < cLine := by have := r.un; omega
/-- keys of a dict -/
def kk (p : Str × Str) : List Key := [.inr p.1, .inr p.2]
theorem kk_inj {p q : Str × Str} (h : kk p = kk q) : p = q := by
  cases p
  cases q
  injection h with h1 h2
  injection h2 with h2 _
  injection h1 with h1
  injection h2 with h2
  dsimp only at h1 h2
  subst h1
  subst h2
  rfl
theorem it_go {J : It} {n : Nat} {G : Hp → Prop} {Y : Nat → Hp → V → Hp → Prop} (w : Walk J n G Y) (Pv : Nat → Hp → Prop) {H0 : Hp} {Qd : Hp → Prop} {body : V → Hp → (Hp → Prop) → Prop} (h0 : Pv 0 H0) (hl : ∀ i H, i ≤ n → Pv i H → G H)
    (hs : ∀ i x H H', i < n → Pv i H → Y i H x H' → body x H' (Pv (i + 1))) (hd : ∀ H, Pv n H → Qd H) :
    ∃ W : Nat → Nat → Hp → Prop, (∃ m, W 0 m H0) ∧ ∀ i m H, W i m H → (J.stop i H ∧ Qd H) ∨ (J.go i H ∧ ∃ Nx : Hp → Prop, (∀ H', Nx H' → ∃ m', m' < m ∧ W (i + 1) m' H') ∧ ∀ x H', J.yld i H x H' → body x H' Nx) := by
  refine ⟨fun i m H => m = n - i ∧ i ≤ n ∧ Pv i H, ⟨n, by simp, Nat.zero_le _, h0⟩, ?_⟩
  rintro i m H ⟨rfl, hi, p⟩
  have q := hl i H hi p
  by_cases hlt : i < n
  · exact .inr ⟨w.goes i H hlt q, Pv (i + 1), fun H' p' => ⟨n - (i + 1), by omega, rfl, hlt, p'⟩, fun x H' y => hs i x H H' hlt p (w.yields i H x H' hlt q y)⟩
  · have e : i = n := by omega
    subst e
    exact .inl ⟨w.stops H q, hd H p⟩
theorem none_of_same {H H' : Hp} {l : Addr} (s : Same H H') (n : H' l = none) : H l = none := by
  cases e : H l with
  | none => rfl
  | some o =>
    rw [s _ _ e] at n
    cases n
section
variable {P : Program} {w : World} {K : PySem.W.Frag} {mg : Str → Option Value} {base : Heap} {f : Addr} {fd : FuncData}
end
end Wb
/-! turns and yes states, put in order -/
namespace Wb
open PySem L2 WbMin WbS Lz
/-- the key that a text is -/
def k1 (z : Str) : Key := .inr z
theorem k1_inj {p q : Str} (h : k1 p = k1 q) : p = q := by
  injection h
section
variable {P : Program} {w : World} {K : PySem.W.Frag} {mg : Str → Option Value} {base : Heap} {f : Addr} {fd : FuncData}
end
end Wb
/-! a loop in numbers -/
namespace Wb
open PySem L2 WbMin WbS Lz
/-- a loop: signs, names of states, next states, amounts, turns, their amounts, yes states -/
structure LD where
  sg : List Nat
  st : List Str
  nx : Nat → Nat → Nat
  am : Nat → Nat → Int
  tn : Nat → Nat
  ta : Nat → Int
  ys : Nat → Bool
def LD.n (L : LD) : Nat := L.st.length
def LD.nm (L : LD) (i : Nat) : Str := L.st.getD i (S [])
structure LD.Ok (L : LD) : Prop where
  sgs : Sgs L.sg
  sts : Sts L.st
  nxlt : ∀ i c, i < L.n → c ∈ L.sg → L.nx i c < L.n
  tnlt : ∀ i, i < L.n → L.tn i < L.n
def LD.row (L : LD) (i c : Nat) : Row := ⟨L.nm i, c, L.nm (L.nx i c), L.am i c⟩
def LD.rows (L : LD) : List Row := (List.range L.n).flatMap fun i => L.sg.map (L.row i)
def LD.turn (L : LD) (i : Nat) : Trn := ⟨L.nm i, L.nm (L.tn i), L.ta i⟩
def LD.turns (L : LD) : List Trn := (List.range L.n).map L.turn
def LD.yes (L : LD) : List Str := ((List.range L.n).filter L.ys).map L.nm
/-- what a row of a loop reads -/
def RowAt (H : Hp) (q : Addr) (L : LD) : Prop := ∃ (t r u y : Addr) (as bs : List Addr), H q = some (.tup [.str (S L.sg), .ref t, .ref r, .ref u, .ref y]) ∧ H t = some (.tup (L.st.map V.str)) ∧ H r = some (.tup (as.map V.ref)) ∧ Tups H as (L.rows.map Row.v) ∧ H u = some (.tup (bs.map V.ref)) ∧ Tups H bs (L.turns.map Trn.v) ∧ H y = some (.tup (L.yes.map V.str))
def tf (dN dX dA tX tA tY : Addr) : List (Str × V) := putF "says" (.ref tY) (putF "turn_amounts" (.ref tA) (putF "turn_nexts" (.ref tX) (putF "amounts" (.ref dA) (putF "nexts" (.ref dX) (putF "number" (.ref dN) [])))))
def kS (c : Nat) : Key := .inr (S [c])
/-- the table stands -/
def TableAt (C : Addr) (H : Hp) (r : Addr) (L : LD) : Prop := ∃ (dx dN dX dA tX tA tY : Addr) (xs as : List Addr), H r = some (.ins C dx (tf dN dX dA tX tA tY)) ∧
  H dX = some (.dK ((L.sg.map kS).zip (xs.map V.ref))) ∧ Tups H xs (L.sg.map fun c => (List.range L.n).map fun i => V.int (L.nx i c : Nat)) ∧
  H dA = some (.dK ((L.sg.map kS).zip (as.map V.ref))) ∧ Tups H as (L.sg.map fun c => (List.range L.n).map fun i => V.int (L.am i c)) ∧
  H tX = some (.tup ((List.range L.n).map fun i => V.int (L.tn i : Nat))) ∧ H tA = some (.tup ((List.range L.n).map fun i => V.int (L.ta i))) ∧ H tY = some (.tup ((List.range L.n).map fun i => V.bl (L.ys i)))
/-! ### the mathematics of rows -/
/-- the parts of a row stand -/
structure Prt (L : LD) (t rr u y : Addr) (as bs : List Addr) (H : Hp) : Prop where
  ht : H t = some (.tup (L.st.map V.str))
  hr : H rr = some (.tup (as.map V.ref))
  hT : Tups H as (L.rows.map Row.v)
  hu : H u = some (.tup (bs.map V.ref))
  hU : Tups H bs (L.turns.map Trn.v)
  hy : H y = some (.tup (L.yes.map V.str))
theorem Tups.but {H H' : Hp} {p : Addr} {o : HO} (no : ∀ x, o ≠ .tup x) (hp : H p = some o) (s : But p H H') : ∀ {as : List Addr} {xs : List (List V)}, Tups H as xs → Tups H' as xs
  | [], [], _ => trivial
  | a :: _, x :: _, h => ⟨s _ _ (ne_of h.1 hp fun e => no x e.symm) h.1, Tups.but no hp s h.2⟩
  | [], _ :: _, h => h.elim
  | _ :: _, [], h => h.elim
theorem Prt.but {L : LD} {t rr u y : Addr} {as bs : List Addr} {H H' : Hp} {p : Addr} {o : HO} (no : ∀ x, o ≠ .tup x) (hp : H p = some o) (s : But p H H') (h : Prt L t rr u y as bs H) : Prt L t rr u y as bs H' :=
  ⟨s _ _ (ne_of h.ht hp fun e => no _ e.symm) h.ht, s _ _ (ne_of h.hr hp fun e => no _ e.symm) h.hr, h.hT.but no hp s, s _ _ (ne_of h.hu hp fun e => no _ e.symm) h.hu, h.hU.but no hp s, s _ _ (ne_of h.hy hp fun e => no _ e.symm) h.hy⟩
theorem Prt.same {L : LD} {t rr u y : Addr} {as bs : List Addr} {H H' : Hp} (s : Same H H') (h : Prt L t rr u y as bs H) : Prt L t rr u y as bs H' :=
  ⟨s _ _ h.ht, s _ _ h.hr, h.hT.same s, s _ _ h.hu, h.hU.same s, s _ _ h.hy⟩
theorem k_in_S {l : List Nat} {i : Nat} {c : Nat} (h : (S l).cps[i]? = some c) : l[i]? = some c := by simpa [S] using h
section
variable {P : Program} {w : World} {K : PySem.W.Frag} {mg : Str → Option Value} {base : Heap} {f C : Addr} {fd : FuncData}
end
end Wb
/-! one round by the table -/
namespace Wb
open PySem L2 WbMin WbS Lz
def LD.stp (L : LD) (p : Nat × Int) (c : Nat) : Nat × Int := (L.nx p.1 c, p.2 + L.am p.1 c)
def LD.wk (L : LD) (w : List Nat) (i : Nat) : Nat × Int := w.foldl L.stp (i, 0)
def LD.gone (L : LD) (w : List Nat) (i : Nat) : Nat × Int := (L.tn (L.wk w i).1, (L.wk w i).2 + L.ta (L.wk w i).1)
theorem wk_lt {L : LD} (O : L.Ok) {i : Nat} (hi : i < L.n) : ∀ {w : List Nat}, (∀ c ∈ w, c ∈ L.sg) → (L.wk w i).1 < L.n := by
  intro w
  unfold LD.wk
  have gen : ∀ (w : List Nat) (p : Nat × Int), p.1 < L.n → (∀ c ∈ w, c ∈ L.sg) → (w.foldl L.stp p).1 < L.n := by
    intro w
    induction w with
    | nil => exact fun p h _ => h
    | cons c w ih => exact fun p h hw => ih _ (O.nxlt _ _ h (hw c List.mem_cons_self)) fun d hd => hw d (List.mem_cons_of_mem _ hd)
  exact fun hw => gen w (i, 0) hi hw
theorem gone_lt {L : LD} (O : L.Ok) {i : Nat} (hi : i < L.n) {w : List Nat} (hw : ∀ c ∈ w, c ∈ L.sg) : (L.gone w i).1 < L.n := O.tnlt _ (wk_lt O hi hw)
theorem TableAt.same {C : Addr} {H H' : Hp} {r : Addr} {L : LD} (s : Same H H') (h : TableAt C H r L) : TableAt C H' r L := by
  obtain ⟨dx, dN, dX, dA, tX, tA, tY, xs, as, h0, hX, hx, hA, ha, hTX, hTA, hTY⟩ := h
  exact ⟨dx, dN, dX, dA, tX, tA, tY, xs, as, s _ _ h0, s _ _ hX, hx.same s, s _ _ hA, ha.same s, s _ _ hTX, s _ _ hTA, s _ _ hTY⟩
theorem TableAt.but {C D : Addr} {H H' : Hp} {r tb dx : Addr} {fs : List (Str × V)} {L : LD} (h : TableAt C H tb L) (n : tb ≠ r) (hr : H r = some (.ins D dx fs)) (s : But r H H') : TableAt C H' tb L := by
  obtain ⟨dx, dN, dX, dA, tX, tA, tY, xs, as, h0, hX, hx, hA, ha, hTX, hTA, hTY⟩ := h
  exact ⟨dx, dN, dX, dA, tX, tA, tY, xs, as, s _ _ n h0, s _ _ (ne_of hX hr (by intro q; cases q)) hX, hx.but (fun x => by intro q; cases q) hr s, s _ _ (ne_of hA hr (by intro q; cases q)) hA, ha.but (fun x => by intro q; cases q) hr s, s _ _ (ne_of hTX hr (by intro q; cases q)) hTX, s _ _ (ne_of hTA hr (by intro q; cases q)) hTA, s _ _ (ne_of hTY hr (by intro q; cases q)) hTY⟩
section
variable {P : Program} {w : World} {K : PySem.W.Frag} {mg : Str → Option Value} {base : Heap} {f C : Addr} {fd : FuncData}
end
end Wb
/-! where a map leads, again and again -/
namespace Wb
open PySem L2 WbMin WbS Lz
/-- the state behind m rounds -/
def it (g : Nat → Nat) : Nat → Nat
  | 0 => 0
  | m + 1 => g (it g m)
theorem it_lt {g : Nat → Nat} {n : Nat} (h0 : 0 < n) (h : ∀ i, i < n → g i < n) : ∀ m, it g m < n
  | 0 => h0
  | m + 1 => h _ (it_lt h0 h m)
theorem it_add {g : Nat → Nat} {a b : Nat} (h : it g a = it g b) : ∀ d, it g (a + d) = it g (b + d)
  | 0 => h
  | d + 1 => congrArg g (it_add h d)
/-- what a course knows: k states, those from h on come again -/
structure Crs (g : Nat → Nat) (n k h : Nat) : Prop where
  lt : h < k
  le : k ≤ n
  eq : it g k = it g h
  nd : ∀ i j, i < j → j < k → it g i ≠ it g j
theorem Crs.mul {g : Nat → Nat} {n k h : Nat} (c : Crs g n k h) : ∀ (q m : Nat), h ≤ m → it g (m + q * (k - h)) = it g m
  | 0, m, _ => by rw [Nat.zero_mul, Nat.add_zero]
  | q + 1, m, hm => by
    have e : m + (q + 1) * (k - h) = k + (m - h + q * (k - h)) := by
      have := c.lt
      rw [Nat.add_mul]
      omega
    rw [e, it_add c.eq, show h + (m - h + q * (k - h)) = m + q * (k - h) by omega, Crs.mul c q m hm]
theorem Crs.place {g : Nat → Nat} {n k h m : Nat} (c : Crs g n k h) (hm : k ≤ m) : h + (m - h) % (k - h) < k ∧ it g (h + (m - h) % (k - h)) = it g m := by
  have lt := c.lt
  have pos : 0 < k - h := by omega
  have := Nat.mod_lt (m - h) pos
  refine ⟨by omega, ?_⟩
  have e := c.mul ((m - h) / (k - h)) (h + (m - h) % (k - h)) (by omega)
  have d := Nat.mod_add_div (m - h) (k - h)
  rw [Nat.mul_comm] at d
  rw [← e]
  congr 1
  omega
def nat (g : Nat → Nat) (k : Nat) : List V := (List.range k).map fun m => V.int (it g m : Nat)
def cf (p : Addr) (h k : Nat) : List (Str × V) := putF "again" (.int ((k : Int) - (h : Int))) (putF "head" (.int (h : Nat)) (putF "path" (.ref p) []))
/-- the course stands -/
def CourseAt (C : Addr) (H : Hp) (r : Addr) (g : Nat → Nat) (k h : Nat) : Prop := ∃ dx p, H r = some (.ins C dx (cf p h k)) ∧ H p = some (.lst (nat g k))
theorem CourseAt.same {C : Addr} {H H' : Hp} {r : Addr} {g : Nat → Nat} {k h : Nat} (s : Same H H') : CourseAt C H r g k h → CourseAt C H' r g k h := fun ⟨dx, p, a, b⟩ => ⟨dx, p, s _ _ a, s _ _ b⟩
section
variable {X : Cx}
end
section
variable {P : Program} {w : World} {K : PySem.W.Frag} {mg : Str → Option Value} {base : Heap} {f fP C : Addr} {fd dP : FuncData}
end
end Wb
/-! sorted texts: one order alone -/
namespace Wb
open PySem L2 WbMin WbS
theorem not_lt_trans {a b c : List Nat} (h1 : ¬ b < a) (h2 : ¬ c < b) : ¬ c < a := fun q => by
  have h1' : a ≤ b := h1
  have h2' : b ≤ c := h2
  exact List.le_trans h1' h2' q
def leS (a b : Str) : Prop := ¬ b.cps.toList < a.cps.toList
theorem leS_trans {a b c : Str} (h1 : leS a b) (h2 : leS b c) : leS a c := not_lt_trans h1 h2
theorem lt_of_ltCps {a b : List Nat} : PySem.Spec.ltCps a b = false ↔ ¬ a < b := by
  rw [PyProof.Rows.ltCps_eq, decide_eq_false_iff_not]
theorem rising_pw : ∀ (l : List Str) (p : Str), PyProof.Rows.risingS p l = true → (p :: l).Pairwise leS
  | [], p, _ => List.pairwise_singleton _ _
  | x :: r, p, h => by
    have h' : (!PySem.Spec.ltCps x.cps.toList p.cps.toList && PyProof.Rows.risingS x r) = true := h
    rw [Bool.and_eq_true, Bool.not_eq_true'] at h'
    have px : leS p x := lt_of_ltCps.mp h'.1
    have ih := rising_pw r x h'.2
    refine List.pairwise_cons.mpr ⟨fun y hy => ?_, ih⟩
    rcases List.mem_cons.mp hy with rfl | hy
    · exact px
    · exact leS_trans px ((List.pairwise_cons.mp ih).1 y hy)
theorem sorted_pw : ∀ {l : List Str}, PyProof.Rows.sortedS l = true → l.Pairwise leS
  | [], _ => .nil
  | x :: r, h => rising_pw r x h
theorem pw_sorted {l : List Str} (h : l.Pairwise leS) : PyProof.Rows.sortedS l = true :=
  PyProof.Rows.sortedS_of_pairwise l (h.imp fun {a b} q => lt_of_ltCps.mpr q)
theorem leS_anti {a b : Str} (h1 : leS a b) (h2 : leS b a) : a = b := by
  have e : a.cps.toList = b.cps.toList := List.le_antisymm h1 h2
  rw [← S_of a, ← S_of b, e]
theorem sort_unique : ∀ {ys zs : List Str}, ys.Pairwise leS → zs.Pairwise leS → ys.Perm zs → ys = zs
  | [], zs, _, _, p => (List.Perm.nil_eq p)
  | y :: r, [], _, _, p => by cases List.Perm.eq_nil p
  | y :: r, z :: t, h1, h2, p => by
    have my : y ∈ z :: t := p.mem_iff.mp List.mem_cons_self
    have mz : z ∈ y :: r := p.mem_iff.mpr List.mem_cons_self
    have e : y = z := by
      rcases List.mem_cons.mp my with e | my
      · exact e
      · rcases List.mem_cons.mp mz with e | mz
        · exact e.symm
        · exact leS_anti ((List.pairwise_cons.mp h1).1 z mz) ((List.pairwise_cons.mp h2).1 y my)
    subst e
    rw [sort_unique (List.pairwise_cons.mp h1).2 (List.pairwise_cons.mp h2).2 (List.Perm.cons_inv p)]
/-- two sorted orders of the same texts -/
theorem sorted_same {ys zs : List Str} (h1 : PyProof.Rows.sortedS ys = true) (h2 : PyProof.Rows.sortedS zs = true) (p : ys.Perm zs) : ys = zs := sort_unique (sorted_pw h1) (sorted_pw h2) p
theorem perm_codes {ys : List Str} {l : List Nat} (h : ys.Perm (l.map sOne)) : ∃ m : List Nat, m.Perm l ∧ ys = m.map sOne := by
  have dec : ∀ c, (sOne c).cps.getD 0 0 = c := fun c => rfl
  refine ⟨ys.map fun z => z.cps.getD 0 0, ?_, ?_⟩
  · have q := h.map fun z => z.cps.getD 0 0
    rw [List.map_map, show (fun z : Str => z.cps.getD 0 0) ∘ sOne = id from funext dec, List.map_id] at q
    exact q
  · rw [List.map_map]
    have q : ∀ y ∈ ys, (sOne ∘ fun z : Str => z.cps.getD 0 0) y = y := fun y hy => by
      obtain ⟨c, _, rfl⟩ := List.mem_map.mp (h.mem_iff.mp hy)
      rfl
    exact (List.map_id' ys ▸ List.map_congr_left q).symm
theorem map_one {a b : List Nat} (h : a.map sOne = b.map sOne) : a = b := by
  have dec : ∀ l : List Nat, (l.map sOne).map (fun z : Str => z.cps.getD 0 0) = l := fun l => by
    rw [List.map_map, show (fun z : Str => z.cps.getD 0 0) ∘ sOne = id from funext fun _ => rfl, List.map_id]
  rw [← dec a, h, dec]
theorem sg_same {a b c : List Nat} (h1 : PyProof.Rows.sortedS (a.map sOne) = true) (h2 : PyProof.Rows.sortedS (b.map sOne) = true) (p1 : a.Perm c) (p2 : b.Perm c) : a = b :=
  map_one (sorted_same h1 h2 ((p1.trans p2.symm).map sOne))
theorem Sgs.perm {a b : List Nat} (h : Sgs b) (p : a.Perm b) : Sgs a := ⟨fun c hc => h.low c (p.mem_iff.mp hc), p.nodup_iff.mpr h.nd, by rw [p.length_eq]; exact h.pos, by rw [p.length_eq]; exact h.few⟩
end Wb
/-! a loop is made -/
namespace Wb
open PySem L2 WbMin WbS Lz
def lf (z : Str) (t rr u y tb : Addr) : List (Str × V) := putF "_table" (.ref tb) (putF "_yes" (.ref y) (putF "_turns" (.ref u) (putF "_rows" (.ref rr) (putF "_states" (.ref t) (putF "_signs" (.str z) [])))))
/-- a loop stands at r: its class C, its table's class T -/
def LoopAt (C T : Addr) (H : Hp) (r : Addr) (L : LD) : Prop := ∃ (dx t rr u y tb : Addr) (as bs : List Addr), H r = some (.ins C dx (lf (S L.sg) t rr u y tb)) ∧ Prt L t rr u y as bs H ∧ TableAt T H tb L
theorem LoopAt.same {C T : Addr} {H H' : Hp} {r : Addr} {L : LD} (s : Same H H') : LoopAt C T H r L → LoopAt C T H' r L := fun ⟨dx, t, rr, u, y, tb, as, bs, a, b, c⟩ => ⟨dx, t, rr, u, y, tb, as, bs, s _ _ a, b.same s, c.same s⟩
structure LA where
  (C T O fI fW fAn fSt fTx fGo fOf pW tI tG cI cP cB : Addr)
  (dI dW dAn dSt dTx dGo dOf etI etG ecI ecP ecB : FuncData)
  (signs signof first isword isname isint intfrom stateof rowof turnof chst chro chtu chye orro ortu orye : Addr)
  (dsigns dsignof dfirst disword disname disint dintfrom dstateof drowof dturnof dchst dchro dchtu dchye dorro dortu dorye : FuncData)
/-! ### the mathematics -/
end Wb
/-! a loop is made: the defs -/
namespace Wb
open PySem L2 WbMin WbS Lz
theorem Prt.row {L : LD} {t rr u y q : Addr} {as bs : List Addr} {H : Hp} (h : Prt L t rr u y as bs H) (e : H q = some (.tup [.str (S L.sg), .ref t, .ref rr, .ref u, .ref y])) : RowAt H q L :=
  ⟨t, rr, u, y, as, bs, e, h.ht, h.hr, h.hT, h.hu, h.hU, h.hy⟩
section
variable {P : Program} {w : World} {K : PySem.W.Frag} {mg : Str → Option Value} {base : Heap} {A : LA} {e : Addr}
end
end Wb
/-! a loop is asked -/
namespace Wb
open PySem L2 WbMin WbS Lz
/-- where a round leads, and its count -/
def LD.lead (L : LD) (w : List Nat) (i : Nat) : Nat := (L.gone w i).1
def LD.cnt (L : LD) (w : List Nat) (i : Nat) : Int := (L.gone w i).2
theorem lf_none (z : Str) (t rr u y tb : Addr) : (lf z t rr u y tb).lookup ("_check_text" : Str) = none ∧ (lf z t rr u y tb).lookup ("_gone" : Str) = none ∧ (lf z t rr u y tb).lookup ("_answer_of" : Str) = none ∧ (lf z t rr u y tb).lookup ("answer" : Str) = none ∧ (lf z t rr u y tb).lookup ("state" : Str) = none := by
  unfold lf
  refine ⟨?_, ?_, ?_, ?_, ?_⟩ <;> (repeat rw [lookup_putF, if_neg (by decide +kernel)]) <;> rfl
section
variable {P : Program} {w : World} {K : PySem.W.Frag} {mg : Str → Option Value} {base : Heap} {A : LA} {e : Addr} {f fI : Addr} {fd dI : FuncData}
end
end Wb
/-! the ways of a statement, an expression and a test brought together -/
namespace Lz
open PySem PySem.Spec PyProof.Rows L2
section
variable {X : Cx}
def tJoin (t : TS) : TS := fun D σ H => ∃ T : L2.St → Hp → Prop, t { D with nx := T } σ H ∧ ∀ σ' H', T σ' H' → D.nx σ' H'
theorem ps_join {st : Stmt} {t : TS} (h : PS X st t) : PS X st (tJoin t) := by
  refine ⟨fun pins s σ H D I ⟨T, q, k⟩ => thn (h.run pins s σ H _ I q) fun f s' z => ?_⟩
  cases f with
  | next => obtain ⟨σ', H', I', w⟩ := z; exact ⟨σ', H', I', k _ _ w⟩
  | ret u => exact z
  | brk => exact z
  | cont => exact z
def tJoinE (t : TE) : TE := fun σ H Q => ∃ T : V → Hp → Prop, t σ H T ∧ ∀ x H', T x H' → Q x H'
theorem pe_joinE {e : Expr} {t : TE} (h : PE X e t) : PE X e (tJoinE t) := by
  refine ⟨fun pins s σ H Q I ⟨T, q, k⟩ => thn (h.run pins s σ H _ I q) fun f s' z => ?_⟩
  obtain ⟨x, H', I', r, w⟩ := z
  exact ⟨x, H', I', r, k _ _ w⟩
end
end Lz
namespace Wb
open PySem L2 WbMin WbS Lz
theorem pool_ne {H : Hp} {p F : Addr} {zs : List Str} (hp : PoolAt H p) (h : H F = some (.lst (zs.map V.str))) : F ≠ p := by
  obtain ⟨x, y, z, e3, _⟩ := hp
  intro q
  subst q
  rw [e3] at h
  injection h with q
  injection q with q
  cases zs with
  | nil => cases q
  | cons a zs => cases q
theorem nat_of {d : Int} (h : 0 ≤ d) : ∃ n : Nat, d = (n : Int) := ⟨d.toNat, (Int.toNat_of_nonneg h).symm⟩
def marks : List Nat := abc ++ (List.range 10).map (· + 48)
theorem cut_to {l : List Nat} {i : Nat} : cutS (S l) none (some (i : Int)) = S (l.take i) := by
  show S _ = S _
  rw [HT.sIx_none, HT.sIx_nat, S_len, S_cps, List.drop_zero, Nat.sub_zero]
  refine congrArg S ?_
  by_cases h : i ≤ l.length
  · rw [Nat.min_eq_left h]
  · rw [Nat.min_eq_right (by omega), List.take_length, List.take_of_length_le (by omega)]
theorem cut_from {l : List Nat} {i : Nat} : cutS (S l) (some (i : Int)) none = S (l.drop i) := by
  show S _ = S _
  rw [HT.sIx_none, HT.sIx_nat, S_len, S_cps]
  refine congrArg S ?_
  by_cases h : i ≤ l.length
  · rw [Nat.min_eq_left h]
    exact List.take_of_length_le (by rw [List.length_drop]; omega)
  · rw [Nat.min_eq_right (by omega), Nat.sub_self, List.take_zero, List.drop_eq_nil_of_le (by omega)]
theorem dp_strs {K : PySem.W.Frag} {H : Hp} : ∀ zs : List Str, DpAll K H (zs.map V.str) (zs.map PyData.str)
  | [] => .nil
  | z :: r => .cons (.str z) (dp_strs r)
theorem can_strs : ∀ {zs : List Str}, (∀ z ∈ zs, PyData.strOk z = true) → PyData.canLayAll0 (zs.map PyData.str) = true
  | [], _ => rfl
  | z :: r, h => by
    show (PyData.strOk z && PyData.canLayAll0 (r.map PyData.str)) = true
    rw [h z List.mem_cons_self, can_strs fun y q => h y (List.mem_cons_of_mem _ q)] <;> rfl
theorem shaped_strs {zs : List Str} (h : ∀ z ∈ zs, PyData.strOk z = true) : SeqAt.shaped (.list (zs.map PyData.str)) = true := by
  have d : PyData.depth (.list (zs.map PyData.str)) = 1 := by
    show PyData.depthAll (zs.map PyData.str) + 1 = 1
    rw [depthAll_strs]
  unfold SeqAt.shaped
  rw [d]
  show (PyData.canLayAll0 (zs.map PyData.str) && decide (1 ≤ 64)) = true
  rw [can_strs h] <;> rfl
theorem ok_codes {l : List Nat} (h : ∀ c ∈ l, c < 1000) : PyData.strOk (S l) = true := by
  unfold PyData.strOk
  rw [Array.all_eq_true]
  intro i hi
  have m : (S l).cps[i] ∈ l := by
    have q : (S l).cps[i] ∈ (S l).cps.toList := Array.mem_toList_iff.mpr (Array.getElem_mem hi)
    rwa [S_cps] at q
  have q := h _ m
  simp only [decide_eq_true_eq]
  omega
theorem IsNm.low {l : List Nat} (h : IsNm l) : ∀ c ∈ l, c < 1000 := fun c hc => by
  have := h.ok c hc
  omega
/-- the spare names -/
def spare : List Str := (marks.take 9).map fun c => S [122, c]
section
variable {P : Program} {w : World} {K : PySem.W.Frag} {mg : Str → Option Value} {base : Heap} {f fD fN : Addr} {fd fdD dN : FuncData}
end
end Wb
/-! drawn names and amounts -/
namespace Wb
open PySem L2 WbMin WbS Lz
section
variable {P : Program} {w : World} {K : PySem.W.Frag} {mg : Str → Option Value} {base : Heap} {f fD fN : Addr} {fd fdD dN : FuncData}
end
end Wb
/-! a model of a loop is drawn -/
namespace Wb
open PySem L2 WbMin WbS Lz
/-- what stands at a state and a sign, at a state -/
def Entry2 (H : Hp) (kvs : List (List Key × V)) (z : Str) (c : Nat) (y : Str) (m : Int) : Prop := ∃ t, valV kvs (kk (z, S [c])) = some (.ref t) ∧ H t = some (.tup [.str y, .int m])
def Entry1 (H : Hp) (kvs : List (Key × V)) (z y : Str) (m : Int) : Prop := ∃ t, valV kvs (k1 z) = some (.ref t) ∧ H t = some (.tup [.str y, .int m])
/-- tuples stay -/
def Tk (H H' : Hp) : Prop := ∀ b x, H b = some (.tup x) → H' b = some (.tup x)
theorem Tk.refl (H : Hp) : Tk H H := fun _ _ h => h
theorem Tk.trans {H H1 H2 : Hp} (a : Tk H H1) (b : Tk H1 H2) : Tk H H2 := fun c x h => b c x (a c x h)
theorem Tk.of {H H' : Hp} (s : Same H H') : Tk H H' := fun b _ h => s b _ h
theorem pool_other {H : Hp} {p b : Addr} {o : HO} (hp : PoolAt H p) (h : H b = some o) (n : ∀ x y z : Int, o ≠ .lst [.int x, .int y, .int z]) : b ≠ p := by
  obtain ⟨x, y, z, e, _⟩ := hp
  intro q
  subst q
  rw [e] at h
  exact n x y z (Option.some.inj h).symm
theorem Tk.but {H H' : Hp} {p : Addr} (hp : PoolAt H p) (s : But p H H') : Tk H H' := fun b x h => s b _ (pool_other hp h (fun _ _ _ q => by cases q)) h
theorem Tk.put {H : Hp} {S : Addr} {o o' : HO} (h : H S = some o) (n : ∀ x, o ≠ .tup x) : Tk H (L2.upd H S o') := fun b x e => by
  rw [upd_ne (ne_of e h (n x).symm)]
  exact e
theorem Tk.new {H : Hp} {S : Addr} {o' : HO} (h : H S = none) : Tk H (L2.upd H S o') := fun b x e => by
  rw [upd_ne (ne_of_none e h)]
  exact e
theorem Entry2.tk {H H' : Hp} {kvs : List (List Key × V)} {z y : Str} {c : Nat} {m : Int} (s : Tk H H') : Entry2 H kvs z c y m → Entry2 H' kvs z c y m := fun ⟨t, a, b⟩ => ⟨t, a, s _ _ b⟩
theorem Entry1.tk {H H' : Hp} {kvs : List (Key × V)} {z y : Str} {m : Int} (s : Tk H H') : Entry1 H kvs z y m → Entry1 H' kvs z y m := fun ⟨t, a, b⟩ => ⟨t, a, s _ _ b⟩
/-- a model of a loop stands: letters, states, steps, ends, yes states -/
def MdAt (H : Hp) (q : Addr) (L : LD) : Prop := ∃ (A Sd Ed O : Addr) (kvs : List (List Key × V)) (ws : List (Key × V)), H q = some (.lst [.str (S L.sg), .ref A, .ref Sd, .ref Ed, .ref O]) ∧ H A = some (.lst (L.st.map V.str)) ∧ H Sd = some (.dT kvs) ∧ H Ed = some (.dK ws) ∧
  (∀ i c, i < L.n → c ∈ L.sg → Entry2 H kvs (L.nm i) c (L.nm (L.nx i c)) (L.am i c)) ∧ (∀ i, i < L.n → Entry1 H ws (L.nm i) (L.nm (L.tn i)) (L.ta i)) ∧ H O = some (.lst (L.yes.map V.str))
theorem MdAt.but {H H' : Hp} {p q : Addr} {L : LD} (hp : PoolAt H p) (s : But p H H') : MdAt H q L → MdAt H' q L := fun ⟨A, Sd, Ed, O, kvs, ws, h0, hA, hS, hE, e2, e1, hO⟩ =>
  have tk := Tk.but hp s
  ⟨A, Sd, Ed, O, kvs, ws, s _ _ (pool_other hp h0 fun _ _ _ q => by cases q) h0, s _ _ (pool_ne hp hA) hA, s _ _ (pool_other hp hS fun _ _ _ q => by cases q) hS, s _ _ (pool_other hp hE fun _ _ _ q => by cases q) hE,
    fun i c hi hc => (e2 i c hi hc).tk tk, fun i hi => (e1 i hi).tk tk, s _ _ (pool_ne hp hO) hO⟩
theorem MdAt.same {H H' : Hp} {q : Addr} {L : LD} (s : Same H H') : MdAt H q L → MdAt H' q L := fun ⟨A, Sd, Ed, O, kvs, ws, h0, hA, hS, hE, e2, e1, hO⟩ =>
  ⟨A, Sd, Ed, O, kvs, ws, s _ _ h0, s _ _ hA, s _ _ hS, s _ _ hE, fun i c hi hc => (e2 i c hi hc).tk (Tk.of s), fun i hi => (e1 i hi).tk (Tk.of s), s _ _ hO⟩
/-- amounts that are not too great -/
structure LD.Small (L : LD) : Prop where
  am : ∀ i c, i < L.n → c ∈ L.sg → (L.am i c).natAbs < 2 ^ 110
  ta : ∀ i, i < L.n → (L.ta i).natAbs < 2 ^ 110
/-- drawn amounts are smaller yet: two of them together are small -/
structure LD.Tiny (L : LD) : Prop where
  am : ∀ i c, i < L.n → c ∈ L.sg → (L.am i c).natAbs < 2 ^ 100
  ta : ∀ i, i < L.n → (L.ta i).natAbs < 2 ^ 100
theorem LD.Tiny.small {L : LD} (t : L.Tiny) : L.Small := ⟨fun i c hi hc => Nat.lt_trans (t.am i c hi hc) (by decide), fun i hi => Nat.lt_trans (t.ta i hi) (by decide)⟩
/-- the entries of the pairs that are done -/
def E2s (H : Hp) (kvs : List (List Key × V)) (nm : Nat → Str) (n : Nat) (nx : Nat → Nat → Nat) (am : Nat → Nat → Int) (Dn : Nat → Nat → Prop) : Prop := ∀ i c, Dn i c → nx i c < n ∧ (am i c).natAbs < 2 ^ 100 ∧ Entry2 H kvs (nm i) c (nm (nx i c)) (am i c)
def E1s (H : Hp) (ws : List (Key × V)) (nm : Nat → Str) (n : Nat) (tn : Nat → Nat) (ta : Nat → Int) (k : Nat) : Prop := ∀ i, i < k → tn i < n ∧ (ta i).natAbs < 2 ^ 100 ∧ Entry1 H ws (nm i) (nm (tn i)) (ta i)
theorem E2s.tk {H H' : Hp} {kvs : List (List Key × V)} {nm : Nat → Str} {n : Nat} {nx : Nat → Nat → Nat} {am : Nat → Nat → Int} {Dn : Nat → Nat → Prop} (s : Tk H H') (h : E2s H kvs nm n nx am Dn) : E2s H' kvs nm n nx am Dn := fun i c d => ⟨(h i c d).1, (h i c d).2.1, (h i c d).2.2.tk s⟩
theorem E1s.tk {H H' : Hp} {ws : List (Key × V)} {nm : Nat → Str} {n : Nat} {tn : Nat → Nat} {ta : Nat → Int} {k : Nat} (s : Tk H H') (h : E1s H ws nm n tn ta k) : E1s H' ws nm n tn ta k := fun i d => ⟨(h i d).1, (h i d).2.1, (h i d).2.2.tk s⟩
theorem kk_eq {z y : Str} {a c : Nat} (h : kk (z, S [a]) = kk (y, S [c])) : z = y ∧ a = c := by
  have q := kk_inj h
  injection q with q1 q2
  refine ⟨q1, ?_⟩
  have := S_inj q2
  injection this
theorem E2s.put {H : Hp} {kvs : List (List Key × V)} {nm : Nat → Str} {n : Nat} {nx : Nat → Nat → Nat} {am : Nat → Nat → Int} {Dn Dn' : Nat → Nat → Prop} (h : E2s H kvs nm n nx am Dn) {i c e : Nat} {m : Int} {t : Addr} (ht : H t = some (.tup [.str (nm e), .int m])) (he : e < n) (hm : m.natAbs < 2 ^ 100) (hd : ∀ i' c', Dn' i' c' → Dn i' c' ∨ (nm i' = nm i ∧ c' = c)) :
    ∃ nx' am', E2s H (putK kvs (kk (nm i, S [c])) (.ref t)) nm n nx' am' Dn' := by
  refine ⟨fun i' c' => if nm i' = nm i ∧ c' = c then e else nx i' c', fun i' c' => if nm i' = nm i ∧ c' = c then m else am i' c', fun i' c' d => ?_⟩
  dsimp only
  by_cases q : nm i' = nm i ∧ c' = c
  · rw [if_pos q, if_pos q]
    refine ⟨he, hm, t, ?_, ht⟩
    rw [valV_put, if_pos (by rw [q.1, q.2])]
  · rw [if_neg q, if_neg q]
    have h0 := h i' c' ((hd i' c' d).resolve_right q)
    obtain ⟨t', a, b⟩ := h0.2.2
    refine ⟨h0.1, h0.2.1, t', ?_, b⟩
    rw [valV_put, if_neg fun z => q (kk_eq z)]
    exact a
theorem E1s.put {H : Hp} {ws : List (Key × V)} {nm : Nat → Str} {n : Nat} {tn : Nat → Nat} {ta : Nat → Int} {k : Nat} (h : E1s H ws nm n tn ta k) {e : Nat} {m : Int} {t : Addr} (ht : H t = some (.tup [.str (nm e), .int m])) (he : e < n) (hm : m.natAbs < 2 ^ 100) :
    ∃ tn' ta', E1s H (putK ws (k1 (nm k)) (.ref t)) nm n tn' ta' (k + 1) := by
  refine ⟨fun i' => if nm i' = nm k then e else tn i', fun i' => if nm i' = nm k then m else ta i', fun i' d => ?_⟩
  dsimp only
  by_cases q : nm i' = nm k
  · rw [if_pos q, if_pos q]
    refine ⟨he, hm, t, ?_, ht⟩
    rw [valV_put, if_pos (by rw [q])]
  · rw [if_neg q, if_neg q]
    have h0 := h i' (by
      have : i' ≠ k := fun z => q (by rw [z])
      omega)
    obtain ⟨t', a, b⟩ := h0.2.2
    refine ⟨h0.1, h0.2.1, t', ?_, b⟩
    rw [valV_put, if_neg fun z => q (k1_inj z)]
    exact a
/-- the same state once more -/
theorem E1s.over {H : Hp} {ws : List (Key × V)} {nm : Nat → Str} {n : Nat} {tn : Nat → Nat} {ta : Nat → Int} {k : Nat} (h : E1s H ws nm n tn ta (k + 1)) {e : Nat} {m : Int} {t : Addr} (ht : H t = some (.tup [.str (nm e), .int m])) (he : e < n) (hm : m.natAbs < 2 ^ 100) :
    ∃ tn' ta', E1s H (putK ws (k1 (nm k)) (.ref t)) nm n tn' ta' (k + 1) := E1s.put (k := k) (fun i d => h i (by omega)) ht he hm
def nmOf (st : List Str) (i : Nat) : Str := st.getD i (S [])
/-- a model while it is drawn -/
structure MSt (H H' : Hp) (p A Sd Ed : Addr) (st : List Str) (Dn : Nat → Nat → Prop) (k l1 l2 : Nat) : Prop where
  ex : ∃ (kvs : List (List Key × V)) (ws : List (Key × V)) (nx : Nat → Nat → Nat) (am : Nat → Nat → Int) (tn : Nat → Nat) (ta : Nat → Int), H' Sd = some (.dT kvs) ∧ H' Ed = some (.dK ws) ∧ kvs.length ≤ l1 ∧ ws.length ≤ l2 ∧ E2s H' kvs (nmOf st) st.length nx am Dn ∧ E1s H' ws (nmOf st) st.length tn ta k
  hA : H' A = some (.lst (st.map V.str))
  hp : PoolAt H' p
  b : But p H H'
  nS : H Sd = none
  nE : H Ed = none
section
variable {H H1 H2 : Hp} {p A Sd Ed : Addr} {st : List Str} {Dn Dn' : Nat → Nat → Prop} {k l1 l2 : Nat}
theorem MSt.but (q : MSt H H1 p A Sd Ed st Dn k l1 l2) (hp : PoolAt H2 p) (s : But p H1 H2) : MSt H H2 p A Sd Ed st Dn k l1 l2 := by
  obtain ⟨⟨kvs, ws, nx, am, tn, ta, hS, hE, c1, c2, e2, e1⟩, hA, hp1, b, nS, nE⟩ := q
  have tk := Tk.but hp1 s
  exact ⟨⟨kvs, ws, nx, am, tn, ta, s _ _ (pool_other hp1 hS fun _ _ _ q => by cases q) hS, s _ _ (pool_other hp1 hE fun _ _ _ q => by cases q) hE, c1, c2, e2.tk tk, e1.tk tk⟩, s _ _ (pool_ne hp1 hA) hA, hp, b.trans s, nS, nE⟩
theorem MSt.new (q : MSt H H1 p A Sd Ed st Dn k l1 l2) {t : Addr} {o : HO} (h : H1 t = none) : MSt H (L2.upd H1 t o) p A Sd Ed st Dn k l1 l2 := by
  obtain ⟨⟨kvs, ws, nx, am, tn, ta, hS, hE, c1, c2, e2, e1⟩, hA, hp1, b, nS, nE⟩ := q
  have tk : Tk H1 (L2.upd H1 t o) := Tk.new h
  have s : Same H1 (L2.upd H1 t o) := Same.put (Same.refl H1) h
  exact ⟨⟨kvs, ws, nx, am, tn, ta, s _ _ hS, s _ _ hE, c1, c2, e2.tk tk, e1.tk tk⟩, s _ _ hA, hp1.up h, b.upd h, nS, nE⟩
theorem MSt.up (q : MSt H H1 p A Sd Ed st Dn k l1 l2) {R : Addr} {o : HO} {xs : List V} (h : H1 R = some (.lst xs)) (nA : R ≠ A) (np : R ≠ p) (n0 : H R = none) : MSt H (L2.upd H1 R o) p A Sd Ed st Dn k l1 l2 := by
  obtain ⟨⟨kvs, ws, nx, am, tn, ta, hS, hE, c1, c2, e2, e1⟩, hA, hp1, b, nS, nE⟩ := q
  have tk : Tk H1 (L2.upd H1 R o) := Tk.put h (fun x => by intro z; cases z)
  exact ⟨⟨kvs, ws, nx, am, tn, ta, (upd_ne (ne_of hS h (by intro z; cases z))).trans hS, (upd_ne (ne_of hE h (by intro z; cases z))).trans hE, c1, c2, e2.tk tk, e1.tk tk⟩, (upd_ne nA.symm).trans hA, hp1.put np, b.new n0, nS, nE⟩
theorem MSt.put1 (q : MSt H H1 p A Sd Ed st Dn k l1 l2) {e : Nat} {m : Int} {t : Addr} (ht : H1 t = some (.tup [.str (nmOf st e), .int m])) (he : e < st.length) (hm : m.natAbs < 2 ^ 100) (hl : l2 < 100) :
    ∃ H4, DPut H1 Ed (.str (nmOf st k)) (.ref t) H4 ∧ MSt H H4 p A Sd Ed st Dn (k + 1) l1 (l2 + 1) := by
  obtain ⟨⟨kvs, ws, nx, am, tn, ta, hS, hE, c1, c2, e2, e1⟩, hA, hp1, b, nS, nE⟩ := q
  have nEp : Ed ≠ p := pool_other hp1 hE fun _ _ _ q => by cases q
  refine ⟨_, DPut.k (k := k1 (nmOf st k)) hE (by rw [sizeLine_eq]; omega), ?_⟩
  have tk : Tk H1 (L2.upd H1 Ed (.dK (putK ws (k1 (nmOf st k)) (.ref t)))) := Tk.put hE (fun x => by intro z; cases z)
  obtain ⟨tn', ta', e1'⟩ := e1.put ht he hm
  refine ⟨⟨kvs, _, nx, am, tn', ta', (upd_ne (ne_of hS hE (by intro z; cases z))).trans hS, upd_same, c1, ?_, e2.tk tk, e1'.tk tk⟩, (upd_ne (ne_of hA hE (by intro z; cases z))).trans hA, hp1.put nEp, b.new nE, nS, nE⟩
  exact Nat.le_trans (length_putK ws _ _) (by omega)
theorem MSt.over (q : MSt H H1 p A Sd Ed st Dn (k + 1) l1 l2) {e : Nat} {m : Int} {t : Addr} (ht : H1 t = some (.tup [.str (nmOf st e), .int m])) (he : e < st.length) (hm : m.natAbs < 2 ^ 100) (hl : l2 < 100) :
    ∃ H4, DPut H1 Ed (.str (nmOf st k)) (.ref t) H4 ∧ MSt H H4 p A Sd Ed st Dn (k + 1) l1 (l2 + 1) := by
  obtain ⟨⟨kvs, ws, nx, am, tn, ta, hS, hE, c1, c2, e2, e1⟩, hA, hp1, b, nS, nE⟩ := q
  exact MSt.put1 (k := k) ⟨⟨kvs, ws, nx, am, tn, ta, hS, hE, c1, c2, e2, fun i d => e1 i (by omega)⟩, hA, hp1, b, nS, nE⟩ ht he hm hl
end
section
variable {P : Program} {w : World} {K : PySem.W.Frag} {mg : Str → Option Value} {base : Heap} {f fD fN fNs fA : Addr} {fd fdD dN dNs dA : FuncData}
end
end Wb
/-! a list unpacked into names -/
namespace Lz
open PySem PySem.W PySem.Spec PyProof.Rows
section
variable {prog : Program} {w : World} {A : Around} {E : Value → Shared → Prop} {I l : Addr} {St : Nat → Shared → Prop} {items : Array Value} {s : Shared}
end
end Lz
namespace Lz
open PySem PySem.Spec PyProof.Rows L2
section
variable {X : Cx}
end
end Lz
/-! all that a loop is made of, in its one order; the program's loop -/
namespace Wb
open PySem L2 WbMin WbS Lz
def LD.srt (L : LD) (sg : List Nat) : LD := { L with sg := sg }
theorem LD.Ok.srt {L : LD} (O : L.Ok) {sg : List Nat} (p : sg.Perm L.sg) : (L.srt sg).Ok :=
  ⟨⟨fun c hc => O.sgs.low c (p.mem_iff.mp hc), p.nodup_iff.mpr O.sgs.nd, by show 0 < sg.length; rw [p.length_eq]; exact O.sgs.pos, by show sg.length ≤ 4; rw [p.length_eq]; exact O.sgs.few⟩, O.sts, fun i c hi hc => O.nxlt i c hi (p.mem_iff.mp hc), O.tnlt⟩
theorem Tups.append {H : Hp} : ∀ {as bs : List Addr} {xs ys : List (List V)}, Tups H as xs → Tups H bs ys → Tups H (as ++ bs) (xs ++ ys)
  | [], _, [], _, _, h => h
  | _ :: _, _, _ :: _, _, h, g => ⟨h.1, Tups.append h.2 g⟩
  | [], _, _ :: _, _, h, _ => h.elim
  | _ :: _, _, [], _, h, _ => h.elim
section
variable {P : Program} {w : World} {K : PySem.W.Frag} {mg : Str → Option Value} {base : Heap} {f fL : Addr} {fd dL : FuncData} {A : LA} {e : Addr}
end
end Wb
/-! what a loop's answers hang on: the map of a word alone -/
namespace Wb
open PySem L2 WbMin WbS Lz
theorem it_congr {g g' : Nat → Nat} {n : Nat} (h0 : 0 < n) (lt : ∀ i, i < n → g i < n) (h : ∀ i, i < n → g i = g' i) : ∀ m, it g m = it g' m
  | 0 => rfl
  | m + 1 => by
    show g (it g m) = g' (it g' m)
    rw [← it_congr h0 lt h m]
    exact h _ (it_lt h0 lt m)
theorem fold_fst (L : LD) : ∀ (w : List Nat) (p p' : Nat × Int), p.1 = p'.1 → (w.foldl L.stp p).1 = (w.foldl L.stp p').1
  | [], _, _, h => h
  | c :: w, p, p', h => fold_fst L w _ _ (by show L.nx p.1 c = L.nx p'.1 c; rw [h])
theorem wk_app (L : LD) (u v : List Nat) (i : Nat) : (L.wk (u ++ v) i).1 = (L.wk v (L.wk u i).1).1 := by
  unfold LD.wk
  rw [List.foldl_append]
  exact fold_fst L v _ _ rfl
theorem lead_of {L : LD} {u v : List Nat} {i : Nat} (h : (L.wk u i).1 = (L.wk v i).1) : L.lead u i = L.lead v i := congrArg L.tn h
/-- a word that leads from each state where the other one leads -/
def Alike (L : LD) (u v : List Nat) : Prop := ∀ i, i < L.n → (L.wk u i).1 = (L.wk v i).1
theorem Alike.left {L : LD} {u v w : List Nat} (h : Alike L u v) : Alike L (u ++ w) (v ++ w) := fun i hi => by rw [wk_app, wk_app, h i hi]
theorem Alike.right {L : LD} (O : L.Ok) {u v w : List Nat} (hw : ∀ c ∈ w, c ∈ L.sg) (h : Alike L u v) : Alike L (w ++ u) (w ++ v) := fun i hi => by rw [wk_app, wk_app, h _ (wk_lt O hi hw)]
theorem Alike.it {L : LD} (O : L.Ok) {u v : List Nat} (hu : ∀ c ∈ u, c ∈ L.sg) (h : Alike L u v) (m : Nat) : it (L.lead u) m = it (L.lead v) m :=
  it_congr O.sts.pos (fun i hi => gone_lt O hi hu) (fun i hi => lead_of (h i hi)) m
theorem LoopAt.but {C T : Addr} {H H' : Hp} {p r : Addr} {L : LD} (hp : PoolAt H p) (s : But p H H') : LoopAt C T H r L → LoopAt C T H' r L := by
  rintro ⟨dx, t, rr, u, y, tb, as, bs, h0, pr, dx', dN, dX, dA, tX, tA, tY, xs, as', g0, hX, hx, hA, ha, hTX, hTA, hTY⟩
  obtain ⟨a, b, c, e, _⟩ := id hp
  have no : ∀ x, HO.lst [V.int a, .int b, .int c] ≠ HO.tup x := fun x q => by cases q
  exact ⟨dx, t, rr, u, y, tb, as, bs, s _ _ (pool_other hp h0 fun _ _ _ q => by cases q) h0, pr.but no e s, dx', dN, dX, dA, tX, tA, tY, xs, as', s _ _ (pool_other hp g0 fun _ _ _ q => by cases q) g0, s _ _ (pool_other hp hX fun _ _ _ q => by cases q) hX, hx.but no e s,
    s _ _ (pool_other hp hA fun _ _ _ q => by cases q) hA, ha.but no e s, s _ _ (pool_other hp hTX fun _ _ _ q => by cases q) hTX, s _ _ (pool_other hp hTA fun _ _ _ q => by cases q) hTA, s _ _ (pool_other hp hTY fun _ _ _ q => by cases q) hTY⟩
theorem LoopAt.hd {C T : Addr} {H : Hp} {r : Addr} {L : LD} (h : LoopAt C T H r L) : ∃ (dx : Addr) (fs : List (Str × V)), H r = some (.ins C dx fs) ∧ fs.lookup ("answer" : Str) = none ∧ fs.lookup ("state" : Str) = none := by
  obtain ⟨dx, t, rr, u, y, tb, as, bs, h0, pr, TA⟩ := h
  obtain ⟨_, _, _, x4, x5⟩ := lf_none (S L.sg) t rr u y tb
  exact ⟨dx, _, h0, x4, x5⟩
theorem MdAt.hd {H : Hp} {q : Addr} {L : LD} (h : MdAt H q L) : ∃ A Sd Ed O : Addr, H q = some (.lst [.str (S L.sg), .ref A, .ref Sd, .ref Ed, .ref O]) ∧ H A = some (.lst (L.st.map V.str)) ∧ H O = some (.lst (L.yes.map V.str)) := by
  obtain ⟨A, Sd, Ed, O, kvs, ws, h0, hA, hS, hE, e2, e1, hO⟩ := h
  exact ⟨A, Sd, Ed, O, h0, hA, hO⟩
theorem PoolAt.same {H H' : Hp} {p : Addr} (h : PoolAt H p) (s : Same H H') : PoolAt H' p := by
  obtain ⟨a, b, c, e, r⟩ := h
  exact ⟨a, b, c, s _ _ e, r⟩
end Wb
/-! totals of a loop: the mathematics -/
namespace Wb
open PySem L2 WbMin WbS Lz
theorem LD.Small.srt {L : LD} (s : L.Small) {sg : List Nat} (p : sg.Perm L.sg) : (L.srt sg).Small := ⟨fun i c hi hc => s.am i c hi (p.mem_iff.mp hc), s.ta⟩
def LD.cf (L : LD) (w : List Nat) (m : Nat) : Int := L.cnt w (it (L.lead w) m)
end Wb
/-! the total of the first rounds -/
namespace Wb
open PySem L2 WbMin WbS Lz
structure TotA where
  (fTo : Addr)
  (dTo : FuncData)
section
variable {P : Program} {w : World} {K : PySem.W.Frag} {mg : Str → Option Value} {base : Heap} {A : LA} {B : TotA} {e : Addr}
end
end Wb
namespace Wb
open PySem L2 WbMin WbS Lz
abbrev sTurns : Stmt := top 24
abbrev sInit : Stmt := inClass (top 27) 0
/-! ### the mathematics: turnings as lists of codes -/
def rot (l : List Nat) (i : Nat) : List Nat := l.drop i ++ l.take i
def turnsS (l : List Nat) : List Str := (List.range l.length).map fun i => S (rot l i)
def leastOf : List Str → Str
  | [] => S []
  | x :: xs => minS x xs
def textS (l : List Nat) : Str := leastOf (turnsS l)
def perN (l : List Nat) : Nat := (WbSet.differ (turnsS l)).length
theorem rot_len (l : List Nat) (i : Nat) : (rot l i).length = l.length := by
  unfold rot
  rw [List.length_append, List.length_drop, List.length_take]
  omega
theorem turns_len (l : List Nat) : (turnsS l).length = l.length := by
  unfold turnsS
  rw [List.length_map, List.length_range]
theorem least_cons {xs : List Str} (h : 0 < xs.length) : ∃ x r, xs = x :: r ∧ leastOf xs = minS x r := by
  cases xs with
  | nil => cases h
  | cons x r => exact ⟨x, r, rfl, rfl⟩
/-! ### the object -/
def rf (t : Str) (n : Int) : List (Str × V) := putF "_period" (.int n) (putF "_text" (.str t) [])
theorem tp_ : ¬ (("_text" : Str) = "_period") := by decide +kernel
theorem rf_text (t : Str) (n : Int) : (rf t n).lookup ("_text" : Str) = some (.str t) := by
  unfold rf
  rw [lookup_putF, if_neg tp_, lookup_putF, if_pos rfl]
/-- the ring of the word l stands at r -/
def RingAt (C : Addr) (H : Hp) (r : Addr) (l : List Nat) : Prop := IsW l ∧ ∃ dx, H r = some (.ins C dx (rf (textS l) (perN l)))
theorem RingAt.same {C : Addr} {H H' : Hp} {r : Addr} {l : List Nat} (h : RingAt C H r l) (s : Same H H') : RingAt C H' r l := by
  obtain ⟨W, dx, e⟩ := h
  exact ⟨W, dx, s _ _ e⟩
theorem RingAt.but {C p : Addr} {H H' : Hp} {r : Addr} {l : List Nat} (h : RingAt C H r l) (s : But p H H') (n : r ≠ p) : RingAt C H' r l := by
  obtain ⟨W, dx, e⟩ := h
  exact ⟨W, dx, s _ _ n e⟩
def spTurns : Sp := fun vs H Q _ => ∃ l : List Nat, vs = [.str (S l)] ∧ IsW l ∧ ∀ (a : Addr) (H' : Hp), H a = none → Same H H' → H' a = some (.lst ((turnsS l).map V.str)) → Q (.ref a) H'
def spInit (C : Addr) : Sp := fun vs H Q _ => ∃ (H0 : Hp) (r dx : Addr) (l : List Nat), vs = [.ref r, .str (S l)] ∧ IsW l ∧ Same H0 H ∧ H0 r = none ∧ H r = some (.ins C dx []) ∧ ∀ H' : Hp, Same H0 H' → RingAt C H' r l → Q .non H'
/-- what the top has written of the class -/
structure Txt (K : PySem.W.Frag) (mg : Str → Option Value) (C : Addr) : Prop where
  cl : Cls K C
  nT : NoAttr K C "_text"
  nP : NoAttr K C "_period"
  gC : mg "Ring" = some (.ref C)
  hcl : PySem.W.findIn K (.ref C) "__class__" = some (some (.builtin "object.__class__"))
  hgt : PySem.W.specialIn K (.builtin "object.__class__") "__get__" = some (some (.builtin "getset_descriptor.__get__"))
  htk : PySem.W.takesIn K (.builtin "object.__class__") = some true
  hob : PySem.W.mroIn K C (.type "object") = some true
section
variable {P : Program} {w : World} {K : PySem.W.Frag} {mg : Str → Option Value} {base : Heap} {f fD fS fW : Addr} {fd fdD fdS fdW : FuncData}
theorem scT : FnScope ["word", "place"] ["word"] (defScope sTurns) := ⟨rfl, rfl, rfl, by decide +kernel, rfl, by decide +kernel, by decide +kernel⟩
theorem ok_turns (F : Fun K "_all_turnings" "_all_turnings" sTurns f fd) (Z : Free mg) : FnOk P w K mg base CX0 1 f fd ["word"] spTurns := by
  refine F.ok scT (fun vs H Q E h => ?_) (fun cdv A outer s H vs Q E hr h => ?_)
  · obtain ⟨l, rfl, _⟩ := h
    rfl
  · obtain ⟨l, rfl, W, k⟩ := h
    refine ⟨_, pss_one (ps_ret (pe_lc (own := [("place", 1)]) (g := gName 1) (tt := tYes) rfl scT.nd (pi_range1 rfl Z.range (pa_cons (pe_callB call_len_str (by rfl) Z.len PySem.boot_len (pa_cons (pv 0) pa_nil)) pa_nil))
      (blkOk_by (N := ["word", "place"]) (sc := defScope sTurns) (by decide +kernel)) (fun _ _ _ _ _ => pg_name (i := 1) scT.nd rfl (.inl rfl)) (fun _ _ _ _ _ => pts_nil)
      (fun _ _ _ _ _ => pe_op op_add_str (pe_slice sl_str (pv 0) (po_some (pv 1)) po_none) (pe_slice sl_str (pv 0) po_none (po_some (pv 1)))))), ?_⟩
    have few := W.few
    refine ⟨_, rfl, _, rfl, W.fits, _, rfl, (by rw [S_len]; omega), (by rw [S_len]; omega), fun D hD => lc_it walk_range (fun i H3 => H3 D = some (.lst ((((List.range i).map fun j => S (rot l j))).map V.str)) ∧ Same H H3) ⟨upd_same, Same.put (Same.refl H) hD⟩ (fun _ _ _ _ => trivial) ?_ ?_⟩
    · rintro i x H3 H3' hi ⟨h1, h2⟩ ⟨rfl, rfl⟩
      rw [S_len] at hi
      have hi' : i ≤ l.length := by omega
      have c1 : cutS (S l) (some (0 + (i : Int))) none = S (l.drop i) := by rw [Int.zero_add]; exact cut_from
      have c2 : cutS (S l) none (some (0 + (i : Int))) = S (l.take i) := by rw [Int.zero_add]; exact cut_to
      have s1 := rot_len l i
      unfold rot at s1
      rw [List.length_append] at s1
      refine ⟨rfl, _, rfl, _, rfl, _, rfl, _, rfl, W.fits, _, rfl, _, rfl, _, rfl, _, rfl, W.fits, _, _, rfl, rfl, ?_, _, h1, ?_, ?_, Same.new' h2 hD⟩
      · rw [c1, c2, S_len, S_len, sizeLine_eq]
        omega
      · rw [List.length_map, List.length_map, List.length_range, sizeLine_eq]
        omega
      · rw [upd_same, c1, c2, S_add, List.range_succ, List.map_append, List.map_append] <;> rfl
    · rintro H3 ⟨h1, h2⟩
      refine k D H3 hD h2 ?_
      rw [h1, S_len] <;> rfl
/-- of InvalidWord nothing is asked: the branch is not taken -/
theorem scI : FnScope ["self", "text", "turnings"] ["self", "text"] (defScope sInit) := ⟨rfl, rfl, rfl, by decide +kernel, rfl, by decide +kernel, by decide +kernel⟩
theorem ok_init {C : Addr} (F : Fun K "__init__" "Ring.__init__" sInit f fd) (T : Txt K mg C) (Z : Free mg) (t6 : Tok) (g6 : mg "MOST_WORD" = some (.int 600 t6)) (DW : Def K mg "is_word" sIsWord ["value"] fW fdW) (DT : Def K mg "_all_turnings" sTurns ["word"] fS fdS) :
    FnOk P w K mg base CX0 2 f fd ["self", "text"] (spInit C) := by
  have GW : FnOk P w K mg base CX0 1 fW fdW ["value"] spIsWord := ok_isword DW.F Z t6 g6
  have GT : FnOk P w K mg base CX0 1 fS fdS ["word"] spTurns := ok_turns DT.F Z
  refine F.ok scI (fun vs H Q E h => ?_) (fun cdv A outer s H vs Q E hr h => ?_)
  · obtain ⟨H0, r, dx, l, rfl, _⟩ := h
    rfl
  · obtain ⟨H0, r, dx, l, rfl, W, s0, r0, hp, k⟩ := h
    refine ⟨_, pss_cons (ps_if (pt_not (pt_val (pe_call GW hr rfl DW.g DW.kp DW.b .nil pass0 (pa_cons (pv 1) pa_nil)))) (pss_one ps_never) pss_nil)
      (pss_cons (ps_set (i := 2) scI.nd rfl (.inl rfl) (pe_call GT hr rfl DT.g DT.kp DT.b .nil pass0 (pa_cons (pv 1) pa_nil)))
      (pss_cons (ps_fld (pv 0) (pe_callB (cr_minS hr rfl) (by rfl) Z.min (by decide +kernel) (pa_cons (pv 2) pa_nil)) rfl)
      (pss_one (ps_fld (pv 0) (WbSet.pe_lenSet rfl (by rfl) Z.len (by rfl) Z.set (pv 2)) rfl)))), ?_⟩
    refine ⟨_, rfl, l, rfl, W, fun H1 s1 => ⟨true, rfl, _, rfl, l, rfl, W, fun a H2 a0 s2 h2 => ?_⟩⟩
    obtain ⟨x, xs, e1, e2⟩ := least_cons (xs := turnsS l) (by rw [turns_len]; exact W.pos)
    have hr2 : H2 r = some (.ins C dx []) := s2 _ _ (s1 _ _ hp)
    have nra : a ≠ r := ne_of h2 hr2 (by intro z; cases z)
    refine ⟨_, rfl, a, x, xs, rfl, SqL.of (by rw [h2, e1]), _, rfl, r, C, dx, _, rfl, hr2, T.cl, T.nT, (by show 0 < 1000; decide), ?_⟩
    refine ⟨_, rfl, a, turnsS l, rfl, SqL.of (by rw [upd_ne nra]; exact h2), (by rw [turns_len]; have := W.few; omega), _, rfl, r, C, dx, _, rfl, upd_same, T.cl, T.nP, (by show 1 < 1000; decide), ?_⟩
    refine k _ ?_ ⟨W, dx, ?_⟩
    · exact Same.new' (Same.new' ((s0.trans s1).trans s2) r0) r0
    · rw [upd_same]
      unfold rf textS perN
      rw [e2]
end
end Wb
/-! the mathematics of turnings: the least one, the number of different ones -/
namespace Wb
open PySem L2 WbMin WbS Lz
/-! ### lists without doubles -/
/-! ### the least text -/
theorem min_mem : ∀ (xs : List Str) (x : Str), minS x xs ∈ x :: xs
  | [], x => List.mem_cons_self
  | y :: r, x => by
    show minS (if y.cps.toList < x.cps.toList then y else x) r ∈ x :: y :: r
    split
    · exact List.mem_cons_of_mem _ (min_mem r y)
    · rcases List.mem_cons.mp (min_mem r x) with q | q
      · rw [q] <;> exact List.mem_cons_self
      · exact List.mem_cons_of_mem _ (List.mem_cons_of_mem _ q)
theorem least_mem {xs : List Str} (h : 0 < xs.length) : leastOf xs ∈ xs := by
  obtain ⟨x, r, e, q⟩ := least_cons h
  rw [q, e]
  exact min_mem r x
/-! ### turnings -/
theorem rot_get {l : List Nat} {i j : Nat} (hi : i ≤ l.length) (hj : j < l.length) : (rot l i)[j]? = l[(i + j) % l.length]? := by
  unfold rot
  by_cases h : j < l.length - i
  · rw [List.getElem?_append_left (by rw [List.length_drop]; exact h), List.getElem?_drop, Nat.mod_eq_of_lt (by omega)]
  · have e : (i + j) % l.length = i + j - l.length := by
      rw [Nat.mod_eq_sub_mod (by omega), Nat.mod_eq_of_lt (by omega)]
    rw [List.getElem?_append_right (by rw [List.length_drop]; omega), List.length_drop, e, List.getElem?_take, if_pos (by omega)]
    congr 1
    omega
theorem rot_rot {l : List Nat} {i j : Nat} (hi : i ≤ l.length) (hj : j ≤ l.length) (h0 : 0 < l.length) : rot (rot l i) j = rot l ((i + j) % l.length) := by
  refine List.ext_getElem? fun k => ?_
  by_cases hk : k < l.length
  · rw [rot_get (by rw [rot_len]; exact hj) (by rw [rot_len]; exact hk), rot_len, rot_get hi (Nat.mod_lt _ h0), rot_get (Nat.le_of_lt (Nat.mod_lt _ h0)) hk]
    congr 1
    rw [Nat.add_mod_mod, Nat.mod_add_mod, Nat.add_assoc]
  · rw [List.getElem?_eq_none (by rw [rot_len, rot_len]; omega), List.getElem?_eq_none (by rw [rot_len]; omega)]
theorem rot_zero (l : List Nat) : rot l 0 = l := by simp [rot]
theorem turns_mem {l : List Nat} {z : Str} : z ∈ turnsS l ↔ ∃ i, i < l.length ∧ z = S (rot l i) := by
  unfold turnsS
  rw [List.mem_map]
  constructor
  · rintro ⟨i, h, e⟩
    exact ⟨i, List.mem_range.mp h, e.symm⟩
  · rintro ⟨i, h, e⟩
    exact ⟨i, List.mem_range.mpr h, e.symm⟩
/-- the text of a ring is one of its turnings -/
theorem text_is {l : List Nat} (h0 : 0 < l.length) : ∃ i, i < l.length ∧ textS l = S (rot l i) := turns_mem.mp (least_mem (by rw [turns_len]; exact h0))
theorem IsW.rot {l : List Nat} (W : IsW l) (i : Nat) : IsW (Wb.rot l i) := by
  refine ⟨fun c hc => W.low c ?_, by rw [rot_len]; exact W.pos, by rw [rot_len]; exact W.few⟩
  unfold Wb.rot at hc
  rcases List.mem_append.mp hc with q | q
  · exact List.mem_of_mem_drop q
  · exact List.mem_of_mem_take q
/-! ### the number of different turnings -/
theorem back {l : List Nat} {p : Nat} (h0 : 0 < l.length) (hp : 0 < p) (hpn : p ≤ l.length) (e : rot l p = l) : ∀ i, i < l.length → rot l i = rot l (i % p) := fun i => by
  induction i using Nat.strongRecOn with
  | ind i ih =>
    intro hi
    by_cases q : i < p
    · rw [Nat.mod_eq_of_lt q]
    · have h1 := rot_rot (l := l) (i := p) (j := i - p) hpn (by omega) h0
      rw [e, show p + (i - p) = i by omega, Nat.mod_eq_of_lt hi] at h1
      rw [← h1, ih (i - p) (by omega) (by omega), ← Nat.mod_eq_sub_mod (by omega)]
end Wb
/-! what an own class's special methods are worth: len(o), bool(o), str(o), o == p, o != p, o an instance of a class of the program's own -/
namespace WbO
open PySem PySem.W PySem.Spec PyProof.Rows
section
variable {prog : Program} {w : World} {A : Around} {E : Value → Shared → Prop} {s : Shared} {K : Frag} {x C f : Addr} {ox : Obj} {od : Option Obj}
end
end WbO
namespace WbO
open PySem PySem.Spec PyProof.Rows L2
section
variable {X : Cx} {CX : CXT} {k : Nat} {C g : Addr} {fd : FuncData} {ps : List Str} {sp : Sp} {E : XK}
/-- a def called at values, anywhere deeper -/
theorem run_at {pins : List (Addr × Obj)} {σ : L2.St} {H : Hp} {s : Shared} {Q : VK} {vs : List V} {us : List Value} {A' : Around} {E' : Value → Shared → Prop} (F : FnOk X.prog X.w X.K X.mg X.base CX k g fd ps sp) (hr : Room k A') (e0 : Env0 X.prog X.w X.K X.mg X.base A' X.stack s H)
    (hb : Binds X.K fd ps []) (hx : Passes CX X.nox E) (I : Inv X pins σ H s) (r : Vals vs us) (h : sp vs H Q E) : wpAny (model X.prog X.w) A' (call (.ref g) us) (EP X pins σ Q) E' s := by
  have hl : (us ++ ([] : List Value)).length = ps.length := by rw [List.append_nil, ← r.length]; exact F.len _ _ _ _ h
  have hB := hb s us I.kIn hl
  rw [List.append_nil] at hB
  refine wpAny_call (codeAny_mono (F.run A' X.stack s H ⟨us, []⟩ us vs Q E hr e0 hB r h) fun r s' hq => ?_)
  cases r with
  | error er => exact (hx pins σ H s er s' (I.wish _) hq).elim
  | ok fl =>
    cases fl with
    | ret u => exact I.after hq
    | next => exact hq.elim
    | brk => exact hq.elim
    | cont => exact hq.elim
/-- o == p, o an instance of the class at C, p anything that has a type -/
def rEqO (K : PySem.W.Frag) (C : Addr) (sp : Sp) (E : XK) : R2 := fun x y H Q => ∃ (a dx b dy : Addr) (fs gs : List (Str × V)), x = .ref a ∧ y = .ref b ∧ H a = some (.ins C dx fs) ∧ H b = some (.ins C dy gs) ∧ sp [.ref a, .ref b] H Q E
theorem op_eqO (hs : PySem.W.findIn X.K (.ref C) "__eq__" = some (some (.ref g))) (hf : PySem.W.isFn X.K (.ref g) = true) (nf : PySem.W.notFirst X.K C (.ref C) = true) (F : FnOk X.prog X.w X.K X.mg X.base CX k g fd ps sp) (hr : Room k X.A) (hb : Binds X.K fd ps []) (hx : Passes CX X.nox E) : OpR X (compareOp .Eq) (rEqO X.K C sp E) := by
  intro pins s σ H x y v u Q I rx ry h
  obtain ⟨a, dx, b, dy, fs, gs, rfl, rfl, ha, hb', q⟩ := h
  cases (show v = Value.ref a from rx)
  cases (show u = Value.ref b from ry)
  obtain ⟨mA, O, _⟩ := ins_get I.hok ha
  obtain ⟨od, J, _⟩ := O.look
  obtain ⟨mB, O', _⟩ := ins_get I.hok hb'
  obtain ⟨od', J', _⟩ := O'.look
  obtain ⟨m, hF⟩ := I.fr
  show wpAny (model X.prog X.w) X.A (richCompare .Eq (.ref a) (.ref b)) _ _ s
  refine PySem.W.cmp_K (op := .Eq) (tb := .ref C) hr.units0 hF I.ok.mod.kin J J'.type nf hs hf (wpAny_mono (run_at (vs := [.ref a, .ref b]) (us := [.ref a, .ref b]) F hr I.env0 hb hx I (.cons rfl (.cons rfl .nil)) q) (fun w s' z => ?_) fun _ _ x => x)
  obtain ⟨z', H', I', rz, qz⟩ := z
  exact SlX.cmpback rz ⟨z', H', I', rz, qz⟩
end
end WbO
/-! reading round a ring: turned, [i], [i, n] -/
namespace WbT
open PySem PySem.Spec PyProof.Rows L2
section
variable {X : Cx} {CX : CXT} {k : Nat} {C g : Addr} {fd : FuncData} {ps ks : List Str} {sp : Sp} {E : XK} {o : Expr} {m : Str} {apos pos : Pos} {kws : List Keyword} {ta : TE} {tk : TA} {kg : List Value → List Value → List Value} {gV : List V → List V → List V}
theorem vals_signs : ∀ (l : List Nat) (us : List Value), us.length = l.length → (∀ (j : Nat) (v : Value), us[j]? = some v → ∃ c t, l[j]? = some c ∧ v = Value.str ⟨#[c]⟩ t) → Vals (l.map fun c => V.str ⟨#[c]⟩) us
  | [], [], _, _ => .nil
  | [], _ :: _, h, _ => by cases h
  | _ :: _, [], h, _ => by cases h
  | c :: l, u :: us, h, k => by
    obtain ⟨c', t, e1, e2⟩ := k 0 u rfl
    cases e1
    exact .cons ⟨t, e2⟩ (vals_signs l us (Nat.succ.inj h) fun j v q => k (j + 1) v q)
/-- list(z) of a text -/
theorem call_listS (hc : X.calm = true) : CallR X (.type "list") (fun xs H Q => ∃ z : Str, xs = [.str z] ∧ z.length ≤ sizeLine ∧ ∀ p, H p = none → Q (.ref p) (upd H p (.lst (z.cps.toList.map fun c => V.str ⟨#[c]⟩)))) := by
  intro pins s σ H xs us Q I r h
  obtain ⟨z, rfl, fits, q⟩ := h
  obtain ⟨u, rfl, t, rfl⟩ := vals1 r
  refine call_list_str (hn := fits) (I.ok.hd hc) z t fun h' tk acc c kept new items => ?_
  have rel : Vals (z.cps.toList.map fun c => V.str ⟨#[c]⟩) acc.toList := vals_signs _ _ (by rw [Array.length_toList, Array.length_toList]; exact items.1) fun j v e => by
    obtain ⟨c, u, e1, e2⟩ := items.2 j v (by rw [← Array.getElem?_toList]; exact e)
    exact ⟨c, u, by rw [Array.getElem?_toList]; exact e1, e2⟩
  have fits' : (z.cps.toList.map fun c => V.str ⟨#[c]⟩).length ≤ sizeLine := by rw [List.length_map, Array.length_toList]; exact fits
  exact ⟨.ref s.heap.objs.size, _, I.laid (t' := tk) kept (Nat.le_refl _) (show ObjOk X.prog X.w _ h' _ (.lst _) from ⟨fits', acc.toList, c, rel, new⟩), rfl, q _ (I.hok.fresh (Nat.le_refl _))⟩
end
end WbT
namespace Wb
open PySem L2 WbMin WbS Lz WbO WbT
/-! ### reading so many signs round a word -/
/-- the text of the ring as codes -/
def tx (l : List Nat) : List Nat := (textS l).cps.toList
theorem S_tx (l : List Nat) : S (tx l) = textS l := S_of _
theorem tx_is {l : List Nat} (h0 : 0 < l.length) : ∃ i, i < l.length ∧ tx l = rot l i := by
  obtain ⟨i, h, e⟩ := text_is h0
  exact ⟨i, h, by unfold tx; rw [e, S_cps]⟩
theorem tx_w {l : List Nat} (W : IsW l) : IsW (tx l) := by
  obtain ⟨i, _, e⟩ := tx_is W.pos
  rw [e]
  exact W.rot i
/-! ### the promises -/
section
variable {P : Program} {w : World} {K : PySem.W.Frag} {mg : Str → Option Value} {base : Heap} {f fI fP fR C : Addr} {fd dI dP dR : FuncData}
end
end Wb
/-! the mathematics of words so many times, joined, read from behind -/
namespace Wb
open PySem L2 WbMin
theorem IsW.join {l m : List Nat} (W : IsW l) (V : IsW m) (h : l.length + m.length ≤ 600) : IsW (l ++ m) := by
  refine ⟨fun c hc => ?_, by rw [List.length_append]; have := W.pos; omega, by rw [List.length_append]; exact h⟩
  rcases List.mem_append.mp hc with q | q
  · exact W.low c q
  · exact V.low c q
theorem IsW.rev {l : List Nat} (W : IsW l) : IsW l.reverse := ⟨fun c hc => W.low c (List.mem_reverse.mp hc), by rw [List.length_reverse]; exact W.pos, by rw [List.length_reverse]; exact W.few⟩
end Wb
/-! a ring so many times; its period -/
namespace WbX
open PySem PySem.Spec PyProof.Rows L2 WbO
section
variable {X : Cx} {CX : CXT} {k : Nat} {C g : Addr} {fd : FuncData} {ps : List Str} {sp : Sp} {E : XK}
end
end WbX
namespace Wb
open PySem L2 WbMin WbS Lz WbO WbT WbX
structure RgA where
  (C fI fU fM fP pP turns readr : Addr)
  (dI dU dM dP dturns dreadr : FuncData)
section
variable {P : Program} {w : World} {K : PySem.W.Frag} {mg : Str → Option Value} {base : Heap} {f C fI fW : Addr} {fd dI dW : FuncData} {R : RgA}
end
end Wb
/-! class Kind over the base of the loops (out of k10's and k08's texts): checks, pairs, the kind -/
namespace Wb
open PySem L2 WbMin WbO WbS WbT Lz
/-! ## k08 WbK1.lean -/
abbrev sIsPair : Stmt := top 29
abbrev sChPairs : Stmt := top 30
abbrev sAllP : Stmt := top 31
abbrev sGoes : Stmt := top 32
abbrev sHas : Stmt := top 33
/-- a pair of these signs -/
def PairOf (sg : List Nat) (z : Str) : Prop := ∃ a b, a ∈ sg ∧ b ∈ sg ∧ z = S [a, b]
structure Prs (sg : List Nat) (ps : List Str) : Prop where
  of : ∀ z ∈ ps, PairOf sg z
  nd : ps.Nodup
  few : ps.length ≤ 16
def spIsPair : Sp := fun vs H Q _ => ∃ (z : Str) (sg : List Nat), vs = [.str z, .str (S sg)] ∧ PairOf sg z ∧ Q (.bl true) H
def spChPairs : Sp := fun vs H Q _ => ∃ (t : Addr) (sg : List Nat) (ps : List Str), vs = [.ref t, .str (S sg)] ∧ H t = some (.tup (ps.map V.str)) ∧ Prs sg ps ∧ ∀ H', Same H H' → Q .non H'
def spHas : Sp := fun vs H Q _ => ∃ (t : Addr) (sg : List Nat) (ps : List Str), vs = [.str (S sg), .ref t] ∧ H t = some (.tup (ps.map V.str)) ∧ sg.length ≤ 4 ∧ ∀ (b : Bool) H', Same H H' → Q (.bl b) H'
section
variable {P : Program} {w : World} {K : PySem.W.Frag} {mg : Str → Option Value} {base : Heap} {f fW fD : Addr} {fd dW fdD : FuncData}
theorem scPr : FnScope ["value", "signs"] ["value", "signs"] (defScope sIsPair) := ⟨rfl, rfl, rfl, by decide +kernel, rfl, by decide +kernel, by decide +kernel⟩
theorem ok_ispair (F : Fun K "_is_pair" "_is_pair" sIsPair f fd) (Z : Free mg) (DO : Def K mg "is_sign_of" sSignOf ["value", "signs"] fW dW) : FnOk P w K mg base CX0 2 f fd ["value", "signs"] spIsPair := by
  have GO : FnOk P w K mg base CX0 1 fW dW ["value", "signs"] spSignOf := ok_signof DO.F Z
  refine F.ok scPr (fun vs H Q E h => ?_) (fun cdv A outer s H vs Q E hr h => ?_)
  · obtain ⟨z, sg, rfl, _⟩ := h
    rfl
  · obtain ⟨z, sg, rfl, ⟨a, b, ha, hb, rfl⟩, k⟩ := h
    refine ⟨_, pss_cons (ps_if (PW.pt (pw_or (pt_not (pt_val (pe_callB call_isi (by rfl) Z.isi (by decide +kernel) (pa_cons (pv 0) (pa_cons (pe_bltn (v := .ty "str") (u := .type "str") (by rfl) Z.str (by decide +kernel) rfl) pa_nil)))))
        (pw_or1 (pt_cmpR op_ne (pe_callB call_len_str (by rfl) Z.len PySem.boot_len (pa_cons (pv 0) pa_nil)) pe_int (nomark _))))) (pss_one ps_never) pss_nil)
      (pss_one (ps_ret (pe_and (pe_call GO hr rfl DO.g DO.kp DO.b .nil pass0 (pa_cons (pe_ix ix_str (pv 0) pe_int (fun _ _ => rfl)) (pa_cons (pv 1) pa_nil)))
        (pe_one (pe_call GO hr rfl DO.g DO.kp DO.b .nil pass0 (pa_cons (pe_ix ix_str (pv 0) pe_int (fun _ _ => rfl)) (pa_cons (pv 1) pa_nil))))))), ?_⟩
    have fit : (S [a, b]).length ≤ sizeLine := by rw [S_len, sizeLine_eq]; show 2 ≤ _; decide
    refine ⟨_, rfl, _, _, .type "str", .type "str", true, rfl, .ty "str", .base (.str _), kit_ty (by decide +kernel), true, rfl, ?_⟩
    refine ⟨_, rfl, _, rfl, fit, rfl, _, rfl, iteNS (by rw [S_len] <;> rfl) ?_⟩
    refine ⟨_, rfl, _, _, a, rfl, rfl, fit, by rw [S_cps]; exact atI_nat (j := 0) rfl, _, rfl, a, sg, rfl, ha, true, rfl, ?_⟩
    exact ⟨_, rfl, _, _, b, rfl, rfl, fit, by rw [S_cps]; exact atI_nat (j := 1) rfl, _, rfl, b, sg, rfl, hb, k⟩
end
/-! ## k08 WbK2.lean -/
section
variable {P : Program} {w : World} {K : PySem.W.Frag} {mg : Str → Option Value} {base : Heap} {f fP fF fS : Addr} {fd dP dF dS : FuncData}
theorem scCp : FnScope ["pairs", "signs", "wrong", "pair"] ["pairs", "signs"] (defScope sChPairs) := ⟨rfl, rfl, rfl, by decide +kernel, rfl, by decide +kernel, by decide +kernel⟩
theorem ok_chpairs (F : Fun K "_check_pairs" "_check_pairs" sChPairs f fd) (Z : Free mg) (mT : mg "tuple" = none) (mE : mg "enumerate" = none) (DP : Def K mg "_is_pair" sIsPair ["value", "signs"] fP dP) (DS : Def K mg "is_sign_of" sSignOf ["value", "signs"] fS dS) (DF : Def K mg "first_wrong" sFirst ["values", "right"] fF dF) : FnOk P w K mg base CX0 3 f fd ["pairs", "signs"] spChPairs := by
  have GP : FnOk P w K mg base CX0 2 fP dP ["value", "signs"] spIsPair := ok_ispair DP.F Z DS
  have GF : FnOk P w K mg base CX0 1 fF dF ["values", "right"] spFirst := ok_first DF.F mE
  refine F.ok scCp (fun vs H Q E h => ?_) (fun cdv A outer s H vs Q E hr h => ?_)
  · obtain ⟨t, sg, ps, rfl, _⟩ := h
    rfl
  · obtain ⟨t, sg, ps, rfl, ht, G, k⟩ := h
    have hr1 : Room 1 _ := hr.mono (by decide)
    refine ⟨_, pss_cons (ps_if (pt_not (pt_val (pe_callB call_isi (by rfl) Z.isi (by decide +kernel) (pa_cons (pv 0) (pa_cons (pe_bltn (v := .ty "tuple") (u := .type "tuple") (by rfl) mT (by decide +kernel) rfl) pa_nil))))) (pss_one ps_never) pss_nil)
      (pss_cons (ps_set (i := 2) scCp.nd rfl (.inl rfl) (pe_call GF hr1 rfl DF.g DF.kp DF.b .nil pass0 (pa_cons (pv 0) (pa_cons
          (pe_lc (own := [("pair", 3)]) (g := gName 3) (tt := tYes) rfl scCp.nd (pi_tup (pv 0)) (blkOk_by (N := ["pairs", "signs", "wrong", "pair"]) (sc := defScope sChPairs) (by decide +kernel)) (fun _ _ _ _ _ => pg_name (i := 3) scCp.nd rfl (.inl rfl)) (fun _ _ _ _ _ => pts_nil)
            (fun _ _ _ _ _ => pe_call GP hr rfl DP.g DP.kp DP.b .nil pass0 (pa_cons (pv 3) (pa_cons (pv 1) pa_nil)))) pa_nil))))
      (pss_one (ps_if (pt_cmpR op_notN (pv 2) pe_non (nomark _)) (pss_one ps_never) pss_nil))), ?_⟩
    have few := G.few
    refine ⟨_, rfl, _, _, .type "tuple", .type "tuple", true, rfl, .ty "tuple", .base (.tup ht), kit_ty (by decide +kernel), true, rfl, ?_⟩
    refine ⟨_, rfl, _, rfl, t, rfl, ⟨_, SqT.of ht⟩, fun D hD => lc_it (walk_tup (xs := ps.map V.str)) (fun i H3 => H3 D = some (.lst ((List.replicate i true).map V.bl)) ∧ Same H H3) ⟨upd_same, Same.put (Same.refl H) hD⟩ (fun _ _ _ h => SqT.of (h.2 _ _ ht)) ?_ ?_⟩
    · rintro i x H3 H3' hi ⟨h1, h2⟩ ⟨rfl, hx⟩
      rw [List.getElem?_map] at hx
      obtain ⟨z, hz, rfl⟩ := Option.map_eq_some_iff.mp hx
      rw [List.length_map] at hi
      refine ⟨rfl, _, rfl, _, rfl, z, sg, rfl, G.of z (List.mem_of_getElem? hz), _, h1, ?_, ?_, Same.new' h2 hD⟩
      · rw [List.length_map, List.length_replicate, sizeLine_eq]
        omega
      · rw [upd_same, List.replicate_succ', List.map_append] <;> rfl
    · rintro H3 ⟨h1, h2⟩
      rw [List.length_map] at h1
      refine ⟨t, D, ps, rfl, h2 _ _ ht, h1, G.nd, fun H4 s4 => ?_⟩
      refine ⟨_, rfl, rfl, _, rfl, ?_⟩
      show if (!decide (V.non = V.non)) = true then _ else _
      rw [decide_eq_true rfl]
      exact iteF (k H4 (h2.trans s4))
abbrev NH : List Str := ["signs", "pairs", "left", "_", "sign", "after"]
def scOut : Scope := { kind := .function, names := [(".0", .local), ("sign", .cell), ("any", .globalImplicit), ("left", .cell), ("pairs", .cell)], isGenerator := false, isCoroutine := false }
theorem scHs : FnScope NH ["signs", "pairs"] (defScope sHas) := ⟨rfl, rfl, rfl, by decide +kernel, rfl, by decide +kernel, by decide +kernel⟩
set_option maxHeartbeats 0 in
theorem ok_has (F : Fun K "_has_ring" "_has_ring" sHas f fd) (Z : Free mg) (mL : mg "list" = none) (mA : mg "any" = none) : FnOk P w K mg base CX0 1 f fd ["signs", "pairs"] spHas := by
  refine F.ok scHs (fun vs H Q E h => ?_) (fun cdv A outer s H vs Q E hr h => ?_)
  · obtain ⟨t, sg, ps, rfl, _⟩ := h
    rfl
  · obtain ⟨t, sg, ps, rfl, ht, few, k⟩ := h
    refine ⟨_, pss_cons (ps_set (i := 2) scHs.nd rfl (.inr rfl) (pe_callTy (call_listS rfl) (by rfl) mL (by decide +kernel) (pa_cons (pv 0) pa_nil)))
      (pss_cons (ps_for PassesOwn.never rfl (pi_str (pv 0)) (pg_name (i := 3) scHs.nd rfl (.inl rfl))
        (pss_one (ps_set (i := 2) scHs.nd rfl (.inr rfl) (pe_lc (own := [("sign", 4)]) (g := gName 4) rfl scHs.nd (pi_list (pv 2)) (blkOk_by (N := NH) (sc := defScope sHas) (by decide +kernel)) (fun _ _ _ _ _ => pg_name (i := 4) scHs.nd rfl (.inr rfl))
          (fun _ _ _ _ _ => pts_one (pt_val (pe_callB (show CallR _ _ (rAny K) from cr_any rfl) (by rfl) mA (by decide +kernel) (pa_cons
            (by
              refine pe_lc (wi := iList K (tVar 2)) (own := [("after", 5)]) (g := gName 5) (tt := tYes) rfl scHs.nd ?hi (blkOk_by (N := NH) (sc := scOut) (by decide +kernel)) (fun _ _ _ _ _ => pg_name (i := 5) scHs.nd rfl (.inl rfl)) (fun _ _ _ _ _ => pts_nil) (fun _ _ _ _ _ => pe_cmpR (show OpR _ _ (rIn K false) from op_in_seq) (pe_op op_add_str (pv 4) (pv 5)) (pv 1) (by rfl))
              case hi => exact pi_list (pv 2)) pa_nil))))
          (fun _ _ _ _ _ => pv 4)))))
      (pss_one (ps_ret (pe_cmpR op_gt (pe_callB call_len_seq (by rfl) Z.len PySem.boot_len (pa_cons (pv 2) pa_nil)) pe_int (nomark _))))), ?_⟩
    have fits : (S sg).length ≤ sizeLine := by rw [S_len, sizeLine_eq]; omega
    refine ⟨_, rfl, _, rfl, fits, fun L0 hL0 => ?_⟩
    refine ⟨_, rfl, _, rfl, for_it walk_str (fun i σ H' => ∃ (L : Addr) (l : List Nat) (v3 v4 v5 : Option V), σ = [some (.str (S sg)), some (.ref t), some (.ref L), v3, v4, v5] ∧ H' L = some (.lst (l.map vOne)) ∧ l.length ≤ 4 ∧ Same H H')
      ⟨L0, sg, none, none, none, rfl, ?_, few, Same.put (Same.refl H) hL0⟩ (fun _ _ _ _ _ => trivial) ?_ ?_⟩
    · rw [upd_same, S_cps] <;> rfl
    · rintro i x σ H2 H2' hi ⟨L, l, v3, v4, v5, rfl, h1, l4, s2⟩ ⟨rfl, c0, hc0, rfl⟩
      have one_of : ∀ {y : V} {j : Nat}, (l.map vOne)[j]? = some y → ∃ c, y = vOne c := fun h => by
        obtain ⟨c, _, e⟩ := List.mem_map.mp (List.mem_of_getElem? h)
        exact ⟨c, e.symm⟩
      refine ⟨_, rfl, L, rfl, ⟨_, SqL.of h1⟩, fun D hD => lc_it (walk_list (xs := l.map vOne)) (fun j H3 => ∃ k : List Nat, H3 D = some (.lst (k.map vOne)) ∧ k.length ≤ j ∧ Same H2' H3) ⟨[], upd_same, Nat.le_refl _, Same.put (Same.refl _) hD⟩ (fun _ _ _ h => by obtain ⟨_, _, _, h⟩ := h; exact SqL.of (h _ _ h1)) ?_ ?_⟩
      · rintro j y H3 H3' hj ⟨k', g1, g2, g3⟩ ⟨rfl, hy⟩
        obtain ⟨c, rfl⟩ := one_of hy
        rw [List.length_map] at hj
        refine ⟨rfl, _, rfl, L, rfl, ⟨_, SqL.of (g3 _ _ h1)⟩, fun D2 hD2 => lc_it (walk_list (xs := l.map vOne)) (fun m H4 => ∃ bs : List Bool, H4 D2 = some (.lst (bs.map V.bl)) ∧ bs.length = m ∧ Same H3' H4) ⟨[], upd_same, rfl, Same.put (Same.refl _) hD2⟩ (fun _ _ _ h => by obtain ⟨_, _, _, h⟩ := h; exact SqL.of (h _ _ (g3 _ _ h1))) ?_ ?_⟩
        · rintro m z H4 H4' hm ⟨bs, e1, e2, e3⟩ ⟨rfl, hz⟩
          obtain ⟨d, rfl⟩ := one_of hz
          rw [List.length_map] at hm
          refine ⟨rfl, _, rfl, _, rfl, _, _, rfl, rfl, ?_, _, rfl, t, _, rfl, .inr (SqT.of (e3 _ _ (g3 _ _ (s2 _ _ ht)))), rfl, flat_strs ps, _, e1, ?_, bs ++ [inV (.str (one c ++ one d)) (ps.map V.str)], ?_, ?_, Same.new' e3 hD2⟩
          · show 1 + 1 ≤ sizeLine
            decide
          · rw [List.length_map, sizeLine_eq]
            omega
          · rw [upd_same, List.map_append] <;> rfl
          · rw [List.length_append, e2] <;> rfl
        · rintro H4 ⟨bs, e1, e2, e3⟩
          refine ⟨D2, bs, rfl, SqL.of e1, _, rfl, ite2 (fun q => ?_) (fun q => ?_)⟩
          · refine ⟨_, rfl, _, e3 _ _ g1, ?_, k' ++ [c], ?_, ?_, Same.new' (g3.trans e3) hD⟩
            · rw [List.length_map, sizeLine_eq]
              omega
            · rw [upd_same, List.map_append] <;> rfl
            · rw [List.length_append]
              show k'.length + 1 ≤ j + 1
              omega
          · exact ⟨k', e3 _ _ g1, by omega, g3.trans e3⟩
      · rintro H3 ⟨k', g1, g2, g3⟩
        rw [List.length_map] at g2
        exact ⟨D, k', _, _, _, rfl, g1, by omega, s2.trans g3⟩
    · rintro σ H2 ⟨L, l, v3, v4, v5, rfl, h1, l4, s2⟩
      exact ⟨_, rfl, L, _, rfl, .inl (SqL.of h1), _, _, rfl, rfl, k _ H2 s2⟩
end
/-! ## k08 WbK3.lean -/
abbrev sKInit : Stmt := inClass (top 35) 0
abbrev sKIn : Stmt := inClass (top 35) 7
def allP (sg : List Nat) : List Str := sg.flatMap fun a => sg.map fun b => S [a, b]
theorem allP_mem {sg : List Nat} {z : Str} : z ∈ allP sg ↔ PairOf sg z := by
  unfold allP PairOf
  rw [List.mem_flatMap]
  constructor
  · rintro ⟨a, ha, h⟩
    obtain ⟨b, hb, rfl⟩ := List.mem_map.mp h
    exact ⟨a, b, ha, hb, rfl⟩
  · rintro ⟨a, b, ha, hb, rfl⟩
    exact ⟨a, ha, List.mem_map.mpr ⟨b, hb, rfl⟩⟩
/-- are all neighbours pairs, going round -/
def goesB (l : List Nat) (ps : List Str) : Bool := (List.range l.length).all fun i => decide (S [l.getD ((i + l.length - 1) % l.length) 0, l.getD i 0] ∈ ps)
theorem goes_iff {l : List Nat} {ps : List Str} : goesB l ps = true ↔ ∀ i, i < l.length → S [l.getD ((i + l.length - 1) % l.length) 0, l.getD i 0] ∈ ps := by
  unfold goesB
  rw [List.all_eq_true]
  exact ⟨fun h i hi => of_decide_eq_true (h i (List.mem_range.mpr hi)), fun h i hi => decide_eq_true (h i (List.mem_range.mp hi))⟩
theorem rot_getD {l : List Nat} {j i : Nat} (hj : j ≤ l.length) (hi : i < l.length) : (rot l j).getD i 0 = l.getD ((j + i) % l.length) 0 := by
  rw [List.getD_eq_getElem?_getD, rot_get hj hi, ← List.getD_eq_getElem?_getD]
theorem goes_rot1 {l : List Nat} {ps : List Str} {j : Nat} (h0 : 0 < l.length) (hj : j ≤ l.length) (h : goesB l ps = true) : goesB (rot l j) ps = true := by
  rw [goes_iff] at h ⊢
  intro i hi
  rw [rot_len] at hi ⊢
  have q := h ((j + i) % l.length) (Nat.mod_lt _ h0)
  rw [rot_getD hj hi, rot_getD hj (Nat.mod_lt _ h0)]
  have e : (j + (i + l.length - 1) % l.length) % l.length = ((j + i) % l.length + l.length - 1) % l.length := by
    rw [Nat.add_mod_mod, show (j + i) % l.length + l.length - 1 = (j + i) % l.length + (l.length - 1) by omega, Nat.mod_add_mod, show j + (i + l.length - 1) = j + i + (l.length - 1) by omega]
  rw [e]
  exact q
theorem goes_rot {l : List Nat} {ps : List Str} {j : Nat} (h0 : 0 < l.length) (hj : j ≤ l.length) : goesB (rot l j) ps = goesB l ps := by
  rw [Bool.eq_iff_iff]
  refine ⟨fun h => ?_, goes_rot1 h0 hj⟩
  have q := goes_rot1 (l := rot l j) (j := l.length - j) (by rw [rot_len]; exact h0) (by rw [rot_len]; omega) h
  have b : rot (rot l j) (l.length - j) = l := by
    rw [rot_rot hj (by omega) h0, show j + (l.length - j) = l.length by omega, Nat.mod_self, rot_zero]
  rw [b] at q
  exact q
def kf (z : Str) (t : Addr) (b : Bool) : List (Str × V) := putF "_ringed" (.bl b) (putF "_pairs" (.ref t) (putF "_signs" (.str z) []))
theorem k12 : ¬ (("_signs" : Str) = "_pairs") := by decide +kernel
theorem k13 : ¬ (("_signs" : Str) = "_ringed") := by decide +kernel
theorem k23 : ¬ (("_pairs" : Str) = "_ringed") := by decide +kernel
theorem kf_signs (z : Str) (t : Addr) (b : Bool) : (kf z t b).lookup ("_signs" : Str) = some (.str z) := by
  unfold kf
  rw [lookup_putF, if_neg k13, lookup_putF, if_neg k12, lookup_putF, if_pos rfl]
theorem kf_pairs (z : Str) (t : Addr) (b : Bool) : (kf z t b).lookup ("_pairs" : Str) = some (.ref t) := by
  unfold kf
  rw [lookup_putF, if_neg k23, lookup_putF, if_pos rfl]
/-- the kind with these signs and pairs stands at r -/
def KindAt (C : Addr) (H : Hp) (r : Addr) (sg : List Nat) (ps : List Str) : Prop := ∃ dx t b, H r = some (.ins C dx (kf (S sg) t b)) ∧ H t = some (.tup (ps.map V.str))
theorem KindAt.same {C : Addr} {H H' : Hp} {r : Addr} {sg : List Nat} {ps : List Str} (h : KindAt C H r sg ps) (s : Same H H') : KindAt C H' r sg ps := by
  obtain ⟨dx, t, b, e1, e2⟩ := h
  exact ⟨dx, t, b, s _ _ e1, s _ _ e2⟩
theorem KindAt.but {C p : Addr} {H H' : Hp} {r : Addr} {sg : List Nat} {ps : List Str} (h : KindAt C H r sg ps) (s : But p H H') (n : r ≠ p) (hp : PoolAt H p) : KindAt C H' r sg ps := by
  obtain ⟨dx, t, b, e1, e2⟩ := h
  obtain ⟨x, y, z, e3, _⟩ := hp
  exact ⟨dx, t, b, s _ _ n e1, s _ _ (ne_of e2 e3 (by intro q; cases q)) e2⟩
structure KTxt (K : PySem.W.Frag) (mg : Str → Option Value) (C : Addr) : Prop where
  cl : Cls K C
  nS : NoAttr K C "_signs"
  nP : NoAttr K C "_pairs"
  nR : NoAttr K C "_ringed"
  gC : mg "Kind" = some (.ref C)
  hcl : PySem.W.findIn K (.ref C) "__class__" = some (some (.builtin "object.__class__"))
  hob : PySem.W.mroIn K C (.type "object") = some true
def spAllP : Sp := fun vs H Q _ => ∃ (sg : List Nat), vs = [.str (S sg)] ∧ sg.length ≤ 4 ∧ ∀ (t : Addr) H', H t = none → Same H H' → H' t = some (.tup ((allP sg).map V.str)) → Q (.ref t) H'
def spGoes : Sp := fun vs H Q _ => ∃ (l : List Nat) (t : Addr) (ps : List Str), vs = [.str (S l), .ref t] ∧ IsW l ∧ H t = some (.tup (ps.map V.str)) ∧ ∀ H', Same H H' → Q (.bl (goesB l ps)) H'
def spKInit (C : Addr) : Sp := fun vs H Q _ => ∃ (H0 : Hp) (r dx : Addr) (sg0 : List Nat) (x : V) (ps0 : List Str), vs = [.ref r, .str (S sg0), x] ∧ Sgs sg0 ∧ ((x = .non ∧ ps0 = allP sg0) ∨ ∃ t, x = .ref t ∧ H t = some (.tup (ps0.map V.str)) ∧ Prs sg0 ps0) ∧ Same H0 H ∧ H0 r = none ∧ H r = some (.ins C dx []) ∧
  ∀ (H' : Hp) (sg : List Nat) (ps : List Str), Same H0 H' → sg.Perm sg0 → PyProof.Rows.sortedS (sg.map sOne) = true → ps.Perm ps0 → PyProof.Rows.sortedS ps = true → KindAt C H' r sg ps → Q .non H'
section
variable {P : Program} {w : World} {K : PySem.W.Frag} {mg : Str → Option Value} {base : Heap} {f : Addr} {fd : FuncData}
theorem scAP : FnScope ["signs", "sign", "after"] ["signs"] (defScope sAllP) := ⟨rfl, rfl, rfl, by decide +kernel, rfl, by decide +kernel, by decide +kernel⟩
set_option maxHeartbeats 0 in
theorem ok_allp (F : Fun K "_all_pairs" "_all_pairs" sAllP f fd) (Z : Free mg) (mT : mg "tuple" = none) : FnOk P w K mg base CX0 1 f fd ["signs"] spAllP := by
  refine F.ok scAP (fun vs H Q E h => ?_) (fun cdv A outer s H vs Q E hr h => ?_)
  · obtain ⟨sg, rfl, _⟩ := h
    rfl
  · obtain ⟨sg, rfl, few, k⟩ := h
    refine ⟨_, pss_one (ps_ret (pe_callTy call_tuple_of (by rfl) mT (by decide +kernel) (pa_cons
      (pe_lc2 (own := [("sign", 1), ("after", 2)]) (vs1 := [2]) (g := gName 1) (g1 := gName 2) (tt := tYes) (tt1 := tYes) rfl scAP.nd (pi_str (pv 0)) (blkOk_by (N := ["signs", "sign", "after"]) (sc := defScope sAllP) (by decide +kernel)) (by decide) (fun _ _ _ _ _ => pg_name (i := 1) scAP.nd rfl (.inl rfl)) (fun _ _ _ _ _ => pts_nil)
        (fun _ _ _ _ _ => pi_str (pv 0)) (fun _ _ _ _ _ => pg_name (i := 2) scAP.nd rfl (.inl rfl)) (fun _ _ _ _ _ => pts_nil) (fun _ _ _ _ _ => pe_op op_add_str (pv 1) (pv 2))) pa_nil))), ?_⟩
    refine ⟨_, rfl, _, rfl, fun D hD => it_go walk_str (fun i H3 => H3 D = some (.lst (((sg.take i).flatMap fun a => sg.map fun b => S [a, b]).map V.str)) ∧ Same H H3) ⟨upd_same, Same.put (Same.refl H) hD⟩ (fun _ _ _ _ => trivial) ?_ ?_⟩
    · rintro i x H3 H3' hi ⟨h1, h2⟩ ⟨rfl, c, hc, rfl⟩
      have hc' : sg[i]? = some c := by simpa [S] using hc
      rw [S_size] at hi
      have len : ((sg.take i).flatMap fun a => sg.map fun b => S [a, b]).length ≤ 16 := by
        have e : ((sg.take i).flatMap fun a => sg.map fun b => S [a, b]).length = (sg.take i).length * sg.length := by
          rw [List.length_flatMap, show ((sg.take i).map fun a => (sg.map fun b => S [a, b]).length) = List.replicate (sg.take i).length sg.length from List.map_eq_replicate_iff.mpr fun _ _ => List.length_map ..  , List.sum_replicate_nat]
        rw [e]
        exact Nat.le_trans (Nat.mul_le_mul (by rw [List.length_take]; omega : (sg.take i).length ≤ 4) few) (by decide)
      refine ⟨rfl, _, rfl, _, rfl, it_go walk_str (fun j H4 => H4 D = some (.lst ((((sg.take i).flatMap fun a => sg.map fun b => S [a, b]) ++ (sg.take j).map fun b => S [c, b]).map V.str)) ∧ Same H H4) ⟨by rw [h1]; simp, h2⟩ (fun _ _ _ _ => trivial) ?_ ?_⟩
      · rintro j y H4 H4' hj ⟨e1, e2⟩ ⟨rfl, d, hd, rfl⟩
        have hd' : sg[j]? = some d := by simpa [S] using hd
        refine ⟨rfl, _, rfl, _, rfl, _, _, rfl, rfl, (by show 1 + 1 ≤ sizeLine; decide), _, e1, ?_, ?_, Same.new' e2 hD⟩
        · rw [List.length_map, List.length_append, List.length_map, sizeLine_eq]
          have := List.length_take_le' j sg
          omega
        · rw [upd_same, take_more hd']
          refine congrArg (fun q => some (HO.lst q)) ?_
          simp only [List.map_append, List.map_cons, List.map_nil, List.append_assoc]
          rfl
      · rintro H4 ⟨e1, e2⟩
        rw [S_size, List.take_length] at e1
        refine ⟨?_, e2⟩
        rw [e1, take_more hc', List.flatMap_append]
        simp
    · rintro H3 ⟨h1, h2⟩
      rw [S_size, List.take_length] at h1
      exact ⟨D, _, rfl, .inl ⟨SqL.of h1, fun l hl => k l _ (by cases e : H l with | none => rfl | some o => rw [h2 _ _ e] at hl; cases hl) (Same.put h2 hl) upd_same⟩⟩
theorem scGoR : FnScope ["text", "pairs", "at"] ["text", "pairs"] (defScope sGoes) := ⟨rfl, rfl, rfl, by decide +kernel, rfl, by decide +kernel, by decide +kernel⟩
theorem at_before {l : List Nat} {i : Nat} (hi : i < l.length) : atI l ((0 + (i : Int)) - 1) = some (l.getD ((i + l.length - 1) % l.length) 0) := by
  cases i with
  | zero =>
    have e : (0 + l.length - 1) % l.length = l.length - 1 := by
      rw [Nat.zero_add, Nat.mod_eq_of_lt (by omega)]
    rw [e]
    unfold atI ixN
    rw [if_neg (by omega), if_pos (by omega)]
    have e2 : ((0 + ((0 : Nat) : Int) - 1 + (l.length : Int)).toNat) = l.length - 1 := by omega
    rw [e2]
    exact getD_at (by omega)
  | succ i =>
    have e : (i + 1 + l.length - 1) % l.length = i := by
      rw [show i + 1 + l.length - 1 = i + l.length by omega, Nat.add_mod_right, Nat.mod_eq_of_lt (by omega)]
    rw [e, show (0 + ((i + 1 : Nat) : Int)) - 1 = (i : Int) by omega]
    exact atI_nat (getD_at (by omega))
set_option maxHeartbeats 0 in
theorem ok_goes (F : Fun K "_goes_round" "_goes_round" sGoes f fd) (Z : Free mg) : FnOk P w K mg base CX0 1 f fd ["text", "pairs"] spGoes := by
  refine F.ok scGoR (fun vs H Q E h => ?_) (fun cdv A outer s H vs Q E hr h => ?_)
  · obtain ⟨l, t, ps, rfl, _⟩ := h
    rfl
  · obtain ⟨l, t, ps, rfl, W, ht, k⟩ := h
    refine ⟨_, pss_one (ps_ret (pe_callB (cr_all rfl) (by rfl) Z.all (by decide +kernel) (pa_cons
      (pe_lc (own := [("at", 2)]) (g := gName 2) (tt := tYes) rfl scGoR.nd (pi_range1 rfl Z.range (pa_cons (pe_callB call_len_str (by rfl) Z.len PySem.boot_len (pa_cons (pv 0) pa_nil)) pa_nil)) (blkOk_by (N := ["text", "pairs", "at"]) (sc := defScope sGoes) (by decide +kernel)) (fun _ _ _ _ _ => pg_name (i := 2) scGoR.nd rfl (.inl rfl)) (fun _ _ _ _ _ => pts_nil)
        (fun _ _ _ _ _ => pe_cmpR (show OpR _ _ (rIn K false) from op_in_seq) (pe_op op_add_str (pe_ix ix_str (pv 0) (pe_op op_sub (pv 2) pe_int) (fun _ _ => rfl)) (pe_ix ix_str (pv 0) (pv 2) (fun _ _ => rfl))) (pv 1) (by rfl))) pa_nil))), ?_⟩
    have l0 := W.pos
    have l1 := W.few
    refine ⟨_, rfl, _, rfl, W.fits, _, rfl, by rw [S_len]; omega, by rw [S_len]; omega, fun D hD => lc_it walk_range (fun i H3 => H3 D = some (.lst (((List.range i).map fun i => decide (S [l.getD ((i + l.length - 1) % l.length) 0, l.getD i 0] ∈ ps)).map V.bl)) ∧ Same H H3) ⟨upd_same, Same.put (Same.refl H) hD⟩ (fun _ _ _ _ => trivial) ?_ ?_⟩
    · rintro i x H3 H3' hi ⟨h1, h2⟩ ⟨rfl, rfl⟩
      rw [S_len] at hi
      have hi' : i < l.length := by omega
      refine ⟨rfl, _, rfl, _, rfl, _, _, rfl, rfl, _, _, _, rfl, rfl, W.fits, by rw [S_cps]; exact at_before hi', _, rfl, _, rfl, _, _, l.getD i 0, rfl, rfl, W.fits, ?_, _, _, rfl, rfl, (by show 1 + 1 ≤ sizeLine; decide), _, rfl, t, _, rfl, .inr (SqT.of (h2 _ _ ht)), rfl, flat_strs ps, _, h1, ?_, ?_, Same.new' h2 hD⟩
      · rw [S_cps, Int.zero_add]
        exact atI_nat (getD_at hi')
      · rw [List.length_map, List.length_map, List.length_range, sizeLine_eq]
        omega
      · have e : (if false = true then !inV (.str ((⟨#[l.getD ((i + l.length - 1) % l.length) 0]⟩ : Str) ++ ⟨#[l.getD i 0]⟩)) (ps.map V.str) else inV (.str ((⟨#[l.getD ((i + l.length - 1) % l.length) 0]⟩ : Str) ++ ⟨#[l.getD i 0]⟩)) (ps.map V.str)) = decide (S [l.getD ((i + l.length - 1) % l.length) 0, l.getD i 0] ∈ ps) := by
          rw [if_neg Bool.false_ne_true, inV_strs] <;> rfl
        rw [upd_same, e, List.range_succ, List.map_append, List.map_append] <;> rfl
    · rintro H3 ⟨h1, h2⟩
      rw [S_len, Int.toNat_natCast] at h1
      refine ⟨D, _, rfl, SqL.of h1, ?_⟩
      have q := k H3 h2
      unfold goesB at q
      rw [List.all_map]
      exact q
end
/-! ## k08 WbSo.lean -/
/-- are two lists of texts equal, as data -/
theorem eqvAll_strs : ∀ xs ys : List Str, PyData.eqvAll (xs.map PyData.str) (ys.map PyData.str) = decide (xs = ys)
  | [], [] => rfl
  | [], _ :: _ => rfl
  | _ :: _, [] => rfl
  | x :: xs, y :: ys => by
    show (x == y && PyData.eqvAll (xs.map PyData.str) (ys.map PyData.str)) = _
    rw [eqvAll_strs xs ys, Bool.eq_iff_iff, Bool.and_eq_true, beq_iff_eq, decide_eq_true_iff, decide_eq_true_iff, List.cons.injEq]
/-! ## k08 WbK5.lean -/
abbrev sKRow : Stmt := inClass (top 35) 3
abbrev sKEq : Stmt := inClass (top 35) 6
theorem FunD_ok {P : Program} {w : World} {K : PySem.W.Frag} {mg : Str → Option Value} {base : Heap} {x qual : Str} {params : Arguments} {body : List Stmt} {scope : Scope} {dvs : List V} {kws : List (Str × V)} {f : Addr} {fd : FuncData} {N ps : List Str} {k : Nat} {sp : Sp} (F : FunD K x qual params body scope dvs kws f fd) (S : FnScope N ps scope) (len : ∀ vs H Q E, sp vs H Q E → vs.length = ps.length)
    (hbody : ∀ (cdv : Value) (A : Around) (outer : List Env) (s : Shared) (H : Hp) (vs : List V) (Q : VK) (E : XK), Room k (A.deeper (PyProof.Rows.envOfC qual scope s.heap.objs.size f cdv)) → sp vs H Q E →
      ∃ t, PSs (cxOf CX0 P w K mg base N qual scope f cdv A outer s H E).nox body t ∧ t { nx := fun _ H' => Q .non H', rt := Q } (start N vs) H) : FnOk P w K mg base CX0 (k + 1) f fd ps sp :=
  F.ok S len fun cdv A outer s H vs Q E hr hsp => by
    obtain ⟨t, h, q⟩ := hbody cdv A outer s H vs Q E hr hsp
    exact ⟨t, h.nox, q⟩
def gC {α : Type} : List α → List α → List α → List α
  | [u, s], _, [p] => [u, s, p]
  | _, _, _ => []
structure KA where
  (C fI fW fE pW : Addr)
  (dI dW dE : FuncData)
  (signs signof first ispair chpairs allp has isword : Addr)
  (dsigns dsignof dfirst dispair dchpairs dallp dhas disword : FuncData)
/-- what the top has written of Kind -/
structure KindF (K : PySem.W.Frag) (mg : Str → Option Value) (A : KA) : Prop where
  T : KTxt K mg A.C
  M : Mk K A.C A.fI
  FI : FunD K "__init__" "Kind.__init__" (defArgs sKInit) (defBody sKInit) (defScope sKInit) [.non] [] A.fI A.dI
  bI3 : Binds K A.dI ["self", "signs", "pairs"] []
  FW : Fun K "row" "Kind.row" sKRow A.fW A.dW
  bW : Binds K A.dW ["self"] []
  hW : PropOf K A.C "row" A.pW A.fW
  FE : Fun K "__eq__" "Kind.__eq__" sKEq A.fE A.dE
  bE : Binds K A.dE ["self", "other"] []
  mE : Meth K A.C "__eq__" A.fE
  nf : PySem.W.notFirst K A.C (.ref A.C) = true
  hgt : PySem.W.specialIn K (.builtin "object.__class__") "__get__" = some (some (.builtin "getset_descriptor.__get__"))
  htk : PySem.W.takesIn K (.builtin "object.__class__") = some true
  signs : Def K mg "is_signs" sIsSigns ["value"] A.signs A.dsigns
  signof : Def K mg "is_sign_of" sSignOf ["value", "signs"] A.signof A.dsignof
  first : Def K mg "first_wrong" sFirst ["values", "right"] A.first A.dfirst
  ispair : Def K mg "_is_pair" sIsPair ["value", "signs"] A.ispair A.dispair
  chpairs : Def K mg "_check_pairs" sChPairs ["pairs", "signs"] A.chpairs A.dchpairs
  allp : Def K mg "_all_pairs" sAllP ["signs"] A.allp A.dallp
  has : Def K mg "_has_ring" sHas ["signs", "pairs"] A.has A.dhas
  isword : Def K mg "is_word" sIsWord ["value"] A.isword A.disword
  w6 : ∃ t : Tok, mg "MOST_WORD" = some (.int 600 t)
  w4 : ∃ t : Tok, mg "MOST_SIGNS" = some (.int 4 t)
  tup : mg "tuple" = none
  lst : mg "list" = none
  any : mg "any" = none
  enum : mg "enumerate" = none
  sort : mg "sorted" = none
theorem pair_nd' {sg : List Nat} (nd : sg.Nodup) : ∀ as : List Nat, as.Nodup → (as.flatMap fun a => sg.map fun b => S [a, b]).Nodup
  | [], _ => List.nodup_nil
  | a :: as, h => by
    obtain ⟨h1, h2⟩ := List.nodup_cons.mp h
    rw [List.flatMap_cons, List.nodup_append]
    have n1 : (sg.map fun b => S [a, b]).Nodup := List.Pairwise.map _ (fun b c h q => h (by
      have := S_inj q
      injection this with _ h2
      injection h2)) nd
    have n2 : ∀ x ∈ sg.map (fun b => S [a, b]), ∀ y ∈ as.flatMap (fun a => sg.map fun b => S [a, b]), x ≠ y := by
      intro x hx y hy e
      subst e
      obtain ⟨c, _, rfl⟩ := List.mem_map.mp hx
      obtain ⟨b, hb, hy⟩ := List.mem_flatMap.mp hy
      obtain ⟨d, _, e⟩ := List.mem_map.mp hy
      have := S_inj e
      injection this with h3
      exact h1 (h3 ▸ hb)
    exact ⟨n1, pair_nd' nd as h2, n2⟩
theorem pair_nd {sg : List Nat} (nd : sg.Nodup) : (allP sg).Nodup := pair_nd' nd sg nd
theorem allP_perm {sg sg0 : List Nat} (h : sg.Perm sg0) (nd : sg0.Nodup) : (allP sg).Perm (allP sg0) := by
  refine (List.perm_ext_iff_of_nodup (pair_nd (h.nodup_iff.mpr nd)) (pair_nd nd)).mpr fun z => ?_
  rw [allP_mem, allP_mem]
  unfold PairOf
  exact ⟨fun ⟨a, b, h1, h2, h3⟩ => ⟨a, b, h.mem_iff.mp h1, h.mem_iff.mp h2, h3⟩, fun ⟨a, b, h1, h2, h3⟩ => ⟨a, b, h.mem_iff.mpr h1, h.mem_iff.mpr h2, h3⟩⟩
theorem leS_one {c d : Nat} : leS (sOne c) (sOne d) ↔ c ≤ d := by
  unfold leS sOne
  show ¬ ([d] : List Nat) < [c] ↔ _
  rw [List.cons_lt_cons_iff]
  simp
theorem leS_pair {a b c d : Nat} (h : a < c ∨ (a = c ∧ b ≤ d)) : leS (S [a, b]) (S [c, d]) := by
  unfold leS
  rw [S_cps, S_cps, List.cons_lt_cons_iff]
  rintro (q | ⟨q, r⟩)
  · omega
  · rw [List.cons_lt_cons_iff] at r
    rcases r with r | ⟨_, r⟩
    · omega
    · exact absurd r (List.lt_irrefl _)
theorem flat_pw {sg : List Nat} (h0 : sg.Pairwise (· ≤ ·)) : ∀ as : List Nat, as.Pairwise (· < ·) → (as.flatMap fun a => sg.map fun b => S [a, b]).Pairwise leS
  | [], _ => .nil
  | a :: as, h => by
    obtain ⟨h1, h2⟩ := List.pairwise_cons.mp h
    rw [List.flatMap_cons, List.pairwise_append]
    refine ⟨List.Pairwise.map _ (fun b c q => leS_pair (.inr ⟨rfl, q⟩)) h0, flat_pw h0 as h2, fun x hx y hy => ?_⟩
    obtain ⟨b, _, rfl⟩ := List.mem_map.mp hx
    obtain ⟨c, hc, hy⟩ := List.mem_flatMap.mp hy
    obtain ⟨d, _, rfl⟩ := List.mem_map.mp hy
    exact leS_pair (.inl (h1 c hc))
theorem allP_sorted {sg sg0 : List Nat} (h : sg.Perm sg0) (nd : sg0.Nodup) (s : PyProof.Rows.sortedS (sg.map sOne) = true) : PyProof.Rows.sortedS (allP sg) = true := by
  have nd' := h.nodup_iff.mpr nd
  have p1 : sg.Pairwise (· ≤ ·) := by
    have q := sorted_pw s
    rw [List.pairwise_map] at q
    exact q.imp fun {a b} r => leS_one.mp r
  have p2 : sg.Pairwise (· < ·) := by
    have q := List.Pairwise.and p1 nd'
    exact q.imp fun {a b} r => Nat.lt_of_le_of_ne r.1 r.2
  exact pw_sorted (flat_pw p1 sg p2)
section
variable {P : Program} {w : World} {K : PySem.W.Frag} {mg : Str → Option Value} {base : Heap} {A : KA}
theorem scKI : FnScope ["self", "signs", "pairs"] ["self", "signs", "pairs"] (defScope sKInit) := ⟨rfl, rfl, rfl, by decide +kernel, rfl, by decide +kernel, by decide +kernel⟩
set_option maxHeartbeats 0 in
theorem ok_kinit (D : KindF K mg A) (Z : Free mg) : FnOk P w K mg base CX0 4 A.fI A.dI ["self", "signs", "pairs"] (spKInit A.C) := by
  obtain ⟨t6, g6⟩ := D.w6
  obtain ⟨t4, g4⟩ := D.w4
  have GS : FnOk P w K mg base CX0 2 A.signs A.dsigns ["value"] spIsSigns := ok_issigns D.signs.F Z D.isword t6 g6 t4 g4
  have GC : FnOk P w K mg base CX0 3 A.chpairs A.dchpairs ["pairs", "signs"] spChPairs := ok_chpairs D.chpairs.F Z D.tup D.enum D.ispair D.signof D.first
  have GA : FnOk P w K mg base CX0 1 A.allp A.dallp ["signs"] spAllP := ok_allp D.allp.F Z D.tup
  have GH : FnOk P w K mg base CX0 1 A.has A.dhas ["signs", "pairs"] spHas := ok_has D.has.F Z D.lst D.any
  refine FunD_ok D.FI scKI (fun vs H Q E h => ?_) (fun cdv A' outer s H vs Q E hr h => ?_)
  · obtain ⟨H0, r, dx, sg0, x, ps0, rfl, _⟩ := h
    rfl
  · obtain ⟨H0, r, dx, sg0, x, ps0, rfl, G, hx, s0, r0, hp, k⟩ := h
    have hr1 : Room 1 _ := hr.mono (by decide)
    have hr2 : Room 2 _ := hr.mono (by decide)
    refine ⟨_, pss_cons (ps_if (pt_not (pt_val (pe_call GS hr2 rfl D.signs.g D.signs.kp D.signs.b .nil pass0 (pa_cons (pv 1) pa_nil)))) (pss_one ps_never) pss_nil)
      (pss_cons (ps_if (pt_cmpR op_notN (pv 2) pe_non (nomark _)) (pss_one (ps_expr (pe_call GC hr rfl D.chpairs.g D.chpairs.kp D.chpairs.b .nil pass0 (pa_cons (pv 2) (pa_cons (pv 1) pa_nil))))) pss_nil)
      (pss_cons (ps_fld (pv 0) (pe_join pe_str (pe_callB (call_sortedTx rfl) (by rfl) D.sort (by decide +kernel) (pa_cons (pv 1) pa_nil))) rfl)
      (pss_cons (ps_fld (pv 0) (pe_ifExp (pt_cmpR op_isN (pv 2) pe_non (nomark _)) (pe_call GA hr1 rfl D.allp.g D.allp.kp D.allp.b .nil pass0 (pa_cons (pe_fld (pv 0) rfl) pa_nil))
          (pe_callTy call_tuple_of (by rfl) D.tup (by decide +kernel) (pa_cons (pe_callB call_sortedTup (by rfl) D.sort (by decide +kernel) (pa_cons (pv 2) pa_nil)) pa_nil))) rfl)
      (pss_one (ps_fld (pv 0) (pe_call GH hr1 rfl D.has.g D.has.kp D.has.b .nil pass0 (pa_cons (pe_fld (pv 0) rfl) (pa_cons (pe_fld (pv 0) rfl) pa_nil))) rfl))))), ?_⟩
    have few := G.few
    have pos := G.pos
    refine ⟨_, rfl, sg0, rfl, G, fun H1 s1 => ⟨true, rfl, ?_⟩⟩
    have hr0 : H1 r = some (.ins A.C dx []) := s1 _ _ hp
    have fitS : ∀ {l : List Nat}, l.length ≤ 4 → (List.map (fun x : Str => x.length) (l.map sOne)).sum + (l.map sOne).length * (Str.ofString "").length ≤ 16777216 := fun {l} h => by
      have e1 : ((l.map sOne).map fun x => x.length) = List.replicate l.length 1 := by
        rw [List.map_map]
        exact List.map_eq_replicate_iff.mpr fun _ _ => rfl
      have e2 : (Str.ofString "").length = 0 := by decide +kernel
      rw [e1, e2, List.sum_replicate_nat]
      omega
    have s01 : Same H0 H1 := s0.trans s1
    rcases hx with ⟨rfl, rfl⟩ | ⟨t0, rfl, ht0, hpr⟩
    · refine ⟨_, rfl, rfl, _, rfl, ?_⟩
      show if (!decide (V.non = V.non)) = true then _ else _
      rw [decide_eq_true rfl]
      refine iteF ?_
      refine ⟨⟨_, rfl⟩, _, rfl, S sg0, rfl, by rw [S_len]; omega, fun ys p perm srt hp' => ?_⟩
      rw [S_cps] at perm
      obtain ⟨sg, hsg, rfl⟩ := perm_codes perm
      have sl : sg.length = sg0.length := hsg.length_eq
      have nrp : r ≠ p := ne_of_none hr0 hp'
      refine ⟨_, p, sg.map sOne, rfl, rfl, .inl (SqL.of upd_same), ?_, ?_⟩
      · exact fitS (l := sg) (by omega)
      have ej : Txt.join (Str.ofString "") (sg.map sOne) = S sg := join_one (by omega)
      rw [ej]
      refine ⟨_, rfl, r, A.C, dx, _, rfl, (upd_ne nrp).trans hr0, D.T.cl, D.T.nS, (by show 0 < 1000; decide), ?_⟩
      have s02 := Same.new' (o := .ins A.C dx (putF "_signs" (.str (S sg)) [])) (Same.put (o := .lst ((sg.map sOne).map V.str)) s01 hp') r0
      refine ⟨_, rfl, rfl, _, rfl, ?_⟩
      refine ifd rfl ?_
      refine ⟨_, rfl, r, A.C, dx, _, _, rfl, upd_same, D.T.cl, D.T.nS, by rw [lookup_putF, if_pos rfl], sg, rfl, by omega, fun t H3 ht s3 h3 => ?_⟩
      have h3r := s3 _ _ (upd_same (a := r))
      have ntr : t ≠ r := fun q => by rw [q, upd_same] at ht; cases ht
      refine ⟨_, rfl, r, A.C, dx, _, rfl, h3r, D.T.cl, D.T.nP, (by show 1 < 1000; decide), ?_⟩
      refine ⟨_, rfl, r, A.C, dx, _, _, rfl, upd_same, D.T.cl, D.T.nS, by rw [lookup_putF, if_neg k12, lookup_putF, if_pos rfl], _, rfl, r, A.C, dx, _, _, rfl, upd_same, D.T.cl, D.T.nP, by rw [lookup_putF, if_pos rfl], ?_⟩
      refine ⟨t, sg, allP sg, rfl, (upd_ne ntr).trans h3, by omega, fun b H5 s5 => ?_⟩
      refine ⟨_, rfl, r, A.C, dx, _, rfl, s5 _ _ upd_same, D.T.cl, D.T.nR, (by show 2 < 1000; decide), ?_⟩
      refine k _ sg (allP sg) ?_ hsg srt (allP_perm hsg G.nd) (allP_sorted hsg G.nd srt) ⟨dx, t, b, upd_same, (upd_ne ntr).trans (s5 _ _ ((upd_ne ntr).trans h3))⟩
      exact Same.new' ((Same.new' (s02.trans s3) r0).trans s5) r0
    · refine ⟨_, rfl, rfl, _, rfl, ?_⟩
      show if (!decide (V.ref t0 = V.non)) = true then _ else _
      rw [decide_eq_false (by intro q; cases q)]
      refine iteT ⟨_, rfl, _, rfl, t0, sg0, ps0, rfl, s1 _ _ ht0, hpr, fun H2 s2 => ?_⟩
      have hr2' := s2 _ _ hr0
      have ht2 := s2 _ _ (s1 _ _ ht0)
      refine ⟨⟨_, rfl⟩, _, rfl, S sg0, rfl, by rw [S_len]; omega, fun ys p perm srt hp' => ?_⟩
      rw [S_cps] at perm
      obtain ⟨sg, hsg, rfl⟩ := perm_codes perm
      have sl : sg.length = sg0.length := hsg.length_eq
      have nrp : r ≠ p := ne_of_none hr2' hp'
      refine ⟨_, p, sg.map sOne, rfl, rfl, .inl (SqL.of upd_same), ?_, ?_⟩
      · exact fitS (l := sg) (by omega)
      have ej : Txt.join (Str.ofString "") (sg.map sOne) = S sg := join_one (by omega)
      rw [ej]
      refine ⟨_, rfl, r, A.C, dx, _, rfl, (upd_ne nrp).trans hr2', D.T.cl, D.T.nS, (by show 0 < 1000; decide), ?_⟩
      have s03 := Same.new' (o := .ins A.C dx (putF "_signs" (.str (S sg)) [])) (Same.put (o := .lst ((sg.map sOne).map V.str)) (s01.trans s2) hp') r0
      have ntr0 : t0 ≠ r := ne_of ht2 hr2' (by intro q; cases q)
      have ht3 := (upd_ne (o := .ins A.C dx (putF "_signs" (.str (S sg)) [])) ntr0).trans ((upd_ne (o := .lst ((sg.map sOne).map V.str)) (ne_of_none ht2 hp')).trans ht2)
      refine ⟨_, rfl, rfl, _, rfl, ?_⟩
      refine ifn (by intro q; cases q) ?_
      have few0 := hpr.few
      refine ⟨_, rfl, t0, ps0, rfl, SqT.of ht3, by omega, fun ys p2 perm2 srt2 hp2 => ⟨p2, _, rfl, .inl ⟨SqL.of upd_same, fun t ht => ?_⟩⟩⟩
      have np2 : r ≠ p2 := ne_of_none upd_same hp2
      have nt : r ≠ t := ne_of_none ((upd_ne np2).trans upd_same) ht
      refine ⟨_, rfl, r, A.C, dx, _, rfl, (upd_ne nt).trans ((upd_ne np2).trans upd_same), D.T.cl, D.T.nP, (by show 1 < 1000; decide), ?_⟩
      refine ⟨_, rfl, r, A.C, dx, _, _, rfl, upd_same, D.T.cl, D.T.nS, by rw [lookup_putF, if_neg k12, lookup_putF, if_pos rfl], _, rfl, r, A.C, dx, _, _, rfl, upd_same, D.T.cl, D.T.nP, by rw [lookup_putF, if_pos rfl], ?_⟩
      refine ⟨t, sg, ys, rfl, (upd_ne nt.symm).trans upd_same, by omega, fun b H5 s5 => ?_⟩
      refine ⟨_, rfl, r, A.C, dx, _, rfl, s5 _ _ upd_same, D.T.cl, D.T.nR, (by show 2 < 1000; decide), ?_⟩
      refine k _ sg ys ?_ hsg srt perm2 srt2 ⟨dx, t, b, upd_same, (upd_ne nt.symm).trans (s5 _ _ ((upd_ne nt.symm).trans upd_same))⟩
      exact Same.new' ((Same.new' (Same.put (Same.put s03 hp2) ht) r0).trans s5) r0
def spKRow (C : Addr) : Sp := fun vs H Q _ => ∃ (r : Addr) (sg : List Nat) (ps : List Str), vs = [.ref r] ∧ KindAt C H r sg ps ∧ ∀ (q t : Addr) (H' : Hp), H q = none → Same H H' → H' q = some (.tup [.str (S sg), .ref t]) → H' t = some (.tup (ps.map V.str)) → Q (.ref q) H'
theorem scK3 : FnScope ["self"] ["self"] (defScope sKRow) := ⟨rfl, rfl, rfl, by decide +kernel, rfl, by decide +kernel, by decide +kernel⟩
theorem ok_krow (D : KindF K mg A) : FnOk P w K mg base CX0 1 A.fW A.dW ["self"] (spKRow A.C) := by
  refine D.FW.ok scK3 (fun vs H Q E h => ?_) (fun cdv A' outer s H vs Q E hr h => ?_)
  · obtain ⟨r, sg, ps, rfl, _⟩ := h
    rfl
  · obtain ⟨r, sg, ps, rfl, ⟨dx, t, b, e1, e2⟩, k⟩ := h
    refine ⟨_, pss_one (ps_ret (pe_tup (pa_cons (pe_fld (pv 0) rfl) (pa_cons (pe_fld (pv 0) rfl) pa_nil)))), ?_⟩
    refine ⟨_, rfl, r, A.C, dx, _, _, rfl, e1, D.T.cl, D.T.nS, kf_signs _ _ _, _, rfl, r, A.C, dx, _, _, rfl, e1, D.T.cl, D.T.nP, kf_pairs _ _ _, (by show 2 ≤ sizeLine; decide), fun q hq => ?_⟩
    exact k q t _ hq (Same.put (Same.refl H) hq) upd_same ((upd_ne (ne_of_none e2 hq)).trans e2)
theorem scKE : FnScope ["self", "other"] ["self", "other"] (defScope sKEq) := ⟨rfl, rfl, rfl, by decide +kernel, rfl, by decide +kernel, by decide +kernel⟩
/-- are both the same kind -/
def sameK (sg sg2 : List Nat) (ps ps2 : List Str) : Bool := decide (sg = sg2) && decide (ps = ps2)
def Prs' (ps : List Str) : Prop := ∀ z ∈ ps, PyData.strOk z = true
def spKEq (K : PySem.W.Frag) (C : Addr) : Sp := fun vs H Q _ => ∃ (r : Addr) (sg : List Nat) (ps : List Str) (x : V) (b : Bool), vs = [.ref r, x] ∧ KindAt C H r sg ps ∧
  ((∃ (r2 : Addr) (sg2 : List Nat) (ps2 : List Str), x = .ref r2 ∧ KindAt C H r2 sg2 ps2 ∧ Prs' ps ∧ Prs' ps2 ∧ b = sameK sg sg2 ps ps2) ∨ ((∃ t, TyX K H x t ∧ PySem.W.kitOne K t (.ref C) = some false) ∧ b = false)) ∧ Q (.bl b) H
theorem shaped_tup {zs : List Str} (h : ∀ z ∈ zs, PyData.strOk z = true) : SeqAt.shaped (.tuple (zs.map PyData.str)) = true := by
  have d : PyData.depth (.tuple (zs.map PyData.str)) = 1 := by
    show PyData.depthAll (zs.map PyData.str) + 1 = 1
    rw [depthAll_strs]
  unfold SeqAt.shaped
  rw [d]
  show (PyData.canLayAll0 (zs.map PyData.str) && decide (1 ≤ 64)) = true
  rw [can_strs h] <;> rfl
theorem ok_keq (D : KindF K mg A) (Z : Free mg) : FnOk P w K mg base CX0 1 A.fE A.dE ["self", "other"] (spKEq K A.C) := by
  refine D.FE.ok scKE (fun vs H Q E h => ?_) (fun cdv A' outer s H vs Q E hr h => ?_)
  · obtain ⟨r, sg, ps, x, b, rfl, _⟩ := h
    rfl
  · obtain ⟨r, sg, ps, x, b, rfl, ⟨dx, t, rb, e1, e2⟩, hx, k⟩ := h
    refine ⟨_, pss_one (ps_ret (pe_and (pe_callB call_isi (by rfl) Z.isi (by decide +kernel) (pa_cons (pv 1) (pa_cons (pe_glob (v := .ref A.C) (by rfl) D.T.gC rfl) pa_nil)))
      (pe_and (pe_cmpR op_eq (pe_fld (pv 0) rfl) (pe_fld (pv 1) rfl) (nomark _)) (pe_one (pe_cmpR (op_eqD hr.units) (pe_fld (pv 0) rfl) (pe_fld (pv 1) rfl) (nomark _)))))), ?_⟩
    rcases hx with ⟨r2, sg2, ps2, rfl, ⟨dx2, t2, rb2, f1, f2⟩, o1, o2, rfl⟩ | ⟨⟨ty, h1, h2⟩, rfl⟩
    · refine ⟨_, rfl, _, _, .ref A.C, .ref A.C, true, rfl, .own A.C, .base (.ins f1 D.T.cl D.T.hcl D.hgt D.htk D.T.hob), ?_, true, rfl, ?_⟩
      · unfold PySem.W.kitOne
        rw [if_pos (beq_self_eq_true _)]
      · refine ⟨_, rfl, r, A.C, dx, _, _, rfl, e1, D.T.cl, D.T.nS, kf_signs _ _ _, _, rfl, r2, A.C, dx2, _, _, rfl, f1, D.T.cl, D.T.nS, kf_signs _ _ _, rfl, _, rfl, ?_⟩
        unfold sameK at k
        by_cases q : sg = sg2
        · rw [decide_eq_true q, Bool.true_and] at k
          refine ifd (by rw [q]) ?_
          refine ⟨_, rfl, r, A.C, dx, _, _, rfl, e1, D.T.cl, D.T.nP, kf_pairs _ _ _, _, rfl, r2, A.C, dx2, _, _, rfl, f1, D.T.cl, D.T.nP, kf_pairs _ _ _, ?_⟩
          refine ⟨_, _, .tup (SqT.of e2) (dp_strs ps), .tup (SqT.of f2) (dp_strs ps2), shaped_tup o1, shaped_tup o2, ?_⟩
          have e : PyData.eqv (.tuple (ps.map PyData.str)) (.tuple (ps2.map PyData.str)) = decide (ps = ps2) := eqvAll_strs ps ps2
          rw [e]
          exact k
        · rw [decide_eq_false q, Bool.false_and] at k
          exact ifn (fun z => q (S_inj (by injection z))) k
    · exact ⟨_, rfl, _, _, ty, .ref A.C, false, rfl, .own A.C, h1, h2, false, rfl, k⟩
end
end Wb
set_option maxHeartbeats 1000000
/-! try: .. except X as n: .. except Y as n: .. and so on, the clauses behind the one that takes it unlooked at -/
namespace Le
open PySem PySem.Spec PyProof.Rows L2
/-- a suite's ways out, where the clause's name i goes -/
def offD (D : Ends) (i : Nat) : Ends where
  nx := fun τ G => D.nx (τ.set i none) G
  rt := D.rt
  bk := fun τ G => D.bk (τ.set i none) G
  ct := fun τ G => D.ct (τ.set i none) G
abbrev Suite := Addr → Value → Option Addr → TS
/-- the wish of the clauses, one by one -/
def wCls (K : PySem.W.Frag) (D : Ends) : List (Value × Nat × Suite) → WX
  | [] => fun _ _ _ _ => False
  | (c, i, t) :: more => fun cl dd τ G => ∃ yes, PySem.W.exmOne K cl c = some yes ∧ (yes = true → ∀ r, G r = none → t r cl dd (offD D i) (τ.set i (some (.ref r))) G) ∧ (yes = false → wCls K D more cl dd τ G)
inductive Clauses (X : Cx) : List ExceptHandler → List (Value × Nat × Suite) → Prop
  | rest (hds : List ExceptHandler) : Clauses X hds []
  | as_ {x n : Str} {c : Value} {i : Nat} {t : Suite} {b : Stmt} {bs : List Stmt} {p p' : Pos} {hds : List ExceptHandler} {more : List (Value × Nat × Suite)} (at_ : X.N[i]? = some n) (lo : X.env.kindOf n = some .local) (nm : Names X x c)
      (suite : ∀ (r : Addr) (o : Obj) (cl : Value) (dd : Option Addr) (pn : List (Addr × Obj)), L2N.Zn cl dd o → (∃ fs, o.data = .fields fs) → PSs (X.suite r ((r, o) :: pn)) (b :: bs) (t r cl dd)) (tl : Clauses X hds more) :
      Clauses X (.ExceptHandler (some (.Name x p)) (some n) (b :: bs) p' :: hds) ((c, i, t) :: more)
section
variable {X : Cx} {pins : List (Addr × Obj)} {τ : L2.St} {G : Hp} {D : Ends}
/-- the exception r is on the ground, the state without it is known: the clauses take it -/
theorem taken {r : Addr} {B : Heap} {cl : Value} {dd : Option Addr} {sI s : Shared} (hN : X.N.Nodup) (J : Inv X pins τ G sI) (far : ∀ b o, sI.heap.get? b = some o → b ∉ frs X.stack → B.get? b = some o) (hs : X.stack = X.env :: X.outer) (hf : X.env.frame = some X.env.locals)
    (up : sI.heap.UpToSlots s.heap) (sos : s.os = sI.os) (sb : AllBare s.gens) (nr : G r = none) (fly : HandSPX.FlyingZ B (X.env :: X.outer) r (L2N.Zn cl dd) s.heap) :
    ∀ {hds : List ExceptHandler} {l : List (Value × Nat × Suite)}, Clauses X hds l → wCls X.K D l cl dd τ G → wpAny (model X.prog X.w) X.A (handleBy (.ref r) X.env hds) (SP X pins D) X.xe s := by
  have okX := J.ok
  have grounded : ∀ {h : Heap}, HandSPX.FlyingZ B (X.env :: X.outer) r (L2N.Zn cl dd) h → sI.heap.UpToSlots h → Inv X pins τ G { s with heap := h } := fun {h} fl u =>
    J.landed (s' := { s with heap := h }) far fl.1 u sos sb
  obtain ⟨o1, fs1, g1, z1, d1⟩ := fly.there
  have out : r ∉ frs (X.env :: X.outer) := fun m => by
    obtain ⟨_, o2, g2, nof⟩ := fly.2.2.1.mem m
    rw [g1] at g2
    cases g2
    exact nof _ d1
  have offL : r ≠ X.env.locals := fun q => out (List.mem_filterMap.mpr ⟨X.env, List.mem_cons_self, by rw [hf, q]⟩)
  have offF : r ∉ X.fs := fun m => by
    obtain ⟨en, hen, q⟩ := List.mem_filterMap.mp m
    exact out (List.mem_filterMap.mpr ⟨en, List.mem_cons_of_mem _ hen, q⟩)
  have J1 : Inv X pins τ G s := grounded (h := s.heap) fly up
  intro hds l hk
  induction hk with
  | rest _ => exact fun no => no.elim
  | @as_ x n c i t b bs p p' hds more at_ lo nm suite tl ih =>
    rintro ⟨yes, hy, onYes, onNo⟩
    have inS := J1.suite g1 d1 nr offL offF
    have ty : PySem.W.Looks (model X.prog X.w) s.heap (typeOf (.ref r)) cl := fun A' Q' E' s' st q => wpAny_typeOf_ref (st _ _ g1) (by rw [z1.1]; exact q)
    have asked := PySem.W.exm_one (M := model X.prog X.w) J1.kIn ty hy
    have named : ∀ {Q' : Value → Shared → Prop} {E' : Value → Shared → Prop}, Q' c s → wpAny (model X.prog X.w) (X.A.mark (some (.ref r))) (eval (.Name x p) X.env) Q' E' s := fun {Q' E'} q => by
      obtain ⟨gl, nd, way⟩ := nm
      rcases way with m | ⟨m, bt, nn⟩
      · exact ld_glob (X := X.suite r ((r, o1) :: (X.pn ++ pins))) inS gl m q nd
      · exact ld_blt (X := X.suite r ((r, o1) :: (X.pn ++ pins))) inS gl m bt q nn nd
    refine wpAny_handleBy_cons (codeAny_handlers_test (named (asked.here ?_))) (by intro q; cases q)
    cases yes with
    | false => exact ih (onNo rfl)
    | true =>
      refine codeAny_handlers_suite_as (HandSPX.lands_againZ fly fun h' fly' u' => ?_)
      obtain ⟨o2, fs2, g2, z2, d2⟩ := fly'.there
      have J2 := grounded fly' (up.trans u')
      refine store_ok (X := X.suite r ((r, o2) :: (X.pn ++ pins))) (v := .ref r) (J2.suite g2 d2 nr offL offF) hN at_ (.inl lo) rfl (fun s3 I3 => ?_) (.inr lo)
      have leave : ∀ {τ' : L2.St} {G' : Hp} {s4 : Shared} {Q' : Shared → Prop}, Inv (X.suite r ((r, o2) :: (X.pn ++ pins))) [] τ' G' s4 → (∀ s5, Inv X pins (τ'.set i none) G' s5 → Q' s5) →
          wpAny (model X.prog X.w) X.A (do bindName X.env n .none; unbindBehindTheSuite X.env n p') (fun _ s5 => Q' s5) X.xe s4 := fun {τ' G' s4 Q'} I4 q => gone_ok (I4.unsuite okX) hN at_ lo q
      refine wpAny_mono ((suite r o2 cl dd (X.pn ++ pins) z2 ⟨_, d2⟩).run [] s3 _ G _ I3 (onYes rfl r nr)) (fun w s4 done => ?_) (fun _ _ no => no.elim)
      cases w with
      | next =>
        obtain ⟨_, _, I4, q⟩ := done
        exact leave I4 fun s5 I5 => ⟨_, _, I5, q⟩
      | brk =>
        obtain ⟨_, _, I4, q⟩ := done
        exact leave I4 fun s5 I5 => ⟨_, _, I5, q⟩
      | cont =>
        obtain ⟨_, _, I4, q⟩ := done
        exact leave I4 fun s5 I5 => ⟨_, _, I5, q⟩
      | ret u =>
        obtain ⟨_, _, _, I4, rel, q⟩ := done
        exact leave I4 fun s5 I5 => ⟨_, _, _, I5, rel, q⟩
end
end Le
set_option maxHeartbeats 1000000
/-! try: clauses with and without a name; raise X() of a class without an __init__ of its own -/
namespace Le
open PySem PySem.Spec PyProof.Rows L2
/-- the wish of the clauses, one by one: with a name's place or without -/
def wClsM (K : PySem.W.Frag) (D : Ends) : List (Value × Option Nat × Suite) → WX
  | [] => fun _ _ _ _ => False
  | (c, some i, t) :: more => fun cl dd τ G => ∃ yes, PySem.W.exmOne K cl c = some yes ∧ (yes = true → ∀ r, G r = none → t r cl dd (offD D i) (τ.set i (some (.ref r))) G) ∧ (yes = false → wClsM K D more cl dd τ G)
  | (c, none, t) :: more => fun cl dd τ G => ∃ yes, PySem.W.exmOne K cl c = some yes ∧ (yes = true → ∀ r, G r = none → t r cl dd D τ G) ∧ (yes = false → wClsM K D more cl dd τ G)
inductive ClausesM (X : Cx) : List ExceptHandler → List (Value × Option Nat × Suite) → Prop
  | rest (hds : List ExceptHandler) : ClausesM X hds []
  | as_ {x n : Str} {c : Value} {i : Nat} {t : Suite} {b : Stmt} {bs : List Stmt} {p p' : Pos} {hds : List ExceptHandler} {more : List (Value × Option Nat × Suite)} (at_ : X.N[i]? = some n) (lo : X.env.kindOf n = some .local) (nm : Names X x c)
      (suite : ∀ (r : Addr) (o : Obj) (cl : Value) (dd : Option Addr) (pn : List (Addr × Obj)), L2N.Zn cl dd o → (∃ fs, o.data = .fields fs) → PSs (X.suite r ((r, o) :: pn)) (b :: bs) (t r cl dd)) (tl : ClausesM X hds more) :
      ClausesM X (.ExceptHandler (some (.Name x p)) (some n) (b :: bs) p' :: hds) ((c, some i, t) :: more)
  | bare {x : Str} {c : Value} {t : Suite} {b : Stmt} {bs : List Stmt} {p p' : Pos} {hds : List ExceptHandler} {more : List (Value × Option Nat × Suite)} (nm : Names X x c)
      (suite : ∀ (r : Addr) (o : Obj) (cl : Value) (dd : Option Addr) (pn : List (Addr × Obj)), L2N.Zn cl dd o → (∃ fs, o.data = .fields fs) → PSs (X.suite r ((r, o) :: pn)) (b :: bs) (t r cl dd)) (tl : ClausesM X hds more) :
      ClausesM X (.ExceptHandler (some (.Name x p)) none (b :: bs) p' :: hds) ((c, none, t) :: more)
section
variable {X : Cx} {pins : List (Addr × Obj)} {τ : L2.St} {G : Hp} {D : Ends}
/-- the exception r is on the ground, the state without it is known: the clauses take it -/
theorem takenM {r : Addr} {B : Heap} {cl : Value} {dd : Option Addr} {sI s : Shared} (hN : X.N.Nodup) (J : Inv X pins τ G sI) (far : ∀ b o, sI.heap.get? b = some o → b ∉ frs X.stack → B.get? b = some o) (hs : X.stack = X.env :: X.outer) (hf : X.env.frame = some X.env.locals)
    (up : sI.heap.UpToSlots s.heap) (sos : s.os = sI.os) (sb : AllBare s.gens) (nr : G r = none) (fly : HandSPX.FlyingZ B (X.env :: X.outer) r (L2N.Zn cl dd) s.heap) :
    ∀ {hds : List ExceptHandler} {l : List (Value × Option Nat × Suite)}, ClausesM X hds l → wClsM X.K D l cl dd τ G → wpAny (model X.prog X.w) X.A (handleBy (.ref r) X.env hds) (SP X pins D) X.xe s := by
  have okX := J.ok
  have grounded : ∀ {h : Heap}, HandSPX.FlyingZ B (X.env :: X.outer) r (L2N.Zn cl dd) h → sI.heap.UpToSlots h → Inv X pins τ G { s with heap := h } := fun {h} fl u =>
    J.landed (s' := { s with heap := h }) far fl.1 u sos sb
  obtain ⟨o1, fs1, g1, z1, d1⟩ := fly.there
  have out : r ∉ frs (X.env :: X.outer) := fun m => by
    obtain ⟨_, o2, g2, nof⟩ := fly.2.2.1.mem m
    rw [g1] at g2
    cases g2
    exact nof _ d1
  have offL : r ≠ X.env.locals := fun q => out (List.mem_filterMap.mpr ⟨X.env, List.mem_cons_self, by rw [hf, q]⟩)
  have offF : r ∉ X.fs := fun m => by
    obtain ⟨en, hen, q⟩ := List.mem_filterMap.mp m
    exact out (List.mem_filterMap.mpr ⟨en, List.mem_cons_of_mem _ hen, q⟩)
  have J1 : Inv X pins τ G s := grounded (h := s.heap) fly up
  intro hds l hk
  induction hk with
  | rest _ => exact fun no => no.elim
  | @as_ x n c i t b bs p p' hds more at_ lo nm suite tl ih =>
    rintro ⟨yes, hy, onYes, onNo⟩
    have inS := J1.suite g1 d1 nr offL offF
    have ty : PySem.W.Looks (model X.prog X.w) s.heap (typeOf (.ref r)) cl := fun A' Q' E' s' st q => wpAny_typeOf_ref (st _ _ g1) (by rw [z1.1]; exact q)
    have asked := PySem.W.exm_one (M := model X.prog X.w) J1.kIn ty hy
    have named : ∀ {Q' : Value → Shared → Prop} {E' : Value → Shared → Prop}, Q' c s → wpAny (model X.prog X.w) (X.A.mark (some (.ref r))) (eval (.Name x p) X.env) Q' E' s := fun {Q' E'} q => by
      obtain ⟨gl, nd, way⟩ := nm
      rcases way with m | ⟨m, bt, nn⟩
      · exact ld_glob (X := X.suite r ((r, o1) :: (X.pn ++ pins))) inS gl m q nd
      · exact ld_blt (X := X.suite r ((r, o1) :: (X.pn ++ pins))) inS gl m bt q nn nd
    refine wpAny_handleBy_cons (codeAny_handlers_test (named (asked.here ?_))) (by intro q; cases q)
    cases yes with
    | false => exact ih (onNo rfl)
    | true =>
      refine codeAny_handlers_suite_as (HandSPX.lands_againZ fly fun h' fly' u' => ?_)
      obtain ⟨o2, fs2, g2, z2, d2⟩ := fly'.there
      have J2 := grounded fly' (up.trans u')
      refine store_ok (X := X.suite r ((r, o2) :: (X.pn ++ pins))) (v := .ref r) (J2.suite g2 d2 nr offL offF) hN at_ (.inl lo) rfl (fun s3 I3 => ?_) (.inr lo)
      have leave : ∀ {τ' : L2.St} {G' : Hp} {s4 : Shared} {Q' : Shared → Prop}, Inv (X.suite r ((r, o2) :: (X.pn ++ pins))) [] τ' G' s4 → (∀ s5, Inv X pins (τ'.set i none) G' s5 → Q' s5) →
          wpAny (model X.prog X.w) X.A (do bindName X.env n .none; unbindBehindTheSuite X.env n p') (fun _ s5 => Q' s5) X.xe s4 := fun {τ' G' s4 Q'} I4 q => gone_ok (I4.unsuite okX) hN at_ lo q
      refine wpAny_mono ((suite r o2 cl dd (X.pn ++ pins) z2 ⟨_, d2⟩).run [] s3 _ G _ I3 (onYes rfl r nr)) (fun w s4 done => ?_) (fun _ _ no => no.elim)
      cases w with
      | next =>
        obtain ⟨_, _, I4, q⟩ := done
        exact leave I4 fun s5 I5 => ⟨_, _, I5, q⟩
      | brk =>
        obtain ⟨_, _, I4, q⟩ := done
        exact leave I4 fun s5 I5 => ⟨_, _, I5, q⟩
      | cont =>
        obtain ⟨_, _, I4, q⟩ := done
        exact leave I4 fun s5 I5 => ⟨_, _, I5, q⟩
      | ret u =>
        obtain ⟨_, _, _, I4, rel, q⟩ := done
        exact leave I4 fun s5 I5 => ⟨_, _, _, I5, rel, q⟩
  | @bare x c t b bs p p' hds more nm suite tl ih =>
    rintro ⟨yes, hy, onYes, onNo⟩
    have inS := J1.suite g1 d1 nr offL offF
    have ty : PySem.W.Looks (model X.prog X.w) s.heap (typeOf (.ref r)) cl := fun A' Q' E' s' st q => wpAny_typeOf_ref (st _ _ g1) (by rw [z1.1]; exact q)
    have asked := PySem.W.exm_one (M := model X.prog X.w) J1.kIn ty hy
    have named : ∀ {Q' : Value → Shared → Prop} {E' : Value → Shared → Prop}, Q' c s → wpAny (model X.prog X.w) (X.A.mark (some (.ref r))) (eval (.Name x p) X.env) Q' E' s := fun {Q' E'} q => by
      obtain ⟨gl, nd, way⟩ := nm
      rcases way with m | ⟨m, bt, nn⟩
      · exact ld_glob (X := X.suite r ((r, o1) :: (X.pn ++ pins))) inS gl m q nd
      · exact ld_blt (X := X.suite r ((r, o1) :: (X.pn ++ pins))) inS gl m bt q nn nd
    refine wpAny_handleBy_cons (codeAny_handlers_test (named (asked.here ?_))) (by intro q; cases q)
    cases yes with
    | false => exact ih (onNo rfl)
    | true =>
      refine codeAny_handlers_suite (HandSPX.lands_againZ fly fun h' fly' u' => ?_)
      obtain ⟨o2, fs2, g2, z2, d2⟩ := fly'.there
      have J2 := grounded fly' (up.trans u')
      refine wpAny_mono ((suite r o2 cl dd (X.pn ++ pins) z2 ⟨_, d2⟩).run [] _ _ G _ (J2.suite g2 d2 nr offL offF) (onYes rfl r nr)) (fun w s4 done => ?_) (fun _ _ no => no.elim)
      cases w with
      | next =>
        obtain ⟨_, _, I4, q⟩ := done
        exact ⟨_, _, I4.unsuite okX, q⟩
      | brk =>
        obtain ⟨_, _, I4, q⟩ := done
        exact ⟨_, _, I4.unsuite okX, q⟩
      | cont =>
        obtain ⟨_, _, I4, q⟩ := done
        exact ⟨_, _, I4.unsuite okX, q⟩
      | ret u =>
        obtain ⟨_, _, _, I4, rel, q⟩ := done
        exact ⟨_, _, _, I4.unsuite okX, rel, q⟩
/-- try: body, then the clauses -/
theorem ps_tryClsM {body : List Stmt} {h0 : ExceptHandler} {hds : List ExceptHandler} {l : List (Value × Option Nat × Suite)} {pos : Pos} {tb : WX → TS} (hs : X.stack = X.env :: X.outer) (hf : X.env.frame = some X.env.locals) (hN : X.N.Nodup)
    (hb : ∀ (W : WX) (pn : List (Addr × Obj)) (xe : Value → Shared → Prop), L2N.Takes (X.tr pn xe) W → PassesOwn (model X.prog X.w) X.A X.env xe → PSs (X.tr pn xe) body (tb W)) (hc : ClausesM X (h0 :: hds) l) :
    PS X (.Try body (h0 :: hds) [] [] pos) (fun D σ H => tb (wClsM X.K D l) D σ H) := by
  refine ⟨fun pins s σ H D I start => wpAny_Try_except ?_⟩
  have okX := I.ok
  have frames : X.A.frames = some (X.env :: X.outer) := by rw [okX.frames, hs]
  refine wpAny_mono ((hb (wClsM X.K D l) (X.pn ++ pins) _ (fun u s' air => ?capt) PassesOwn.looking).run [] s σ H D (I.toTry _) start) (fun w s' done => ?_) (fun _ _ q => q)
  case capt =>
    obtain ⟨r, B, sI, _, τ, G, cl, dd, rfl, J, far, up, sky, nr, sos, sb, w⟩ := air
    have sky : Sky B (X.env :: X.outer) r (L2N.Zn cl dd) X.env.locals s'.heap := by rw [← hs]; exact sky
    exact L2N.Sky.land L2N.Zn.steady frames hf sky fun h1 fly u1 => takenM (s := { s' with heap := h1 }) hN (J.ofTry okX) far hs hf (up.trans u1) sos sb nr fly hc w
  cases w with
  | next =>
    obtain ⟨_, _, I', q⟩ := done
    exact wpAny_execs_nil ⟨_, _, I'.ofTry okX, q⟩
  | brk =>
    obtain ⟨_, _, I', q⟩ := done
    exact ⟨_, _, I'.ofTry okX, q⟩
  | cont =>
    obtain ⟨_, _, I', q⟩ := done
    exact ⟨_, _, I'.ofTry okX, q⟩
  | ret u =>
    obtain ⟨_, _, _, I', rel, q⟩ := done
    exact ⟨_, _, _, I'.ofTry okX, rel, q⟩
end
section
variable {X : Cx} {C : Addr} {bmB : List Value} {B newId initId : String}
/-- X() -/
theorem pmk_bare {x : Str} {p pos : Pos} (F : ExcBaseFacts B newId initId bmB) (q : PySem.W.excIn X.K C bmB newId = true) (gC : X.mg x = some (.ref C)) (kC : PySem.W.keepIn X.K (.ref C) = true) (r : Raises X (.ref C)) (hg : Gl X x)
    (hdb : (x == ("__debug__" : Str)) = false := by decide) : L2N.PMk X (.Call (.Name x p) [] [] pos) (fun _ H Q => Q (.ref C) none H) := by
  intro pins s σ H Q I h
  refine wpAny_Call_Name_kw (ld_glob I hg gC ?_ hdb)
  refine PySem.W.callWith_K0 I.kIn kC ?_
  show wpAny _ _ (call (.ref C) []) _ _ _
  obtain ⟨bm, N, nm, qn, bs, hdct, sn, sub, ab, col, dd, k0, k1, k2, k3, k5, mN, hC, hN, hni, T⟩ := exc_obj I.kIn q
  refine wpAny_call_exc_subT F T hC hN hni (fun h' e hm => ?_) (Nat.zero_le _)
  exact L2N.mk_of I hm r h (I.hok.gone hm.new)
end
end Le
set_option maxHeartbeats 1000000
/-! a, b = x, y where an exception is being handled -/
namespace Le
open PySem PySem.Spec PyProof.Rows L2 HotX
section
variable {prog : Program} {w : World} {A : Around} {E : Value → Shared → Prop} {s : Shared}
end
end Le
set_option maxHeartbeats 1000000
/-! C(e, ..) of an own class of errors with an own __init__, nothing being handled: its context is None -/
namespace Le
open PySem PySem.Spec PyProof.Rows L2
section
variable {X : Cx} {CX : CXT} {x : Str} {e : Expr} {es : List Expr} {ta : TA} {p pos : Pos} {C fI : Addr} {k : Nat} {fd : FuncData} {ps : List Str} {sp : Sp}
theorem pmk_calm (T : OexC X.K C) (ini : PySem.W.findIn X.K (.ref C) "__init__" = some (some (.ref fI))) (fun_ : PySem.W.typeIn X.K (.ref fI) = some (.type "function")) (F1 : FnOk X.prog X.w X.K X.mg X.base CX k fI fd ps sp) (hr : Room (k + 1) X.A) (hb : Binds X.K fd ps [])
    (quiet : Passes CX X fun _ _ _ => False) (gl : Gl X x) (gv : X.mg x = some (.ref C)) (ha : PA X (e :: es) ta) (nd : (x == ("__debug__" : Str)) = false := by decide) (st : starEach (e :: es) X.env = (false, eval e X.env) :: starEach es X.env := by rfl)
    (pl : (backTo pos (starEach es X.env)).any (·.1) = false := by rfl) : L2N.PMk X (.Call (.Name x p) (e :: es) [] pos) (tMkO C sp [] ta) := by
  intro pins s σ H Q I h
  obtain ⟨_, _, _, _, bm, _, _, _, _, _, _, _, _, _, _, cls, has⟩ := T.cls
  refine wpAny_Call_Name_kw (ld_glob I gl gv (PySem.W.callWith_K (h₀ := X.base) I.ok.mod.kin T.kC (thn (ha.run pos pins s σ H _ I h) fun us s1 ⟨vs, H1, I1, rel, few, goal⟩ => ⟨I1.kIn, ?_⟩) st pl) nd)
  obtain ⟨hp, g, dr, tk, os⟩ := s1
  obtain ⟨n, en⟩ : ∃ n, n = hp.objs.size + 1 := ⟨_, rfl⟩
  obtain ⟨h1, eh1⟩ : ∃ h1, h1 = (hp.push (PySem.W.kdv_tup us)).push (PySem.HandSPX.excO C hp.objs.size) := ⟨_, rfl⟩
  have up1 : hp.objs.size ≤ n := by rw [en]; exact Nat.le_succ _
  have fresh : H1 n = none := I1.hok.fresh up1
  have asked := goal n fresh
  rw [List.append_nil] at asked
  have kept : ∀ b o, hp.get? b = some o → h1.get? b = some o := fun b o z => by rw [eh1]; exact Heap.get?_push_of_some _ (Heap.get?_push_of_some _ z)
  have there : h1.get? n = some (PySem.HandSPX.excO C hp.objs.size) := by rw [eh1, en]; heap_get
  have I2 : Inv X pins σ (upd H1 n (exo n C none)) ⟨h1, g, dr, tk, os⟩ := I1.laid (t' := tk) (a := n) (o := exo n C none) (h' := h1) kept up1 (exo_ok there)
  have rel2 : Vals (V.ref n :: vs) (Value.ref n :: us) := .cons rfl rel
  have cnt : (Value.ref n :: us ++ []).length = ps.length := by rw [List.append_nil, ← rel2.length]; exact F1.len _ _ _ _ asked
  have b2 := hb _ (Value.ref n :: us) I2.kIn cnt
  rw [List.append_nil] at b2
  have small : us.length ≤ sizeLine := by rw [← Paired.length rel, sizeLine_eq]; omega
  show wpAny _ _ (call (.ref C) us) _ _ _
  have run := F1.run (X.A.under (.builtin "type.__call__" ⟨.ref C :: us, []⟩)) X.stack _ _ ⟨Value.ref n :: us, []⟩ (Value.ref n :: us) _ _ (fun _ _ _ => False) (hr.make C us []) (I2.env0.make C us []) b2 rel2 asked
  subst en
  subst eh1
  refine wpAny_call (PySem.HandSPX.call_own F.excBase_ValueError (fun Y => PySem.HandSPX.refsVE_contains Y bm has) (I1.kIn _ _ cls) (PySem.W.looks_findIn I1.kIn ini) (fun self => PySem.W.bind_fn I1.kIn self fun_) small (codeAny_mono run fun r s' q => ?_))
  cases r with
  | error er => exact quiet pins σ _ _ er s' I2 q
  | ok fl =>
    cases fl with
    | next => exact q.elim
    | brk => exact q.elim
    | cont => exact q.elim
    | ret u =>
      obtain ⟨v, H2, os2, bare2, un2, hok2, rv, ev, d, fs, ea, ed, hd1, q2⟩ := q
      subst ev
      obtain ⟨h2, g2, d2, t2, os'⟩ := s'
      obtain ⟨t0, G, J, kG, ge, hoe, na⟩ := mk_end0 (d2 := d2) (t2 := t2) I1 up1 kept un2 hok2 os2 bare2 ea ed hd1
      exact ⟨rv, hp.objs.size + 1, _, _, ⟨G, g2, d2, t2, os'⟩, _, .ref C, some d, rfl, J, kG, ge, hoe, ⟨rfl, rfl, fun vs hv => by cases hv; rfl⟩, rfl, rfl, na, rfl, bare2, raises_own T.exC T.tyC, q2⟩
end
end Le
set_option maxHeartbeats 1000000
/-! a def called with a lambda that may raise; of the exception it is kept that its context is None -/
namespace Le
open PySem PySem.Spec PyProof.Rows L2 LamX
/-- the context of the lambda's body -/
def lamX (X : Cx) (A : Around) (outer : List Env) (s : Shared) (H : Hp) (E : XK) (scope : Scope) (f c : Addr) : Cx :=
  (lamCx X A outer s H (fun _ _ _ => False) scope f c).wish fun u s' => wpAny (model X.prog X.w) (A.deeper (lamEnv X scope s.heap.objs.size f c)) (leaving (lamEnv X scope s.heap.objs.size f c) u) (fun _ s2 => L2N.CX X.prog X.w outer H s E u s2) (fun u2 s2 => L2N.CX X.prog X.w outer H s E u2 s2) s'
section
variable {X : Cx} {pins : List (Addr × Obj)} {σ : L2.St} {H HZ : Hp} {s s1 : Shared}
/-- act(), act the lambda, in the def that got it -/
theorem pe_actN {CXg : CXT} {Eg : XK} {Ng : List Str} {qg : Str} {sg : Scope} {g f c : Addr} {cdg pm ct : Value} {params : Arguments} {body : Expr} {scope : Scope} {k i : Nat} {a : Str} {pn : List (Addr × Obj)} {xe : Value → Shared → Prop} {W : WX} {t : XK → TE} {p1 p2 : Pos}
    (I : Inv X pins σ H s) (L : LamS X.env.scope scope) (there : s.heap.get? f = some (PySem.W.kla_obj "<lambda>" (X.env.qual ++ "<lambda>") params body scope (cloFrom X.env.cells scope.names []) pm c ct)) (nf : H f = none) (nfr : f ∉ frs X.stack)
    (noArgs : bindArgs (PySem.W.kla_fn "<lambda>" (X.env.qual ++ "<lambda>") params body scope (cloFrom X.env.cells scope.names []) pm (.ref c) ct) ⟨[], []⟩ = pure []) (tk : L2N.Takes ((cxOf CXg X.prog X.w X.K X.mg X.base Ng qg sg g cdg X.A X.stack s H Eg).tr pn xe) W)
    (hr : Room (k + 1) (X.A.deeper (envOfC qg sg s.heap.objs.size g cdg))) (inner : ∀ (A : Around) (outer : List Env) (s : Shared) (H : Hp) (E : XK), Room k (A.deeper (lamEnv X scope s.heap.objs.size f c)) → PE (lamX X A outer s H E scope f c) body (t E))
    (hN : Ng[i]? = some a) (hv : Vis sg a) (n1 : (a == ("__debug__" : Str)) = false := by decide) (n2 : (a == ("__classdict__" : Str)) = false := by decide) :
    PE ((cxOf CXg X.prog X.w X.K X.mg X.base Ng qg sg g cdg X.A X.stack s H Eg).tr pn xe) (.Call (.Name a p1) [] [] p2) (fun τ G Q => τ[i]? = some (some (.ref f)) ∧ G c = some (CodeO c (X.env.qual ++ "<lambda>")) ∧ t (fun cl d G' => W cl d τ G') σ G Q) := by
  refine ⟨fun pz sz τ G Q IZ ⟨hslot, hcode, goal⟩ => wpAny_Call_Name_kw (thn ((pe_var (pos := p1) (i := i) hN hv n1 n2).run pz sz τ G (fun v G1 => v = .ref f ∧ G1 = G) IZ ⟨.ref f, hslot, rfl, rfl⟩) fun u s1 ⟨v, G1, I1, rel, ev, eG⟩ => ?_)⟩
  subst ev
  rw [eG] at I1
  obtain rfl : u = Value.ref f := rel
  have still := I1.base.keep f _ there nf nfr (fun z => nomatch (show f ∈ ([] : List Addr) from z))
  have grown : Un (frs X.stack) [] H G s.heap s1.heap := I1.base
  obtain ⟨⟨oc, fs, t, g1, g2, g3⟩, _, _⟩ := I1.hok c _ hcode
  let E : XK := fun cl d G' => W cl d τ G'
  have ran : codeAny (model X.prog X.w) (X.A.deeper (envOfC qg sg s.heap.objs.size g cdg)) (.call (.ref f) ⟨[], []⟩) (CR (L2N.CX X.prog X.w) (envOfC qg sg s.heap.objs.size g cdg :: X.stack) X.prog X.w G s1 Q E) s1 := by
    refine PySem.W.kla_callFunE hr.depth still rfl L.co L.gen rfl ⟨c, oc, fs, t, rfl, g1, g2, g3⟩ ?_
    rw [noArgs]
    refine wpAny_pure (wpAny_newFunctionEnv (fun y hy => (L.own y hy).2) (fun y hy => absurd hy (by simp)) (fun h1 ns but => ⟨I1.nolimit.fresh _ but, ?_⟩) L.kind)
    have kept : ∀ b o, s1.heap.get? b = some o → h1.get? b = some o := fun b o z => but.extBut b o (Nat.ne_of_lt (Heap.lt_size z)) (Heap.get?_push_of_some _ z)
    have J := (lam_start2 (tk := s1.toks + ([] : List (Str × Value)).length) (E := fun _ _ _ => False) (c' := c) (f := f) I L I1.env0 hr.hd grown ns kept).wish fun u s' => wpAny (model X.prog X.w) ((X.A.deeper (envOfC qg sg s.heap.objs.size g cdg)).deeper (lamEnv X scope s1.heap.objs.size f c)) (leaving (lamEnv X scope s1.heap.objs.size f c) u)
      (fun _ s2 => L2N.CX X.prog X.w (envOfC qg sg s.heap.objs.size g cdg :: X.stack) G s1 E u s2) (fun u2 s2 => L2N.CX X.prog X.w (envOfC qg sg s.heap.objs.size g cdg :: X.stack) G s1 E u2 s2) s'
    refine PySem.W.kla_codeExpr (wpAny_mono ((inner _ _ s1 G E (hr.deeper _)).run [] _ _ G Q J goal) (fun v s' done => ?_) fun _ _ z => z)
    obtain ⟨v', G', J', rv, q⟩ := done
    exact ⟨v', G', J'.os, J'.bare, J'.base, J'.hok, rv, q⟩
  refine PySem.W.callWith_F0 ⟨_, _, _, _, still⟩ (wpAny_call (codeAny_mono ran fun r s' done => ?_))
  · cases r with
    | error e => exact tk e s' (L2N.XE.of_call I1 (fun _ _ _ h => h) done)
    | ok fl =>
      cases fl with
      | ret u => exact I1.after done
      | next => exact done.elim
      | brk => exact done.elim
      | cont => exact done.elim
end
end Le
set_option maxHeartbeats 1000000
/-! heard(lambda: ..): what the def that hears makes of the lambda's reading -/
namespace Le
open PySem PySem.Spec PyProof.Rows L2 LamX
/-- the context of the def at g that hears, called in X at s -/
abbrev heardCx (X : Cx) (Ng : List Str) (x : Str) (sg : Scope) (g : Addr) (cdg : Value) (s : Shared) (H : Hp) : Cx := cxOf C8.CX0 X.prog X.w X.K X.mg X.base Ng x sg g cdg X.A X.stack s H C8.E0
abbrev Act := XK → Hp → VK → Prop
def Hears (X : Cx) (Ng : List Str) (x : Str) (sg : Scope) (g : Addr) (cdg : Value) (bg : List Stmt) (a q : Str) (k : Nat) (TT : Act → Hp → VK → Prop) : Prop :=
  ∀ (f c : Addr) (s : Shared) (H : Hp) (Q : VK) (act : Act), Room k (X.A.deeper (envOfC x sg s.heap.objs.size g cdg)) →
    (∀ (W : WX) (pn : List (Addr × Obj)) (xe : Value → Shared → Prop) (p1 p2 : Pos), L2N.Takes ((heardCx X Ng x sg g cdg s H).tr pn xe) W →
      PE ((heardCx X Ng x sg g cdg s H).tr pn xe) (.Call (.Name a p1) [] [] p2) (fun τ G Q' => τ[0]? = some (some (.ref f)) ∧ G c = some (CodeO c q) ∧ act (fun cl d G' => W cl d τ G') G Q')) →
    H c = some (CodeO c q) → TT act H Q → ∃ t, PSs (heardCx X Ng x sg g cdg s H).nox bg t ∧ t { nx := fun _ H' => Q .non H', rt := Q } (L2.start Ng [.ref f]) H
section
variable {X : Cx}
/-- x(lambda: body) -/
theorem pe_heard {T : List (Addr × Str)} {TT : Act → Hp → VK → Prop} {x a : Str} {g c P : Addr} {k : Nat} {pg : Arguments} {bg : List Stmt} {sg : Scope} {dV kV doc pm cdv ct oc : Value} {an od : Option Addr} {osl : Array (Option Value)} {Ng : List Str} {params : Arguments} {body : Expr} {scope : Scope} {t : XK → TE} {p lp pos : Pos}
    (gl : Gl X x) (gv : X.mg x = some (.ref g)) (kp : PySem.W.keepIn X.K (.ref g) = true) (lk : X.K.lookup g = some ⟨oc, od, .func (PySem.W.fnOf x x pg bg sg dV kV doc pm an cdv ct), osl⟩) (cg : PySem.W.codeIn X.K cdv x = true)
    (bi : L2.Binds X.K (PySem.W.fnOf x x pg bg sg dV kV doc pm an cdv ct) [a] []) (Sg : FnScope Ng [a] sg) (hNg : Ng[0]? = some a) (va : Vis sg a) (hears : Hears X Ng x sg g cdv bg a (X.env.qual ++ "<lambda>") (k + 1) TT) (TB : TabB X.base X.mg c P) (code : X.env.code = .ref c)
    (inT : (P, X.env.qual ++ "<lambda>") ∈ T) (one : ∀ y ∈ T, y.1 = P → y.2 = X.env.qual ++ "<lambda>") (hr : Room (k + 2) X.A) (L : LamS X.env.scope scope) (nodef : defaultsOf params X.env = ([], []))
    (noArgs : ∀ (q : Str) (cl : List (Str × Addr)) (pm cv ctv : Value), bindArgs (PySem.W.kla_fn "<lambda>" q params body scope cl pm cv ctv) ⟨[], []⟩ = pure [])
    (inner : ∀ (A : Around) (outer : List Env) (s : Shared) (H : Hp) (E : XK) (f c' : Addr), Room k (A.deeper (lamEnv X scope s.heap.objs.size f c')) → PE (lamX X A outer s H E scope f c') body (t E))
    (n0 : (x == ("__debug__" : Str)) = false := by decide) (n1 : (a == ("__debug__" : Str)) = false := by decide) (n2 : (a == ("__classdict__" : Str)) = false := by decide) :
    PE X (.Call (.Name x p) [.Lambda params body scope lp] [] pos) (tLam T TT t) := by
  refine ⟨fun pins s σ H Q I ⟨tabs, goal⟩ => wpAny_Call_Name_kw (ld_glob I gl gv (PySem.W.callWith_K (h₀ := X.base) I.ok.mod.kin kp ?_ (by rfl) (by rfl)) n0)⟩
  show wpAny _ _ (spliced ((false, eval (.Lambda params body scope lp) X.env) :: backTo pos (starEach [] X.env))) _ _ s
  refine Calls.spliced_cons (lam_make2 I TB code inT one tabs nodef (L.has I.ok) fun f c' pm' ctv H1 s1 I1 eN T1 there nf nfr co => Calls.spliced_nil ⟨I1.kIn, ?_⟩)
  have ran : codeAny (model X.prog X.w) X.A (.call (.ref g) ⟨[.ref f], []⟩) (CR C8.CX0 X.stack X.prog X.w H1 s1 Q C8.E0) s1 :=
    run_ofS (N := Ng) (ps := [a]) (us := [.ref f]) (vs := [.ref f]) lk cg Sg hr I1.env0 (bi s1 [.ref f] I1.kIn rfl) (.cons rfl .nil) rfl fun hr1 =>
      let ⟨t1, ht, hq⟩ := hears f c' s1 H1 Q (fun E G Q' => t E σ G Q') hr1 (fun W pn xe p1 p2 tk => pe_actN (i := 0) (t := t) I1 L there nf nfr (noArgs _ _ _ _ _) tk hr1 (fun A outer s H E hr2 => inner A outer s H E f c' hr2) hNg va n1 n2) co (goal H1 eN T1)
      ⟨t1, ht.nox, hq⟩
  refine wpAny_call (codeAny_mono ran fun r s2 done => ?_)
  cases r with
  | error e => exact (show False from done).elim
  | ok fl =>
    cases fl with
    | ret u => exact I1.after done
    | next => exact done.elim
    | brk => exact done.elim
    | cont => exact done.elim
end
end Le
/-! the errors that the program raises itself: made, raised, asked for what they keep -/
namespace Wb
open PySem L2 PySem.Spec PyProof.Rows
section
variable {P : Program} {w : World} {K : PySem.W.Frag} {mg : Str → Option Value} {base : Heap}
/-- as Fun.ok, for a def that lets errors out; of their context it is told that it is None -/
theorem okN {x qual : Str} {st : Stmt} {f : Addr} {fd : FuncData} {N ps : List Str} {k : Nat} {sp : Sp} (F : Fun K x qual st f fd) (S : FnScope N ps (defScope st)) (len : ∀ vs H Q E, sp vs H Q E → vs.length = ps.length)
    (body : ∀ (cdv : Value) (A : Around) (outer : List Env) (s : Shared) (H : Hp) (vs : List V) (Q : VK) (E : XK), Room k (A.deeper (envOfC qual (defScope st) s.heap.objs.size f cdv)) → sp vs H Q E →
      ∃ t, PSs (cxOf (L2N.CX P w) P w K mg base N qual (defScope st) f cdv A outer s H E) (defBody st) t ∧ t { nx := fun _ H' => Q .non H', rt := Q } (L2.start N vs) H) : FnOk P w K mg base (L2N.CX P w) (k + 1) f fd ps sp := by
  obtain ⟨_, _, _, _, _, _, _, _, _, rfl, at_, code⟩ := F.ex
  exact fn_of at_ code S len (body _)
/-- what never raises keeps its promise whatever is told of errors -/
theorem FnOk.calm {CX : CXT} {k : Nat} {f : Addr} {fd : FuncData} {ps : List Str} {sp : Sp} (F : FnOk P w K mg base CX0 k f fd ps sp) : FnOk P w K mg base CX k f fd ps sp :=
  ⟨F.len, fun A outer s H args us vs Q E hr e0 hb r h => codeAny_mono (F.run A outer s H args us vs Q E hr e0 hb r h) fun res s' q => by
    cases res with
    | error e => exact (show False from q).elim
    | ok fl => cases fl <;> exact q⟩
theorem FnOk.either {CX : CXT} {k : Nat} {f : Addr} {fd : FuncData} {ps : List Str} {sp sp' : Sp} (F : FnOk P w K mg base CX k f fd ps sp) (G : FnOk P w K mg base CX k f fd ps sp') : FnOk P w K mg base CX k f fd ps (fun vs H Q E => sp vs H Q E ∨ sp' vs H Q E) :=
  ⟨fun vs H Q E h => h.elim (F.len vs H Q E) (G.len vs H Q E), fun A outer s H args us vs Q E hr e0 hb r h => h.elim (F.run A outer s H args us vs Q E hr e0 hb r) (G.run A outer s H args us vs Q E hr e0 hb r)⟩
end
def spErr (C : Addr) (g : Str) : Sp := fun vs H Q _ => ∃ (a : Addr) (y : V), vs = [.ref a, y] ∧ H a = some (exo a C none) ∧ ∀ d, H d = none → d ≠ a → Q .non (upd (upd H d (exd d [(g, y)])) a (exo a C (some d)))
/-- what the top has written of an error x whose attribute is g -/
structure ErrF (K : PySem.W.Frag) (mg : Str → Option Value) (x g qual : Str) (st : Stmt) (C f : Addr) (fd : FuncData) : Prop where
  o : OexC K C
  xf : XfC K C
  no : PySem.W.findIn K (.ref C) g = some none
  ini : PySem.W.findIn K (.ref C) "__init__" = some (some (.ref f))
  fn : PySem.W.typeIn K (.ref f) = some (.type "function")
  F : Fun K "__init__" qual st f fd
  b : Binds K fd ["self", g] []
  g : mg x = some (.ref C)
/-- raise C(y), y in slot i -/
def tBad (C : Addr) (g : Str) (W : WX) (i : Nat) : TS := fun _ σ H => ∃ v, σ[i]? = some (some v) ∧ ∀ d, H d = none → W (.ref C) (some d) σ (upd H d (.xd [(g, v)]))
theorem dict_left {H : Hp} {a d : Addr} {u1 u2 u3 o : HO} (ha : H a = none) (_ : d ≠ a) : upd (del (upd (upd (upd H a u1) d u2) a u3) a) d o = upd H d o := by
  funext b
  by_cases e : b = d
  · rw [e, upd_same, upd_same]
  · rw [upd_ne e, upd_ne e]
    by_cases e2 : b = a
    · rw [e2, del_same, ha]
    · rw [del_ne e2, upd_ne e2, upd_ne e, upd_ne e2]
section
variable {X : Cx} {W : WX} {C f : Addr} {fd : FuncData} {x g qual y : Str} {st : Stmt} {k i : Nat} {p p0 pos pos2 : Pos}
theorem ps_bad (E : ErrF X.K X.mg x g qual st C f fd) (F1 : FnOk X.prog X.w X.K X.mg X.base CX0 k f fd ["self", g] (spErr C g)) (hr : Room (k + 1) X.A) (calm : X.calm = true) (tk : L2N.Takes X W) (gl : Gl X x) (ha : PE X (.Name y p0) (tVar i))
    (nd : (x == ("__debug__" : Str)) = false := by decide) : PS X (.Raise (some (.Call (.Name x p) [.Name y p0] [] pos)) none pos2) (tBad C g W i) := by
  refine ⟨fun pins s σ H D I h => (L2N.ps_raise calm tk (Le.pmk_calm (CX := CX0) E.o E.ini E.fn F1 hr E.b (fun _ _ _ _ _ _ _ z => z.elim) gl E.g (pa_cons ha pa_nil) nd rfl rfl)).run pins s σ H D I ?_⟩
  obtain ⟨v, hv, q⟩ := h
  refine ⟨v, hv, (by show 1 ≤ 1000; decide), fun a na => ⟨a, v, rfl, upd_same, fun d nd ne => ⟨rfl, d, [(g, v)], upd_same, ?_, ?_, ?_⟩⟩⟩
  · rw [upd_ne ne, upd_same]
  · rw [upd_ne ne] at nd
    exact nd
  · have nd' : H d = none := by
      rw [upd_ne ne] at nd
      exact nd
    rw [dict_left na ne]
    exact q d nd'
end
section
variable {P : Program} {w : World} {K : PySem.W.Frag} {mg : Str → Option Value} {base : Heap} {C f : Addr} {fd : FuncData}
end
end Wb
/-! the face of a thing: a def that calls itself, over things of any kind -/
namespace Wb
open PySem L2
abbrev sFace : Stmt := top 41
theorem Same.new2 {q : Addr} {o : HO} {H H' : Hp} (a : Same H H') (n : H q = none) : Same H (L2.upd H' q o) := fun c u h => by
  rw [upd_ne (ne_of_none h n)]
  exact a c u h
/-! ### data stay -/
theorem SqT.stay {K : PySem.W.Frag} {H H' : Hp} {a : Addr} {xs : List V} (s : Same H H') (h : SqT K H a xs) : SqT K H' a xs := by
  rcases h with (q | ⟨o, q⟩) | q
  · exact .inl (.inl (s _ _ q))
  · exact .inl (.inr ⟨o, s _ _ q⟩)
  · exact .inr q
mutual
theorem Dp.stay {K : PySem.W.Frag} {H H' : Hp} (s : Same H H') : ∀ {v : V} {d : PyData}, Dp K H v d → Dp K H' v d
  | _, _, .non => .non
  | _, _, .bl b => .bl b
  | _, _, .int i => .int i
  | _, _, .str x => .str x
  | _, _, .lst h r => .lst (s.seq h) (DpAll.stay s r)
  | _, _, .tup h r => .tup (SqT.stay s h) (DpAll.stay s r)
theorem DpAll.stay {K : PySem.W.Frag} {H H' : Hp} (s : Same H H') : ∀ {vs : List V} {ds : List PyData}, DpAll K H vs ds → DpAll K H' vs ds
  | _, _, .nil => .nil
  | _, _, .cons h r => .cons (Dp.stay s h) (DpAll.stay s r)
end
theorem DpAll.snoc {K : PySem.W.Frag} {H : Hp} {v : V} {d : PyData} : ∀ {vs : List V} {ds : List PyData}, DpAll K H vs ds → Dp K H v d → DpAll K H (vs ++ [v]) (ds ++ [d])
  | _, _, .nil, h => .cons h .nil
  | _, _, .cons h r, q => .cons h (DpAll.snoc r q)
/-! ### what a thing is, by the face that it has -/
def plainD (d : PyData) : PyData := .list [.str "plain", d]
/-- a thing without parts -/
inductive Leaf : V → PyData → Prop
  | non : Leaf .non (plainD .none)
  | bl (b : Bool) : Leaf (.bl b) (.list [.str "truth", .bool b])
  | int (i : Int) : Leaf (.int i) (plainD (.int i))
  | str (x : Str) : Leaf (.str x) (plainD (.str x))
inductive Both {α β : Type} (R : α → β → Prop) : List α → List β → Prop
  | nil : Both R [] []
  | cons {x : α} {y : β} {xs : List α} {ys : List β} (h : R x y) (r : Both R xs ys) : Both R (x :: xs) (y :: ys)
theorem Both.imp {α β : Type} {R R' : α → β → Prop} (f : ∀ x y, R x y → R' x y) : ∀ {xs : List α} {ys : List β}, Both R xs ys → Both R' xs ys
  | _, _, .nil => .nil
  | _, _, .cons h r => .cons (f _ _ h) (Both.imp f r)
theorem Both.len {α β : Type} {R : α → β → Prop} : ∀ {xs : List α} {ys : List β}, Both R xs ys → xs.length = ys.length
  | _, _, .nil => rfl
  | _, _, .cons _ r => congrArg (· + 1) (Both.len r)
theorem Both.get {α β : Type} {R : α → β → Prop} : ∀ {xs : List α} {ys : List β} {i : Nat} {x : α}, Both R xs ys → xs[i]? = some x → ∃ y, ys[i]? = some y ∧ R x y
  | _, _, _, _, .nil, h => by cases h
  | _, _, 0, _, .cons h _, e => by cases e; exact ⟨_, rfl, h⟩
  | _ :: _, _ :: _, i + 1, _, .cons _ r, e => Both.get (i := i) r e
def keyD (k : Str) (d : PyData) : PyData := .list [plainD (.str k), d]
def kvsOf (ks : List Str) (xs : List V) : List (Key × V) := List.zipWith (fun k x => (Sum.inr k, x)) ks xs
/-- all but what lies at a -/
def cut (H : Hp) (a : Addr) : Hp := fun b => if b = a then none else H b
theorem cut_same {H H' : Hp} {a : Addr} (s : Same H H') : Same (cut H a) (cut H' a) := fun b o h => by
  unfold cut at h ⊢
  by_cases e : b = a
  · rw [if_pos e] at h
    cases h
  · rw [if_neg e] at h ⊢
    exact s _ _ h
theorem cutH_to {H H' : Hp} {a : Addr} (s : ∀ b o, b ≠ a → H b = some o → H' b = some o) : Same (cut H a) H' := fun b o h => by
  unfold cut at h
  by_cases e : b = a
  · rw [if_pos e] at h
    cases h
  · rw [if_neg e] at h
    exact s _ _ e h
/-- at most n parts within parts; d the face -/
def Thing (H : Hp) : Nat → V → PyData → Prop
  | 0, _, _ => False
  | n + 1, v, d => Leaf v d ∨ (∃ (a : Addr) (xs : List V) (ds : List PyData), v = .ref a ∧ H a = some (.lst xs) ∧ xs.length ≤ 1000 ∧ Both (Thing H n) xs ds ∧ d = .list (.str "list" :: ds))
    ∨ (∃ (a : Addr) (xs : List V) (ds : List PyData), v = .ref a ∧ H a = some (.tup xs) ∧ xs.length ≤ 1000 ∧ Both (Thing H n) xs ds ∧ d = .list (.str "tuple" :: ds))
    ∨ (∃ (a : Addr) (ks : List Str) (xs : List V) (ds : List PyData), v = .ref a ∧ H a = some (.dK (kvsOf ks xs)) ∧ ks.Nodup ∧ ks.length = xs.length ∧ xs.length ≤ 1000 ∧ Both (Thing (cut H a) n) xs ds ∧ d = .list (.str "dict" :: List.zipWith keyD ks ds))
theorem Thing.same {H H' : Hp} (s : Same H H') : ∀ {n : Nat} {v : V} {d : PyData}, Thing H n v d → Thing H' n v d
  | 0, _, _, h => h.elim
  | _ + 1, _, _, .inl h => .inl h
  | _ + 1, _, _, .inr (.inl ⟨a, xs, ds, e, h, l, r, q⟩) => .inr (.inl ⟨a, xs, ds, e, s _ _ h, l, r.imp fun _ _ z => Thing.same s z, q⟩)
  | _ + 1, _, _, .inr (.inr (.inl ⟨a, xs, ds, e, h, l, r, q⟩)) => .inr (.inr (.inl ⟨a, xs, ds, e, s _ _ h, l, r.imp fun _ _ z => Thing.same s z, q⟩))
  | _ + 1, _, _, .inr (.inr (.inr ⟨a, ks, xs, ds, e, h, nd, l1, l, r, q⟩)) => .inr (.inr (.inr ⟨a, ks, xs, ds, e, s _ _ h, nd, l1, l, r.imp fun _ _ z => Thing.same (cut_same s) z, q⟩))
/-- what is new in H' -/
def New (H H' : Hp) : Hp := fun b => match H b with
  | none => H' b
  | some _ => none
theorem New.at {H H' : Hp} {b : Addr} (h : H b = none) : New H H' b = H' b := by
  unfold New
  rw [h]
theorem New.inv {H H' : Hp} {b : Addr} {o : HO} (h : New H H' b = some o) : H b = none ∧ H' b = some o := by
  unfold New at h
  cases e : H b with
  | none =>
    rw [e] at h
    exact ⟨rfl, h⟩
  | some u =>
    rw [e] at h
    cases h
theorem New.sub {H H' : Hp} : Same (New H H') H' := fun _ _ h => (New.inv h).2
theorem New.mono {A B A' B' : Hp} (f : ∀ b o, A b = none → B b = some o → A' b = none ∧ B' b = some o) : Same (New A B) (New A' B') := fun b o h => by
  obtain ⟨h1, h2⟩ := New.inv h
  obtain ⟨g1, g2⟩ := f b o h1 h2
  rw [New.at g1]
  exact g2
def spFace (K : PySem.W.Frag) (n : Nat) : Sp := fun vs H Q _ => ∃ (v : V) (d : PyData), vs = [v] ∧ Thing H n v d ∧ ∀ (a : Addr) (H' : Hp), H a = none → Same H H' → Dp K (New H H') (.ref a) d → Q (.ref a) H'
abbrev NF : List Str := ["_law_thing", "_law_part", "_law_key"]
theorem scFace : FnScope NF ["_law_thing"] (defScope sFace) := ⟨rfl, rfl, rfl, by decide +kernel, rfl, by decide +kernel, by decide +kernel⟩
structure FreeT (mg : Str → Option Value) : Prop where
  isi : mg "isinstance" = none
  tup : mg "tuple" = none
  lst : mg "list" = none
  dct : mg "dict" = none
  bool : mg "bool" = none
theorem leaf_ty {K : PySem.W.Frag} {H : Hp} {v : V} {d : PyData} (h : Leaf v d) : ∃ (t : String) (b : Bool) (d' : PyData), TyX K H v (.type t) ∧ PySem.W.kitOne K (.type t) (.type "tuple") = some false ∧ PySem.W.kitOne K (.type t) (.type "list") = some false ∧
    PySem.W.kitOne K (.type t) (.type "dict") = some false ∧ PySem.W.kitOne K (.type t) (.type "bool") = some b ∧ d = .list [.str (if b = true then "truth" else "plain"), d'] ∧ ∀ H', Dp K H' v d' := by
  cases h with
  | non => exact ⟨_, _, _, .base .non, kit_ty (by decide +kernel), kit_ty (by decide +kernel), kit_ty (by decide +kernel), kit_ty (r := false) (by decide +kernel), rfl, fun _ => .non⟩
  | bl b => exact ⟨_, _, _, .base (.bl b), kit_ty (by decide +kernel), kit_ty (by decide +kernel), kit_ty (by decide +kernel), kit_ty (r := true) (by decide +kernel), rfl, fun _ => .bl b⟩
  | int i => exact ⟨_, _, _, .base (.int i), kit_ty (by decide +kernel), kit_ty (by decide +kernel), kit_ty (by decide +kernel), kit_ty (r := false) (by decide +kernel), rfl, fun _ => .int i⟩
  | str x => exact ⟨_, _, _, .base (.str x), kit_ty (by decide +kernel), kit_ty (by decide +kernel), kit_ty (by decide +kernel), kit_ty (r := false) (by decide +kernel), rfl, fun _ => .str x⟩
theorem free_of {H H' : Hp} {q : Addr} (s : Same H H') (n : H' q = none) : H q = none := by
  cases e : H q with
  | none => rfl
  | some o =>
    rw [s _ _ e] at n
    cases n
/-- the list of faces grows in D -/
def FacePv (K : PySem.W.Frag) (B : Hp) (D : Addr) (ds : List PyData) (i : Nat) (H : Hp) : Prop := ∃ ys : List V, H D = some (.lst ys) ∧ ys.length = i ∧ DpAll K (New (upd B D (.lst [])) H) ys (ds.take i) ∧ Same B H
theorem FacePv.same {K : PySem.W.Frag} {B H : Hp} {D : Addr} {ds : List PyData} {i : Nat} (h : FacePv K B D ds i H) (_ : B D = none) : Same B H := h.choose_spec.2.2.2
theorem FacePv.start {K : PySem.W.Frag} {B : Hp} {D : Addr} {ds : List PyData} (hD : B D = none) : FacePv K B D ds 0 (upd B D (.lst [])) := ⟨[], upd_same, rfl, by rw [List.take_zero]; exact .nil, Same.new2 (Same.refl _) hD⟩
theorem FacePv.grow {K : PySem.W.Frag} {B H H5 : Hp} {D : Addr} {ds : List PyData} {i : Nat} {v : V} {y : PyData} (h : FacePv K B D ds i H) (hD : B D = none) (hy : ds[i]? = some y) (s5 : Same H H5)
    (d5 : ∀ ys, H D = some (.lst ys) → Dp K (New (upd B D (.lst [])) (upd H5 D (.lst (ys ++ [v])))) v y) (few : i < 16777216) : ∃ acc, H5 D = some (.lst acc) ∧ acc.length < sizeLine ∧ FacePv K B D ds (i + 1) (upd H5 D (.lst (acc ++ [v]))) := by
  obtain ⟨ys, e1, e2, e3, e4⟩ := h
  refine ⟨ys, s5 _ _ e1, by rw [sizeLine_eq]; omega, ys ++ [v], upd_same, by rw [List.length_append, e2] <;> rfl, ?_, Same.new2 (e4.trans s5) hD⟩
  rw [List.take_add_one, hy]
  refine DpAll.snoc (DpAll.stay (New.mono fun b o h1 h2 => ⟨h1, ?_⟩) e3) (d5 ys e1)
  have n : b ≠ D := fun z => by
    rw [z, upd_same] at h1
    cases h1
  rw [upd_ne n]
  exact s5 _ _ h2
/-- what is new since later is new since earlier -/
theorem new_in {B H H5 : Hp} {D : Addr} {o : HO} (hB : Same B H) {ys : List V} (hD : H D = some (.lst ys)) : Same (New H H5) (New (upd B D (.lst [])) (upd H5 D o)) := New.mono fun b u h1 h2 => by
  have n : b ≠ D := fun z => by
    rw [z, hD] at h1
    cases h1
  refine ⟨?_, ?_⟩
  · rw [upd_ne n]
    exact free_of hB h1
  · rw [upd_ne n]
    exact h2
theorem FacePv.step {K : PySem.W.Frag} {B H H5 : Hp} {D : Addr} {ds : List PyData} {i : Nat} {c : Addr} {y : PyData} (h : FacePv K B D ds i H) (hD : B D = none) (hy : ds[i]? = some y) (_ : H c = none) (s5 : Same H H5) (d5 : Dp K (New H H5) (.ref c) y) (few : i < 16777216) :
    ∃ acc, H5 D = some (.lst acc) ∧ acc.length < sizeLine ∧ FacePv K B D ds (i + 1) (upd H5 D (.lst (acc ++ [.ref c]))) :=
  h.grow hD hy s5 (fun ys e => Dp.stay (new_in (h.same hD) e) d5) few
theorem FacePv.done {K : PySem.W.Frag} {H H3 : Hp} {L D : Addr} {ds : List PyData} {w : Str} {n : Nat} {Q : VK} (h : FacePv K (upd H L (.lst [.str w])) D ds n H3) (hD : upd H L (.lst [.str w]) D = none) (hL : H L = none) (len : n = ds.length) (few : n ≤ 1000)
    (k : ∀ (a : Addr) (H' : Hp), H a = none → Same H H' → Dp K (New H H') (.ref a) (.list (.str w :: ds)) → Q (.ref a) H') : rCat (.ref L) (.ref D) H3 Q := by
  obtain ⟨ys, e1, e2, e3, e4⟩ := h
  have s0 : Same H H3 := (Same.new2 (Same.refl H) hL).trans e4
  refine ⟨L, D, _, ys, rfl, rfl, e4 _ _ upd_same, e1, by rw [sizeLine_eq, e2]; show 1 + n ≤ _; omega, fun M hM => ?_⟩
  have nM := free_of s0 hM
  refine k M _ nM (Same.new2 s0 nM) ?_
  refine .lst (SqL.of ((New.at nM).trans upd_same)) (.cons (.str _) ?_)
  rw [show ds.take n = ds by rw [len, List.take_length]] at e3
  refine DpAll.stay (New.mono fun b o h1 h2 => ?_) e3
  have n1 : b ≠ D := fun z => by
    rw [z, upd_same] at h1
    cases h1
  rw [upd_ne n1] at h1
  have n2 : b ≠ L := fun z => by
    rw [z, upd_same] at h1
    cases h1
  rw [upd_ne n2] at h1
  refine ⟨h1, ?_⟩
  rw [upd_ne (ne_of_none h2 hM)]
  exact h2
theorem FacePv.unlock {K : PySem.W.Frag} {B H3 : Hp} {a D : Addr} {ds : List PyData} {n : Nat} {u : HO} {od : Obj} (h : FacePv K (upd B a (.frz od u)) D ds n H3) (hD : upd B a (.frz od u) D = none) (ha : B a = some u) : FacePv K B D ds n (upd H3 a u) := by
  obtain ⟨ys, e1, e2, e3, e4⟩ := h
  have nD : D ≠ a := fun z => by
    rw [z, upd_same] at hD
    cases hD
  refine ⟨ys, (upd_ne nD).trans e1, e2, DpAll.stay (New.mono fun b o h1 h2 => ?_) e3, fun b o h => ?_⟩
  · have n1 : b ≠ D := fun z => by
      rw [z, upd_same] at h1
      cases h1
    rw [upd_ne n1] at h1
    have n2 : b ≠ a := fun z => by
      rw [z, upd_same] at h1
      cases h1
    rw [upd_ne n2] at h1
    rw [upd_ne n1, upd_ne n2]
    exact ⟨h1, h2⟩
  · by_cases e : b = a
    · rw [e, upd_same]
      rw [e, ha] at h
      exact h
    · rw [upd_ne e]
      exact e4 _ _ ((upd_ne e).trans h)
theorem kvs_at {ks : List Str} {xs : List V} {i : Nat} {kk : Key} {vv : V} (h : (kvsOf ks xs)[i]? = some (kk, vv)) : ∃ kt, kk = Sum.inr kt ∧ ks[i]? = some kt ∧ xs[i]? = some vv := by
  unfold kvsOf at h
  rw [List.getElem?_zipWith] at h
  cases h1 : ks[i]? with
  | none =>
    rw [h1] at h
    cases h
  | some kt =>
    cases h2 : xs[i]? with
    | none =>
      rw [h1, h2] at h
      cases h
    | some x =>
      rw [h1, h2] at h
      cases h
      exact ⟨kt, rfl, rfl, rfl⟩
theorem valV_at : ∀ {ks : List Str} {xs : List V} {i : Nat} {kt : Str} {vv : V}, ks.Nodup → ks.length = xs.length → ks[i]? = some kt → xs[i]? = some vv → valV (kvsOf ks xs) (Sum.inr kt) = some vv
  | [], _, _, _, _, _, _, h, _ => by cases h
  | _ :: _, [], _, _, _, _, h, _, _ => by cases h
  | k :: ks, x :: xs, 0, kt, vv, _, _, h1, h2 => by
    cases h1
    cases h2
    show ((List.find? _ ((Sum.inr k, x) :: kvsOf ks xs)).map (·.2)) = some x
    rw [List.find?_cons_of_pos (by simp)] <;> rfl
  | k :: ks, x :: xs, i + 1, kt, vv, nd, len, h1, h2 => by
    obtain ⟨n1, n2⟩ := List.nodup_cons.mp nd
    have h1' : ks[i]? = some kt := h1
    have ne : k ≠ kt := fun z => n1 (z ▸ List.mem_of_getElem? h1')
    have ih := valV_at (ks := ks) (xs := xs) (i := i) n2 (Nat.succ.inj len) h1' h2
    show ((List.find? _ ((Sum.inr k, x) :: kvsOf ks xs)).map (·.2)) = some vv
    rw [List.find?_cons_of_neg (by simpa using ne)]
    exact ih
section
variable {P : Program} {w : World} {K : PySem.W.Frag} {mg : Str → Option Value} {base : Heap} {f : Addr} {fd : FuncData}
theorem face_none : FnOk P w K mg base CX0 1 f fd ["_law_thing"] (spFace K 0) :=
  ⟨fun vs H Q E h => by obtain ⟨v, d, rfl, z, _⟩ := h; exact z.elim, fun A outer s H args us vs Q E hr e0 hb hv h => by obtain ⟨v, d, rfl, z, _⟩ := h; exact z.elim⟩
set_option maxHeartbeats 0 in
theorem face_more {n : Nat} (D : Fun K "_law_face" "_law_face" sFace f fd) (g : mg "_law_face" = some (.ref f)) (kp : PySem.W.keepIn K (.ref f) = true) (b : Binds K fd ["_law_thing"] []) (Z : FreeT mg)
    (G : FnOk P w K mg base CX0 (n + 1) f fd ["_law_thing"] (spFace K n)) : FnOk P w K mg base CX0 (n + 2) f fd ["_law_thing"] (spFace K (n + 1)) := by
  refine D.ok scFace (fun vs H Q E h => ?_) (fun cdv A outer s H vs Q E hr h => ?_)
  · obtain ⟨v, d, rfl, _⟩ := h
    rfl
  · obtain ⟨v, d, rfl, th, k⟩ := h
    refine ⟨_, pss_cons (ps_if (pt_val (pe_callB call_isi (by rfl) Z.isi (by decide +kernel) (pa_cons (pv 0) (pa_cons (pe_bltn (v := .ty "tuple") (u := .type "tuple") (by rfl) Z.tup (by decide +kernel) rfl) pa_nil))))
        (pss_one (ps_ret (pe_op op_cat (pe_lst (pa_cons pe_str pa_nil))
          (pe_lc (own := [("_law_part", 1)]) (g := gName 1) (tt := tYes) rfl scFace.nd (pi_tup (pv 0)) (blkOk_by (N := NF) (sc := defScope sFace) (by decide +kernel)) (fun _ _ _ _ _ => pg_name (i := 1) scFace.nd rfl (.inl rfl)) (fun _ _ _ _ _ => pts_nil)
            (fun _ _ _ _ _ => pe_call G hr rfl g kp b .nil pass0 (pa_cons (pv 1) pa_nil)))))) pss_nil)
      (pss_cons (ps_if (pt_val (pe_callB call_isi (by rfl) Z.isi (by decide +kernel) (pa_cons (pv 0) (pa_cons (pe_bltn (v := .ty "list") (u := .type "list") (by rfl) Z.lst (by decide +kernel) rfl) pa_nil))))
        (pss_one (ps_ret (pe_op op_cat (pe_lst (pa_cons pe_str pa_nil))
          (pe_lc (own := [("_law_part", 1)]) (g := gName 1) (tt := tYes) rfl scFace.nd (pi_list (pv 0)) (blkOk_by (N := NF) (sc := defScope sFace) (by decide +kernel)) (fun _ _ _ _ _ => pg_name (i := 1) scFace.nd rfl (.inl rfl)) (fun _ _ _ _ _ => pts_nil)
            (fun _ _ _ _ _ => pe_call G hr rfl g kp b .nil pass0 (pa_cons (pv 1) pa_nil)))))) pss_nil)
      (pss_cons (ps_if (pt_val (pe_callB call_isi (by rfl) Z.isi (by decide +kernel) (pa_cons (pv 0) (pa_cons (pe_bltn (v := .ty "dict") (u := .type "dict") (by rfl) Z.dct (by decide +kernel) rfl) pa_nil))))
        (pss_one (ps_ret (pe_op op_cat (pe_lst (pa_cons pe_str pa_nil))
          (pe_lock (pe_lc (own := [("_law_key", 2)]) (g := gName 2) (tt := tYes) rfl scFace.nd (pi_keys (pv 0)) (blkOk_by (N := NF) (sc := defScope sFace) (by decide +kernel)) (fun _ _ _ _ _ => pg_name (i := 2) scFace.nd rfl (.inl rfl)) (fun _ _ _ _ _ => pts_nil)
            (fun _ _ _ _ _ => pe_lst (pa_cons (pe_call G hr rfl g kp b .nil pass0 (pa_cons (pv 2) pa_nil)) (pa_cons (pe_call G hr rfl g kp b .nil pass0 (pa_cons (pe_dget (hu_of hr) (pv 0) (pv 2) (fun _ _ => rfl)) pa_nil)) pa_nil)))))))) pss_nil)
      (pss_one (ps_ret (pe_lst (pa_cons (pe_ifExp (pt_val (pe_callB call_isi (by rfl) Z.isi (by decide +kernel) (pa_cons (pv 0) (pa_cons (pe_bltn (v := .ty "bool") (u := .type "bool") (by rfl) Z.bool (by decide +kernel) rfl) pa_nil)))) pe_str pe_str) (pa_cons (pv 0) pa_nil))))))), ?_⟩
    rcases th with lf | ⟨a, xs, ds, rfl, ha, few, parts, rfl⟩ | ⟨a, xs, ds, rfl, ha, few, parts, rfl⟩ | ⟨a, ks, xs, ds, rfl, ha, nd, len, few, parts, rfl⟩
    · obtain ⟨t, c, d', ty, k1, k2, k3, k4, rfl, dp⟩ := leaf_ty (K := K) (H := H) lf
      refine ⟨_, rfl, _, _, .type t, .type "tuple", false, rfl, .ty "tuple", ty, k1, false, rfl, iteF ?_⟩
      refine ⟨_, rfl, _, _, .type t, .type "list", false, rfl, .ty "list", ty, k2, false, rfl, iteF ?_⟩
      refine ⟨_, rfl, _, _, .type t, .type "dict", false, rfl, .ty "dict", ty, k3, false, rfl, iteF ?_⟩
      refine ⟨_, rfl, _, _, .type t, .type "bool", c, rfl, .ty "bool", ty, k4, c, rfl, ?_⟩
      cases c with
      | true => exact iteT ⟨_, rfl, (by show 2 ≤ sizeLine; decide), fun q hq => k q _ hq (Same.new2 (Same.refl H) hq) (.lst (SqL.of ((New.at hq).trans upd_same)) (.cons (.str _) (.cons (dp _) .nil)))⟩
      | false => exact iteF ⟨_, rfl, (by show 2 ≤ sizeLine; decide), fun q hq => k q _ hq (Same.new2 (Same.refl H) hq) (.lst (SqL.of ((New.at hq).trans upd_same)) (.cons (.str _) (.cons (dp _) .nil)))⟩
    · refine ⟨_, rfl, _, _, .type "list", .type "tuple", false, rfl, .ty "tuple", .base (.lst ha), kit_ty (by decide +kernel), false, rfl, iteF ?_⟩
      refine ⟨_, rfl, _, _, .type "list", .type "list", true, rfl, .ty "list", .base (.lst ha), kit_ty (by decide +kernel), true, rfl, iteT ?_⟩
      have mk : ∀ L, H L = none → Same H (upd H L (.lst [.str "list"])) := fun L hL => Same.new2 (Same.refl H) hL
      refine ⟨(by show 1 ≤ sizeLine; decide), fun L hL => ⟨_, rfl, a, rfl, ⟨xs, SqL.of (mk L hL _ _ ha)⟩, fun D hD => ?_⟩⟩
      refine lc_it (walk_list (xs := xs)) (FacePv K (upd H L (.lst [.str "list"])) D ds) (FacePv.start hD) (fun i H3 _ q => SqL.of (q.same hD _ _ (mk L hL _ _ ha))) ?_ ?_
      · rintro i x H3 H3' hi q ⟨rfl, hx⟩
        obtain ⟨y, hy, th⟩ := parts.get hx
        refine ⟨rfl, _, rfl, x, y, rfl, th.same ((mk L hL).trans (q.same hD)), fun c H5 hc s5 d5 => q.step hD hy hc s5 d5 (by omega)⟩
      · rintro H3 q
        exact q.done hD hL parts.len few k
    · refine ⟨_, rfl, _, _, .type "tuple", .type "tuple", true, rfl, .ty "tuple", .base (.tup ha), kit_ty (by decide +kernel), true, rfl, iteT ?_⟩
      have mk : ∀ L, H L = none → Same H (upd H L (.lst [.str "tuple"])) := fun L hL => Same.new2 (Same.refl H) hL
      refine ⟨(by show 1 ≤ sizeLine; decide), fun L hL => ⟨_, rfl, a, rfl, ⟨xs, SqT.of (mk L hL _ _ ha)⟩, fun D hD => ?_⟩⟩
      refine lc_it (walk_tup (xs := xs)) (FacePv K (upd H L (.lst [.str "tuple"])) D ds) (FacePv.start hD) (fun i H3 _ q => SqT.of (q.same hD _ _ (mk L hL _ _ ha))) ?_ ?_
      · rintro i x H3 H3' hi q ⟨rfl, hx⟩
        obtain ⟨y, hy, th⟩ := parts.get hx
        refine ⟨rfl, _, rfl, x, y, rfl, th.same ((mk L hL).trans (q.same hD)), fun c H5 hc s5 d5 => q.step hD hy hc s5 d5 (by omega)⟩
      · rintro H3 q
        exact q.done hD hL parts.len few k
    · refine ⟨_, rfl, _, _, .type "dict", .type "tuple", false, rfl, .ty "tuple", .base (.dK ha), kit_ty (by decide +kernel), false, rfl, iteF ?_⟩
      refine ⟨_, rfl, _, _, .type "dict", .type "list", false, rfl, .ty "list", .base (.dK ha), kit_ty (by decide +kernel), false, rfl, iteF ?_⟩
      refine ⟨_, rfl, _, _, .type "dict", .type "dict", true, rfl, .ty "dict", .base (.dK ha), kit_ty (by decide +kernel), true, rfl, iteT ?_⟩
      have mk : ∀ L, H L = none → Same H (upd H L (.lst [.str "dict"])) := fun L hL => Same.new2 (Same.refl H) hL
      refine ⟨(by show 1 ≤ sizeLine; decide), fun L hL => ⟨a, .dK (kvsOf ks xs), mk L hL _ _ ha, trivial, fun od => ⟨_, rfl, a, od, rfl, .inl ⟨_, upd_same, fun D hD => ?_⟩⟩⟩⟩
      have klen : (kvsOf ks xs).length = xs.length := by unfold kvsOf; rw [List.length_zipWith]; omega
      have dlen : (List.zipWith keyD ks ds).length = xs.length := by have := parts.len; rw [List.length_zipWith]; omega
      refine lc_it (walk_keys (kvs := kvsOf ks xs)) (FacePv K (upd (upd H L (.lst [.str "dict"])) a (.frz od (.dK (kvsOf ks xs)))) D (List.zipWith keyD ks ds)) (FacePv.start hD) (fun i H3 _ q => q.same hD _ _ upd_same) ?_ ?_
      · rintro i x H3 H3' hi q ⟨rfl, kk, vv, hk, rfl⟩
        obtain ⟨kt, rfl, ek, ev⟩ := kvs_at hk
        obtain ⟨y, hy, th⟩ := parts.get ev
        have s3 := q.same hD
        have lo : Same (cut H a) H3' := cutH_to fun b o n h => s3 _ _ ((upd_ne n).trans (mk L hL _ _ h))
        refine ⟨rfl, _, rfl, .str kt, plainD (.str kt), rfl, ?_, fun c H5 hc s5 d5 => ⟨_, rfl, _, rfl, a, _, rfl, .inl ⟨kvsOf ks xs, Sum.inr kt, .inr ⟨od, s5 _ _ (s3 _ _ upd_same)⟩, rfl, (valV_at nd len ek ev).symm⟩, vv, y, rfl, th.same (lo.trans s5), fun c2 H6 hc2 s6 d6 => ?_⟩⟩
        · cases n with
          | zero => exact th.elim
          | succ m => exact .inl (.str kt)
        · refine ⟨(by show 2 ≤ sizeLine; decide), fun E hE => ?_⟩
          have s56 := s5.trans s6
          have nE3 := free_of s56 hE
          refine q.grow hD (y := keyD kt y) ?_ (s56.trans (Same.new2 (Same.refl _) hE)) (fun ys e => ?_) (by omega)
          · rw [List.getElem?_zipWith, ek, hy] <;> rfl
          · have nDE : E ≠ D := fun z => by
              rw [z, e] at nE3
              cases nE3
            have nB := free_of (q.same hD) nE3
            refine .lst (SqL.of (xs := [.ref c, .ref c2]) ((New.at (by rw [upd_ne nDE]; exact nB)).trans ?_)) (.cons (Dp.stay ?_ d5) (.cons (Dp.stay ?_ d6) .nil))
            · rw [upd_ne nDE, upd_same]
            · refine New.mono fun b o h1 h2 => ?_
              have n : b ≠ D := fun z => by
                rw [z, e] at h1
                cases h1
              have n2 : b ≠ E := ne_of_none (s6 _ _ h2) hE
              rw [upd_ne n, upd_ne n, upd_ne n2]
              exact ⟨free_of s3 h1, s6 _ _ h2⟩
            · refine New.mono fun b o h1 h2 => ?_
              have h1' := free_of s5 h1
              have n : b ≠ D := fun z => by
                rw [z, e] at h1'
                cases h1'
              have n2 : b ≠ E := ne_of_none h2 hE
              rw [upd_ne n, upd_ne n, upd_ne n2]
              exact ⟨free_of s3 h1', h2⟩
      · rintro H3 q
        refine ⟨q.same hD _ _ upd_same, (q.unlock hD (mk L hL _ _ ha)).done ?_ hL (klen.trans dlen.symm) (by omega) k⟩
        have nD : D ≠ a := fun z => by
          rw [z, upd_same] at hD
          cases hD
        exact (upd_ne nD).symm.trans hD
theorem ok_face (D' : Def K mg "_law_face" sFace ["_law_thing"] f fd) (Z : FreeT mg) : ∀ n, FnOk P w K mg base CX0 (n + 1) f fd ["_law_thing"] (spFace K n)
  | 0 => face_none
  | n + 1 => face_more D'.F D'.g D'.kp D'.b Z (ok_face D' Z n)
end
end Wb
/-! values of any sort, asked what they are -/
namespace Wb
open PySem L2 WbMin WbS
/-- a text as it may be passed -/
structure Tx (l : List Nat) : Prop where
  few : l.length ≤ 2000
  cod : ∀ c ∈ l, c < 1000
theorem Tx.fits {l : List Nat} (h : Tx l) : (S l).length ≤ sizeLine := by
  rw [S_len, sizeLine_eq]
  have := h.few
  omega
/-- a value of any sort, the pool p no part of it; d its face -/
def Any (p : Addr) (H : Hp) (x : V) (d : PyData) : Prop := Thing (cut H p) 5 x d ∧ (∀ z, x = .str z → ∃ l, z = S l ∧ Tx l) ∧ (∀ i, x = .int i → i < 2 ^ 1000) ∧ d.canLay0 = true ∧ PyData.depth d ≤ 60
theorem cut_but {p : Addr} {H H' : Hp} (b : But p H H') : Same (cut H p) (cut H' p) := fun c o h => by
  unfold cut at h ⊢
  by_cases e : c = p
  · rw [if_pos e] at h
    cases h
  · rw [if_neg e] at h ⊢
    exact b _ _ e h
theorem Any.but {p : Addr} {H H' : Hp} {x : V} {d : PyData} (h : Any p H x d) (b : But p H H') : Any p H' x d := ⟨h.1.same (cut_but b), h.2⟩
theorem Any.same {p : Addr} {H H' : Hp} {x : V} {d : PyData} (h : Any p H x d) (s : Same H H') : Any p H' x d := ⟨h.1.same (cut_same s), h.2⟩
theorem Any.thing {p : Addr} {H : Hp} {x : V} {d : PyData} (h : Any p H x d) : Thing H 5 x d := h.1.same (cutH_to fun _ _ _ e => e)
/-- what is neither a text nor an integer -/
inductive Neither (H : Hp) : V → Prop where
  | non : Neither H .non
  | bl (b : Bool) : Neither H (.bl b)
  | lst {a : Addr} {xs : List V} (h : H a = some (.lst xs)) : Neither H (.ref a)
  | tup {a : Addr} {xs : List V} (h : H a = some (.tup xs)) : Neither H (.ref a)
  | dK {a : Addr} {xs : List (Key × V)} (h : H a = some (.dK xs)) : Neither H (.ref a)
theorem Neither.same {H H' : Hp} {x : V} (h : Neither H x) (s : Same H H') : Neither H' x := by
  cases h with
  | non => exact .non
  | bl b => exact .bl b
  | lst h => exact .lst (s _ _ h)
  | tup h => exact .tup (s _ _ h)
  | dK h => exact .dK (s _ _ h)
theorem Any.sort {p : Addr} {H : Hp} {x : V} {d : PyData} (h : Any p H x d) : (∃ l, x = .str (S l) ∧ Tx l) ∨ (∃ i, x = .int i) ∨ Neither H x := by
  have th := h.thing
  rcases th with lf | ⟨a, xs, ds, rfl, ha, _⟩ | ⟨a, xs, ds, rfl, ha, _⟩ | ⟨a, ks, xs, ds, rfl, ha, _⟩
  · cases lf with
    | non => exact .inr (.inr .non)
    | bl b => exact .inr (.inr (.bl b))
    | int i => exact .inr (.inl ⟨i, rfl⟩)
    | str z =>
      obtain ⟨l, rfl, t⟩ := h.2.1 z rfl
      exact .inl ⟨l, rfl, t⟩
  · exact .inr (.inr (.lst ha))
  · exact .inr (.inr (.tup ha))
  · exact .inr (.inr (.dK ha))
theorem Neither.str {H : Hp} {K : PySem.W.Frag} {x : V} (h : Neither H x) : ∃ t, TyX K H x t ∧ PySem.W.kitOne K t (.type "str") = some false := by
  cases h with
  | non => exact ⟨_, .base .non, kit_ty (by decide +kernel)⟩
  | bl b => exact ⟨_, .base (.bl b), kit_ty (by decide +kernel)⟩
  | lst h => exact ⟨_, .base (.lst h), kit_ty (by decide +kernel)⟩
  | tup h => exact ⟨_, .base (.tup h), kit_ty (by decide +kernel)⟩
  | dK h => exact ⟨_, .base (.dK h), kit_ty (by decide +kernel)⟩
theorem Neither.int {H : Hp} {K : PySem.W.Frag} {x : V} (h : Neither H x) : ∃ (t : Value) (b : Bool), TyX K H x t ∧ PySem.W.kitOne K t (.type "int") = some b ∧ (b = true → PySem.W.kitOne K t (.type "bool") = some true) := by
  cases h with
  | non => exact ⟨_, false, .base .non, kit_ty (by decide +kernel), fun z => by cases z⟩
  | bl b => exact ⟨_, true, .base (.bl b), kit_ty (by decide +kernel), fun _ => kit_ty (by decide +kernel)⟩
  | lst h => exact ⟨_, false, .base (.lst h), kit_ty (by decide +kernel), fun z => by cases z⟩
  | tup h => exact ⟨_, false, .base (.tup h), kit_ty (by decide +kernel), fun z => by cases z⟩
  | dK h => exact ⟨_, false, .base (.dK h), kit_ty (by decide +kernel), fun z => by cases z⟩
/-! ### the answers -/
def okc (c : Nat) : Bool := decide (97 ≤ c) && decide (c ≤ 122)
def isWB (l : List Nat) : Bool := decide (1 ≤ l.length) && decide (l.length ≤ 600) && l.all okc
/-- a word -/
def wordB : V → Bool
  | .str z => isWB z.cps.toList
  | _ => false
/-- a word of these signs -/
def goodW (sg : List Nat) : V → Bool
  | .str z => isWB z.cps.toList && z.cps.toList.all fun c => decide (c ∈ sg)
  | _ => false
theorem Neither.word {H : Hp} {x : V} (h : Neither H x) : wordB x = false := by cases h <;> rfl
theorem Neither.good {H : Hp} {x : V} {sg : List Nat} (h : Neither H x) : goodW sg x = false := by cases h <;> rfl
section
variable {P : Program} {w : World} {K : PySem.W.Frag} {mg : Str → Option Value} {base : Heap} {f fI : Addr} {fd dI : FuncData}
end
end Wb
/-! a loop is made of parts in any order -/
namespace Wb
open PySem L2 WbMin WbS Lz
/-- the parts as they are told -/
structure PrtG (st : List Str) (rw : List Row) (tn : List Trn) (ye : List Str) (t rr u y : Addr) (as bs : List Addr) (H : Hp) : Prop where
  ht : H t = some (.tup (st.map V.str))
  hr : H rr = some (.tup (as.map V.ref))
  hT : Tups H as (rw.map Row.v)
  hu : H u = some (.tup (bs.map V.ref))
  hU : Tups H bs (tn.map Trn.v)
  hy : H y = some (.tup (ye.map V.str))
section
variable {st : List Str} {rw : List Row} {tn : List Trn} {ye : List Str} {t rr u y : Addr} {as bs : List Addr} {H H' : Hp}
theorem PrtG.same (s : Same H H') (h : PrtG st rw tn ye t rr u y as bs H) : PrtG st rw tn ye t rr u y as bs H' := ⟨s _ _ h.ht, s _ _ h.hr, h.hT.same s, s _ _ h.hu, h.hU.same s, s _ _ h.hy⟩
theorem PrtG.but {p : Addr} {o : HO} (no : ∀ x, o ≠ .tup x) (hp : H p = some o) (s : But p H H') (h : PrtG st rw tn ye t rr u y as bs H) : PrtG st rw tn ye t rr u y as bs H' :=
  ⟨s _ _ (ne_of h.ht hp fun e => no _ e.symm) h.ht, s _ _ (ne_of h.hr hp fun e => no _ e.symm) h.hr, h.hT.but no hp s, s _ _ (ne_of h.hu hp fun e => no _ e.symm) h.hu, h.hU.but no hp s, s _ _ (ne_of h.hy hp fun e => no _ e.symm) h.hy⟩
end
section
variable {P : Program} {w : World} {K : PySem.W.Frag} {mg : Str → Option Value} {base : Heap} {A : LA} {e : Addr}
end
end Wb
/-! a loop that begins in another state: the mathematics -/
namespace Wb
open PySem L2 WbMin WbS Lz
/-! ### what it does -/
section
variable {L : LD} {b k : Nat} {w : List Nat} (O : L.Ok) (hb : b = it (L.lead w) k) (hw : ∀ c ∈ w, c ∈ L.sg)
include O hb hw
end
end Wb
/-! o + p, o - p, o * i by own methods -/
namespace Lz
open PySem PySem.Spec PyProof.Rows L2 WbO
section
variable {X : Cx} {CX : CXT} {k : Nat} {C g : Addr} {fd : FuncData} {ps : List Str} {sp : Sp} {E : XK}
end
end Lz
set_option maxHeartbeats 1000000
/-! o op y by o's own method, y of any built-in type -/
namespace PySem.W
open PySem Sem PySem.Calls PyProof.Rows Builtin
section
variable {prog : Program} {w : World} {A : Around} {E : Value → Shared → Prop} {s : Shared} {K : Frag} {base : Heap} {L a : Addr} {m : Str → Option Value} {oa : Obj} {C f : Addr} {od : Option Obj} {t : String}
/-- the left operand's own method, the right one's type is known by a look -/
theorem left_own {op : Operator} {y : Value} {fo ro rc : Option Value} {Q : Value → Shared → Prop} (fr : Fr base L s.heap m) (kin : K.In base) (inst : InstAt s.heap a oa C od) (ty : Looks (model prog w) s.heap (typeOf y) (.type t)) (first_ : selfFirst K C = true)
    (own : findIn K (.ref C) (PySem.dunder op.info.2) = some (some (.ref f))) (fn : isFn K (.ref f) = true) (rev : findIn K (.ref C) (dunderR op.info.2) = some rc) (py : rc = none ∨ ∃ g : Addr, rc = some (.ref g))
    (its : findIn K (.type t) (PySem.dunder op.info.2) = some fo) (itsR : findIn K (.type t) (dunderR op.info.2) = some ro) (sub : subIn K (.type t) (.ref C) = some false)
    (run : wpAny (model prog w) A (call (.ref f) [.ref a, y]) (CmpBack Q) E s) : wpAny (model prog w) A (binaryOp op (.ref a) y) Q E s := by
  have X := kin.keeps fr.keep
  obtain ⟨cd, rest, inCls, mro⟩ := ksp_first first_
  obtain ⟨sym, nm, ei⟩ : ∃ sym nm, op.info = (sym, nm) := ⟨op.info.1, op.info.2, rfl⟩
  rw [ei] at own rev its itsR
  dsimp only at own rev its itsR
  have tried := ksp_try X inst own fn run
  obtain ⟨hp, gs, dr, tk, os⟩ := s
  have l1 : Looks (model prog w) hp (typeOf (.ref a)) (.ref C) := inst.type
  have l2 : Looks (model prog w) hp (typeOf y) (.type t) := ty
  have l3 : Looks (model prog w) hp (fillsNumberSlot (.ref C) nm) true := fills_K X inCls mro own
  have l4 : Looks (model prog w) hp (fillsNumberSlot (.type t) nm) ((fo.isSome && !isSeqSlot fo) || (ro.isSome && !isSeqSlot ro)) := ksp_fillsT X its itsR
  have l5 : Looks (model prog w) hp (isSubtype (.type t) (.ref C)) false := looks_subIn X sub
  have l6 : Looks (model prog w) hp (numberSlotInPython (.ref C) nm) true := ksp_inPy X own rev py
  have l7 : Looks (model prog w) hp (numberSlotInPython (.type t) nm) false := Looks.of_pure rfl
  have l8 : Looks (model prog w) hp (typeLookup (.type t) (dunderR nm)) ro := looks_findIn X itsR
  obtain ⟨right, er⟩ : ∃ right, ((fo.isSome && !isSeqSlot fo) || (ro.isSome && !isSeqSlot ro)) = right := ⟨_, rfl⟩
  rw [er] at l4
  have unlike : (Value.ref C == Value.type t) = false := Bool.eq_false_iff.mpr fun q => by cases beq_iff_eq.mp q
  simp only [binaryOp, ei] ; refine wpAny_holding (wpAny_bind ?_) ; unfold binaryOp1
  refine wpAny_bind (l1.at (wpAny_bind (l2.at (wpAny_bind (l3.at ?_)))))
  simp only [unlike, Bool.false_eq_true, if_false]
  cases right with
  | false =>
    ksp_lk
    refine wpAny_mono tried (fun r s' back => ?_) fun _ _ e => e
    obtain ⟨v, rfl, q⟩ := back
    ksp_lk
    exact q
  | true =>
    ksp_lk
    refine wpAny_mono tried (fun r s' back => ?_) fun _ _ e => e
    obtain ⟨v, rfl, q⟩ := back
    ksp_lk
    exact q
end
end PySem.W
namespace Le
open PySem PySem.Spec PyProof.Rows L2
/-- what the class and a built-in type say of an operator -/
structure OpT (K : PySem.W.Frag) (C : Addr) (nm : String) (t : String) : Prop where
  its : ∃ fo, PySem.W.findIn K (.type t) (PySem.dunder nm) = some fo
  itsR : ∃ ro, PySem.W.findIn K (.type t) (PySem.dunderR nm) = some ro
  sub : PySem.W.subIn K (.type t) (.ref C) = some false
section
variable {X : Cx} {CX : CXT} {k : Nat} {C g : Addr} {fd : FuncData} {ps : List Str} {sp : Sp} {E : XK} {op : Operator}
def rOpU (K : PySem.W.Frag) (C : Addr) (nm : String) (sp : Sp) (E : XK) : R2 := fun x y H Q => ∃ (a dx : Addr) (fs : List (Str × V)) (t : String), x = .ref a ∧ H a = some (.ins C dx fs) ∧ TyX K H y (.type t) ∧ OpT K C nm t ∧ sp [.ref a, y] H Q E
theorem op_U (sf : PySem.W.selfFirst X.K C = true) (own : PySem.W.findIn X.K (.ref C) (PySem.dunder op.info.2) = some (some (.ref g))) (fn : PySem.W.isFn X.K (.ref g) = true) {rc : Option Value} (rev : PySem.W.findIn X.K (.ref C) (PySem.dunderR op.info.2) = some rc) (py : rc = none ∨ ∃ g : Addr, rc = some (.ref g))
    (F : FnOk X.prog X.w X.K X.mg X.base CX k g fd ps sp) (hr : Room k X.A) (hb : Binds X.K fd ps []) (hx : Passes CX X E) : OpR X (binaryOp op) (rOpU X.K C op.info.2 sp E) := by
  intro pins s σ H x y v u Q I rx ry h
  obtain ⟨a, dx, fs, t, rfl, ha, ty, T, q⟩ := h
  cases (show v = Value.ref a from rx)
  obtain ⟨mA, O, _⟩ := ins_get I.hok ha
  obtain ⟨od, J, _⟩ := O.look
  obtain ⟨m, hF⟩ := I.fr
  obtain ⟨Pp, kx, hP, _⟩ := kit_of I ry ty
  obtain ⟨_, i1⟩ := T.its
  obtain ⟨_, i2⟩ := T.itsR
  refine PySem.W.left_own hF I.ok.mod.kin J (kx.ty _ _ I.kIn hP) sf own fn rev py i1 i2 T.sub ?_
  have len : ([Value.ref a, u] ++ ([] : List Value)).length = ps.length := by
    rw [← F.len _ _ _ _ q]
    rfl
  have bound := hb s [.ref a, u] I.kIn len
  rw [List.append_nil] at bound
  refine wpAny_call (codeAny_mono (F.run X.A X.stack s H ⟨[.ref a, u], []⟩ [.ref a, u] [.ref a, y] Q E hr I.env0 bound (.cons rfl (.cons ry .nil)) q) fun res s' done => ?_)
  cases res with
  | error e => exact hx pins σ H s e s' I done
  | ok fl =>
    cases fl with
    | ret z =>
      obtain ⟨z', H', I', rz, qz⟩ := I.after done
      exact SlX.cmpback rz ⟨z', H', I', rz, qz⟩
    | next => exact False.elim done
    | brk => exact False.elim done
    | cont => exact False.elim done
end
end Le
/-! kinds: a ring in one, two met -/
namespace Wb
open PySem L2 WbMin WbO WbS WbT Lz Le
abbrev sText : Stmt := inClass (top 27) 1
abbrev sKAnd : Stmt := inClass (top 35) 9
abbrev sErrNotAKind : Stmt := inClass (top 18) 0
def spText (C : Addr) : Sp := fun vs H Q _ => ∃ (r : Addr) (l : List Nat), vs = [.ref r] ∧ RingAt C H r l ∧ Q (.str (textS l)) H
structure KB where
  (fN fAn goes CR fT pT fRI cNK cNR fNK turns : Addr)
  (dN dAn dgoes dT dRI dNK dturns : FuncData)
/-- what the top has written of kind & kind, ring in kind, of Ring and of the errors -/
structure KmF (K : PySem.W.Frag) (mg : Str → Option Value) (A : KA) (B : KB) : Prop where
  FN : Fun K "__contains__" "Kind.__contains__" sKIn B.fN B.dN
  bN : Binds K B.dN ["self", "value"] []
  aN : PySem.W.findIn K (.ref A.C) "__contains__" = some (some (.ref B.fN))
  iN : PySem.W.isFn K (.ref B.fN) = true
  goes : Def K mg "_goes_round" sGoes ["text", "pairs"] B.goes B.dgoes
  TR : Txt K mg B.CR
  FT : Fun K "text" "Ring.text" sText B.fT B.dT
  bT : Binds K B.dT ["self"] []
  hT : PropOf K B.CR "text" B.pT B.fT
  MR : Mk K B.CR B.fRI
  FRI : Fun K "__init__" "Ring.__init__" sInit B.fRI B.dRI
  bRI : Binds K B.dRI ["self", "text"] []
  turns : Def K mg "_all_turnings" sTurns ["word"] B.turns B.dturns
  FAn : Fun K "__and__" "Kind.__and__" sKAnd B.fAn B.dAn
  bAn : Binds K B.dAn ["self", "other"] []
  aAn : PySem.W.findIn K (.ref A.C) "__and__" = some (some (.ref B.fAn))
  iAn : PySem.W.isFn K (.ref B.fAn) = true
  rAn : PySem.W.findIn K (.ref A.C) "__rand__" = some none
  sf : PySem.W.selfFirst K A.C = true
  EK : ErrF K mg "NotAKind" "given" "NotAKind.__init__" sErrNotAKind B.cNK B.fNK B.dNK
  gNR : mg "NoRing" = some (.ref B.cNR)
  kNR : PySem.W.keepIn K (.ref B.cNR) = true
  xNR : ∃ (bmB : List Value) (Bn newId initId : String), ExcBaseFacts Bn newId initId bmB ∧ PySem.W.excIn K B.cNR bmB newId = true
  eNR : PySem.W.subIn K (.ref B.cNR) (.type "BaseException") = some true
  tNR : PySem.W.typeIn K (.ref B.cNR) = some (.type "type")
section
variable {P : Program} {w : World} {K : PySem.W.Frag} {mg : Str → Option Value} {base : Heap} {A : KA} {B : KB} {f C : Addr} {fd : FuncData}
theorem scTxR : FnScope ["self"] ["self"] (defScope sText) := ⟨rfl, rfl, rfl, by decide +kernel, rfl, by decide +kernel, by decide +kernel⟩
theorem ok_text (F : Fun K "text" "Ring.text" sText f fd) (T : Txt K mg C) : FnOk P w K mg base CX0 1 f fd ["self"] (spText C) := by
  refine F.ok scTxR (fun vs H Q E h => by obtain ⟨r, l, rfl, _⟩ := h; rfl) (fun cdv A outer s H vs Q E hr h => ?_)
  obtain ⟨r, l, rfl, ⟨W, dx, hR⟩, k⟩ := h
  exact ⟨_, pss_one (ps_ret (pe_fld (pv 0) rfl)), _, rfl, r, C, dx, _, _, rfl, hR, T.cl, T.nT, rf_text _ _, k⟩
theorem scKN : FnScope ["self", "value"] ["self", "value"] (defScope sKIn) := ⟨rfl, rfl, rfl, by decide +kernel, rfl, by decide +kernel, by decide +kernel⟩
def spKIn (C CR : Addr) : Sp := fun vs H Q _ => ∃ (r q : Addr) (sg : List Nat) (ps : List Str) (l : List Nat), vs = [.ref r, .ref q] ∧ KindAt C H r sg ps ∧ RingAt CR H q l ∧ ∀ H', Same H H' → Q (.bl (goesB l ps)) H'
set_option maxHeartbeats 0 in
theorem ok_kin (D : KindF K mg A) (M : KmF K mg A B) (Z : Free mg) : FnOk P w K mg base CX0 3 B.fN B.dN ["self", "value"] (spKIn A.C B.CR) := by
  have GG : FnOk P w K mg base CX0 1 B.goes B.dgoes ["text", "pairs"] spGoes := ok_goes M.goes.F Z
  have Gt : FnOk P w K mg base CX0 1 B.fT B.dT ["self"] (spText B.CR) := ok_text M.FT M.TR
  refine M.FN.ok scKN (fun vs H Q E h => by obtain ⟨r, q, sg, ps, l, rfl, _⟩ := h; rfl) (fun cdv A' outer s H vs Q E hr h => ?_)
  obtain ⟨r, q, sg, ps, l, rfl, ⟨dx, t, rb, e1, e2⟩, ⟨W, dy, hR⟩, k⟩ := h
  have hr1 : Room 1 _ := hr.mono (by decide)
  refine ⟨_, pss_one (ps_ret (pe_and (pe_callB call_isi (by rfl) Z.isi (by decide +kernel) (pa_cons (pv 1) (pa_cons (pe_glob (v := .ref B.CR) (by rfl) M.TR.gC rfl) pa_nil)))
    (pe_one (pe_call GG hr1 rfl M.goes.g M.goes.kp M.goes.b .nil pass0 (pa_cons (pe_prop (pv 1) M.TR.cl M.hT Gt hr M.bT .nil pass0 rfl) (pa_cons (pe_fld (pv 0) rfl) pa_nil)))))), ?_⟩
  refine ⟨_, rfl, _, _, .ref B.CR, .ref B.CR, true, rfl, .own B.CR, .base (.ins hR M.TR.cl M.TR.hcl M.TR.hgt M.TR.htk M.TR.hob), ?_, true, rfl, ?_⟩
  · unfold PySem.W.kitOne
    rw [if_pos (beq_self_eq_true _)]
  · obtain ⟨j, hj, ej⟩ := tx_is W.pos
    refine ⟨_, rfl, q, dy, _, rfl, hR, q, l, rfl, ⟨W, dy, hR⟩, _, rfl, r, A.C, dx, _, _, rfl, e1, D.T.cl, D.T.nP, kf_pairs _ _ _, tx l, t, ps, by rw [S_tx] <;> rfl, tx_w W, e2, fun H' s' => ?_⟩
    rw [ej, goes_rot W.pos (Nat.le_of_lt hj)]
    exact k H' s'
theorem kit_me {K : PySem.W.Frag} {C : Addr} : PySem.W.kitOne K (.ref C) (.ref C) = some true := by
  unfold PySem.W.kitOne
  rw [if_pos (beq_self_eq_true _)]
/-- the common signs, the common pairs -/
def cmS (sg sg2 : List Nat) : List Nat := sg.filter fun c => decide (c ∈ sg2)
def cmP (ps ps2 : List Str) : List Str := ps.filter fun z => decide (z ∈ ps2)
/-- a kind in its order -/
structure KOk (sg : List Nat) (ps : List Str) : Prop where
  sgs : Sgs sg
  prs : Prs sg ps
  so : PyProof.Rows.sortedS (sg.map sOne) = true
  po : PyProof.Rows.sortedS ps = true
def spKAnd (C : Addr) : Sp := fun vs H Q _ => ∃ (r r2 : Addr) (sg sg2 : List Nat) (ps ps2 : List Str), vs = [.ref r, .ref r2] ∧ KindAt C H r sg ps ∧ KindAt C H r2 sg2 ps2 ∧ KOk sg ps ∧ KOk sg2 ps2 ∧ cmS sg sg2 ≠ [] ∧
  ∀ (x : Addr) (H' : Hp), H x = none → Same H H' → KindAt C H' x (cmS sg sg2) (cmP ps ps2) → KOk (cmS sg sg2) (cmP ps ps2) → Q (.ref x) H'
/-- an error of class C -/
def FailsE (E : XK) (C : Addr) (H : Hp) : Prop := ∀ H' : Hp, Same H H' → E (.ref C) none H'
def spKAndN (C CN : Addr) : Sp := fun vs H _ E => ∃ (r r2 : Addr) (sg sg2 : List Nat) (ps ps2 : List Str), vs = [.ref r, .ref r2] ∧ KindAt C H r sg ps ∧ KindAt C H r2 sg2 ps2 ∧ sg.length ≤ 4 ∧ cmS sg sg2 = [] ∧ FailsE E CN H
def spKAndK (K : PySem.W.Frag) (C CK : Addr) : Sp := fun vs H _ E => ∃ (r : Addr) (x : V) (ty : Value), vs = [.ref r, x] ∧ TyX K H x ty ∧ PySem.W.kitOne K ty (.ref C) = some false ∧ (∀ (dx : Addr) (H' : Hp), Same H H' → H' dx = none → E (.ref CK) (some dx) (upd H' dx (.xd [("given", x)])))
abbrev NKA : List Str := ["self", "other", "signs", "sign", "pair"]
theorem scKA : FnScope NKA ["self", "other"] (defScope sKAnd) := ⟨rfl, rfl, rfl, by decide +kernel, rfl, by decide +kernel, by decide +kernel⟩
theorem scErrK : FnScope ["self", "given"] ["self", "given"] (defScope sErrNotAKind) := ⟨rfl, rfl, rfl, by decide +kernel, rfl, by decide +kernel, by decide +kernel⟩
theorem ok_errK {fI : Addr} {dI : FuncData} (E : ErrF K mg "NotAKind" "given" "NotAKind.__init__" sErrNotAKind C fI dI) : FnOk P w K mg base CX0 1 fI dI ["self", "given"] (spErr C "given") := by
  refine E.F.ok scErrK (fun vs H Q E h => by obtain ⟨a, y, rfl, _⟩ := h; rfl) (fun cdv A outer s H vs Q E' hr h => ?_)
  obtain ⟨a, y, rfl, ha, k⟩ := h
  exact ⟨_, pss_one (ps_ost (pv 0) (pv 1)), _, rfl, _, rfl, a, C, rfl, E.o, E.no, .inl ⟨ha, k⟩⟩
set_option maxHeartbeats 0 in
theorem ok_kandK (D : KindF K mg A) (M : KmF K mg A B) (Z : Free mg) : FnOk P w K mg base (L2N.CX P w) 3 B.fAn B.dAn ["self", "other"] (spKAndK K A.C B.cNK) := by
  have GE : FnOk P w K mg base CX0 1 B.fNK B.dNK ["self", "given"] (spErr B.cNK "given") := ok_errK M.EK
  refine okN M.FAn scKA (fun vs H Q E h => by obtain ⟨r, x, ty, rfl, _⟩ := h; rfl) (fun cdv A' outer s H vs Q E hr h => ?_)
  obtain ⟨r, x, ty, rfl, h1, h2, k⟩ := h
  refine ⟨_, pss_cons (ps_if (pt_not (pt_val (pe_callB call_isi (by rfl) Z.isi (by decide +kernel) (pa_cons (pv 1) (pa_cons (pe_glob (v := .ref A.C) (by rfl) D.T.gC rfl) pa_nil))))) (pss_one (ps_bad M.EK GE hr rfl (L2N.takes_of rfl rfl rfl rfl) rfl (pv 1))) pss_nil) pss_never, ?_⟩
  exact ⟨_, rfl, _, _, ty, .ref A.C, false, rfl, .own A.C, h1, h2, false, rfl, iteT ⟨x, rfl, fun dx n => k dx H (Same.refl H) n⟩⟩
end
/-! ### the good way, and no sign in common -/
theorem cm_len (sg sg2 : List Nat) : (cmS sg sg2).length ≤ sg.length := List.length_filter_le _ _
theorem filter_take {α : Type} {l : List α} {i : Nat} {x : α} (p : α → Bool) (h : l[i]? = some x) : (l.take (i + 1)).filter p = (l.take i).filter p ++ (if p x = true then [x] else []) := by
  rw [take_more h, List.filter_append]
  congr 1
  cases hp : p x with
  | true => rw [List.filter_cons_of_pos hp, if_pos rfl] <;> rfl
  | false => rw [List.filter_cons_of_neg (by rw [hp]; decide), if_neg (by decide)] <;> rfl
theorem one_sum (l : List Nat) (h : l.length ≤ 4) : (List.map (fun x : Str => x.length) (l.map sOne)).sum + (l.map sOne).length * (Str.ofString "").length ≤ 16777216 := by
  have e1 : ((l.map sOne).map fun x => x.length) = List.replicate l.length 1 := by
    rw [List.map_map]
    exact List.map_eq_replicate_iff.mpr fun _ _ => rfl
  have e2 : (Str.ofString "").length = 0 := by decide +kernel
  rw [e1, e2, List.sum_replicate_nat]
  omega
theorem KOk.meet {sg sg2 : List Nat} {ps ps2 : List Str} (h : KOk sg ps) (h2 : KOk sg2 ps2) (ne : cmS sg sg2 ≠ []) : KOk (cmS sg sg2) (cmP ps ps2) where
  sgs := ⟨fun c hc => h.sgs.low c (List.mem_filter.mp hc).1, h.sgs.nd.filter _, List.length_pos_iff.mpr ne, Nat.le_trans (cm_len sg sg2) h.sgs.few⟩
  prs := ⟨fun z hz => by
    obtain ⟨z1, z2⟩ := List.mem_filter.mp hz
    obtain ⟨a, b, ha, hb, e⟩ := h.prs.of z z1
    obtain ⟨a2, b2, ha2, hb2, e2⟩ := h2.prs.of z (of_decide_eq_true z2)
    have q := S_inj (e.symm.trans e2)
    injection q with q1 q2
    injection q2 with q2 _
    refine ⟨a, b, List.mem_filter.mpr ⟨ha, decide_eq_true (by rw [q1]; exact ha2)⟩, List.mem_filter.mpr ⟨hb, decide_eq_true (by rw [q2]; exact hb2)⟩, e⟩, h.prs.nd.filter _, Nat.le_trans (List.length_filter_le _ _) h.prs.few⟩
  so := by
    have q := sorted_pw h.so
    refine pw_sorted ?_
    rw [List.pairwise_map] at q ⊢
    exact q.filter _
  po := pw_sorted ((sorted_pw h.po).filter _)
section
variable {P : Program} {w : World} {K : PySem.W.Frag} {mg : Str → Option Value} {base : Heap} {A : KA} {B : KB}
set_option maxHeartbeats 0 in
theorem ok_kandN (D : KindF K mg A) (M : KmF K mg A B) (Z : Free mg) : FnOk P w K mg base (L2N.CX P w) 3 B.fAn B.dAn ["self", "other"] (spKAndN A.C B.cNR) := by
  obtain ⟨bmB, Bn, nw, ii, xF, xq⟩ := M.xNR
  refine okN M.FAn scKA (fun vs H Q E h => by obtain ⟨r, r2, sg, sg2, ps, ps2, rfl, _⟩ := h; rfl) (fun cdv A' outer s H vs Q E hr h => ?_)
  obtain ⟨r, r2, sg, sg2, ps, ps2, rfl, ⟨dx, t, rb, e1, e2⟩, ⟨dx2, t2, rb2, f1, f2⟩, few, no, k⟩ := h
  refine ⟨_, pss_cons (ps_if (pt_not (pt_val (pe_callB call_isi (by rfl) Z.isi (by decide +kernel) (pa_cons (pv 1) (pa_cons (pe_glob (v := .ref A.C) (by rfl) D.T.gC rfl) pa_nil))))) (pss_one ps_never) pss_nil)
    (pss_cons (ps_set (i := 2) scKA.nd rfl (.inl rfl) (pe_join pe_str (pe_lc (own := [("sign", 3)]) (g := gName 3) rfl scKA.nd (pi_str (pe_fld (pv 0) rfl)) (blkOk_by (N := NKA) (sc := defScope sKAnd) (by decide +kernel)) (fun _ _ _ _ _ => pg_name (i := 3) scKA.nd rfl (.inl rfl))
      (fun _ _ _ _ _ => pts_one (pt_cmpR op_in_sign (pv 3) (show PE _ _ (tFld K (tVar 1) "_signs") from pe_fld (pv 1) rfl) rfl)) (fun _ _ _ _ _ => pv 3))))
    (pss_cons (ps_if (pt_not (pt_truth (pv 2) (fun _ => rfl))) (pss_one (L2N.ps_raise rfl (L2N.takes_of rfl rfl rfl rfl) (pmk_bare xF xq M.gNR M.kNR (L2.raises_own M.eNR M.tNR) rfl))) pss_nil) pss_never)), ?_⟩
  refine ⟨_, rfl, _, _, .ref A.C, .ref A.C, true, rfl, .own A.C, .base (.ins f1 D.T.cl D.T.hcl D.hgt D.htk D.T.hob), kit_me, true, rfl, ?_⟩
  refine ⟨⟨_, rfl⟩, _, rfl, r, A.C, dx, _, _, rfl, e1, D.T.cl, D.T.nS, kf_signs _ _ _, _, rfl, fun D0 hD => lc_it walk_str (fun i H3 => H3 D0 = some (.lst (((sg.take i).filter fun c => decide (c ∈ sg2)).map vOne)) ∧ Same H H3) ⟨upd_same, Same.put (Same.refl H) hD⟩ (fun _ _ _ _ => trivial) ?_ ?_⟩
  · rintro i x H3 H3' hi ⟨h1, h2⟩ ⟨rfl, c, hc, rfl⟩
    have hc' : sg[i]? = some c := k_in_S hc
    refine ⟨rfl, _, rfl, _, rfl, r2, A.C, dx2, _, _, rfl, h2 _ _ f1, D.T.cl, D.T.nS, kf_signs _ _ _, c, S sg2, rfl, rfl, _, rfl, ?_⟩
    have m0 : c ∉ sg2 := fun m => by
      have q : c ∈ cmS sg sg2 := List.mem_filter.mpr ⟨List.mem_of_getElem? hc', decide_eq_true m⟩
      rw [no] at q
      cases q
    rw [S_cps, decide_eq_false m0]
    refine iteF ⟨?_, h2⟩
    rw [filter_take _ hc', decide_eq_false m0, if_neg (by decide), List.append_nil]
    exact h1
  · rintro H3 ⟨h1, h2⟩
    rw [S_size, List.take_length] at h1
    have e0 : (sg.filter fun c => decide (c ∈ sg2)) = [] := no
    rw [e0] at h1
    refine ⟨_, D0, [], rfl, rfl, .inl (SqL.of h1), (by decide +kernel), ?_⟩
    refine ⟨_, rfl, false, ⟨by decide +kernel, by decide +kernel⟩, iteT ?_⟩
    exact k H3 h2
set_option maxHeartbeats 0 in
theorem ok_kand (D : KindF K mg A) (M : KmF K mg A B) (Z : Free mg) : FnOk P w K mg base CX0 6 B.fAn B.dAn ["self", "other"] (spKAnd A.C) := by
  have GI : FnOk P w K mg base CX0 4 A.fI A.dI ["self", "signs", "pairs"] (spKInit A.C) := ok_kinit D Z
  refine M.FAn.ok scKA (fun vs H Q E h => by obtain ⟨r, r2, sg, sg2, ps, ps2, rfl, _⟩ := h; rfl) (fun cdv A' outer s H vs Q E hr h => ?_)
  obtain ⟨r, r2, sg, sg2, ps, ps2, rfl, ⟨dx, t, rb, e1, e2⟩, ⟨dx2, t2, rb2, f1, f2⟩, O1, O2, ne, k⟩ := h
  have OM := O1.meet O2 ne
  have hr5 : Room 5 _ := hr
  refine ⟨_, pss_cons (ps_if (pt_not (pt_val (pe_callB call_isi (by rfl) Z.isi (by decide +kernel) (pa_cons (pv 1) (pa_cons (pe_glob (v := .ref A.C) (by rfl) D.T.gC rfl) pa_nil))))) (pss_one ps_never) pss_nil)
    (pss_cons (ps_set (i := 2) scKA.nd rfl (.inl rfl) (pe_join pe_str (pe_lc (own := [("sign", 3)]) (g := gName 3) rfl scKA.nd (pi_str (pe_fld (pv 0) rfl)) (blkOk_by (N := NKA) (sc := defScope sKAnd) (by decide +kernel)) (fun _ _ _ _ _ => pg_name (i := 3) scKA.nd rfl (.inl rfl))
      (fun _ _ _ _ _ => pts_one (pt_cmpR op_in_sign (pv 3) (show PE _ _ (tFld K (tVar 1) "_signs") from pe_fld (pv 1) rfl) rfl)) (fun _ _ _ _ _ => pv 3))))
    (pss_cons (ps_if (pt_not (pt_truth (pv 2) (fun _ => rfl))) (pss_one ps_never) pss_nil)
    (pss_one (ps_ret (pe_make D.M GI hr5 rfl D.T.gC D.bI3 .nil pass0 (pa_cons (pv 2) (pa_cons (pe_callTy call_tuple_of (by rfl) D.tup (by decide +kernel) (pa_cons
      (pe_lc (own := [("pair", 4)]) (g := gName 4) rfl scKA.nd (pi_tup (pe_fld (pv 0) rfl)) (blkOk_by (N := NKA) (sc := defScope sKAnd) (by decide +kernel)) (fun _ _ _ _ _ => pg_name (i := 4) scKA.nd rfl (.inl rfl))
        (fun _ _ _ _ _ => pts_one (pt_cmpR (show OpR _ _ (rIn K false) from op_in_seq) (pv 4) (show PE _ _ (tFld K (tVar 1) "_pairs") from pe_fld (pv 1) rfl) (by rfl))) (fun _ _ _ _ _ => pv 4)) pa_nil)) pa_nil))))))), ?_⟩
  refine ⟨_, rfl, _, _, .ref A.C, .ref A.C, true, rfl, .own A.C, .base (.ins f1 D.T.cl D.T.hcl D.hgt D.htk D.T.hob), kit_me, true, rfl, ?_⟩
  have few := O1.sgs.few
  refine ⟨⟨_, rfl⟩, _, rfl, r, A.C, dx, _, _, rfl, e1, D.T.cl, D.T.nS, kf_signs _ _ _, _, rfl, fun D0 hD => lc_it walk_str (fun i H3 => H3 D0 = some (.lst (((sg.take i).filter fun c => decide (c ∈ sg2)).map vOne)) ∧ Same H H3) ⟨upd_same, Same.put (Same.refl H) hD⟩ (fun _ _ _ _ => trivial) ?_ ?_⟩
  · rintro i x H3 H3' hi ⟨h1, h2⟩ ⟨rfl, c, hc, rfl⟩
    have hc' : sg[i]? = some c := k_in_S hc
    refine ⟨rfl, _, rfl, _, rfl, r2, A.C, dx2, _, _, rfl, h2 _ _ f1, D.T.cl, D.T.nS, kf_signs _ _ _, c, S sg2, rfl, rfl, _, rfl, ?_⟩
    rw [S_cps]
    have ft := filter_take (fun c => decide (c ∈ sg2)) hc'
    cases hm : decide (c ∈ sg2) with
    | true =>
      rw [hm, if_pos rfl] at ft
      refine iteT ⟨_, rfl, _, h1, ?_, ?_, Same.new' h2 hD⟩
      · rw [List.length_map, sizeLine_eq]
        have := List.length_filter_le (fun c => decide (c ∈ sg2)) (sg.take i)
        have := List.length_take_le' i sg
        omega
      · rw [upd_same, ft, List.map_append] <;> rfl
    | false =>
      rw [hm, if_neg (by decide), List.append_nil] at ft
      refine iteF ⟨?_, h2⟩
      rw [ft]
      exact h1
  · rintro H3 ⟨h1, h2⟩
    rw [S_size, List.take_length] at h1
    have h1 : H3 D0 = some (.lst ((cmS sg sg2).map vOne)) := h1
    have l4 : (cmS sg sg2).length ≤ 4 := OM.sgs.few
    refine ⟨_, D0, (cmS sg sg2).map sOne, rfl, rfl, .inl (SqL.of (by rw [h1, List.map_map] <;> rfl)), one_sum _ l4, ?_⟩
    have ej : Txt.join (Str.ofString "") ((cmS sg sg2).map sOne) = S (cmS sg sg2) := join_one OM.sgs.pos
    rw [ej]
    have nz : (((S (cmS sg sg2)).length : Int) != 0) = true := by
      rw [S_len]
      have := OM.sgs.pos
      exact bne_iff_ne.mpr (by omega)
    refine ⟨_, rfl, true, ⟨by rw [S_len, sizeLine_eq]; omega, nz.symm⟩, iteF ?_⟩
    have s3 := h2
    refine ⟨_, rfl, _, rfl, r, A.C, dx, _, _, rfl, s3 _ _ e1, D.T.cl, D.T.nP, kf_pairs _ _ _, t, rfl, ⟨_, SqT.of (s3 _ _ e2)⟩, fun D1 hD1 => lc_it (walk_tup (xs := ps.map V.str)) (fun i H4 => H4 D1 = some (.lst (((ps.take i).filter fun z => decide (z ∈ ps2)).map V.str)) ∧ Same H3 H4) ⟨upd_same, Same.put (Same.refl H3) hD1⟩ (fun _ _ _ h => SqT.of (h.2 _ _ (s3 _ _ e2))) ?_ ?_⟩
    · rintro i x H4 H4' hi ⟨g1, g2⟩ ⟨rfl, hx⟩
      rw [List.getElem?_map] at hx
      obtain ⟨z, hz, rfl⟩ := Option.map_eq_some_iff.mp hx
      refine ⟨rfl, _, rfl, _, rfl, r2, A.C, dx2, _, _, rfl, g2 _ _ (s3 _ _ f1), D.T.cl, D.T.nP, kf_pairs _ _ _, t2, _, rfl, .inr (SqT.of (g2 _ _ (s3 _ _ f2))), rfl, flat_strs ps2, _, rfl, ?_⟩
      have ft := filter_take (fun z => decide (z ∈ ps2)) hz
      show if inV (.str z) (ps2.map V.str) = true then _ else _
      rw [inV_strs]
      cases hm : decide (z ∈ ps2) with
      | true =>
        rw [hm, if_pos rfl] at ft
        refine iteT ⟨_, rfl, _, g1, ?_, ?_, Same.new' g2 hD1⟩
        · rw [List.length_map, sizeLine_eq]
          have := List.length_filter_le (fun z => decide (z ∈ ps2)) (ps.take i)
          have := List.length_take_le' i ps
          have := O1.prs.few
          omega
        · rw [upd_same, ft, List.map_append] <;> rfl
      | false =>
        rw [hm, if_neg (by decide), List.append_nil] at ft
        refine iteF ⟨?_, g2⟩
        rw [ft]
        exact g1
    · rintro H4 ⟨g1, g2⟩
      rw [List.length_map, List.take_length] at g1
      have g1 : H4 D1 = some (.lst ((cmP ps ps2).map V.str)) := g1
      refine ⟨D1, _, rfl, .inl ⟨SqL.of g1, fun u hu => ?_⟩⟩
      have s5 : Same H (upd H4 u (.tup ((cmP ps ps2).map V.str))) := Same.put (s3.trans g2) hu
      have hu5 := upd_same (H := H4) (a := u) (o := .tup ((cmP ps ps2).map V.str))
      generalize upd H4 u (.tup ((cmP ps ps2).map V.str)) = H5 at s5 hu5 ⊢
      refine fun x dx' hx hdx ne' => ?_
      have sm : Same H5 (L2.upd (L2.upd H5 dx' (.own x)) x (.ins A.C dx' [])) := Same.new' (Same.put (Same.refl H5) hdx) hx
      refine ⟨H5, x, dx', cmS sg sg2, .ref u, cmP ps ps2, rfl, OM.sgs, .inr ⟨u, rfl, sm _ _ hu5, OM.prs⟩, sm, hx, upd_same, fun H6 sg' ps' s6 p1 so1 p2 so2 K6 => ⟨rfl, ?_⟩⟩
      obtain rfl : sg' = cmS sg sg2 := sg_same so1 OM.so p1 (List.Perm.refl _)
      obtain rfl : ps' = cmP ps ps2 := sorted_same so2 OM.po p2
      exact k x H6 (none_of_same s5 hx) (s5.trans s6) K6 OM
end
end Wb
/-! as LyS, over the class Ring's texts -/
namespace Wb
open PySem L2 WbMin WbS Lz WbO WbT
abbrev sShuf : Stmt := top 40
theorem seq_nat {i n : Nat} (h : i < n) : seqIndex? (i : Int) n = some i := by
  unfold seqIndex?
  have h0 : ¬ ((i : Int) < 0) := by omega
  have h1 : ((i : Int) < (n : Int)) := by omega
  simp [h0, h1]
theorem perm_erase {α : Type} : ∀ {l : List α} {i : Nat} {x : α}, l[i]? = some x → (x :: l.eraseIdx i).Perm l
  | [], _, _, h => by cases h
  | y :: l, 0, x, h => by cases h; exact .refl _
  | y :: l, i + 1, x, h => by
    have ih := perm_erase (l := l) (i := i) h
    show (x :: y :: l.eraseIdx i).Perm (y :: l)
    exact (List.Perm.swap y x _).trans (ih.cons y)
/-- what stands at a text, a tuple, a list -/
inductive Its (H : Hp) : V → List V → Prop
  | str (l : List Nat) : Its H (.str (S l)) (l.map vOne)
  | tup {a : Addr} {xs : List V} (h : H a = some (.tup xs)) : Its H (.ref a) xs
  | lst {a : Addr} {xs : List V} (h : H a = some (.lst xs)) (n : ∀ x y z : Int, xs ≠ [.int x, .int y, .int z]) : Its H (.ref a) xs
theorem Its.but {H H' : Hp} {p : Addr} (hp : PoolAt H p) (b : But p H H') {v : V} {xs : List V} (h : Its H v xs) : Its H' v xs := by
  cases h with
  | str l => exact .str l
  | tup h => exact .tup (b _ _ (pool_other hp h fun _ _ _ q => by cases q) h)
  | lst h n => exact .lst (b _ _ (pool_other hp h fun x y z q => n x y z (by injection q)) h) n
def spShufA : Sp := fun vs H Q _ => ∃ (p : Addr) (v : V) (xs : List V), vs = [.ref p, v] ∧ Its H v xs ∧ xs.length ≤ 600 ∧ PoolAt H p ∧ ∀ (a : Addr) (ys : List V) (H' : Hp), H' a = some (.lst ys) → a ≠ p → ys.Perm xs → PoolAt H' p → But p H H' → Q (.ref a) H'
section
variable {P : Program} {w : World} {K : PySem.W.Frag} {mg : Str → Option Value} {base : Heap} {f fD : Addr} {fd fdD : FuncData}
theorem scSh : FnScope ["_law_pool_here", "_law_things", "_law_rest", "_law_found", "_law_turn"] ["_law_pool_here", "_law_things"] (defScope sShuf) := ⟨rfl, rfl, rfl, by decide +kernel, rfl, by decide +kernel, by decide +kernel⟩
/-- list(x), len(x) of such a thing -/
@[irreducible] def rLst (K : PySem.W.Frag) : List V → Hp → VK → Prop := fun xs H Q => (∃ p ys, xs = [.ref p] ∧ (SqL K H p ys ∨ SqT K H p ys) ∧ ∀ l, H l = none → Q (.ref l) (upd H l (.lst ys))) ∨ (∃ z : Str, xs = [.str z] ∧ z.length ≤ sizeLine ∧ ∀ p, H p = none → Q (.ref p) (upd H p (.lst (z.cps.toList.map fun c => V.str ⟨#[c]⟩))))
@[irreducible] def rLen (K : PySem.W.Frag) : List V → Hp → VK → Prop := fun xs H Q => (∃ p ys, xs = [.ref p] ∧ (SqL K H p ys ∨ SqT K H p ys) ∧ Q (.int ys.length) H) ∨ (∃ z, xs = [.str z] ∧ z.length ≤ sizeLine ∧ Q (.int z.length) H)
theorem its_lst {H : Hp} {v : V} {xs : List V} {Q : VK} (h : Its H v xs) (few : xs.length ≤ 600) (k : ∀ l, H l = none → Q (.ref l) (L2.upd H l (.lst xs))) : rLst K [v] H Q := by
  unfold rLst
  cases h with
  | str l =>
    refine .inr ⟨_, rfl, ?_, fun p hp => ?_⟩
    · rw [S_len, sizeLine_eq]
      rw [List.length_map] at few
      omega
    · rw [S_cps]
      exact k p hp
  | tup h => exact .inl ⟨_, _, rfl, .inr (SqT.of h), k⟩
  | lst h n => exact .inl ⟨_, _, rfl, .inl (SqL.of h), k⟩
theorem its_len {H : Hp} {v : V} {xs : List V} {Q : VK} (h : Its H v xs) (few : xs.length ≤ 600) (k : Q (.int xs.length) H) : rLen K [v] H Q := by
  unfold rLen
  cases h with
  | str l =>
    rw [List.length_map] at few k
    refine .inr ⟨_, rfl, ?_, ?_⟩
    · rw [S_len, sizeLine_eq]
      omega
    · rw [S_len]
      exact k
  | tup h => exact .inl ⟨_, _, rfl, .inr (SqT.of h), k⟩
  | lst h n => exact .inl ⟨_, _, rfl, .inl (SqL.of h), k⟩
theorem cr_lst {X : Cx} (hc : X.calm = true) : CallR X (.type "list") (rLst X.K) := by
  unfold rLst
  exact CallR.or call_list_of (call_listS hc)
theorem cr_len {X : Cx} : CallR X (.builtin "len") (rLen X.K) := by
  unfold rLen
  exact CallR.or call_len_seq call_len_str
set_option maxHeartbeats 0 in
theorem ok_shufA (F : Fun K "_law_shuffled" "_law_shuffled" sShuf f fd) (D : Def K mg "_law_draw" sDraw ["_law_pool_here", "_law_many"] fD fdD) (Z : Free mg) (mL : mg "list" = none) : FnOk P w K mg base CX0 2 f fd ["_law_pool_here", "_law_things"] spShufA := by
  have G : FnOk P w K mg base CX0 1 fD fdD ["_law_pool_here", "_law_many"] spDraw := ok_draw D.F Z.int Z.divmod
  refine F.ok scSh (fun vs H Q E h => ?_) (fun cdv A outer s H vs Q E hr h => ?_)
  · obtain ⟨p, v, xs, rfl, _⟩ := h
    rfl
  · obtain ⟨p, v, xs, rfl, hL, z1, hp, k⟩ := h
    refine ⟨_, pss_cons (ps_par (i := 2) (j := 3) (by rfl) scSh.nd rfl rfl (by decide) rfl rfl (pa_cons (pe_callTy (show CallR _ _ (rLst K) from cr_lst rfl) (by rfl) mL (by decide +kernel) (pa_cons (pv 1) pa_nil)) (pa_cons (pe_lst pa_nil) pa_nil)) (by rfl))
      (pss_cons (ps_for PassesOwn.never rfl (pi_range1 rfl Z.range (pa_cons (pe_callB (show CallR _ _ (rLen K) from cr_len) (by rfl) Z.len PySem.boot_len (pa_cons (pv 1) pa_nil)) pa_nil)) (pg_name (i := 4) scSh.nd rfl (.inl rfl))
        (pss_one (ps_expr (pe_bm PySem.F.plainAttrs_list PySem.F.slot_list_append PySem.F.type_list_append mt_append (pv 3) (pa_cons
          (pe_bm PySem.F.plainAttrs_list PySem.F.slot_list_pop PySem.F.type_list_pop mt_popAt (pv 2) (pa_cons (pe_call G hr rfl D.g D.kp D.b .nil pass0 (pa_cons (pv 0) (pa_cons (pe_callB call_len_seq (by rfl) Z.len PySem.boot_len (pa_cons (pv 2) pa_nil)) pa_nil))) pa_nil)) pa_nil)))))
      (pss_one (ps_ret (pv 3)))), ?_⟩
    refine ⟨_, rfl, its_lst hL z1 fun R hR => ?_⟩
    refine ⟨(by show 0 ≤ sizeLine; decide), fun F0 hF => ⟨_, _, rfl, ?_⟩⟩
    have nR := hp.ne hR
    have hF1 := hF
    have nFR : F0 ≠ R := fun z => by
      rw [z, upd_same] at hF
      cases hF
    rw [upd_ne nFR] at hF1
    have nF := hp.ne hF1
    have b0 : But p H (L2.upd (L2.upd H R (.lst xs)) F0 (.lst [])) := ((But.refl p H).upd (o := .lst xs) hR).upd (o := .lst []) hF
    refine ⟨_, rfl, its_len (hL.but hp b0) z1 ?_⟩
    refine ⟨_, rfl, by omega, by omega, for_it walk_range
      (fun i σ H' => ∃ (rest found : List V) (v4 : Option V), σ = [some (.ref p), some v, some (.ref R), some (.ref F0), v4] ∧ H' R = some (.lst rest) ∧ H' F0 = some (.lst found) ∧ (found ++ rest).Perm xs ∧ rest.length + i = xs.length ∧ found.length = i ∧ PoolAt H' p ∧ But p H H')
      ⟨xs, [], none, rfl, ?_, upd_same, .refl _, rfl, rfl, (hp.put nR).put nF, b0⟩ (fun _ _ _ _ _ => trivial) ?_ ?_⟩
    · rw [upd_ne nFR.symm, upd_same]
    · rintro i x σ H2 H2' hi ⟨rest, found, v4, rfl, h1, h2, pm, r1, r2, hp2, b2⟩ ⟨rfl, rfl⟩
      refine ⟨_, rfl, .inl ⟨rfl, _, SqL.of h2⟩, _, rfl, .inl ⟨rfl, _, SqL.of h1⟩, _, rfl, _, rfl, R, _, rfl, .inl (SqL.of h1), p, _, rfl, ?_, ?_, hp2, fun e H3 e0 e1 hp3 b3 => ?_⟩
      · omega
      · omega
      · obtain ⟨j, rfl⟩ := nat_of e0
        have hj : j < rest.length := by omega
        have g1 := b3 R _ nR h1
        have g2 := b3 F0 _ nF h2
        obtain ⟨z, hz⟩ : ∃ z, rest[j]? = some z := ⟨_, List.getElem?_eq_getElem hj⟩
        refine ⟨R, _, _, j, z, rfl, rfl, g1, by omega, by omega, seq_nat hj, hz, F0, _, _, rfl, rfl, (upd_ne nFR).trans g2, ?_, ?_⟩
        · rw [sizeLine_eq]; omega
        · refine ⟨rest.eraseIdx j, found ++ [z], _, rfl, ?_, upd_same, ?_, ?_, ?_, (hp3.put nR).put nF, ?_⟩
          · rw [upd_ne nFR.symm, upd_same]
          · rw [List.append_assoc]
            exact ((perm_erase hz).append_left found).trans pm
          · rw [List.length_eraseIdx, if_pos hj]; omega
          · rw [List.length_append, r2] <;> rfl
          · exact ((b2.trans b3).new hR).new hF1
    · rintro σ H2 ⟨rest, found, v4, rfl, h1, h2, pm, r1, r2, hp2, b2⟩
      have e0 : rest = [] := List.eq_nil_of_length_eq_zero (by omega)
      subst e0
      rw [List.append_nil] at pm
      exact ⟨_, rfl, k F0 found H2 h2 nF pm hp2 b2⟩
end
end Wb
/-! o.m(k = v, ..) of an own method -/
namespace Lz
open PySem PySem.Spec PyProof.Rows L2
section
variable {X : Cx} {CX : CXT} {k : Nat} {C g : Addr} {fd : FuncData} {ps ks : List Str} {sp : Sp} {E : XK} {o : Expr} {m : Str} {apos pos : Pos} {kws : List Keyword} {ta : TE} {tk : TA} {kg : List Value → List Value → List Value} {gV : List V → List V → List V}
end
end Lz
namespace Wb
open PySem L2 WbMin WbS Lz
/-! ### rounds that come again -/
/-! ### faces of answers -/
theorem str_plain : PyData.strOk ("plain" : Str) = true := by decide +kernel
theorem int_lay (c : Int) : (plainD (.int c)).canLay0 = true := by
  show ((PyData.strOk "plain") && (true && true)) = true
  rw [str_plain] <;> rfl
theorem shaped_of {d : PyData} (h : d.canLay0 = true) (n : PyData.depth d ≤ 64) : SeqAt.shaped d = true := by
  unfold SeqAt.shaped
  rw [h, decide_eq_true n] <;> rfl
end Wb
/-! an instance called; a loop called -/
namespace Lz
open PySem PySem.Spec PyProof.Rows L2 StX
section
variable {X : Cx} {CX : CXT} {k : Nat} {C g : Addr} {fd : FuncData} {ps ks : List Str} {sp : Sp} {E : XK} {fe e : Expr} {es : List Expr} {pos : Pos} {kws : List Keyword} {tf : TE} {t tk : TA} {kg : List Value → List Value → List Value} {gV : List V → List V → List V}
end
end Lz
namespace Wb
open PySem L2 WbMin WbS Lz
structure CalA where
  (fCa : Addr)
  (dCa : FuncData)
/-- the answers of the first rounds -/
def LD.answers (L : LD) (w : List Nat) (m : Nat) : List (List V) := (List.range m).map fun j => [V.int (L.cf w j), .bl (L.ys (it (L.lead w) (j + 1)))]
section
variable {P : Program} {w : World} {K : PySem.W.Frag} {mg : Str → Option Value} {base : Heap} {A : LA} {B : CalA} {e : Addr}
end
end Wb
/-! faces of rows of answers, of a loop's row -/
namespace Wb
open PySem L2 WbMin WbS Lz
theorem Thing.up : ∀ {n : Nat} {H : Hp} {v : V} {d : PyData}, Thing H n v d → Thing H (n + 1) v d
  | 0, _, _, _, h => h.elim
  | _ + 1, _, _, _, .inl h => .inl h
  | _ + 1, _, _, _, .inr (.inl ⟨a, xs, ds, e, h, l, r, q⟩) => .inr (.inl ⟨a, xs, ds, e, h, l, r.imp fun _ _ z => Thing.up z, q⟩)
  | _ + 1, _, _, _, .inr (.inr (.inl ⟨a, xs, ds, e, h, l, r, q⟩)) => .inr (.inr (.inl ⟨a, xs, ds, e, h, l, r.imp fun _ _ z => Thing.up z, q⟩))
  | _ + 1, _, _, _, .inr (.inr (.inr ⟨a, ks, xs, ds, e, h, nd, l1, l, r, q⟩)) => .inr (.inr (.inr ⟨a, ks, xs, ds, e, h, nd, l1, l, r.imp fun _ _ z => Thing.up z, q⟩))
/-! ### answers -/
/-! ### rows -/
def strF (z : Str) : PyData := plainD (.str z)
theorem strF_lay {z : Str} (h : PyData.strOk z = true) : (strF z).canLay0 = true := by
  show ((PyData.strOk "plain") && (PyData.strOk z && true)) = true
  rw [str_plain, h] <;> rfl
end Wb
/-! an odd value: one of 27 -/
namespace Wb
open PySem L2 WbMin WbS
abbrev sLOdd : Stmt := top 42
def spOddA : Sp := fun vs H Q _ => ∃ p : Addr, vs = [.ref p] ∧ PoolAt H p ∧ ∀ (x : V) (d : PyData) (H' : Hp), Any p H' x d → PoolAt H' p → But p H H' → Q x H'
def Val (p : Addr) (H : Hp) (x : V) : Prop := ∃ d, Any p H x d
theorem cut_at {H : Hp} {a p : Addr} (n : a ≠ p) : cut H p a = H a := if_neg n
theorem Val.non {p : Addr} {H : Hp} : Val p H .non := ⟨_, .inl .non, (fun z e => by cases e), (fun i e => by cases e), by decide +kernel, by decide +kernel⟩
theorem Val.bl {p : Addr} {H : Hp} (b : Bool) : Val p H (.bl b) := ⟨_, .inl (.bl b), (fun z e => by cases e), (fun i e => by cases e), by cases b <;> decide +kernel, by cases b <;> decide +kernel⟩
theorem Val.int {p : Addr} {H : Hp} {i : Int} (h : i < 2 ^ 1000) : Val p H (.int i) := ⟨_, .inl (.int i), (fun z e => by cases e), (fun j e => by cases e; exact h), int_lay i, (by show 1 ≤ 60; decide)⟩
theorem Val.str {p : Addr} {H : Hp} {l : List Nat} (h : Tx l) : Val p H (.str (S l)) := ⟨_, .inl (.str _), (fun z e => by cases e; exact ⟨l, rfl, h⟩), (fun i e => by cases e), strF_lay (ok_codes fun c hc => by have := h.cod c hc; omega), (by show 1 ≤ 60; decide)⟩
theorem Val.lit {p : Addr} {H : Hp} {z : Str} (l : List Nat) (e : z.cps.toList = l) (h1 : l.length ≤ 2000) (h2 : ∀ c ∈ l, c < 1000) : Val p H (.str z) := by
  rw [S_eq e]
  exact .str ⟨h1, h2⟩
theorem Val.of {p a : Addr} {H : Hp} (h : ∃ d, Thing (cut H p) 5 (.ref a) d ∧ d.canLay0 = true ∧ PyData.depth d ≤ 60) : Val p H (.ref a) := ⟨h.choose, h.choose_spec.1, (fun z e => by cases e), (fun i e => by cases e), h.choose_spec.2⟩
theorem keepA {H : Hp} {a b : Addr} {o u : HO} (h : H a = some o) (n : H b = none) : upd H b u a = some o := (upd_ne (ne_of_none h n)).trans h
theorem keep5 {H : Hp} {e f g t L x : Addr} {o u1 u2 u3 u4 u5 u6 : HO} (h : H x = some o) (he : H e = none) (hf : upd H e u1 f = none) (hg : upd (upd H e u1) f u2 g = none) (ht : upd (upd (upd (upd H e u1) f u2) g u3) e u4 t = none)
    (hL : upd (upd (upd (upd (upd H e u1) f u2) g u3) e u4) t u5 L = none) : upd (upd (upd (upd (upd (upd H e u1) f u2) g u3) e u4) t u5) L u6 x = some o :=
  keepA (keepA ((upd_ne (ne_of_none h he)).trans (keepA (keepA (keepA h he) hf) hg)) ht) hL
theorem int_lt {d m : Int} (h0 : 0 ≤ d) (h1 : d < m) : ∃ j : Nat, d = (j : Int) ∧ (j : Int) < m := ⟨d.toNat, by omega, by omega⟩
section
variable {P : Program} {w : World} {K : PySem.W.Frag} {mg : Str → Option Value} {base : Heap} {f fD fW : Addr} {fd fdD dW : FuncData}
theorem scOdA : FnScope ["_law_pool_here", "_law_way"] ["_law_pool_here"] (defScope sLOdd) := ⟨rfl, rfl, rfl, by decide +kernel, rfl, by decide +kernel, by decide +kernel⟩
set_option maxHeartbeats 0 in
theorem ok_oddA (F : Fun K "_law_odd" "_law_odd" sLOdd f fd) (D : Def K mg "_law_draw" sDraw ["_law_pool_here", "_law_many"] fD fdD) (Z : Free mg) : FnOk P w K mg base CX0 2 f fd ["_law_pool_here"] spOddA := by
  have G : FnOk P w K mg base CX0 1 fD fdD ["_law_pool_here", "_law_many"] spDraw := ok_draw D.F Z.int Z.divmod
  refine F.ok scOdA (fun vs H Q E h => ?_) (fun cdv A outer s H vs Q E hr h => ?_)
  · obtain ⟨p, rfl, _⟩ := h
    rfl
  · obtain ⟨p, rfl, hp, k⟩ := h
    refine ⟨_, pss_cons (ps_set (i := 1) scOdA.nd rfl (.inl rfl) (pe_call G hr rfl D.g D.kp D.b .nil pass0 (pa_cons (pv 0) (pa_cons pe_int pa_nil))))
      (pss_cons (ps_if (pt_cmpR op_lt (pv 1) pe_int (nomark _)) (pss_one (ps_ret (pe_ix ix_list (pe_lst (pa_cons pe_non (pa_cons pe_bl (pa_cons pe_bl (pa_cons pe_int (pa_cons pe_int (pa_cons (pe_un un_neg pe_int) (pa_cons pe_int (pa_cons pe_int (pa_cons pe_int (pa_cons (pe_op op_pow pe_int pe_int) (pa_cons (pe_un un_neg (pe_op op_pow pe_int pe_int)) pa_nil)))))))))))) (pv 1) (fun _ _ => rfl)))) pss_nil)
      (pss_cons (ps_if (pt_cmpR op_lt (pv 1) pe_int (nomark _)) (pss_one (ps_ret (pe_ix ix_list (pe_lst (pa_cons pe_str (pa_cons pe_str (pa_cons pe_str (pa_cons pe_str (pa_cons pe_str (pa_cons pe_str (pa_cons pe_str (pa_cons pe_str pa_nil))))))))) (pe_op op_sub (pv 1) pe_int) (fun _ _ => rfl)))) pss_nil)
      (pss_cons (ps_if (pt_cmpR op_lt (pv 1) pe_int (nomark _)) (pss_one (ps_ret (pe_ix ix_list (pe_lst (pa_cons (pe_lst pa_nil) (pa_cons (pe_lst (pa_cons pe_str pa_nil)) (pa_cons pe_dnewK (pa_cons (pe_disp (pps_cons pe_str pe_int pps_nil) (by rfl) (by rfl) (fun z => by cases z) (by decide)) pa_nil))))) (pe_op op_sub (pv 1) pe_int) (fun _ _ => rfl)))) pss_nil)
      (pss_one (ps_ret (pe_ix ix_list (pe_lst (pa_cons (pe_tup pa_nil) (pa_cons (pe_tup (pa_cons pe_str pa_nil)) (pa_cons (pe_tup (pa_cons pe_int (pa_cons pe_int pa_nil))) (pa_cons (pe_tup (pa_cons (pe_lst pa_nil) (pa_cons (pe_disp (pps_cons pe_str (pe_tup (pa_cons pe_int (pa_cons (pe_lst pa_nil) pa_nil))) pps_nil) (by rfl) (by rfl) (fun z => by cases z) (by decide)) pa_nil))) pa_nil))))) (pe_op op_sub (pv 1) pe_int) (fun _ _ => rfl))))))), ?_⟩
    have pw : CPow 10 38 := by refine ⟨?_, ?_, ?_⟩ <;> decide
    refine ⟨_, rfl, p, _, rfl, by decide, by decide, hp, fun d H1 d0 d1 hp1 b1 => ?_⟩
    obtain ⟨j, rfl, j1⟩ := int_lt d0 d1
    have nil : ∀ {H' : Hp}, ∀ x ∈ ([] : List V), Val p H' x := fun x hx => nomatch hx
    have vc : ∀ {H' : Hp} {y : V} {ys : List V}, Val p H' y → (∀ x ∈ ys, Val p H' x) → ∀ x ∈ y :: ys, Val p H' x := fun h1 h2 x hx => by
      rcases List.mem_cons.mp hx with rfl | hx
      · exact h1
      · exact h2 x hx
    have fin : ∀ {H' : Hp} {L : Addr} {xs : List V} {i : Int} {n : Nat}, H' L = some (.lst xs) → i = (n : Int) → n < xs.length → (∀ x ∈ xs, Val p H' x) → PoolAt H' p → But p H H' → rIxL K (.ref L) (.int i) H' Q := fun {H' L xs i n} hL ei hn hv hp' hb' => by
      subst ei
      obtain ⟨x, hx⟩ : ∃ x, xs[n]? = some x := ⟨_, List.getElem?_eq_getElem hn⟩
      exact ⟨L, xs, _, x, rfl, rfl, SqL.of hL, atI_nat hx, let ⟨dd, hd⟩ := hv x (List.mem_of_getElem? hx)
      k x dd H' hd hp' hb'⟩
    refine ⟨_, rfl, _, _, rfl, rfl, _, rfl, ite2 (fun q => ?_) (fun q => ?_)⟩
    · have q' : j < 11 := by have := of_decide_eq_true q; omega
      refine ⟨_, rfl, _, _, rfl, rfl, pw, _, _, rfl, rfl, pw, _, rfl, (by show 11 ≤ sizeLine; decide), fun L hL => ⟨_, rfl, ?_⟩⟩
      have nL := hp1.ne hL
      refine fin upd_same rfl (by show j < 11; exact q') (vc .non (vc (.bl _) (vc (.bl _) (vc (.int ?_) (vc (.int ?_) (vc (.int ?_) (vc (.int ?_) (vc (.int ?_) (vc (.int ?_) (vc (.int ?_) (vc (.int ?_) nil))))))))))) (hp1.put nL) (b1.upd hL)
      all_goals decide +kernel
    have q1 : 11 ≤ j := by
      have z : ¬ ((j : Int) < 11) := fun z => q (decide_eq_true z)
      omega
    refine ⟨_, rfl, _, _, rfl, rfl, _, rfl, ite2 (fun r => ?_) (fun r => ?_)⟩
    · have r' : j < 19 := by have := of_decide_eq_true r; omega
      refine ⟨(by show 8 ≤ sizeLine; decide), fun L hL => ⟨_, rfl, _, _, rfl, rfl, ?_⟩⟩
      have nL := hp1.ne hL
      refine fin (n := j - 11) upd_same (by omega) (by show j - 11 < 8; omega) ?_ (hp1.put nL) (b1.upd hL)
      refine vc (Val.lit [] ?_ (by decide) (by decide)) (vc (Val.lit [97] ?_ (by decide) (by decide)) (vc (Val.lit [97, 98] ?_ (by decide) (by decide)) (vc (Val.lit [65] ?_ (by decide) (by decide)) (vc (Val.lit [97, 32, 98] ?_ (by decide) (by decide)) (vc (Val.lit [97, 97] ?_ (by decide) (by decide)) (vc (Val.lit [97, 10] ?_ (by decide) (by decide)) (vc (Val.lit [97, 98, 99, 100, 101] ?_ (by decide) (by decide)) nil))))))) <;> decide +kernel
    have r1 : 19 ≤ j := by
      have z : ¬ ((j : Int) < 19) := fun z => r (decide_eq_true z)
      omega
    refine ⟨_, rfl, _, _, rfl, rfl, _, rfl, ite2 (fun u => ?_) (fun u => ?_)⟩
    · have u' : j < 23 := by have := of_decide_eq_true u; omega
      refine ⟨(by show 0 ≤ sizeLine; decide), fun a ha => ⟨(by show 1 ≤ sizeLine; decide), fun b hb => fun c hc => fun d hd => ⟨upd_same, [(Sum.inr "a", .int 1)], rfl, by decide, (by show 4 ≤ sizeLine; decide), fun L hL => ⟨_, rfl, _, _, rfl, rfl, ?_⟩⟩⟩⟩
      have na := hp1.ne ha
      have p2 := hp1.put (o := .lst []) na
      have nb := p2.ne hb
      have p3 := p2.put (o := .lst [.str "a"]) nb
      have nc := p3.ne hc
      have p4 := p3.put (o := .dK []) nc
      have nd := p4.ne hd
      have p5 := (p4.put (o := .dK []) nd).put (o := .dK (mergeK [] [(Sum.inr "a", .int 1)])) nd
      have nL := p5.ne hL
      have d1 := ((((But.refl p _).upd (o := .lst []) ha).upd (o := .lst [.str "a"]) hb).upd (o := .dK []) hc).free hd nd
      have fa := keepA (u := .lst [.ref a, .ref b, .ref c, .ref d]) ((upd_ne (o := .dK (mergeK [] [(Sum.inr "a", .int 1)])) (ne_of_none (keepA (u := .dK []) (keepA (u := .lst [.str "a"]) upd_same hb) hc) hd)).trans (keepA (u := .dK []) (keepA (u := .dK []) (keepA (u := .lst [.str "a"]) (upd_same (o := .lst [])) hb) hc) hd)) hL
      have fb := keepA (u := .lst [.ref a, .ref b, .ref c, .ref d]) ((upd_ne (o := .dK (mergeK [] [(Sum.inr "a", .int 1)])) (ne_of_none (keepA (u := .dK []) upd_same hc) hd)).trans (keepA (u := .dK []) (keepA (u := .dK []) (upd_same (o := .lst [.str "a"])) hc) hd)) hL
      have fc := keepA (u := .lst [.ref a, .ref b, .ref c, .ref d]) ((upd_ne (o := .dK (mergeK [] [(Sum.inr "a", .int 1)])) (ne_of_none upd_same hd)).trans (keepA (u := .dK []) (upd_same (o := .dK [])) hd)) hL
      have fd' := keepA (u := .lst [.ref a, .ref b, .ref c, .ref d]) (upd_same (o := .dK (mergeK [] [(Sum.inr "a", .int 1)]))) hL
      have kH := ((((((b1.upd (o := .lst []) ha).upd (o := .lst [.str "a"]) hb).upd (o := .dK []) hc).upd (o := .dK []) hd).new (o := .dK (mergeK [] [(Sum.inr "a", .int 1)])) (b1.free d1 nd)).upd (o := .lst [.ref a, .ref b, .ref c, .ref d]) hL)
      refine fin (n := j - 19) upd_same (by omega) (by show j - 19 < 4; omega) (vc (.of ?_) (vc (.of ?_) (vc (.of ?_) (vc (.of ?_) nil)))) (p5.put nL) kH
      · exact ⟨_, .inr (.inl ⟨a, [], [], rfl, (cut_at na).trans fa, by decide, .nil, rfl⟩), by decide +kernel, by decide +kernel⟩
      · exact ⟨_, .inr (.inl ⟨b, [.str "a"], [_], rfl, (cut_at nb).trans fb, by decide, .cons (.inl (.str _)) .nil, rfl⟩), by decide +kernel, by decide +kernel⟩
      · exact ⟨_, .inr (.inr (.inr ⟨c, [], [], [], rfl, (cut_at nc).trans fc, .nil, rfl, by decide, .nil, rfl⟩)), by decide +kernel, by decide +kernel⟩
      · exact ⟨_, .inr (.inr (.inr ⟨d, ["a"], [.int 1], [_], rfl, (cut_at nd).trans fd', by decide, rfl, by decide, .cons (.inl (.int _)) .nil, rfl⟩)), by decide +kernel, by decide +kernel⟩
    · have u1 : 23 ≤ j := by
        have z : ¬ ((j : Int) < 23) := fun z => u (decide_eq_true z)
        omega
      refine ⟨(by show 0 ≤ sizeLine; decide), fun a ha => ⟨(by show 1 ≤ sizeLine; decide), fun b hb => ⟨(by show 2 ≤ sizeLine; decide), fun c hc => ⟨(by show 0 ≤ sizeLine; decide), fun d hd => fun e he => ⟨(by show 0 ≤ sizeLine; decide), fun f hf => ⟨(by show 2 ≤ sizeLine; decide), fun g hg => ?_⟩⟩⟩⟩⟩⟩
      have na := hp1.ne ha
      have p2 := hp1.put (o := .tup []) na
      have nb := p2.ne hb
      have p3 := p2.put (o := .tup [.str "a"]) nb
      have nc := p3.ne hc
      have p4 := p3.put (o := .tup [.int 0, .int 1]) nc
      have nd := p4.ne hd
      have p5 := p4.put (o := .lst []) nd
      have ne := p5.ne he
      have p6 := p5.put (o := .dK []) ne
      have nf := p6.ne hf
      have p7 := p6.put (o := .lst []) nf
      have ng := p7.ne hg
      have p8 := (p7.put (o := .tup [.int 1, .ref f]) ng).put (o := .dK (mergeK [] [(Sum.inr "a", .ref g)])) ne
      have eE : upd (upd (upd _ e (.dK [])) f (.lst [])) g (.tup [.int 1, .ref f]) e = some (.dK []) := keepA (keepA upd_same hf) hg
      refine ⟨eE, [(Sum.inr "a", .ref g)], rfl, (by show 1 ≤ 15; decide), (by show 2 ≤ sizeLine; decide), fun t ht => ⟨(by show 4 ≤ sizeLine; decide), fun L hL => ⟨_, rfl, _, _, rfl, rfl, ?_⟩⟩⟩
      have nt := p8.ne ht
      have p9 := p8.put (o := .tup [.ref d, .ref e]) nt
      have nL := p9.ne hL
      have e1 := (((((But.refl p _).upd (o := .tup []) ha).upd (o := .tup [.str "a"]) hb).upd (o := .tup [.int 0, .int 1]) hc).upd (o := .lst []) hd).free he ne
      have kH := ((((((((((b1.upd (o := .tup []) ha).upd (o := .tup [.str "a"]) hb).upd (o := .tup [.int 0, .int 1]) hc).upd (o := .lst []) hd).upd (o := .dK []) he).upd (o := .lst []) hf).upd (o := .tup [.int 1, .ref f]) hg).new (o := .dK (mergeK [] [(Sum.inr "a", .ref g)])) (b1.free e1 ne)).upd (o := .tup [.ref d, .ref e]) ht)).upd (o := .lst [.ref a, .ref b, .ref c, .ref t]) hL
      have ef := ne_of_none (upd_same (o := .dK [])) hf
      have eg := ne_of_none (keepA (u := .lst []) (upd_same (o := .dK [])) hf) hg
      have xa := keep5 (u6 := .lst [.ref a, .ref b, .ref c, .ref t]) (keepA (u := .lst []) (keepA (u := .tup [.int 0, .int 1]) (keepA (u := .tup [.str "a"]) (upd_same (o := .tup [])) hb) hc) hd) he hf hg ht hL
      have xb := keep5 (u6 := .lst [.ref a, .ref b, .ref c, .ref t]) (keepA (u := .lst []) (keepA (u := .tup [.int 0, .int 1]) (upd_same (o := .tup [.str "a"])) hc) hd) he hf hg ht hL
      have xc := keep5 (u6 := .lst [.ref a, .ref b, .ref c, .ref t]) (keepA (u := .lst []) (upd_same (o := .tup [.int 0, .int 1])) hd) he hf hg ht hL
      have xd := keep5 (u6 := .lst [.ref a, .ref b, .ref c, .ref t]) (upd_same (o := .lst [])) he hf hg ht hL
      have xe := keepA (u := .lst [.ref a, .ref b, .ref c, .ref t]) (keepA (u := .tup [.ref d, .ref e]) (upd_same (o := .dK (mergeK [] [(Sum.inr "a", .ref g)]))) ht) hL
      have xf := keepA (u := .lst [.ref a, .ref b, .ref c, .ref t]) (keepA (u := .tup [.ref d, .ref e]) ((upd_ne (o := .dK (mergeK [] [(Sum.inr "a", .ref g)])) ef.symm).trans (keepA (u := .tup [.int 1, .ref f]) (upd_same (o := .lst [])) hg)) ht) hL
      have xg := keepA (u := .lst [.ref a, .ref b, .ref c, .ref t]) (keepA (u := .tup [.ref d, .ref e]) ((upd_ne (o := .dK (mergeK [] [(Sum.inr "a", .ref g)])) eg.symm).trans (upd_same (o := .tup [.int 1, .ref f]))) ht) hL
      have xt := keepA (u := .lst [.ref a, .ref b, .ref c, .ref t]) (upd_same (o := .tup [.ref d, .ref e])) hL
      refine fin (n := j - 23) upd_same (by omega) (by show j - 23 < 4; omega) (vc (.of ?_) (vc (.of ?_) (vc (.of ?_) (vc (.of ?_) nil)))) (p9.put nL) kH
      · exact ⟨_, .inr (.inr (.inl ⟨a, [], [], rfl, (cut_at na).trans xa, by decide, .nil, rfl⟩)), by decide +kernel, by decide +kernel⟩
      · exact ⟨_, .inr (.inr (.inl ⟨b, [.str "a"], [_], rfl, (cut_at nb).trans xb, by decide, .cons (.inl (.str _)) .nil, rfl⟩)), by decide +kernel, by decide +kernel⟩
      · exact ⟨_, .inr (.inr (.inl ⟨c, [.int 0, .int 1], [_, _], rfl, (cut_at nc).trans xc, by decide, .cons (.inl (.int _)) (.cons (.inl (.int _)) .nil), rfl⟩)), by decide +kernel, by decide +kernel⟩
      · exact ⟨_, .inr (.inr (.inl ⟨t, [.ref d, .ref e], [_, _], rfl, (cut_at nt).trans xt, (by show 2 ≤ 1000; decide), .cons (.inr (.inl ⟨d, [], [], rfl, (cut_at nd).trans xd, by decide, .nil, rfl⟩)) (.cons (.inr (.inr (.inr ⟨e, ["a"], [.ref g], [_], rfl, (cut_at ne).trans xe, by decide, rfl, (by show 1 ≤ 1000; decide),
          .cons (.inr (.inr (.inl ⟨g, [.int 1, .ref f], [_, _], rfl, (cut_at eg.symm).trans ((cut_at ng).trans xg), (by show 2 ≤ 1000; decide), .cons (.inl (.int _)) (.cons (.inr (.inl ⟨f, [], [], rfl, (cut_at ef.symm).trans ((cut_at nf).trans xf), by decide, .nil, rfl⟩)) .nil), rfl⟩))) .nil, rfl⟩))) .nil), rfl⟩)), by decide +kernel, by decide +kernel⟩
end
end Wb
/-! laws of kinds over the base of the loops (out of k10's texts): _law_every, _law_couples, _law_along -/
namespace Wb
open PySem L2 WbMin WbO WbS WbT Lz
theorem perm_map {α β : Type} (f : α → β) : ∀ {xs ys : List β}, xs.Perm ys → ∀ l : List α, xs = l.map f → ∃ l', l.Perm l' ∧ ys = l'.map f
  | _, _, .nil, l, e => ⟨l, .refl _, e⟩
  | _, _, .cons x p, l, e => by
    cases l with
    | nil => cases e
    | cons a l =>
      injection e with e1 e2
      obtain ⟨l', q, e'⟩ := perm_map f p l e2
      exact ⟨a :: l', q.cons a, by rw [e', e1] <;> rfl⟩
  | _, _, .swap x y r, l, e => by
    cases l with
    | nil => cases e
    | cons a l =>
      injection e with e1 e2
      cases l with
      | nil => cases e2
      | cons b l =>
        injection e2 with e2 e3
        exact ⟨b :: a :: l, .swap _ _ _, by rw [e1, e2, e3] <;> rfl⟩
  | _, _, .trans p q, l, e => by
    obtain ⟨l1, p1, e1⟩ := perm_map f p l e
    obtain ⟨l2, p2, e2⟩ := perm_map f q l1 e1
    exact ⟨l2, p1.trans p2, e2⟩
theorem strs_no_ints {q : List Str} : ∀ x y z : Int, q.map V.str ≠ [.int x, .int y, .int z] := fun x y z e => by
  cases q with
  | nil => cases e
  | cons a q =>
    injection e with e _
    cases e
/-! ## k10 WbL1.lean -/
abbrev sEvery : Stmt := top 44
abbrev sCouples : Stmt := top 45
theorem allP_len (sg : List Nat) : (allP sg).length = sg.length * sg.length := by
  unfold allP
  rw [List.length_flatMap, show (sg.map fun a => (sg.map fun b => S [a, b]).length) = List.replicate sg.length sg.length from List.map_eq_replicate_iff.mpr fun _ _ => List.length_map .., List.sum_replicate_nat]
theorem prs_of {sg : List Nat} {ps : List Str} (G : Sgs sg) (nd : ps.Nodup) (sub : ∀ z ∈ ps, z ∈ allP sg) : Prs sg ps := by
  refine ⟨fun z hz => allP_mem.mp (sub z hz), nd, ?_⟩
  have h1 := few_of_sub (allP sg) ps nd sub
  rw [allP_len] at h1
  exact Nat.le_trans h1 (Nat.le_trans (Nat.mul_le_mul G.few G.few) (by decide))
def spEvery : Sp := fun vs H Q _ => ∃ (sg : List Nat), vs = [.str (S sg)] ∧ sg.length ≤ 4 ∧ ∀ (a : Addr) (H' : Hp), H' a = some (.lst ((allP sg).map V.str)) → H a = none → Same H H' → Q (.ref a) H'
def spCouples : Sp := fun vs H Q _ => ∃ (p : Addr) (sg : List Nat), vs = [.ref p, .str (S sg)] ∧ Sgs sg ∧ PoolAt H p ∧ ∀ (a : Addr) (ps : List Str) (H' : Hp), H' a = some (.lst (ps.map V.str)) → a ≠ p → Prs sg ps → PoolAt H' p → But p H H' → Q (.ref a) H'
section
variable {P : Program} {w : World} {K : PySem.W.Frag} {mg : Str → Option Value} {base : Heap} {f fD fE fS : Addr} {fd fdD dE dS : FuncData}
theorem scEv : FnScope ["_law_abc", "_law_found", "_law_near", "_law_far"] ["_law_abc"] (defScope sEvery) := ⟨rfl, rfl, rfl, by decide +kernel, rfl, by decide +kernel, by decide +kernel⟩
set_option maxHeartbeats 0 in
theorem ok_every (F : Fun K "_law_every" "_law_every" sEvery f fd) : FnOk P w K mg base CX0 1 f fd ["_law_abc"] spEvery := by
  refine F.ok scEv (fun vs H Q E h => ?_) (fun cdv A outer s H vs Q E hr h => ?_)
  · obtain ⟨sg, rfl, _⟩ := h
    rfl
  · obtain ⟨sg, rfl, few, k⟩ := h
    refine ⟨_, pss_cons (ps_set (i := 1) scEv.nd rfl (.inl rfl) (pe_lst pa_nil))
      (pss_cons (ps_for PassesOwn.never rfl (pi_str (pv 0)) (pg_name (i := 2) scEv.nd rfl (.inr rfl))
        (pss_one (ps_set (i := 1) scEv.nd rfl (.inl rfl) (pe_op op_cat (pv 1) (pe_lc (own := [("_law_far", 3)]) (g := gName 3) (tt := tYes) rfl scEv.nd (pi_str (pv 0)) (blkOk_by (N := ["_law_abc", "_law_found", "_law_near", "_law_far"]) (sc := defScope sEvery) (by decide +kernel)) (fun _ _ _ _ _ => pg_name (i := 3) scEv.nd rfl (.inl rfl)) (fun _ _ _ _ _ => pts_nil)
          (fun _ _ _ _ _ => pe_op op_add_str (pv 2) (pv 3)))))))
      (pss_one (ps_ret (pv 1)))), ?_⟩
    refine ⟨(by show 0 ≤ sizeLine; decide), fun L0 hL0 => ?_⟩
    refine ⟨_, rfl, _, rfl, for_it walk_str (fun i σ H' => ∃ (L : Addr) (v2 v3 : Option V), σ = [some (.str (S sg)), some (.ref L), v2, v3] ∧ H' L = some (.lst (((sg.take i).flatMap fun a => sg.map fun b => S [a, b]).map V.str)) ∧ H L = none ∧ Same H H')
      ⟨L0, none, none, rfl, upd_same, hL0, Same.put (Same.refl H) hL0⟩ (fun _ _ _ _ _ => trivial) ?_ ?_⟩
    · rintro i x σ H2 H2' hi ⟨L, v2, v3, rfl, h1, hL, s2⟩ ⟨rfl, c, hc, rfl⟩
      have hc' : sg[i]? = some c := by simpa [S] using hc
      rw [S_size] at hi
      have len : ((sg.take i).flatMap fun a => sg.map fun b => S [a, b]).length ≤ 16 := by
        have e : ((sg.take i).flatMap fun a => sg.map fun b => S [a, b]).length = (sg.take i).length * sg.length := by
          rw [List.length_flatMap, show ((sg.take i).map fun a => (sg.map fun b => S [a, b]).length) = List.replicate (sg.take i).length sg.length from List.map_eq_replicate_iff.mpr fun _ _ => List.length_map ..  , List.sum_replicate_nat]
        rw [e]
        exact Nat.le_trans (Nat.mul_le_mul (by rw [List.length_take]; omega : (sg.take i).length ≤ 4) few) (by decide)
      refine ⟨_, rfl, _, rfl, _, rfl, fun D hD => lc_it walk_str (fun j H3 => H3 D = some (.lst (((sg.take j).map fun b => S [c, b]).map V.str)) ∧ Same H2' H3) ⟨upd_same, Same.put (Same.refl _) hD⟩ (fun _ _ _ _ => trivial) ?_ ?_⟩
      · rintro j y H3 H3' hj ⟨e1, e2⟩ ⟨rfl, d, hd, rfl⟩
        have hd' : sg[j]? = some d := by simpa [S] using hd
        refine ⟨rfl, _, rfl, _, rfl, _, _, rfl, rfl, (by show 1 + 1 ≤ sizeLine; decide), _, e1, ?_, ?_, Same.new' e2 hD⟩
        · rw [List.length_map, List.length_map, sizeLine_eq]
          have := List.length_take_le' j sg
          omega
        · rw [upd_same, take_more hd']
          refine congrArg (fun q => some (HO.lst q)) ?_
          simp only [List.map_append, List.map_cons, List.map_nil]
          rfl
      · rintro H3 ⟨e1, e2⟩
        rw [S_size, List.take_length] at e1
        refine ⟨L, D, _, _, rfl, rfl, e2 _ _ h1, e1, ?_, fun M hM => ⟨M, _, _, rfl, ?_, ?_, Same.put (s2.trans e2) hM⟩⟩
        · rw [List.length_map, List.length_map, List.length_map, sizeLine_eq]
          omega
        · rw [upd_same, take_more hc', List.flatMap_append, List.map_append]
          simp
        · cases e : H M with
          | none => rfl
          | some o =>
            rw [e2 _ _ (s2 _ _ e)] at hM
            cases hM
    · rintro σ H2 ⟨L, v2, v3, rfl, h1, hL, s2⟩
      rw [S_size, List.take_length] at h1
      exact ⟨_, rfl, k L H2 h1 hL s2⟩
end
/-! ## k10 WbL2.lean -/
abbrev sAlong : Stmt := top 47
def spAlong : Sp := fun vs H Q _ => ∃ (p a : Addr) (sg U : List Nat) (ps : List Str), vs = [.ref p, .str (S sg), .ref a] ∧ Sgs sg ∧ (∀ c ∈ sg, c ∈ U) ∧ Low U ∧ H a = some (.lst (ps.map V.str)) ∧ a ≠ p ∧ (∀ z ∈ ps, PairOf U z) ∧ ps.length ≤ 32 ∧ PoolAt H p ∧ ∀ (l : List Nat) (H' : Hp), (∀ c ∈ l, c ∈ U) → 0 < l.length → l.length ≤ 12 → PoolAt H' p → But p H H' → Q (.str (S l)) H'
theorem ok_one {c : Nat} (h : c < 1000) : PyData.strOk (one c) = true := by
  unfold PyData.strOk one
  rw [Array.all_eq_true]
  intro i hi
  have e : i = 0 := by
    have : i < 1 := hi
    omega
  subst e
  show decide _ = true
  simp only [decide_eq_true_eq]
  show c < _
  omega
theorem at_last {l : List Nat} (h : 0 < l.length) : atI l (-1) = some (l.getD (l.length - 1) 0) := by
  have q := at_before (l := l) (i := 0) h
  rw [Nat.zero_add, Nat.mod_eq_of_lt (by omega)] at q
  exact q
section
variable {P : Program} {w : World} {K : PySem.W.Frag} {mg : Str → Option Value} {base : Heap} {f fD fE fS : Addr} {fd fdD dE dS : FuncData}
abbrev NCo : List Str := ["_law_pool_here", "_law_abc", "_law_every_here", "_law_way", "_law_some", "_law_mate"]
theorem scCo : FnScope NCo ["_law_pool_here", "_law_abc"] (defScope sCouples) := ⟨rfl, rfl, rfl, by decide +kernel, rfl, by decide +kernel, by decide +kernel⟩
set_option maxHeartbeats 0 in
theorem ok_couples (F : Fun K "_law_couples" "_law_couples" sCouples f fd) (D : Def K mg "_law_draw" sDraw ["_law_pool_here", "_law_many"] fD fdD) (DE : Def K mg "_law_every" sEvery ["_law_abc"] fE dE) (DS : Def K mg "_law_shuffled" sShuf ["_law_pool_here", "_law_things"] fS dS) (Z : Free mg) (mL : mg "list" = none) : FnOk P w K mg base CX0 3 f fd ["_law_pool_here", "_law_abc"] spCouples := by
  have G : FnOk P w K mg base CX0 1 fD fdD ["_law_pool_here", "_law_many"] spDraw := ok_draw D.F Z.int Z.divmod
  have GE : FnOk P w K mg base CX0 1 fE dE ["_law_abc"] spEvery := ok_every DE.F
  have GS : FnOk P w K mg base CX0 2 fS dS ["_law_pool_here", "_law_things"] spShufA := ok_shufA DS.F D Z mL
  refine F.ok scCo (fun vs H Q E h => ?_) (fun cdv A outer s H vs Q E hr h => ?_)
  · obtain ⟨p, sg, rfl, _⟩ := h
    rfl
  · obtain ⟨p, sg, rfl, Gs, hp, k⟩ := h
    have hr1 : Room 1 _ := hr.mono (by decide)
    refine ⟨_, pss_cons (ps_asg (pe_tup (pa_cons (pe_call GE hr1 rfl DE.g DE.kp DE.b .nil pass0 (pa_cons (pv 1) pa_nil)) (pa_cons (pe_call G hr1 rfl D.g D.kp D.b .nil pass0 (pa_cons (pv 0) (pa_cons pe_int pa_nil))) pa_nil))) (pg_tup (by rfl) (pgs_cons (pg_name (i := 2) scCo.nd rfl (.inl rfl)) (pgs_cons (pg_name (i := 3) scCo.nd rfl (.inr rfl)) pgs_nil))))
      (pss_cons (ps_if (pt_cmpR op_lt (pv 3) pe_int (nomark _)) (pss_one (ps_ret (pe_ix ix_list (pe_lst (pa_cons (pv 2) (pa_cons (pe_lst pa_nil) pa_nil))) (pv 3) (fun _ _ => rfl)))) pss_nil)
      (pss_cons (ps_setLc (i := 4) (own := [("_law_mate", 5)]) (g := gName 5) rfl scCo.nd rfl rfl (sw_true rfl rfl rfl (by decide +kernel)) (pi_list (pv 2)) (blkOk_by (N := NCo) (sc := defScope sCouples) (by decide +kernel)) (fun _ _ _ _ _ => pg_name (i := 5) scCo.nd rfl (.inl rfl))
          (fun _ _ _ _ _ => pts_one (pt_cmpR op_lt (pe_call G hr1 rfl D.g D.kp D.b .nil pass0 (pa_cons (pv 0) (pa_cons pe_int pa_nil))) (pe_ix (show IxR _ (rIxL K) from ix_list) (pe_lst (pa_cons pe_int (pa_cons pe_int pa_nil))) (pe_callTy call_int1 (by rfl) Z.int (by decide +kernel) (pa_cons (pe_cmpR op_lt (pv 3) pe_int (nomark _)) pa_nil)) (fun _ _ => rfl)) (nomark _))) (fun _ _ _ _ _ => pv 5))
      (pss_one (ps_ret (pe_call GS hr rfl DS.g DS.kp DS.b .nil pass0 (pa_cons (pv 0) (pa_cons (pv 4) pa_nil))))))), ?_⟩
    have lenE : (allP sg).length ≤ 16 := by
      rw [allP_len]
      exact Nat.le_trans (Nat.mul_le_mul Gs.few Gs.few) (by decide)
    refine ⟨_, rfl, sg, rfl, Gs.few, fun E0 H1 hE hE0 s1 => ?_⟩
    have nE := hp.ne hE0
    have hp1 := hp.same s1
    refine ⟨_, rfl, p, _, rfl, by decide, by decide, hp1, fun d H2 d0 d1 hp2 b2 => ?_⟩
    refine ⟨(by show 2 ≤ sizeLine; decide), fun t ht => ?_⟩
    have nt := hp2.ne ht
    have hE3 : (L2.upd H2 t (.tup [.ref E0, .int d])) E0 = some (.lst ((allP sg).map V.str)) := ((But.refl p H2).upd ht) _ _ nE (b2 _ _ nE hE)
    have hp3 := hp2.put (o := .tup [.ref E0, .int d]) nt
    have b3 := ((But.of s1).trans b2).upd (o := .tup [.ref E0, .int d]) ht
    refine ⟨t, _, rfl, SqT.of upd_same, rfl, _, _, rfl, _, _, rfl, rfl, ?_⟩
    generalize (L2.upd H2 t (.tup [.ref E0, .int d])) = H3 at hE3 hp3 b3 ⊢
    refine ⟨_, rfl, _, _, rfl, rfl, _, rfl, ite2 (fun q => ?_) (fun q => ?_)⟩
    · have q' := of_decide_eq_true q
      refine ⟨_, rfl, (by show 0 ≤ sizeLine; decide), fun a0 ha0 => ⟨(by show 2 ≤ sizeLine; decide), fun L hL => ⟨_, rfl, ?_⟩⟩⟩
      have na0 := hp3.ne ha0
      have hp4 := hp3.put (o := .lst []) na0
      have nL := hp4.ne hL
      have b5 := (b3.upd (o := .lst []) ha0).upd (o := .lst [.ref E0, .ref a0]) hL
      have bE := ((But.refl p H3).upd (o := .lst []) ha0).upd (o := .lst [.ref E0, .ref a0]) hL
      have bA := (But.refl p (L2.upd H3 a0 (.lst []))).upd (o := .lst [.ref E0, .ref a0]) hL
      obtain ⟨j, rfl, j1⟩ := int_lt d0 q'
      rcases j with _ | _ | j
      · exact ⟨L, _, _, _, rfl, rfl, SqL.of upd_same, atI_nat (j := 0) rfl, k E0 (allP sg) _ (bE _ _ nE hE3) nE (prs_of Gs (pair_nd Gs.nd) fun _ h => h) (hp4.put nL) b5⟩
      · exact ⟨L, _, _, _, rfl, rfl, SqL.of upd_same, atI_nat (j := 1) rfl, k a0 [] _ (bA _ _ na0 upd_same) na0 ⟨(fun z hz => nomatch hz), List.nodup_nil, Nat.zero_le _⟩ (hp4.put nL) b5⟩
      · omega
    · refine ⟨_, rfl, E0, rfl, ⟨_, SqL.of hE3⟩, fun D0 hD => lc_it (walk_list (xs := (allP sg).map V.str)) (fun i H4 => ∃ q : List Str, H4 D0 = some (.lst (q.map V.str)) ∧ q.Sublist ((allP sg).take i) ∧ PoolAt H4 p ∧ But p H3 H4) ⟨[], upd_same, List.nil_sublist _, hp3.put (hp3.ne hD), (But.refl p H3).upd hD⟩ (fun _ _ _ h => by obtain ⟨_, _, _, _, h⟩ := h; exact SqL.of (h _ _ nE hE3)) ?_ ?_⟩
      · rintro i x H4 H4' hi ⟨q2, g1, g2, g3, g4⟩ ⟨rfl, hx⟩
        have nD := hp3.ne hD
        rw [List.getElem?_map] at hx
        obtain ⟨z, hz, rfl⟩ := Option.map_eq_some_iff.mp hx
        rw [List.length_map] at hi
        refine ⟨rfl, _, rfl, p, _, rfl, by decide, by decide, g3, fun e H5 e0 e1 hp5 b5 => ?_⟩
        refine ⟨(by show 2 ≤ sizeLine; decide), fun M hM => ?_⟩
        refine ⟨_, rfl, _, _, rfl, rfl, .inr ⟨_, rfl, ?_⟩⟩
        have nM := hp5.ne hM
        obtain ⟨y, hy⟩ : ∃ y : Int, atI [V.int 2, V.int 3] (if decide (d < 5) = true then (1 : Int) else 0) = some (.int y) := by
          split
          · exact ⟨3, atI_nat (j := 1) rfl⟩
          · exact ⟨2, atI_nat (j := 0) rfl⟩
        refine ⟨M, _, _, _, rfl, rfl, SqL.of upd_same, hy, _, _, rfl, rfl, _, rfl, ite2 (fun _ => ?_) (fun _ => ?_)⟩
        · have ql : q2.length ≤ 16 := Nat.le_trans g2.length_le (by rw [List.length_take]; omega)
          refine ⟨_, rfl, _, ((But.refl p H5).upd hM) _ _ nD (b5 _ _ nD g1), ?_, q2 ++ [z], ?_, ?_, (hp5.put nM).put nD, ((g4.trans b5).upd hM).new hD⟩
          · rw [List.length_map, sizeLine_eq]
            omega
          · rw [upd_same, List.map_append] <;> rfl
          · rw [take_more hz]
            exact g2.append (List.Sublist.refl _)
        · refine ⟨q2, ((But.refl p H5).upd hM) _ _ nD (b5 _ _ nD g1), ?_, hp5.put nM, (g4.trans b5).upd hM⟩
          rw [take_more hz]
          exact g2.trans (List.sublist_append_left _ _)
      · rintro H4 ⟨q2, g1, g2, g3, g4⟩
        rw [List.length_map, List.take_length] at g2
        have ql : q2.length ≤ 16 := Nat.le_trans g2.length_le lenE
        refine ⟨_, rfl, _, rfl, p, .ref D0, q2.map V.str, rfl, .lst g1 strs_no_ints, by rw [List.length_map]; omega, g3, fun a ys0 H6 h6 na pm0 hp6 b6 => ?_⟩
        obtain ⟨ys, pm, rfl⟩ := perm_map V.str pm0.symm q2 rfl
        have pm := pm.symm
        exact k a ys H6 h6 na (prs_of Gs (pm.nodup_iff.mpr (g2.nodup (pair_nd Gs.nd))) fun z hz => g2.subset (pm.mem_iff.mp hz)) hp6 ((b3.trans g4).trans b6)
abbrev NAl : List Str := ["_law_pool_here", "_law_abc", "_law_some", "_law_word", "_law_turn", "_law_later", "_law_mate"]
theorem scAlg : FnScope NAl ["_law_pool_here", "_law_abc", "_law_some"] (defScope sAlong) := ⟨rfl, rfl, rfl, by decide +kernel, rfl, by decide +kernel, by decide +kernel⟩
set_option maxHeartbeats 0 in
theorem ok_along (F : Fun K "_law_along" "_law_along" sAlong f fd) (D : Def K mg "_law_draw" sDraw ["_law_pool_here", "_law_many"] fD fdD) (Z : Free mg) : FnOk P w K mg base CX0 2 f fd ["_law_pool_here", "_law_abc", "_law_some"] spAlong := by
  have G : FnOk P w K mg base CX0 1 fD fdD ["_law_pool_here", "_law_many"] spDraw := ok_draw D.F Z.int Z.divmod
  refine F.ok scAlg (fun vs H Q E h => ?_) (fun cdv A outer s H vs Q E hr h => ?_)
  · obtain ⟨p, a, sg, U, ps, rfl, _⟩ := h
    rfl
  · obtain ⟨p, a, sg, U, ps, rfl, Gs, sU, lowU, ha, na, G', pf, hp, k⟩ := h
    refine ⟨_, pss_cons (ps_set (i := 3) scAlg.nd rfl (.inr rfl) (pe_ix ix_str (pv 1) (pe_call G hr rfl D.g D.kp D.b .nil pass0 (pa_cons (pv 0) (pa_cons (pe_callB call_len_str (by rfl) Z.len PySem.boot_len (pa_cons (pv 1) pa_nil)) pa_nil))) (fun _ _ => rfl)))
      (pss_cons (ps_for PassesOwn.never rfl (pi_range1 rfl Z.range (pa_cons (pe_call G hr rfl D.g D.kp D.b .nil pass0 (pa_cons (pv 0) (pa_cons pe_int pa_nil))) pa_nil)) (pg_name (i := 4) scAlg.nd rfl (.inl rfl))
        (pss_cons (ps_setLc (i := 5) (own := [("_law_mate", 6)]) (g := gName 6) rfl scAlg.nd rfl rfl (sw_true rfl rfl rfl (by decide +kernel)) (pi_list (pv 2)) (blkOk_by (N := NAl) (sc := defScope sAlong) (by decide +kernel)) (fun _ _ _ _ _ => pg_name (i := 6) scAlg.nd rfl (.inl rfl))
          (fun _ _ _ _ _ => pts_one (pt_cmpR op_eq (pe_ix ix_str (pv 6) pe_int (fun _ _ => rfl)) (pe_ix ix_str (pv 3) (pe_un un_neg pe_int) (fun _ _ => rfl)) (nomark _))) (fun _ _ _ _ _ => pe_ix ix_str (pv 6) pe_int (fun _ _ => rfl)))
        (pss_cons (ps_if (pt_cmpR (op_eqD hr.units) (pv 5) (pe_lst pa_nil) (nomark _)) (pss_one (ps_ret (pv 3))) pss_nil)
        (pss_one (ps_set (i := 3) scAlg.nd rfl (.inr rfl) (pe_op op_add_str (pv 3) (pe_ix ix_list (pv 5) (pe_call G hr rfl D.g D.kp D.b .nil pass0 (pa_cons (pv 0) (pa_cons (pe_callB call_len_seq (by rfl) Z.len PySem.boot_len (pa_cons (pv 5) pa_nil)) pa_nil))) (fun _ _ => rfl))))))))
      (pss_one (ps_ret (pv 3)))), ?_⟩
    have few := Gs.few
    have pos := Gs.pos
    have fs : (S sg).length ≤ sizeLine := Gs.w.fits
    refine ⟨_, rfl, _, rfl, _, rfl, _, rfl, fs, p, _, rfl, by rw [S_len]; omega, by rw [S_len]; omega, hp, fun d H1 d0 d1 hp1 b1 => ?_⟩
    rw [S_len] at d1
    obtain ⟨j, rfl, j1⟩ := int_lt d0 d1
    have hj : j < sg.length := by omega
    have hm : sg.getD j 0 ∈ U := sU _ (List.mem_of_getElem? (getD_at hj))
    refine ⟨_, _, sg.getD j 0, rfl, rfl, fs, by rw [S_cps]; exact atI_nat (getD_at hj), ?_⟩
    refine ⟨_, rfl, p, _, rfl, by decide, by decide, hp1, fun n H2 n0 n1 hp2 b2 => ?_⟩
    refine ⟨_, rfl, by omega, by omega, for_it walk_range (fun i σ H' => ∃ (l : List Nat) (v4 v5 v6 : Option V), σ = [some (.ref p), some (.str (S sg)), some (.ref a), some (.str (S l)), v4, v5, v6] ∧ (∀ c ∈ l, c ∈ U) ∧ l.length = i + 1 ∧ PoolAt H' p ∧ But p H H')
      ⟨[sg.getD j 0], none, none, none, rfl, (fun c hc => by rw [List.mem_singleton.mp hc]; exact hm), rfl, hp2, b1.trans b2⟩ (fun _ _ _ _ _ => trivial) ?_ ?_⟩
    · rintro i x σ H3 H3' hi ⟨l, v4, v5, v6, rfl, sub, ll, hp3, b3⟩ ⟨rfl, rfl⟩
      have ha3 := b3 _ _ na ha
      have fl : (S l).length ≤ sizeLine := by rw [S_len, sizeLine_eq]; omega
      have l0 : 0 < l.length := by omega
      refine ⟨_, rfl, a, rfl, ⟨_, SqL.of ha3⟩, fun D0 hD => lc_it (walk_list (xs := ps.map V.str)) (fun m H4 => ∃ q : List Nat, H4 D0 = some (.lst (q.map vOne)) ∧ (∀ c ∈ q, c ∈ U) ∧ q.length ≤ m ∧ Same H3' H4) ⟨[], upd_same, (fun c hc => nomatch hc), Nat.le_refl _, Same.put (Same.refl _) hD⟩ (fun _ _ _ h => by obtain ⟨_, _, _, _, h⟩ := h; exact SqL.of (h _ _ ha3)) ?_ ?_⟩
      · rintro m y H4 H4' hm' ⟨q, g1, g2, g3, g4⟩ ⟨rfl, hy⟩
        rw [List.getElem?_map] at hy
        obtain ⟨z, hz, rfl⟩ := Option.map_eq_some_iff.mp hy
        rw [List.length_map] at hm'
        obtain ⟨e, g, he, hg, rfl⟩ := G' z (List.mem_of_getElem? hz)
        have fit : (S [e, g]).length ≤ sizeLine := by rw [S_len, sizeLine_eq]; show 2 ≤ _; decide
        refine ⟨rfl, _, rfl, _, _, e, rfl, rfl, fit, by rw [S_cps]; exact atI_nat (j := 0) rfl, ?_⟩
        refine ⟨_, rfl, _, rfl, _, _, l.getD (l.length - 1) 0, rfl, rfl, fl, by rw [S_cps]; exact at_last l0, rfl, _, rfl, ite2 (fun _ => ?_) (fun _ => ?_)⟩
        · refine ⟨_, rfl, _, _, g, rfl, rfl, fit, by rw [S_cps]; exact atI_nat (j := 1) rfl, _, g1, ?_, q ++ [g], ?_, fun c hc => ?_, ?_, Same.new' g4 hD⟩
          · rw [List.length_map, sizeLine_eq]
            omega
          · rw [upd_same, List.map_append] <;> rfl
          · rcases List.mem_append.mp hc with hc | hc
            · exact g2 c hc
            · rw [List.mem_singleton.mp hc]
              exact hg
          · rw [List.length_append]
            show q.length + 1 ≤ m + 1
            omega
        · exact ⟨q, g1, g2, by omega, g4⟩
      · rintro H4 ⟨q, g1, g2, g3, g4⟩
        rw [List.length_map] at g3
        refine ⟨_, rfl, (by show 0 ≤ sizeLine; decide), fun M hM => ?_⟩
        have nDM : D0 ≠ M := ne_of_none g1 hM
        have g1' : H4 D0 = some (.lst ((q.map one).map V.str)) := by rw [g1, List.map_map] <;> rfl
        have s5 : Same H3' (L2.upd H4 M (.lst [])) := Same.put g4 hM
        refine ⟨_, _, .lst (SqL.of (by rw [upd_ne nDM, g1'])) (dp_strs _), .lst (SqL.of upd_same) .nil, shaped_strs fun z hz => ?_, rfl, _, rfl, ite2 (fun _ => ?_) (fun ne => ?_)⟩
        · obtain ⟨c, hc, rfl⟩ := List.mem_map.mp hz
          have := lowU c (g2 c hc)
          exact ok_one (by omega)
        · exact ⟨_, rfl, k l _ sub l0 (by omega) (hp3.same s5) (b3.trans (But.of s5))⟩
        · have q0 : 0 < q.length := by
            cases q with
            | nil => exact absurd rfl ne
            | cons c q => exact Nat.succ_pos _
          have hp5 := hp3.same s5
          have gM := (upd_ne (o := .lst []) nDM).trans g1
          have nD : D0 ≠ p := hp3.ne hD
          refine ⟨_, rfl, _, rfl, _, rfl, _, rfl, D0, _, rfl, .inl (SqL.of gM), p, _, rfl, by rw [List.length_map]; omega, by rw [List.length_map]; omega, hp5, fun e H6 e0 e1 hp6 b6 => ?_⟩
          rw [List.length_map] at e1
          obtain ⟨u, rfl, u1⟩ := int_lt e0 e1
          have hu : u < q.length := by omega
          have mu : q.getD u 0 ∈ q := List.mem_of_getElem? (getD_at hu)
          refine ⟨D0, _, _, vOne (q.getD u 0), rfl, rfl, SqL.of (b6 _ _ nD gM), ?_, _, _, rfl, rfl, ?_, ?_⟩
          · refine atI_nat ?_
            rw [List.getElem?_map, getD_at hu] <;> rfl
          · rw [S_len, sizeLine_eq]
            show l.length + 1 ≤ _
            omega
          · refine ⟨l ++ [q.getD u 0], some (.int (0 + (i : Nat))), some (.ref D0), v6, ?_, fun c hc => ?_, ?_, hp6, (b3.trans (But.of s5)).trans b6⟩
            · rw [← S_add]
              rfl
            · rcases List.mem_append.mp hc with hc | hc
              · exact sub c hc
              · rw [List.mem_singleton.mp hc]
                exact g2 _ mu
            · rw [List.length_append, ll] <;> rfl
    · rintro σ H3 ⟨l, v4, v5, v6, rfl, sub, ll, hp3, b3⟩
      exact ⟨_, rfl, k l H3 sub (by omega) (by omega) hp3 b3⟩
end
end Wb
set_option maxHeartbeats 1000000
/-! a list comprehension where an exception is being handled -/
namespace Le
open PySem PySem.Spec PyProof.Rows L2 L2H
/-- the block's context, the handled exception p pinned -/
abbrev blkH (X : Cx) (s : Shared) (H : Hp) (scope : Scope) (inner : Env) (its : List Addr) (p : Addr × Obj) : Cx := { X.blk s H scope inner its with calm := false, pn := [p] }
theorem blkH_hot {X : Cx} {s : Shared} {H : Hp} {scope : Scope} {inner : Env} {its : List Addr} {p : Addr × Obj} (hot : Hot1 X.A p) : HotC (blkH X s H scope inner its p) := ⟨p, hot, List.mem_cons_self⟩
/-- a block's invariant, the exception pinned beside -/
theorem pin_in {X : Cx} {s s1 : Shared} {H G : Hp} {scope : Scope} {inner : Env} {its : List Addr} {p : Addr × Obj} {τ : L2.St} (I : Inv (X.blk s H scope inner its) [] τ G s1)
    (at_ : s1.heap.get? p.1 = some p.2 ∧ G p.1 = none ∧ p.1 ≠ inner.locals ∧ p.1 ∉ frs X.stack ∧ ∀ v, p.2.data ≠ .cell v) : Inv (blkH X s H scope inner its p) [] τ G s1 :=
  have o := I.ok
  ⟨⟨o.mod, o.kind, o.glob, o.blt, o.above, o.inj, o.has, o.cab, (fun z => Bool.noConfusion (show false = true from z)), o.frames, o.stk, o.exf, o.bs, o.bsz, o.noex, o.exfs, o.funs, o.frf⟩, I.os, I.bare, I.base, I.loc, I.cell, I.free, I.freeC, fun q hq => by
    rw [List.mem_singleton.mp (show q ∈ [p] from by rw [List.append_nil] at hq; exact hq)]
    exact at_, I.hok, I.len⟩
/-- what the tests and the element of a block are in such a context -/
def InBlk (X : Cx) (scope : Scope) (f : Cx → Prop) : Prop := ∀ (s : Shared) (H : Hp) (C : Addr) (cl : List (Str × Addr)) (its : List Addr) (p : Addr × Obj), Hot1 X.A p → f (blkH X s H scope (compEnvC scope cl C X.env) its p)
section
/-- [elt for tg in iter if ..] while p is being handled -/
theorem pe_lcH {X : Cx} {elt tg iter : Expr} {ifs : List Expr} {scope : Scope} {own : List (Str × Nat)} {pos : Pos} {wi : TI} {g : TG} {tt : TT} {te : TE} (hc : HotC X) (hN : X.N.Nodup) (hi : PIH X tg iter wi) (ok : BlkOk X.N X.env.scope scope own)
    (hg : InBlk X scope fun Y => PG Y tg g) (ht : InBlk X scope fun Y => PTs Y ifs tt) (he : InBlk X scope fun Y => PE Y elt te) (hs : ∀ x, foldedSetIterable iter X.env x = pure x := by intro _; rfl) : PE X (.ListComp elt [⟨tg, iter, ifs, 0⟩] scope pos) (tLc wi g tt te (own.map (·.2))) := by
  refine ⟨fun pins s σ H Q I start => ?_⟩
  obtain ⟨p, hot, inP⟩ := hc
  rw [eval_ListComp]
  have free : ∀ y ∈ scope.names, y.2 = .free → ∃ c, X.env.cells.lookup y.1 = some c := fun y hy e => (ok.free y hy e).elim (fun k => I.ok.has _ (.inl k)) fun k => I.ok.has _ (.inr k)
  refine wpAny_comprehension_free (use := none) rfl hs (closure_ok free) ok.kind (fun y hy e => by rw [ok.uniq y hy, e]) (thn (hi.run pins s σ H _ I start) fun _ _ walk => thn walk fun itv s2 begun => ?_)
  obtain ⟨it, its, tn, J, G, rfl, I2, T, st2, far, rest⟩ := begun
  refine wpAny_newObj_type (newEnv_comp ?_) (by show 0 ≤ sizeLine; decide)
  obtain ⟨D, eD⟩ : ∃ D, s2.heap.objs.size = D := ⟨_, rfl⟩
  rw [eD]
  have nD : G D = none := I2.hok.fresh (Nat.le_of_eq eD)
  obtain ⟨W, ⟨m0, w0⟩, turn⟩ := rest D nD
  obtain ⟨s3, e3⟩ : ∃ s3 : Shared, ({ s2 with heap := s2.heap.push { cls := .type "list", data := .seq ([] : List Value).toArray } } : Shared) = s3 := ⟨_, rfl⟩
  rw [e3]
  have heap3 : s3.heap = s2.heap.push { cls := .type "list", data := .seq ([] : List Value).toArray } := by rw [← e3]
  have there3 : s3.heap.get? D = some { cls := .type "list", data := .seq ([] : List Value).toArray } := by
    rw [heap3, ← eD]
    exact Heap.get?_push_size _ rfl
  have I3 : Inv X pins σ (upd G D (.lst [])) s3 := by
    have z := I2.laid (t' := s2.toks) (a := D) (o := .lst []) (h' := s3.heap) (fun b o e => by rw [heap3]; exact Heap.get?_push_of_some _ e) (Nat.le_of_eq eD) ⟨Nat.zero_le _, [], 0, .nil, there3⟩
    rw [← e3] at z ⊢
    exact z
  obtain ⟨G3, eG⟩ : ∃ G3, upd G D (.lst []) = G3 := ⟨_, rfl⟩
  rw [eG] at w0 I3
  have old : ∀ b ∈ its, b < s2.heap.objs.size := fun b hb => Heap.lt_size (T.obj _ _ st2 b hb).choose_spec.1
  have far3 : ∀ b ∈ its, FpOk X pins G3 b ∧ b < s3.heap.objs.size := fun b hb => by
    have lt := old b hb
    refine ⟨⟨?_, (far b hb).2⟩, ?_⟩
    · rw [← eG, upd_ne (by rw [← eD]; exact Nat.ne_of_lt lt)]
      exact (far b hb).1
    · rw [heap3, Heap.size_push]
      exact Nat.lt_succ_of_lt lt
  have st3 : tn 0 s3.heap := T.keep _ _ _ st2 fun b _ o e => by rw [heap3]; exact Heap.get?_push_of_some _ e
  have I4 := block_start I3 ok hN far3
  have pg := hg s3 G3 s3.heap.objs.size (cellsFrom (s3.heap.objs.size + 1) scope.names (cloFrom X.env.cells scope.names [])) its p hot
  have pt := ht s3 G3 s3.heap.objs.size (cellsFrom (s3.heap.objs.size + 1) scope.names (cloFrom X.env.cells scope.names [])) its p hot
  have pe := he s3 G3 s3.heap.objs.size (cellsFrom (s3.heap.objs.size + 1) scope.names (cloFrom X.env.cells scope.names [])) its p hot
  obtain ⟨inner, eI⟩ : ∃ inner, compEnvC scope (cellsFrom (s3.heap.objs.size + 1) scope.names (cloFrom X.env.cells scope.names [])) s3.heap.objs.size X.env = inner := ⟨_, rfl⟩
  have place : inner.locals = s3.heap.objs.size := by
    rw [← eI] <;> rfl
  obtain ⟨s4, e4⟩ : ∃ s4 : Shared, ({ s3 with heap := pushCells (s3.heap.push { cls := .type "dict", data := .dict #[] }) scope.names } : Shared) = s4 := ⟨_, rfl⟩
  show codeAny (model X.prog X.w) X.A (.compStart (.ListComp elt [⟨tg, iter, ifs, 0⟩] scope pos) 0 (.ref it) (.ref D) (compEnvC scope (cellsFrom (s3.heap.objs.size + 1) scope.names (cloFrom X.env.cells scope.names [])) s3.heap.objs.size X.env)) (compPost (model X.prog X.w) X.A X.xe none (EP X pins σ Q) (.ref D) s3.heap.objs.size) { s3 with heap := pushCells (s3.heap.push { cls := .type "dict", data := .dict #[] }) scope.names }
  rw [eI, e4]
  rw [eI, e4] at I4
  rw [eI] at pg pt pe
  have kept4 : ∀ b o, s3.heap.get? b = some o → s4.heap.get? b = some o := fun b o e => by
    rw [← e4]
    exact pushCells_keeps _ _ _ _ (Heap.get?_push_of_some _ e)
  have st4 : tn 0 s4.heap := T.keep _ _ _ st3 fun b _ o e => kept4 b o e
  obtain ⟨p1, p2, p3, p4, p5⟩ := I3.pin p (List.mem_append_left _ inP)
  have offS : p.1 ∉ frs X.stack := fun z => (List.mem_cons.mp (I3.stkSub _ z)).elim p3 p4
  have I5 : Inv (blkH X s3 G3 scope inner its p) [] (wipe σ (own.map (·.2))) G3 s4 := pin_in I4 ⟨kept4 _ _ p1, p2, by rw [place]; exact Nat.ne_of_lt (Heap.lt_size p1), offS, p5⟩
  have apartP : ∀ b ∈ its, p.1 ≠ b := fun b hb => (far3 b hb).1.2.2.2.2.2 p (List.mem_append_left _ inP)
  have noIts : ∀ b ∈ its, G3 b = none := fun b hb => (far3 b hb).1.1
  have stand : ∀ {τ : L2.St} {G' : Hp} {s' : Shared}, Inv (blkH X s3 G3 scope inner its p) [] τ G' s' → (∀ b ∈ its, G' b = none) → ∀ b ∈ its, FpOk (blkH X s3 G3 scope inner its p) [] G' b := fun {τ G' s'} I' n b hb =>
    ⟨n b hb, (I'.ok.exf b hb).1, I'.ok.exfs b hb, .inl hb, fun x c e => (I'.ok.exf b hb).2 x c e, fun q hq => by
      rw [List.mem_singleton.mp (show q ∈ [p] from by rw [List.append_nil] at hq; exact hq)]
      exact apartP b hb⟩
  have hotB : HotC (blkH X s3 G3 scope inner its p) := blkH_hot hot
  have loop : codeAny (model X.prog X.w) X.A (.compLoop (.ListComp elt [⟨tg, iter, ifs, 0⟩] scope pos) 0 (.ref it) (.ref D) inner) (compPost (model X.prog X.w) X.A X.xe none (EP X pins σ Q) (.ref D) s3.heap.objs.size) s4 := by
    refine compLoop_any (fun n s' => ∃ i G', Inv (blkH X s3 G3 scope inner its p) [] (wipe σ (own.map (·.2))) G' s' ∧ tn i s'.heap ∧ (∀ b ∈ its, G' b = none) ∧ W i n G') ?_ m0 ⟨0, G3, I5, st4, noIts, w0⟩
    rintro n s5 ⟨i, G5, I6, st5, n5, w5⟩
    rcases turn i n G5 w5 with ⟨stop, goal⟩ | ⟨go, Nx, next, step⟩
    · refine thnF (T.done (blkH X s3 G3 scope inner its p) rfl rfl rfl hotB i [] s5 _ G5 (fun _ _ => False) I6 (stand I6 n5) st5 stop) fun r s6 ⟨hr, I7⟩ => ?_
      subst hr
      have I8 : Inv X pins σ G5 s6 := I3.call' (ch := its) I7.os I7.base I7.hok I7.bare fun b hb => ⟨(far3 b hb).1.2.2.2.1, (far3 b hb).1.2.1, (far3 b hb).1.2.2.2.2.1, (far3 b hb).1.2.2.2.2.2⟩
      have nC : G5 s3.heap.objs.size = none := by
        rw [← place]
        exact I7.free
      obtain ⟨m, ns, _⟩ := I7.loc
      have ns' : s6.heap.Ns s3.heap.objs.size m := by
        rw [← place]
        exact ns
      obtain ⟨f0, f1, f2, f3, f4, f5⟩ := I3.fpOk (H' := G5) (Nat.le_refl _) nC
      exact ⟨m, ns', fun h'' sb => ⟨.ref D, G5, I8.turned (t' := s6.toks) (fun b o hb e => (sb.2 b hb).trans e) f0 f1 f3 f4 f5, rfl, goal⟩⟩
    · refine thnF (T.item (blkH X s3 G3 scope inner its p) rfl rfl rfl hotB i [] s5 _ G5 (fun _ _ => False) I6 (stand I6 n5) st5 go) fun r s6 ⟨u, hr, drawn⟩ => ?_
      subst hr
      refine thnF drawn fun _ s7 ⟨x, G7, I7, r7, y7, st7, n7⟩ => ?_
      have I7p := I7.pinned (stand I7 n7) (T.obj _ _ st7)
      refine thnF (pg.run _ s7 _ G7 x u _ I7p r7 (step x G7 y7)) fun _ s8 ⟨σ8, G8, I8, same8, q8⟩ => ?_
      refine thnF (pt.run _ s8 σ8 G8 _ I8 q8) fun b s9 ⟨G9, I9, q9⟩ => ?_
      have done : ∀ {s' : Shared} {G' : Hp}, Inv (blkH X s3 G3 scope inner its p) ([] ++ pinsAt its s7.heap) σ8 G' s' → Nx G' → ∃ m, m < n ∧ ∃ i G', Inv (blkH X s3 G3 scope inner its p) [] (wipe σ (own.map (·.2))) G' s' ∧ tn i s'.heap ∧ (∀ b ∈ its, G' b = none) ∧ W i m G' := fun {s' G'} I' nx => by
        obtain ⟨m', lt, w'⟩ := next G' nx
        have pinned : ∀ b ∈ its, ∀ o, s7.heap.get? b = some o → s'.heap.get? b = some o ∧ G' b = none := fun b hb o e =>
          have z := I'.pin (b, o) (List.mem_append_right _ (List.mem_append_right _ (mem_pinsAt hb e)))
          ⟨z.1, z.2.1⟩
        have len : (wipe σ (own.map (·.2))).length = σ8.length := by rw [← same8, wipe_length]
        refine ⟨m', lt, i + 1, G', (I'.unpinned (pins := [])).weak len (fun j v e => ?_), T.keep _ _ _ st7 fun b hb o e => (pinned b hb o e).1, fun b hb => ?_, w'⟩
        · rw [← same8] at e
          exact (wipe_some e).1
        · obtain ⟨o, e, _⟩ := T.obj _ _ st7 b hb
          exact (pinned b hb o e).2
      cases b with
      | false =>
        rw [if_neg Bool.false_ne_true] at q9 ⊢
        exact done I9 q9
      | true =>
        rw [if_pos rfl] at q9 ⊢
        refine thnF (pe.run _ s9 σ8 G9 _ I9 q9) fun z s10 ⟨yv, G10, I10, r10, acc, at10, few10, nx⟩ => ?_
        exact app_ok (X := (blkH X s3 G3 scope inner its p)) I10 at10 few10 r10 fun s11 I11 => done I11 nx
  exact codeAny_compStart_list loop (T.self X.A 0 _ _ _ st4 loop)
end
end Le
set_option maxHeartbeats 1000000
/-! walks over lists, tuples and a dict's keys while an exception is handled -/
namespace Le
open PySem PySem.Spec PyProof.Rows L2 L2H HotX
section
variable {prog : Program} {w : World} {A : Around} {E : Value → Shared → Prop} {s : Shared}
/-- a list's walk is over, an exception r being handled -/
theorem over_list {it t r : Addr} {i : Nat} {items : Array Value} {Q : Option Value → Shared → Prop} (hot : HotAt A r s.heap) (nit : r ≠ it) (a : s.heap.IsListIter it t i) (b : s.heap.IsList t items) (e : items[i]? = none)
    (q : ∀ h', Heap.ExtBut it s.heap h' → Q none { s with heap := h' }) : wpAny (model prog w) A (pyNext (.ref it)) Q E s := by
  obtain ⟨ob, g, _, dd⟩ := id a
  obtain ⟨_, gt, _, _, dt⟩ := b
  obtain ⟨hh, o1, vs1, g1, d1, c1⟩ := hot
  unfold pyNext
  refine wpAny_bind (wpAny_attempt (wpAny_callSpecial?_slot (name := Str.ofString "__next__") a.typeIs slot_listiter_next (wpAny_call_entry slot_listiter_next a.typeIs entry_listiter_next ?_ (args_listiter_next _))))
  show wpAny _ _ (field (.ref it) 0 >>= _) _ _ s ; refine wpAny_bind (wpAny_field g dd (x := .ref t) rfl ?_)
  show wpAny _ _ (if (Value.ref t == Value.none) = true then _ else _) _ _ s ; rw [if_neg (by simp)]
  show wpAny _ _ (field (.ref it) 1 >>= _) _ _ s ; refine wpAny_bind (wpAny_field g dd (x := .int i 0) rfl ?_)
  show wpAny _ _ (seqItems? (.ref t) >>= _) _ _ s ; refine wpAny_bind (wpAny_seqItems gt dt ?_)
  simp only [Int.toNat_natCast, e]
  refine wpAny_bind (wpAny_rule (wpAny_bind (wpAny_setField g dd (by simp) ?_)))
  show wpAny _ _ (newExc (.type "StopIteration") [] >>= _) _ _ _ ; refine wpAny_bind ?_ ; simp only [newExc, newTuple]
  refine wpAny_bind (wpAny_newObj_type (wpAny_bind (m := firstArgMember _ _) (wpAny_of_eq (a := Value.none) (by first | rfl | (simp only [firstArgMember]; rfl)) (wpAny_newObj_type ?_ (by size_fits)))) (by size_fits))
  have kept : ∀ {u : Obj}, s.heap.get? r = some u → (s.heap.update it (Obj.mapFields (·.setIfInBounds 0 .none))).get? r = some u := fun z => (Heap.get?_update_other _ _ (Ne.symm nit)).trans z
  have g2 := Heap.get?_push_of_some { cls := .type "tuple", data := .seq #[] } (kept g1)
  refine raiseNew_hot ⟨hh, o1, vs1, Heap.get?_push_of_some _ g2, d1, c1⟩ (Nat.ne_of_lt (Heap.lt_size g2)) (Heap.get?_push_size _ rfl) rfl (by first | (simp; done) | (simp; omega) | (simp only [Array.size_append]; simp; omega)) ?_
  refine wpAny_bind (wpAny_isInstance (T := "StopIteration") (b := true) ⟨_, Heap.get?_update_self _ (Heap.get?_push_size _ rfl) rfl, rfl⟩ isSubtype_stop (wpAny_pure (q _ fun c u nc z => ?_)))
  have z1 : (s.heap.update it (Obj.mapFields (·.setIfInBounds 0 .none))).get? c = some u := (Heap.get?_update_other _ _ (Ne.symm nc)).trans z
  have z2 := Heap.get?_push_of_some { cls := .type "tuple", data := .seq #[] } z1
  rw [Heap.get?_update_other _ _ (Nat.ne_of_gt (Heap.lt_size z2))]
  exact Heap.get?_push_of_some _ z2
/-- a tuple's walk is over, an exception r being handled -/
theorem over_tuple {it t r : Addr} {i : Nat} {items : Array Value} {Q : Option Value → Shared → Prop} (hot : HotAt A r s.heap) (nit : r ≠ it) (a : s.heap.IsTupleIter it t i) (b : s.heap.IsTuple t items) (e : items[i]? = none)
    (q : ∀ h', Heap.ExtBut it s.heap h' → Q none { s with heap := h' }) : wpAny (model prog w) A (pyNext (.ref it)) Q E s := by
  obtain ⟨ob, g, _, dd⟩ := id a
  obtain ⟨_, gt, _, _, dt⟩ := b
  obtain ⟨hh, o1, vs1, g1, d1, c1⟩ := hot
  unfold pyNext
  refine wpAny_bind (wpAny_attempt (wpAny_callSpecial?_slot (name := Str.ofString "__next__") a.typeIs F.slot_tuple_iterator_next (wpAny_call_entry F.slot_tuple_iterator_next a.typeIs F.entry_tuple_iterator_next ?_ (F.args_tuple_iterator_next_1 _))))
  show wpAny _ _ (field (.ref it) 0 >>= _) _ _ s ; refine wpAny_bind (wpAny_field g dd (x := .ref t) rfl ?_)
  show wpAny _ _ (if (Value.ref t == Value.none) = true then _ else _) _ _ s ; rw [if_neg (by simp)]
  show wpAny _ _ (field (.ref it) 1 >>= _) _ _ s ; refine wpAny_bind (wpAny_field g dd (x := .int i 0) rfl ?_)
  show wpAny _ _ (seqItems? (.ref t) >>= _) _ _ s ; refine wpAny_bind (wpAny_seqItems gt dt ?_)
  simp only [Int.toNat_natCast, e]
  refine wpAny_bind (wpAny_rule (wpAny_bind (wpAny_setField g dd (by simp) ?_)))
  show wpAny _ _ (newExc (.type "StopIteration") [] >>= _) _ _ _ ; refine wpAny_bind ?_ ; simp only [newExc, newTuple]
  refine wpAny_bind (wpAny_newObj_type (wpAny_bind (m := firstArgMember _ _) (wpAny_of_eq (a := Value.none) (by first | rfl | (simp only [firstArgMember]; rfl)) (wpAny_newObj_type ?_ (by size_fits)))) (by size_fits))
  have kept : ∀ {u : Obj}, s.heap.get? r = some u → (s.heap.update it (Obj.mapFields (·.setIfInBounds 0 .none))).get? r = some u := fun z => (Heap.get?_update_other _ _ (Ne.symm nit)).trans z
  have g2 := Heap.get?_push_of_some { cls := .type "tuple", data := .seq #[] } (kept g1)
  refine raiseNew_hot ⟨hh, o1, vs1, Heap.get?_push_of_some _ g2, d1, c1⟩ (Nat.ne_of_lt (Heap.lt_size g2)) (Heap.get?_push_size _ rfl) rfl (by first | (simp; done) | (simp; omega) | (simp only [Array.size_append]; simp; omega)) ?_
  refine wpAny_bind (wpAny_isInstance (T := "StopIteration") (b := true) ⟨_, Heap.get?_update_self _ (Heap.get?_push_size _ rfl) rfl, rfl⟩ isSubtype_stop (wpAny_pure (q _ fun c u nc z => ?_)))
  have z1 : (s.heap.update it (Obj.mapFields (·.setIfInBounds 0 .none))).get? c = some u := (Heap.get?_update_other _ _ (Ne.symm nc)).trans z
  have z2 := Heap.get?_push_of_some { cls := .type "tuple", data := .seq #[] } z1
  rw [Heap.get?_update_other _ _ (Nat.ne_of_gt (Heap.lt_size z2))]
  exact Heap.get?_push_of_some _ z2
/-- a walk over a dict's keys is over, an exception r being handled -/
theorem over_keys {it d r : Addr} {i n ep : Nat} {od : Obj} {es : Array DictEntry} {Q : Option Value → Shared → Prop} (hot : HotAt A r s.heap) (nit : r ≠ it) (a : s.heap.IsKeyIter it d i n ep) (god : s.heap.get? d = some od) (dod : od.data = .dict es ep) (many : es.size = n) (le : n ≤ i)
    (q : ∀ h', Heap.ExtBut it s.heap h' → Q none { s with heap := h' }) : wpAny (model prog w) A (pyNext (.ref it)) Q E s := by
  obtain ⟨ob, g, _, dd⟩ := id a
  obtain ⟨hh, o1, vs1, g1, d1, c1⟩ := hot
  have past : es.size ≤ i := by omega
  unfold pyNext
  refine wpAny_bind (wpAny_attempt (wpAny_callSpecial?_slot (name := Str.ofString "__next__") a.typeIs F.slot_dict_keyiterator_next (wpAny_call_entry F.slot_dict_keyiterator_next a.typeIs F.entry_dict_keyiterator_next ?_ (F.args_dict_keyiterator_next_1 _))))
  refine wpAny_bind (wpAny_pure ?_) ; refine wpAny_bind ?_ ; refine wpAny_bind ?_
  first | refine wpAny_bind (wpAny_typeNameOfWhole_keyiter a.typeIs (wpAny_pure ?_)) | refine wpAny_bind (wpAny_typeNameOf_keyiter a.typeIs (wpAny_pure ?_))
  refine wpAny_bind (wpAny_fieldsOf g dd ?_)
  simp only [show Builtin.Dict_items.ownsTuple "dict_keyiterator" = false by decide, Bool.false_eq_true, if_false]
  show wpAny _ _ (if (Value.ref d == Value.none) = true then _ else _) _ _ s ; rw [if_neg (by simp)]
  refine wpAny_bind (wpAny_pure (wpAny_bind (wpAny_dictEntries god dod ?_)))
  rw [if_neg (by rw [many] <;> simp)]
  refine wpAny_bind (wpAny_pure (wpAny_bind (wpAny_dictEpoch god dod ?_)))
  rw [if_neg (by simp)]
  refine wpAny_pure ?_ ; simp only [show ¬ ((i : Int) < 0) from by omega, if_false, Int.toNat_natCast, Array.getElem?_eq_none past] ; refine wpAny_bind ?_
  first | refine wpAny_bind (wpAny_typeNameOfWhole_keyiter a.typeIs (wpAny_pure ?_)) | refine wpAny_bind (wpAny_typeNameOf_keyiter a.typeIs (wpAny_pure ?_))
  show wpAny _ _ (setField (.ref it) 0 .none >>= _) _ _ s ; refine wpAny_bind (wpAny_setField g dd (by simp) ?_)
  show wpAny _ _ (newExc (.type "StopIteration") [] >>= _) _ _ _ ; refine wpAny_bind ?_ ; simp only [newExc, newTuple]
  refine wpAny_bind (wpAny_newObj_type (wpAny_bind (m := firstArgMember _ _) (wpAny_of_eq (a := Value.none) (by first | rfl | (simp only [firstArgMember]; rfl)) (wpAny_newObj_type ?_ (by size_fits)))) (by size_fits))
  have kept : ∀ {u : Obj}, s.heap.get? r = some u → (s.heap.update it (Obj.mapFields (·.setIfInBounds 0 .none))).get? r = some u := fun z => (Heap.get?_update_other _ _ (Ne.symm nit)).trans z
  have g2 := Heap.get?_push_of_some { cls := .type "tuple", data := .seq #[] } (kept g1)
  refine raiseNew_hot ⟨hh, o1, vs1, Heap.get?_push_of_some _ g2, d1, c1⟩ (Nat.ne_of_lt (Heap.lt_size g2)) (Heap.get?_push_size _ rfl) rfl (by first | (simp; done) | (simp; omega) | (simp only [Array.size_append]; simp; omega)) ?_
  refine wpAny_bind (wpAny_isInstance (T := "StopIteration") (b := true) ⟨_, Heap.get?_update_self _ (Heap.get?_push_size _ rfl) rfl, rfl⟩ isSubtype_stop (wpAny_pure (q _ fun c u nc z => ?_)))
  have z1 : (s.heap.update it (Obj.mapFields (·.setIfInBounds 0 .none))).get? c = some u := (Heap.get?_update_other _ _ (Ne.symm nc)).trans z
  have z2 := Heap.get?_push_of_some { cls := .type "tuple", data := .seq #[] } z1
  rw [Heap.get?_update_other _ _ (Nat.ne_of_gt (Heap.lt_size z2))]
  exact Heap.get?_push_of_some _ z2
end
theorem turn_listH {P : Program} {w : World} {K : PySem.W.Frag} {tg : Expr} (a it : Addr) : TurnH P w K tg (Itl K a) [it] it (fun i h => h.IsListIter it a i) where
  mem := List.mem_cons_self
  obj := fun i h st b hb => by
    rw [List.mem_singleton.mp hb]
    exact ⟨_, st.choose_spec.1, fun v z => by rw [st.choose_spec.2.2] at z; cases z⟩
  keep := fun i h h' st k => st.at fun o e => k it List.mem_cons_self o e
  item := by
    rintro X rfl rfl rfl _ i pins s σ H E I far st ⟨xs, x, hq, hx⟩
    obtain ⟨its, rel, place, _⟩ := I.list hq
    obtain ⟨u, hu, ru⟩ := rel.get hx
    obtain ⟨f0, f1, f2, f3, f4, f5⟩ := far it List.mem_cons_self
    refine wpAny_pyNext_list_item st (show s.heap.IsList a its.toArray from place.isList) (x := u) (by simpa using hu) fun h' st' sb => ?_
    have I1 : Inv X pins σ H { s with heap := h' } := I.turned (t' := s.toks) (fun b o hb e => (sb.2 b hb).trans e) f0 f1 f3 f4 f5
    obtain ⟨o, e, c, d⟩ := id st'
    exact ⟨u, rfl, go_of (s := { s with heap := h' }) e c d (by decide) ⟨x, H, I1, ru, ⟨rfl, fun ys hy => by rw [I.list_inj hy hq]; exact hx⟩, st', fun b hb => (far b hb).1⟩⟩
  done := by
    rintro X rfl rfl rfl ⟨p, ⟨hh, v1, e1, c1⟩, inP⟩ i pins s σ H E I far st ⟨xs, hq, hx⟩
    obtain ⟨its, rel, place, _⟩ := I.list hq
    obtain ⟨f0, f1, f2, f3, f4, f5⟩ := far it List.mem_cons_self
    have len := rel.length
    exact over_list (r := p.1) ⟨hh, p.2, v1, (I.pin p (List.mem_append_left _ inP)).1, e1, c1⟩ (f5 p (List.mem_append_left _ inP)) st (show s.heap.IsList a its.toArray from place.isList) (by simp; omega) fun h' eb => ⟨rfl, I.turned (t' := s.toks) (fun b o hb e => eb b o hb e) f0 f1 f3 f4 f5⟩
  self := fun _ _ _ _ _ st h => wpAny_pyIter_listiter st h
theorem turn_tupleH {P : Program} {w : World} {K : PySem.W.Frag} {tg : Expr} (a it : Addr) : TurnH P w K tg (Itt K a) [it] it (fun i h => h.IsTupleIter it a i) where
  mem := List.mem_cons_self
  obj := fun i h st b hb => by
    rw [List.mem_singleton.mp hb]
    exact ⟨_, st.choose_spec.1, fun v z => by rw [st.choose_spec.2.2] at z; cases z⟩
  keep := fun i h h' st k => st.at fun o e => k it List.mem_cons_self o e
  item := by
    rintro X rfl rfl rfl _ i pins s σ H E I far st ⟨xs, x, hq, hx⟩
    obtain ⟨its, rel, place, _⟩ := I.tuple hq
    obtain ⟨u, hu, ru⟩ := rel.get hx
    obtain ⟨f0, f1, f2, f3, f4, f5⟩ := far it List.mem_cons_self
    refine wpAny_pyNext_tuple_item st (show s.heap.IsTuple a its.toArray from place) (x := u) (by simpa using hu) fun h' st' sb => ?_
    have I1 : Inv X pins σ H { s with heap := h' } := I.turned (t' := s.toks) (fun b o hb e => (sb.2 b hb).trans e) f0 f1 f3 f4 f5
    obtain ⟨o, e, c, d⟩ := id st'
    exact ⟨u, rfl, go_of (s := { s with heap := h' }) e c d (by decide) ⟨x, H, I1, ru, ⟨rfl, fun ys hy => by rw [I.tuple_inj hy hq]; exact hx⟩, st', fun b hb => (far b hb).1⟩⟩
  done := by
    rintro X rfl rfl rfl ⟨p, ⟨hh, v1, e1, c1⟩, inP⟩ i pins s σ H E I far st ⟨xs, hq, hx⟩
    obtain ⟨its, rel, place, _⟩ := I.tuple hq
    obtain ⟨f0, f1, f2, f3, f4, f5⟩ := far it List.mem_cons_self
    have len := rel.length
    exact over_tuple (r := p.1) ⟨hh, p.2, v1, (I.pin p (List.mem_append_left _ inP)).1, e1, c1⟩ (f5 p (List.mem_append_left _ inP)) st (show s.heap.IsTuple a its.toArray from place) (by simp; omega) fun h' eb => ⟨rfl, I.turned (t' := s.toks) (fun b o hb e => eb b o hb e) f0 f1 f3 f4 f5⟩
  self := fun _ _ _ _ _ st h => wpAny_pyIter_tupleiter st h
theorem pi_listH {X : Cx} {tg l : Expr} {tl : TE} (hl : PE X l tl) : PIH X tg l (iList X.K tl) := by
  refine ⟨fun pins s σ H R I start => thn (hl.run pins s σ H _ I start) fun v s1 ⟨x, H1, I1, r1, a, ex, ⟨xs, hq⟩, q⟩ => ?_⟩
  subst ex
  cases r1
  obtain ⟨its, _, place, _⟩ := I1.list hq
  refine wpAny_pyIter_list (show s1.heap.IsList a its.toArray from place.isList) ⟨s1.heap.objs.size, [s1.heap.objs.size], _, _, H1, rfl, I1.kept (t' := s1.toks) fun b o e => Heap.get?_push_of_some _ e, turn_listH a _, ⟨_, Heap.get?_push_size _ rfl, rfl, rfl⟩, fun b hb => ?_, q⟩
  rw [List.mem_singleton.mp hb]
  exact I1.fpOk (Nat.le_refl _) (I1.hok.fresh (Nat.le_refl _))
theorem pi_tupleH {X : Cx} {tg l : Expr} {tl : TE} (hl : PE X l tl) : PIH X tg l (iTup X.K tl) := by
  refine ⟨fun pins s σ H R I start => thn (hl.run pins s σ H _ I start) fun v s1 ⟨x, H1, I1, r1, a, ex, ⟨xs, hq⟩, q⟩ => ?_⟩
  subst ex
  cases r1
  obtain ⟨its, _, place, _⟩ := I1.tuple hq
  refine wpAny_pyIter_tuple (show s1.heap.IsTuple a its.toArray from place) ⟨s1.heap.objs.size, [s1.heap.objs.size], _, _, H1, rfl, I1.kept (t' := s1.toks) fun b o e => Heap.get?_push_of_some _ e, turn_tupleH a _, ⟨_, Heap.get?_push_size _ rfl, rfl, rfl⟩, fun b hb => ?_, q⟩
  rw [List.mem_singleton.mp hb]
  exact I1.fpOk (Nat.le_refl _) (I1.hok.fresh (Nat.le_refl _))
end Le
/-! the face of a thing, asked where an exception is being handled -/
namespace Le
open PySem PySem.Spec PyProof.Rows L2 L2H HotX
section
variable {P : Program} {w : World} {K : PySem.W.Frag} {tg : Expr} {d : Addr} {o : Obj} {es : Array DictEntry} {ep : Nat}
theorem turn_keysH {kvs : List (Key × V)} (it : Addr) (hod : o.data = .dict es ep) : TurnH P w K tg (Itk d o kvs) [it] it (fun i h => h.IsKeyIter it d i kvs.length ep) where
  mem := List.mem_cons_self
  obj := fun i h st b hb => by
    rw [List.mem_singleton.mp hb]
    exact ⟨_, st.choose_spec.1, fun v z => by rw [st.choose_spec.2.2] at z; cases z⟩
  keep := fun i h h' st k => st.at fun oi e => k it List.mem_cons_self oi e
  item := by
    rintro X rfl rfl rfl _ i pins s σ H E I far st ⟨hd, hi⟩
    obtain ⟨f0, f1, f2, f3, f4, f5⟩ := far it List.mem_cons_self
    obtain ⟨hs, hgd, hx, es', ep', vs, hdt, hsz, kv, hm⟩ := I.frzK hd
    obtain ⟨rfl, rfl⟩ := dict_ep hod hdt
    obtain ⟨⟨k, v⟩, hkv⟩ : ∃ p, kvs[i]? = some p := ⟨kvs[i], List.getElem?_eq_getElem hi⟩
    obtain ⟨u, hu, ru⟩ := kv_get kv hkv
    have many : kvs.length = vs.length := Paired.length kv
    rw [many] at st
    refine wpAny_pyNext_dict_item st hm hu fun key h' hkey st' sb => ?_
    have I1 : Inv X pins σ H { s with heap := h' } := I.turned (t' := s.toks) (fun b ob hb e => (sb.2 b hb).trans e) f0 f1 f3 f4 f5
    obtain ⟨oi, e, c, dd⟩ := id st'
    refine ⟨key, rfl, go_of (s := { s with heap := h' }) e c dd (by decide) ⟨kV k, H, I1, relV_key (show keyIs k key = true from hkey), ⟨rfl, k, v, hkv, rfl⟩, ?_, fun b hb => (far b hb).1⟩⟩
    show h'.IsKeyIter it d (i + 1) kvs.length _ ; rw [many]
    exact st'
  done := by
    rintro X rfl rfl rfl ⟨p, ⟨hh, v1, e1, c1⟩, inP⟩ i pins s σ H E I far st ⟨hd, hi⟩
    obtain ⟨f0, f1, f2, f3, f4, f5⟩ := far it List.mem_cons_self
    obtain ⟨hs, hgd, hx, es', ep', vs, hdt, hsz, kv, hm⟩ := I.frzK hd
    obtain ⟨rfl, rfl⟩ := dict_ep hod hdt
    exact over_keys (r := p.1) ⟨hh, p.2, v1, (I.pin p (List.mem_append_left _ inP)).1, e1, c1⟩ (f5 p (List.mem_append_left _ inP)) st hgd hdt hsz hi fun h' eb => ⟨rfl, I.turned (t' := s.toks) (fun b ob hb e => eb b ob hb e) f0 f1 f3 f4 f5⟩
  self := fun A i s Q E st h => wpAny_pyIter_keyiter st h
end
theorem pi_keysH {X : Cx} {tg e : Expr} {td : TE} (he : PE X e td) : PIH X tg e (iKeysM td) := by
  refine ⟨fun pins s σ H R I start => thn (he.run pins s σ H _ I start) fun u s1 ⟨x, H1, I1, rx, d, o, kvs, ex, hd, q⟩ => ?_⟩
  subst ex
  obtain rfl : u = Value.ref d := rx
  obtain ⟨hs, hgd, hx, es, ep, vs, hdt, hsz, kv, hm⟩ := I1.frzK hd
  refine iter_keys hs hgd hx hdt ⟨s1.heap.objs.size, [s1.heap.objs.size], _, _, H1, rfl, I1.kept (t' := s1.toks) fun b o e => Heap.get?_push_of_some _ e, turn_keysH _ hdt, ⟨_, Heap.get?_push_size _ rfl, rfl, ?_⟩, fun b hb => ?_, q⟩
  · rw [hsz] <;> rfl
  · rw [List.mem_singleton.mp hb]
    exact I1.fpOk (Nat.le_refl _) (I1.hok.fresh (Nat.le_refl _))
section
variable {P : Program} {w : World} {K : PySem.W.Frag} {mg : Str → Option Value} {base : Heap}
/-- as Fun.ok, for a def that is called where an exception is being handled -/
theorem okHot {CX : CXT} {x qual : Str} {st : Stmt} {f : Addr} {fd : FuncData} {N ps : List Str} {k : Nat} {sp : Sp} (F : Fun K x qual st f fd) (S : FnScope N ps (defScope st)) (len : ∀ vs H Q E, sp vs H Q E → vs.length = ps.length)
    (body : ∀ (cdv : Value) (A : Around) (outer : List Env) (s : Shared) (H : Hp) (vs : List V) (Q : VK) (E : XK) (p : Addr × Obj), Hot1 A p → RoomH k (A.deeper (envOfC qual (defScope st) s.heap.objs.size f cdv)) → sp vs H Q E →
      ∃ t, PSs (cxH CX P w K mg base N qual (defScope st) f cdv A outer s H E p) (defBody st) t ∧ t { nx := fun _ H' => Q .non H', rt := Q } (L2.start N vs) H) : FnH P w K mg base CX (k + 1) f fd ps sp := by
  obtain ⟨_, _, _, _, _, _, _, _, _, rfl, at_, code⟩ := F.ex
  exact fn_ofH at_ code S len (body _)
end
end Le
namespace Wb
open PySem L2 L2H Le
section
variable {P : Program} {w : World} {K : PySem.W.Frag} {mg : Str → Option Value} {base : Heap} {f : Addr} {fd : FuncData}
theorem passH0 {X : Cx} {E : L2.St → XK} : ∀ σ, PassesAt CX0 X σ (E σ) := fun _ _ _ _ _ _ _ z => (show False from z).elim
theorem faceH_none : FnH P w K mg base CX0 1 f fd ["_law_thing"] (spFace K 0) :=
  ⟨fun vs H Q E h => by obtain ⟨v, d, rfl, z, _⟩ := h; exact z.elim, fun A outer s H args us vs Q E p hr hot pin e0 hb hv h => by obtain ⟨v, d, rfl, z, _⟩ := h; exact z.elim⟩
set_option maxHeartbeats 0 in
theorem faceH_more {n : Nat} (D : Fun K "_law_face" "_law_face" sFace f fd) (g : mg "_law_face" = some (.ref f)) (kp : PySem.W.keepIn K (.ref f) = true) (b : Binds K fd ["_law_thing"] []) (Z : FreeT mg)
    (G : FnH P w K mg base CX0 (n + 1) f fd ["_law_thing"] (spFace K n)) : FnH P w K mg base CX0 (n + 2) f fd ["_law_thing"] (spFace K (n + 1)) := by
  refine okHot D scFace (fun vs H Q E h => ?_) (fun cdv A outer s H vs Q E p hot hr h => ?_)
  · obtain ⟨v, d, rfl, _⟩ := h
    rfl
  · obtain ⟨v, d, rfl, th, k⟩ := h
    have units : (A.deeper (PyProof.Rows.envOfC "_law_face" (defScope sFace) s.heap.objs.size f cdv)).units + 1 < cLine := by have := hr.un; omega
    refine ⟨_, pss_cons (ps_if (pt_val (pe_callB call_isi (by rfl) Z.isi (by decide +kernel) (pa_cons (pv 0) (pa_cons (pe_bltn (v := .ty "tuple") (u := .type "tuple") (by rfl) Z.tup (by decide +kernel) rfl) pa_nil))))
        (pss_one (ps_ret (pe_op op_cat (pe_lst (pa_cons pe_str pa_nil))
          (pe_lcH (own := [("_law_part", 1)]) (g := gName 1) (tt := tYes) ⟨p, hot, List.mem_cons_self⟩ scFace.nd (pi_tupleH (pv 0)) (blkOk_by (N := NF) (sc := defScope sFace) (by decide +kernel)) (fun _ _ _ _ _ _ _ => pg_name (i := 1) scFace.nd rfl (.inl rfl)) (fun _ _ _ _ _ _ _ => pts_nil)
            (fun _ _ _ _ _ _ hb => (pe_callH (E := fun _ => E0) G hr (blkH_hot hb) rfl g kp b passH0 (pa_cons (pv 1) pa_nil))))))) pss_nil)
      (pss_cons (ps_if (pt_val (pe_callB call_isi (by rfl) Z.isi (by decide +kernel) (pa_cons (pv 0) (pa_cons (pe_bltn (v := .ty "list") (u := .type "list") (by rfl) Z.lst (by decide +kernel) rfl) pa_nil))))
        (pss_one (ps_ret (pe_op op_cat (pe_lst (pa_cons pe_str pa_nil))
          (pe_lcH (own := [("_law_part", 1)]) (g := gName 1) (tt := tYes) ⟨p, hot, List.mem_cons_self⟩ scFace.nd (pi_listH (pv 0)) (blkOk_by (N := NF) (sc := defScope sFace) (by decide +kernel)) (fun _ _ _ _ _ _ _ => pg_name (i := 1) scFace.nd rfl (.inl rfl)) (fun _ _ _ _ _ _ _ => pts_nil)
            (fun _ _ _ _ _ _ hb => (pe_callH (E := fun _ => E0) G hr (blkH_hot hb) rfl g kp b passH0 (pa_cons (pv 1) pa_nil))))))) pss_nil)
      (pss_cons (ps_if (pt_val (pe_callB call_isi (by rfl) Z.isi (by decide +kernel) (pa_cons (pv 0) (pa_cons (pe_bltn (v := .ty "dict") (u := .type "dict") (by rfl) Z.dct (by decide +kernel) rfl) pa_nil))))
        (pss_one (ps_ret (pe_op op_cat (pe_lst (pa_cons pe_str pa_nil))
          (pe_lock (pe_lcH (own := [("_law_key", 2)]) (g := gName 2) (tt := tYes) ⟨p, hot, List.mem_cons_self⟩ scFace.nd (pi_keysH (pv 0)) (blkOk_by (N := NF) (sc := defScope sFace) (by decide +kernel)) (fun _ _ _ _ _ _ _ => pg_name (i := 2) scFace.nd rfl (.inl rfl)) (fun _ _ _ _ _ _ _ => pts_nil)
            (fun _ _ _ _ _ _ hb => pe_lst (pa_cons (pe_callH (E := fun _ => E0) G hr (blkH_hot hb) rfl g kp b passH0 (pa_cons (pv 2) pa_nil)) (pa_cons (pe_callH (E := fun _ => E0) G hr (blkH_hot hb) rfl g kp b passH0 (pa_cons (pe_dget units (pv 0) (pv 2) (fun _ _ => rfl)) pa_nil)) pa_nil)))))))) pss_nil)
      (pss_one (ps_ret (pe_lst (pa_cons (pe_ifExp (pt_val (pe_callB call_isi (by rfl) Z.isi (by decide +kernel) (pa_cons (pv 0) (pa_cons (pe_bltn (v := .ty "bool") (u := .type "bool") (by rfl) Z.bool (by decide +kernel) rfl) pa_nil)))) pe_str pe_str) (pa_cons (pv 0) pa_nil))))))), ?_⟩
    rcases th with lf | ⟨a, xs, ds, rfl, ha, few, parts, rfl⟩ | ⟨a, xs, ds, rfl, ha, few, parts, rfl⟩ | ⟨a, ks, xs, ds, rfl, ha, nd, len, few, parts, rfl⟩
    · obtain ⟨t, c, d', ty, k1, k2, k3, k4, rfl, dp⟩ := leaf_ty (K := K) (H := H) lf
      refine ⟨_, rfl, _, _, .type t, .type "tuple", false, rfl, .ty "tuple", ty, k1, false, rfl, iteF ?_⟩
      refine ⟨_, rfl, _, _, .type t, .type "list", false, rfl, .ty "list", ty, k2, false, rfl, iteF ?_⟩
      refine ⟨_, rfl, _, _, .type t, .type "dict", false, rfl, .ty "dict", ty, k3, false, rfl, iteF ?_⟩
      refine ⟨_, rfl, _, _, .type t, .type "bool", c, rfl, .ty "bool", ty, k4, c, rfl, ?_⟩
      cases c with
      | true => exact iteT ⟨_, rfl, (by show 2 ≤ sizeLine; decide), fun q hq => k q _ hq (Same.new2 (Same.refl H) hq) (.lst (SqL.of ((New.at hq).trans upd_same)) (.cons (.str _) (.cons (dp _) .nil)))⟩
      | false => exact iteF ⟨_, rfl, (by show 2 ≤ sizeLine; decide), fun q hq => k q _ hq (Same.new2 (Same.refl H) hq) (.lst (SqL.of ((New.at hq).trans upd_same)) (.cons (.str _) (.cons (dp _) .nil)))⟩
    · refine ⟨_, rfl, _, _, .type "list", .type "tuple", false, rfl, .ty "tuple", .base (.lst ha), kit_ty (by decide +kernel), false, rfl, iteF ?_⟩
      refine ⟨_, rfl, _, _, .type "list", .type "list", true, rfl, .ty "list", .base (.lst ha), kit_ty (by decide +kernel), true, rfl, iteT ?_⟩
      have mk : ∀ L, H L = none → Same H (upd H L (.lst [.str "list"])) := fun L hL => Same.new2 (Same.refl H) hL
      refine ⟨(by show 1 ≤ sizeLine; decide), fun L hL => ⟨_, rfl, a, rfl, ⟨xs, SqL.of (mk L hL _ _ ha)⟩, fun D hD => ?_⟩⟩
      refine lc_it (walk_list (xs := xs)) (FacePv K (upd H L (.lst [.str "list"])) D ds) (FacePv.start hD) (fun i H3 _ q => SqL.of (q.same hD _ _ (mk L hL _ _ ha))) ?_ ?_
      · rintro i x H3 H3' hi q ⟨rfl, hx⟩
        obtain ⟨y, hy, th⟩ := parts.get hx
        refine ⟨rfl, _, rfl, x, y, rfl, th.same ((mk L hL).trans (q.same hD)), fun c H5 hc s5 d5 => q.step hD hy hc s5 d5 (by omega)⟩
      · rintro H3 q
        exact q.done hD hL parts.len few k
    · refine ⟨_, rfl, _, _, .type "tuple", .type "tuple", true, rfl, .ty "tuple", .base (.tup ha), kit_ty (by decide +kernel), true, rfl, iteT ?_⟩
      have mk : ∀ L, H L = none → Same H (upd H L (.lst [.str "tuple"])) := fun L hL => Same.new2 (Same.refl H) hL
      refine ⟨(by show 1 ≤ sizeLine; decide), fun L hL => ⟨_, rfl, a, rfl, ⟨xs, SqT.of (mk L hL _ _ ha)⟩, fun D hD => ?_⟩⟩
      refine lc_it (walk_tup (xs := xs)) (FacePv K (upd H L (.lst [.str "tuple"])) D ds) (FacePv.start hD) (fun i H3 _ q => SqT.of (q.same hD _ _ (mk L hL _ _ ha))) ?_ ?_
      · rintro i x H3 H3' hi q ⟨rfl, hx⟩
        obtain ⟨y, hy, th⟩ := parts.get hx
        refine ⟨rfl, _, rfl, x, y, rfl, th.same ((mk L hL).trans (q.same hD)), fun c H5 hc s5 d5 => q.step hD hy hc s5 d5 (by omega)⟩
      · rintro H3 q
        exact q.done hD hL parts.len few k
    · refine ⟨_, rfl, _, _, .type "dict", .type "tuple", false, rfl, .ty "tuple", .base (.dK ha), kit_ty (by decide +kernel), false, rfl, iteF ?_⟩
      refine ⟨_, rfl, _, _, .type "dict", .type "list", false, rfl, .ty "list", .base (.dK ha), kit_ty (by decide +kernel), false, rfl, iteF ?_⟩
      refine ⟨_, rfl, _, _, .type "dict", .type "dict", true, rfl, .ty "dict", .base (.dK ha), kit_ty (by decide +kernel), true, rfl, iteT ?_⟩
      have mk : ∀ L, H L = none → Same H (upd H L (.lst [.str "dict"])) := fun L hL => Same.new2 (Same.refl H) hL
      refine ⟨(by show 1 ≤ sizeLine; decide), fun L hL => ⟨a, .dK (kvsOf ks xs), mk L hL _ _ ha, trivial, fun od => ⟨_, rfl, a, od, _, rfl, upd_same, fun D hD => ?_⟩⟩⟩
      have klen : (kvsOf ks xs).length = xs.length := by unfold kvsOf; rw [List.length_zipWith]; omega
      have dlen : (List.zipWith keyD ks ds).length = xs.length := by have := parts.len; rw [List.length_zipWith]; omega
      refine lc_it (walk_keys (kvs := kvsOf ks xs)) (FacePv K (upd (upd H L (.lst [.str "dict"])) a (.frz od (.dK (kvsOf ks xs)))) D (List.zipWith keyD ks ds)) (FacePv.start hD) (fun i H3 _ q => q.same hD _ _ upd_same) ?_ ?_
      · rintro i x H3 H3' hi q ⟨rfl, kk, vv, hk, rfl⟩
        obtain ⟨kt, rfl, ek, ev⟩ := kvs_at hk
        obtain ⟨y, hy, th⟩ := parts.get ev
        have s3 := q.same hD
        have lo : Same (cut H a) H3' := cutH_to fun b o n h => s3 _ _ ((upd_ne n).trans (mk L hL _ _ h))
        refine ⟨rfl, _, rfl, .str kt, plainD (.str kt), rfl, ?_, fun c H5 hc s5 d5 => ⟨_, rfl, _, rfl, a, _, rfl, .inl ⟨kvsOf ks xs, Sum.inr kt, .inr ⟨od, s5 _ _ (s3 _ _ upd_same)⟩, rfl, (valV_at nd len ek ev).symm⟩, vv, y, rfl, th.same (lo.trans s5), fun c2 H6 hc2 s6 d6 => ?_⟩⟩
        · cases n with
          | zero => exact th.elim
          | succ m => exact .inl (.str kt)
        · refine ⟨(by show 2 ≤ sizeLine; decide), fun E hE => ?_⟩
          have s56 := s5.trans s6
          have nE3 := free_of s56 hE
          refine q.grow hD (y := keyD kt y) ?_ (s56.trans (Same.new2 (Same.refl _) hE)) (fun ys e => ?_) (by omega)
          · rw [List.getElem?_zipWith, ek, hy] <;> rfl
          · have nDE : E ≠ D := fun z => by
              rw [z, e] at nE3
              cases nE3
            have nB := free_of (q.same hD) nE3
            refine .lst (SqL.of (xs := [.ref c, .ref c2]) ((New.at (by rw [upd_ne nDE]; exact nB)).trans ?_)) (.cons (Dp.stay ?_ d5) (.cons (Dp.stay ?_ d6) .nil))
            · rw [upd_ne nDE, upd_same]
            · refine New.mono fun b o h1 h2 => ?_
              have n : b ≠ D := fun z => by
                rw [z, e] at h1
                cases h1
              have n2 : b ≠ E := ne_of_none (s6 _ _ h2) hE
              rw [upd_ne n, upd_ne n, upd_ne n2]
              exact ⟨free_of s3 h1, s6 _ _ h2⟩
            · refine New.mono fun b o h1 h2 => ?_
              have h1' := free_of s5 h1
              have n : b ≠ D := fun z => by
                rw [z, e] at h1'
                cases h1'
              have n2 : b ≠ E := ne_of_none h2 hE
              rw [upd_ne n, upd_ne n, upd_ne n2]
              exact ⟨free_of s3 h1', h2⟩
      · rintro H3 q
        refine ⟨q.same hD _ _ upd_same, (q.unlock hD (mk L hL _ _ ha)).done ?_ hL (klen.trans dlen.symm) (by omega) k⟩
        have nD : D ≠ a := fun z => by
          rw [z, upd_same] at hD
          cases hD
        exact (upd_ne nD).symm.trans hD
theorem ok_faceH (D' : Def K mg "_law_face" sFace ["_law_thing"] f fd) (Z : FreeT mg) : ∀ n, FnH P w K mg base CX0 (n + 1) f fd ["_law_thing"] (spFace K n)
  | 0 => faceH_none
  | n + 1 => faceH_more D'.F D'.g D'.kp D'.b Z (ok_faceH D' Z n)
end
end Wb
/-! faces of own instances; lists that hold such faces compared -/
namespace Wb
open PySem L2 L2H WbMin WbS Lz Le
theorem kit_cb {K : PySem.W.Frag} {C : Addr} {T : String} (m : PySem.W.kitMeta T = true) (h : PySem.W.subIn K (.ref C) (.type T) = some false) : PySem.W.kitOne K (.ref C) (.type T) = some false := by
  unfold PySem.W.kitOne
  rw [if_neg (by intro z; have q := beq_iff_eq.mp z; cases q)]
  show (if PySem.W.kitMeta T = true then PySem.W.subIn K (.ref C) (.type T) else none) = some false
  rw [if_pos m]
  exact h
/-- what the face asks of an own class -/
structure FaceC (K : PySem.W.Frag) (C : Addr) : Prop where
  cl : Cls K C
  cc : PySem.W.findIn K (.ref C) "__class__" = some (some (.builtin "object.__class__"))
  cg : PySem.W.specialIn K (.builtin "object.__class__") "__get__" = some (some (.builtin "getset_descriptor.__get__"))
  ct : PySem.W.takesIn K (.builtin "object.__class__") = some true
  co : PySem.W.mroIn K C (.type "object") = some true
  st : PySem.W.subIn K (.ref C) (.type "tuple") = some false
  sl : PySem.W.subIn K (.ref C) (.type "list") = some false
  sd : PySem.W.subIn K (.ref C) (.type "dict") = some false
  sb : PySem.W.subIn K (.ref C) (.type "bool") = some false
def spFaceI (C : Addr) : Sp := fun vs H Q _ => ∃ (r dx : Addr) (fs : List (Str × V)), vs = [.ref r] ∧ H r = some (.ins C dx fs) ∧ ∀ (a : Addr) (H' : Hp), H a = none → Same H H' → H' a = some (.lst [.str "plain", .ref r]) → Q (.ref a) H'
section
variable {P : Program} {w : World} {K : PySem.W.Frag} {mg : Str → Option Value} {base : Heap} {f C : Addr} {fd : FuncData}
theorem FnH.either {CX : CXT} {k : Nat} {ps : List Str} {sp sp' : Sp} (F : FnH P w K mg base CX k f fd ps sp) (G : FnH P w K mg base CX k f fd ps sp') : FnH P w K mg base CX k f fd ps (fun vs H Q E => sp vs H Q E ∨ sp' vs H Q E) :=
  ⟨fun vs H Q E h => h.elim (F.len vs H Q E) (G.len vs H Q E), fun A outer s H args us vs Q E p hr hot pin e0 hb r h => h.elim (F.run A outer s H args us vs Q E p hr hot pin e0 hb r) (G.run A outer s H args us vs Q E p hr hot pin e0 hb r)⟩
set_option maxHeartbeats 0 in
theorem ok_faceI (D' : Def K mg "_law_face" sFace ["_law_thing"] f fd) (Z : FreeT mg) (FC : FaceC K C) : FnOk P w K mg base CX0 6 f fd ["_law_thing"] (spFaceI C) := by
  have D := D'.F
  have g := D'.g
  have kp := D'.kp
  have b := D'.b
  have G : FnOk P w K mg base CX0 5 f fd ["_law_thing"] (spFace K 4) := ok_face D' Z 4
  refine D.ok scFace (fun vs H Q E h => ?_) (fun cdv A outer s H vs Q E hr h => ?_)
  · obtain ⟨r, dx, fs, rfl, _⟩ := h
    rfl
  · obtain ⟨r, dx, fs, rfl, hR, k⟩ := h
    refine ⟨_, pss_cons (ps_if (pt_val (pe_callB call_isi (by rfl) Z.isi (by decide +kernel) (pa_cons (pv 0) (pa_cons (pe_bltn (v := .ty "tuple") (u := .type "tuple") (by rfl) Z.tup (by decide +kernel) rfl) pa_nil))))
        (pss_one (ps_ret (pe_op op_cat (pe_lst (pa_cons pe_str pa_nil))
          (pe_lc (own := [("_law_part", 1)]) (g := gName 1) (tt := tYes) rfl scFace.nd (pi_tup (pv 0)) (blkOk_by (N := NF) (sc := defScope sFace) (by decide +kernel)) (fun _ _ _ _ _ => pg_name (i := 1) scFace.nd rfl (.inl rfl)) (fun _ _ _ _ _ => pts_nil)
            (fun _ _ _ _ _ => pe_call G hr rfl g kp b .nil pass0 (pa_cons (pv 1) pa_nil)))))) pss_nil)
      (pss_cons (ps_if (pt_val (pe_callB call_isi (by rfl) Z.isi (by decide +kernel) (pa_cons (pv 0) (pa_cons (pe_bltn (v := .ty "list") (u := .type "list") (by rfl) Z.lst (by decide +kernel) rfl) pa_nil))))
        (pss_one (ps_ret (pe_op op_cat (pe_lst (pa_cons pe_str pa_nil))
          (pe_lc (own := [("_law_part", 1)]) (g := gName 1) (tt := tYes) rfl scFace.nd (pi_list (pv 0)) (blkOk_by (N := NF) (sc := defScope sFace) (by decide +kernel)) (fun _ _ _ _ _ => pg_name (i := 1) scFace.nd rfl (.inl rfl)) (fun _ _ _ _ _ => pts_nil)
            (fun _ _ _ _ _ => pe_call G hr rfl g kp b .nil pass0 (pa_cons (pv 1) pa_nil)))))) pss_nil)
      (pss_cons (ps_if (pt_val (pe_callB call_isi (by rfl) Z.isi (by decide +kernel) (pa_cons (pv 0) (pa_cons (pe_bltn (v := .ty "dict") (u := .type "dict") (by rfl) Z.dct (by decide +kernel) rfl) pa_nil))))
        (pss_one (ps_ret (pe_op op_cat (pe_lst (pa_cons pe_str pa_nil))
          (pe_lock (pe_lc (own := [("_law_key", 2)]) (g := gName 2) (tt := tYes) rfl scFace.nd (pi_keys (pv 0)) (blkOk_by (N := NF) (sc := defScope sFace) (by decide +kernel)) (fun _ _ _ _ _ => pg_name (i := 2) scFace.nd rfl (.inl rfl)) (fun _ _ _ _ _ => pts_nil)
            (fun _ _ _ _ _ => pe_lst (pa_cons (pe_call G hr rfl g kp b .nil pass0 (pa_cons (pv 2) pa_nil)) (pa_cons (pe_call G hr rfl g kp b .nil pass0 (pa_cons (pe_dget (hu_of hr) (pv 0) (pv 2) (fun _ _ => rfl)) pa_nil)) pa_nil)))))))) pss_nil)
      (pss_one (ps_ret (pe_lst (pa_cons (pe_ifExp (pt_val (pe_callB call_isi (by rfl) Z.isi (by decide +kernel) (pa_cons (pv 0) (pa_cons (pe_bltn (v := .ty "bool") (u := .type "bool") (by rfl) Z.bool (by decide +kernel) rfl) pa_nil)))) pe_str pe_str) (pa_cons (pv 0) pa_nil))))))), ?_⟩
    have tt : TyX K H (.ref r) (.ref C) := .base (.ins hR FC.cl FC.cc FC.cg FC.ct FC.co)
    refine ⟨_, rfl, _, _, .ref C, .type "tuple", false, rfl, .ty "tuple", tt, kit_cb (by decide +kernel) FC.st, false, rfl, iteF ?_⟩
    refine ⟨_, rfl, _, _, .ref C, .type "list", false, rfl, .ty "list", tt, kit_cb (by decide +kernel) FC.sl, false, rfl, iteF ?_⟩
    refine ⟨_, rfl, _, _, .ref C, .type "dict", false, rfl, .ty "dict", tt, kit_cb (by decide +kernel) FC.sd, false, rfl, iteF ?_⟩
    refine ⟨_, rfl, _, _, .ref C, .type "bool", false, rfl, .ty "bool", tt, kit_cb (by decide +kernel) FC.sb, false, rfl, iteF ?_⟩
    exact ⟨_, rfl, (by show 2 ≤ sizeLine; decide), fun q hq => k q _ hq (Same.put (Same.refl H) hq) upd_same⟩
set_option maxHeartbeats 0 in
theorem ok_faceIH (D' : Def K mg "_law_face" sFace ["_law_thing"] f fd) (Z : FreeT mg) (FC : FaceC K C) : FnH P w K mg base CX0 6 f fd ["_law_thing"] (spFaceI C) := by
  have D := D'.F
  have g := D'.g
  have kp := D'.kp
  have b := D'.b
  have G : FnH P w K mg base CX0 5 f fd ["_law_thing"] (spFace K 4) := ok_faceH D' Z 4
  refine okHot D scFace (fun vs H Q E h => ?_) (fun cdv A outer s H vs Q E p hot hr h => ?_)
  · obtain ⟨r, dx, fs, rfl, _⟩ := h
    rfl
  · obtain ⟨r, dx, fs, rfl, hR, k⟩ := h
    have units : (A.deeper (PyProof.Rows.envOfC "_law_face" (defScope sFace) s.heap.objs.size f cdv)).units + 1 < cLine := by have := hr.un; omega
    refine ⟨_, pss_cons (ps_if (pt_val (pe_callB call_isi (by rfl) Z.isi (by decide +kernel) (pa_cons (pv 0) (pa_cons (pe_bltn (v := .ty "tuple") (u := .type "tuple") (by rfl) Z.tup (by decide +kernel) rfl) pa_nil))))
        (pss_one (ps_ret (pe_op op_cat (pe_lst (pa_cons pe_str pa_nil))
          (pe_lcH (own := [("_law_part", 1)]) (g := gName 1) (tt := tYes) ⟨p, hot, List.mem_cons_self⟩ scFace.nd (pi_tupleH (pv 0)) (blkOk_by (N := NF) (sc := defScope sFace) (by decide +kernel)) (fun _ _ _ _ _ _ _ => pg_name (i := 1) scFace.nd rfl (.inl rfl)) (fun _ _ _ _ _ _ _ => pts_nil)
            (fun _ _ _ _ _ _ hb => (pe_callH (E := fun _ => E0) G hr (blkH_hot hb) rfl g kp b passH0 (pa_cons (pv 1) pa_nil))))))) pss_nil)
      (pss_cons (ps_if (pt_val (pe_callB call_isi (by rfl) Z.isi (by decide +kernel) (pa_cons (pv 0) (pa_cons (pe_bltn (v := .ty "list") (u := .type "list") (by rfl) Z.lst (by decide +kernel) rfl) pa_nil))))
        (pss_one (ps_ret (pe_op op_cat (pe_lst (pa_cons pe_str pa_nil))
          (pe_lcH (own := [("_law_part", 1)]) (g := gName 1) (tt := tYes) ⟨p, hot, List.mem_cons_self⟩ scFace.nd (pi_listH (pv 0)) (blkOk_by (N := NF) (sc := defScope sFace) (by decide +kernel)) (fun _ _ _ _ _ _ _ => pg_name (i := 1) scFace.nd rfl (.inl rfl)) (fun _ _ _ _ _ _ _ => pts_nil)
            (fun _ _ _ _ _ _ hb => (pe_callH (E := fun _ => E0) G hr (blkH_hot hb) rfl g kp b passH0 (pa_cons (pv 1) pa_nil))))))) pss_nil)
      (pss_cons (ps_if (pt_val (pe_callB call_isi (by rfl) Z.isi (by decide +kernel) (pa_cons (pv 0) (pa_cons (pe_bltn (v := .ty "dict") (u := .type "dict") (by rfl) Z.dct (by decide +kernel) rfl) pa_nil))))
        (pss_one (ps_ret (pe_op op_cat (pe_lst (pa_cons pe_str pa_nil))
          (pe_lock (pe_lcH (own := [("_law_key", 2)]) (g := gName 2) (tt := tYes) ⟨p, hot, List.mem_cons_self⟩ scFace.nd (pi_keysH (pv 0)) (blkOk_by (N := NF) (sc := defScope sFace) (by decide +kernel)) (fun _ _ _ _ _ _ _ => pg_name (i := 2) scFace.nd rfl (.inl rfl)) (fun _ _ _ _ _ _ _ => pts_nil)
            (fun _ _ _ _ _ _ hb => pe_lst (pa_cons (pe_callH (E := fun _ => E0) G hr (blkH_hot hb) rfl g kp b passH0 (pa_cons (pv 2) pa_nil)) (pa_cons (pe_callH (E := fun _ => E0) G hr (blkH_hot hb) rfl g kp b passH0 (pa_cons (pe_dget units (pv 0) (pv 2) (fun _ _ => rfl)) pa_nil)) pa_nil)))))))) pss_nil)
      (pss_one (ps_ret (pe_lst (pa_cons (pe_ifExp (pt_val (pe_callB call_isi (by rfl) Z.isi (by decide +kernel) (pa_cons (pv 0) (pa_cons (pe_bltn (v := .ty "bool") (u := .type "bool") (by rfl) Z.bool (by decide +kernel) rfl) pa_nil)))) pe_str pe_str) (pa_cons (pv 0) pa_nil))))))), ?_⟩
    have tt : TyX K H (.ref r) (.ref C) := .base (.ins hR FC.cl FC.cc FC.cg FC.ct FC.co)
    refine ⟨_, rfl, _, _, .ref C, .type "tuple", false, rfl, .ty "tuple", tt, kit_cb (by decide +kernel) FC.st, false, rfl, iteF ?_⟩
    refine ⟨_, rfl, _, _, .ref C, .type "list", false, rfl, .ty "list", tt, kit_cb (by decide +kernel) FC.sl, false, rfl, iteF ?_⟩
    refine ⟨_, rfl, _, _, .ref C, .type "dict", false, rfl, .ty "dict", tt, kit_cb (by decide +kernel) FC.sd, false, rfl, iteF ?_⟩
    refine ⟨_, rfl, _, _, .ref C, .type "bool", false, rfl, .ty "bool", tt, kit_cb (by decide +kernel) FC.sb, false, rfl, iteF ?_⟩
    exact ⟨_, rfl, (by show 2 ≤ sizeLine; decide), fun q hq => k q _ hq (Same.put (Same.refl H) hq) upd_same⟩
end
/-! ### a word and the face of one instance, twice -/
section
variable {X : Cx}
def rNeF : R2 := fun x y H Q => ∃ (a b a2 b2 r : Addr) (wd pl : Str), x = .ref a ∧ y = .ref b ∧ H a = some (.lst [.str wd, .ref a2]) ∧ H b = some (.lst [.str wd, .ref b2]) ∧ H a2 = some (.lst [.str pl, .ref r]) ∧ H b2 = some (.lst [.str pl, .ref r]) ∧ Q (.bl false) H
theorem two_vals {x y : V} {its : List Value} (h : Vals [x, y] its) : ∃ u v, its = [u, v] ∧ RelV x u ∧ RelV y v := by
  cases h with
  | cons r t =>
    cases t with
    | cons r2 t2 =>
      cases t2
      exact ⟨_, _, rfl, r, r2⟩
theorem eq_word {A : Around} {s : Shared} (z : Str) (t u : Tok) : SeqAt.EqAt A s (.str z t) (.str z u) true := by
  have h := SeqAt.EqAt.str_str (A := A) (s := s) z t z u
  rw [beq_self_eq_true] at h
  exact h
theorem op_neF (hu : X.A.units + 65 < cLine) : OpR X (compareOp .NotEq) rNeF := by
  intro pins s σ H x y v u Q I rx ry h
  obtain ⟨a, b, a2, b2, r, wd, pl, rfl, rfl, h1, h2, h3, h4, q⟩ := h
  cases rx
  cases ry
  obtain ⟨i1, r1, p1, _⟩ := I.list (SqL.of h1)
  obtain ⟨i2, r2, p2, _⟩ := I.list (SqL.of h2)
  obtain ⟨i3, r3, p3, _⟩ := I.list (SqL.of h3)
  obtain ⟨i4, r4, p4, _⟩ := I.list (SqL.of h4)
  obtain ⟨_, _, rfl, ⟨t1, rfl⟩, e1⟩ := two_vals r1
  obtain ⟨_, _, rfl, ⟨t2, rfl⟩, e2⟩ := two_vals r2
  obtain ⟨_, _, rfl, ⟨t3, rfl⟩, e3⟩ := two_vals r3
  obtain ⟨_, _, rfl, ⟨t4, rfl⟩, e4⟩ := two_vals r4
  cases e1
  cases e2
  cases e3
  cases e4
  have u1 : X.A.in1.units < cLine := by
    show X.A.units + 1 < cLine
    omega
  have inner : SeqAt.EqAt X.A.in1 s (.ref a2) (.ref b2) true := by
    by_cases e : a2 = b2
    · subst e
      exact SeqAt.EqAt.same _
    · refine SeqAt.EqAt.of_refs e ?_
      refine SeqAt.RcAt.lists (e := fun _ => true) p3.isList p4.isList rfl u1 fun j j1 j2 => ?_
      have : j = 0 ∨ j = 1 := by
        have : j < 2 := j1
        omega
      rcases this with rfl | rfl
      · exact eq_word pl t3 t4
      · exact SeqAt.EqAt.same _
  refine SeqAt.RcNeAt.lists (e := fun _ => true) p1.isList p2.isList rfl (by omega) (fun j j1 j2 => ?_) X.prog X.w _ _ ⟨.bl false, H, I, rfl, q⟩
  have : j = 0 ∨ j = 1 := by
    have : j < 2 := j1
    omega
  rcases this with rfl | rfl
  · exact eq_word wd t1 t2
  · exact inner
end
end Wb
set_option maxHeartbeats 1000000
/-! o op p by o's own method, p of another own class that knows nothing of the operator -/
namespace PySem.W
open PySem Sem PySem.Calls PyProof.Rows Builtin
/-- a class of one's own that stands right under object -/
def mroTwo (K : Frag) (C : Addr) : Bool := match clsIn K C with
  | some cd => match cd.mro with
    | [.ref c, .type t] => c == C && t == "object"
    | _ => false
  | none => false
theorem mro_two {K : Frag} {C : Addr} (h : mroTwo K C = true) : ∃ cd, clsIn K C = some cd ∧ cd.mro = [.ref C, .type "object"] := by
  unfold mroTwo at h
  split at h
  · rename_i cd e
    split at h
    · rename_i c t e2
      rw [Bool.and_eq_true] at h
      obtain ⟨e3, e4⟩ := h
      have e3 := beq_iff_eq.mp e3
      have e4 := beq_iff_eq.mp e4
      subst e3 e4
      exact ⟨cd, e, e2⟩
    · cases h
  · cases h
section
variable {prog : Program} {w : World} {A : Around} {E : Value → Shared → Prop} {s : Shared} {K : Frag} {base : Heap} {L a : Addr} {m : Str → Option Value} {oa : Obj} {C D f : Addr} {od : Option Obj}
theorem fills_not {M : Model} {h : Heap} {nm : String} (X : K.In h) (two : mroTwo K D = true) (n1 : findIn K (.ref D) (PySem.dunder nm) = some none) (n2 : findIn K (.ref D) (dunderR nm) = some none)
    (n3 : findIn K (.type "object") (PySem.dunder nm) = some none) (n4 : findIn K (.type "object") (dunderR nm) = some none) : Looks M h (fillsNumberSlot (.ref D) nm) false := by
  intro A Q E s k q
  obtain ⟨cd, inC, mro⟩ := mro_two two
  unfold fillsNumberSlot
  refine wpAny_bind ((looks_clsIn X inC).andThen (f := fun cd : ClassData => Pure.pure cd.mro) .now A _ E s k ?_)
  rw [mro, List.anyM_cons]
  refine wpAny_bind ?_
  show wpAny M A (List.anyM _ [PySem.dunder nm, dunderR nm]) _ _ _
  rw [List.anyM_cons]
  refine wpAny_bind (wpAny_bind (looks_findIn X n1 A _ E s k ?_))
  refine wpAny_pure ?_
  rw [if_neg Bool.false_ne_true, List.anyM_cons]
  refine wpAny_bind (wpAny_bind (looks_findIn X n2 A _ E s k ?_))
  refine wpAny_pure ?_
  rw [if_neg Bool.false_ne_true, List.anyM_nil]
  refine wpAny_pure ?_
  rw [if_neg Bool.false_ne_true, List.anyM_cons]
  refine wpAny_bind (wpAny_bind (looks_findIn X n3 A _ E s k ?_))
  refine wpAny_bind (looks_findIn X n4 A _ E s k ?_)
  refine wpAny_pure ?_
  show wpAny M A (if (false || false) = true then _ else _) _ _ _
  rw [if_neg (by decide), List.anyM_nil]
  exact wpAny_pure q
theorem left_alone {op : Operator} {y : Value} {Q : Value → Shared → Prop} (fr : Fr base L s.heap m) (kin : K.In base) (inst : InstAt s.heap a oa C od) (ty : Looks (model prog w) s.heap (typeOf y) (.ref D)) (first_ : selfFirst K C = true)
    (own : findIn K (.ref C) (PySem.dunder op.info.2) = some (some (.ref f))) (fn : isFn K (.ref f) = true) (ne : C ≠ D) (two : mroTwo K D = true) (n1 : findIn K (.ref D) (PySem.dunder op.info.2) = some none) (n2 : findIn K (.ref D) (dunderR op.info.2) = some none)
    (n3 : findIn K (.type "object") (PySem.dunder op.info.2) = some none) (n4 : findIn K (.type "object") (dunderR op.info.2) = some none)
    (run : wpAny (model prog w) A (call (.ref f) [.ref a, y]) (CmpBack Q) E s) : wpAny (model prog w) A (binaryOp op (.ref a) y) Q E s := by
  have X := kin.keeps fr.keep
  obtain ⟨cd, rest, inCls, mro⟩ := ksp_first first_
  obtain ⟨sym, nm, ei⟩ : ∃ sym nm, op.info = (sym, nm) := ⟨op.info.1, op.info.2, rfl⟩
  rw [ei] at own n1 n2 n3 n4
  dsimp only at own n1 n2 n3 n4
  have tried := ksp_try X inst own fn run
  have l4 : Looks (model prog w) s.heap (fillsNumberSlot (.ref D) nm) false := fills_not X two n1 n2 n3 n4
  obtain ⟨hp, gs, dr, tk, os⟩ := s
  have l1 : Looks (model prog w) hp (typeOf (.ref a)) (.ref C) := inst.type
  have l2 : Looks (model prog w) hp (typeOf y) (.ref D) := ty
  have l3 : Looks (model prog w) hp (fillsNumberSlot (.ref C) nm) true := fills_K X inCls mro own
  have l4 : Looks (model prog w) hp (fillsNumberSlot (.ref D) nm) false := l4
  have unlike : (Value.ref C == Value.ref D) = false := Bool.eq_false_iff.mpr fun q => by
    have e := beq_iff_eq.mp q
    injection e with e
    exact ne e
  simp only [binaryOp, ei]
  refine wpAny_holding (wpAny_bind ?_)
  unfold binaryOp1
  refine wpAny_bind (l1.at (wpAny_bind (l2.at (wpAny_bind (l3.at ?_)))))
  simp only [unlike, Bool.false_eq_true, if_false]
  ksp_lk
  refine wpAny_mono tried (fun r s' back => ?_) fun _ _ e => e
  obtain ⟨v, rfl, q⟩ := back
  ksp_lk
  exact q
end
end PySem.W
namespace Le
open PySem PySem.Spec PyProof.Rows L2
/-- what an own class says of an operator: nothing -/
structure OpN (K : PySem.W.Frag) (C D : Addr) (nm : String) : Prop where
  ne : C ≠ D
  two : PySem.W.mroTwo K D = true
  n1 : PySem.W.findIn K (.ref D) (PySem.dunder nm) = some none
  n2 : PySem.W.findIn K (.ref D) (PySem.dunderR nm) = some none
  n3 : PySem.W.findIn K (.type "object") (PySem.dunder nm) = some none
  n4 : PySem.W.findIn K (.type "object") (PySem.dunderR nm) = some none
section
variable {X : Cx} {CX : CXT} {k : Nat} {C g : Addr} {fd : FuncData} {ps : List Str} {sp : Sp} {E : XK} {op : Operator}
/-- o op y: y of o's class, of another own one, or of a built-in type -/
def rOpW (K : PySem.W.Frag) (C : Addr) (nm : String) (sp : Sp) (E : XK) : R2 := fun x y H Q => ∃ (a dx : Addr) (fs : List (Str × V)), x = .ref a ∧ H a = some (.ins C dx fs) ∧
  ((∃ t : String, TyX K H y (.type t) ∧ OpT K C nm t) ∨ (∃ (b dy : Addr) (gs : List (Str × V)), y = .ref b ∧ H b = some (.ins C dy gs)) ∨ ∃ (D b dy : Addr) (gs : List (Str × V)), y = .ref b ∧ H b = some (.ins D dy gs) ∧ OpN K C D nm) ∧ sp [.ref a, y] H Q E
theorem op_W (sf : PySem.W.selfFirst X.K C = true) (own : PySem.W.findIn X.K (.ref C) (PySem.dunder op.info.2) = some (some (.ref g))) (fn : PySem.W.isFn X.K (.ref g) = true) {rc : Option Value} (rev : PySem.W.findIn X.K (.ref C) (PySem.dunderR op.info.2) = some rc) (py : rc = none ∨ ∃ g : Addr, rc = some (.ref g))
    (F : FnOk X.prog X.w X.K X.mg X.base CX k g fd ps sp) (hr : Room k X.A) (hb : Binds X.K fd ps []) (hx : Passes CX X E) : OpR X (binaryOp op) (rOpW X.K C op.info.2 sp E) := by
  intro pins s σ H x y v u Q I rx ry h
  obtain ⟨a, dx, fs, rfl, ha, way, q⟩ := h
  rcases way with ⟨t, ty, T⟩ | ⟨b, dy, gs, rfl, hb2⟩ | ⟨D, b, dy, gs, rfl, hb2, N⟩
  · exact op_U sf own fn rev py F hr hb hx pins s σ H _ y v u Q I rx ry ⟨a, dx, fs, t, rfl, ha, ty, T, q⟩
  all_goals
    cases (show v = Value.ref a from rx)
    cases (show u = Value.ref b from ry)
    obtain ⟨mA, O, _⟩ := ins_get I.hok ha
    obtain ⟨od, J, _⟩ := O.look
    obtain ⟨mB, O', _⟩ := ins_get I.hok hb2
    obtain ⟨od', J', _⟩ := O'.look
    obtain ⟨m, hF⟩ := I.fr
    have run : wpAny (model X.prog X.w) X.A (call (.ref g) [.ref a, .ref b]) (PySem.W.CmpBack (EP X pins σ Q)) X.xe s := by
      have len : ([Value.ref a, Value.ref b] ++ ([] : List Value)).length = ps.length := by
        rw [← F.len _ _ _ _ q]
        rfl
      have bound := hb s [.ref a, .ref b] I.kIn len
      rw [List.append_nil] at bound
      refine wpAny_call (codeAny_mono (F.run X.A X.stack s H ⟨[.ref a, .ref b], []⟩ [.ref a, .ref b] [.ref a, .ref b] Q E hr I.env0 bound (.cons rfl (.cons rfl .nil)) q) fun res s' done => ?_)
      cases res with
      | error e => exact hx pins σ H s e s' I done
      | ok fl =>
        cases fl with
        | ret z =>
          obtain ⟨z', H', I', rz, qz⟩ := I.after done
          exact SlX.cmpback rz ⟨z', H', I', rz, qz⟩
        | next => exact False.elim done
        | brk => exact False.elim done
        | cont => exact False.elim done
  · exact PySem.W.binop_K (op := op) hF I.ok.mod.kin J J'.type sf own fn run
  · exact PySem.W.left_alone hF I.ok.mod.kin J J'.type sf own fn N.ne N.two N.n1 N.n2 N.n3 N.n4 run
end
end Le
/-! what stays while lambdas are made: all but the pool and the tables of code objects -/
namespace Wb
open PySem L2 WbMin WbS Lz Le LamX
/-- the heap without its tables -/
def noT (H : Hp) : Hp := fun b => match H b with
  | some (.tbl _) => none
  | o => o
theorem noT_at {H : Hp} {b : Addr} {o : HO} (h : H b = some o) (n : ∀ ps, o ≠ .tbl ps) : noT H b = some o := by
  unfold noT
  rw [h]
  cases o with
  | tbl ps => exact (n ps rfl).elim
  | _ => rfl
theorem noT_inv {H : Hp} {b : Addr} {o : HO} (h : noT H b = some o) : H b = some o ∧ ∀ ps, o ≠ .tbl ps := by
  unfold noT at h
  cases e : H b with
  | none =>
    rw [e] at h
    cases h
  | some u =>
    rw [e] at h
    cases u with
    | tbl ps => cases h
    | _ =>
      cases h
      exact ⟨rfl, fun ps z => by cases z⟩
def Bt (p : Addr) (H H' : Hp) : Prop := But p (noT H) H'
theorem Bt.of {p : Addr} {H H' : Hp} (b : But p H H') : Bt p H H' := fun c o n h => b c o n (noT_inv h).1
theorem Bt.same {p : Addr} {H H' : Hp} (s : Same H H') : Bt p H H' := fun c o _ h => s c o (noT_inv h).1
theorem Bt.ext {p : Addr} {H H' : Hp} (e : ExtN H H') : Bt p H H' := fun c o _ h => e c o (noT_inv h).1 (noT_inv h).2
theorem Bt.trans {p : Addr} {H H1 H2 : Hp} (a : Bt p H H1) (b : Bt p H1 H2) : Bt p H H2 := fun c o n h => b c o n (noT_at (a c o n h) (noT_inv h).2)
theorem PoolAt.noT {H : Hp} {p : Addr} (h : PoolAt H p) : PoolAt (noT H) p := by
  obtain ⟨a, b, c, e, r⟩ := h
  exact ⟨a, b, c, noT_at e (fun _ z => by cases z), r⟩
theorem PoolAt.ext {H H' : Hp} {p : Addr} (h : PoolAt H p) (s : ExtN H H') : PoolAt H' p := by
  obtain ⟨a, b, c, e, r⟩ := h
  exact ⟨a, b, c, s _ _ e (fun _ z => by cases z), r⟩
theorem Tups.noT {H : Hp} : ∀ {as : List Addr} {xs : List (List V)}, Tups H as xs → Tups (noT H) as xs
  | [], [], _ => trivial
  | _ :: _, _ :: _, h => ⟨noT_at h.1 (fun _ z => by cases z), Tups.noT h.2⟩
  | [], _ :: _, h => h.elim
  | _ :: _, [], h => h.elim
theorem Prt.noT {L : LD} {t rr u y : Addr} {as bs : List Addr} {H : Hp} (h : Prt L t rr u y as bs H) : Prt L t rr u y as bs (noT H) :=
  ⟨noT_at h.ht (fun _ z => by cases z), noT_at h.hr (fun _ z => by cases z), h.hT.noT, noT_at h.hu (fun _ z => by cases z), h.hU.noT, noT_at h.hy (fun _ z => by cases z)⟩
theorem LoopAt.noT {C T : Addr} {H : Hp} {r : Addr} {L : LD} : LoopAt C T H r L → LoopAt C T (noT H) r L := by
  rintro ⟨dx, t, rr, u, y, tb, as, bs, h0, pr, dx', dN, dX, dA, tX, tA, tY, xs, as', g0, hX, hx, hA, ha, hTX, hTA, hTY⟩
  have nt : ∀ {a : Addr} {o : HO}, H a = some o → (∀ ps, o ≠ .tbl ps) → Wb.noT H a = some o := noT_at
  exact ⟨dx, t, rr, u, y, tb, as, bs, nt h0 (fun _ z => by cases z), pr.noT, dx', dN, dX, dA, tX, tA, tY, xs, as', nt g0 (fun _ z => by cases z), nt hX (fun _ z => by cases z), hx.noT, nt hA (fun _ z => by cases z), ha.noT, nt hTX (fun _ z => by cases z), nt hTA (fun _ z => by cases z), nt hTY (fun _ z => by cases z)⟩
theorem MdAt.noT {H : Hp} {q : Addr} {L : LD} : MdAt H q L → MdAt (noT H) q L := fun ⟨A, Sd, Ed, O, kvs, ws, h0, hA, hS, hE, e2, e1, hO⟩ =>
  have tk : Tk H (Wb.noT H) := fun _ _ h => noT_at h (fun _ z => by cases z)
  ⟨A, Sd, Ed, O, kvs, ws, noT_at h0 (fun _ z => by cases z), noT_at hA (fun _ z => by cases z), noT_at hS (fun _ z => by cases z), noT_at hE (fun _ z => by cases z), fun i c hi hc => (e2 i c hi hc).tk tk, fun i hi => (e1 i hi).tk tk, by
    first
    | exact noT_at hO (fun _ z => by cases z)
    | exact (let ⟨os, h, g⟩ := hO ; ⟨os, noT_at h (fun _ z => by cases z), g⟩)⟩
theorem noT_cut {H : Hp} {a : Addr} : Same (noT (cut H a)) (cut (noT H) a) := fun b o h => by
  obtain ⟨h1, h2⟩ := noT_inv h
  unfold cut at h1 ⊢
  by_cases e : b = a
  · rw [if_pos e] at h1
    cases h1
  · rw [if_neg e] at h1 ⊢
    exact noT_at h1 h2
theorem Thing.noT : ∀ {n : Nat} {H : Hp} {v : V} {d : PyData}, Thing H n v d → Thing (noT H) n v d
  | 0, _, _, _, h => h.elim
  | _ + 1, _, _, _, .inl h => .inl h
  | _ + 1, _, _, _, .inr (.inl ⟨a, xs, ds, e, h, l, r, q⟩) => .inr (.inl ⟨a, xs, ds, e, noT_at h (fun _ z => by cases z), l, r.imp fun _ _ z => Thing.noT z, q⟩)
  | _ + 1, _, _, _, .inr (.inr (.inl ⟨a, xs, ds, e, h, l, r, q⟩)) => .inr (.inr (.inl ⟨a, xs, ds, e, noT_at h (fun _ z => by cases z), l, r.imp fun _ _ z => Thing.noT z, q⟩))
  | _ + 1, _, _, _, .inr (.inr (.inr ⟨a, ks, xs, ds, e, h, nd, l1, l, r, q⟩)) => .inr (.inr (.inr ⟨a, ks, xs, ds, e, noT_at h (fun _ z => by cases z), nd, l1, l, r.imp fun _ _ z => (Thing.noT z).same noT_cut, q⟩))
theorem Any.noT {p : Addr} {H : Hp} {x : V} {d : PyData} (h : Any p H x d) : Any p (noT H) x d := ⟨(Thing.noT h.1).same noT_cut, h.2⟩
theorem Any.bt {p : Addr} {H H' : Hp} {x : V} {d : PyData} (h : Any p H x d) (b : Bt p H H') : Any p H' x d := h.noT.but b
theorem LoopAt.bt {C T : Addr} {H H' : Hp} {p r : Addr} {L : LD} (h : LoopAt C T H r L) (hp : PoolAt H p) (b : Bt p H H') : LoopAt C T H' r L := h.noT.but hp.noT b
theorem MdAt.bt {H H' : Hp} {p q : Addr} {L : LD} (h : MdAt H q L) (hp : PoolAt H p) (b : Bt p H H') : MdAt H' q L := h.noT.but hp.noT b
/-- the tables stay while the pool changes -/
theorem Tabs.but {T : List (Addr × Str)} {H H' : Hp} {p : Addr} (t : Tabs T H) (hp : PoolAt H p) (b : But p H H') : Tabs T H' := fun y hy => by
  obtain ⟨ps, h1, h2, h3⟩ := t y hy
  refine ⟨ps, b _ _ (pool_other hp h1 fun _ _ _ q => by cases q) h1, h2, fun pos cv hc => ?_⟩
  obtain ⟨c, e1, e2⟩ := h3 pos cv hc
  exact ⟨c, e1, b _ _ (pool_other hp e2 fun _ _ _ q => by cases q) e2⟩
theorem heard_due {K : PySem.W.Frag} {H : Hp} {Q : VK} {a b : Addr} {d : PyData} (h1 : Dp K H (.ref a) d) (h2 : Dp K H (.ref b) d) (ok : d.canLay0 = true ∧ PyData.depth d ≤ 64) (k : Q (.bl false) H) : rNeD K (.ref a) (.ref b) H Q := by
  refine ⟨d, d, h1, h2, shaped_of ok.1 ok.2, shaped_of ok.1 ok.2, ?_⟩
  rw [SeqAt.eqv_refl _ ok.1]
  exact k
mutual
theorem Dp.noT {K : PySem.W.Frag} {H : Hp} : ∀ {v : V} {d : PyData}, Dp K H v d → Dp K (noT H) v d
  | _, _, .non => .non
  | _, _, .bl b => .bl b
  | _, _, .int i => .int i
  | _, _, .str x => .str x
  | _, _, .lst h r => .lst (by
      rcases h with (q | ⟨o, q⟩) | q
      · exact .inl (.inl (noT_at q (fun _ z => by cases z)))
      · exact .inl (.inr ⟨o, noT_at q (fun _ z => by cases z)⟩)
      · exact .inr q) (DpAll.noT r)
  | _, _, .tup h r => .tup (by
      rcases h with (q | ⟨o, q⟩) | q
      · exact .inl (.inl (noT_at q (fun _ z => by cases z)))
      · exact .inl (.inr ⟨o, noT_at q (fun _ z => by cases z)⟩)
      · exact .inr q) (DpAll.noT r)
theorem DpAll.noT {K : PySem.W.Frag} {H : Hp} : ∀ {vs : List V} {ds : List PyData}, DpAll K H vs ds → DpAll K (noT H) vs ds
  | _, _, .nil => .nil
  | _, _, .cons h r => .cons (Dp.noT h) (DpAll.noT r)
end
/-- all but tables stay -/
def Xt (H H' : Hp) : Prop := Same (noT H) H'
theorem Xt.of {H H' : Hp} (s : Same H H') : Xt H H' := fun b o h => s b o (noT_inv h).1
theorem Xt.ext {H H' : Hp} (e : ExtN H H') : Xt H H' := fun b o h => e b o (noT_inv h).1 (noT_inv h).2
theorem Xt.trans {H H1 H2 : Hp} (a : Xt H H1) (b : Xt H1 H2) : Xt H H2 := fun c o h => b c o (noT_at (a c o h) (noT_inv h).2)
theorem Xt.bt {p : Addr} {H H' : Hp} (x : Xt H H') : Bt p H H' := fun c o _ h => x c o h
theorem Any.xt {p : Addr} {H H' : Hp} {x : V} {d : PyData} (h : Any p H x d) (s : Xt H H') : Any p H' x d := h.noT.same s
theorem LoopAt.xt {C T : Addr} {H H' : Hp} {r : Addr} {L : LD} (h : LoopAt C T H r L) (s : Xt H H') : LoopAt C T H' r L := h.noT.same s
theorem PoolAt.xt {H H' : Hp} {p : Addr} (h : PoolAt H p) (s : Xt H H') : PoolAt H' p := h.noT.same s
theorem Dp.xt {K : PySem.W.Frag} {H H' : Hp} {v : V} {d : PyData} (h : Dp K H v d) (s : Xt H H') : Dp K H' v d := Dp.stay s (Dp.noT h)
end Wb
/-! _law_heard of kinds met: the kind, or the error's word and what it keeps; _law_both -/
namespace Wb
open PySem L2 L2H WbMin WbO WbS WbT Lz Le
abbrev sKHeard : Stmt := top 46
abbrev sBoth : Stmt := top 48
structure MetC (K : PySem.W.Frag) (mg : Str → Option Value) (cK cN : Addr) : Prop where
  xf : XfC K cK
  no : PySem.W.findIn K (.ref cK) "given" = some none
  gK : mg "NotAKind" = some (.ref cK)
  gN : mg "NoRing" = some (.ref cN)
  kk : PySem.W.exmOne K (.ref cK) (.ref cK) = some true
  nk : PySem.W.exmOne K (.ref cN) (.ref cK) = some false
  nn : PySem.W.exmOne K (.ref cN) (.ref cN) = some true
def FailsX (E : XK) (C : Addr) (x : V) (H : Hp) : Prop := ∀ (dx : Addr) (H' : Hp), Same H H' → H' dx = none → E (.ref C) (some dx) (upd H' dx (.xd [("given", x)]))
def TTK (K : PySem.W.Frag) (C CR cK cN : Addr) : Le.Act → Hp → VK → Prop := fun act H Q =>
  (∃ (sg : List Nat) (ps : List Str), (∀ (E : XK) (R : VK), (∀ (x : Addr) (H' : Hp), Same H H' → KindAt C H' x sg ps → R (.ref x) H') → act E H R) ∧ ∀ (a x : Addr) (H' : Hp), Same H H' → KindAt C H' x sg ps → H' a = some (.lst [.str "told", .ref x]) → Q (.ref a) H') ∨
  ((∀ (E : XK) (R : VK), FailsE E cN H → act E H R) ∧ ∀ (a : Addr) (H' : Hp), Same H H' → H' a = some (.lst [.str "ring", .non]) → Q (.ref a) H') ∨
  ∃ x : V, (∀ (E : XK) (R : VK), FailsX E cK x H → act E H R) ∧ ((∃ d : PyData, Thing H 5 x d ∧ ∀ (a : Addr) (H' : Hp), H a = none → Same H H' → Dp K (New H H') (.ref a) (.list [.str "kind", d]) → Q (.ref a) H') ∨
    ∃ (r dx : Addr) (fs : List (Str × V)), x = .ref r ∧ H r = some (.ins CR dx fs) ∧ ∀ (a f : Addr) (H' : Hp), Same H H' → H' a = some (.lst [.str "kind", .ref f]) → H' f = some (.lst [.str "plain", .ref r]) → Q (.ref a) H')
abbrev NKh : List Str := ["_law_act", "_law_told", "e"]
theorem scKh : FnScope NKh ["_law_act"] (defScope sKHeard) := ⟨rfl, rfl, rfl, by decide +kernel, rfl, by decide +kernel, by decide +kernel⟩
def spFaceB (K : PySem.W.Frag) (CR : Addr) : Sp := fun vs H Q E => spFace K 5 vs H Q E ∨ spFaceI CR vs H Q E
def tSuiteK (K : PySem.W.Frag) (CR C : Addr) : Suite := fun r cl dd => tSeq (tAsg (tLst (tCons (tC (.str "kind")) (tCons (tCallS (spFaceB K CR) (fun _ => E0) (tCons (tXf r cl dd C "given" (tVar 2)) tNil)) tNil))) (gName 1)) tNext
def tSuiteN : Suite := fun _ _ _ => tSeq (tAsg (tLst (tCons (tC (.str "ring")) (tCons (tC .non) tNil))) (gName 1)) tNext
theorem hot_in {X : Cx} {r : Addr} {o : Obj} {cl : Value} {dd : Option Addr} {pn : List (Addr × Obj)} (z : L2N.Zn cl dd o) (hf : ∃ fs, o.data = .fields fs) : HotC (X.suite r ((r, o) :: pn)) := by
  obtain ⟨vs, hd⟩ := hf
  exact ⟨(r, o), ⟨rfl, vs, hd, z.2.2 vs hd⟩, List.mem_cons_self⟩
set_option maxHeartbeats 0 in
theorem hears_kind {X : Cx} {q : Str} {k : Nat} {C CR g fF cK cN : Addr} {dF : FuncData} {cdg : Value} (DF : Def X.K X.mg "_law_face" sFace ["_law_thing"] fF dF) (Z : FreeT X.mg) (FC : FaceC X.K CR) (M : MetC X.K X.mg cK cN) (k6 : 6 ≤ k) :
    Hears X NKh "_law_heard" (defScope sKHeard) g cdg (defBody sKHeard) "_law_act" q k (TTK X.K C CR cK cN) := by
  have GH : FnH X.prog X.w X.K X.mg X.base CX0 6 fF dF ["_law_thing"] (spFaceB X.K CR) := FnH.either (ok_faceH DF Z 5) (ok_faceIH DF Z FC)
  intro f c s H Q act hr0 call hc tt
  have hr : Room 6 (X.A.deeper (PyProof.Rows.envOfC "_law_heard" (defScope sKHeard) s.heap.objs.size g cdg)) := hr0.mono k6
  have hrH := roomH_of hr
  refine ⟨_, pss_cons (ps_tryClsM (l := [(.ref cK, some 2, tSuiteK X.K CR cK), (.ref cN, none, tSuiteN)]) rfl rfl scKh.nd
        (fun W pn xe tk own => pss_one (ps_set (i := 1) scKh.nd rfl (.inl rfl) (pe_lst (pa_cons pe_str (pa_cons (call W pn xe _ _ tk) pa_nil)))))
        (.as_ (n := "e") (i := 2) rfl rfl ⟨rfl, by decide, .inl M.gK⟩ (fun r o cl dd pn z hf => pss_one (ps_set (i := 1) scKh.nd rfl (.inl rfl) (pe_lst (pa_cons pe_str (pa_cons (pe_callH (E := fun _ => E0) GH ⟨hrH.dp, hrH.un⟩ (hot_in z hf) rfl DF.g DF.kp DF.b passH0 (pa_cons (pe_xf M.xf M.no z.zc hf (pv 2)) pa_nil)) pa_nil)))))
        (.bare ⟨rfl, by decide, .inl M.gN⟩ (fun r o cl dd pn z hf => pss_one (ps_set (i := 1) scKh.nd rfl (.inl rfl) (pe_lst (pa_cons pe_str (pa_cons pe_non pa_nil)))))
        (.rest _))))
    (pss_one (ps_ret (pv 1))), ?_⟩
  rcases tt with ⟨sg, ps, run, told⟩ | ⟨run, told⟩ | ⟨x, run, told⟩
  · refine ⟨rfl, hc, run _ _ fun x H' s1 KA => ?_⟩
    refine ⟨(by show 2 ≤ sizeLine; decide), fun a ha => ?_⟩
    have s2 := Same.put (o := .lst [.str "told", .ref x]) (Same.refl H') ha
    exact ⟨_, rfl, told a x _ (s1.trans s2) (KA.same s2) upd_same⟩
  · refine ⟨rfl, hc, run _ _ fun H' s1 => ?_⟩
    refine ⟨false, M.nk, (fun z => by cases z), fun _ => ⟨true, M.nn, fun _ r _ => ?_, fun z => by cases z⟩⟩
    refine ⟨(by show 2 ≤ sizeLine; decide), fun a ha => ?_⟩
    exact ⟨_, rfl, told a _ (Same.put s1 ha) upd_same⟩
  · refine ⟨rfl, hc, run _ _ fun dx H' s1 n => ?_⟩
    have s2 : Same H (upd H' dx (.xd [("given", x)])) := Same.new2 s1 (free_of s1 n)
    refine ⟨true, M.kk, fun _ r _ => ?_, fun z => by cases z⟩
    refine ⟨_, rfl, rfl, rfl, dx, _, x, rfl, upd_same, List.lookup_cons_self, ?_⟩
    rcases told with ⟨d, th, told⟩ | ⟨q, dq, fs, rfl, hq, told⟩
    · refine .inl ⟨x, d, rfl, th.same s2, fun b G1 hb s3 d3 => ⟨(by show 2 ≤ sizeLine; decide), fun a ha => ⟨_, rfl, ?_⟩⟩⟩
      have s4 := s2.trans s3
      refine told a _ (free_of s4 ha) (Same.new2 s4 (free_of s4 ha)) (.lst (SqL.of ((New.at (free_of s4 ha)).trans upd_same)) (.cons (.str _) (.cons (Dp.stay (New.mono fun c u h1 h2 => ⟨free_of s2 h1, ?_⟩) d3) .nil)))
      rw [upd_ne (ne_of_none h2 ha)]
      exact h2
    · refine .inr ⟨q, dq, fs, rfl, s2 _ _ hq, fun b G1 hb s3 hb1 => ⟨(by show 2 ≤ sizeLine; decide), fun a ha => ⟨_, rfl, ?_⟩⟩⟩
      exact told a b _ (Same.put (s2.trans s3) ha) upd_same (keepA hb1 ha)
/-! ### the common row, as the law says it -/
theorem join_all (l : List Nat) : Txt.join (Str.ofString "") (l.map sOne) = S l := by
  cases l with
  | nil => decide +kernel
  | cons c l => exact join_one (Nat.succ_pos _)
section
variable {X : Cx}
open PyProof.Rows in
theorem call_sortedLs : CallR X (.builtin "sorted") (fun xs H Q => ∃ (a : Addr) (ks : List Str), xs = [.ref a] ∧ SqL X.K H a (ks.map V.str) ∧ ks.length < 64 ∧ ∀ ys p, ys.Perm ks → sortedS ys = true → H p = none → Q (.ref p) (upd H p (.lst (ys.map V.str)))) := by
  intro pins s σ H xs us Q I r q
  obtain ⟨a, ks, rfl, hq, h64, q⟩ := q
  rw [Vals.ref1 r]
  obtain ⟨its, rv, ⟨o, n, ho, hc, _, hd⟩, hz⟩ := I.list hq
  have hS : StrsAre its ks := rv.strs
  have hl : its.length = ks.length := hS.len_eq
  refine Calls.call_function_entry PyProof.Rows.kind_sorted PyProof.Rows.plain_sorted PyProof.Rows.entry_sorted (PyProof.Rows.args_sorted1 _) ?_
  unfold Builtin.«sorted»
  refine wpAny_bind (m := checkCount "sorted" 1 1 _) (wpAny_pure ?_)
  refine wpAny_bind (wpAny_collect_seq (A := X.A.in1) a (.inl rfl) ho hc hd (fun h' hk => ?_) (by rw [List.size_toArray, hl, sizeLine_eq]; omega))
  have I1 : Inv X pins σ H { s with heap := h' } := I.kept (t' := s.toks) hk
  exact sort_new I1 hS h64 q
end
end Wb
/-! _law_both: the common row, as the law says it -/
namespace Wb
open PySem L2 WbMin WbO WbS WbT Lz Le
def spBoth : Sp := fun vs H Q _ => ∃ (la lm : Addr) (sa sm sg : List Nat) (pa pm ps : List Str), vs = [.str (S sa), .str (S sm), .ref la, .ref lm] ∧ sa.length ≤ 4 ∧ PyProof.Rows.sortedS (sg.map sOne) = true ∧ sg.Perm sa ∧ PyProof.Rows.sortedS ps = true ∧ ps.Perm pa ∧ pa.length ≤ 16 ∧
  H la = some (.lst (pa.map V.str)) ∧ H lm = some (.lst (pm.map V.str)) ∧ ∀ (q u : Addr) (H' : Hp), H q = none → Same H H' → H' q = some (.tup [.str (S (cmS sg sm)), .ref u]) → H' u = some (.tup ((cmP ps pm).map V.str)) → Q (.ref q) H'
abbrev NBo : List Str := ["_law_abc", "_law_mate_abc", "_law_some", "_law_mate_some", "_law_common", "_law_mark", "_law_mate"]
theorem scBo : FnScope NBo ["_law_abc", "_law_mate_abc", "_law_some", "_law_mate_some"] (defScope sBoth) := ⟨rfl, rfl, rfl, by decide +kernel, rfl, by decide +kernel, by decide +kernel⟩
section
variable {P : Program} {w : World} {K : PySem.W.Frag} {mg : Str → Option Value} {base : Heap} {f : Addr} {fd : FuncData}
set_option maxHeartbeats 0 in
theorem ok_both (F : Fun K "_law_both" "_law_both" sBoth f fd) (mS : mg "sorted" = none) (mT : mg "tuple" = none) : FnOk P w K mg base CX0 1 f fd ["_law_abc", "_law_mate_abc", "_law_some", "_law_mate_some"] spBoth := by
  refine F.ok scBo (fun vs H Q E h => by obtain ⟨la, lm, sa, sm, sg, pa, pm, ps, rfl, _⟩ := h; rfl) (fun cdv A outer s H vs Q E hr h => ?_)
  obtain ⟨la, lm, sa, sm, sg, pa, pm, ps, rfl, few, so, psg, po, pps, pfew, ha, hm, k⟩ := h
  refine ⟨_, pss_cons (ps_set (i := 4) scBo.nd rfl (.inl rfl) (pe_join pe_str (pe_lc (own := [("_law_mark", 5)]) (g := gName 5) rfl scBo.nd (pi_list (pe_callB (call_sortedTx rfl) (by rfl) mS (by decide +kernel) (pa_cons (pv 0) pa_nil))) (blkOk_by (N := NBo) (sc := defScope sBoth) (by decide +kernel)) (fun _ _ _ _ _ => pg_name (i := 5) scBo.nd rfl (.inl rfl))
      (fun _ _ _ _ _ => pts_one (pt_cmpR op_in_sign (pv 5) (pv 1) rfl)) (fun _ _ _ _ _ => pv 5))))
    (pss_one (ps_ret (pe_tup (pa_cons (pv 4) (pa_cons (pe_callTy call_tuple_of (by rfl) mT (by decide +kernel) (pa_cons
      (pe_lc (own := [("_law_mate", 6)]) (g := gName 6) rfl scBo.nd (pi_list (pe_callB call_sortedLs (by rfl) mS (by decide +kernel) (pa_cons (pv 2) pa_nil))) (blkOk_by (N := NBo) (sc := defScope sBoth) (by decide +kernel)) (fun _ _ _ _ _ => pg_name (i := 6) scBo.nd rfl (.inl rfl))
        (fun _ _ _ _ _ => pts_one (pt_cmpR (show OpR _ _ (rIn K false) from op_in_seq) (pv 6) (pv 3) (by rfl))) (fun _ _ _ _ _ => pv 6)) pa_nil)) pa_nil))))), ?_⟩
  have sl : sg.length = sa.length := psg.length_eq
  have pl : ps.length = pa.length := pps.length_eq
  refine ⟨⟨_, rfl⟩, _, rfl, S sa, rfl, by rw [S_len]; omega, fun ys p perm srt hp => ?_⟩
  rw [S_cps] at perm
  obtain ⟨sg', hsg, rfl⟩ := perm_codes perm
  obtain rfl : sg' = sg := sg_same srt so hsg psg
  have s1 : Same H (upd H p (.lst ((sg'.map sOne).map V.str))) := Same.put (Same.refl H) hp
  have h1 := upd_same (H := H) (a := p) (o := .lst ((sg'.map sOne).map V.str))
  generalize upd H p (.lst ((sg'.map sOne).map V.str)) = H1 at s1 h1 ⊢
  have few' : sg'.length ≤ 4 := by omega
  refine ⟨p, rfl, ⟨_, SqL.of h1⟩, fun D0 hD => lc_it (walk_list (xs := (sg'.map sOne).map V.str)) (fun i H3 => H3 D0 = some (.lst (((sg'.take i).filter fun c => decide (c ∈ sm)).map vOne)) ∧ Same H1 H3) ⟨upd_same, Same.put (Same.refl H1) hD⟩ (fun _ _ _ h => SqL.of (h.2 _ _ h1)) ?_ ?_⟩
  · rintro i x H3 H3' hi ⟨g1, g2⟩ ⟨rfl, hx⟩
    rw [List.getElem?_map] at hx
    obtain ⟨z, hz, rfl⟩ := Option.map_eq_some_iff.mp hx
    rw [List.getElem?_map] at hz
    obtain ⟨c, hc, rfl⟩ := Option.map_eq_some_iff.mp hz
    refine ⟨rfl, _, rfl, _, rfl, c, S sm, rfl, rfl, _, rfl, ?_⟩
    rw [S_cps]
    have ft := filter_take (fun c => decide (c ∈ sm)) hc
    cases hm' : decide (c ∈ sm) with
    | true =>
      rw [hm', if_pos rfl] at ft
      refine iteT ⟨_, rfl, _, g1, ?_, ?_, Same.new' g2 hD⟩
      · rw [List.length_map, sizeLine_eq]
        have := List.length_filter_le (fun c => decide (c ∈ sm)) (sg'.take i)
        have := List.length_take_le' i sg'
        omega
      · rw [upd_same, ft, List.map_append] <;> rfl
    | false =>
      rw [hm', if_neg (by decide), List.append_nil] at ft
      refine iteF ⟨?_, g2⟩
      rw [ft]
      exact g1
  · rintro H3 ⟨g1, g2⟩
    rw [List.length_map, List.length_map, List.take_length] at g1
    have g1 : H3 D0 = some (.lst ((cmS sg' sm).map vOne)) := g1
    have l4 : (cmS sg' sm).length ≤ 4 := Nat.le_trans (cm_len sg' sm) few'
    refine ⟨_, D0, (cmS sg' sm).map sOne, rfl, rfl, .inl (SqL.of (by rw [g1, List.map_map] <;> rfl)), one_sum _ l4, ?_⟩
    rw [join_all]
    have s3 : Same H H3 := s1.trans g2
    refine ⟨_, rfl, _, rfl, la, pa, rfl, SqL.of (s3 _ _ ha), by omega, fun ys p2 perm2 srt2 hp2 => ?_⟩
    obtain rfl : ys = ps := sorted_same srt2 po (perm2.trans pps.symm)
    have s4 : Same H (upd H3 p2 (.lst (ys.map V.str))) := Same.put s3 hp2
    have h4 := upd_same (H := H3) (a := p2) (o := .lst (ys.map V.str))
    generalize upd H3 p2 (.lst (ys.map V.str)) = H4 at s4 h4 ⊢
    refine ⟨p2, rfl, ⟨_, SqL.of h4⟩, fun D1 hD1 => lc_it (walk_list (xs := ys.map V.str)) (fun i H5 => H5 D1 = some (.lst (((ys.take i).filter fun z => decide (z ∈ pm)).map V.str)) ∧ Same H4 H5) ⟨upd_same, Same.put (Same.refl H4) hD1⟩ (fun _ _ _ h => SqL.of (h.2 _ _ h4)) ?_ ?_⟩
    · rintro i x H5 H5' hi ⟨k1, k2⟩ ⟨rfl, hx⟩
      rw [List.getElem?_map] at hx
      obtain ⟨z, hz, rfl⟩ := Option.map_eq_some_iff.mp hx
      refine ⟨rfl, _, rfl, _, rfl, lm, _, rfl, .inl (SqL.of (k2 _ _ (s4 _ _ hm))), rfl, flat_strs pm, _, rfl, ?_⟩
      have ft := filter_take (fun z => decide (z ∈ pm)) hz
      show if inV (.str z) (pm.map V.str) = true then _ else _
      rw [inV_strs]
      cases hm' : decide (z ∈ pm) with
      | true =>
        rw [hm', if_pos rfl] at ft
        refine iteT ⟨_, rfl, _, k1, ?_, ?_, Same.new' k2 hD1⟩
        · rw [List.length_map, sizeLine_eq]
          have := List.length_filter_le (fun z => decide (z ∈ pm)) (ys.take i)
          have := List.length_take_le' i ys
          omega
        · rw [upd_same, ft, List.map_append] <;> rfl
      | false =>
        rw [hm', if_neg (by decide), List.append_nil] at ft
        refine iteF ⟨?_, k2⟩
        rw [ft]
        exact k1
    · rintro H5 ⟨k1, k2⟩
      rw [List.length_map, List.take_length] at k1
      have k1 : H5 D1 = some (.lst ((cmP ys pm).map V.str)) := k1
      refine ⟨D1, _, rfl, .inl ⟨SqL.of k1, fun u hu => ⟨by show 2 ≤ sizeLine; decide, fun q hq => ?_⟩⟩⟩
      have s6 : Same H (upd H5 u (.tup ((cmP ys pm).map V.str))) := Same.put (s4.trans k2) hu
      exact k q u _ (none_of_same s6 hq) (Same.put s6 hq) upd_same (keepA upd_same hq)
end
end Wb
/-! o == v, o != v with a v of any type (out of k08's WbE) -/
namespace WbO
open PySem PySem.Spec PyProof.Rows L2
section
variable {X : Cx} {CX : CXT} {k : Nat} {C g : Addr} {fd : FuncData} {ps : List Str} {sp : Sp} {E : XK}
end
end WbO
/-! kinds met: what the law makes of them -/
namespace WbO
open PySem PySem.Spec PyProof.Rows L2
section
variable {X : Cx} {CX : CXT} {k : Nat} {C g : Addr} {fd : FuncData} {ps : List Str} {sp : Sp} {E : XK}
def rInO (C : Addr) (sp : Sp) (E : XK) : R2 := fun x y H Q => ∃ (a dx : Addr) (fs : List (Str × V)), y = .ref a ∧ H a = some (.ins C dx fs) ∧ sp [.ref a, x] H (fun v H' => ∃ c : Bool, v = .bl c ∧ Q (.bl c) H') E
theorem op_inO (hs : PySem.W.findIn X.K (.ref C) "__contains__" = some (some (.ref g))) (hf : PySem.W.isFn X.K (.ref g) = true) (F : FnOk X.prog X.w X.K X.mg X.base CX k g fd ps sp) (hr : Room k X.A) (hb : Binds X.K fd ps []) (hx : Passes CX X.nox E) : OpR X (compareOp .In) (rInO C sp E) := by
  intro pins s σ H x y v u Q I rx ry h
  obtain ⟨a, dx, fs, rfl, ha, q⟩ := h
  cases (show u = Value.ref a from ry)
  obtain ⟨mA, O, _⟩ := ins_get I.hok ha
  obtain ⟨od, J, _⟩ := O.look
  obtain ⟨m, hF⟩ := I.fr
  refine PySem.W.in_K hF I.ok.mod.kin J hs hf (wpAny_mono (run_at (vs := [.ref a, x]) (us := [.ref a, v]) F hr I.env0 hb hx I (.cons rfl (.cons rx .nil)) q) (fun w s' z => ?_) fun _ _ e => e)
  obtain ⟨z', H', I', rz, c, rfl, qz⟩ := z
  cases (show w = Value.bool c from rz)
  exact wpAny_truthy_bool ⟨.bl c, H', I', rfl, qz⟩
end
end WbO
namespace Wb
open PySem L2 WbMin WbO WbS WbT Lz Le
theorem KindAt.noT {C : Addr} {H : Hp} {r : Addr} {sg : List Nat} {ps : List Str} (h : KindAt C H r sg ps) : KindAt C (noT H) r sg ps := by
  obtain ⟨dx, t, b, e1, e2⟩ := h
  exact ⟨dx, t, b, noT_at e1 (fun _ z => by cases z), noT_at e2 (fun _ z => by cases z)⟩
theorem KindAt.xt {C : Addr} {H H' : Hp} {r : Addr} {sg : List Nat} {ps : List Str} (h : KindAt C H r sg ps) (x : Xt H H') : KindAt C H' r sg ps := h.noT.same x
theorem RingAt.xt {C : Addr} {H H' : Hp} {r : Addr} {l : List Nat} (h : RingAt C H r l) (x : Xt H H') : RingAt C H' r l := by
  obtain ⟨W, dx, e⟩ := h
  exact ⟨W, dx, x _ _ (noT_at e (fun _ z => by cases z))⟩
theorem goes_cm (l : List Nat) (ps pm : List Str) : goesB l (cmP ps pm) = (goesB l ps && goesB l pm) := by
  rw [Bool.eq_iff_iff, Bool.and_eq_true, goes_iff, goes_iff, goes_iff]
  unfold cmP
  constructor
  · exact fun h => ⟨fun i hi => (List.mem_filter.mp (h i hi)).1, fun i hi => of_decide_eq_true (List.mem_filter.mp (h i hi)).2⟩
  · exact fun h i hi => List.mem_filter.mpr ⟨h.1 i hi, decide_eq_true (h.2 i hi)⟩
theorem goes_none {l sg sm : List Nat} {ps pm : List Str} (h0 : 0 < l.length) (p1 : ∀ z ∈ ps, PairOf sg z) (p2 : ∀ z ∈ pm, PairOf sm z) (no : cmS sg sm = []) : (goesB l ps && goesB l pm) = false := by
  cases q : (goesB l ps && goesB l pm) with
  | false => rfl
  | true =>
    obtain ⟨q1, q2⟩ := Bool.and_eq_true _ _ ▸ q
    rw [goes_iff] at q1 q2
    obtain ⟨a, b, ha, hb, e⟩ := p1 _ (q1 0 h0)
    obtain ⟨a2, b2, ha2, hb2, e2⟩ := p2 _ (q2 0 h0)
    have q := S_inj (e.symm.trans e2)
    injection q with q1 q2
    have m : a ∈ cmS sg sm := List.mem_filter.mpr ⟨ha, decide_eq_true (by rw [q1]; exact ha2)⟩
    rw [no] at m
    cases m
theorem cmS_perm {sg a b : List Nat} (h : a.Perm b) : cmS sg a = cmS sg b := List.filter_congr fun _ _ => decide_eq_decide.mpr h.mem_iff
theorem cmP_perm {ps a b : List Str} (h : a.Perm b) : cmP ps a = cmP ps b := List.filter_congr fun _ _ => decide_eq_decide.mpr h.mem_iff
theorem cmS_nil {a b : List Nat} (h : cmS a b = []) : cmS b a = [] := List.eq_nil_iff_forall_not_mem.mpr fun c hc => by
  obtain ⟨h1, h2⟩ := List.mem_filter.mp hc
  have m : c ∈ cmS a b := List.mem_filter.mpr ⟨of_decide_eq_true h2, decide_eq_true h1⟩
  rw [h] at m
  cases m
theorem cmS_comm {sg sm : List Nat} {ps pm : List Str} (h : KOk sg ps) (h2 : KOk sm pm) (ne : cmS sg sm ≠ []) : cmS sg sm = cmS sm sg ∧ cmP ps pm = cmP pm ps := by
  have ne2 : cmS sm sg ≠ [] := fun e => ne (cmS_nil e)
  have A := h.meet h2 ne
  have B := h2.meet h ne2
  refine ⟨sg_same A.so B.so ((List.perm_ext_iff_of_nodup A.sgs.nd B.sgs.nd).mpr fun c => ?_) (List.Perm.refl _), sorted_same A.po B.po ((List.perm_ext_iff_of_nodup A.prs.nd B.prs.nd).mpr fun c => ?_)⟩
  · unfold cmS
    rw [List.mem_filter, List.mem_filter, decide_eq_true_iff, decide_eq_true_iff]
    exact And.comm
  · unfold cmP
    rw [List.mem_filter, List.mem_filter, decide_eq_true_iff, decide_eq_true_iff]
    exact And.comm
theorem kok_of {sg sg' : List Nat} {ps ps' : List Str} (G : Sgs sg) (P : Prs sg ps) (p1 : sg'.Perm sg) (s1 : PyProof.Rows.sortedS (sg'.map sOne) = true) (p2 : ps'.Perm ps) (s2 : PyProof.Rows.sortedS ps' = true) : KOk sg' ps' :=
  ⟨⟨fun c hc => G.low c (p1.mem_iff.mp hc), p1.nodup_iff.mpr G.nd, by rw [p1.length_eq]; exact G.pos, by rw [p1.length_eq]; exact G.few⟩,
   ⟨fun z hz => (by
      obtain ⟨a, b, ha, hb, e⟩ := P.of z (p2.mem_iff.mp hz)
      exact ⟨a, b, p1.mem_iff.mpr ha, p1.mem_iff.mpr hb, e⟩), p2.nodup_iff.mpr P.nd, by rw [p2.length_eq]; exact P.few⟩, s1, s2⟩
/-! ### a row as data -/
def rowD (sg : List Nat) (ps : List Str) : PyData := .tuple [.str (S sg), .tuple (ps.map PyData.str)]
theorem strs_ok {sg : List Nat} {ps : List Str} (G : Sgs sg) (P : ∀ z ∈ ps, PairOf sg z) : Prs' ps := fun z hz => by
  obtain ⟨a, b, ha, hb, rfl⟩ := P z hz
  unfold PyData.strOk S
  rw [Array.all_eq_true]
  intro i hi
  have := G.low a ha
  have := G.low b hb
  have hi' : i < 2 := hi
  match i, hi' with
  | 0, _ => show decide _ = true; simp only [decide_eq_true_eq]; show a < _; omega
  | 1, _ => show decide _ = true; simp only [decide_eq_true_eq]; show b < _; omega
theorem S_ok {l : List Nat} (h : ∀ c ∈ l, c < 1000) : PyData.strOk (S l) = true := by
  unfold PyData.strOk S
  rw [Array.all_eq_true]
  intro i hi
  show decide _ = true
  simp only [decide_eq_true_eq]
  have m : l.toArray[i] ∈ l := by simp
  have := h _ m
  show l.toArray[i] < _
  omega
theorem rowD_ok {sg : List Nat} {ps : List Str} (h : ∀ c ∈ sg, c < 1000) (P : Prs' ps) : (rowD sg ps).canLay0 = true ∧ PyData.depth (rowD sg ps) ≤ 3 := by
  refine ⟨?_, ?_⟩
  · show (PyData.strOk (S sg) && (PyData.canLayAll0 (ps.map PyData.str) && true)) = true
    rw [S_ok h, can_strs P] <;> rfl
  · show max 0 (max (PyData.depthAll (ps.map PyData.str) + 1) 0) + 1 ≤ 3
    rw [depthAll_strs]
    decide
theorem row_dp {K : PySem.W.Frag} {H : Hp} {q t : Addr} {sg : List Nat} {ps : List Str} (h1 : H q = some (.tup [.str (S sg), .ref t])) (h2 : H t = some (.tup (ps.map V.str))) : Dp K H (.ref q) (rowD sg ps) := .tup (SqT.of h1) (.cons (.str _) (.cons (.tup (SqT.of h2) (dp_strs ps)) .nil))
theorem ne_pool {H : Hp} {p a : Addr} {x : V} {xs : List V} (hp : PoolAt H p) (h : H a = some (.lst (x :: xs))) (n : ∀ i, x ≠ .int i) : a ≠ p := pool_other hp h fun i _ _ q => by
  injection q with q
  injection q with q _
  exact n i q
/-- the face of a row -/
theorem row_any {H : Hp} {p q t : Addr} {sg : List Nat} {ps : List Str} (hp : PoolAt H p) (h1 : H q = some (.tup [.str (S sg), .ref t])) (h2 : H t = some (.tup (ps.map V.str))) (low : ∀ c ∈ sg, c < 1000) (P : Prs' ps) (few : ps.length ≤ 16) : ∃ d, Any p H (.ref q) d := by
  have n1 : q ≠ p := pool_other hp h1 fun _ _ _ z => by cases z
  have n2 : t ≠ p := pool_other hp h2 fun _ _ _ z => by cases z
  have c1 : cut H p q = some (.tup [.str (S sg), .ref t]) := (if_neg n1).trans h1
  have c2 : cut H p t = some (.tup (ps.map V.str)) := (if_neg n2).trans h2
  have go : ∀ l : List Str, Both (Thing (cut H p) 3) (l.map V.str) (l.map fun z => plainD (.str z)) := fun l => by
    induction l with
    | nil => exact .nil
    | cons z l ih => exact .cons (.inl (.str z)) ih
  have can : ∀ l : List Str, Prs' l → PyData.canLayAll0 (l.map fun z => plainD (.str z)) = true := fun l => by
    induction l with
    | nil => exact fun _ => rfl
    | cons z l ih =>
      intro h
      show ((PyData.strOk "plain" && (PyData.strOk z && true)) && PyData.canLayAll0 (l.map fun z => plainD (.str z))) = true
      rw [ih fun y hy => h y (List.mem_cons_of_mem _ hy), h z List.mem_cons_self] <;> decide +kernel
  have dep : ∀ l : List Str, PyData.depthAll (l.map fun z => plainD (.str z)) ≤ 1 := fun l => by
    induction l with
    | nil => exact Nat.zero_le _
    | cons z l ih =>
      show max (max 0 (max 0 0) + 1) (PyData.depthAll (l.map fun z => plainD (.str z))) ≤ 1
      omega
  refine ⟨.list (.str "tuple" :: [plainD (.str (S sg)), .list (.str "tuple" :: ps.map fun z => plainD (.str z))]), ⟨.inr (.inr (.inl ⟨q, _, _, rfl, c1, by show 2 ≤ 1000; decide, .cons (.inl (.str _)) (.cons (.inr (.inr (.inl ⟨t, _, _, rfl, c2, by rw [List.length_map]; omega, go ps, rfl⟩))) .nil), rfl⟩)), (fun z e => by cases e), (fun i e => by cases e), ?_, ?_⟩⟩
  · show (PyData.strOk "tuple" && ((PyData.strOk "plain" && (PyData.strOk (S sg) && true)) && ((PyData.strOk "tuple" && PyData.canLayAll0 (ps.map fun z => plainD (.str z))) && true))) = true
    rw [S_ok low, can ps P]
    decide +kernel
  · have := dep ps
    show max 0 (max (max 0 (max 0 0) + 1) (max (max 0 (PyData.depthAll (ps.map fun z => plainD (.str z))) + 1) 0)) + 1 ≤ 60
    omega
theorem S_any {H : Hp} {p : Addr} {l : List Nat} (low : ∀ c ∈ l, c < 1000) (few : l.length ≤ 2000) : ∃ d, Any p H (.str (S l)) d := by
  refine ⟨_, .inl (.str _), (fun z e => ⟨l, by cases e; rfl, ⟨few, low⟩⟩), (fun i e => by cases e), ?_, by show max 0 (max 0 0) + 1 ≤ 60; decide⟩
  show (PyData.strOk "plain" && (PyData.strOk (S l) && true)) = true
  rw [S_ok low]
  decide +kernel
end Wb
namespace Wb
open PySem L2 WbMin WbO WbS WbT Lz Le LamX
abbrev sRight : Stmt := top 49
abbrev sLaw : Stmt := top 50
structure DA where
  (cell pool draw shuf face odd signs every couples heard along both right : Addr)
  (dcell dpool ddraw dshuf dface dodd dsigns devery dcouples dheard dalong dboth dright : FuncData)
structure Defs (K : PySem.W.Frag) (mg : Str → Option Value) (D : DA) : Prop where
  cell : Def K mg "_law_cell" sCell ["_law_script", "_law_k"] D.cell D.dcell
  pool : Def K mg "_law_pool" sPool ["_law_cell_here"] D.pool D.dpool
  draw : Def K mg "_law_draw" sDraw ["_law_pool_here", "_law_many"] D.draw D.ddraw
  shuf : Def K mg "_law_shuffled" sShuf ["_law_pool_here", "_law_things"] D.shuf D.dshuf
  face : Def K mg "_law_face" sFace ["_law_thing"] D.face D.dface
  odd : Def K mg "_law_odd" sLOdd ["_law_pool_here"] D.odd D.dodd
  signs : Def K mg "_law_signs" sSigns ["_law_pool_here", "_law_most"] D.signs D.dsigns
  every : Def K mg "_law_every" sEvery ["_law_abc"] D.every D.devery
  couples : Def K mg "_law_couples" sCouples ["_law_pool_here", "_law_abc"] D.couples D.dcouples
  heard : Def K mg "_law_heard" sKHeard ["_law_act"] D.heard D.dheard
  along : Def K mg "_law_along" sAlong ["_law_pool_here", "_law_abc", "_law_some"] D.along D.dalong
  both : Def K mg "_law_both" sBoth ["_law_abc", "_law_mate_abc", "_law_some", "_law_mate_some"] D.both D.dboth
  right : Def K mg "_law_right" sRight ["_law_pool_here"] D.right D.dright
/-- a def whose code object is known: it makes lambdas -/
structure FunT (K : PySem.W.Frag) (x qual : Str) (st : Stmt) (f : Addr) (fd : FuncData) (c : Addr) : Prop where
  ex : ∃ (oc : Value) (od : Option Addr) (kV doc pm : Value) (an : Option Addr) (ct : Value) (osl : Array (Option Value)),
    fd = PySem.W.fnOf x qual (defArgs st) (defBody st) (defScope st) .none kV doc pm an (.ref c) ct ∧ K.lookup f = some ⟨oc, od, .func fd, osl⟩ ∧ PySem.W.codeIn K (.ref c) qual = true
section
variable {P : Program} {w : World} {K : PySem.W.Frag} {mg : Str → Option Value} {base : Heap}
theorem okT {x qual : Str} {st : Stmt} {f c : Addr} {fd : FuncData} {N ps : List Str} {k : Nat} {sp : Sp} (F : FunT K x qual st f fd c) (S : FnScope N ps (defScope st)) (len : ∀ vs H Q E, sp vs H Q E → vs.length = ps.length)
    (body : ∀ (A : Around) (outer : List Env) (s : Shared) (H : Hp) (vs : List V) (Q : VK) (E : XK), Room k (A.deeper (PyProof.Rows.envOfC qual (defScope st) s.heap.objs.size f (.ref c))) → sp vs H Q E →
      ∃ t, PSs (cxOf CX0 P w K mg base N qual (defScope st) f (.ref c) A outer s H E).nox (defBody st) t ∧ t { nx := fun _ H' => Q .non H', rt := Q } (L2.start N vs) H) : FnOk P w K mg base CX0 (k + 1) f fd ps sp := by
  obtain ⟨_, _, _, _, _, _, _, _, rfl, at_, code⟩ := F.ex
  refine fn_of at_ code S len fun A outer s H vs Q E hr h => ?_
  obtain ⟨t, h1, q⟩ := body A outer s H vs Q E hr h
  exact ⟨t, h1.nox, q⟩
end
theorem passNk {X : Cx} {E : XK} (tk : L2N.Takes X (fun cls d _ H => E cls d H)) : Passes (L2N.CX X.prog X.w) X E := L2N.passes_call tk fun _ _ _ _ h => h
abbrev qLam : Str := "_law_right.<locals>.<lambda>"
/-- what & asks of the types of what stands right of it -/
structure AndF (K : PySem.W.Frag) (C CR : Addr) : Prop where
  ti : OpT K C "and" "int"
  tb : OpT K C "and" "bool"
  tn : OpT K C "and" "NoneType"
  ts : OpT K C "and" "str"
  tl : OpT K C "and" "list"
  tt : OpT K C "and" "tuple"
  td : OpT K C "and" "dict"
  ki : PySem.W.kitOne K (.type "int") (.ref C) = some false
  kb : PySem.W.kitOne K (.type "bool") (.ref C) = some false
  kn : PySem.W.kitOne K (.type "NoneType") (.ref C) = some false
  ks : PySem.W.kitOne K (.type "str") (.ref C) = some false
  kl : PySem.W.kitOne K (.type "list") (.ref C) = some false
  kt : PySem.W.kitOne K (.type "tuple") (.ref C) = some false
  kd : PySem.W.kitOne K (.type "dict") (.ref C) = some false
  nr : OpN K C CR "and"
  kr : PySem.W.kitOne K (.ref CR) (.ref C) = some false
theorem Any.andT {K : PySem.W.Frag} {C CR p : Addr} (G : AndF K C CR) {H : Hp} {x : V} {d : PyData} (h : Any p H x d) : ∃ t, TyX K H x (.type t) ∧ OpT K C "and" t ∧ PySem.W.kitOne K (.type t) (.ref C) = some false := by
  rcases h.sort with ⟨l, rfl, _⟩ | ⟨i, rfl⟩ | n
  · exact ⟨_, .base (.str _), G.ts, G.ks⟩
  · exact ⟨_, .base (.int i), G.ti, G.ki⟩
  · cases n with
    | non => exact ⟨_, .base .non, G.tn, G.kn⟩
    | bl b => exact ⟨_, .base (.bl b), G.tb, G.kb⟩
    | lst g => exact ⟨_, .base (.lst g), G.tl, G.kl⟩
    | tup g => exact ⟨_, .base (.tup g), G.tt, G.kt⟩
    | dK g => exact ⟨_, .base (.dK g), G.td, G.kd⟩
/-- what stays of the law's things -/
structure RT (C p kd km la lm : Addr) (sgA sgM : List Nat) (pA pM psA psM : List Str) (Tb : List (Addr × Str)) (H : Hp) : Prop where
  A : KindAt C H kd sgA psA
  M : KindAt C H km sgM psM
  hA : H la = some (.lst (pA.map V.str))
  hM : H lm = some (.lst (pM.map V.str))
  po : PoolAt H p
  tb : Tabs Tb H
/-- what has been heard of two kinds met -/
def NearAt (C : Addr) (H : Hp) (a : Addr) (sg : List Nat) (ps : List Str) : Prop := (sg ≠ [] ∧ ∃ x, H a = some (.lst [.str "told", .ref x]) ∧ KindAt C H x sg ps) ∨ (sg = [] ∧ H a = some (.lst [.str "ring", .non]))
section
variable {C p kd km la lm : Addr} {sgA sgM : List Nat} {pA pM psA psM : List Str} {Tb : List (Addr × Str)} {H H' : Hp}
theorem kind_ne {r : Addr} {sg : List Nat} {ps : List Str} (h : KindAt C H r sg ps) (hp : PoolAt H p) : r ≠ p := by
  obtain ⟨dx, t, b, e1, e2⟩ := h
  exact pool_other hp e1 fun _ _ _ z => by cases z
theorem RT.but (h : RT C p kd km la lm sgA sgM pA pM psA psM Tb H) (b : But p H H') (po : PoolAt H' p) : RT C p kd km la lm sgA sgM pA pM psA psM Tb H' :=
  ⟨h.A.but b (kind_ne h.A h.po) h.po, h.M.but b (kind_ne h.M h.po) h.po, b _ _ (Wb.pool_ne h.po h.hA) h.hA, b _ _ (Wb.pool_ne h.po h.hM) h.hM, po, Tabs.but h.tb h.po b⟩
theorem RT.xt (h : RT C p kd km la lm sgA sgM pA pM psA psM Tb H) (x : Xt H H') (tb : Tabs Tb H') : RT C p kd km la lm sgA sgM pA pM psA psM Tb H' :=
  ⟨h.A.xt x, h.M.xt x, x _ _ (noT_at h.hA fun _ z => by cases z), x _ _ (noT_at h.hM fun _ z => by cases z), PoolAt.xt h.po x, tb⟩
theorem RT.same (h : RT C p kd km la lm sgA sgM pA pM psA psM Tb H) (s : Same H H') : RT C p kd km la lm sgA sgM pA pM psA psM Tb H' := h.xt (Xt.of s) (Tabs.ext h.tb s)
theorem NearAt.xt {a : Addr} {sg : List Nat} {ps : List Str} (h : NearAt C H a sg ps) (x : Xt H H') : NearAt C H' a sg ps := by
  rcases h with ⟨n, y, h1, h2⟩ | ⟨n, h1⟩
  · exact .inl ⟨n, y, x _ _ (noT_at h1 fun _ z => by cases z), h2.xt x⟩
  · exact .inr ⟨n, x _ _ (noT_at h1 fun _ z => by cases z)⟩
theorem NearAt.same {a : Addr} {sg : List Nat} {ps : List Str} (h : NearAt C H a sg ps) (s : Same H H') : NearAt C H' a sg ps := h.xt (Xt.of s)
theorem NearAt.but {a : Addr} {sg : List Nat} {ps : List Str} (h : NearAt C H a sg ps) (hp : PoolAt H p) (b : But p H H') : NearAt C H' a sg ps := by
  rcases h with ⟨n, y, h1, h2⟩ | ⟨n, h1⟩
  · exact .inl ⟨n, y, b _ _ (ne_pool hp h1 fun i z => by cases z) h1, h2.but b (kind_ne h2 hp) hp⟩
  · exact .inr ⟨n, b _ _ (ne_pool hp h1 fun i z => by cases z) h1⟩
end
theorem told_ok {p : Addr} {H : Hp} {y : V} {d : PyData} (hy : Any p H y d) {z : Str} (hz : PyData.strOk z = true) : (PyData.list [.str z, d]).canLay0 = true ∧ PyData.depth (PyData.list [.str z, d]) ≤ 64 := by
  refine ⟨?_, ?_⟩
  · show (PyData.strOk z && (d.canLay0 && true)) = true
    rw [hz, hy.2.2.2.1] <;> rfl
  · show max 0 (max (PyData.depth d) 0) + 1 ≤ 64
    have := hy.2.2.2.2
    omega
theorem refRing_ok : (PyData.list [.str "ring", .none]).canLay0 = true ∧ PyData.depth (PyData.list [.str "ring", .none]) ≤ 64 := ⟨by decide +kernel, by decide +kernel⟩
theorem same_all {sg sg2 : List Nat} {ps ps2 : List Str} (h : sg = sg2) (h2 : ps = ps2) : true = sameK sg sg2 ps ps2 := by
  unfold sameK
  rw [decide_eq_true h, decide_eq_true h2] <;> rfl
theorem low_of {sg : List Nat} (G : Sgs sg) : ∀ c ∈ sg, c < 1000 := fun c hc => by
  have := G.low c hc
  omega
theorem cmS_self (sg : List Nat) : cmS sg sg = sg := List.filter_eq_self.mpr fun _ h => decide_eq_true h
theorem cmP_self (ps : List Str) : cmP ps ps = ps := List.filter_eq_self.mpr fun _ h => decide_eq_true h
theorem neR {H : Hp} {Q : VK} {K : PySem.W.Frag} {a b : Addr} (h1 : H a = some (.lst [.str "ring", .non])) (h2 : H b = some (.lst [.str "ring", .non])) (k : Q (.bl false) H) : rNeD K (.ref a) (.ref b) H Q :=
  heard_due (d := .list [.str "ring", .none]) (.lst (SqL.of h1) (.cons (.str _) (.cons .non .nil))) (.lst (SqL.of h2) (.cons (.str _) (.cons .non .nil))) refRing_ok k
def spRightT (c P : Addr) : Sp := fun vs H Q _ => ∃ p : Addr, vs = [.ref p] ∧ PoolAt H p ∧ Tabs [(P, qLam)] H ∧ ∀ H', Bt p H H' → Tabs [(P, qLam)] H' → Q (.bl true) H'
abbrev NR : List Str := ["_law_pool_here", "_law_abc", "_law_mate_abc", "_law_some", "_law_mate_some", "_law_kind", "_law_mate", "_law_line", "_law_near", "_law_far", "_law_turn", "_law_ring", "_law_due", "_law_odd_here", "_law_rows_here"]
theorem scRi : FnScope NR ["_law_pool_here"] (defScope sRight) := ⟨rfl, rfl, rfl, by decide +kernel, rfl, by decide +kernel, by decide +kernel⟩
theorem estRi (p : Addr) : L2.start NR [V.ref p] = [some (V.ref p), none, none, none, none, none, none, none, none, none, none, none, none, none, none] := rfl
def spAndAll (K : PySem.W.Frag) (C CN CK : Addr) : Sp := fun vs H Q E => spKAnd C vs H Q E ∨ spKAndN C CN vs H Q E ∨ spKAndK K C CK vs H Q E
section
variable {P : Program} {w : World} {K : PySem.W.Frag} {mg : Str → Option Value} {base : Heap} {f c Pt : Addr} {fd : FuncData} {A : KA} {B : KB} {D : DA}
set_option maxHeartbeats 0 in
theorem ok_right (F : FunT K "_law_right" "_law_right" sRight f fd c) (TB : TabB base mg c Pt) (Z : Free mg) (ZT : FreeT mg) (R : KindF K mg A) (M : KmF K mg A B) (FC : FaceC K B.CR) (S3 : MetC K mg B.cNK B.cNR) (G : AndF K A.C B.CR)
    (D' : Defs K mg D) : FnOk P w K mg base CX0 9 f fd ["_law_pool_here"] (spRightT c Pt) := by
  obtain ⟨t6, g6⟩ := R.w6
  have GD : FnOk P w K mg base CX0 1 D.draw D.ddraw ["_law_pool_here", "_law_many"] spDraw := ok_draw D'.draw.F Z.int Z.divmod
  have GS : FnOk P w K mg base CX0 2 D.signs D.dsigns ["_law_pool_here", "_law_most"] spSigns := ok_signs D'.signs.F D'.draw Z.int Z.divmod Z.len Z.range
  have GSh : FnOk P w K mg base CX0 2 D.shuf D.dshuf ["_law_pool_here", "_law_things"] spShufA := ok_shufA D'.shuf.F D'.draw Z R.lst
  have GC : FnOk P w K mg base CX0 3 D.couples D.dcouples ["_law_pool_here", "_law_abc"] spCouples := ok_couples D'.couples.F D'.draw D'.every D'.shuf Z R.lst
  have GA : FnOk P w K mg base CX0 2 D.along D.dalong ["_law_pool_here", "_law_abc", "_law_some"] spAlong := ok_along D'.along.F D'.draw Z
  have GB : FnOk P w K mg base CX0 1 D.both D.dboth ["_law_abc", "_law_mate_abc", "_law_some", "_law_mate_some"] spBoth := ok_both D'.both.F R.sort R.tup
  have GO : FnOk P w K mg base CX0 2 D.odd D.dodd ["_law_pool_here"] spOddA := ok_oddA D'.odd.F D'.draw Z
  have GF : FnOk P w K mg base CX0 6 D.face D.dface ["_law_thing"] (fun vs H Q E => spFace K 5 vs H Q E ∨ spFaceI B.CR vs H Q E) := FnOk.either (ok_face D'.face ZT 5) (ok_faceI D'.face ZT FC)
  have GK : FnOk P w K mg base CX0 4 A.fI A.dI ["self", "signs", "pairs"] (spKInit A.C) := ok_kinit R Z
  have GI : FnOk P w K mg base CX0 2 B.fRI B.dRI ["self", "text"] (spInit B.CR) := ok_init M.FRI M.TR Z t6 g6 R.isword M.turns
  have GN : FnOk P w K mg base CX0 3 B.fN B.dN ["self", "value"] (spKIn A.C B.CR) := ok_kin R M Z
  have GW : FnOk P w K mg base CX0 1 A.fW A.dW ["self"] (spKRow A.C) := ok_krow R
  have GE : FnOk P w K mg base CX0 1 A.fE A.dE ["self", "other"] (spKEq K A.C) := ok_keq R Z
  have GAn : FnOk P w K mg base CX0 6 B.fAn B.dAn ["self", "other"] (spKAnd A.C) := ok_kand R M Z
  have GX : FnOk P w K mg base (L2N.CX P w) 6 B.fAn B.dAn ["self", "other"] (spAndAll K A.C B.cNR B.cNK) := FnOk.either (FnOk.calm GAn) (FnOk.either ((ok_kandN R M Z).mono (by decide)) ((ok_kandK R M Z).mono (by decide)))
  obtain ⟨ocH, odH, kVH, docH, pmH, anH, cdvH, ctH, oslH, eH, lkH, cdH⟩ := D'.heard.F.ex
  have bH := D'.heard.b
  rw [eH] at lkH bH
  refine okT F scRi (fun vs H Q E h => by obtain ⟨p, rfl, _⟩ := h; rfl) (fun A' outer s H vs Q E hr h => ?_)
  obtain ⟨p, rfl, hp, tabs0, k⟩ := h
  have hr1 : Room 1 _ := hr.mono (by decide)
  have hr2' : Room 2 _ := hr.mono (by decide)
  have hr3 : Room 3 _ := hr.mono (by decide)
  have hr5 : Room 5 _ := hr.mono (by decide)
  have hr6 : Room 6 _ := hr.mono (by decide)
  refine ⟨_, pss_cons (ps_set (i := 1) scRi.nd rfl (.inl rfl) (pe_call GS hr2' rfl D'.signs.g D'.signs.kp D'.signs.b .nil pass0 (pa_cons (pv 0) (pa_cons pe_int pa_nil))))
    (pss_cons (ps_set (i := 2) scRi.nd rfl (.inl rfl) (pe_call GS hr2' rfl D'.signs.g D'.signs.kp D'.signs.b .nil pass0 (pa_cons (pv 0) (pa_cons pe_int pa_nil))))
    (pss_cons (ps_join (ps_if (pt_cmpR op_gt (pe_call GD hr1 rfl D'.draw.g D'.draw.kp D'.draw.b .nil pass0 (pa_cons (pv 0) (pa_cons pe_int pa_nil))) pe_int (nomark _))
      (pss_one (ps_set (i := 2) scRi.nd rfl (.inl rfl) (pe_slice sl_str (pe_join pe_str (pe_call GSh hr2' rfl D'.shuf.g D'.shuf.kp D'.shuf.b .nil pass0 (pa_cons (pv 0) (pa_cons (pv 1) pa_nil)))) (po_some (pe_call GD hr1 rfl D'.draw.g D'.draw.kp D'.draw.b .nil pass0 (pa_cons (pv 0) (pa_cons (pe_callB call_len_str (by rfl) Z.len PySem.boot_len (pa_cons (pv 1) pa_nil)) pa_nil)))) po_none))) pss_nil))
    (pss_cons (ps_par (i := 3) (j := 4) rfl scRi.nd rfl rfl (by decide) rfl rfl (pa_cons (pe_call GC hr3 rfl D'.couples.g D'.couples.kp D'.couples.b .nil pass0 (pa_cons (pv 0) (pa_cons (pv 1) pa_nil))) (pa_cons (pe_call GC hr3 rfl D'.couples.g D'.couples.kp D'.couples.b .nil pass0 (pa_cons (pv 0) (pa_cons (pv 2) pa_nil))) pa_nil)) (by rfl))
    (pss_cons (ps_asg (pe_tup (pa_cons (pe_make R.M GK hr5 rfl R.T.gC R.bI3 .nil pass0 (pa_cons (pv 1) (pa_cons (pe_callTy call_tuple_of (by rfl) R.tup (by decide +kernel) (pa_cons (pv 3) pa_nil)) pa_nil)))
        (pa_cons (pe_make R.M GK hr5 rfl R.T.gC R.bI3 .nil pass0 (pa_cons (pv 2) (pa_cons (pe_callTy call_tuple_of (by rfl) R.tup (by decide +kernel) (pa_cons (pv 4) pa_nil)) pa_nil))) pa_nil)))
        (pg_tup (by rfl) (pgs_cons (pg_name (i := 5) scRi.nd rfl (.inr rfl)) (pgs_cons (pg_name (i := 6) scRi.nd rfl (.inr rfl)) pgs_nil))))
    (pss_cons (ps_set (i := 7) scRi.nd rfl (.inl rfl) (pe_call GB hr1 rfl D'.both.g D'.both.kp D'.both.b .nil pass0 (pa_cons (pv 1) (pa_cons (pv 2) (pa_cons (pv 3) (pa_cons (pv 4) pa_nil))))))
    (pss_cons (ps_join (ps_set (i := 8) scRi.nd rfl (.inl rfl) (pe_heard (T := [(Pt, qLam)]) (TT := TTK K A.C B.CR B.cNK B.cNR) (k := 6) (Ng := NKh) (a := "_law_act") (by rfl) D'.heard.g D'.heard.kp lkH cdH bH scKh rfl (.inl rfl) (hears_kind D'.face ZT FC S3 (by decide)) TB rfl (List.mem_singleton.mpr rfl) (fun y hy _ => congrArg Prod.snd (List.mem_singleton.mp hy)) hr (lamS_by (show lamSB (defScope sRight) _ = true by decide +kernel)) rfl (fun _ _ _ _ _ => rfl)
          (fun A2 outer2 s2 H2 E2 f2 c2 hr2 => pe_op (show OpR _ (binaryOp .BitAnd) (rOpW K A.C "and" (spAndAll K A.C B.cNR B.cNK) E2) from op_W (op := .BitAnd) M.sf M.aAn M.iAn M.rAn (.inl rfl) GX hr2 M.bAn (passNk (L2N.takes_of rfl rfl rfl rfl))) (pv 5) (pv 6)))))
    (pss_cons (ps_join (ps_set (i := 9) scRi.nd rfl (.inl rfl) (pe_heard (T := [(Pt, qLam)]) (TT := TTK K A.C B.CR B.cNK B.cNR) (k := 6) (Ng := NKh) (a := "_law_act") (by rfl) D'.heard.g D'.heard.kp lkH cdH bH scKh rfl (.inl rfl) (hears_kind D'.face ZT FC S3 (by decide)) TB rfl (List.mem_singleton.mpr rfl) (fun y hy _ => congrArg Prod.snd (List.mem_singleton.mp hy)) hr (lamS_by (show lamSB (defScope sRight) _ = true by decide +kernel)) rfl (fun _ _ _ _ _ => rfl)
          (fun A2 outer2 s2 H2 E2 f2 c2 hr2 => pe_op (show OpR _ (binaryOp .BitAnd) (rOpW K A.C "and" (spAndAll K A.C B.cNR B.cNK) E2) from op_W (op := .BitAnd) M.sf M.aAn M.iAn M.rAn (.inl rfl) GX hr2 M.bAn (passNk (L2N.takes_of rfl rfl rfl rfl))) (pv 6) (pv 5)))))
    (pss_cons (ps_join (ps_if (pt_cmpR op_eq (pe_ix ix_tup (pv 7) pe_int (fun _ _ => rfl)) pe_str (nomark _))
        (pss_one (ps_if (PW.pt (pw_or (pt_cmpR (op_neD hr.units) (pv 8) (pe_lst (pa_cons pe_str (pa_cons pe_non pa_nil))) (nomark _)) (pw_or1 (pt_cmpR (op_neD hr.units) (pv 9) (pe_lst (pa_cons pe_str (pa_cons pe_non pa_nil))) (nomark _))))) (pss_one ps_never) pss_nil))
        (pss_one (ps_if (PW.pt (pw_or (pt_cmpR op_ne (pe_ix ix_list (pv 8) pe_int (fun _ _ => rfl)) pe_str (nomark _)) (pw_or (pt_cmpR op_ne (pe_ix ix_list (pv 9) pe_int (fun _ _ => rfl)) pe_str (nomark _))
          (pw_or (pt_cmpR (op_neD hr.units) (pe_prop (pe_ix ix_list (pv 8) pe_int (fun _ _ => rfl)) R.T.cl R.hW GW hr2' R.bW .nil pass0 rfl) (pv 7) (nomark _))
          (pw_or1 (pt_not (pt_cmpR (op_eqO R.mE.at_ R.mE.fn R.nf GE hr1 R.bE pass0) (pe_ix ix_list (pv 8) pe_int (fun _ _ => rfl)) (pe_ix ix_list (pv 9) pe_int (fun _ _ => rfl)) (nomark _)))))))) (pss_one ps_never) pss_nil))))
    (pss_cons (ps_for PassesOwn.never rfl (pi_range1 rfl Z.range (pa_cons pe_int pa_nil)) (pg_name (i := 10) scRi.nd rfl (.inl rfl))
      (pss_cons (ps_set (i := 11) scRi.nd rfl (.inl rfl) (pe_make M.MR GI hr3 rfl M.TR.gC M.bRI .nil pass0 (pa_cons (pe_call GA hr2' rfl D'.along.g D'.along.kp D'.along.b .nil pass0 (pa_cons (pv 0) (pa_cons (pe_ix ix_list (pe_lst (pa_cons (pv 1) (pa_cons (pv 2) pa_nil))) (pe_call GD hr1 rfl D'.draw.g D'.draw.kp D'.draw.b .nil pass0 (pa_cons (pv 0) (pa_cons pe_int pa_nil))) (fun _ _ => rfl)) (pa_cons (pe_op op_cat (pv 3) (pv 4)) pa_nil)))) pa_nil)))
      (pss_cons (ps_set (i := 12) scRi.nd rfl (.inl rfl) (pe_joinE (pe_and (pe_cmpR (op_inO M.aN M.iN GN hr3 M.bN pass0) (pv 11) (pv 5) (by rfl)) (pe_one (pe_cmpR (op_inO M.aN M.iN GN hr3 M.bN pass0) (pv 11) (pv 6) (by rfl))))))
      (pss_one (ps_if (pt_cmpR op_ne (pv 12) (pe_joinE (pe_and (pe_cmpR op_eq (pe_ix ix_list (pv 8) pe_int (fun _ _ => rfl)) pe_str (nomark _)) (pe_one (pe_cmpR (op_inO M.aN M.iN GN hr3 M.bN pass0) (pv 11) (pe_ix ix_list (pv 8) pe_int (fun _ _ => rfl)) (by rfl))))) (nomark _)) (pss_one ps_never) pss_nil)))))
    (pss_cons (ps_set (i := 13) scRi.nd rfl (.inr rfl) (pe_ix ix_list (pe_lst (pa_cons (pe_call GO hr2' rfl D'.odd.g D'.odd.kp D'.odd.b .nil pass0 (pa_cons (pv 0) pa_nil)) (pa_cons (pv 11) (pa_cons (pe_prop (pv 5) R.T.cl R.hW GW hr2' R.bW .nil pass0 rfl) (pa_cons (pv 1) pa_nil))))) (pe_call GD hr1 rfl D'.draw.g D'.draw.kp D'.draw.b .nil pass0 (pa_cons (pv 0) (pa_cons pe_int pa_nil))) (fun _ _ => rfl)))
    (pss_cons (ps_join (ps_if (pt_cmpR ((op_neD hr.units).or (op_neF (un65 hr))) (pe_heard (T := [(Pt, qLam)]) (TT := TTK K A.C B.CR B.cNK B.cNR) (k := 6) (Ng := NKh) (a := "_law_act") (by rfl) D'.heard.g D'.heard.kp lkH cdH bH scKh rfl (.inl rfl) (hears_kind D'.face ZT FC S3 (by decide)) TB rfl (List.mem_singleton.mpr rfl) (fun y hy _ => congrArg Prod.snd (List.mem_singleton.mp hy)) hr (lamS_by (show lamSB (defScope sRight) _ = true by decide +kernel)) rfl (fun _ _ _ _ _ => rfl)
          (fun A2 outer2 s2 H2 E2 f2 c2 hr2 => pe_op (show OpR _ (binaryOp .BitAnd) (rOpW K A.C "and" (spAndAll K A.C B.cNR B.cNK) E2) from op_W (op := .BitAnd) M.sf M.aAn M.iAn M.rAn (.inl rfl) GX hr2 M.bAn (passNk (L2N.takes_of rfl rfl rfl rfl))) (pv 5) (pv 13)))
        (pe_lst (pa_cons pe_str (pa_cons (pe_call GF hr6 rfl D'.face.g D'.face.kp D'.face.b .nil pass0 (pa_cons (pv 13) pa_nil)) pa_nil))) (nomark _)) (pss_one ps_never) pss_nil))
    (pss_cons (ps_set (i := 14) scRi.nd rfl (.inl rfl) (pe_lst (pa_cons (pe_joinE (pe_tup (pa_cons (pe_join pe_str (pe_callB (call_sortedTx rfl) (by rfl) R.sort (by decide +kernel) (pa_cons (pv 1) pa_nil))) (pa_cons (pe_callTy call_tuple_of (by rfl) R.tup (by decide +kernel) (pa_cons (pe_callB call_sortedLs (by rfl) R.sort (by decide +kernel) (pa_cons (pv 3) pa_nil)) pa_nil)) pa_nil))))
        (pa_cons (pe_joinE (pe_tup (pa_cons (pe_join pe_str (pe_callB (call_sortedTx rfl) (by rfl) R.sort (by decide +kernel) (pa_cons (pv 2) pa_nil))) (pa_cons (pe_callTy call_tuple_of (by rfl) R.tup (by decide +kernel) (pa_cons (pe_callB call_sortedLs (by rfl) R.sort (by decide +kernel) (pa_cons (pv 4) pa_nil)) pa_nil)) pa_nil)))) pa_nil))))
    (pss_one (ps_ret (pe_and (pe_cmpR (op_eqD hr.units) (pe_lst (pa_cons (pe_prop (pv 5) R.T.cl R.hW GW hr2' R.bW .nil pass0 rfl) (pa_cons (pe_prop (pv 6) R.T.cl R.hW GW hr2' R.bW .nil pass0 rfl) pa_nil))) (pv 14) (nomark _))
      (pe_one (pe_cmpR (op_eqO R.mE.at_ R.mE.fn R.nf GE hr1 R.bE pass0) (pe_op (show OpR _ (binaryOp .BitAnd) (rOpW K A.C "and" (spKAnd A.C) E0) from op_W (op := .BitAnd) M.sf M.aAn M.iAn M.rAn (.inl rfl) GAn hr6 M.bAn pass0) (pv 5) (pv 5)) (pv 5) (nomark _)))))))))))))))))), ?_⟩
  refine ⟨_, rfl, p, 4, rfl, by decide, by decide, hp, fun a H1 low nd a0 a1 hp1 b1 => ?_⟩
  have sgs : Sgs a := ⟨low, nd, a0, by omega⟩
  dsimp only [estRi, List.set]
  refine ⟨_, rfl, p, 4, rfl, by decide, by decide, hp1, fun m0 H2 lowm ndm m00 m01 hp2 b2 => ?_⟩
  have sgm0 : Sgs m0 := ⟨lowm, ndm, m00, by omega⟩
  dsimp only [List.set]
  refine ⟨fun σ' H' => ∃ m : List Nat, σ' = [some (V.ref p), some (V.str (S a)), some (V.str (S m)), none, none, none, none, none, none, none, none, none, none, none, none] ∧ Sgs m ∧ PoolAt H' p ∧ But p H H', ?_, ?_⟩
  · refine ⟨_, rfl, p, 3, rfl, by decide, by decide, hp2, fun d H3 d0 d1 hp3 b3 => ⟨_, _, rfl, rfl, _, rfl, ite2 (fun q => ?_) (fun q => ?_)⟩⟩
    · refine ⟨⟨_, rfl⟩, _, rfl, _, rfl, p, .str (S a), a.map vOne, rfl, .str a, by rw [List.length_map]; have := sgs.few; omega, hp3, fun L ys H4 hL nL perm hp4 b4 => ?_⟩
      obtain ⟨l, pl, rfl⟩ := perm_map vOne perm.symm a rfl
      have ll : l.length = a.length := pl.length_eq.symm
      have few := sgs.few
      refine ⟨_, L, l.map sOne, rfl, rfl, .inl (SqL.of (by rw [hL, List.map_map] <;> rfl)), one_sum _ (by omega), ?_⟩
      rw [join_all]
      refine ⟨_, rfl, _, rfl, _, rfl, sgs.w.fits, p, _, rfl, by rw [S_len]; omega, by rw [S_len]; omega, hp4, fun e H5 e0 e1 hp5 b5 => ?_⟩
      rw [S_len] at e1
      obtain ⟨u, rfl, u1⟩ := int_lt e0 e1
      refine ⟨_, rfl, _, rfl, by rw [S_len, sizeLine_eq]; omega, ?_⟩
      rw [cut_from]
      exact ⟨l.drop u, rfl, ⟨fun c hc => low c (pl.mem_iff.mpr (List.mem_of_mem_drop hc)), (pl.nodup_iff.mp nd).sublist (List.drop_sublist _ _), by rw [List.length_drop]; omega, by rw [List.length_drop]; omega⟩, hp5, (((b1.trans b2).trans b3).trans b4).trans b5⟩
    · exact ⟨m0, rfl, sgm0, hp3, (b1.trans b2).trans b3⟩
  rintro σ H3 ⟨m, rfl, sgm, hp3, b3⟩
  refine ⟨_, rfl, _, rfl, p, a, rfl, sgs, hp3, fun la pA H4 hA na GA' hp4 b4 => ?_⟩
  refine ⟨_, rfl, _, rfl, p, m, rfl, sgm, hp4, fun lm pM H5 hM nm GM' hp5 b5 => ⟨_, _, rfl, ?_⟩⟩
  dsimp only [List.set]
  have b05 := (b3.trans b4).trans b5
  have hA5 := b5 _ _ na hA
  have tabs5 := Tabs.but tabs0 hp b05
  clear hp1 b1 b2 hp2 b3 b4 hA hp3 hp4 sgm0 low nd a0 a1 lowm ndm m00 m01
  refine ⟨_, rfl, _, rfl, la, _, rfl, .inl ⟨SqL.of hA5, fun t ht => ?_⟩⟩
  have s5t : Same H5 (L2.upd H5 t (.tup (pA.map V.str))) := Same.put (Same.refl H5) ht
  have htt : (L2.upd H5 t (.tup (pA.map V.str))) t = some (.tup (pA.map V.str)) := upd_same
  generalize L2.upd H5 t (.tup (pA.map V.str)) = Ht at s5t htt ⊢
  refine fun kd dxk hx hdx ne => ⟨Ht, kd, dxk, a, .ref t, pA, rfl, sgs, .inr ⟨t, rfl, (Same.new' (Same.new' (Same.refl Ht) hdx) hx) _ _ htt, GA'⟩, Same.new' (Same.new' (Same.refl Ht) hdx) hx, hx, upd_same, fun H6 sgA psA s6 p1 so1 p2 so2 KA6 => ⟨rfl, ?_⟩⟩
  have s56 := s5t.trans s6
  refine ⟨_, rfl, _, rfl, lm, _, rfl, .inl ⟨SqL.of (s56 _ _ hM), fun t2 ht2 => ?_⟩⟩
  have s6t : Same H6 (L2.upd H6 t2 (.tup (pM.map V.str))) := Same.put (Same.refl H6) ht2
  have htt2 : (L2.upd H6 t2 (.tup (pM.map V.str))) t2 = some (.tup (pM.map V.str)) := upd_same
  generalize L2.upd H6 t2 (.tup (pM.map V.str)) = Hu at s6t htt2 ⊢
  refine fun km dxm hxm hdxm nem => ⟨Hu, km, dxm, m, .ref t2, pM, rfl, sgm, .inr ⟨t2, rfl, (Same.new' (Same.new' (Same.refl Hu) hdxm) hxm) _ _ htt2, GM'⟩, Same.new' (Same.new' (Same.refl Hu) hdxm) hxm, hxm, upd_same, fun H7 sgM psM s7 q1 sp1 q2 sp2 KM7 => ⟨rfl, ?_⟩⟩
  refine ⟨by show 2 ≤ sizeLine; decide, fun T hT => ?_⟩
  have s7t := Same.put (o := .tup [.ref kd, .ref km]) (Same.refl H7) hT
  have hT8 : (L2.upd H7 T (.tup [.ref kd, .ref km])) T = some (.tup [.ref kd, .ref km]) := upd_same
  generalize L2.upd H7 T (.tup [.ref kd, .ref km]) = H8 at s7t hT8 ⊢
  have s58 := (s56.trans (s6t.trans s7)).trans s7t
  refine ⟨T, _, rfl, SqT.of hT8, rfl, _, _, rfl, _, _, rfl, rfl, ?_⟩
  dsimp only [List.set]
  have OA : KOk sgA psA := kok_of sgs GA' p1 so1 p2 so2
  have OM : KOk sgM psM := kok_of sgm GM' q1 sp1 q2 sp2
  have hA8 := s58 _ _ hA5
  have hM8 := s58 _ _ hM
  refine ⟨_, rfl, _, rfl, _, rfl, _, rfl, la, lm, a, m, sgA, pA, pM, psA, rfl, sgs.few, so1, p1, so2, p2, GA'.few, hA8, hM8, fun ql ul H9 nql s9 hql hul => ?_⟩
  dsimp only [List.set]
  rw [← cmS_perm q1] at hql
  rw [← cmP_perm q2] at hul
  have s59 := s58.trans s9
  have S9 : RT A.C p kd km la lm sgA sgM pA pM psA psM [(Pt, qLam)] H9 := ⟨((KA6.same (s6t.trans s7)).same s7t).same s9, (KM7.same s7t).same s9, s9 _ _ hA8, s9 _ _ hM8, hp5.same s59, Tabs.ext tabs5 s59⟩
  have t9 : Bt p H H9 := Bt.of (b05.trans (But.of s59))
  clear b05 tabs5 hA5 hM s5t htt hx hdx ne KA6 s56 ht2 s6t htt2 hxm hdxm nem KM7 hT s7t hT8 s58 hA8 hM8 s9 s59 hp5 b5 s6 s7 ht
  obtain ⟨lb9, ub9⟩ := And.intro hql hul
  clear hql hul
  refine ⟨fun σ' H' => ∃ a8, σ' = [some (V.ref p), some (V.str (S a)), some (V.str (S m)), some (V.ref la), some (V.ref lm), some (V.ref kd), some (V.ref km), some (V.ref ql), some (V.ref a8), none, none, none, none, none, none] ∧ RT A.C p kd km la lm sgA sgM pA pM psA psM [(Pt, qLam)] H' ∧ NearAt A.C H' a8 (cmS sgA sgM) (cmP psA psM) ∧ H' ql = some (.tup [.str (S (cmS sgA sgM)), .ref ul]) ∧ H' ul = some (.tup ((cmP psA psM).map V.str)) ∧ Bt p H H', ?_, ?_⟩
  · refine ⟨S9.tb, fun H10 x10 tb10 => ?_⟩
    have S10 := S9.xt (Xt.ext x10) tb10
    have l10 := x10 _ _ lb9 (fun _ z => by cases z)
    have u10 := x10 _ _ ub9 (fun _ z => by cases z)
    have t10 := t9.trans (Bt.ext x10)
    obtain ⟨dA, tA, rbA, eA, _⟩ := id S10.A
    obtain ⟨dM, tM, rbM, eM, _⟩ := id S10.M
    by_cases no : cmS sgA sgM = []
    · refine .inr (.inl ⟨fun E R fails => ⟨_, rfl, _, rfl, kd, dA, _, rfl, eA, .inr (.inl ⟨km, dM, _, rfl, eM⟩), .inr (.inl ⟨kd, km, sgA, sgM, psA, psM, rfl, S10.A, S10.M, OA.sgs.few, no, fails⟩)⟩, fun a8 H11 s11 h11 => ?_⟩)
      exact ⟨a8, rfl, S10.same s11, .inr ⟨no, h11⟩, s11 _ _ l10, s11 _ _ u10, t10.trans (Bt.same s11)⟩
    · refine .inl ⟨cmS sgA sgM, cmP psA psM, fun E R ret => ⟨_, rfl, _, rfl, kd, dA, _, rfl, eA, .inr (.inl ⟨km, dM, _, rfl, eM⟩), .inl ⟨kd, km, sgA, sgM, psA, psM, rfl, S10.A, S10.M, OA, OM, no, fun x H' x0 s' K' _ => ret x H' s' K'⟩⟩, fun a8 x H11 s11 K11 h11 => ?_⟩
      exact ⟨a8, rfl, S10.same s11, .inl ⟨no, x, h11, K11⟩, s11 _ _ l10, s11 _ _ u10, t10.trans (Bt.same s11)⟩
  rintro σ Ha ⟨a8, rfl, Sa, Na, la8, ua8, ta⟩
  refine ⟨fun σ' H' => ∃ a9, σ' = [some (V.ref p), some (V.str (S a)), some (V.str (S m)), some (V.ref la), some (V.ref lm), some (V.ref kd), some (V.ref km), some (V.ref ql), some (V.ref a8), some (V.ref a9), none, none, none, none, none] ∧ RT A.C p kd km la lm sgA sgM pA pM psA psM [(Pt, qLam)] H' ∧ NearAt A.C H' a8 (cmS sgA sgM) (cmP psA psM) ∧ NearAt A.C H' a9 (cmS sgM sgA) (cmP psM psA) ∧ H' ql = some (.tup [.str (S (cmS sgA sgM)), .ref ul]) ∧ H' ul = some (.tup ((cmP psA psM).map V.str)) ∧ Bt p H H', ?_, ?_⟩
  · refine ⟨Sa.tb, fun H10 x10 tb10 => ?_⟩
    have S10 := Sa.xt (Xt.ext x10) tb10
    have N10 := Na.xt (Xt.ext x10)
    have l10 := x10 _ _ la8 (fun _ z => by cases z)
    have u10 := x10 _ _ ua8 (fun _ z => by cases z)
    have t10 := ta.trans (Bt.ext x10)
    obtain ⟨dA, tA, rbA, eA, _⟩ := id S10.A
    obtain ⟨dM, tM, rbM, eM, _⟩ := id S10.M
    by_cases no : cmS sgM sgA = []
    · refine .inr (.inl ⟨fun E R fails => ⟨_, rfl, _, rfl, km, dM, _, rfl, eM, .inr (.inl ⟨kd, dA, _, rfl, eA⟩), .inr (.inl ⟨km, kd, sgM, sgA, psM, psA, rfl, S10.M, S10.A, OM.sgs.few, no, fails⟩)⟩, fun a9 H11 s11 h11 => ?_⟩)
      exact ⟨a9, rfl, S10.same s11, N10.same s11, .inr ⟨no, h11⟩, s11 _ _ l10, s11 _ _ u10, t10.trans (Bt.same s11)⟩
    · refine .inl ⟨cmS sgM sgA, cmP psM psA, fun E R ret => ⟨_, rfl, _, rfl, km, dM, _, rfl, eM, .inr (.inl ⟨kd, dA, _, rfl, eA⟩), .inl ⟨km, kd, sgM, sgA, psM, psA, rfl, S10.M, S10.A, OM, OA, no, fun x H' x0 s' K' _ => ret x H' s' K'⟩⟩, fun a9 x H11 s11 K11 h11 => ?_⟩
      exact ⟨a9, rfl, S10.same s11, N10.same s11, .inl ⟨no, x, h11, K11⟩, s11 _ _ l10, s11 _ _ u10, t10.trans (Bt.same s11)⟩
  rintro σ Hb ⟨a9, rfl, Sb, Nb, Fb, lb, ub, tb⟩
  clear S9 t9 lb9 ub9 Sa Na la8 ua8 ta
  refine ⟨fun σ' H' => σ' = [some (V.ref p), some (V.str (S a)), some (V.str (S m)), some (V.ref la), some (V.ref lm), some (V.ref kd), some (V.ref km), some (V.ref ql), some (V.ref a8), some (V.ref a9), none, none, none, none, none] ∧ Same Hb H', ?_, ?_⟩
  · refine ⟨_, rfl, ql, _, _, _, rfl, rfl, SqT.of lb, atI_nat (j := 0) rfl, rfl, _, rfl, ?_⟩
    rcases Nb with ⟨no, x8, h8, K8⟩ | ⟨no, h8⟩
    · refine ifn (fun q => no (by
        injection q with q
        exact S_inj (l := cmS sgA sgM) (m := []) q)) ?_
      rcases Fb with ⟨no', x9, h9, K9⟩ | ⟨no', h9⟩
      · refine ⟨_, rfl, a8, _, _, _, rfl, rfl, SqL.of h8, atI_nat (j := 0) rfl, rfl, _, rfl, iteNS rfl ?_⟩
        refine ⟨_, rfl, a9, _, _, _, rfl, rfl, SqL.of h9, atI_nat (j := 0) rfl, rfl, _, rfl, iteNS rfl ?_⟩
        have OC := OA.meet OM no
        obtain ⟨c1, c2⟩ := cmS_comm OA OM no
        have pC : Prs' (cmP psA psM) := strs_ok OC.sgs OC.prs.of
        have rC := rowD_ok (low_of OC.sgs) pC
        obtain ⟨d8, t8, r8, e8, f8⟩ := id K8
        refine ⟨_, rfl, a8, _, _, _, rfl, rfl, SqL.of h8, atI_nat (j := 1) rfl, x8, d8, _, rfl, e8, x8, cmS sgA sgM, cmP psA psM, rfl, K8, fun q t H' nq s' hq ht => ?_⟩
        refine ⟨_, rfl, heard_due (row_dp hq ht) (row_dp (s' _ _ lb) (s' _ _ ub)) ⟨rC.1, Nat.le_trans rC.2 (by decide)⟩ ⟨_, rfl, iteF ?_⟩⟩
        obtain ⟨d9, t9', r9, e9, f9⟩ := id K9
        refine ⟨_, rfl, a8, _, _, _, rfl, rfl, SqL.of (s' _ _ h8), atI_nat (j := 1) rfl, _, rfl, a9, _, _, _, rfl, rfl, SqL.of (s' _ _ h9), atI_nat (j := 1) rfl, x8, d8, x9, d9, _, _, rfl, rfl, s' _ _ e8, s' _ _ e9, x8, cmS sgA sgM, cmP psA psM, .ref x9, true, rfl, K8.same s', .inl ⟨x9, cmS sgM sgA, cmP psM psA, rfl, K9.same s', pC, by rw [← c2]; exact pC, same_all c1 c2⟩, ⟨_, rfl, ?_⟩⟩
        exact ⟨rfl, s'⟩
      · exact absurd (cmS_nil no') no
    · refine ifd (by rw [no] <;> rfl) ?_
      rcases Fb with ⟨no', x9, h9, K9⟩ | ⟨no', h9⟩
      · exact absurd (cmS_nil no) no'
      · refine ⟨_, rfl, by show 2 ≤ sizeLine; decide, fun L hL => neR (keepA h8 hL) upd_same ⟨_, rfl, iteF ?_⟩⟩
        have sL := Same.put (o := .lst [.str "ring", .non]) (Same.refl Hb) hL
        refine ⟨_, rfl, by show 2 ≤ sizeLine; decide, fun L2 hL2 => neR (keepA (sL _ _ h9) hL2) upd_same ⟨_, rfl, iteF ?_⟩⟩
        exact ⟨rfl, Same.put sL hL2⟩
  rintro σ Hc ⟨rfl, sc⟩
  have Sc := Sb.same sc
  have Nc := Nb.same sc
  have tc := tb.trans (Bt.same sc)
  clear Sb Nb Fb lb ub tb sc
  refine ⟨_, rfl, by decide, by decide, for_it walk_range (fun j σ H' => ∃ v10 v11 v12 : Option V, σ = [some (V.ref p), some (V.str (S a)), some (V.str (S m)), some (V.ref la), some (V.ref lm), some (V.ref kd), some (V.ref km), some (V.ref ql), some (V.ref a8), some (V.ref a9), v10, v11, v12, none, none] ∧ RT A.C p kd km la lm sgA sgM pA pM psA psM [(Pt, qLam)] H' ∧ NearAt A.C H' a8 (cmS sgA sgM) (cmP psA psM) ∧ Bt p H H' ∧ (0 < j → ∃ (r : Addr) (l : List Nat), v11 = some (.ref r) ∧ RingAt B.CR H' r l)) ⟨none, none, none, rfl, Sc, Nc, tc, fun h => absurd h (by decide)⟩ (fun _ _ _ _ _ => trivial) ?_ ?_⟩
  · rintro j x0 σ H4 H4' hj ⟨v10, v11, v12, rfl, S4, N4, t4, r4⟩ ⟨rfl, hx⟩
    dsimp only [List.set]
    refine ⟨_, rfl, _, rfl, _, rfl, by show 2 ≤ sizeLine; decide, fun L hL => ?_⟩
    have s5 := Same.put (o := .lst [.str (S a), .str (S m)]) (Same.refl H4') hL
    have hL5 : (L2.upd H4' L (.lst [.str (S a), .str (S m)])) L = some (.lst [.str (S a), .str (S m)]) := upd_same
    generalize L2.upd H4' L (.lst [.str (S a), .str (S m)]) = H5 at s5 hL5 ⊢
    have S5 := S4.same s5
    refine ⟨_, rfl, p, _, rfl, by decide, by decide, S5.po, fun d H6 d0 d1 hp6 b6 => ?_⟩
    have hL6 := b6 _ _ (ne_pool S5.po hL5 fun i z => by cases z) hL5
    have S6 := S5.but b6 hp6
    have N6 := (N4.same s5).but S5.po b6
    obtain ⟨u, rfl, u1⟩ := int_lt d0 d1
    obtain ⟨sgx, hat, subx, Gx⟩ : ∃ sgx, atI [V.str (S a), V.str (S m)] (u : Int) = some (.str (S sgx)) ∧ (∀ c ∈ sgx, c ∈ a ++ m) ∧ Sgs sgx := by
      rcases u with _ | _ | u
      · exact ⟨a, atI_nat (j := 0) rfl, fun c hc => List.mem_append_left _ hc, sgs⟩
      · exact ⟨m, atI_nat (j := 1) rfl, fun c hc => List.mem_append_right _ hc, sgm⟩
      · omega
    refine ⟨L, _, _, _, rfl, rfl, SqL.of hL6, hat, ?_⟩
    refine ⟨_, rfl, _, rfl, la, lm, _, _, rfl, rfl, S6.hA, S6.hM, by rw [List.length_map, List.length_map, sizeLine_eq]; have := GA'.few; have := GM'.few; omega, fun D0 hD => ?_⟩
    have s7 := Same.put (o := .lst (pA.map V.str ++ pM.map V.str)) (Same.refl H6) hD
    have hD7 : (L2.upd H6 D0 (.lst (pA.map V.str ++ pM.map V.str))) D0 = some (.lst ((pA ++ pM).map V.str)) := by rw [List.map_append]; exact upd_same
    generalize L2.upd H6 D0 (.lst (pA.map V.str ++ pM.map V.str)) = H7 at s7 hD7 ⊢
    have S7 := S6.same s7
    have low : Low (a ++ m) := fun c hc => (List.mem_append.mp hc).elim (sgs.low c) (sgm.low c)
    refine ⟨p, D0, sgx, a ++ m, pA ++ pM, rfl, Gx, subx, low, hD7, Wb.pool_ne S7.po hD7, fun z hz => ?_, by rw [List.length_append]; have := GA'.few; have := GM'.few; omega, S7.po, fun l H8 sub l0 l12 hp8 b8 => ?_⟩
    · rcases List.mem_append.mp hz with hz | hz
      · obtain ⟨e, g, he, hg, rfl⟩ := GA'.of z hz
        exact ⟨e, g, List.mem_append_left _ he, List.mem_append_left _ hg, rfl⟩
      · obtain ⟨e, g, he, hg, rfl⟩ := GM'.of z hz
        exact ⟨e, g, List.mem_append_right _ he, List.mem_append_right _ hg, rfl⟩
    have S8 := S7.but b8 hp8
    have N8 := (N6.same s7).but S7.po b8
    have t8 : Bt p H H8 := ((((t4.trans (Bt.same s5)).trans (Bt.of b6)).trans (Bt.same s7)).trans (Bt.of b8))
    have W : IsW l := ⟨fun c hc => low c (sub c hc), l0, by omega⟩
    refine fun r dxr hr0 hdr ner => ⟨H8, r, dxr, l, rfl, W, Same.new' (Same.new' (Same.refl H8) hdr) hr0, hr0, upd_same, fun H9 s9 R9 => ⟨rfl, ?_⟩⟩
    have S9 := S8.same s9
    have N9 := N8.same s9
    have t9 := t8.trans (Bt.same s9)
    dsimp only [List.set]
    refine ⟨fun v H' => v = .bl (goesB l psA && goesB l psM) ∧ Same H9 H', ?_, ?_⟩
    · obtain ⟨dA, tA, rbA, eA, _⟩ := id S9.A
      refine ⟨_, rfl, _, rfl, kd, dA, _, rfl, eA, kd, r, sgA, psA, l, rfl, S9.A, R9, fun H10 s10 => ⟨goesB l psA, rfl, goesB l psA, rfl, ?_⟩⟩
      cases g1 : goesB l psA with
      | false => exact ⟨rfl, s10⟩
      | true =>
        have S10 := S9.same s10
        obtain ⟨dM, tM, rbM, eM, _⟩ := id S10.M
        exact ⟨_, rfl, _, rfl, km, dM, _, rfl, eM, km, r, sgM, psM, l, rfl, S10.M, R9.same s10, fun H11 s11 => ⟨goesB l psM, rfl, rfl, s10.trans s11⟩⟩
    rintro v H10 ⟨rfl, s10⟩
    dsimp only [List.set]
    have S10 := S9.same s10
    have N10 := N9.same s10
    refine ⟨_, rfl, fun v H' => v = .bl (goesB l psA && goesB l psM) ∧ Same H10 H', ?_, ?_⟩
    · rcases N10 with ⟨no, x8, h8, K8⟩ | ⟨no, h8⟩
      · obtain ⟨d8, t8', r8, e8, f8⟩ := id K8
        refine ⟨_, rfl, a8, _, _, _, rfl, rfl, SqL.of h8, atI_nat (j := 0) rfl, rfl, _, rfl, ifd rfl ?_⟩
        exact ⟨_, rfl, _, rfl, a8, _, _, _, rfl, rfl, SqL.of h8, atI_nat (j := 1) rfl, x8, d8, _, rfl, e8, x8, r, cmS sgA sgM, cmP psA psM, l, rfl, K8, R9.same s10, fun H11 s11 => ⟨goesB l (cmP psA psM), rfl, by rw [goes_cm], s11⟩⟩
      · refine ⟨_, rfl, a8, _, _, _, rfl, rfl, SqL.of h8, atI_nat (j := 0) rfl, rfl, _, rfl, ?_⟩
        rw [decide_eq_false (show ¬ V.str (Str.ofString "ring") = V.str (Str.ofString "told") by decide +kernel)]
        refine iteF ⟨?_, Same.refl _⟩
        rw [goes_none l0 OA.prs.of OM.prs.of no]
    rintro v H11 ⟨rfl, s11⟩
    refine ⟨rfl, _, rfl, iteNS rfl ?_⟩
    exact ⟨_, _, _, rfl, S10.same s11, N10.same s11, (t9.trans (Bt.same s10)).trans (Bt.same s11), fun _ => ⟨r, l, rfl, (R9.same s10).same s11⟩⟩
  rintro σ Hd ⟨v10, v11, v12, rfl, Sd, Nd, td, rd⟩
  obtain ⟨r, l, rfl, Rd⟩ := rd (by decide)
  clear rd Sc Nc tc Nd
  dsimp only [List.set]
  refine ⟨_, rfl, p, rfl, Sd.po, fun y0 e0 H5 hy5 hp5 b5 => ?_⟩
  have S5 := Sd.but b5 hp5
  have rp : r ≠ p := pool_other Sd.po Rd.2.choose_spec fun _ _ _ z => by cases z
  have R5 := Rd.but b5 rp
  obtain ⟨dA, tA, rbA, eA, _⟩ := id S5.A
  refine ⟨_, rfl, _, rfl, kd, dA, _, rfl, eA, kd, sgA, psA, rfl, S5.A, fun q5 t5 H6 nq6 s6 hq6 ht6 => ?_⟩
  refine ⟨_, rfl, by show 4 ≤ sizeLine; decide, fun L hL => ?_⟩
  have s7 := Same.put (o := .lst [y0, .ref r, .ref q5, .str (S a)]) s6 hL
  have hL7 : (L2.upd H6 L (.lst [y0, .ref r, .ref q5, .str (S a)])) L = some (.lst [y0, .ref r, .ref q5, .str (S a)]) := upd_same
  have hq7 := (Same.put (o := .lst [y0, .ref r, .ref q5, .str (S a)]) (Same.refl H6) hL) _ _ hq6
  have ht7 := (Same.put (o := .lst [y0, .ref r, .ref q5, .str (S a)]) (Same.refl H6) hL) _ _ ht6
  generalize L2.upd H6 L (.lst [y0, .ref r, .ref q5, .str (S a)]) = H7 at s7 hL7 hq7 ht7 ⊢
  have S7 := S5.same s7
  refine ⟨_, rfl, p, _, rfl, by decide, by decide, S7.po, fun d H8 d0 d1 hp8 b8 => ?_⟩
  have S8 := S7.but b8 hp8
  have nL : L ≠ p := pool_other S7.po hL7 fun _ _ _ z => by
    injection z with z
    injection z with _ z
    injection z with z _
    cases z
  have hL8 := b8 _ _ nL hL7
  have pA8 : Prs' psA := strs_ok OA.sgs OA.prs.of
  obtain ⟨u, rfl, u1⟩ := int_lt d0 d1
  obtain ⟨y, hat, way⟩ : ∃ y, atI [y0, .ref r, .ref q5, .str (S a)] (u : Int) = some y ∧ ((∃ e, Any p H8 y e) ∨ (y = .ref r ∧ RingAt B.CR H8 r l)) := by
    rcases u with _ | _ | _ | _ | u
    · exact ⟨y0, atI_nat (j := 0) rfl, .inl ⟨e0, (hy5.same s7).but b8⟩⟩
    · exact ⟨.ref r, atI_nat (j := 1) rfl, .inr ⟨rfl, (R5.same s7).but b8 rp⟩⟩
    · obtain ⟨e, he⟩ := row_any S7.po hq7 ht7 (low_of OA.sgs) pA8 OA.prs.few
      exact ⟨.ref q5, atI_nat (j := 2) rfl, .inl ⟨e, he.but b8⟩⟩
    · obtain ⟨e, he⟩ := S_any (H := H8) (p := p) (low_of sgs) (by have := sgs.few; omega)
      exact ⟨.str (S a), atI_nat (j := 3) rfl, .inl ⟨e, he⟩⟩
    · omega
  refine ⟨L, _, _, y, rfl, rfl, SqL.of hL8, hat, ?_⟩
  dsimp only [List.set]
  have t8 : Bt p H H8 := ((td.trans (Bt.of b5)).trans (Bt.same s7)).trans (Bt.of b8)
  clear hat hL8 hL7 nL hq7 ht7 b8 S7 S5 R5 Rd eA hp5 b5 hy5 s6 s7 hq6 ht6 hL Sd td
  refine ⟨fun σ' H' => σ' = [some (V.ref p), some (V.str (S a)), some (V.str (S m)), some (V.ref la), some (V.ref lm), some (V.ref kd), some (V.ref km), some (V.ref ql), some (V.ref a8), some (V.ref a9), v10, some (.ref r), v12, some y, none] ∧ RT A.C p kd km la lm sgA sgM pA pM psA psM [(Pt, qLam)] H' ∧ Bt p H H', ?_, ?_⟩
  · refine ⟨S8.tb, fun H9 x9 tb9 => ?_⟩
    have S9 := S8.xt (Xt.ext x9) tb9
    have t9 := t8.trans (Bt.ext x9)
    obtain ⟨dA, tA, rbA, eA, _⟩ := id S9.A
    rcases way with ⟨e, hy⟩ | ⟨rfl, Ry⟩
    · have hy9 := hy.xt (Xt.ext x9)
      obtain ⟨ty, tyx, opt, kit⟩ := hy9.andT G
      refine .inr (.inr ⟨y, fun E R fails => ⟨_, rfl, _, rfl, kd, dA, _, rfl, eA, .inl ⟨ty, tyx, opt⟩, .inr (.inr ⟨kd, y, .type ty, rfl, tyx, kit, fails⟩)⟩, .inl ⟨e, hy9.thing, fun a10 H10 n10 s10 dp10 => ?_⟩⟩)
      have hy10 := hy9.same s10
      refine ⟨_, rfl, .inl ⟨y, e, rfl, hy10.thing, fun f11 H11 n11 s11 dp11 => ⟨by show 2 ≤ sizeLine; decide, fun Lq hLq => .inl ?_⟩⟩⟩
      have s12 := Same.put (o := .lst [.str "kind", .ref f11]) (Same.refl H11) hLq
      have h12 : (L2.upd H11 Lq (.lst [.str "kind", .ref f11])) Lq = some (.lst [.str "kind", .ref f11]) := upd_same
      generalize L2.upd H11 Lq (.lst [.str "kind", .ref f11]) = H12 at s12 h12 ⊢
      refine heard_due (Dp.stay (s11.trans s12) (Dp.stay New.sub dp10)) (.lst (SqL.of h12) (.cons (.str _) (.cons (Dp.stay s12 (Dp.stay New.sub dp11)) .nil))) (told_ok hy9 (by decide +kernel)) ⟨_, rfl, iteF ?_⟩
      have sF := (s10.trans s11).trans s12
      exact ⟨rfl, S9.same sF, t9.trans (Bt.same sF)⟩
    · have R9 := Ry.xt (Xt.ext x9)
      obtain ⟨W9, dR, hR⟩ := id R9
      refine .inr (.inr ⟨.ref r, fun E R fails => ⟨_, rfl, _, rfl, kd, dA, _, rfl, eA, .inr (.inr ⟨B.CR, r, dR, _, rfl, hR, G.nr⟩), .inr (.inr ⟨kd, .ref r, .ref B.CR, rfl, .base (.ins hR FC.cl FC.cc FC.cg FC.ct FC.co), G.kr, fails⟩)⟩, .inr ⟨r, dR, _, rfl, hR, fun a10 f10 H10 s10 ha10 hf10 => ?_⟩⟩)
      refine ⟨_, rfl, .inr ⟨r, dR, _, rfl, s10 _ _ hR, fun f11 H11 n11 s11 hf11 => ⟨by show 2 ≤ sizeLine; decide, fun Lq hLq => .inr ?_⟩⟩⟩
      refine ⟨a10, Lq, f10, f11, r, _, _, rfl, rfl, keepA (s11 _ _ ha10) hLq, upd_same, keepA (s11 _ _ hf10) hLq, keepA hf11 hLq, ⟨_, rfl, iteF ?_⟩⟩
      have sF := Same.put (o := .lst [.str "kind", .ref f11]) (s10.trans s11) hLq
      exact ⟨rfl, S9.same sF, t9.trans (Bt.same sF)⟩
  rintro σ He ⟨rfl, Se, te⟩
  clear S8 t8 way
  have psAfew := GA'.few
  have psMfew := GM'.few
  refine ⟨fun v H' => ∃ q u : Addr, v = .ref q ∧ H' q = some (.tup [.str (S sgA), .ref u]) ∧ H' u = some (.tup (psA.map V.str)) ∧ Same He H', ?_, ?_⟩
  · refine ⟨⟨_, rfl⟩, _, rfl, S a, rfl, by rw [S_len]; have := sgs.few; omega, fun ys pp perm srt hpp => ?_⟩
    rw [S_cps] at perm
    obtain ⟨sg', hsg, rfl⟩ := perm_codes perm
    obtain rfl : sg' = sgA := sg_same srt so1 hsg p1
    have hh : (L2.upd He pp (.lst ((sg'.map sOne).map V.str))) pp = some (.lst ((sg'.map sOne).map V.str)) := upd_same
    have sh : Same He (L2.upd He pp (.lst ((sg'.map sOne).map V.str))) := Same.put (Same.refl He) hpp
    generalize L2.upd He pp (.lst ((sg'.map sOne).map V.str)) = G1 at hh sh ⊢
    have few4 : sg'.length ≤ 4 := by rw [hsg.length_eq]; exact sgs.few
    refine ⟨_, pp, sg'.map sOne, rfl, rfl, .inl (SqL.of hh), one_sum _ few4, ?_⟩
    rw [join_all]
    refine ⟨_, rfl, la, pA, rfl, SqL.of (sh _ _ Se.hA), by have := p2.length_eq; have := psAfew; omega, fun ys pb perm2 srt2 hpb => ?_⟩
    obtain rfl : ys = psA := sorted_same srt2 so2 (perm2.trans p2.symm)
    have hb : (L2.upd G1 pb (.lst (ys.map V.str))) pb = some (.lst (ys.map V.str)) := upd_same
    have sb : Same He (L2.upd G1 pb (.lst (ys.map V.str))) := Same.put sh hpb
    generalize L2.upd G1 pb (.lst (ys.map V.str)) = G2 at hb sb ⊢
    refine ⟨pb, _, rfl, .inl ⟨SqL.of hb, fun u hu => ⟨by show 2 ≤ sizeLine; decide, fun q hq => ?_⟩⟩⟩
    have su := Same.put (o := .tup (ys.map V.str)) sb hu
    exact ⟨q, u, rfl, upd_same, keepA upd_same hq, Same.put su hq⟩
  rintro v H10 ⟨qa, ua, rfl, hqa, hua, s10⟩
  refine ⟨fun v H' => ∃ q u : Addr, v = .ref q ∧ H' q = some (.tup [.str (S sgM), .ref u]) ∧ H' u = some (.tup (psM.map V.str)) ∧ Same H10 H', ?_, ?_⟩
  · refine ⟨⟨_, rfl⟩, _, rfl, S m, rfl, by rw [S_len]; have := sgm.few; omega, fun ys pp perm srt hpp => ?_⟩
    rw [S_cps] at perm
    obtain ⟨sg', hsg, rfl⟩ := perm_codes perm
    obtain rfl : sg' = sgM := sg_same srt sp1 hsg q1
    have hh : (L2.upd H10 pp (.lst ((sg'.map sOne).map V.str))) pp = some (.lst ((sg'.map sOne).map V.str)) := upd_same
    have sh : Same H10 (L2.upd H10 pp (.lst ((sg'.map sOne).map V.str))) := Same.put (Same.refl H10) hpp
    generalize L2.upd H10 pp (.lst ((sg'.map sOne).map V.str)) = G1 at hh sh ⊢
    have few4 : sg'.length ≤ 4 := by rw [hsg.length_eq]; exact sgm.few
    refine ⟨_, pp, sg'.map sOne, rfl, rfl, .inl (SqL.of hh), one_sum _ few4, ?_⟩
    rw [join_all]
    refine ⟨_, rfl, lm, pM, rfl, SqL.of (sh _ _ (s10 _ _ Se.hM)), by have := q2.length_eq; have := psMfew; omega, fun ys pb perm2 srt2 hpb => ?_⟩
    obtain rfl : ys = psM := sorted_same srt2 sp2 (perm2.trans q2.symm)
    have hb : (L2.upd G1 pb (.lst (ys.map V.str))) pb = some (.lst (ys.map V.str)) := upd_same
    have sb : Same H10 (L2.upd G1 pb (.lst (ys.map V.str))) := Same.put sh hpb
    generalize L2.upd G1 pb (.lst (ys.map V.str)) = G2 at hb sb ⊢
    refine ⟨pb, _, rfl, .inl ⟨SqL.of hb, fun u hu => ⟨by show 2 ≤ sizeLine; decide, fun q hq => ?_⟩⟩⟩
    have su := Same.put (o := .tup (ys.map V.str)) sb hu
    exact ⟨q, u, rfl, upd_same, keepA upd_same hq, Same.put su hq⟩
  rintro v H11 ⟨qm, um, rfl, hqm, hum, s11⟩
  refine ⟨by show 2 ≤ sizeLine; decide, fun L hL => ?_⟩
  have s12 := Same.put (o := .lst [.ref qa, .ref qm]) (Same.refl H11) hL
  have hL12 : (L2.upd H11 L (.lst [.ref qa, .ref qm])) L = some (.lst [.ref qa, .ref qm]) := upd_same
  generalize L2.upd H11 L (.lst [.ref qa, .ref qm]) = H12 at s12 hL12 ⊢
  dsimp only [List.set]
  have S12 := ((Se.same s10).same s11).same s12
  have t12 := ((te.trans (Bt.same s10)).trans (Bt.same s11)).trans (Bt.same s12)
  obtain ⟨dA, tA, rbA, eA, fA⟩ := id S12.A
  refine ⟨_, rfl, kd, dA, _, rfl, eA, kd, sgA, psA, rfl, S12.A, fun q13 u13 H13 nq13 s13 hq13 hu13 => ?_⟩
  have S13 := S12.same s13
  obtain ⟨dM, tM, rbM, eM, fM⟩ := id S13.M
  refine ⟨_, rfl, km, dM, _, rfl, eM, km, sgM, psM, rfl, S13.M, fun q14 u14 H14 nq14 s14 hq14 hu14 => ?_⟩
  refine ⟨by show 2 ≤ sizeLine; decide, fun L2' hL2 => ?_⟩
  have s15 := Same.put (o := .lst [.ref q13, .ref q14]) (Same.refl H14) hL2
  have hL15 : (L2.upd H14 L2' (.lst [.ref q13, .ref q14])) L2' = some (.lst [.ref q13, .ref q14]) := upd_same
  generalize L2.upd H14 L2' (.lst [.ref q13, .ref q14]) = H15 at s15 hL15 ⊢
  have s1215 := (s13.trans s14).trans s15
  have s1115 := s12.trans s1215
  have s1015 := s11.trans s1115
  have s1315 := s14.trans s15
  have pA8 : Prs' psA := strs_ok OA.sgs OA.prs.of
  have pM8 : Prs' psM := strs_ok OM.sgs OM.prs.of
  have rA := rowD_ok (low_of OA.sgs) pA8
  have rM := rowD_ok (low_of OM.sgs) pM8
  have lst_ok : (PyData.list [rowD sgA psA, rowD sgM psM]).canLay0 = true ∧ PyData.depth (PyData.list [rowD sgA psA, rowD sgM psM]) ≤ 64 := by
    refine ⟨?_, ?_⟩
    · show ((rowD sgA psA).canLay0 && ((rowD sgM psM).canLay0 && true)) = true
      rw [rA.1, rM.1] <;> rfl
    · show max (PyData.depth (rowD sgA psA)) (max (PyData.depth (rowD sgM psM)) 0) + 1 ≤ 64
      have := rA.2
      have := rM.2
      omega
  refine ⟨_, rfl, .list [rowD sgA psA, rowD sgM psM], .list [rowD sgA psA, rowD sgM psM], .lst (SqL.of hL15) (.cons (row_dp (s1315 _ _ hq13) (s1315 _ _ hu13)) (.cons (row_dp (s15 _ _ hq14) (s15 _ _ hu14)) .nil)),
    .lst (SqL.of (s1215 _ _ hL12)) (.cons (row_dp (s1015 _ _ hqa) (s1015 _ _ hua)) (.cons (row_dp (s1115 _ _ hqm) (s1115 _ _ hum)) .nil)), shaped_of lst_ok.1 lst_ok.2, shaped_of lst_ok.1 lst_ok.2, ?_⟩
  rw [SeqAt.eqv_refl _ lst_ok.1]
  refine ⟨_, rfl, iteT ?_⟩
  have S15 := S12.same s1215
  have t15 := t12.trans (Bt.same s1215)
  obtain ⟨dK, tK, rbK, eK, fK⟩ := id S15.A
  refine ⟨_, rfl, _, rfl, kd, dK, _, rfl, eK, .inr (.inl ⟨kd, dK, _, rfl, eK⟩), kd, kd, sgA, sgA, psA, psA, rfl, S15.A, S15.A, OA, OA, by rw [cmS_self]; exact List.length_pos_iff.mp OA.sgs.pos, fun x H16 x0 s16 K16 _ => ?_⟩
  rw [cmS_self, cmP_self] at K16
  have S16 := S15.same s16
  obtain ⟨dX, tX, rbX, eX, fX⟩ := id K16
  refine ⟨_, rfl, x, dX, kd, dK, _, _, rfl, rfl, eX, s16 _ _ eK, x, sgA, psA, .ref kd, true, rfl, K16, .inl ⟨kd, sgA, psA, rfl, S16.A, pA8, pA8, same_all rfl rfl⟩, ?_⟩
  exact k H16 (t15.trans (Bt.same s16)) S16.tb
end
end Wb
namespace Wb
open PySem L2 WbMin WbO WbS WbT Lz Le LamX
def spLawT (K : PySem.W.Frag) (Pt : Addr) : Sp := fun vs H Q _ => ∃ (a : Addr) (ns : List Int), vs = [.ref a] ∧ SqL K H a (ns.map V.int) ∧ ns.length ≤ 63 ∧ Tabs [(Pt, qLam)] H ∧ ∀ H', Q (.bl true) H'
theorem SqL.noT {K : PySem.W.Frag} {H : Hp} {a : Addr} {xs : List V} (h : SqL K H a xs) : SqL K (noT H) a xs := by
  rcases h with (q | ⟨o, q⟩) | q
  · exact .inl (.inl (noT_at q (fun _ z => by cases z)))
  · exact .inl (.inr ⟨o, noT_at q (fun _ z => by cases z)⟩)
  · exact .inr q
theorem Tabs.put {T : List (Addr × Str)} {H : Hp} {L : Addr} {xs : List V} {o : HO} (t : Tabs T H) (h : H L = some (.lst xs)) : Tabs T (upd H L o) := fun y hy => by
  obtain ⟨ps, h1, h2, h3⟩ := t y hy
  have n1 : y.1 ≠ L := ne_of h1 h fun z => by cases z
  refine ⟨ps, (upd_ne n1).trans h1, h2, fun pos cv hc => ?_⟩
  obtain ⟨c, e1, e2⟩ := h3 pos cv hc
  exact ⟨c, e1, (upd_ne (ne_of e2 h fun z => by cases z)).trans e2⟩
theorem Tabs.new {T : List (Addr × Str)} {H : Hp} {L : Addr} {o : HO} (t : Tabs T H) (h : H L = none) : Tabs T (upd H L o) := fun y hy => by
  obtain ⟨ps, h1, h2, h3⟩ := t y hy
  refine ⟨ps, (upd_ne (ne_of_none h1 h)).trans h1, h2, fun pos cv hc => ?_⟩
  obtain ⟨c, e1, e2⟩ := h3 pos cv hc
  exact ⟨c, e1, (upd_ne (ne_of_none e2 h)).trans e2⟩
section
variable {P : Program} {w : World} {K : PySem.W.Frag} {mg : Str → Option Value} {base : Heap} {f c Pt : Addr} {fd : FuncData} {A : KA} {B : KB} {D : DA}
theorem scLa : FnScope ["_law_script", "_law_k"] ["_law_script"] (defScope sLaw) := ⟨rfl, rfl, rfl, by decide +kernel, rfl, by decide +kernel, by decide +kernel⟩
theorem ok_law (F : Fun K "law" "law" sLaw f fd) (TB : TabB base mg c Pt) (FT : FunT K "_law_right" "_law_right" sRight D.right D.dright c) (Z : Free mg) (ZT : FreeT mg) (R : KindF K mg A) (M : KmF K mg A B) (FC : FaceC K B.CR) (S3 : MetC K mg B.cNK B.cNR) (G : AndF K A.C B.CR)
    (D' : Defs K mg D) : FnOk P w K mg base CX0 10 f fd ["_law_script"] (spLawT K Pt) := by
  have GC : FnOk P w K mg base CX0 1 D.cell D.dcell ["_law_script", "_law_k"] (spCell K) := ok_cell D'.cell.F Z.int Z.len
  have GP : FnOk P w K mg base CX0 1 D.pool D.dpool ["_law_cell_here"] spPool := ok_pool D'.pool.F Z.abs Z.int
  have GR : FnOk P w K mg base CX0 9 D.right D.dright ["_law_pool_here"] (spRightT c Pt) := ok_right FT TB Z ZT R M FC S3 G D'
  refine F.ok scLa (fun vs H Q E h => ?_) (fun cdv A' outer s H vs Q E hr h => ?_)
  · obtain ⟨a, ns, rfl, _⟩ := h
    rfl
  · obtain ⟨a, ns, rfl, hS, hlen, tabs, k⟩ := h
    have hr1 : Room 1 _ := hr.mono (by decide)
    refine ⟨_, pss_one (ps_ret (pe_callB (cr_all rfl) (by rfl) Z.all (by decide +kernel) (pa_cons
      (pe_lc (own := [("_law_k", 1)]) (g := gName 1) (tt := tYes) rfl scLa.nd (pi_range1 rfl Z.range (pa_cons (pe_callB (call_max2 rfl) (by rfl) Z.max (by decide +kernel) (pa_cons pe_int (pa_cons
            (pe_callB (call_min2 rfl) (by rfl) Z.min (by decide +kernel) (pa_cons (pe_callB call_len_seq (by rfl) Z.len PySem.boot_len (pa_cons (pv 0) pa_nil)) (pa_cons pe_int pa_nil))) pa_nil))) pa_nil))
        (blkOk_by (N := ["_law_script", "_law_k"]) (sc := defScope sLaw) (by decide +kernel)) (fun _ _ _ _ _ => pg_name (i := 1) scLa.nd rfl (.inl rfl)) (fun _ _ _ _ _ => pts_nil)
        (fun _ _ _ _ _ => pe_call GR hr rfl D'.right.g D'.right.kp D'.right.b .nil pass0 (pa_cons (pe_call GP hr1 rfl D'.pool.g D'.pool.kp D'.pool.b .nil pass0 (pa_cons (pe_call GC hr1 rfl D'.cell.g D'.cell.kp D'.cell.b .nil pass0 (pa_cons (pv 0) (pa_cons (pv 1) pa_nil))) pa_nil)) pa_nil))) pa_nil))), ?_⟩
    have few : (ns.map V.int).length ≤ 63 := by rw [List.length_map]; exact hlen
    have all2 : ∀ n : Nat, (List.replicate n true).all id = true := fun n => List.all_eq_true.mpr fun b hb => by rw [List.eq_of_mem_replicate hb] <;> rfl
    refine ⟨_, rfl, a, _, rfl, .inl hS, _, _, rfl, _, _, rfl, _, rfl, ?_, ?_, fun L hL => lc_it walk_range (fun i H3 => H3 L = some (.lst ((List.replicate i true).map V.bl)) ∧ Xt H H3 ∧ Tabs [(Pt, qLam)] H3) ⟨upd_same, Xt.of (Same.put (Same.refl H) hL), Tabs.new tabs hL⟩ (fun _ _ _ _ => trivial) ?_ ?_⟩
    · split <;> split <;> omega
    · split <;> split <;> omega
    · rintro i x H3 H3' hi ⟨h1, h2, h3⟩ ⟨rfl, rfl⟩
      have hi' : i < 8 := by
        have q := hi
        split at q <;> (try split at q) <;> omega
      refine ⟨rfl, _, rfl, _, rfl, a, ns, _, rfl, Same.seq h2 (SqL.noT hS), hlen, by omega, by omega, fun n H4 s4 => ⟨_, rfl, fun p H5 np s5 hp => ⟨p, rfl, hp, Tabs.ext h3 (s4.trans s5), fun H6 b6 t6 => ?_⟩⟩⟩
      have h4 := s4 _ _ h1
      have s6 : Xt H H6 := fun b o e => by
        have q := s4 _ _ (h2 _ _ e)
        exact b6 b o (ne_of_none q np) (noT_at (s5 _ _ q) (noT_inv e).2)
      have hL6 := b6 L _ (ne_of_none h4 np) (noT_at (s5 _ _ h4) (fun _ z => by cases z))
      refine ⟨_, hL6, ?_, ?_, ?_, Tabs.put t6 hL6⟩
      · rw [List.length_map, List.length_replicate, sizeLine_eq]
        omega
      · rw [upd_same, List.replicate_succ', List.map_append] <;> rfl
      · exact fun b o e => by
          rw [upd_ne (ne_of_none (noT_inv e).1 hL)]
          exact s6 b o e
    · rintro H3 ⟨h1, h2, h3⟩
      refine ⟨L, _, rfl, SqL.of h1, ?_⟩
      rw [all2]
      exact k H3
end
end Wb
namespace Wb
open PySem L2 WbMin WbO WbT WbS Lz Le
theorem kit_own {K : PySem.W.Frag} {C : Addr} {t : String} (h1 : PySem.W.isClsIn K C = true) (h2 : PySem.W.typeIn K (.ref C) = some (.type "type")) (h3 : PySem.W.subIn K (.type t) (.ref C) = some false) : PySem.W.kitOne K (.type t) (.ref C) = some false := by
  unfold PySem.W.kitOne
  rw [if_neg (by intro z; have q := beq_iff_eq.mp z; cases q)]
  unfold PySem.W.kitCls
  show (if ((PySem.W.clsIn K C).isSome && PySem.W.typeIn K (.ref C) == some (.type "type")) = true then PySem.W.subIn K (.type t) (.ref C) else none) = some false
  have h1' : (PySem.W.clsIn K C).isSome = true := h1
  rw [h1', h2, h3, if_pos (by rw [Bool.true_and]; exact beq_iff_eq.mpr rfl)]
theorem kit_ref {K : PySem.W.Frag} {C B : Addr} (ne : ¬ B = C) (h1 : PySem.W.isClsIn K C = true) (h2 : PySem.W.typeIn K (.ref C) = some (.type "type")) (h3 : PySem.W.subIn K (.ref B) (.ref C) = some false) : PySem.W.kitOne K (.ref B) (.ref C) = some false := by
  unfold PySem.W.kitOne
  rw [if_neg (by intro z; have q := beq_iff_eq.mp z; injection q with q; exact ne q)]
  unfold PySem.W.kitCls
  show (if ((PySem.W.clsIn K C).isSome && PySem.W.typeIn K (.ref C) == some (.type "type")) = true then PySem.W.subIn K (.ref B) (.ref C) else none) = some false
  have h1' : (PySem.W.clsIn K C).isSome = true := h1
  rw [h1', h2, h3, if_pos (by rw [Bool.true_and]; exact beq_iff_eq.mpr rfl)]
theorem binds_nil {K : PySem.W.Frag} {fd : FuncData} {ps : List Str} (h : ∃ ds, Vals [] ds ∧ Binds K fd ps ds) : Binds K fd ps [] := by
  obtain ⟨ds, hv, hb⟩ := h
  cases hv
  exact hb
set_option maxHeartbeats 0 in
theorem all_mk {l : PySem.W.OpenLaw} {w : World} {K : PySem.W.Frag} {h : Heap} {mg : Str → Option Value} {fa C CK pT pKW tD : Addr} {t6 t4 : Tok} {rT rKW : List Value} {oc_tD : Value} {od_tD : Option Addr} {n_tD : Nat} {sl_tD : Array (Option Value)} (X : K.In h) (G : h.Ns mainGlobals mg) (hfa : mg "law" = some (.ref fa))
    {f_cell f_pool f_draw f_shuf f_face f_odd f_signs f_every f_couples f_heard f_along f_both f_right f_ksigns f_ksignof f_kfirst f_kispair f_kchpairs f_kallp f_khas f_kisword f_kgoes f_kturns f_law f_mI f_mT f_mKI f_mKN f_mKA f_mKW f_mKE : Addr} {od_cell an_cell od_pool an_pool od_draw an_draw od_shuf an_shuf od_face an_face od_odd an_odd od_signs an_signs od_every an_every od_couples an_couples od_heard an_heard od_along an_along od_both an_both od_right an_right od_ksigns an_ksigns od_ksignof an_ksignof od_kfirst an_kfirst od_kispair an_kispair od_kchpairs an_kchpairs od_kallp an_kallp od_khas an_khas od_kisword an_kisword od_kgoes an_kgoes od_kturns an_kturns od_law an_law od_mI an_mI od_mT an_mT od_mKI an_mKI od_mKN an_mKN od_mKA an_mKA od_mKW an_mKW od_mKE an_mKE : Option Addr} {sl_cell sl_pool sl_draw sl_shuf sl_face sl_odd sl_signs sl_every sl_couples sl_heard sl_along sl_both sl_right sl_ksigns sl_ksignof sl_kfirst sl_kispair sl_kchpairs sl_kallp sl_khas sl_kisword sl_kgoes sl_kturns sl_law sl_mI sl_mT sl_mKI sl_mKN sl_mKA sl_mKW sl_mKE : Array (Option Value)}
    {oc_cell kv_cell dc_cell pm_cell cd_cell ct_cell oc_pool kv_pool dc_pool pm_pool cd_pool ct_pool oc_draw kv_draw dc_draw pm_draw cd_draw ct_draw oc_shuf kv_shuf dc_shuf pm_shuf cd_shuf ct_shuf oc_face kv_face dc_face pm_face cd_face ct_face oc_odd kv_odd dc_odd pm_odd cd_odd ct_odd oc_signs kv_signs dc_signs pm_signs cd_signs ct_signs oc_every kv_every dc_every pm_every cd_every ct_every oc_couples kv_couples dc_couples pm_couples cd_couples ct_couples oc_heard kv_heard dc_heard pm_heard cd_heard ct_heard oc_along kv_along dc_along pm_along cd_along ct_along oc_both kv_both dc_both pm_both cd_both ct_both oc_right kv_right dc_right pm_right ct_right oc_ksigns kv_ksigns dc_ksigns pm_ksigns cd_ksigns ct_ksigns oc_ksignof kv_ksignof dc_ksignof pm_ksignof cd_ksignof ct_ksignof oc_kfirst kv_kfirst dc_kfirst pm_kfirst cd_kfirst ct_kfirst oc_kispair kv_kispair dc_kispair pm_kispair cd_kispair ct_kispair oc_kchpairs kv_kchpairs dc_kchpairs pm_kchpairs cd_kchpairs ct_kchpairs oc_kallp kv_kallp dc_kallp pm_kallp cd_kallp ct_kallp oc_khas kv_khas dc_khas pm_khas cd_khas ct_khas oc_kisword kv_kisword dc_kisword pm_kisword cd_kisword ct_kisword oc_kgoes kv_kgoes dc_kgoes pm_kgoes cd_kgoes ct_kgoes oc_kturns kv_kturns dc_kturns pm_kturns cd_kturns ct_kturns oc_law kv_law dc_law pm_law cd_law ct_law oc_mI kv_mI dc_mI pm_mI cd_mI ct_mI oc_mT kv_mT dc_mT pm_mT cd_mT ct_mT oc_mKI kv_mKI dc_mKI pm_mKI cd_mKI ct_mKI oc_mKN kv_mKN dc_mKN pm_mKN cd_mKN ct_mKN oc_mKA kv_mKA dc_mKA pm_mKA cd_mKA ct_mKA oc_mKW kv_mKW dc_mKW pm_mKW cd_mKW ct_mKW oc_mKE kv_mKE dc_mKE pm_mKE cd_mKE ct_mKE : Value}
    {cRt PtR w0 : Addr}
    {oc_cR : Value}
    {od_cR : Option Addr}
    {sl_cR : Array (Option Value)}
    {vsR : Array Value}
    {cK cN : Addr}
    {NK f_eK : Addr}
    {nmK qK : Str}
    {bsK suK : List Value}
    {snK : List Str}
    {abK : Bool}
    {coK : Option Bool}
    {ddK : Option Addr}
    {xK_0 xK_1 xK_2 xK_3 xK_5 : Option Value}
    {od_eK an_eK : Option Addr}
    {sl_eK : Array (Option Value)}
    {oc_eK kv_eK dc_eK pm_eK cd_eK ct_eK : Value}
    {om_NoneType or_NoneType : Option Value}
    {om_bool or_bool : Option Value}
    {om_int or_int : Option Value}
    {om_str or_str : Option Value}
    {om_list or_list : Option Value}
    {om_tuple or_tuple : Option Value}
    {om_dict or_dict : Option Value}
    (a_cell : PySem.W.nsIn K mainGlobals "_law_cell" = some (some (.ref f_cell)))
    (l_cell : K.lookup f_cell = some ⟨oc_cell, od_cell, .func (PySem.W.fnOf "_law_cell" "_law_cell" (defArgs sCell) (defBody sCell) (defScope sCell) .none kv_cell dc_cell pm_cell an_cell cd_cell ct_cell), sl_cell⟩)
    (c_cell : PySem.W.codeIn K cd_cell "_law_cell" = true)
    (k_cell : PySem.W.keepIn K (.ref f_cell) = true)
    (a_pool : PySem.W.nsIn K mainGlobals "_law_pool" = some (some (.ref f_pool)))
    (l_pool : K.lookup f_pool = some ⟨oc_pool, od_pool, .func (PySem.W.fnOf "_law_pool" "_law_pool" (defArgs sPool) (defBody sPool) (defScope sPool) .none kv_pool dc_pool pm_pool an_pool cd_pool ct_pool), sl_pool⟩)
    (c_pool : PySem.W.codeIn K cd_pool "_law_pool" = true)
    (k_pool : PySem.W.keepIn K (.ref f_pool) = true)
    (a_draw : PySem.W.nsIn K mainGlobals "_law_draw" = some (some (.ref f_draw)))
    (l_draw : K.lookup f_draw = some ⟨oc_draw, od_draw, .func (PySem.W.fnOf "_law_draw" "_law_draw" (defArgs sDraw) (defBody sDraw) (defScope sDraw) .none kv_draw dc_draw pm_draw an_draw cd_draw ct_draw), sl_draw⟩)
    (c_draw : PySem.W.codeIn K cd_draw "_law_draw" = true)
    (k_draw : PySem.W.keepIn K (.ref f_draw) = true)
    (a_shuf : PySem.W.nsIn K mainGlobals "_law_shuffled" = some (some (.ref f_shuf)))
    (l_shuf : K.lookup f_shuf = some ⟨oc_shuf, od_shuf, .func (PySem.W.fnOf "_law_shuffled" "_law_shuffled" (defArgs sShuf) (defBody sShuf) (defScope sShuf) .none kv_shuf dc_shuf pm_shuf an_shuf cd_shuf ct_shuf), sl_shuf⟩)
    (c_shuf : PySem.W.codeIn K cd_shuf "_law_shuffled" = true)
    (k_shuf : PySem.W.keepIn K (.ref f_shuf) = true)
    (a_face : PySem.W.nsIn K mainGlobals "_law_face" = some (some (.ref f_face)))
    (l_face : K.lookup f_face = some ⟨oc_face, od_face, .func (PySem.W.fnOf "_law_face" "_law_face" (defArgs sFace) (defBody sFace) (defScope sFace) .none kv_face dc_face pm_face an_face cd_face ct_face), sl_face⟩)
    (c_face : PySem.W.codeIn K cd_face "_law_face" = true)
    (k_face : PySem.W.keepIn K (.ref f_face) = true)
    (a_odd : PySem.W.nsIn K mainGlobals "_law_odd" = some (some (.ref f_odd)))
    (l_odd : K.lookup f_odd = some ⟨oc_odd, od_odd, .func (PySem.W.fnOf "_law_odd" "_law_odd" (defArgs sLOdd) (defBody sLOdd) (defScope sLOdd) .none kv_odd dc_odd pm_odd an_odd cd_odd ct_odd), sl_odd⟩)
    (c_odd : PySem.W.codeIn K cd_odd "_law_odd" = true)
    (k_odd : PySem.W.keepIn K (.ref f_odd) = true)
    (a_signs : PySem.W.nsIn K mainGlobals "_law_signs" = some (some (.ref f_signs)))
    (l_signs : K.lookup f_signs = some ⟨oc_signs, od_signs, .func (PySem.W.fnOf "_law_signs" "_law_signs" (defArgs sSigns) (defBody sSigns) (defScope sSigns) .none kv_signs dc_signs pm_signs an_signs cd_signs ct_signs), sl_signs⟩)
    (c_signs : PySem.W.codeIn K cd_signs "_law_signs" = true)
    (k_signs : PySem.W.keepIn K (.ref f_signs) = true)
    (a_every : PySem.W.nsIn K mainGlobals "_law_every" = some (some (.ref f_every)))
    (l_every : K.lookup f_every = some ⟨oc_every, od_every, .func (PySem.W.fnOf "_law_every" "_law_every" (defArgs sEvery) (defBody sEvery) (defScope sEvery) .none kv_every dc_every pm_every an_every cd_every ct_every), sl_every⟩)
    (c_every : PySem.W.codeIn K cd_every "_law_every" = true)
    (k_every : PySem.W.keepIn K (.ref f_every) = true)
    (a_couples : PySem.W.nsIn K mainGlobals "_law_couples" = some (some (.ref f_couples)))
    (l_couples : K.lookup f_couples = some ⟨oc_couples, od_couples, .func (PySem.W.fnOf "_law_couples" "_law_couples" (defArgs sCouples) (defBody sCouples) (defScope sCouples) .none kv_couples dc_couples pm_couples an_couples cd_couples ct_couples), sl_couples⟩)
    (c_couples : PySem.W.codeIn K cd_couples "_law_couples" = true)
    (k_couples : PySem.W.keepIn K (.ref f_couples) = true)
    (a_heard : PySem.W.nsIn K mainGlobals "_law_heard" = some (some (.ref f_heard)))
    (l_heard : K.lookup f_heard = some ⟨oc_heard, od_heard, .func (PySem.W.fnOf "_law_heard" "_law_heard" (defArgs sKHeard) (defBody sKHeard) (defScope sKHeard) .none kv_heard dc_heard pm_heard an_heard cd_heard ct_heard), sl_heard⟩)
    (c_heard : PySem.W.codeIn K cd_heard "_law_heard" = true)
    (k_heard : PySem.W.keepIn K (.ref f_heard) = true)
    (a_along : PySem.W.nsIn K mainGlobals "_law_along" = some (some (.ref f_along)))
    (l_along : K.lookup f_along = some ⟨oc_along, od_along, .func (PySem.W.fnOf "_law_along" "_law_along" (defArgs sAlong) (defBody sAlong) (defScope sAlong) .none kv_along dc_along pm_along an_along cd_along ct_along), sl_along⟩)
    (c_along : PySem.W.codeIn K cd_along "_law_along" = true)
    (k_along : PySem.W.keepIn K (.ref f_along) = true)
    (a_both : PySem.W.nsIn K mainGlobals "_law_both" = some (some (.ref f_both)))
    (l_both : K.lookup f_both = some ⟨oc_both, od_both, .func (PySem.W.fnOf "_law_both" "_law_both" (defArgs sBoth) (defBody sBoth) (defScope sBoth) .none kv_both dc_both pm_both an_both cd_both ct_both), sl_both⟩)
    (c_both : PySem.W.codeIn K cd_both "_law_both" = true)
    (k_both : PySem.W.keepIn K (.ref f_both) = true)
    (a_right : PySem.W.nsIn K mainGlobals "_law_right" = some (some (.ref f_right)))
    (l_right : K.lookup f_right = some ⟨oc_right, od_right, .func (PySem.W.fnOf "_law_right" "_law_right" (defArgs sRight) (defBody sRight) (defScope sRight) .none kv_right dc_right pm_right an_right (.ref cRt) ct_right), sl_right⟩)
    (c_right : PySem.W.codeIn K (.ref cRt) "_law_right" = true)
    (k_right : PySem.W.keepIn K (.ref f_right) = true)
    (a_ksigns : PySem.W.nsIn K mainGlobals "is_signs" = some (some (.ref f_ksigns)))
    (l_ksigns : K.lookup f_ksigns = some ⟨oc_ksigns, od_ksigns, .func (PySem.W.fnOf "is_signs" "is_signs" (defArgs sIsSigns) (defBody sIsSigns) (defScope sIsSigns) .none kv_ksigns dc_ksigns pm_ksigns an_ksigns cd_ksigns ct_ksigns), sl_ksigns⟩)
    (c_ksigns : PySem.W.codeIn K cd_ksigns "is_signs" = true)
    (k_ksigns : PySem.W.keepIn K (.ref f_ksigns) = true)
    (a_ksignof : PySem.W.nsIn K mainGlobals "is_sign_of" = some (some (.ref f_ksignof)))
    (l_ksignof : K.lookup f_ksignof = some ⟨oc_ksignof, od_ksignof, .func (PySem.W.fnOf "is_sign_of" "is_sign_of" (defArgs sSignOf) (defBody sSignOf) (defScope sSignOf) .none kv_ksignof dc_ksignof pm_ksignof an_ksignof cd_ksignof ct_ksignof), sl_ksignof⟩)
    (c_ksignof : PySem.W.codeIn K cd_ksignof "is_sign_of" = true)
    (k_ksignof : PySem.W.keepIn K (.ref f_ksignof) = true)
    (a_kfirst : PySem.W.nsIn K mainGlobals "first_wrong" = some (some (.ref f_kfirst)))
    (l_kfirst : K.lookup f_kfirst = some ⟨oc_kfirst, od_kfirst, .func (PySem.W.fnOf "first_wrong" "first_wrong" (defArgs sFirst) (defBody sFirst) (defScope sFirst) .none kv_kfirst dc_kfirst pm_kfirst an_kfirst cd_kfirst ct_kfirst), sl_kfirst⟩)
    (c_kfirst : PySem.W.codeIn K cd_kfirst "first_wrong" = true)
    (k_kfirst : PySem.W.keepIn K (.ref f_kfirst) = true)
    (a_kispair : PySem.W.nsIn K mainGlobals "_is_pair" = some (some (.ref f_kispair)))
    (l_kispair : K.lookup f_kispair = some ⟨oc_kispair, od_kispair, .func (PySem.W.fnOf "_is_pair" "_is_pair" (defArgs sIsPair) (defBody sIsPair) (defScope sIsPair) .none kv_kispair dc_kispair pm_kispair an_kispair cd_kispair ct_kispair), sl_kispair⟩)
    (c_kispair : PySem.W.codeIn K cd_kispair "_is_pair" = true)
    (k_kispair : PySem.W.keepIn K (.ref f_kispair) = true)
    (a_kchpairs : PySem.W.nsIn K mainGlobals "_check_pairs" = some (some (.ref f_kchpairs)))
    (l_kchpairs : K.lookup f_kchpairs = some ⟨oc_kchpairs, od_kchpairs, .func (PySem.W.fnOf "_check_pairs" "_check_pairs" (defArgs sChPairs) (defBody sChPairs) (defScope sChPairs) .none kv_kchpairs dc_kchpairs pm_kchpairs an_kchpairs cd_kchpairs ct_kchpairs), sl_kchpairs⟩)
    (c_kchpairs : PySem.W.codeIn K cd_kchpairs "_check_pairs" = true)
    (k_kchpairs : PySem.W.keepIn K (.ref f_kchpairs) = true)
    (a_kallp : PySem.W.nsIn K mainGlobals "_all_pairs" = some (some (.ref f_kallp)))
    (l_kallp : K.lookup f_kallp = some ⟨oc_kallp, od_kallp, .func (PySem.W.fnOf "_all_pairs" "_all_pairs" (defArgs sAllP) (defBody sAllP) (defScope sAllP) .none kv_kallp dc_kallp pm_kallp an_kallp cd_kallp ct_kallp), sl_kallp⟩)
    (c_kallp : PySem.W.codeIn K cd_kallp "_all_pairs" = true)
    (k_kallp : PySem.W.keepIn K (.ref f_kallp) = true)
    (a_khas : PySem.W.nsIn K mainGlobals "_has_ring" = some (some (.ref f_khas)))
    (l_khas : K.lookup f_khas = some ⟨oc_khas, od_khas, .func (PySem.W.fnOf "_has_ring" "_has_ring" (defArgs sHas) (defBody sHas) (defScope sHas) .none kv_khas dc_khas pm_khas an_khas cd_khas ct_khas), sl_khas⟩)
    (c_khas : PySem.W.codeIn K cd_khas "_has_ring" = true)
    (k_khas : PySem.W.keepIn K (.ref f_khas) = true)
    (a_kisword : PySem.W.nsIn K mainGlobals "is_word" = some (some (.ref f_kisword)))
    (l_kisword : K.lookup f_kisword = some ⟨oc_kisword, od_kisword, .func (PySem.W.fnOf "is_word" "is_word" (defArgs sIsWord) (defBody sIsWord) (defScope sIsWord) .none kv_kisword dc_kisword pm_kisword an_kisword cd_kisword ct_kisword), sl_kisword⟩)
    (c_kisword : PySem.W.codeIn K cd_kisword "is_word" = true)
    (k_kisword : PySem.W.keepIn K (.ref f_kisword) = true)
    (a_kgoes : PySem.W.nsIn K mainGlobals "_goes_round" = some (some (.ref f_kgoes)))
    (l_kgoes : K.lookup f_kgoes = some ⟨oc_kgoes, od_kgoes, .func (PySem.W.fnOf "_goes_round" "_goes_round" (defArgs sGoes) (defBody sGoes) (defScope sGoes) .none kv_kgoes dc_kgoes pm_kgoes an_kgoes cd_kgoes ct_kgoes), sl_kgoes⟩)
    (c_kgoes : PySem.W.codeIn K cd_kgoes "_goes_round" = true)
    (k_kgoes : PySem.W.keepIn K (.ref f_kgoes) = true)
    (a_kturns : PySem.W.nsIn K mainGlobals "_all_turnings" = some (some (.ref f_kturns)))
    (l_kturns : K.lookup f_kturns = some ⟨oc_kturns, od_kturns, .func (PySem.W.fnOf "_all_turnings" "_all_turnings" (defArgs sTurns) (defBody sTurns) (defScope sTurns) .none kv_kturns dc_kturns pm_kturns an_kturns cd_kturns ct_kturns), sl_kturns⟩)
    (c_kturns : PySem.W.codeIn K cd_kturns "_all_turnings" = true)
    (k_kturns : PySem.W.keepIn K (.ref f_kturns) = true)
    (a_law : PySem.W.nsIn K mainGlobals "law" = some (some (.ref f_law)))
    (l_law : K.lookup f_law = some ⟨oc_law, od_law, .func (PySem.W.fnOf "law" "law" (defArgs sLaw) (defBody sLaw) (defScope sLaw) .none kv_law dc_law pm_law an_law cd_law ct_law), sl_law⟩)
    (c_law : PySem.W.codeIn K cd_law "law" = true)
    (k_law : PySem.W.keepIn K (.ref f_law) = true)
    (aC : PySem.W.nsIn K mainGlobals "Ring" = some (some (.ref C)))
    (aCK : PySem.W.nsIn K mainGlobals "Kind" = some (some (.ref CK)))
    (a_mI : PySem.W.findIn K (.ref C) "__init__" = some (some (.ref f_mI)))
    (i_mI : PySem.W.isFn K (.ref f_mI) = true)
    (l_mI : K.lookup f_mI = some ⟨oc_mI, od_mI, .func (PySem.W.fnOf "__init__" "Ring.__init__" (defArgs sInit) (defBody sInit) (defScope sInit) .none kv_mI dc_mI pm_mI an_mI cd_mI ct_mI), sl_mI⟩)
    (c_mI : PySem.W.codeIn K cd_mI "Ring.__init__" = true)
    (k_mI : PySem.W.keepIn K (.ref f_mI) = true)
    (p_atT : PySem.W.findIn K (.ref C) "text" = some (some (.ref pT)))
    (p_getT : PySem.W.specialIn K (.ref pT) "__get__" = some (some (.builtin "property.__get__")))
    (p_takT : PySem.W.takesIn K (.ref pT) = some true)
    (p_recT : PySem.W.recIn K pT "property" = some (.ref f_mT :: rT))
    (l_mT : K.lookup f_mT = some ⟨oc_mT, od_mT, .func (PySem.W.fnOf "text" "Ring.text" (defArgs sText) (defBody sText) (defScope sText) .none kv_mT dc_mT pm_mT an_mT cd_mT ct_mT), sl_mT⟩)
    (c_mT : PySem.W.codeIn K cd_mT "Ring.text" = true)
    (k_mT : PySem.W.keepIn K (.ref f_mT) = true)
    (a_mKI : PySem.W.findIn K (.ref CK) "__init__" = some (some (.ref f_mKI)))
    (i_mKI : PySem.W.isFn K (.ref f_mKI) = true)
    (l_mKI : K.lookup f_mKI = some ⟨oc_mKI, od_mKI, .func (PySem.W.fnOf "__init__" "Kind.__init__" (defArgs sKInit) (defBody sKInit) (defScope sKInit) (.ref tD) kv_mKI dc_mKI pm_mKI an_mKI cd_mKI ct_mKI), sl_mKI⟩)
    (c_mKI : PySem.W.codeIn K cd_mKI "Kind.__init__" = true)
    (k_mKI : PySem.W.keepIn K (.ref f_mKI) = true)
    (a_mKN : PySem.W.findIn K (.ref CK) "__contains__" = some (some (.ref f_mKN)))
    (i_mKN : PySem.W.isFn K (.ref f_mKN) = true)
    (l_mKN : K.lookup f_mKN = some ⟨oc_mKN, od_mKN, .func (PySem.W.fnOf "__contains__" "Kind.__contains__" (defArgs sKIn) (defBody sKIn) (defScope sKIn) .none kv_mKN dc_mKN pm_mKN an_mKN cd_mKN ct_mKN), sl_mKN⟩)
    (c_mKN : PySem.W.codeIn K cd_mKN "Kind.__contains__" = true)
    (k_mKN : PySem.W.keepIn K (.ref f_mKN) = true)
    (a_mKA : PySem.W.findIn K (.ref CK) "__and__" = some (some (.ref f_mKA)))
    (i_mKA : PySem.W.isFn K (.ref f_mKA) = true)
    (l_mKA : K.lookup f_mKA = some ⟨oc_mKA, od_mKA, .func (PySem.W.fnOf "__and__" "Kind.__and__" (defArgs sKAnd) (defBody sKAnd) (defScope sKAnd) .none kv_mKA dc_mKA pm_mKA an_mKA cd_mKA ct_mKA), sl_mKA⟩)
    (c_mKA : PySem.W.codeIn K cd_mKA "Kind.__and__" = true)
    (k_mKA : PySem.W.keepIn K (.ref f_mKA) = true)
    (p_atKW : PySem.W.findIn K (.ref CK) "row" = some (some (.ref pKW)))
    (p_getKW : PySem.W.specialIn K (.ref pKW) "__get__" = some (some (.builtin "property.__get__")))
    (p_takKW : PySem.W.takesIn K (.ref pKW) = some true)
    (p_recKW : PySem.W.recIn K pKW "property" = some (.ref f_mKW :: rKW))
    (l_mKW : K.lookup f_mKW = some ⟨oc_mKW, od_mKW, .func (PySem.W.fnOf "row" "Kind.row" (defArgs sKRow) (defBody sKRow) (defScope sKRow) .none kv_mKW dc_mKW pm_mKW an_mKW cd_mKW ct_mKW), sl_mKW⟩)
    (c_mKW : PySem.W.codeIn K cd_mKW "Kind.row" = true)
    (k_mKW : PySem.W.keepIn K (.ref f_mKW) = true)
    (a_mKE : PySem.W.findIn K (.ref CK) "__eq__" = some (some (.ref f_mKE)))
    (i_mKE : PySem.W.isFn K (.ref f_mKE) = true)
    (l_mKE : K.lookup f_mKE = some ⟨oc_mKE, od_mKE, .func (PySem.W.fnOf "__eq__" "Kind.__eq__" (defArgs sKEq) (defBody sKEq) (defScope sKEq) .none kv_mKE dc_mKE pm_mKE an_mKE cd_mKE ct_mKE), sl_mKE⟩)
    (c_mKE : PySem.W.codeIn K cd_mKE "Kind.__eq__" = true)
    (k_mKE : PySem.W.keepIn K (.ref f_mKE) = true)
    (l_tD : K.lookup tD = some ⟨oc_tD, od_tD, .seq #[.none] n_tD, sl_tD⟩)
    (pg : PySem.W.plainGet K C Str.empty = true)
    (hd : PySem.W.hasDictIn K C = true)
    (po : PySem.W.plainOver K C = true)
    (sa : PySem.W.findIn K (.ref C) "__setattr__" = some (some (.builtin "object.__setattr__")))
    (mk : PySem.W.makesIn K C = true)
    (kc : PySem.W.keepIn K (.ref C) = true)
    (cc : PySem.W.findIn K (.ref C) "__class__" = some (some (.builtin "object.__class__")))
    (co : PySem.W.mroIn K C (.type "object") = some true)
    (pgKd : PySem.W.plainGet K CK Str.empty = true)
    (hdKd : PySem.W.hasDictIn K CK = true)
    (poKd : PySem.W.plainOver K CK = true)
    (saKd : PySem.W.findIn K (.ref CK) "__setattr__" = some (some (.builtin "object.__setattr__")))
    (mkKd : PySem.W.makesIn K CK = true)
    (kcKd : PySem.W.keepIn K (.ref CK) = true)
    (ccKd : PySem.W.findIn K (.ref CK) "__class__" = some (some (.builtin "object.__class__")))
    (coKd : PySem.W.mroIn K CK (.type "object") = some true)
    (nT : PySem.W.findIn K (.ref C) "_text" = some none)
    (nP_ : PySem.W.findIn K (.ref C) "_period" = some none)
    (nSK : PySem.W.findIn K (.ref CK) "_signs" = some none)
    (nPK : PySem.W.findIn K (.ref CK) "_pairs" = some none)
    (nRK : PySem.W.findIn K (.ref CK) "_ringed" = some none)
    (cg : PySem.W.specialIn K (.builtin "object.__class__") "__get__" = some (some (.builtin "getset_descriptor.__get__")))
    (ct : PySem.W.takesIn K (.builtin "object.__class__") = some true)
    (g6 : PySem.W.nsIn K mainGlobals "MOST_WORD" = some (some (.int 600 t6)))
    (g4 : PySem.W.nsIn K mainGlobals "MOST_SIGNS" = some (some (.int 4 t4)))
    (aXK : PySem.W.nsIn K mainGlobals "NotAKind" = some (some (.ref cK)))
    (exK : PySem.W.subIn K (.ref cK) (.type "BaseException") = some true)
    (tyK : PySem.W.typeIn K (.ref cK) = some (.type "type"))
    (hdKx : PySem.W.hasDictIn K cK = true)
    (kcKx : PySem.W.keepIn K (.ref cK) = true)
    (aXN : PySem.W.nsIn K mainGlobals "NoRing" = some (some (.ref cN)))
    (exN : PySem.W.subIn K (.ref cN) (.type "BaseException") = some true)
    (tyN : PySem.W.typeIn K (.ref cN) = some (.type "type"))
    (hdNx : PySem.W.hasDictIn K cN = true)
    (kcNx : PySem.W.keepIn K (.ref cN) = true)
    (gaK : PySem.W.findIn K (.ref cK) "__getattribute__" = some (some (.builtin "BaseException.__getattribute__")))
    (ggK : PySem.W.findIn K (.ref cK) "__getattr__" = some none)
    (noK : PySem.W.findIn K (.ref cK) "given" = some none)
    (sKK : PySem.W.subIn K (.ref cK) (.ref cK) = some true)
    (sNK : PySem.W.subIn K (.ref cN) (.ref cK) = some false)
    (sNN : PySem.W.subIn K (.ref cN) (.ref cN) = some true)
    (xqN : PySem.W.excIn K cN [.type "ArithmeticError", .type "Exception", .type "BaseException", .type "object"] "ArithmeticError.__new__" = true)
    (xLK : K.lookup cK = some (excClassObj nmK qK cK NK bsK (.ref w0 :: [.type "ValueError", .type "Exception", .type "BaseException", .type "object"]) true snK suK abK coK ddK xK_0 xK_1 xK_2 xK_3 xK_5 "ValueError.__new__"))
    (saKx : PySem.W.findIn K (.ref cK) "__setattr__" = some (some (.builtin "object.__setattr__")))
    (iniK : PySem.W.findIn K (.ref cK) "__init__" = some (some (.ref f_eK)))
    (fnK : PySem.W.typeIn K (.ref f_eK) = some (.type "function"))
    (l_eK : K.lookup f_eK = some ⟨oc_eK, od_eK, .func (PySem.W.fnOf "__init__" "NotAKind.__init__" (defArgs sErrNotAKind) (defBody sErrNotAKind) (defScope sErrNotAKind) .none kv_eK dc_eK pm_eK an_eK cd_eK ct_eK), sl_eK⟩)
    (c_eK : PySem.W.codeIn K cd_eK "NotAKind.__init__" = true)
    (k_eK : PySem.W.keepIn K (.ref f_eK) = true)
    (l_cR : K.lookup cRt = some ⟨oc_cR, od_cR, .fields vsR, sl_cR⟩)
    (v11 : (vsR[11]? : Option Value) = some (.ref PtR))
    (nP : K.lookup PtR = none)
    (im_NoneType : PySem.W.findIn K (.type "NoneType") "__and__" = some om_NoneType)
    (ir_NoneType : PySem.W.findIn K (.type "NoneType") "__rand__" = some or_NoneType)
    (su_NoneType : PySem.W.subIn K (.type "NoneType") (.ref CK) = some false)
    (im_bool : PySem.W.findIn K (.type "bool") "__and__" = some om_bool)
    (ir_bool : PySem.W.findIn K (.type "bool") "__rand__" = some or_bool)
    (su_bool : PySem.W.subIn K (.type "bool") (.ref CK) = some false)
    (im_int : PySem.W.findIn K (.type "int") "__and__" = some om_int)
    (ir_int : PySem.W.findIn K (.type "int") "__rand__" = some or_int)
    (su_int : PySem.W.subIn K (.type "int") (.ref CK) = some false)
    (im_str : PySem.W.findIn K (.type "str") "__and__" = some om_str)
    (ir_str : PySem.W.findIn K (.type "str") "__rand__" = some or_str)
    (su_str : PySem.W.subIn K (.type "str") (.ref CK) = some false)
    (im_list : PySem.W.findIn K (.type "list") "__and__" = some om_list)
    (ir_list : PySem.W.findIn K (.type "list") "__rand__" = some or_list)
    (su_list : PySem.W.subIn K (.type "list") (.ref CK) = some false)
    (im_tuple : PySem.W.findIn K (.type "tuple") "__and__" = some om_tuple)
    (ir_tuple : PySem.W.findIn K (.type "tuple") "__rand__" = some or_tuple)
    (su_tuple : PySem.W.subIn K (.type "tuple") (.ref CK) = some false)
    (im_dict : PySem.W.findIn K (.type "dict") "__and__" = some om_dict)
    (ir_dict : PySem.W.findIn K (.type "dict") "__rand__" = some or_dict)
    (su_dict : PySem.W.subIn K (.type "dict") (.ref CK) = some false)
    (suR : PySem.W.subIn K (.ref C) (.ref CK) = some false)
    (kx : PySem.W.findIn K (.ref CK) "text" = some none)
    (icl : PySem.W.isClsIn K CK = true)
    (tcl : PySem.W.typeIn K (.ref CK) = some (.type "type"))
    (twoR : PySem.W.mroTwo K C = true)
    (nRa : PySem.W.findIn K (.ref C) "__and__" = some none)
    (nRr : PySem.W.findIn K (.ref C) "__rand__" = some none)
    (nOa : PySem.W.findIn K (.type "object") "__and__" = some none)
    (nOr : PySem.W.findIn K (.type "object") "__rand__" = some none)
    (nf : PySem.W.notFirst K CK (.ref CK) = true)
    (sf : PySem.W.selfFirst K CK = true)
    (rAn : PySem.W.findIn K (.ref CK) "__rand__" = some none)
    (sR_tuple : PySem.W.subIn K (.ref C) (.type "tuple") = some false)
    (sR_list : PySem.W.subIn K (.ref C) (.type "list") = some false)
    (sR_dict : PySem.W.subIn K (.ref C) (.type "dict") = some false)
    (sR_bool : PySem.W.subIn K (.ref C) (.type "bool") = some false)
    (z_int : PySem.W.nsIn K mainGlobals "int" = some none)
    (z_len : PySem.W.nsIn K mainGlobals "len" = some none)
    (z_range : PySem.W.nsIn K mainGlobals "range" = some none)
    (z_divmod : PySem.W.nsIn K mainGlobals "divmod" = some none)
    (z_abs : PySem.W.nsIn K mainGlobals "abs" = some none)
    (z_isinstance : PySem.W.nsIn K mainGlobals "isinstance" = some none)
    (z_str : PySem.W.nsIn K mainGlobals "str" = some none)
    (z_all : PySem.W.nsIn K mainGlobals "all" = some none)
    (z_min : PySem.W.nsIn K mainGlobals "min" = some none)
    (z_max : PySem.W.nsIn K mainGlobals "max" = some none)
    (z_set : PySem.W.nsIn K mainGlobals "set" = some none)
    (z_bool : PySem.W.nsIn K mainGlobals "bool" = some none)
    (z_tuple : PySem.W.nsIn K mainGlobals "tuple" = some none)
    (z_list : PySem.W.nsIn K mainGlobals "list" = some none)
    (z_any : PySem.W.nsIn K mainGlobals "any" = some none)
    (z_enumerate : PySem.W.nsIn K mainGlobals "enumerate" = some none)
    (z_sorted : PySem.W.nsIn K mainGlobals "sorted" = some none)
    (z_dict : PySem.W.nsIn K mainGlobals "dict" = some none) :
    ∃ (fd : FuncData) (c Pt : Addr), K.lookup Pt = none ∧ PySem.W.tabIn K "_law_right" = some (c, Pt) ∧ (∀ (s : Shared) (v : Value), BindsTo s fd ⟨[v], []⟩ [("_law_script", v)]) ∧ ∀ base : Heap, K.In base → base.Ns mainGlobals mg → LamX.TabB base mg c Pt → FnOk l.prog w K mg base CX0 10 fa fd ["_law_script"] (spLawT K Pt) := by
  have e := hfa.symm.trans (PySem.W.mg_of X G a_law)
  cases e
  have T : Txt K mg C := ⟨⟨pg, hd, po, sa⟩, nT, nP_, PySem.W.mg_of X G aC, cc, cg, ct, co⟩
  have TK : KTxt K mg CK := ⟨⟨pgKd, hdKd, poKd, saKd⟩, nSK, nPK, nRK, PySem.W.mg_of X G aCK, ccKd, coKd⟩
  have Z_int := PySem.W.mg_none_of X G z_int
  have Z_len := PySem.W.mg_none_of X G z_len
  have Z_range := PySem.W.mg_none_of X G z_range
  have Z_divmod := PySem.W.mg_none_of X G z_divmod
  have Z_abs := PySem.W.mg_none_of X G z_abs
  have Z_isinstance := PySem.W.mg_none_of X G z_isinstance
  have Z_str := PySem.W.mg_none_of X G z_str
  have Z_all := PySem.W.mg_none_of X G z_all
  have Z_min := PySem.W.mg_none_of X G z_min
  have Z_max := PySem.W.mg_none_of X G z_max
  have Z_set := PySem.W.mg_none_of X G z_set
  have Z_bool := PySem.W.mg_none_of X G z_bool
  have Z_tuple := PySem.W.mg_none_of X G z_tuple
  have Z_list := PySem.W.mg_none_of X G z_list
  have Z_any := PySem.W.mg_none_of X G z_any
  have Z_enumerate := PySem.W.mg_none_of X G z_enumerate
  have Z_sorted := PySem.W.mg_none_of X G z_sorted
  have Z_dict := PySem.W.mg_none_of X G z_dict
  have Z : Free mg := ⟨Z_int, Z_len, Z_range, Z_divmod, Z_abs, Z_isinstance, Z_str, Z_all, Z_min, Z_max, Z_set, Z_bool⟩
  have F_cell := fun_mk (st := sCell) l_cell c_cell k_cell
  have b_cell := F_cell.binds (ps := ["_law_script", "_law_k"]) fun _ _ _ _ _ _ us hl => match us, hl with | [_, _], _ => rfl
  have D_cell : Def K mg "_law_cell" sCell ["_law_script", "_law_k"] f_cell _ := ⟨F_cell, PySem.W.mg_of X G a_cell, k_cell, b_cell⟩
  have F_pool := fun_mk (st := sPool) l_pool c_pool k_pool
  have b_pool := F_pool.binds (ps := ["_law_cell_here"]) fun _ _ _ _ _ _ us hl => match us, hl with | [_], _ => rfl
  have D_pool : Def K mg "_law_pool" sPool ["_law_cell_here"] f_pool _ := ⟨F_pool, PySem.W.mg_of X G a_pool, k_pool, b_pool⟩
  have F_draw := fun_mk (st := sDraw) l_draw c_draw k_draw
  have b_draw := F_draw.binds (ps := ["_law_pool_here", "_law_many"]) fun _ _ _ _ _ _ us hl => match us, hl with | [_, _], _ => rfl
  have D_draw : Def K mg "_law_draw" sDraw ["_law_pool_here", "_law_many"] f_draw _ := ⟨F_draw, PySem.W.mg_of X G a_draw, k_draw, b_draw⟩
  have F_shuf := fun_mk (st := sShuf) l_shuf c_shuf k_shuf
  have b_shuf := F_shuf.binds (ps := ["_law_pool_here", "_law_things"]) fun _ _ _ _ _ _ us hl => match us, hl with | [_, _], _ => rfl
  have D_shuf : Def K mg "_law_shuffled" sShuf ["_law_pool_here", "_law_things"] f_shuf _ := ⟨F_shuf, PySem.W.mg_of X G a_shuf, k_shuf, b_shuf⟩
  have F_face := fun_mk (st := sFace) l_face c_face k_face
  have b_face := F_face.binds (ps := ["_law_thing"]) fun _ _ _ _ _ _ us hl => match us, hl with | [_], _ => rfl
  have D_face : Def K mg "_law_face" sFace ["_law_thing"] f_face _ := ⟨F_face, PySem.W.mg_of X G a_face, k_face, b_face⟩
  have F_odd := fun_mk (st := sLOdd) l_odd c_odd k_odd
  have b_odd := F_odd.binds (ps := ["_law_pool_here"]) fun _ _ _ _ _ _ us hl => match us, hl with | [_], _ => rfl
  have D_odd : Def K mg "_law_odd" sLOdd ["_law_pool_here"] f_odd _ := ⟨F_odd, PySem.W.mg_of X G a_odd, k_odd, b_odd⟩
  have F_signs := fun_mk (st := sSigns) l_signs c_signs k_signs
  have b_signs := F_signs.binds (ps := ["_law_pool_here", "_law_most"]) fun _ _ _ _ _ _ us hl => match us, hl with | [_, _], _ => rfl
  have D_signs : Def K mg "_law_signs" sSigns ["_law_pool_here", "_law_most"] f_signs _ := ⟨F_signs, PySem.W.mg_of X G a_signs, k_signs, b_signs⟩
  have F_every := fun_mk (st := sEvery) l_every c_every k_every
  have b_every := F_every.binds (ps := ["_law_abc"]) fun _ _ _ _ _ _ us hl => match us, hl with | [_], _ => rfl
  have D_every : Def K mg "_law_every" sEvery ["_law_abc"] f_every _ := ⟨F_every, PySem.W.mg_of X G a_every, k_every, b_every⟩
  have F_couples := fun_mk (st := sCouples) l_couples c_couples k_couples
  have b_couples := F_couples.binds (ps := ["_law_pool_here", "_law_abc"]) fun _ _ _ _ _ _ us hl => match us, hl with | [_, _], _ => rfl
  have D_couples : Def K mg "_law_couples" sCouples ["_law_pool_here", "_law_abc"] f_couples _ := ⟨F_couples, PySem.W.mg_of X G a_couples, k_couples, b_couples⟩
  have F_heard := fun_mk (st := sKHeard) l_heard c_heard k_heard
  have b_heard := F_heard.binds (ps := ["_law_act"]) fun _ _ _ _ _ _ us hl => match us, hl with | [_], _ => rfl
  have D_heard : Def K mg "_law_heard" sKHeard ["_law_act"] f_heard _ := ⟨F_heard, PySem.W.mg_of X G a_heard, k_heard, b_heard⟩
  have F_along := fun_mk (st := sAlong) l_along c_along k_along
  have b_along := F_along.binds (ps := ["_law_pool_here", "_law_abc", "_law_some"]) fun _ _ _ _ _ _ us hl => match us, hl with | [_, _, _], _ => rfl
  have D_along : Def K mg "_law_along" sAlong ["_law_pool_here", "_law_abc", "_law_some"] f_along _ := ⟨F_along, PySem.W.mg_of X G a_along, k_along, b_along⟩
  have F_both := fun_mk (st := sBoth) l_both c_both k_both
  have b_both := F_both.binds (ps := ["_law_abc", "_law_mate_abc", "_law_some", "_law_mate_some"]) fun _ _ _ _ _ _ us hl => match us, hl with | [_, _, _, _], _ => rfl
  have D_both : Def K mg "_law_both" sBoth ["_law_abc", "_law_mate_abc", "_law_some", "_law_mate_some"] f_both _ := ⟨F_both, PySem.W.mg_of X G a_both, k_both, b_both⟩
  have F_right := fun_mk (st := sRight) l_right c_right k_right
  have b_right := F_right.binds (ps := ["_law_pool_here"]) fun _ _ _ _ _ _ us hl => match us, hl with | [_], _ => rfl
  have D_right : Def K mg "_law_right" sRight ["_law_pool_here"] f_right _ := ⟨F_right, PySem.W.mg_of X G a_right, k_right, b_right⟩
  have F_ksigns := fun_mk (st := sIsSigns) l_ksigns c_ksigns k_ksigns
  have b_ksigns := F_ksigns.binds (ps := ["value"]) fun _ _ _ _ _ _ us hl => match us, hl with | [_], _ => rfl
  have D_ksigns : Def K mg "is_signs" sIsSigns ["value"] f_ksigns _ := ⟨F_ksigns, PySem.W.mg_of X G a_ksigns, k_ksigns, b_ksigns⟩
  have F_ksignof := fun_mk (st := sSignOf) l_ksignof c_ksignof k_ksignof
  have b_ksignof := F_ksignof.binds (ps := ["value", "signs"]) fun _ _ _ _ _ _ us hl => match us, hl with | [_, _], _ => rfl
  have D_ksignof : Def K mg "is_sign_of" sSignOf ["value", "signs"] f_ksignof _ := ⟨F_ksignof, PySem.W.mg_of X G a_ksignof, k_ksignof, b_ksignof⟩
  have F_kfirst := fun_mk (st := sFirst) l_kfirst c_kfirst k_kfirst
  have b_kfirst := F_kfirst.binds (ps := ["values", "right"]) fun _ _ _ _ _ _ us hl => match us, hl with | [_, _], _ => rfl
  have D_kfirst : Def K mg "first_wrong" sFirst ["values", "right"] f_kfirst _ := ⟨F_kfirst, PySem.W.mg_of X G a_kfirst, k_kfirst, b_kfirst⟩
  have F_kispair := fun_mk (st := sIsPair) l_kispair c_kispair k_kispair
  have b_kispair := F_kispair.binds (ps := ["value", "signs"]) fun _ _ _ _ _ _ us hl => match us, hl with | [_, _], _ => rfl
  have D_kispair : Def K mg "_is_pair" sIsPair ["value", "signs"] f_kispair _ := ⟨F_kispair, PySem.W.mg_of X G a_kispair, k_kispair, b_kispair⟩
  have F_kchpairs := fun_mk (st := sChPairs) l_kchpairs c_kchpairs k_kchpairs
  have b_kchpairs := F_kchpairs.binds (ps := ["pairs", "signs"]) fun _ _ _ _ _ _ us hl => match us, hl with | [_, _], _ => rfl
  have D_kchpairs : Def K mg "_check_pairs" sChPairs ["pairs", "signs"] f_kchpairs _ := ⟨F_kchpairs, PySem.W.mg_of X G a_kchpairs, k_kchpairs, b_kchpairs⟩
  have F_kallp := fun_mk (st := sAllP) l_kallp c_kallp k_kallp
  have b_kallp := F_kallp.binds (ps := ["signs"]) fun _ _ _ _ _ _ us hl => match us, hl with | [_], _ => rfl
  have D_kallp : Def K mg "_all_pairs" sAllP ["signs"] f_kallp _ := ⟨F_kallp, PySem.W.mg_of X G a_kallp, k_kallp, b_kallp⟩
  have F_khas := fun_mk (st := sHas) l_khas c_khas k_khas
  have b_khas := F_khas.binds (ps := ["signs", "pairs"]) fun _ _ _ _ _ _ us hl => match us, hl with | [_, _], _ => rfl
  have D_khas : Def K mg "_has_ring" sHas ["signs", "pairs"] f_khas _ := ⟨F_khas, PySem.W.mg_of X G a_khas, k_khas, b_khas⟩
  have F_kisword := fun_mk (st := sIsWord) l_kisword c_kisword k_kisword
  have b_kisword := F_kisword.binds (ps := ["value"]) fun _ _ _ _ _ _ us hl => match us, hl with | [_], _ => rfl
  have D_kisword : Def K mg "is_word" sIsWord ["value"] f_kisword _ := ⟨F_kisword, PySem.W.mg_of X G a_kisword, k_kisword, b_kisword⟩
  have F_kgoes := fun_mk (st := sGoes) l_kgoes c_kgoes k_kgoes
  have b_kgoes := F_kgoes.binds (ps := ["text", "pairs"]) fun _ _ _ _ _ _ us hl => match us, hl with | [_, _], _ => rfl
  have D_kgoes : Def K mg "_goes_round" sGoes ["text", "pairs"] f_kgoes _ := ⟨F_kgoes, PySem.W.mg_of X G a_kgoes, k_kgoes, b_kgoes⟩
  have F_kturns := fun_mk (st := sTurns) l_kturns c_kturns k_kturns
  have b_kturns := F_kturns.binds (ps := ["word"]) fun _ _ _ _ _ _ us hl => match us, hl with | [_], _ => rfl
  have D_kturns : Def K mg "_all_turnings" sTurns ["word"] f_kturns _ := ⟨F_kturns, PySem.W.mg_of X G a_kturns, k_kturns, b_kturns⟩
  have F_mI := fun_mk (st := sInit) l_mI c_mI k_mI
  have b_mI := F_mI.binds (ps := ["self", "text"]) fun _ _ _ _ _ _ us hl => match us, hl with | [_, _], _ => rfl
  have F_mT := fun_mk (st := sText) l_mT c_mT k_mT
  have b_mT := F_mT.binds (ps := ["self"]) fun _ _ _ _ _ _ us hl => match us, hl with | [_], _ => rfl
  have P_mT : PropOf K C "text" pT f_mT := ⟨p_atT, p_getT, p_takT, ⟨_, p_recT⟩⟩
  have F_mKI : FunD K "__init__" "Kind.__init__" (defArgs sKInit) (defBody sKInit) (defScope sKInit) [.non] [] f_mKI _ := ⟨⟨_, _, .ref tD, _, _, _, _, _, _, _, rfl, l_mKI, c_mKI, .inr ⟨by simp, tD, _, [.none], _, rfl, l_tD, rfl, .cons rfl .nil⟩, .inl rfl⟩, k_mKI⟩
  have b3_mKI := binds_nil (F_mKI.binds1 (ps := ["self", "signs", "pairs"]) 3 1 (by simp) rfl fun T kV doc pm an cdv ct us its hu hi => match us, hu, its, hi with | [_, _, _], _, [_], _ => ⟨_, rfl, rfl⟩)
  have F_mKN := fun_mk (st := sKIn) l_mKN c_mKN k_mKN
  have b_mKN := F_mKN.binds (ps := ["self", "value"]) fun _ _ _ _ _ _ us hl => match us, hl with | [_, _], _ => rfl
  have F_mKA := fun_mk (st := sKAnd) l_mKA c_mKA k_mKA
  have b_mKA := F_mKA.binds (ps := ["self", "other"]) fun _ _ _ _ _ _ us hl => match us, hl with | [_, _], _ => rfl
  have F_mKW := fun_mk (st := sKRow) l_mKW c_mKW k_mKW
  have b_mKW := F_mKW.binds (ps := ["self"]) fun _ _ _ _ _ _ us hl => match us, hl with | [_], _ => rfl
  have P_mKW : PropOf K CK "row" pKW f_mKW := ⟨p_atKW, p_getKW, p_takKW, ⟨_, p_recKW⟩⟩
  have F_mKE := fun_mk (st := sKEq) l_mKE c_mKE k_mKE
  have b_mKE := F_mKE.binds (ps := ["self", "other"]) fun _ _ _ _ _ _ us hl => match us, hl with | [_, _], _ => rfl
  have ZT : FreeT mg := ⟨Z_isinstance, Z_tuple, Z_list, Z_dict, Z_bool⟩
  have F_eK := fun_mk (st := sErrNotAKind) l_eK c_eK k_eK
  have b_eK := F_eK.binds (ps := ["self", "given"]) fun _ _ _ _ _ _ us hl => match us, hl with | [_, _], _ => rfl
  have EK : ErrF K mg "NotAKind" "given" "NotAKind.__init__" sErrNotAKind cK f_eK _ := ⟨⟨⟨_, _, _, _, _, _, _, _, _, _, _, _, _, _, _, xLK, (show PySem.HandSPX.refsVE [.type "ValueError", .type "Exception", .type "BaseException", .type "object"] = true by decide +kernel)⟩, saKx, exK, tyK, kcKx⟩, ⟨gaK, ggK, exK, hdKx⟩, noK, iniK, fnK, F_eK, b_eK, PySem.W.mg_of X G aXK⟩
  have S3 : MetC K mg cK cN := ⟨⟨gaK, ggK, exK, hdKx⟩, noK, PySem.W.mg_of X G aXK, PySem.W.mg_of X G aXN, PySem.W.exm_ref exK hdKx tyK sKK, PySem.W.exm_ref exK hdKx tyK sNK, PySem.W.exm_ref exN hdNx tyN sNN⟩
  have FT : FunT K "_law_right" "_law_right" sRight f_right _ cRt := ⟨_, _, _, _, _, _, _, _, rfl, l_right, c_right⟩
  have ht : PySem.W.tabIn K "_law_right" = some (cRt, PtR) := by
    unfold PySem.W.tabIn
    rw [a_right]
    dsimp only
    rw [l_right]
    dsimp only [PySem.W.fnOf]
    rw [l_cR]
    dsimp only
    rw [v11]
  have ne : ¬ CK = C := fun e => by
    rw [e, p_atT] at kx
    cases kx
  have GA : AndF K CK C := ⟨⟨⟨_, im_int⟩, ⟨_, ir_int⟩, su_int⟩, ⟨⟨_, im_bool⟩, ⟨_, ir_bool⟩, su_bool⟩, ⟨⟨_, im_NoneType⟩, ⟨_, ir_NoneType⟩, su_NoneType⟩, ⟨⟨_, im_str⟩, ⟨_, ir_str⟩, su_str⟩, ⟨⟨_, im_list⟩, ⟨_, ir_list⟩, su_list⟩, ⟨⟨_, im_tuple⟩, ⟨_, ir_tuple⟩, su_tuple⟩, ⟨⟨_, im_dict⟩, ⟨_, ir_dict⟩, su_dict⟩, kit_own icl tcl su_int, kit_own icl tcl su_bool, kit_own icl tcl su_NoneType, kit_own icl tcl su_str, kit_own icl tcl su_list, kit_own icl tcl su_tuple, kit_own icl tcl su_dict, ⟨ne, twoR, nRa, nRr, nOa, nOr⟩, kit_ref (fun e => ne e.symm) icl tcl suR⟩
  have FC : FaceC K C := ⟨⟨pg, hd, po, sa⟩, cc, cg, ct, co, sR_tuple, sR_list, sR_dict, sR_bool⟩
  have R' : KindF K mg ⟨CK, f_mKI, f_mKW, f_mKE, pKW, PySem.W.fnOf "__init__" "Kind.__init__" (defArgs sKInit) (defBody sKInit) (defScope sKInit) (.ref tD) kv_mKI dc_mKI pm_mKI an_mKI cd_mKI ct_mKI, PySem.W.fnOf "row" "Kind.row" (defArgs sKRow) (defBody sKRow) (defScope sKRow) .none kv_mKW dc_mKW pm_mKW an_mKW cd_mKW ct_mKW, PySem.W.fnOf "__eq__" "Kind.__eq__" (defArgs sKEq) (defBody sKEq) (defScope sKEq) .none kv_mKE dc_mKE pm_mKE an_mKE cd_mKE ct_mKE, f_ksigns, f_ksignof, f_kfirst, f_kispair, f_kchpairs, f_kallp, f_khas, f_kisword, PySem.W.fnOf "is_signs" "is_signs" (defArgs sIsSigns) (defBody sIsSigns) (defScope sIsSigns) .none kv_ksigns dc_ksigns pm_ksigns an_ksigns cd_ksigns ct_ksigns, PySem.W.fnOf "is_sign_of" "is_sign_of" (defArgs sSignOf) (defBody sSignOf) (defScope sSignOf) .none kv_ksignof dc_ksignof pm_ksignof an_ksignof cd_ksignof ct_ksignof, PySem.W.fnOf "first_wrong" "first_wrong" (defArgs sFirst) (defBody sFirst) (defScope sFirst) .none kv_kfirst dc_kfirst pm_kfirst an_kfirst cd_kfirst ct_kfirst, PySem.W.fnOf "_is_pair" "_is_pair" (defArgs sIsPair) (defBody sIsPair) (defScope sIsPair) .none kv_kispair dc_kispair pm_kispair an_kispair cd_kispair ct_kispair, PySem.W.fnOf "_check_pairs" "_check_pairs" (defArgs sChPairs) (defBody sChPairs) (defScope sChPairs) .none kv_kchpairs dc_kchpairs pm_kchpairs an_kchpairs cd_kchpairs ct_kchpairs, PySem.W.fnOf "_all_pairs" "_all_pairs" (defArgs sAllP) (defBody sAllP) (defScope sAllP) .none kv_kallp dc_kallp pm_kallp an_kallp cd_kallp ct_kallp, PySem.W.fnOf "_has_ring" "_has_ring" (defArgs sHas) (defBody sHas) (defScope sHas) .none kv_khas dc_khas pm_khas an_khas cd_khas ct_khas, PySem.W.fnOf "is_word" "is_word" (defArgs sIsWord) (defBody sIsWord) (defScope sIsWord) .none kv_kisword dc_kisword pm_kisword an_kisword cd_kisword ct_kisword⟩ := ⟨TK, ⟨mkKd, a_mKI, i_mKI, kcKd⟩, F_mKI, b3_mKI, F_mKW, b_mKW, P_mKW, F_mKE, b_mKE, ⟨a_mKE, i_mKE, k_mKE⟩, nf, cg, ct, D_ksigns, D_ksignof, D_kfirst, D_kispair, D_kchpairs, D_kallp, D_khas, D_kisword, ⟨t6, PySem.W.mg_of X G g6⟩, ⟨t4, PySem.W.mg_of X G g4⟩, Z_tuple, Z_list, Z_any, Z_enumerate, Z_sorted⟩
  have M' : KmF K mg ⟨CK, f_mKI, f_mKW, f_mKE, pKW, PySem.W.fnOf "__init__" "Kind.__init__" (defArgs sKInit) (defBody sKInit) (defScope sKInit) (.ref tD) kv_mKI dc_mKI pm_mKI an_mKI cd_mKI ct_mKI, PySem.W.fnOf "row" "Kind.row" (defArgs sKRow) (defBody sKRow) (defScope sKRow) .none kv_mKW dc_mKW pm_mKW an_mKW cd_mKW ct_mKW, PySem.W.fnOf "__eq__" "Kind.__eq__" (defArgs sKEq) (defBody sKEq) (defScope sKEq) .none kv_mKE dc_mKE pm_mKE an_mKE cd_mKE ct_mKE, f_ksigns, f_ksignof, f_kfirst, f_kispair, f_kchpairs, f_kallp, f_khas, f_kisword, PySem.W.fnOf "is_signs" "is_signs" (defArgs sIsSigns) (defBody sIsSigns) (defScope sIsSigns) .none kv_ksigns dc_ksigns pm_ksigns an_ksigns cd_ksigns ct_ksigns, PySem.W.fnOf "is_sign_of" "is_sign_of" (defArgs sSignOf) (defBody sSignOf) (defScope sSignOf) .none kv_ksignof dc_ksignof pm_ksignof an_ksignof cd_ksignof ct_ksignof, PySem.W.fnOf "first_wrong" "first_wrong" (defArgs sFirst) (defBody sFirst) (defScope sFirst) .none kv_kfirst dc_kfirst pm_kfirst an_kfirst cd_kfirst ct_kfirst, PySem.W.fnOf "_is_pair" "_is_pair" (defArgs sIsPair) (defBody sIsPair) (defScope sIsPair) .none kv_kispair dc_kispair pm_kispair an_kispair cd_kispair ct_kispair, PySem.W.fnOf "_check_pairs" "_check_pairs" (defArgs sChPairs) (defBody sChPairs) (defScope sChPairs) .none kv_kchpairs dc_kchpairs pm_kchpairs an_kchpairs cd_kchpairs ct_kchpairs, PySem.W.fnOf "_all_pairs" "_all_pairs" (defArgs sAllP) (defBody sAllP) (defScope sAllP) .none kv_kallp dc_kallp pm_kallp an_kallp cd_kallp ct_kallp, PySem.W.fnOf "_has_ring" "_has_ring" (defArgs sHas) (defBody sHas) (defScope sHas) .none kv_khas dc_khas pm_khas an_khas cd_khas ct_khas, PySem.W.fnOf "is_word" "is_word" (defArgs sIsWord) (defBody sIsWord) (defScope sIsWord) .none kv_kisword dc_kisword pm_kisword an_kisword cd_kisword ct_kisword⟩ ⟨f_mKN, f_mKA, f_kgoes, C, f_mT, pT, f_mI, cK, cN, f_eK, f_kturns, _, _, _, _, _, _, _⟩ := ⟨F_mKN, b_mKN, a_mKN, i_mKN, D_kgoes, T, F_mT, b_mT, P_mT, ⟨mk, a_mI, i_mI, kc⟩, F_mI, b_mI, D_kturns, F_mKA, b_mKA, a_mKA, i_mKA, rAn, sf, EK, PySem.W.mg_of X G aXN, kcNx, ⟨_, _, _, _, PySem.F.excBase_ArithmeticError, xqN⟩, exN, tyN⟩
  have D' : Defs K mg ⟨f_cell, f_pool, f_draw, f_shuf, f_face, f_odd, f_signs, f_every, f_couples, f_heard, f_along, f_both, f_right, _, _, _, _, _, _, _, _, _, _, _, _, _⟩ := ⟨D_cell, D_pool, D_draw, D_shuf, D_face, D_odd, D_signs, D_every, D_couples, D_heard, D_along, D_both, D_right⟩
  exact ⟨PySem.W.fnOf "law" "law" (defArgs sLaw) (defBody sLaw) (defScope sLaw) .none kv_law dc_law pm_law an_law cd_law ct_law, cRt, PtR, nP, ht, fun s v => .of_eq rfl, fun base _ _ TB => ok_law (fun_mk (st := sLaw) l_law c_law k_law) TB FT Z ZT R' M' FC S3 GA D'⟩
theorem walk {l : PySem.W.OpenLaw} {q : Program} {loose : List Str} {XP : (Str → Option Value) → Heap → Prop} {YP : World → Heap → Prop} {d d2 : DefRec} {K : Params → PySem.W.Frag} (hn : l.most = some 63) (hdf : d.params.defaults = []) (hY : ∀ (w : World) (h : Heap), YP w h → (K w.params).In h)
    (find : (PyProof.Rows.recsOf q).find? (fun e => e.name == Str.ofString "_law_right") = some d2)
    (F : ∀ (w : World) (mg : Str → Option Value) (fa : Addr) (h : Heap), (K w.params).In h → h.Ns mainGlobals mg → mg d.name = some (.ref fa) → ∃ (fd : FuncData) (c Pt : Addr), (K w.params).lookup Pt = none ∧ PySem.W.tabIn (K w.params) "_law_right" = some (c, Pt) ∧ (∀ (s : Shared) (u : Value), BindsTo s fd ⟨[u], []⟩ [("_law_script", u)]) ∧
      ∀ base : Heap, (K w.params).In base → base.Ns mainGlobals mg → LamX.TabB base mg c Pt → FnOk l.prog w (K w.params) mg base CX0 10 fa fd ["_law_script"] (spLawT (K w.params) Pt)) :
    PySem.W.WalkO q loose XP YP l.row.toRowW d [] (fun f vs => PySem.call f vs) := by
  refine Att.attach_callB hn hdf fun w s0 s1 mg mb fa o pm cd doc a vs ns G Y ho hd hcd hmg hobj hints hlen hbits hg => ?_
  have KX := hY w _ Y
  obtain ⟨fd, c, Pt, nP, ht, hb, hF⟩ := F w mg fa _ KX G.T.g hmg
  obtain ⟨hC, hT⟩ := PySem.W.tab_of G.T KX find ht
  refine LamX.law_callTs (k := 10) (cs := [(c, Pt)]) (fd := fd) (x := "_law_script") (CX := CX0) (sp := spLawT (K w.params) Pt) KX G.T.g G.T.b G.T.builtins G.T.nolimit hg ?_ ?_ ?_ G.T.bmain hobj hints (Nat.le_trans hlen (by decide)) ⟨rfl, by decide, by decide⟩ (fun base h1 h2 h3 => hF base h1 h2 (h3 _ List.mem_cons_self)) hb ?_ (fun _ _ _ z => z)
  · intro y hy
    rw [List.mem_singleton.mp hy]
    exact hT
  · intro y hy
    rw [List.mem_singleton.mp hy]
    exact nP
  · intro y hy
    rw [List.mem_singleton.mp hy]
    exact hC
  · intro H hH hS
    refine ⟨a, ns, rfl, hS, hlen, fun y hy => ?_, fun _ => rfl⟩
    rw [List.mem_singleton.mp hy]
    exact LamX.TabS.nil (hH _ List.mem_cons_self)
end Wb
open PySem PySem.W PyProof.Rows in
set_option maxRecDepth 100000 in
set_option maxHeartbeats 0 in
theorem PySem.Challenge.cw_wherebegun_k12_kinds_met_holds : PySem.Challenge.rw_wherebegun_k12_kinds_met.Holds := by
  w_on; o_law; k_head; (case hw => w_witness2)
  k_fill
  refine Wb.walk (l := PySem.Challenge.rw_wherebegun_k12_kinds_met) rfl rfl (fun w h Y => PySem.W.km_in_of Y) rfl ?F
  case F =>
    intro w mg fa h KX G hmg
    refine' Wb.all_mk KX G hmg ?a_cell ?l_cell ?c_cell ?k_cell ?a_pool ?l_pool ?c_pool ?k_pool ?a_draw ?l_draw ?c_draw ?k_draw ?a_shuf ?l_shuf ?c_shuf ?k_shuf ?a_face ?l_face ?c_face ?k_face ?a_odd ?l_odd ?c_odd ?k_odd ?a_signs ?l_signs ?c_signs ?k_signs ?a_every ?l_every ?c_every ?k_every ?a_couples ?l_couples ?c_couples ?k_couples ?a_heard ?l_heard ?c_heard ?k_heard ?a_along ?l_along ?c_along ?k_along ?a_both ?l_both ?c_both ?k_both ?a_right ?l_right ?c_right ?k_right ?a_ksigns ?l_ksigns ?c_ksigns ?k_ksigns ?a_ksignof ?l_ksignof ?c_ksignof ?k_ksignof ?a_kfirst ?l_kfirst ?c_kfirst ?k_kfirst ?a_kispair ?l_kispair ?c_kispair ?k_kispair ?a_kchpairs ?l_kchpairs ?c_kchpairs ?k_kchpairs ?a_kallp ?l_kallp ?c_kallp ?k_kallp ?a_khas ?l_khas ?c_khas ?k_khas ?a_kisword ?l_kisword ?c_kisword ?k_kisword ?a_kgoes ?l_kgoes ?c_kgoes ?k_kgoes ?a_kturns ?l_kturns ?c_kturns ?k_kturns ?a_law ?l_law ?c_law ?k_law ?aC ?aCK ?a_mI ?i_mI ?l_mI ?c_mI ?k_mI ?p_atT ?p_getT ?p_takT ?p_recT ?l_mT ?c_mT ?k_mT ?a_mKI ?i_mKI ?l_mKI ?c_mKI ?k_mKI ?a_mKN ?i_mKN ?l_mKN ?c_mKN ?k_mKN ?a_mKA ?i_mKA ?l_mKA ?c_mKA ?k_mKA ?p_atKW ?p_getKW ?p_takKW ?p_recKW ?l_mKW ?c_mKW ?k_mKW ?a_mKE ?i_mKE ?l_mKE ?c_mKE ?k_mKE ?l_tD ?pg ?hd ?po ?sa ?mk ?kc ?cc ?co ?pgKd ?hdKd ?poKd ?saKd ?mkKd ?kcKd ?ccKd ?coKd ?nT ?nP_ ?nSK ?nPK ?nRK ?cg ?ct ?g6 ?g4 ?aXK ?exK ?tyK ?hdKx ?kcKx ?aXN ?exN ?tyN ?hdNx ?kcNx ?gaK ?ggK ?noK ?sKK ?sNK ?sNN ?xqN ?xLK ?saKx ?iniK ?fnK ?l_eK ?c_eK ?k_eK ?l_cR ?v11 ?nP ?im_NoneType ?ir_NoneType ?su_NoneType ?im_bool ?ir_bool ?su_bool ?im_int ?ir_int ?su_int ?im_str ?ir_str ?su_str ?im_list ?ir_list ?su_list ?im_tuple ?ir_tuple ?su_tuple ?im_dict ?ir_dict ?su_dict ?suR ?kx ?icl ?tcl ?twoR ?nRa ?nRr ?nOa ?nOr ?nf ?sf ?rAn ?sR_tuple ?sR_list ?sR_dict ?sR_bool ?z_int ?z_len ?z_range ?z_divmod ?z_abs ?z_isinstance ?z_str ?z_all ?z_min ?z_max ?z_set ?z_bool ?z_tuple ?z_list ?z_any ?z_enumerate ?z_sorted ?z_dict
    (case a_cell => k_is)
    (case l_cell => k_is)
    (case c_cell => k_is)
    (case k_cell => k_is)
    (case a_pool => k_is)
    (case l_pool => k_is)
    (case c_pool => k_is)
    (case k_pool => k_is)
    (case a_draw => k_is)
    (case l_draw => k_is)
    (case c_draw => k_is)
    (case k_draw => k_is)
    (case a_shuf => k_is)
    (case l_shuf => k_is)
    (case c_shuf => k_is)
    (case k_shuf => k_is)
    (case a_face => k_is)
    (case l_face => k_is)
    (case c_face => k_is)
    (case k_face => k_is)
    (case a_odd => k_is)
    (case l_odd => k_is)
    (case c_odd => k_is)
    (case k_odd => k_is)
    (case a_signs => k_is)
    (case l_signs => k_is)
    (case c_signs => k_is)
    (case k_signs => k_is)
    (case a_every => k_is)
    (case l_every => k_is)
    (case c_every => k_is)
    (case k_every => k_is)
    (case a_couples => k_is)
    (case l_couples => k_is)
    (case c_couples => k_is)
    (case k_couples => k_is)
    (case a_heard => k_is)
    (case l_heard => k_is)
    (case c_heard => k_is)
    (case k_heard => k_is)
    (case a_along => k_is)
    (case l_along => k_is)
    (case c_along => k_is)
    (case k_along => k_is)
    (case a_both => k_is)
    (case l_both => k_is)
    (case c_both => k_is)
    (case k_both => k_is)
    (case a_right => k_is)
    (case l_right => k_is)
    (case c_right => k_is)
    (case k_right => k_is)
    (case a_ksigns => k_is)
    (case l_ksigns => k_is)
    (case c_ksigns => k_is)
    (case k_ksigns => k_is)
    (case a_ksignof => k_is)
    (case l_ksignof => k_is)
    (case c_ksignof => k_is)
    (case k_ksignof => k_is)
    (case a_kfirst => k_is)
    (case l_kfirst => k_is)
    (case c_kfirst => k_is)
    (case k_kfirst => k_is)
    (case a_kispair => k_is)
    (case l_kispair => k_is)
    (case c_kispair => k_is)
    (case k_kispair => k_is)
    (case a_kchpairs => k_is)
    (case l_kchpairs => k_is)
    (case c_kchpairs => k_is)
    (case k_kchpairs => k_is)
    (case a_kallp => k_is)
    (case l_kallp => k_is)
    (case c_kallp => k_is)
    (case k_kallp => k_is)
    (case a_khas => k_is)
    (case l_khas => k_is)
    (case c_khas => k_is)
    (case k_khas => k_is)
    (case a_kisword => k_is)
    (case l_kisword => k_is)
    (case c_kisword => k_is)
    (case k_kisword => k_is)
    (case a_kgoes => k_is)
    (case l_kgoes => k_is)
    (case c_kgoes => k_is)
    (case k_kgoes => k_is)
    (case a_kturns => k_is)
    (case l_kturns => k_is)
    (case c_kturns => k_is)
    (case k_kturns => k_is)
    (case a_law => k_is)
    (case l_law => k_is)
    (case c_law => k_is)
    (case k_law => k_is)
    (case aC => k_is)
    (case aCK => k_is)
    (case a_mI => k_is)
    (case i_mI => k_is)
    (case l_mI => k_is)
    (case c_mI => k_is)
    (case k_mI => k_is)
    (case p_atT => k_is)
    (case p_getT => k_is)
    (case p_takT => k_is)
    (case p_recT => k_is)
    (case l_mT => k_is)
    (case c_mT => k_is)
    (case k_mT => k_is)
    (case a_mKI => k_is)
    (case i_mKI => k_is)
    (case l_mKI => k_is)
    (case c_mKI => k_is)
    (case k_mKI => k_is)
    (case a_mKN => k_is)
    (case i_mKN => k_is)
    (case l_mKN => k_is)
    (case c_mKN => k_is)
    (case k_mKN => k_is)
    (case a_mKA => k_is)
    (case i_mKA => k_is)
    (case l_mKA => k_is)
    (case c_mKA => k_is)
    (case k_mKA => k_is)
    (case p_atKW => k_is)
    (case p_getKW => k_is)
    (case p_takKW => k_is)
    (case p_recKW => k_is)
    (case l_mKW => k_is)
    (case c_mKW => k_is)
    (case k_mKW => k_is)
    (case a_mKE => k_is)
    (case i_mKE => k_is)
    (case l_mKE => k_is)
    (case c_mKE => k_is)
    (case k_mKE => k_is)
    (case l_tD => k_is)
    (case pg => k_is)
    (case hd => k_is)
    (case po => k_is)
    (case sa => k_is)
    (case mk => k_is)
    (case kc => k_is)
    (case cc => k_is)
    (case co => k_is)
    (case pgKd => k_is)
    (case hdKd => k_is)
    (case poKd => k_is)
    (case saKd => k_is)
    (case mkKd => k_is)
    (case kcKd => k_is)
    (case ccKd => k_is)
    (case coKd => k_is)
    (case nT => k_is)
    (case nP_ => k_is)
    (case nSK => k_is)
    (case nPK => k_is)
    (case nRK => k_is)
    (case cg => k_is)
    (case ct => k_is)
    (case g6 => k_is)
    (case g4 => k_is)
    (case aXK => k_is)
    (case exK => k_is)
    (case tyK => k_is)
    (case hdKx => k_is)
    (case kcKx => k_is)
    (case aXN => k_is)
    (case exN => k_is)
    (case tyN => k_is)
    (case hdNx => k_is)
    (case kcNx => k_is)
    (case gaK => k_is)
    (case ggK => k_is)
    (case noK => k_is)
    (case sKK => k_is)
    (case sNK => k_is)
    (case sNN => k_is)
    (case xqN => kernel_rfl)
    (case xLK => k_is)
    (case saKx => k_is)
    (case iniK => k_is)
    (case fnK => k_is)
    (case l_eK => k_is)
    (case c_eK => k_is)
    (case k_eK => k_is)
    (case l_cR => k_is)
    (case v11 => exact rfl)
    (case nP => kernel_rfl)
    (case im_NoneType => k_is)
    (case ir_NoneType => k_is)
    (case su_NoneType => k_is)
    (case im_bool => k_is)
    (case ir_bool => k_is)
    (case su_bool => k_is)
    (case im_int => k_is)
    (case ir_int => k_is)
    (case su_int => k_is)
    (case im_str => k_is)
    (case ir_str => k_is)
    (case su_str => k_is)
    (case im_list => k_is)
    (case ir_list => k_is)
    (case su_list => k_is)
    (case im_tuple => k_is)
    (case ir_tuple => k_is)
    (case su_tuple => k_is)
    (case im_dict => k_is)
    (case ir_dict => k_is)
    (case su_dict => k_is)
    (case suR => k_is)
    (case kx => k_is)
    (case icl => k_is)
    (case tcl => k_is)
    (case twoR => kernel_rfl)
    (case nRa => k_is)
    (case nRr => k_is)
    (case nOa => k_is)
    (case nOr => k_is)
    (case nf => k_is)
    (case sf => k_is)
    (case rAn => k_is)
    (case sR_tuple => k_is)
    (case sR_list => k_is)
    (case sR_dict => k_is)
    (case sR_bool => k_is)
    (case z_int => k_is)
    (case z_len => k_is)
    (case z_range => k_is)
    (case z_divmod => k_is)
    (case z_abs => k_is)
    (case z_isinstance => k_is)
    (case z_str => k_is)
    (case z_all => k_is)
    (case z_min => k_is)
    (case z_max => k_is)
    (case z_set => k_is)
    (case z_bool => k_is)
    (case z_tuple => k_is)
    (case z_list => k_is)
    (case z_any => k_is)
    (case z_enumerate => k_is)
    (case z_sorted => k_is)
    (case z_dict => k_is)
