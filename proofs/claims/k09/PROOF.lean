import PyProof.Rows.All
import Wide.All
import OpenK.AllK
import Wide.FinOn
import HandS.Zip
import HandS.ForMost
import HandS.Walk
import HandS.DictComp
import HandS.IsInst
import HandS.Property
import HandS.Wide
import HandS.MakeKw
import KE.DataMinMax
import PyProof.StrBlock2
import HandS.Strs
import PyProof.CollectStr
import PyProof.TupleOfSeq
import HandS.More
import KE.GoesMore
import KE.GoesEnum
import HandS.Deep
import HandS.TupAny
import HandS.ExcInit
import PyProof.Rows.StrMeet
import PyProof.Rows.SortStr
import HandS.MakeKwOnly
import KE.KCallOwn
import PyProof.Conv_bool
import PyProof.InstNe
import HandS.SlotsOwn
import PyProof.ListStr
import KE.KOpsOwn
import HandS.Comp
import HandS.ClsMeth
import HandS.Defaults
import PyProof.P3Eq
import PyProof.Rows.CallKw2
import HandS.ExcCtx
import HandS.TryMany
import HandS.HotCalls
import HandS.ExcField
import PyProof.Rows.TupIter
import HandS.Hot
import HandS.ExcInitHot
import HandS.Lambda
import HandS.RaiseFrom
import HandS.SuiteRaise
import KE.KTryMore
import PyProof.TupleIter
import PyProof.Seq
import HandS.Iter
import HandS.Dict
import HandS.Style
import PyProof.TupleOfStr
import HandS.ExcIs
import HandS.EndTab
import KE.KNest
import PySem.Challenge.RW_wherebegun_k09_kinds_refused
set_option Elab.async false
set_option maxRecDepth 100000
set_option maxHeartbeats 1000000
/-! zip of two walks of any kind; then zip(a tuple, a list) -/
namespace Lz
open PySem PySem.Spec PyProof.Rows L2
/-- how one of the two is walked -/
structure Kind2 where
  It : Heap → Addr → Addr → Nat → Prop
  Src : Heap → Addr → Array Value → Prop
  obj : ∀ {h it l k}, It h it l k → ∃ o, h.get? it = some o ∧ ∀ v, o.data ≠ .cell v
  mvIt : ∀ {h h' it l k}, It h it l k → (∀ o, h.get? it = some o → h'.get? it = some o) → It h' it l k
  mvSrc : ∀ {h h' l xs}, Src h l xs → (∀ o, h.get? l = some o → h'.get? l = some o) → Src h' l xs
  item : ∀ {prog : Program} {w : World} {A : Around} {E : Value → Shared → Prop} {s : Shared} {it l : Addr} {i : Nat} {xs : Array Value} {x : Value} {Q : Value → Shared → Prop}, It s.heap it l i → Src s.heap l xs → xs[i]? = some x →
    (∀ h', It h' it l (i + 1) → Heap.SameBut it s.heap h' → Q x { s with heap := h' }) → wpAny (model prog w) A (Builtin.SmallTypes.nextOf (.ref it)) Q E s
  fin : ∀ {prog : Program} {w : World} {A : Around} {E : Value → Shared → Prop} {s : Shared} {it l : Addr} {i : Nat} {xs : Array Value} {Q : Value → Shared → Prop}, A.handled = none → It s.heap it l i → Src s.heap l xs → xs[i]? = none →
    (∀ h' e, Heap.ExtBut it s.heap h' → (∃ o, h'.get? e = some o ∧ o.cls = .type "StopIteration") → E (.ref e) { s with heap := h' }) → wpAny (model prog w) A (Builtin.SmallTypes.nextOf (.ref it)) Q E s
section
variable {prog : Program} {w : World} {A : Around} {E : Value → Shared → Prop} {s : Shared} {z TI TO i1 i2 l1 l2 : Addr} {k1 k2 : Nat} {xs ys : Array Value} {x y a b : Value} (U V : Kind2)
end
end Lz
set_option maxHeartbeats 1000000
namespace Lz
open PySem PySem.Spec PyProof.Rows L2
section
variable {prog : Program} {w : World} {A : Around} {E : Value → Shared → Prop} {s : Shared} {z TI TO i1 i2 l1 l2 : Addr} {k1 k2 : Nat} {xs ys : Array Value} {x y a b : Value} (U V : Kind2)
end
/-! ### zip(a tuple, a list) is made -/
abbrev m1 (h : Heap) (l1 : Addr) : Heap := h.push { cls := .type "tuple_iterator", data := .fields #[.ref l1, .int 0 0] }
section
variable {prog : Program} {w : World} {A : Around} {E : Value → Shared → Prop} {s : Shared}
end
/-! ### its turns -/
theorem five {c z TI TO i1 i2 : Addr} (h : c ∈ [z, TI, TO, i1, i2]) : c = z ∨ c = TI ∨ c = TO ∨ c = i1 ∨ c = i2 := by simpa using h
end Lz
set_option maxHeartbeats 1000000
/-! {k: v for ..} with tuples as keys -/
namespace Lz
open PySem PySem.Spec PyProof.Rows L2
section
variable {X : Cx}
variable {kx vx tg iter : Expr} {ifs : List Expr} {scope : Scope} {own : List (Str × Nat)} {pos : Pos} {wi : TI} {g : TG} {tt : TT} {tk tv : TE}
end
end Lz
namespace Wb
open PySem L2
def top (i : Nat) : Stmt := PySem.Challenge.pw_wherebegun_k09_kinds_refused.main.body.getD i (.Pass ⟨0, 0, 0, 0⟩)
abbrev sCell : Stmt := top 38
abbrev sPool : Stmt := top 39
abbrev sDraw : Stmt := top 40
/-- all but what lies at p stays -/
def But (p : Addr) (H H' : Hp) : Prop := ∀ b o, b ≠ p → H b = some o → H' b = some o
theorem But.refl (p : Addr) (H : Hp) : But p H H := fun _ _ _ h => h
theorem But.trans {p : Addr} {H H1 H2 : Hp} (a : But p H H1) (b : But p H1 H2) : But p H H2 := fun c o n h => b c o n (a c o n h)
theorem But.of {p : Addr} {H H' : Hp} (a : Same H H') : But p H H' := fun c o _ h => a c o h
theorem But.upd {p q : Addr} {o : HO} {H H' : Hp} (a : But p H H') (n : H' q = none) : But p H (L2.upd H' q o) := fun c u k h => by
  rw [upd_ne (ne_of_none (a c u k h) n)]
  exact a c u k h
theorem But.here {p : Addr} {o : HO} {H H' : Hp} (a : But p H H') : But p H (L2.upd H' p o) := fun c u k h => by
  rw [upd_ne k]
  exact a c u k h
theorem Same.put {q : Addr} {o : HO} {H H' : Hp} (a : Same H H') (n : H' q = none) : Same H (L2.upd H' q o) := fun c u h => by
  rw [upd_ne (ne_of_none (a c u h) n)]
  exact a c u h
/-- a pool stands at p: three ints -/
def PoolAt (H : Hp) (p : Addr) : Prop := ∃ a b c : Int, H p = some (.lst [.int a, .int b, .int c]) ∧ 0 ≤ a ∧ a < 2147483648 ∧ 0 ≤ b
def spDraw : Sp := fun vs H Q _ => ∃ (p : Addr) (m : Int), vs = [.ref p, .int m] ∧ 0 < m ∧ m < 1073741824 ∧ PoolAt H p ∧
  ∀ (d : Int) (H' : Hp), 0 ≤ d → d < m → PoolAt H' p → But p H H' → Q (.int d) H'
def spPool : Sp := fun vs H Q _ => ∃ c : Int, vs = [.int c] ∧ ∀ (p : Addr) (H' : Hp), H p = none → Same H H' → PoolAt H' p → Q (.ref p) H'
def spCell (K : PySem.W.Frag) : Sp := fun vs H Q _ => ∃ (a : Addr) (ns : List Int) (k : Int), vs = [.ref a, .int k] ∧ SqL K H a (ns.map V.int) ∧ ns.length ≤ 63 ∧ 0 ≤ k ∧ k < 64 ∧
  ∀ (n : Int) (H' : Hp), Same H H' → Q (.int n) H'
theorem cut_int {ns : List Int} {lo hi : Option Int} {i : Nat} {y : V} (h : (cutV (ns.map V.int) lo hi)[i]? = some y) : ∃ u, y = V.int u := by
  have q := List.mem_of_getElem? h
  unfold cutV at q
  obtain ⟨u, _, e⟩ := List.mem_map.mp (List.mem_of_mem_drop (List.mem_of_mem_take q))
  exact ⟨u, e.symm⟩
section
variable {P : Program} {w : World} {K : PySem.W.Frag} {mg : Str → Option Value} {base : Heap}
theorem scP : FnScope ["_law_cell_here", "_law_digits"] ["_law_cell_here"] (defScope sPool) := ⟨rfl, rfl, rfl, by decide +kernel, rfl, by decide +kernel, by decide +kernel⟩
theorem ok_pool {f : Addr} {fd : FuncData} (F : Fun K "_law_pool" "_law_pool" sPool f fd) (mAbs : mg "abs" = none) (mInt : mg "int" = none) : FnOk P w K mg base CX0 1 f fd ["_law_cell_here"] spPool := by
  refine F.ok scP (fun vs H Q E h => ?_) (fun cdv A outer s H vs Q E hr h => ?_)
  · obtain ⟨c, rfl, _⟩ := h
    rfl
  · obtain ⟨c, rfl, k⟩ := h
    refine ⟨_, pss_cons (ps_set (i := 1) scP.nd rfl (.inl rfl) (pe_ifExp (PW.pt (pw_or (pt_cmpR op_lt (pv 0) pe_int (nomark _)) (pw_or1 (pt_cmpR op_ge (pv 0) (pe_op op_pow pe_int pe_int) (nomark _)))))
        (pe_callB call_abs (by rfl) mAbs (by decide +kernel) (pa_cons (pv 0) pa_nil)) pe_int))
      (pss_one (ps_ret (pe_lst (pa_cons (pe_op op_mod (pe_callTy call_int1 (by rfl) mInt (by decide +kernel) (pa_cons (pv 0) pa_nil)) pe_int) (pa_cons (pv 1) (pa_cons pe_int pa_nil)))))), ?_⟩
    have fin : ∀ d : Int, 0 ≤ d → (tRet (tLst (tCons (tOp (rI (fun x j => 0 < j) fun i j => V.int (i % j)) (tCB (fun xs H Q => (∃ i, xs = [V.int i] ∧ Q (V.int i) H) ∨ ∃ k, xs = [V.bl k] ∧ Q (V.int (if k = true then 1 else 0)) H) (tCons (tVar 0) tNil)) (tC (V.int 2147483587))) (tCons (tVar 1) (tCons (tC (V.int 0)) tNil)))))
        { nx := fun x H' => Q V.non H', rt := Q } [some (V.int c), some (V.int d)] H := fun d h0 => by
      refine ⟨_, rfl, .inl ⟨_, rfl, _, _, rfl, rfl, (by show (0 : Int) < 2147483587; decide), _, rfl, (by show 3 ≤ sizeLine; decide), fun p hp => ?_⟩⟩
      refine k p _ hp (Same.put (Same.refl H) hp) ⟨_, _, _, upd_same, ?_⟩
      omega
    refine ⟨_, rfl, _, _, rfl, rfl, _, rfl, ite2 (fun h1 => iteT ?_) (fun h1 => ?_)⟩
    · refine ⟨_, rfl, _, rfl, ?_⟩
      exact fin _ (by split <;> omega)
    · refine ⟨_, rfl, _, _, rfl, rfl, (by refine ⟨?_, ?_, ?_⟩ <;> decide), _, _, rfl, rfl, _, rfl, ?_⟩
      refine ite2 (fun h2 => ?_) (fun h2 => ?_)
      · refine ⟨_, rfl, _, rfl, ?_⟩
        exact fin _ (by split <;> omega)
      · exact fin 0 (by omega)
theorem scD : FnScope ["_law_pool_here", "_law_many", "_law_mixed", "_law_digit"] ["_law_pool_here", "_law_many"] (defScope sDraw) := ⟨rfl, rfl, rfl, by decide +kernel, rfl, by decide +kernel, by decide +kernel⟩
theorem ok_draw {f : Addr} {fd : FuncData} (F : Fun K "_law_draw" "_law_draw" sDraw f fd) (mInt : mg "int" = none) (mDm : mg "divmod" = none) : FnOk P w K mg base CX0 1 f fd ["_law_pool_here", "_law_many"] spDraw := by
  refine F.ok scD (fun vs H Q E h => ?_) (fun cdv A outer s H vs Q E hr h => ?_)
  · obtain ⟨p, m, rfl, _⟩ := h
    rfl
  · obtain ⟨p, m, rfl, m0, m1, ⟨a, b, c, hp, a0, a1, b0⟩, k⟩ := h
    refine ⟨_, pss_cons (ps_asg (pe_op op_add (pe_ix ix_list (pv 0) pe_int (fun _ _ => rfl)) pe_int) (pg_sub (pv 0) pe_int set_list))
      (pss_cons (ps_set (i := 2) scD.nd rfl (.inl rfl) (pe_op op_mod (pe_callTy call_int1 (by rfl) mInt (by decide +kernel) (pa_cons (pe_op op_add (pe_op op_add (pe_op op_mul (pe_ix ix_list (pv 0) pe_int (fun _ _ => rfl)) pe_int) (pe_op op_mul (pe_ix ix_list (pv 0) pe_int (fun _ _ => rfl)) pe_int)) pe_int) pa_nil)) pe_int))
      (pss_cons (ps_asg (pe_op op_mod (pe_callTy call_int1 (by rfl) mInt (by decide +kernel) (pa_cons (pe_op op_mul (pv 2) (pe_op op_add (pe_op op_fdiv (pv 2) pe_int) pe_int)) pa_nil)) pe_int) (pg_sub (pv 0) pe_int set_list))
      (pss_cons (ps_if (pt_cmpR op_gt (pe_ix ix_list (pv 0) pe_int (fun _ _ => rfl)) pe_int (nomark _))
          (pss_cons (ps_asg (pe_callB call_divmod (by rfl) mDm (by decide +kernel) (pa_cons (pe_ix ix_list (pv 0) pe_int (fun _ _ => rfl)) (pa_cons (pv 1) pa_nil))) (pg_tup (by rfl) (pgs_cons (pg_sub (pv 0) pe_int set_list) (pgs_cons (pg_name (i := 3) scD.nd rfl (.inl rfl)) pgs_nil))))
            (pss_one (ps_ret (pv 3)))) pss_nil)
      (pss_one (ps_ret (pe_op op_mod (pe_callTy call_int1 (by rfl) mInt (by decide +kernel) (pa_cons (pe_op op_fdiv (pe_ix ix_list (pv 0) pe_int (fun _ _ => rfl)) pe_int) pa_nil)) (pv 1))))))), ?_⟩
    refine ⟨_, rfl, p, _, _, _, rfl, rfl, SqL.of hp, rfl, _, _, rfl, rfl, _, rfl, p, _, _, 2, rfl, rfl, hp, rfl, ?_⟩
    have hp1 : (L2.upd H p (.lst [.int a, .int b, .int (c + 1)])) p = some (.lst [.int a, .int b, .int (c + 1)]) := upd_same
    refine ⟨_, rfl, p, _, _, _, rfl, rfl, SqL.of hp1, rfl, _, _, rfl, rfl, .inl ⟨by omega, by omega⟩, _, rfl, p, _, _, _, rfl, rfl, SqL.of hp1, rfl, _, _, rfl, rfl, .inr ⟨by decide, by decide⟩, _, _, rfl, rfl, _, _, rfl, rfl, .inl ⟨_, rfl, _, _, rfl, rfl, (by show (0 : Int) < 2147483587; decide), ?_⟩⟩
    have x0 : ∀ z : Int, 0 ≤ z % 2147483587 ∧ z % 2147483587 < 2147483587 := fun z => ⟨Int.emod_nonneg _ (by decide), Int.emod_lt_of_pos _ (by decide)⟩
    generalize hx : ((a * 50021 + (c + 1) * 69067 + 31) % 2147483587 : Int) = x
    have ⟨x1, x2⟩ : 0 ≤ x ∧ x < 2147483587 := by rw [← hx]; exact x0 _
    refine ⟨_, rfl, _, rfl, _, _, rfl, rfl, ⟨by decide, by decide⟩, _, _, rfl, rfl, _, _, rfl, rfl, .inl ⟨by omega, by omega⟩, .inl ⟨_, rfl, _, _, rfl, rfl, (by show (0 : Int) < 2147483629; decide), ?_⟩⟩
    have y0 : ∀ z : Int, 0 ≤ z % 2147483629 ∧ z % 2147483629 < 2147483629 := fun z => ⟨Int.emod_nonneg _ (by decide), Int.emod_lt_of_pos _ (by decide)⟩
    refine ⟨_, rfl, p, _, _, 0, rfl, rfl, hp1, rfl, ?_⟩
    refine ⟨_, rfl, p, _, _, _, rfl, rfl, SqL.of upd_same, rfl, _, _, rfl, rfl, _, rfl, ite2 (fun h1 => ?_) (fun h1 => ?_)⟩
    · refine ⟨_, rfl, p, _, _, _, rfl, rfl, SqL.of upd_same, rfl, _, rfl, _, _, rfl, ⟨m0, m1⟩, fun t ht => ?_⟩
      have npt : p ≠ t := ne_of_none upd_same ht
      refine ⟨t, _, rfl, SqT.of upd_same, rfl, _, _, rfl, _, rfl, p, _, _, 1, rfl, rfl, (upd_ne npt).trans upd_same, rfl, _, _, rfl, ?_⟩
      refine ⟨rfl, _, rfl, k _ _ (Int.emod_nonneg _ (by omega)) (Int.emod_lt_of_pos _ m0) ⟨_, _, _, upd_same, ?_⟩ (But.here (But.upd (But.here (But.here (But.refl p H))) ht))⟩
      refine ⟨(y0 _).1, Int.lt_trans (y0 _).2 (by decide), ?_⟩
      exact Int.ediv_nonneg b0 (Int.le_of_lt m0)
    · refine ⟨_, rfl, p, _, _, _, rfl, rfl, SqL.of upd_same, rfl, _, _, rfl, rfl, ⟨by decide, by decide⟩, .inl ⟨_, rfl, _, rfl, _, _, rfl, rfl, m0, ?_⟩⟩
      exact k _ _ (Int.emod_nonneg _ (by omega)) (Int.emod_lt_of_pos _ m0) ⟨_, _, _, upd_same, (y0 _).1, Int.lt_trans (y0 _).2 (by decide), b0⟩ (But.here (But.here (But.refl p H)))
theorem scC : FnScope ["_law_script", "_law_k", "_law_mixed", "_law_cell_here"] ["_law_script", "_law_k"] (defScope sCell) := ⟨rfl, rfl, rfl, by decide +kernel, rfl, by decide +kernel, by decide +kernel⟩
theorem ok_cell {f : Addr} {fd : FuncData} (F : Fun K "_law_cell" "_law_cell" sCell f fd) (mInt : mg "int" = none) (mLen : mg "len" = none) : FnOk P w K mg base CX0 1 f fd ["_law_script", "_law_k"] (spCell K) := by
  refine F.ok scC (fun vs H Q E h => ?_) (fun cdv A outer s H vs Q E hr h => ?_)
  · obtain ⟨a, ns, j, rfl, _⟩ := h
    rfl
  · obtain ⟨a, ns, j, rfl, hS, hlen, j0, j1, k⟩ := h
    refine ⟨_, pss_cons (ps_if (pt_cmpR op_lt (pv 1) (pe_callB call_len_seq (by rfl) mLen PySem.boot_len (pa_cons (pv 0) pa_nil)) (nomark _)) (pss_one (ps_ret (pe_ix ix_list (pv 0) (pv 1) (fun _ _ => rfl)))) pss_nil)
      (pss_cons (ps_set (i := 2) scC.nd rfl (.inl rfl) (pe_op op_add pe_int (pe_op op_mul (pe_op op_mul pe_int (pv 1)) (pv 1))))
      (pss_cons (ps_for PassesOwn.never rfl (pi_list (pe_slice sl_list (pv 0) po_none (po_some pe_int))) (pg_name (i := 3) scC.nd rfl (.inl rfl))
        (pss_one (ps_set (i := 2) scC.nd rfl (.inl rfl) (pe_op op_mod (pe_callTy call_int1 (by rfl) mInt (by decide +kernel) (pa_cons (pe_op op_add (pe_op op_mul (pv 2) pe_int) (pv 3)) pa_nil)) pe_int))))
      (pss_one (ps_ret (pv 2))))), ?_⟩
    refine ⟨_, rfl, _, rfl, a, _, rfl, .inl hS, _, _, rfl, rfl, _, rfl, ite2 (fun h1 => ?_) (fun h1 => ?_)⟩
    · have h2 : j < (ns.length : Int) := by
        have q := of_decide_eq_true h1
        rw [List.length_map] at q
        exact q
      have h3 : (ns.map V.int)[j.toNat]? = some (V.int (ns[j.toNat]'(by omega))) := by
        rw [List.getElem?_map, List.getElem?_eq_getElem (by omega)] <;> rfl
      have h4 : atI (ns.map V.int) j = some (V.int (ns[j.toNat]'(by omega))) := by
        have q := atI_nat h3
        rw [Int.toNat_of_nonneg j0] at q
        exact q
      exact ⟨_, rfl, _, rfl, a, _, _, _, rfl, rfl, hS, h4, k _ _ (Same.refl H)⟩
    · have b1 : (-(2 ^ 64) < (4093 : Int) ∧ (4093 : Int) < 2 ^ 64) := by decide
      refine ⟨_, rfl, _, _, rfl, rfl, .inl b1, _, rfl, _, _, rfl, rfl, .inr ⟨by omega, by omega⟩, _, _, rfl, rfl, ?_⟩
      refine ⟨_, rfl, _, rfl, a, _, rfl, hS, fun q hq => ?_⟩
      have sq : SqL K (L2.upd H q (.lst (cutV (ns.map V.int) none (some 4)))) q (cutV (ns.map V.int) none (some 4)) := SqL.of upd_same
      refine ⟨q, rfl, ⟨_, sq⟩, for_list (K := K) (a := q) (xs := cutV (ns.map V.int) none (some 4)) (fun i σ H' => ∃ (z : Int) (v : Option V), σ = [some (.ref a), some (.int j), some (.int z), v] ∧ Same H H' ∧ SqL K H' q (cutV (ns.map V.int) none (some 4)))
        ⟨_, none, rfl, Same.put (Same.refl H) hq, sq⟩ (fun i σ H' _ ⟨_, _, _, _, s⟩ => s) ?_ ?_⟩
      · rintro i y σ H' hi ⟨z, v, rfl, s1, s2⟩
        obtain ⟨u, rfl⟩ := cut_int hi
        exact ⟨_, rfl, _, _, rfl, rfl, .inr ⟨by decide, by decide⟩, _, rfl, _, _, rfl, rfl, .inl ⟨_, rfl, _, _, rfl, rfl, (by show (0 : Int) < 2147483629; decide), _, _, rfl, s1, s2⟩⟩
      · rintro σ H' ⟨z, v, rfl, s1, s2⟩
        exact ⟨_, rfl, k _ _ s1⟩
end
end Wb
/-! min(xs) of a list of texts; a text so many times -/
namespace WbMin
open PySem PySem.W PySem.Spec PyProof.Rows L2
/-- the least text, the first of them -/
def minS (x : Str) (xs : List Str) : Str := xs.foldl (fun a y => if y.cps.toList < a.cps.toList then y else a) x
theorem depthAll_strs : ∀ xs : List Str, PyData.depthAll (xs.map PyData.str) = 0
  | [] => rfl
  | x :: r => by
    show max (PyData.depth (.str x)) (PyData.depthAll (r.map PyData.str)) = 0
    rw [depthAll_strs r] <;> rfl
section
variable {X : Cx}
/-- z * k, z a text -/
def rMulS : R2 := fun x y H Q => ∃ (z : Str) (k : Int), x = .str z ∧ y = .int k ∧ MulOk z k ∧ Q (.str (Txt.mul z k)) H
theorem op_mulS : OpR X (binaryOp .Mult) rMulS := by
  intro pins s σ H x y v u Q I rx ry h
  obtain ⟨z, k, rfl, rfl, ok, q⟩ := h
  obtain ⟨t, rfl⟩ := rx
  obtain ⟨t2, rfl⟩ := ry
  exact SB.mul ok fun t' n => ⟨.str (Txt.mul z k), H, I.tok n, ⟨t', rfl⟩, q⟩
end
/-- so many times, by the signs -/
theorem mulOk {z : Str} {k : Int} (h0 : 0 ≤ k) (h : z.length * k.toNat ≤ 16777216) (hk : k ≤ 16777216) : MulOk z k := by
  refine ⟨?_, fun h1 _ => ?_, fun h1 _ => ?_⟩
  · rw [decide_eq_false (show ¬ k < -(2 ^ 63) by omega), decide_eq_false (show ¬ k ≥ 2 ^ 63 by omega)] <;> rfl
  · intro q
    have k1 : 0 < k := by omega
    have h2 : (z.length : Int) * k ≤ 16777216 := by
      have e : ((z.length * k.toNat : Nat) : Int) = (z.length : Int) * k := by
        rw [Int.natCast_mul, Int.toNat_of_nonneg h0]
      rw [← e]
      exact Int.ofNat_le.mpr h
    have h3 : (2 ^ 63 - 1) / k < (z.length : Int) := q
    have h4 : (2 ^ 63 - 1 : Int) < (z.length : Int) * k := (Int.ediv_lt_iff_lt_mul k1).mp h3
    omega
  · show decide (z.length * k.toNat > sizeLine) = false
    exact decide_eq_false (by rw [sizeLine_eq]; omega)
theorem fold_cat : ∀ (n : Nat) (c acc : Array Nat), ((List.replicate n c).foldl (· ++ ·) acc).toList = acc.toList ++ (List.replicate n c.toList).flatten
  | 0, c, acc => by simp
  | n + 1, c, acc => by
    rw [List.replicate_succ, List.foldl_cons, fold_cat n c (acc ++ c), List.replicate_succ, List.flatten_cons, Array.toList_append, List.append_assoc]
theorem mul_cps {z : Str} {k : Int} (h0 : 0 ≤ k) : (Txt.mul z k).cps.toList = (List.replicate k.toNat z.cps.toList).flatten := by
  unfold Txt.mul
  by_cases h1 : k < 1
  · obtain rfl : k = 0 := by omega
    rw [if_pos h1] <;> rfl
  · rw [if_neg h1]
    by_cases h2 : (k == 1 || z.length == 0) = true
    · rw [if_pos h2]
      rcases Bool.or_eq_true _ _ ▸ h2 with e | e
      · have e1 : k = 1 := by simpa using e
        subst e1
        simp
      · have e1 : z.cps.size = 0 := by
          have q : z.length = 0 := by simpa using e
          exact q
        have e2 : z.cps.toList = [] := List.eq_nil_of_length_eq_zero (by rw [Array.length_toList]; exact e1)
        rw [e2]
        simp
    · rw [if_neg h2]
      show ((List.replicate k.toNat z.cps).foldl (· ++ ·) #[]).toList = _
      rw [fold_cat]
      simp
end WbMin
namespace Wb
open PySem L2 WbMin
abbrev sSigns : Stmt := top 44
/-- the text of these codes -/
def S (l : List Nat) : Str := ⟨l.toArray⟩
theorem S_cps (l : List Nat) : (S l).cps.toList = l := by simp [S]
theorem S_size (l : List Nat) : (S l).cps.size = l.length := by simp [S]
theorem S_len (l : List Nat) : (S l).length = l.length := S_size l
theorem S_of (z : Str) : S z.cps.toList = z := by cases z; simp [S]
theorem S_eq {z : Str} {l : List Nat} (h : z.cps.toList = l) : z = S l := by rw [← h, S_of]
theorem S_add (l m : List Nat) : S l ++ S m = S (l ++ m) := by
  show Str.append (S l) (S m) = S (l ++ m)
  simp [S, Str.append]
def one (c : Nat) : Str := ⟨#[c]⟩
theorem S_one (c : Nat) : one c = S [c] := rfl
def abc : List Nat := (List.range 26).map (· + 97)
theorem abc_is : ("abcdefghijklmnopqrstuvwxyz" : Str) = S abc := by decide +kernel
/-- small letters -/
def Low (l : List Nat) : Prop := ∀ c ∈ l, 97 ≤ c ∧ c ≤ 122
theorem abc_low : Low abc := by unfold Low abc; decide
theorem abc_len : abc.length = 26 := rfl
/-- a def of the top -/
structure Def (K : PySem.W.Frag) (mg : Str → Option Value) (x : Str) (st : Stmt) (ps : List Str) (f : Addr) (fd : FuncData) : Prop where
  F : Fun K x x st f fd
  g : mg x = some (.ref f)
  kp : PySem.W.keepIn K (.ref f) = true
  b : Binds K fd ps []
def spSigns : Sp := fun vs H Q _ => ∃ (p : Addr) (m : Int), vs = [.ref p, .int m] ∧ 0 < m ∧ m ≤ 26 ∧ PoolAt H p ∧
  ∀ (l : List Nat) (H' : Hp), Low l → l.Nodup → 0 < l.length → (l.length : Int) ≤ m → PoolAt H' p → But p H H' → Q (.str (S l)) H'
theorem drop_one (a : Nat) : ∀ ys : List Nat, ys.Nodup → ys.length ≤ (ys.filter fun c => !decide (c = a)).length + 1
  | [], _ => Nat.zero_le _
  | y :: r, nd => by
    obtain ⟨n1, n2⟩ := List.nodup_cons.mp nd
    by_cases e : y = a
    · have e1 : (r.filter fun c => !decide (c = a)) = r := List.filter_eq_self.mpr fun c hc => by
        have : c ≠ a := fun z => n1 (e ▸ z ▸ hc)
        simp [this]
      rw [List.filter_cons_of_neg (by simp [e]), e1] <;> exact Nat.le_refl _
    · rw [List.filter_cons_of_pos (by simp [e])]
      have := drop_one a r n2
      simp only [List.length_cons]
      omega
theorem left_len : ∀ (l xs : List Nat), xs.Nodup → xs.length ≤ (xs.filter fun c => !decide (c ∈ l)).length + l.length
  | [], xs, _ => by
    have e : (xs.filter fun c => !decide (c ∈ ([] : List Nat))) = xs := List.filter_eq_self.mpr (by simp)
    rw [e] <;> exact Nat.le_refl _
  | a :: l, xs, nd => by
    have ih := left_len l xs nd
    have e : (xs.filter fun c => !decide (c ∈ a :: l)) = ((xs.filter fun c => !decide (c ∈ l)).filter fun c => !decide (c = a)) := by
      rw [List.filter_filter]
      refine List.filter_congr fun c _ => ?_
      by_cases h1 : c = a <;> by_cases h2 : c ∈ l <;> simp [h1, h2]
    have := drop_one a _ (nd.filter fun c => !decide (c ∈ l))
    rw [e]
    simp only [List.length_cons]
    omega
theorem rest_pos {l : List Nat} (h : l.length < 26) : 0 < (abc.filter fun c => !decide (c ∈ l)).length := by
  have := left_len l abc (by unfold abc; decide)
  rw [abc_len] at this
  omega
theorem PoolAt.up {H : Hp} {p q : Addr} {o : HO} (h : PoolAt H p) (n : H q = none) : PoolAt (L2.upd H q o) p := by
  obtain ⟨a, b, c, e, r⟩ := h
  exact ⟨a, b, c, by rw [upd_ne (ne_of_none e n)]; exact e, r⟩
theorem PoolAt.ne {H : Hp} {p q : Addr} (h : PoolAt H p) (n : H q = none) : q ≠ p := by
  obtain ⟨a, b, c, e, r⟩ := h
  exact (ne_of_none e n).symm
theorem PoolAt.put {H : Hp} {p q : Addr} {o : HO} (h : PoolAt H p) (n : q ≠ p) : PoolAt (L2.upd H q o) p := by
  obtain ⟨a, b, c, e, r⟩ := h
  exact ⟨a, b, c, by rw [upd_ne n.symm]; exact e, r⟩
/-- a store at a thing that was not there at first -/
theorem But.new {p q : Addr} {o : HO} {H H' : Hp} (a : But p H H') (n : H q = none) : But p H (L2.upd H' q o) := fun c u k h => by
  rw [upd_ne (ne_of_none h n)]
  exact a c u k h
theorem But.free {p q : Addr} {H H' : Hp} (a : But p H H') (n : H' q = none) (ne : q ≠ p) : H q = none := by
  cases e : H q with
  | none => rfl
  | some o =>
    rw [a q o ne e] at n
    cases n
theorem take_more {α : Type} : ∀ {l : List α} {i : Nat} {x : α}, l[i]? = some x → l.take (i + 1) = l.take i ++ [x] := fun {l i x} h => by
  rw [List.take_add_one, h] <;> rfl
def vOne (c : Nat) : V := .str (one c)
section
variable {P : Program} {w : World} {K : PySem.W.Frag} {mg : Str → Option Value} {base : Heap} {f fD : Addr} {fd fdD : FuncData}
theorem scS : FnScope ["_law_pool_here", "_law_most", "_law_found", "_law_turn", "_law_rest", "_law_mark"] ["_law_pool_here", "_law_most"] (defScope sSigns) := ⟨rfl, rfl, rfl, by decide +kernel, rfl, by decide +kernel, by decide +kernel⟩
theorem ok_signs (F : Fun K "_law_signs" "_law_signs" sSigns f fd) (D : Def K mg "_law_draw" sDraw ["_law_pool_here", "_law_many"] fD fdD) (mInt : mg "int" = none) (mDm : mg "divmod" = none) (mLen : mg "len" = none) (mRange : mg "range" = none) :
    FnOk P w K mg base CX0 2 f fd ["_law_pool_here", "_law_most"] spSigns := by
  have G : FnOk P w K mg base CX0 1 fD fdD ["_law_pool_here", "_law_many"] spDraw := ok_draw D.F mInt mDm
  refine F.ok scS (fun vs H Q E h => ?_) (fun cdv A outer s H vs Q E hr h => ?_)
  · obtain ⟨p, m, rfl, _⟩ := h
    rfl
  · obtain ⟨p, m, rfl, m0, m1, hp, k⟩ := h
    refine ⟨_, pss_cons (ps_set (i := 2) scS.nd rfl (.inr rfl) pe_str)
      (pss_cons (ps_for PassesOwn.never rfl (pi_range1 rfl mRange (pa_cons (pe_op op_add pe_int (pe_call G hr rfl D.g D.kp D.b .nil pass0 (pa_cons (pv 0) (pa_cons (pv 1) pa_nil)))) pa_nil)) (pg_name (i := 3) scS.nd rfl (.inl rfl))
        (pss_cons (ps_setLc (i := 4) (own := [("_law_mark", 5)]) (g := gName 5) rfl scS.nd rfl rfl (sw_true rfl rfl rfl (by decide +kernel)) (pi_str pe_str) (blkOk_by (N := ["_law_pool_here", "_law_most", "_law_found", "_law_turn", "_law_rest", "_law_mark"]) (sc := defScope sSigns) (by decide +kernel))
            (fun _ _ _ _ _ => pg_name (i := 5) scS.nd rfl (.inl rfl)) (fun _ _ _ _ _ => pts_one (pt_cmpR op_notIn_sign (pv 5) (pv 2) rfl)) (fun _ _ _ _ _ => pv 5))
          (pss_one (ps_set (i := 2) scS.nd rfl (.inr rfl) (pe_op op_add_str (pv 2) (pe_ix ix_list (pv 4) (pe_call G hr rfl D.g D.kp D.b .nil pass0 (pa_cons (pv 0) (pa_cons (pe_callB call_len_seq (by rfl) mLen PySem.boot_len (pa_cons (pv 4) pa_nil)) pa_nil))) (fun _ _ => rfl)))))))
      (pss_one (ps_ret (pv 2)))), ?_⟩
    have e0 : (Str.ofString "" : Str) = S [] := by decide +kernel
    refine ⟨_, rfl, _, rfl, p, m, rfl, m0, by omega, hp, fun d H1 d0 d1 hp1 b1 => ⟨_, _, rfl, rfl, _, rfl, by omega, by omega, for_it walk_range
      (fun i σ H' => ∃ (l : List Nat) (v3 v4 v5 : Option V), σ = [some (.ref p), some (.int m), some (.str (S l)), v3, v4, v5] ∧ Low l ∧ l.Nodup ∧ l.length = i ∧ PoolAt H' p ∧ But p H H')
      ⟨[], none, none, none, by rw [← e0]; rfl, (fun c hc => nomatch hc), List.nodup_nil, rfl, hp1, b1⟩ (fun _ _ _ _ _ => trivial) ?_ ?_⟩⟩
    · rintro i x σ H2 H2' hi ⟨l, v3, v4, v5, rfl, lo, nd, ll, hp2, b2⟩ ⟨rfl, rfl⟩
      refine ⟨_, rfl, fun D hD => lc_it walk_str (fun j H3 => H3 D = some (.lst (((abc.take j).filter fun c => !decide (c ∈ l)).map vOne)) ∧ PoolAt H3 p ∧ But p H H3) ?_ (fun _ _ _ _ => trivial) ?_ ?_⟩
      · exact ⟨upd_same, hp2.up hD, b2.upd hD⟩
      · rintro j y H3 H3' hj ⟨h1, h2, h3⟩ ⟨rfl, c, hc, rfl⟩
        have hc' : abc[j]? = some c := by
          rw [abc_is] at hc
          simpa [S] using hc
        have hD0 : H D = none := b2.free hD (hp2.ne hD)
        refine ⟨rfl, _, rfl, _, rfl, c, S l, rfl, rfl, _, rfl, ite2 (fun q => ?_) (fun q => ?_)⟩
        · refine ⟨_, rfl, _, h1, ?_, ?_, h2.put (hp2.ne hD), h3.new hD0⟩
          · rw [List.length_map, sizeLine_eq]
            have := List.length_filter_le (fun c => !decide (c ∈ l)) (abc.take j)
            have := List.length_take_le' j abc
            rw [abc_len] at this
            omega
          · rw [upd_same, take_more hc', List.filter_append, List.map_append]
            rw [S_cps] at q
            rw [show ([c].filter fun c => !decide (c ∈ l)) = [c] from List.filter_cons_of_pos q] <;> rfl
        · refine ⟨?_, h2, h3⟩
          rw [S_cps] at q
          rw [h1, take_more hc', List.filter_append, show ([c].filter fun c => !decide (c ∈ l)) = [] from List.filter_cons_of_neg q, List.append_nil]
      · rintro H3 ⟨h1, h2, h3⟩
        have full : abc.take ("abcdefghijklmnopqrstuvwxyz" : Str).cps.size = abc := by rw [abc_is, S_size, List.take_length]
        rw [full] at h1
        have ne : 0 < (abc.filter fun c => !decide (c ∈ l)).length := rest_pos (by omega)
        refine ⟨_, rfl, _, rfl, _, rfl, _, rfl, D, _, rfl, .inl (SqL.of h1), p, _, rfl, ?_, ?_, h2, fun e H4 e0 e1 hp4 b4 => ?_⟩
        · rw [List.length_map]
          omega
        · rw [List.length_map]
          have := List.length_filter_le (fun c => !decide (c ∈ l)) abc
          rw [abc_len] at this
          omega
        · have e1' : e.toNat < (abc.filter fun c => !decide (c ∈ l)).length := by
            rw [List.length_map] at e1
            omega
          obtain ⟨c, hc⟩ : ∃ c, (abc.filter fun c => !decide (c ∈ l))[e.toNat]? = some c := ⟨_, List.getElem?_eq_getElem e1'⟩
          obtain ⟨c1, c2⟩ := List.mem_filter.mp (List.mem_of_getElem? hc)
          have c3 : c ∉ l := by simpa using c2
          have hat : atI ((abc.filter fun c => !decide (c ∈ l)).map vOne) e = some (vOne c) := by
            have q := atI_nat (xs := (abc.filter fun c => !decide (c ∈ l)).map vOne) (j := e.toNat) (v := vOne c) (by rw [List.getElem?_map, hc] <;> rfl)
            rwa [Int.toNat_of_nonneg e0] at q
          have h4 := b4 D _ (hp2.ne hD) h1
          refine ⟨D, _, _, _, rfl, rfl, SqL.of h4, hat, _, _, rfl, rfl, ?_, l ++ [c], some (.int (0 + (i : Nat))), some (.ref D), v5, ?_, fun z hz => ?_, ?_, ?_, hp4, h3.trans b4⟩
          · rw [S_len, sizeLine_eq]
            show l.length + 1 ≤ 16777216
            omega
          · rw [← S_add]
            rfl
          · rcases List.mem_append.mp hz with hz | hz
            · exact lo z hz
            · rw [List.mem_singleton.mp hz]
              exact abc_low c c1
          · rw [List.nodup_append]
            exact ⟨nd, by simp, fun a ha b hb q => c3 (by rw [← List.mem_singleton.mp hb, ← q]; exact ha)⟩
          · rw [List.length_append, ll] <;> rfl
    · rintro σ H2 ⟨l, v3, v4, v5, rfl, lo, nd, ll, hp2, b2⟩
      exact ⟨_, rfl, k l _ lo nd (by omega) (by omega) hp2 b2⟩
end
end Wb
namespace Wb
open PySem L2 WbMin
theorem one_cat : ∀ (l : List Nat) (c : Nat), Str.join (S []) ((c :: l).map one) = S (c :: l)
  | [], c => rfl
  | d :: l, c => by
    have ih := one_cat l d
    show one c ++ S [] ++ Str.join (S []) ((d :: l).map one) = S (c :: d :: l)
    rw [ih, S_one, S_add, S_add]
    rfl
theorem join_one {l : List Nat} (h : 0 < l.length) : Txt.join (Str.ofString "") (l.map one) = S l := by
  have e0 : (Str.ofString "" : Str) = S [] := by decide +kernel
  cases l with
  | nil => cases h
  | cons c l =>
    rw [e0]
    show Builtin.Str.glued (S []) ((c :: l).map one) = S (c :: l)
    rw [StrLaws.glued_eq_join]
    exact one_cat l c
end Wb
/-! set(xs) and len(set(xs)) of a list of texts, any of them, below the scanned bound -/
namespace WbSet
open PySem PySem.Spec PyProof.Rows
/-- the different ones, by their first places -/
def addNew (acc : List Str) (x : Str) : List Str := if x ∈ acc then acc else acc ++ [x]
def differ (xs : List Str) : List Str := xs.foldl addNew []
theorem addNew_mem (acc : List Str) (x k : Str) : k ∈ addNew acc x ↔ k ∈ acc ∨ k = x := by
  unfold addNew
  by_cases h : x ∈ acc
  · rw [if_pos h]
    exact ⟨.inl, fun q => q.elim id fun e => e ▸ h⟩
  · rw [if_neg h, List.mem_append, List.mem_singleton]
theorem addNew_len (acc : List Str) (x : Str) : (addNew acc x).length = if x ∈ acc then acc.length else acc.length + 1 := by
  unfold addNew
  by_cases h : x ∈ acc
  · rw [if_pos h, if_pos h]
  · rw [if_neg h, if_neg h, List.length_append] <;> rfl
theorem differ_more (xs : List Str) (x : Str) : differ (xs ++ [x]) = addNew (differ xs) x := by
  unfold differ
  rw [List.foldl_append] <;> rfl
theorem fold_le : ∀ (xs acc : List Str), (xs.foldl addNew acc).length ≤ acc.length + xs.length
  | [], acc => Nat.le_refl _
  | x :: r, acc => by
    have h1 := fold_le r (addNew acc x)
    have h2 : (addNew acc x).length ≤ acc.length + 1 := by rw [addNew_len]; split <;> omega
    show (r.foldl addNew (addNew acc x)).length ≤ acc.length + (r.length + 1)
    omega
theorem differ_le (xs : List Str) : (differ xs).length ≤ xs.length := by
  have h := fold_le xs []
  show (xs.foldl addNew []).length ≤ xs.length
  simpa using h
/-- what the set at a holds behind the first i -/
def Has (P : Program) (w : World) (h : Heap) (a : Addr) (ys : List Str) : Prop := h.SetOf (strKind P w) a (fun k => decide (k ∈ ys)) ys.length
section
variable {prog : Program} {w : World} {A : Around} {R : Result → Shared → Prop} {I : Addr} {fp wr : List Addr} {G : Array GenState → Array GenState → Prop} {n : Nat} {P : Nat → Value → Prop} {St : Nat → Shared → Prop}
theorem Has.keep {h h' : Heap} {a : Addr} {ys : List Str} (q : Has prog w h a ys) (k : ∀ o, h.get? a = some o → h'.get? a = some o) : Has prog w h' a ys := by
  obtain ⟨o, es, ep, t, ho, r⟩ := q
  exact ⟨o, es, ep, t, k o ho, r⟩
theorem Has.more {h : Heap} {a : Addr} {ys : List Str} {x : Str} (q : h.SetOf (strKind prog w) a (fun j => decide (j ∈ ys) || decide (j = x)) (if decide (x ∈ ys) = true then ys.length else ys.length + 1)) : Has prog w h a (addNew ys x) := by
  refine SetOf_congr q (fun k => ?_) ?_
  · rw [← Bool.decide_or]
    exact decide_eq_decide.mpr (addNew_mem ys x k).symm
  · rw [addNew_len]
    by_cases e : x ∈ ys
    · rw [if_pos e, if_pos (decide_eq_true e)]
    · rw [if_neg e, if_neg (fun z => e (of_decide_eq_true z))]
theorem turns (W : WalksS prog w A.in1 I fp wr G n P St) (T : Addr) (nT : T ∉ fp) (xs : List Str) (lx : xs.length = n) (few : n + 1 < scanBound) (told : ∀ i v, P i v → ∃ x t, xs[i]? = some x ∧ v = .str x t) :
    ∀ (left i : Nat) (s : Shared), n - i = left → i ≤ n → St i s → Has prog w s.heap T (differ (xs.take i)) →
      (∀ s', Moved (T :: wr) G s s' → Has prog w s'.heap T (differ xs) → R (.ok (.ret .none)) s') → codeAny (model prog w) A (.builtin "set.update.loop" ⟨[.ref T, .ref I], []⟩) R s := by
  have nTw : T ∉ wr := fun q => nT (W.sub _ q)
  have wider : ∀ b ∈ wr, b ∈ T :: wr := fun _ q => List.mem_cons_of_mem _ q
  intro left
  induction left with
  | zero =>
    intro i s e1 e2 hst has fin
    obtain rfl : i = n := by omega
    refine codeAny_builtin PyProof.Rows.F.entry_set_update_loop ?_ ; rw [Around.under_plainId PyProof.Rows.F.plain_set_update_loop _]
    show wpAny _ A.in1 (pyNext (.ref I) >>= _) _ _ s ; refine wpAny_bind (W.done s _ _ hst fun s1 mv => ?_)
    show wpAny _ A.in1 (ret Value.none) _ _ s1
    refine wpAny_pure (fin s1 (mv.mono wider) ?_)
    rw [← lx, List.take_length] at has
    exact has.keep fun o e => mv.heap T o nTw e
  | succ left ih =>
    intro i s e1 e2 hst has fin
    have lt : i < n := by omega
    refine codeAny_builtin PyProof.Rows.F.entry_set_update_loop ?_ ; rw [Around.under_plainId PyProof.Rows.F.plain_set_update_loop _]
    show wpAny _ A.in1 (pyNext (.ref I) >>= _) _ _ s ; refine wpAny_bind (W.item i s _ _ lt hst fun v s1 hP hst1 mv => ?_)
    obtain ⟨x, t, hx, rfl⟩ := told i v hP
    have has1 : Has prog w s1.heap T (differ (xs.take i)) := has.keep fun o e => mv.heap T o nTw e
    have room : (differ (xs.take i)).length + 1 < scanBound := by
      have := differ_le (xs.take i)
      rw [List.length_take] at this
      omega
    have step : differ (xs.take (i + 1)) = addNew (differ (xs.take i)) x := by
      rw [← differ_more, List.take_add_one, hx] <;> rfl
    show wpAny _ A.in1 (holding [Value.str x t] (setAdd T (.str x t)) >>= _) _ _ s1 ; refine wpAny_bind (wpAny_holding ?_)
    unfold setAdd ; refine wpAny_holding (wpAny_bind ((strKind prog w).pyHash (k := x) (strKind_is _ _ _ _) ?_))
    refine wpAny_setAddHashed_of (knd := strKind prog w) (s := { s1 with toks := s1.toks + 1 }) (strKind_is _ _ _ _) rfl has1 room fun h2 but new => ?_
    have has2 : Has prog w h2 T (differ (xs.take (i + 1))) := by rw [step]; exact Has.more new
    refine wpAny_pure ⟨plainId_quiet PyProof.Rows.F.plain_set_update_loop _, ih (i + 1) _ (by omega) lt (W.frame _ s1 _ _ hst1 (Nat.le_succ _) fun b hb o e => ?_) has2 fun s2 mv2 has3 => fin s2 (Moved.trans W.gtrans ((mv.mono wider).then_heap (Nat.le_succ _) fun b o hb e => ?_) mv2) has3⟩
    · rw [but.2 b fun q => nT (q ▸ hb)] ; exact e
    · rw [but.2 b fun q => hb (q ▸ List.mem_cons_self)] ; exact e
end
section
variable {prog : Program} {w : World} {A : Around} {E : Value → Shared → Prop} {s : Shared}
/-- the set object that set() makes first -/
abbrev setO (led : Bool) : Obj := { cls := .type "set", dict := none, data := .set #[] 0 (.fresh 0 0 led) }
end
end WbSet
namespace WbSet
open PySem PySem.Spec PyProof.Rows L2
variable {X : Cx}
end WbSet
/-! sorted of a text, of a tuple of texts; len(set(z)) of a text -/
namespace WbS
open PySem PySem.Spec PyProof.Rows L2
section
variable {X : Cx}
def sOne (c : Nat) : Str := ⟨#[c]⟩
/-- a new list of these texts, sorted -/
theorem sort_new {pins : List (Addr × Obj)} {σ : L2.St} {H : Hp} {s : Shared} {Q : VK} {us : List Value} {ks : List Str} (I : Inv X pins σ H s) (hS : StrsAre us ks) (h64 : ks.length < 64) (q : ∀ ys p, ys.Perm ks → sortedS ys = true → H p = none → Q (.ref p) (upd H p (.lst (ys.map V.str)))) :
    wpAny (model X.prog X.w) X.A.in1 (newList us >>= fun l => holding [l] (call (.builtin "list.sort") [l] []) >>= fun _ => ret l) (fun fin s' => ∃ v, fin = .done (.ret v) ∧ ∃ x H', Inv X pins σ H' s' ∧ RelV x v ∧ Q x H') X.xe s := by
  have hal : us.length = ks.length := hS.len_eq
  refine wpAny_bind (wpAny_newList ?_ (by rw [hal, sizeLine_eq]; omega))
  have hoL : (s.heap.push (seqObj "list" us.toArray 0)).get? s.heap.objs.size = some (seqObj "list" us.toArray 0) := Heap.get?_push_size _ rfl
  show wpAny _ _ _ _ _ { s with heap := s.heap.push (seqObj "list" us.toArray 0) }
  refine wpAny_bind (wpAny_holding (wpAny_call_entry PyProof.Rows.slot_list_sort ⟨_, hoL, rfl⟩ PyProof.Rows.entry_list_sort
    (list_sort_treeK strKind_oneLt (s := { s with heap := s.heap.push (seqObj "list" us.toArray 0) }) hoL hS.keysOf (fun v₁ v₂ rest e => keyKind_strs (by rw [← e]; exact hS)) (by rw [hal]; exact h64) fun st' hp hs => ⟨_, rfl, ?_⟩)
    (PyProof.Rows.args_list_sort _)))
  obtain ⟨ys, g1, g2, g3⟩ := sorted_out_str hS hp hs
  obtain ⟨e', he'⟩ := PyProof.Rows.sortedHeap_at (vs := us) (out := (arrOf st').map (·.2)) hoL
  have hlen : (ys.map V.str).length ≤ sizeLine := by
    rw [List.length_map, g2.length_eq]
    exact Nat.le_trans (Nat.le_of_lt h64) (by decide)
  refine wpAny_pure ⟨_, rfl, .ref s.heap.objs.size, upd H s.heap.objs.size (.lst (ys.map V.str)), I.laid (t' := s.toks) (fun b u e => ?_) (Nat.le_refl _)
    (show ObjOk X.prog X.w _ _ _ (.lst (ys.map V.str)) from ⟨hlen, ((arrOf st').map (·.2)).toList, e', vals_of_strs g1, by rw [Array.toArray_toList]; exact he'⟩), rfl, q ys _ g2 g3 (I.hok.fresh (Nat.le_refl _))⟩
  have hb : b < s.heap.objs.size := Heap.lt_size e
  rw [PyProof.Rows.sortedHeap_old (Nat.ne_of_lt hb) (by rw [size_push']; exact Nat.lt_succ_of_lt hb)]
  exact Heap.get?_push_of_some _ e
theorem call_sortedTx (hcalm : X.calm = true) : CallR X (.builtin "sorted") (fun xs H Q => ∃ z : Str, xs = [.str z] ∧ z.length < 64 ∧ ∀ ys p, ys.Perm (z.cps.toList.map sOne) → sortedS ys = true → H p = none → Q (.ref p) (upd H p (.lst (ys.map V.str)))) := by
  intro pins s σ H xs us Q I r q
  obtain ⟨z, rfl, h64, q⟩ := q
  obtain ⟨u, rfl, t, rfl⟩ := vals1 r
  have h16 : z.cps.size ≤ sizeLine := by
    have : z.cps.size < 64 := h64
    rw [sizeLine_eq]; omega
  refine Calls.call_function_entry PyProof.Rows.kind_sorted PyProof.Rows.plain_sorted PyProof.Rows.entry_sorted (PyProof.Rows.args_sorted1 _) ?_
  unfold Builtin.«sorted»
  refine wpAny_bind (m := checkCount "sorted" 1 1 _) (wpAny_pure ?_)
  refine wpAny_bind (wpAny_collect_str (A := X.A.in1) (I.ok.hd hcalm) z t (fun s' acc hk e1 e2 e3 hacc => ?_) h16)
  obtain ⟨h', g', d', tk, os'⟩ := s'
  obtain rfl : g' = s.gens := e1
  obtain rfl : d' = s.drawn := e2
  obtain rfl : os' = s.os := e3
  have hS : StrsAre acc.toList (z.cps.toList.map sOne) := strs_at (by rw [Array.length_toList, hacc.1, List.length_map, Array.length_toList]) fun j v e => by
    obtain ⟨c, u, a1, a2⟩ := hacc.2 j v (by rw [← Array.getElem?_toList]; exact e)
    exact ⟨sOne c, u, by rw [List.getElem?_map, Array.getElem?_toList, a1] <;> rfl, a2⟩
  have I1 : Inv X pins σ H { s with heap := h', toks := tk } := I.kept hk
  exact sort_new I1 hS (by rw [List.length_map, Array.length_toList]; exact h64) q
theorem call_sortedTup : CallR X (.builtin "sorted") (fun xs H Q => ∃ (a : Addr) (ks : List Str), xs = [.ref a] ∧ SqT X.K H a (ks.map V.str) ∧ ks.length < 64 ∧ ∀ ys p, ys.Perm ks → sortedS ys = true → H p = none → Q (.ref p) (upd H p (.lst (ys.map V.str)))) := by
  intro pins s σ H xs us Q I r q
  obtain ⟨a, ks, rfl, hq, h64, q⟩ := q
  rw [Vals.ref1 r]
  obtain ⟨its, rv, ⟨o, ho, hc, n, hd⟩, hz⟩ := I.tuple hq
  have hS : StrsAre its ks := rv.strs
  have hl : its.length = ks.length := hS.len_eq
  refine Calls.call_function_entry PyProof.Rows.kind_sorted PyProof.Rows.plain_sorted PyProof.Rows.entry_sorted (PyProof.Rows.args_sorted1 _) ?_
  unfold Builtin.«sorted»
  refine wpAny_bind (m := checkCount "sorted" 1 1 _) (wpAny_pure ?_)
  refine wpAny_bind (wpAny_collect_seq (A := X.A.in1) a (.inr rfl) ho hc hd (fun h' hk => ?_) (by rw [List.size_toArray, hl, sizeLine_eq]; omega))
  have I1 : Inv X pins σ H { s with heap := h' } := I.kept (t' := s.toks) hk
  exact sort_new I1 hS h64 q
end
end WbS
namespace WbSet
open PySem PySem.Spec PyProof.Rows
def signs (x : Str) : List Str := x.cps.toList.map fun c => ⟨#[c]⟩
theorem signs_told {x : Str} {i : Nat} {v : Value} (h : SignAt x i v) : ∃ y t, (signs x)[i]? = some y ∧ v = .str y t := by
  obtain ⟨c, u, e1, e2⟩ := h
  refine ⟨⟨#[c]⟩, u, ?_, e2⟩
  unfold signs
  rw [List.getElem?_map, Array.getElem?_toList, e1] <;> rfl
section
variable {prog : Program} {w : World} {A : Around} {E : Value → Shared → Prop} {s : Shared}
set_option maxHeartbeats 3200000 in
theorem call_setT {x : Str} {u : Tok} {Q : Value → Shared → Prop} (calm : A.handled = none) (few : x.cps.size + 1 < scanBound)
    (k : ∀ (h' : Heap) (tk : Nat), Has prog w h' s.heap.objs.size (differ (signs x)) → (∀ b o, b < s.heap.objs.size → s.heap.get? b = some o → h'.get? b = some o) → Q (.ref s.heap.objs.size) { s with heap := h', toks := tk }) :
    wpAny (model prog w) A (call (.type "set") [.str x u]) Q E s := by
  obtain ⟨c, tl, mro⟩ := PySem.F.called_set.mro
  have f1 := PySem.F.called_set.made
  have f2 := PySem.F.called_set.sub
  refine wpAny_call (codeAny_of_tree ?_) ; show wpAny _ _ (callAny (.type "set") _) _ _ _
  refine wpAny_pure ⟨Code.quiet_builtin _ (by decide +kernel), codeAny_builtin PySem.F.entry_type_call ?_⟩ ; rw [Around.under_plain (weight_type_call_type "set" [.str x u] []) rfl]
  have f3 := PySem.F.called_set.notType
  have f4 := PySem.F.called_set.canCreate
  have f5 := PySem.F.typeCall_set_1 (.str x u)
  repeat (any_goals (first | assumption | wp_step))
  refine codeAny_mono (code_set_new_1 (.str x u) (E := E) (Q₁ := fun v s1 => ∃ led : Bool, v = .ref s.heap.objs.size ∧ s1 = { s with heap := s.heap.push (setO led) }) fun led => ⟨led, rfl, rfl⟩) fun r s1 hr => ?_
  cases r with
  | error e => exact hr
  | ok fl =>
    cases fl with
    | ret v =>
      obtain ⟨led, rfl, rfl⟩ := hr
      have g1 : (s.heap.push (setO led)).get? s.heap.objs.size = some (setO led) := Heap.get?_push_size _ rfl
      have g2 : Shared.TypeIs { s with heap := s.heap.push (setO led) } (.ref s.heap.objs.size) "set" := ⟨_, g1, rfl⟩
      have f6 := PySem.F.called_set.init.lookup
      have f7 := PySem.F.called_set.init.bind (.ref s.heap.objs.size)
      repeat (any_goals (first | assumption | wp_step))
      refine codeAny_mono (codeAny_call_builtin (R := wants (fun r s2 => r = .none ∧ ∃ h' tk, s2 = { s with heap := h', toks := tk } ∧ Has prog w h' s.heap.objs.size (differ (signs x)) ∧ (∀ b o, b < s.heap.objs.size → s.heap.get? b = some o → h'.get? b = some o)) E) PySem.F.called_set.init.plain PySem.F.entry_set_init (check_set_init_1 g2 ?_)) fun r2 s2 hr2 => ?_
      · have f8 := PySem.F.sub_str_set
        have f9 := PySem.F.sub_str_frozenset
        have f10 : (Value.type "str" == Value.type "dict") = false := by decide
        unfold Builtin.«set.__init__» noKeywords Builtin.Frozenset.updateFrom
        generalize hit : pyIter = it
        wp_walk
        subst hit
        refine wpAny_pyIter_str fun o St W hst => (wpAny_bind (wpAny_runValue ?_))
        have calm3 : A.in1.in1.in1.handled = none := by simp [calm]
        have sz : (s.heap.push (setO led)).objs.size = s.heap.objs.size + 1 := Heap.size_push _ _
        have ne2 : s.heap.objs.size ∉ [(s.heap.push (setO led)).objs.size] := by
          intro q
          have q := List.mem_singleton.mp q
          rw [sz] at q; exact absurd q (Nat.ne_of_lt (Nat.lt_succ_self _))
        have lx : (signs x).length = x.cps.size := by unfold signs; rw [List.length_map, Array.length_toList]
        refine turns ((W _ calm3).toS) s.heap.objs.size ne2 (signs x) lx few (fun i v hv => signs_told hv) (x.cps.size - 0) 0 _ (by omega) (Nat.zero_le _) hst ?start ?fin
        case start =>
          have g4 : ((s.heap.push (setO led)).push o).get? s.heap.objs.size = some (setO led) := Heap.get?_push_of_some _ g1
          exact SetOf_congr ((setObjOf_fresh (knd := strKind prog w) led).setOf g4 (by unfold scanBound; omega)) (fun _ => rfl) rfl
        case fin =>
          intro s3 mv has
          obtain ⟨h3, g3', d3, tk3, os3⟩ := s3
          obtain rfl : g3' = s.gens := mv.gens
          obtain rfl : d3 = s.drawn := mv.drawn
          obtain rfl : os3 = s.os := mv.os
          show wpAny _ _ _ _ _ _ ; refine wpAny_pure ?_ ; show wpAny _ _ (ret Value.none) _ _ _
          refine wpAny_pure ⟨rfl, h3, tk3, rfl, has, fun b o hb e => mv.heap b o ?_ (Heap.get?_push_of_some _ (Heap.get?_push_of_some _ e))⟩
          intro q
          rcases List.mem_cons.mp q with q | q
          · exact absurd q (Nat.ne_of_lt hb)
          · have q2 := List.mem_singleton.mp q
            rw [sz] at q2
            exact absurd q2 (Nat.ne_of_lt (Nat.lt_succ_of_lt hb))
      · cases r2 with
        | error e => exact hr2
        | ok fl2 =>
          cases fl2 with
          | ret r =>
            obtain ⟨rfl, h', tk, rfl, has, kept⟩ := hr2
            repeat (any_goals (first | assumption | wp_step))
            exact k _ _ has kept
          | _ => exact hr2.elim
    | _ => exact hr.elim
end
end WbSet
namespace WbSet
open PySem PySem.Spec PyProof.Rows L2
variable {X : Cx}
/-- len(set(z)), z a text -/
def tLenSetT (ta : TE) : TE := fun σ H Q => ta σ H fun x H1 => ∃ z : Str, x = .str z ∧ z.length ≤ 4000 ∧ Q (.int (differ (signs z)).length) H1
theorem pe_lenSetT {a : Expr} {ta : TE} {p p2 q pos : Pos} (hc : X.calm = true) (hg : Gl X "len") (hm : X.mg "len" = none) (hg2 : Gl X "set") (hm2 : X.mg "set" = none) (ha : PE X a ta)
    (na : starEach [a] X.env = (false, eval a X.env) :: starEach [] X.env := by rfl) : PE X (.Call (.Name "len" p) [.Call (.Name "set" p2) [a] [] q] [] pos) (tLenSetT ta) := by
  refine ⟨fun pins s σ H Q I h => Call_ (ld_blt I hg hm boot_len ?_)⟩
  refine callWith_builtin1 (args_cons (Call_ (ld_blt I hg2 hm2 boot_set ?_)) rfl) rfl rfl
  refine callWith_type1 (args_cons (thn (ha.run pins s σ H _ I h) fun v s1 ⟨x, H1, I1, r1, q1⟩ => args_nil ?_) na) na rfl
  obtain ⟨z, rfl, few, q1⟩ := q1
  obtain ⟨u, rfl⟩ := r1
  have few' : z.cps.size ≤ 4000 := few
  refine call_setT (I1.ok.hd hc) (by unfold scanBound; omega) fun h' tk has kept => args_nil ?_
  obtain ⟨o, es, ep, t, ho, hex, hd, _, _, _, hf, hn⟩ := has
  have I2 : Inv X pins σ H1 { s1 with heap := h', toks := tk } := I1.kept fun b o e => kept b o (Heap.lt_size e) e
  have le := differ_le (signs z)
  have ll : (signs z).length = z.cps.size := by unfold signs; rw [List.length_map, Array.length_toList]
  exact call_len_set ho hex hd hf (by rw [hn]; omega) ⟨.int (differ (signs z)).length, H1, I2.tok _, ⟨_, by rw [hn]⟩, q1⟩
end WbSet
namespace Wb
open PySem L2 WbMin WbS
abbrev sIsWord : Stmt := top 7
abbrev sIsSigns : Stmt := top 8
abbrev sSignOf : Stmt := top 9
/-- a word as it is passed -/
structure IsW (l : List Nat) : Prop where
  low : Low l
  pos : 0 < l.length
  few : l.length ≤ 600
theorem IsW.fits {l : List Nat} (h : IsW l) : (S l).length ≤ sizeLine := by
  rw [S_len, sizeLine_eq]
  have := h.few
  omega
def spIsWord : Sp := fun vs H Q _ => ∃ l : List Nat, vs = [.str (S l)] ∧ IsW l ∧ ∀ H', Same H H' → Q (.bl true) H'
/-- the built-ins that nobody has put another thing in the place of -/
structure Free (mg : Str → Option Value) : Prop where
  int : mg "int" = none
  len : mg "len" = none
  range : mg "range" = none
  divmod : mg "divmod" = none
  abs : mg "abs" = none
  isi : mg "isinstance" = none
  str : mg "str" = none
  all : mg "all" = none
  min : mg "min" = none
  max : mg "max" = none
  set : mg "set" = none
  bool : mg "bool" = none
theorem ifd {p A B : Prop} [Decidable p] (hp : p) (h : A) : if decide p = true then A else B := by
  rw [if_pos (decide_eq_true hp)]
  exact h
theorem ifn {p A B : Prop} [Decidable p] (hp : ¬ p) (h : B) : if decide p = true then A else B := by
  rw [if_neg (fun q => hp (of_decide_eq_true q))]
  exact h
theorem iteS {p A B : Prop} [Decidable p] (hp : ¬ p) (h : A) : if (!decide p) = true then A else B := by
  rw [decide_eq_false hp]
  exact h
theorem Same.new' {q : Addr} {o : HO} {H H' : Hp} (a : Same H H') (n : H q = none) : Same H (L2.upd H' q o) := fun c u h => by
  rw [upd_ne (ne_of_none h n)]
  exact a c u h
/-! ### lists without doubles -/
theorem few_of_sub {α : Type} [DecidableEq α] : ∀ (l xs : List α), xs.Nodup → (∀ x ∈ xs, x ∈ l) → xs.length ≤ l.length
  | [], xs, _, h => by
    cases xs with
    | nil => exact Nat.le_refl _
    | cons x r => exact absurd (h x List.mem_cons_self) (List.not_mem_nil)
  | a :: l, xs, nd, h => by
    have e : (xs.filter fun c => !decide (c = a)).length ≤ l.length := few_of_sub l _ (nd.filter _) fun x hx => by
      obtain ⟨h1, h2⟩ := List.mem_filter.mp hx
      rcases List.mem_cons.mp (h x h1) with q | q
      · simp [q] at h2
      · exact q
    have d : xs.length ≤ (xs.filter fun c => !decide (c = a)).length + 1 := by
      clear e h
      induction xs with
      | nil => exact Nat.zero_le _
      | cons y r ih =>
        obtain ⟨n1, n2⟩ := List.nodup_cons.mp nd
        by_cases q : y = a
        · have e1 : (r.filter fun c => !decide (c = a)) = r := List.filter_eq_self.mpr fun c hc => by
            have : c ≠ a := fun z => n1 (q ▸ z ▸ hc)
            simp [this]
          rw [List.filter_cons_of_neg (by simp [q]), e1] <;> exact Nat.le_refl _
        · rw [List.filter_cons_of_pos (by simp [q])]
          have := ih n2
          simp only [List.length_cons]
          omega
    simp only [List.length_cons]
    omega
theorem same_count {α : Type} [DecidableEq α] {xs ys : List α} (nx : xs.Nodup) (ny : ys.Nodup) (h : ∀ x, x ∈ xs ↔ x ∈ ys) : xs.length = ys.length :=
  Nat.le_antisymm (few_of_sub ys xs nx fun x q => (h x).mp q) (few_of_sub xs ys ny fun x q => (h x).mpr q)
theorem fold_mem (x : Str) : ∀ (xs acc : List Str), x ∈ xs.foldl WbSet.addNew acc ↔ x ∈ acc ∨ x ∈ xs
  | [], acc => by simp
  | y :: r, acc => by
    rw [List.foldl_cons, fold_mem x r, WbSet.addNew_mem, List.mem_cons, or_assoc]
theorem fold_nodup : ∀ (xs acc : List Str), acc.Nodup → (xs.foldl WbSet.addNew acc).Nodup
  | [], _, h => h
  | y :: r, acc, h => fold_nodup r _ (by
    unfold WbSet.addNew
    by_cases q : y ∈ acc
    · rw [if_pos q] <;> exact h
    · rw [if_neg q, List.nodup_append]
      exact ⟨h, by simp, fun a ha b hb e => q (by rw [← List.mem_singleton.mp hb, ← e]; exact ha)⟩)
theorem differ_mem (x : Str) (xs : List Str) : x ∈ WbSet.differ xs ↔ x ∈ xs := by
  unfold WbSet.differ
  rw [fold_mem]
  simp
theorem differ_nodup (xs : List Str) : (WbSet.differ xs).Nodup := fold_nodup xs [] List.nodup_nil
theorem S_inj {l m : List Nat} (h : S l = S m) : l = m := by rw [← S_cps l, h, S_cps]
/-- the signs of a kind, in any order -/
structure Sgs (l : List Nat) : Prop where
  low : Low l
  nd : l.Nodup
  pos : 0 < l.length
  few : l.length ≤ 4
theorem Sgs.w {l : List Nat} (h : Sgs l) : IsW l := ⟨h.low, h.pos, by have := h.few; omega⟩
def spIsSigns : Sp := fun vs H Q _ => ∃ l, vs = [.str (S l)] ∧ Sgs l ∧ ∀ H', Same H H' → Q (.bl true) H'
def spSignOf : Sp := fun vs H Q _ => ∃ (c : Nat) (sg : List Nat), vs = [.str (S [c]), .str (S sg)] ∧ c ∈ sg ∧ Q (.bl true) H
theorem flat_strs (zs : List Str) : (zs.map V.str).all flatV = true := by rw [List.all_map]; exact List.all_eq_true.mpr fun _ _ => rfl
theorem inV_strs (z : Str) (zs : List Str) : inV (.str z) (zs.map V.str) = decide (z ∈ zs) := by
  unfold inV
  rw [List.any_map, Bool.eq_iff_iff, List.any_eq_true, decide_eq_true_iff]
  constructor
  · rintro ⟨y, hy, e⟩
    have e' : (y == z) = true := e
    rw [← beq_iff_eq.mp e']
    exact hy
  · intro h
    exact ⟨z, h, beq_self_eq_true z⟩
theorem take_nd {α : Type} [DecidableEq α] {l : List α} {i : Nat} {x : α} (nd : l.Nodup) (h : l[i]? = some x) : x ∉ l.take i := by
  intro m
  obtain ⟨j, hj, e⟩ := List.getElem_of_mem m
  rw [List.length_take] at hj
  rw [List.getElem_take] at e
  obtain ⟨hi, e2⟩ := List.getElem?_eq_some_iff.mp h
  exact (List.pairwise_iff_getElem.mp nd) j i (by omega) hi (by omega) (e.trans e2.symm)
section
variable {P : Program} {w : World} {K : PySem.W.Frag} {mg : Str → Option Value} {base : Heap} {f fD fS fW : Addr} {fd fdD fdS dW : FuncData}
theorem scIW : FnScope ["value", "sign"] ["value"] (defScope sIsWord) := ⟨rfl, rfl, rfl, by decide +kernel, rfl, by decide +kernel, by decide +kernel⟩
theorem ok_isword (F : Fun K "is_word" "is_word" sIsWord f fd) (Z : Free mg) (t6 : Tok) (g6 : mg "MOST_WORD" = some (.int 600 t6)) : FnOk P w K mg base CX0 1 f fd ["value"] spIsWord := by
  refine F.ok scIW (fun vs H Q E h => ?_) (fun cdv A outer s H vs Q E hr h => ?_)
  · obtain ⟨l, rfl, _⟩ := h
    rfl
  · obtain ⟨l, rfl, W, k⟩ := h
    refine ⟨_, pss_cons (ps_if (PW.pt (pw_or (pt_not (pt_val (pe_callB call_isi (by rfl) Z.isi (by decide +kernel) (pa_cons (pv 0) (pa_cons (pe_bltn (v := .ty "str") (u := .type "str") (by rfl) Z.str (by decide +kernel) rfl) pa_nil)))))
        (pw_or1 (pt_not (pt_chain op_le op_le pe_int (pe_callB call_len_str (by rfl) Z.len PySem.boot_len (pa_cons (pv 0) pa_nil)) (pe_glob (v := .int 600) (by rfl) g6 ⟨_, rfl⟩)))))) (pss_one (ps_never)) pss_nil)
      (pss_one (ps_ret (pe_callB (cr_all rfl) (by rfl) Z.all (by decide +kernel) (pa_cons
        (pe_lc (own := [("sign", 1)]) (g := gName 1) (tt := tYes) rfl scIW.nd (pi_str (pv 0)) (blkOk_by (N := ["value", "sign"]) (sc := defScope sIsWord) (by decide +kernel)) (fun _ _ _ _ _ => pg_name (i := 1) scIW.nd rfl (.inl rfl)) (fun _ _ _ _ _ => pts_nil)
          (fun _ _ _ _ _ => pe_chain op_le_str op_le_str pe_str (pv 1) pe_str)) pa_nil)))), ?_⟩
    have len1 : 1 ≤ ((S l).length : Int) := by rw [S_len]; have := W.pos; omega
    have len2 : ((S l).length : Int) ≤ 600 := by rw [S_len]; have := W.few; omega
    refine ⟨_, rfl, _, _, .type "str", .type "str", true, rfl, .ty "str", .base (.str _), kit_ty (by decide +kernel), true, rfl, ?_⟩
    refine ⟨_, rfl, _, rfl, W.fits, _, _, rfl, rfl, _, rfl, ifd len1 ⟨_, _, rfl, rfl, _, rfl, iteNS len2 ?_⟩⟩
    refine ⟨_, rfl, _, rfl, fun D hD => lc_it walk_str (fun i H3 => H3 D = some (.lst ((List.replicate i true).map V.bl)) ∧ Same H H3) ⟨upd_same, Same.put (Same.refl H) hD⟩ (fun _ _ _ _ => trivial) ?_ ?_⟩
    · rintro i x H3 H3' hi ⟨h1, h2⟩ ⟨rfl, c, hc, rfl⟩
      have mem : c ∈ l := by
        have q := Array.mem_of_getElem? hc
        simpa [S] using q
      have c12 := W.low c mem
      have la : ¬ (([c] : List Nat) < [97]) := by rw [List.cons_lt_cons_iff]; simp; omega
      have lz : ¬ (([122] : List Nat) < [c]) := by rw [List.cons_lt_cons_iff]; simp; omega
      have ea : ("a" : Str).cps.toList = [97] := by decide +kernel
      have ez : ("z" : Str).cps.toList = [122] := by decide +kernel
      refine ⟨rfl, _, rfl, _, _, rfl, rfl, _, rfl, iteS (by rw [ea]; exact la) ⟨_, _, rfl, rfl, ?_⟩⟩
      rw [ez, decide_eq_false (show ¬ (([122] : List Nat) < (⟨#[c]⟩ : Str).cps.toList) from lz)]
      refine ⟨_, h1, ?_, ?_, Same.new' h2 hD⟩
      · rw [List.length_map, List.length_replicate, sizeLine_eq]
        have := W.few
        rw [S_size] at hi
        omega
      · rw [upd_same, List.replicate_succ', List.map_append] <;> rfl
    · rintro H3 ⟨h1, h2⟩
      refine ⟨D, _, rfl, SqL.of h1, ?_⟩
      have e : (List.replicate (S l).cps.size true).all id = true := List.all_eq_true.mpr fun b hb => by rw [List.eq_of_mem_replicate hb] <;> rfl
      show Q (.bl ((List.replicate (S l).cps.size true).all id)) H3
      rw [e]
      exact k H3 h2
theorem scSg : FnScope ["value"] ["value"] (defScope sIsSigns) := ⟨rfl, rfl, rfl, by decide +kernel, rfl, by decide +kernel, by decide +kernel⟩
theorem ok_issigns (F : Fun K "is_signs" "is_signs" sIsSigns f fd) (Z : Free mg) (DW : Def K mg "is_word" sIsWord ["value"] fW dW) (t6 : Tok) (g6 : mg "MOST_WORD" = some (.int 600 t6)) (t4 : Tok) (g4 : mg "MOST_SIGNS" = some (.int 4 t4)) : FnOk P w K mg base CX0 2 f fd ["value"] spIsSigns := by
  have GW : FnOk P w K mg base CX0 1 fW dW ["value"] spIsWord := ok_isword DW.F Z t6 g6
  refine F.ok scSg (fun vs H Q E h => ?_) (fun cdv A outer s H vs Q E hr h => ?_)
  · obtain ⟨l, rfl, _⟩ := h
    rfl
  · obtain ⟨l, rfl, G, k⟩ := h
    refine ⟨_, pss_one (ps_ret (pe_and (pe_call GW hr rfl DW.g DW.kp DW.b .nil pass0 (pa_cons (pv 0) pa_nil)) (pe_and (pe_cmpR op_le (pe_callB call_len_str (by rfl) Z.len PySem.boot_len (pa_cons (pv 0) pa_nil)) (pe_glob (v := .int 4) (by rfl) g4 ⟨_, rfl⟩) (nomark _))
      (pe_one (pe_cmpR op_eq (WbSet.pe_lenSetT rfl (by rfl) Z.len (by rfl) Z.set (pv 0)) (pe_callB call_len_str (by rfl) Z.len PySem.boot_len (pa_cons (pv 0) pa_nil)) (nomark _)))))), ?_⟩
    have few := G.few
    refine ⟨_, rfl, l, rfl, G.w, fun H1 s1 => ⟨true, rfl, _, rfl, _, rfl, G.w.fits, _, _, rfl, rfl, _, rfl, ifd (by rw [S_len]; omega) ?_⟩⟩
    refine ⟨_, rfl, S l, rfl, by rw [S_len]; omega, _, rfl, _, rfl, G.w.fits, rfl, ?_⟩
    have e : (WbSet.differ (WbSet.signs (S l))).length = (S l).length := by
      have nd : (WbSet.signs (S l)).Nodup := by
        unfold WbSet.signs
        rw [S_cps]
        exact List.Pairwise.map _ (fun a b h q => h (by injection q with q; injection q with q; injection q)) G.nd
      rw [same_count (differ_nodup _) nd (fun x => differ_mem x _)]
      unfold WbSet.signs
      rw [List.length_map, S_cps, S_len]
    rw [e, decide_eq_true rfl]
    exact k H1 s1
theorem scSO : FnScope ["value", "signs"] ["value", "signs"] (defScope sSignOf) := ⟨rfl, rfl, rfl, by decide +kernel, rfl, by decide +kernel, by decide +kernel⟩
theorem ok_signof (F : Fun K "is_sign_of" "is_sign_of" sSignOf f fd) (Z : Free mg) : FnOk P w K mg base CX0 1 f fd ["value", "signs"] spSignOf := by
  refine F.ok scSO (fun vs H Q E h => ?_) (fun cdv A outer s H vs Q E hr h => ?_)
  · obtain ⟨c, sg, rfl, _⟩ := h
    rfl
  · obtain ⟨c, sg, rfl, m, k⟩ := h
    refine ⟨_, pss_one (ps_ret (pe_and (pe_callB call_isi (by rfl) Z.isi (by decide +kernel) (pa_cons (pv 0) (pa_cons (pe_bltn (v := .ty "str") (u := .type "str") (by rfl) Z.str (by decide +kernel) rfl) pa_nil)))
      (pe_and (pe_cmpR op_eq (pe_callB call_len_str (by rfl) Z.len PySem.boot_len (pa_cons (pv 0) pa_nil)) pe_int (nomark _)) (pe_one (pe_cmpR op_in_sign (pv 0) (pv 1) rfl))))), ?_⟩
    refine ⟨_, rfl, _, _, .type "str", .type "str", true, rfl, .ty "str", .base (.str _), kit_ty (by decide +kernel), true, rfl, ?_⟩
    refine ⟨_, rfl, _, rfl, (by rw [S_len, sizeLine_eq]; show 1 ≤ _; decide), rfl, _, rfl, ifd (by rw [S_len] <;> rfl) ?_⟩
    refine ⟨_, rfl, _, rfl, c, S sg, rfl, rfl, ?_⟩
    rw [S_cps, decide_eq_true m]
    exact k
end
end Wb
/-! the parts of a loop, asked whether they are right -/
namespace Wb
open PySem L2 WbMin WbS Lz
/-- a name -/
structure IsNm (l : List Nat) : Prop where
  pos : 0 < l.length
  few : l.length ≤ 8
  hd : 97 ≤ l.getD 0 0 ∧ l.getD 0 0 ≤ 122
  ok : ∀ c ∈ l, (97 ≤ c ∧ c ≤ 122) ∨ (48 ≤ c ∧ c ≤ 57)
theorem IsNm.fits {l : List Nat} (h : IsNm l) : (S l).length ≤ sizeLine := by
  rw [S_len, sizeLine_eq]
  have := h.few
  omega
section
variable {P : Program} {w : World} {K : PySem.W.Frag} {mg : Str → Option Value} {base : Heap} {f fS fO fI : Addr} {fd dS dO dI : FuncData}
end
end Wb
/-! enumerate(t), t a tuple -/
namespace WbS
open PySem PySem.Spec PyProof.Rows
open AutoSeq1 (wpAny_loadPart')
set_option maxHeartbeats 1000000 in
theorem meets_enumT {v : Value} {o : Obj} {H : Heap → Prop} (B : Begins v o H) :
    Meets (Builtin.«enumerate.__new__» ⟨[.type "enumerate", v], []⟩) (fun _ R s => H s.heap ∧
      R (.ok (.ret (.ref (s.heap.push o).objs.size))) { s with heap := (s.heap.push o).push { cls := .type "enumerate", data := .fields #[.none, .bool false, .ref s.heap.objs.size, rawInt 0, .none, .none] } }) :=
  .of_wp fun prog w A R s h => by
    obtain ⟨hp, g, d, tk, os⟩ := s; obtain ⟨h1, h⟩ := h
    have hsub := sub_enumerate
    have q1 : ∀ {A' : Around} {E : Value → Shared → Prop} {Q : Value → Shared → Prop}, Q (.ref hp.objs.size) ⟨hp.push o, g, d, tk, os⟩ → wpAny (model prog w) A' (pyIter v) Q E ⟨hp, g, d, tk, os⟩ :=
      fun q => B.iter prog w _ _ ⟨hp, g, d, tk, os⟩ _ h1 q
    wp_walk using q1
    refine wpAny_stack_any fun st => wpAny_pure ?_
    split
    · rename_i c _ _ _ _ _
      cases (c == Value.type "enumerate")
      · wp_walk using q1
        exact ⟨_, rfl, h⟩
      · wp_walk using q1
        exact ⟨_, rfl, h⟩
    · wp_walk using q1
      exact ⟨_, rfl, h⟩
section
variable {prog : Program} {w : World} {A : Around} {E : Value → Shared → Prop} {s : Shared}
theorem enum1_begins {v : Value} {o : Obj} {H : Heap → Prop} {Q : Value → Shared → Prop} (B : Begins v o H) (h1 : H s.heap)
    (h : ∀ h', IsEnum h' (s.heap.objs.size + 1) s.heap.objs.size 0 .none → h'.get? s.heap.objs.size = some o → h'.objs.size = s.heap.objs.size + 2 →
      (∀ b o, s.heap.get? b = some o → h'.get? b = some o) → Q (.ref (s.heap.objs.size + 1)) { s with heap := h' }) :
    wpAny (model prog w) A (call (.type "enumerate") [v]) Q E s := by
  refine callType_new F.called_enumerate (by decide) (F.typeCall_enumerate_1 _) (F.newCall_enumerate_1 _) (fun obj => F.args_object_init_2 obj _) F.entry_enumerate_new
    (meets_enumT B) ⟨h1, ?_⟩
  have hz : (s.heap.push o).objs.size = s.heap.objs.size + 1 := Heap.size_push ..
  show _ ∧ _
  rw [hz]
  have he : IsEnum ((s.heap.push o).push { cls := .type "enumerate", data := .fields #[.none, .bool false, .ref s.heap.objs.size, rawInt 0, .none, .none] }) (s.heap.objs.size + 1) s.heap.objs.size 0 .none := by
    have := Heap.get?_push_size (s.heap.push o) (o := { cls := .type "enumerate", data := .fields #[.none, .bool false, .ref s.heap.objs.size, rawInt 0, .none, .none] }) rfl
    rw [hz] at this; exact this
  refine ⟨⟨_, he, rfl⟩, h _ he (Heap.get?_push_of_some _ (Heap.get?_push_size _ B.free)) (by rw [Heap.size_push, hz]) fun b o x => Heap.get?_push_of_some _ (Heap.get?_push_of_some _ x)⟩
end
end WbS
namespace WbS
open PySem PySem.Spec PyProof.Rows L2
/-- the tuple at a as it stands at each turn, each item in a new pair -/
def IteT (K : PySem.W.Frag) (a : Addr) : It :=
  ⟨fun i H => ∃ (xs : List V) (x : V), SqT K H a xs ∧ xs[i]? = some x, fun i H v H' => ∃ T x, v = .ref T ∧ H T = none ∧ H' = upd H T (.tup [.int (i : Nat), x]) ∧ ∀ xs, SqT K H a xs → xs[i]? = some x, fun i H => ∃ xs : List V, SqT K H a xs ∧ xs.length = i⟩
theorem turn_enumT {P : Program} {w : World} {K : PySem.W.Frag} {elts : List Expr} {kk : Nat} {tpos : Pos} (a e it : Addr) :
    Turn P w K (.Tuple elts kk tpos) (IteT K a) [e, it] e (fun i h => (∃ old, IsEnum h e it ((i : Nat) : Int) old) ∧ h.IsTupleIter it a i ∧ e ≠ it ∧ e ≠ a ∧ a ≠ it) where
  mem := by simp
  obj := fun i h st b hb => by
    obtain ⟨⟨old, he⟩, ⟨o, ho, hc, hd⟩, _⟩ := st
    have e' : b = e ∨ b = it := by simpa using hb
    rcases e' with z | z
    · rw [z]; exact ⟨_, he, fun v q => nomatch q⟩
    · rw [z]; exact ⟨o, ho, fun v q => by rw [hd] at q; cases q⟩
  keep := fun i h h' st k => let ⟨⟨old, he⟩, hi, hne⟩ := st; ⟨⟨old, k e (by simp) _ he⟩, hi.at fun o q => k it (by simp) o q, hne⟩
  item := by
    intro X hP hw hK hc i pins s σ H E I hf st hg
    subst hP hw hK
    obtain ⟨⟨old, he⟩, hit, hne, hea, hai⟩ := st
    obtain ⟨xs, x, hq, hx⟩ := hg
    obtain ⟨its, rv, p, hz⟩ := I.tuple hq
    obtain ⟨u, hu, ru⟩ := rv.get hx
    have hel : e < s.heap.objs.size := Heap.lt_size he
    have hil : it < s.heap.objs.size := by obtain ⟨_, q, _⟩ := hit; exact Heap.lt_size q
    have hlt : i < its.toArray.size := by
      have q := List.getElem?_eq_some_iff.mp hu
      obtain ⟨q, _⟩ := q
      simpa using q
    refine wpAny_pyNext_enum_itemD (Draws.tuple (A := X.A.in1) (I.ok.hd hc) it a hai its.toArray) he ⟨hit, p⟩ hlt hne (by simp [hne, hea]) fun x' h' tk hP ho hit' hT hsz hk => ?_
    obtain rfl : x' = u := by
      have q1 : its.toArray[i]? = some x' := hP
      have q2 : its.toArray[i]? = some u := by simpa using hu
      rw [q1] at q2
      exact Option.some.inj q2
    refine ⟨_, rfl, wpAny_letOwnedTupleGo_enum (s := { s with heap := h', toks := tk + 1 }) ho fun h'' he' sb => ?_⟩
    have hT2 : h''.get? s.heap.objs.size = some { cls := .type "tuple", data := .seq #[.int i tk, x'] } := (sb.2 _ (Nat.ne_of_gt hel)).trans hT
    have new : ObjOk X.prog X.w (upd H s.heap.objs.size (.tup [.int (i : Nat), x])) h'' s.heap.objs.size (.tup [.int (i : Nat), x]) :=
      ⟨by show 2 ≤ sizeLine; decide, [.int i tk, x'], .cons ⟨_, rfl⟩ (.cons ru .nil), ⟨_, hT2, rfl, _, rfl⟩⟩
    have I1 : Inv X pins σ (upd H s.heap.objs.size (.tup [.int (i : Nat), x])) { s with heap := h'', toks := tk + 1 } :=
      I.turnedNew (ch := [e, it]) (fun b ob hb q => (sb.2 b (fun z => hb (by simp [z]))).trans (hk b ob (fun z => hb (by simp [z])) (fun z => hb (by simp [z])) q)) hf (Nat.le_refl _) new
    refine ⟨.ref s.heap.objs.size, _, I1, rfl, ⟨_, x, rfl, I.hok.fresh (Nat.le_refl _), rfl, fun ys hy => by rw [I.tuple_inj hy hq]; exact hx⟩, ⟨⟨x', ?_⟩, hit'.1.at fun o q => (sb.2 it (Ne.symm hne)).trans q, hne, hea, hai⟩, fun b hb => ?_⟩
    · have e1 : ((i + 1 : Nat) : Int) = (i : Int) + 1 := by omega
      rw [e1]; exact he'
    · have hb' : b < s.heap.objs.size := by
        have e' : b = e ∨ b = it := by simpa using hb
        rcases e' with z | z
        · rw [z]; exact hel
        · rw [z]; exact hil
      rw [upd_ne (Nat.ne_of_lt hb')]
      exact (hf b hb).1
  done := by
    intro X hP hw hK hc i pins s σ H E I hf st hg
    subst hP hw hK
    obtain ⟨⟨old, he⟩, hit, hne, hea, hai⟩ := st
    obtain ⟨xs, hq, hx⟩ := hg
    obtain ⟨its, rv, p, hz⟩ := I.tuple hq
    obtain ⟨f0, f1, f2, f3, f4, f5⟩ := hf it (by simp)
    have hl := rv.length
    have en : its.toArray.size = i := by simp; omega
    refine wpAny_pyNext_enum_endD (n := its.toArray.size) (Draws.tuple (A := X.A.in1) (I.ok.hd hc) it a hai its.toArray) he ⟨by rw [en]; exact hit, p⟩ fun h' eb => ⟨rfl, I.turned (t' := s.toks) (fun b o hb q => eb b o hb q) f0 f1 f3 f4 f5⟩
  self := fun A i s Q E st h => let ⟨⟨_, he⟩, _⟩ := st; wpAny_pyIter_enum he h
def iEnumT (K : PySem.W.Frag) (ta : TA) : TI := fun σ H R => ta σ H fun vs H1 => ∃ a xs, vs = [.ref a] ∧ SqT K H1 a xs ∧ R (IteT K a) H1
theorem pi_enumT {X : Cx} {e : Expr} {ta : TA} {p pos tpos : Pos} {elts : List Expr} {kk : Nat} (hg : Gl X "enumerate") (hm : X.mg "enumerate" = none) (ha : PA X [e] ta) (hs : starEach [e] X.env = [(false, eval e X.env)] := by rfl) :
    PI X (.Tuple elts kk tpos) (.Call (.Name "enumerate" p) [e] [] pos) (iEnumT X.K ta) := by
  refine ⟨fun pins s σ H R I h => ?_⟩
  refine Call_ (ld_blt I hg hm boot_enumerate (PyProof.Rows.callWith_type1 (thn (ha.run pos pins s σ H _ I h) fun us s1 ⟨vs, H1, I1, r1, q1⟩ => ?_) hs rfl))
  obtain ⟨a, xs, ex, hq, q⟩ := q1
  subst ex
  cases r1 with
  | cons r rr =>
    cases rr
    cases r
    obtain ⟨its, rv, p', hz⟩ := I1.tuple hq
    have hal : a < s1.heap.objs.size := by obtain ⟨_, q, _⟩ := p'; exact Heap.lt_size q
    refine enum1_begins (begins_tuple a its.toArray) p' fun h' he hit hsz hk => wpAny_pyIter_enum he ?_
    have I2 : Inv X pins σ H1 { s1 with heap := h' } := I1.kept (t' := s1.toks) hk
    refine ⟨s1.heap.objs.size + 1, [s1.heap.objs.size + 1, s1.heap.objs.size], _, _, H1, rfl, I2, turn_enumT a (s1.heap.objs.size + 1) s1.heap.objs.size, ⟨⟨.none, he⟩, ⟨_, hit, rfl, rfl⟩, Nat.succ_ne_self _, Nat.ne_of_gt (Nat.lt_succ_of_lt hal), Nat.ne_of_lt hal⟩, fun b hb => ?_, q⟩
    have e' : b = s1.heap.objs.size + 1 ∨ b = s1.heap.objs.size := by simpa using hb
    have hle : s1.heap.objs.size ≤ b := by
      rcases e' with z | z
      · rw [z]; exact Nat.le_add_right _ _
      · rw [z]; exact Nat.le_refl _
    exact I1.fpOk hle (I1.hok.fresh hle)
theorem walk_enumT {K : PySem.W.Frag} {a : Addr} {xs : List V} : Walk (IteT K a) xs.length (fun H => SqT K H a xs) (YPair (fun i => some (.int (i : Nat))) (fun i => xs[i]?)) := by
  refine ⟨fun i _ hi q => ⟨xs, xs[i], q, by simp [hi]⟩, fun _ q => ⟨xs, q, rfl⟩, fun i H v H' _ q y => ?_⟩
  obtain ⟨T, x, h1, h2, h3, h4⟩ := y
  exact ⟨T, .int (i : Nat), x, h1, h2, h3, rfl, h4 xs q⟩
end WbS
/-! first_wrong of texts and of pairs -/
namespace Wb
open PySem L2 WbMin WbS Lz
abbrev sFirst : Stmt := top 10
/-- tuples that stand -/
def Tups (H : Hp) : List Addr → List (List V) → Prop
  | [], [] => True
  | a :: as, x :: xs => H a = some (.tup x) ∧ Tups H as xs
  | _, _ => False
theorem Tups.length {H : Hp} : ∀ {as : List Addr} {xs : List (List V)}, Tups H as xs → as.length = xs.length
  | [], [], _ => rfl
  | _ :: _, _ :: _, h => congrArg (· + 1) (Tups.length h.2)
  | [], _ :: _, h => h.elim
  | _ :: _, [], h => h.elim
theorem Tups.same {H H' : Hp} (s : Same H H') : ∀ {as : List Addr} {xs : List (List V)}, Tups H as xs → Tups H' as xs
  | [], [], _ => trivial
  | _ :: _, _ :: _, h => ⟨s _ _ h.1, Tups.same s h.2⟩
  | [], _ :: _, h => h.elim
  | _ :: _, [], h => h.elim
theorem Tups.get {H : Hp} : ∀ {as : List Addr} {xs : List (List V)} {i : Nat} {a : Addr} {x : List V}, Tups H as xs → as[i]? = some a → xs[i]? = some x → H a = some (.tup x)
  | [], _, _, _, _, _, h, _ => nomatch h
  | _ :: _, [], _, _, _, h, _, _ => h.elim
  | b :: as, y :: xs, 0, a, x, h, e, f => by
    cases e
    cases f
    exact h.1
  | b :: as, y :: xs, i + 1, a, x, h, e, f => Tups.get h.2 e f
theorem Tups.snoc {H : Hp} {a : Addr} {x : List V} (n : H a = some (.tup x)) : ∀ {as : List Addr} {xs : List (List V)}, Tups H as xs → Tups H (as ++ [a]) (xs ++ [x])
  | [], [], _ => ⟨n, trivial⟩
  | _ :: _, _ :: _, h => ⟨h.1, Tups.snoc n h.2⟩
  | [], _ :: _, h => h.elim
  | _ :: _, [], h => h.elim
theorem Tups.take {H : Hp} : ∀ {as : List Addr} {xs : List (List V)} (i : Nat), Tups H as xs → Tups H (as.take i) (xs.take i)
  | [], [], i, _ => by rw [List.take_nil, List.take_nil]; exact trivial
  | [], _ :: _, _, h => h.elim
  | _ :: _, [], _, h => h.elim
  | _ :: _, _ :: _, 0, _ => trivial
  | _ :: _, _ :: _, i + 1, h => ⟨h.1, Tups.take i h.2⟩
def pV (p : Str × Str) : List V := [.str p.1, .str p.2]
def okP (p : Str × Str) : Prop := PyData.strOk p.1 = true ∧ PyData.strOk p.2 = true
def spFirst : Sp := fun vs H Q _ => ∃ (t L : Addr) (ps : List Str), vs = [.ref t, .ref L] ∧ H t = some (.tup (ps.map V.str)) ∧ H L = some (.lst ((List.replicate ps.length true).map V.bl)) ∧ ps.Nodup ∧ ∀ H', Same H H' → Q .non H'
section
variable {P : Program} {w : World} {K : PySem.W.Frag} {mg : Str → Option Value} {base : Heap} {f : Addr} {fd : FuncData}
theorem scFw : FnScope ["values", "right", "index", "value"] ["values", "right"] (defScope sFirst) := ⟨rfl, rfl, rfl, by decide +kernel, rfl, by decide +kernel, by decide +kernel⟩
theorem ok_first (F : Fun K "first_wrong" "first_wrong" sFirst f fd) (mE : mg "enumerate" = none) : FnOk P w K mg base CX0 1 f fd ["values", "right"] spFirst := by
  refine F.ok scFw (fun vs H Q E h => ?_) (fun cdv A outer s H vs Q E hr h => ?_)
  · obtain ⟨t, L, ps, rfl, _⟩ := h
    rfl
  · obtain ⟨t, L, ps, rfl, ht, hL, nd, k⟩ := h
    refine ⟨_, pss_cons (ps_for PassesOwn.never rfl (pi_enumT (by rfl) mE (pa_cons (pv 0) pa_nil)) (pg_tup (by rfl) (pgs_cons (pg_name (i := 2) scFw.nd rfl (.inl rfl)) (pgs_cons (pg_name (i := 3) scFw.nd rfl (.inl rfl)) pgs_nil)))
        (pss_one (ps_if (PW.pt (pw_or (pt_not (pt_val (pe_ix ix_list (pv 1) (pv 2) (fun _ _ => rfl)))) (pw_or1 (pt_cmpR op_in_seq (pv 3) (pe_slice sl_tup (pv 0) po_none (po_some (pv 2))) (by rfl))))) (pss_one ps_never) pss_nil)))
      (pss_one (ps_ret pe_non)), ?_⟩
    refine ⟨_, rfl, t, _, rfl, SqT.of ht, for_it walk_enumT (fun i σ H' => ∃ v2 v3 : Option V, σ = [some (.ref t), some (.ref L), v2, v3] ∧ Same H H') ⟨none, none, rfl, Same.refl H⟩ (fun _ _ _ _ h => by obtain ⟨_, _, _, h⟩ := h; exact SqT.of (h _ _ ht)) ?_ ?_⟩
    · rintro i x σ H2 H3 hi ⟨v2, v3, rfl, s2⟩ ⟨T, a, b, rfl, hT, rfl, ea, eb⟩
      cases ea
      dsimp only at eb
      rw [List.getElem?_map] at eb
      obtain ⟨z, hz, rfl⟩ := Option.map_eq_some_iff.mp eb
      have hi' : i < ps.length := by rw [List.length_map] at hi; exact hi
      have sT := Same.put (o := .tup [.int (i : Nat), .str z]) s2 hT
      refine ⟨T, _, rfl, SqT.of upd_same, rfl, _, _, rfl, _, _, rfl, rfl, ?_⟩
      refine ⟨_, rfl, _, rfl, L, _, _, .bl true, rfl, rfl, SqL.of (sT _ _ hL), ?_, true, rfl, ?_⟩
      · refine atI_nat ?_
        rw [List.getElem?_map, List.getElem?_replicate, if_pos hi'] <;> rfl
      have ec : cutV (ps.map V.str) none (some ((i : Nat) : Int)) = (ps.take i).map V.str := by
        unfold cutV
        rw [HT.sIx_none, HT.sIx_nat, List.length_map, Nat.min_eq_left (Nat.le_of_lt hi')]
        show (ps.map V.str).take i = _
        rw [List.map_take]
      refine ⟨_, rfl, _, rfl, _, rfl, _, rfl, t, _, rfl, SqT.of (sT _ _ ht), ?_, fun u hu => ?_⟩
      · rintro ⟨_, q⟩
        rw [HT.sIx_nat, List.length_map] at q
        omega
      · rw [ec]
        refine ⟨u, _, rfl, .inr (SqT.of upd_same), rfl, flat_strs _, _, rfl, ?_⟩
        have no : inV (.str z) ((ps.take i).map V.str) = false := by
          rw [inV_strs]
          exact decide_eq_false (take_nd nd hz)
        show if inV (.str z) ((ps.take i).map V.str) = true then _ else _
        rw [no, if_neg Bool.false_ne_true]
        exact ⟨_, _, rfl, Same.put sT hu⟩
    · rintro σ H2 ⟨v2, v3, rfl, s2⟩
      exact k H2 s2
end
end Wb
/-! the parts of a loop, checked -/
namespace Wb
open PySem L2 WbMin WbS Lz
/-- the names of states -/
structure Sts (st : List Str) : Prop where
  of : ∀ z ∈ st, ∃ l, z = S l ∧ IsNm l
  nd : st.Nodup
  pos : 0 < st.length
  few : st.length ≤ 6
/-- a row of a loop: state, sign, next state, amount -/
structure Row where
  a : Str
  c : Nat
  b : Str
  m : Int
def Row.v (r : Row) : List V := [.str r.a, .str (S [r.c]), .str r.b, .int r.m]
def Row.k (r : Row) : Str × Str := (r.a, S [r.c])
/-- a turn: state, next state, amount -/
structure Trn where
  a : Str
  b : Str
  m : Int
def Trn.v (r : Trn) : List V := [.str r.a, .str r.b, .int r.m]
section
variable {P : Program} {w : World} {K : PySem.W.Frag} {mg : Str → Option Value} {base : Heap} {f fN fF fS fO fI fR : Addr} {fd dN dF dS dO dI dR : FuncData}
end
end Wb
/-! the rows of a loop, checked -/
namespace Wb
open PySem L2 WbMin WbS Lz
theorem Tups.upd {H : Hp} {D : Addr} {o : HO} : ∀ {as : List Addr} {xs : List (List V)}, (∀ c ∈ as, c ≠ D) → Tups H as xs → Tups (L2.upd H D o) as xs
  | [], [], _, _ => trivial
  | a :: as, _ :: _, n, h => ⟨(upd_ne (n a List.mem_cons_self)).trans h.1, Tups.upd (fun c q => n c (List.mem_cons_of_mem _ q)) h.2⟩
  | [], _ :: _, _, h => h.elim
  | _ :: _, [], _, h => h.elim
section
variable {P : Program} {w : World} {K : PySem.W.Frag} {mg : Str → Option Value} {base : Heap} {f fN fF fS fO fI fR : Addr} {fd dN dF dS dO dI dR : FuncData}
end
end Wb
/-! the parts of a loop, put in order -/
namespace Wb
open PySem L2 WbMin WbS Lz
section
variable {κ : Type} [DecidableEq κ]
end
theorem un2 {k : Nat} {A : Around} (r : Room k A) : A.units + 1 < cLine := by have := r.un; omega
/-- keys of a dict -/
def kk (p : Str × Str) : List Key := [.inr p.1, .inr p.2]
theorem kk_inj {p q : Str × Str} (h : kk p = kk q) : p = q := by
  cases p
  cases q
  injection h with h1 h2
  injection h2 with h2 _
  injection h1 with h1
  injection h2 with h2
  dsimp only at h1 h2
  subst h1
  subst h2
  rfl
theorem it_go {J : It} {n : Nat} {G : Hp → Prop} {Y : Nat → Hp → V → Hp → Prop} (w : Walk J n G Y) (Pv : Nat → Hp → Prop) {H0 : Hp} {Qd : Hp → Prop} {body : V → Hp → (Hp → Prop) → Prop} (h0 : Pv 0 H0) (hl : ∀ i H, i ≤ n → Pv i H → G H)
    (hs : ∀ i x H H', i < n → Pv i H → Y i H x H' → body x H' (Pv (i + 1))) (hd : ∀ H, Pv n H → Qd H) :
    ∃ W : Nat → Nat → Hp → Prop, (∃ m, W 0 m H0) ∧ ∀ i m H, W i m H → (J.stop i H ∧ Qd H) ∨ (J.go i H ∧ ∃ Nx : Hp → Prop, (∀ H', Nx H' → ∃ m', m' < m ∧ W (i + 1) m' H') ∧ ∀ x H', J.yld i H x H' → body x H' Nx) := by
  refine ⟨fun i m H => m = n - i ∧ i ≤ n ∧ Pv i H, ⟨n, by simp, Nat.zero_le _, h0⟩, ?_⟩
  rintro i m H ⟨rfl, hi, p⟩
  have q := hl i H hi p
  by_cases hlt : i < n
  · exact .inr ⟨w.goes i H hlt q, Pv (i + 1), fun H' p' => ⟨n - (i + 1), by omega, rfl, hlt, p'⟩, fun x H' y => hs i x H H' hlt p (w.yields i H x H' hlt q y)⟩
  · have e : i = n := by omega
    subst e
    exact .inl ⟨w.stops H q, hd H p⟩
section
variable {P : Program} {w : World} {K : PySem.W.Frag} {mg : Str → Option Value} {base : Heap} {f : Addr} {fd : FuncData}
end
end Wb
/-! turns and yes states, put in order -/
namespace Wb
open PySem L2 WbMin WbS Lz
/-- the key that a text is -/
def k1 (z : Str) : Key := .inr z
theorem k1_inj {p q : Str} (h : k1 p = k1 q) : p = q := by
  injection h
section
variable {P : Program} {w : World} {K : PySem.W.Frag} {mg : Str → Option Value} {base : Heap} {f : Addr} {fd : FuncData}
end
end Wb
/-! a loop in numbers -/
namespace Wb
open PySem L2 WbMin WbS Lz
/-- a loop: signs, names of states, next states, amounts, turns, their amounts, yes states -/
structure LD where
  sg : List Nat
  st : List Str
  nx : Nat → Nat → Nat
  am : Nat → Nat → Int
  tn : Nat → Nat
  ta : Nat → Int
  ys : Nat → Bool
def LD.n (L : LD) : Nat := L.st.length
def LD.nm (L : LD) (i : Nat) : Str := L.st.getD i (S [])
structure LD.Ok (L : LD) : Prop where
  sgs : Sgs L.sg
  sts : Sts L.st
  nxlt : ∀ i c, i < L.n → c ∈ L.sg → L.nx i c < L.n
  tnlt : ∀ i, i < L.n → L.tn i < L.n
def LD.row (L : LD) (i c : Nat) : Row := ⟨L.nm i, c, L.nm (L.nx i c), L.am i c⟩
def LD.rows (L : LD) : List Row := (List.range L.n).flatMap fun i => L.sg.map (L.row i)
def LD.turn (L : LD) (i : Nat) : Trn := ⟨L.nm i, L.nm (L.tn i), L.ta i⟩
def LD.turns (L : LD) : List Trn := (List.range L.n).map L.turn
def LD.yes (L : LD) : List Str := ((List.range L.n).filter L.ys).map L.nm
/-- what a row of a loop reads -/
def RowAt (H : Hp) (q : Addr) (L : LD) : Prop := ∃ (t r u y : Addr) (as bs : List Addr), H q = some (.tup [.str (S L.sg), .ref t, .ref r, .ref u, .ref y]) ∧ H t = some (.tup (L.st.map V.str)) ∧ H r = some (.tup (as.map V.ref)) ∧ Tups H as (L.rows.map Row.v) ∧ H u = some (.tup (bs.map V.ref)) ∧ Tups H bs (L.turns.map Trn.v) ∧ H y = some (.tup (L.yes.map V.str))
def tf (dN dX dA tX tA tY : Addr) : List (Str × V) := putF "says" (.ref tY) (putF "turn_amounts" (.ref tA) (putF "turn_nexts" (.ref tX) (putF "amounts" (.ref dA) (putF "nexts" (.ref dX) (putF "number" (.ref dN) [])))))
def kS (c : Nat) : Key := .inr (S [c])
/-- the table stands -/
def TableAt (C : Addr) (H : Hp) (r : Addr) (L : LD) : Prop := ∃ (dx dN dX dA tX tA tY : Addr) (xs as : List Addr), H r = some (.ins C dx (tf dN dX dA tX tA tY)) ∧
  H dX = some (.dK ((L.sg.map kS).zip (xs.map V.ref))) ∧ Tups H xs (L.sg.map fun c => (List.range L.n).map fun i => V.int (L.nx i c : Nat)) ∧
  H dA = some (.dK ((L.sg.map kS).zip (as.map V.ref))) ∧ Tups H as (L.sg.map fun c => (List.range L.n).map fun i => V.int (L.am i c)) ∧
  H tX = some (.tup ((List.range L.n).map fun i => V.int (L.tn i : Nat))) ∧ H tA = some (.tup ((List.range L.n).map fun i => V.int (L.ta i))) ∧ H tY = some (.tup ((List.range L.n).map fun i => V.bl (L.ys i)))
/-! ### the mathematics of rows -/
theorem nm_at {L : LD} {j : Nat} (h : j < L.n) : L.st[j]? = some (L.nm j) := by
  unfold LD.nm
  rw [List.getD_eq_getElem?_getD, List.getElem?_eq_getElem h] <;> rfl
/-- the parts of a row stand -/
structure Prt (L : LD) (t rr u y : Addr) (as bs : List Addr) (H : Hp) : Prop where
  ht : H t = some (.tup (L.st.map V.str))
  hr : H rr = some (.tup (as.map V.ref))
  hT : Tups H as (L.rows.map Row.v)
  hu : H u = some (.tup (bs.map V.ref))
  hU : Tups H bs (L.turns.map Trn.v)
  hy : H y = some (.tup (L.yes.map V.str))
theorem Tups.but {H H' : Hp} {p : Addr} {o : HO} (no : ∀ x, o ≠ .tup x) (hp : H p = some o) (s : But p H H') : ∀ {as : List Addr} {xs : List (List V)}, Tups H as xs → Tups H' as xs
  | [], [], _ => trivial
  | a :: _, x :: _, h => ⟨s _ _ (ne_of h.1 hp fun e => no x e.symm) h.1, Tups.but no hp s h.2⟩
  | [], _ :: _, h => h.elim
  | _ :: _, [], h => h.elim
theorem Prt.but {L : LD} {t rr u y : Addr} {as bs : List Addr} {H H' : Hp} {p : Addr} {o : HO} (no : ∀ x, o ≠ .tup x) (hp : H p = some o) (s : But p H H') (h : Prt L t rr u y as bs H) : Prt L t rr u y as bs H' :=
  ⟨s _ _ (ne_of h.ht hp fun e => no _ e.symm) h.ht, s _ _ (ne_of h.hr hp fun e => no _ e.symm) h.hr, h.hT.but no hp s, s _ _ (ne_of h.hu hp fun e => no _ e.symm) h.hu, h.hU.but no hp s, s _ _ (ne_of h.hy hp fun e => no _ e.symm) h.hy⟩
theorem Prt.same {L : LD} {t rr u y : Addr} {as bs : List Addr} {H H' : Hp} (s : Same H H') (h : Prt L t rr u y as bs H) : Prt L t rr u y as bs H' :=
  ⟨s _ _ h.ht, s _ _ h.hr, h.hT.same s, s _ _ h.hu, h.hU.same s, s _ _ h.hy⟩
section
variable {P : Program} {w : World} {K : PySem.W.Frag} {mg : Str → Option Value} {base : Heap} {f C : Addr} {fd : FuncData}
end
end Wb
/-! one round by the table -/
namespace Wb
open PySem L2 WbMin WbS Lz
def LD.stp (L : LD) (p : Nat × Int) (c : Nat) : Nat × Int := (L.nx p.1 c, p.2 + L.am p.1 c)
def LD.wk (L : LD) (w : List Nat) (i : Nat) : Nat × Int := w.foldl L.stp (i, 0)
def LD.gone (L : LD) (w : List Nat) (i : Nat) : Nat × Int := (L.tn (L.wk w i).1, (L.wk w i).2 + L.ta (L.wk w i).1)
theorem wk_lt {L : LD} (O : L.Ok) {i : Nat} (hi : i < L.n) : ∀ {w : List Nat}, (∀ c ∈ w, c ∈ L.sg) → (L.wk w i).1 < L.n := by
  intro w
  unfold LD.wk
  have gen : ∀ (w : List Nat) (p : Nat × Int), p.1 < L.n → (∀ c ∈ w, c ∈ L.sg) → (w.foldl L.stp p).1 < L.n := by
    intro w
    induction w with
    | nil => exact fun p h _ => h
    | cons c w ih => exact fun p h hw => ih _ (O.nxlt _ _ h (hw c List.mem_cons_self)) fun d hd => hw d (List.mem_cons_of_mem _ hd)
  exact fun hw => gen w (i, 0) hi hw
theorem gone_lt {L : LD} (O : L.Ok) {i : Nat} (hi : i < L.n) {w : List Nat} (hw : ∀ c ∈ w, c ∈ L.sg) : (L.gone w i).1 < L.n := O.tnlt _ (wk_lt O hi hw)
theorem TableAt.same {C : Addr} {H H' : Hp} {r : Addr} {L : LD} (s : Same H H') (h : TableAt C H r L) : TableAt C H' r L := by
  obtain ⟨dx, dN, dX, dA, tX, tA, tY, xs, as, h0, hX, hx, hA, ha, hTX, hTA, hTY⟩ := h
  exact ⟨dx, dN, dX, dA, tX, tA, tY, xs, as, s _ _ h0, s _ _ hX, hx.same s, s _ _ hA, ha.same s, s _ _ hTX, s _ _ hTA, s _ _ hTY⟩
theorem TableAt.but {C D : Addr} {H H' : Hp} {r tb dx : Addr} {fs : List (Str × V)} {L : LD} (h : TableAt C H tb L) (n : tb ≠ r) (hr : H r = some (.ins D dx fs)) (s : But r H H') : TableAt C H' tb L := by
  obtain ⟨dx, dN, dX, dA, tX, tA, tY, xs, as, h0, hX, hx, hA, ha, hTX, hTA, hTY⟩ := h
  exact ⟨dx, dN, dX, dA, tX, tA, tY, xs, as, s _ _ n h0, s _ _ (ne_of hX hr (by intro q; cases q)) hX, hx.but (fun x => by intro q; cases q) hr s, s _ _ (ne_of hA hr (by intro q; cases q)) hA, ha.but (fun x => by intro q; cases q) hr s, s _ _ (ne_of hTX hr (by intro q; cases q)) hTX, s _ _ (ne_of hTA hr (by intro q; cases q)) hTA, s _ _ (ne_of hTY hr (by intro q; cases q)) hTY⟩
section
variable {P : Program} {w : World} {K : PySem.W.Frag} {mg : Str → Option Value} {base : Heap} {f C : Addr} {fd : FuncData}
end
end Wb
/-! where a map leads, again and again -/
namespace Wb
open PySem L2 WbMin WbS Lz
/-- the state behind m rounds -/
def it (g : Nat → Nat) : Nat → Nat
  | 0 => 0
  | m + 1 => g (it g m)
theorem it_lt {g : Nat → Nat} {n : Nat} (h0 : 0 < n) (h : ∀ i, i < n → g i < n) : ∀ m, it g m < n
  | 0 => h0
  | m + 1 => h _ (it_lt h0 h m)
theorem it_add {g : Nat → Nat} {a b : Nat} (h : it g a = it g b) : ∀ d, it g (a + d) = it g (b + d)
  | 0 => h
  | d + 1 => congrArg g (it_add h d)
/-- what a course knows: k states, those from h on come again -/
structure Crs (g : Nat → Nat) (n k h : Nat) : Prop where
  lt : h < k
  le : k ≤ n
  eq : it g k = it g h
  nd : ∀ i j, i < j → j < k → it g i ≠ it g j
theorem Crs.mul {g : Nat → Nat} {n k h : Nat} (c : Crs g n k h) : ∀ (q m : Nat), h ≤ m → it g (m + q * (k - h)) = it g m
  | 0, m, _ => by rw [Nat.zero_mul, Nat.add_zero]
  | q + 1, m, hm => by
    have e : m + (q + 1) * (k - h) = k + (m - h + q * (k - h)) := by
      have := c.lt
      rw [Nat.add_mul]
      omega
    rw [e, it_add c.eq, show h + (m - h + q * (k - h)) = m + q * (k - h) by omega, Crs.mul c q m hm]
theorem Crs.place {g : Nat → Nat} {n k h m : Nat} (c : Crs g n k h) (hm : k ≤ m) : h + (m - h) % (k - h) < k ∧ it g (h + (m - h) % (k - h)) = it g m := by
  have lt := c.lt
  have pos : 0 < k - h := by omega
  have := Nat.mod_lt (m - h) pos
  refine ⟨by omega, ?_⟩
  have e := c.mul ((m - h) / (k - h)) (h + (m - h) % (k - h)) (by omega)
  have d := Nat.mod_add_div (m - h) (k - h)
  rw [Nat.mul_comm] at d
  rw [← e]
  congr 1
  omega
def nat (g : Nat → Nat) (k : Nat) : List V := (List.range k).map fun m => V.int (it g m : Nat)
def cf (p : Addr) (h k : Nat) : List (Str × V) := putF "again" (.int ((k : Int) - (h : Int))) (putF "head" (.int (h : Nat)) (putF "path" (.ref p) []))
/-- the course stands -/
def CourseAt (C : Addr) (H : Hp) (r : Addr) (g : Nat → Nat) (k h : Nat) : Prop := ∃ dx p, H r = some (.ins C dx (cf p h k)) ∧ H p = some (.lst (nat g k))
theorem CourseAt.same {C : Addr} {H H' : Hp} {r : Addr} {g : Nat → Nat} {k h : Nat} (s : Same H H') : CourseAt C H r g k h → CourseAt C H' r g k h := fun ⟨dx, p, a, b⟩ => ⟨dx, p, s _ _ a, s _ _ b⟩
section
variable {X : Cx}
end
section
variable {P : Program} {w : World} {K : PySem.W.Frag} {mg : Str → Option Value} {base : Heap} {f fP C : Addr} {fd dP : FuncData}
end
end Wb
/-! sorted texts: one order alone -/
namespace Wb
open PySem L2 WbMin WbS
theorem not_lt_trans {a b c : List Nat} (h1 : ¬ b < a) (h2 : ¬ c < b) : ¬ c < a := fun q => by
  have h1' : a ≤ b := h1
  have h2' : b ≤ c := h2
  exact List.le_trans h1' h2' q
def leS (a b : Str) : Prop := ¬ b.cps.toList < a.cps.toList
theorem leS_trans {a b c : Str} (h1 : leS a b) (h2 : leS b c) : leS a c := not_lt_trans h1 h2
theorem lt_of_ltCps {a b : List Nat} : PySem.Spec.ltCps a b = false ↔ ¬ a < b := by
  rw [PyProof.Rows.ltCps_eq, decide_eq_false_iff_not]
theorem rising_pw : ∀ (l : List Str) (p : Str), PyProof.Rows.risingS p l = true → (p :: l).Pairwise leS
  | [], p, _ => List.pairwise_singleton _ _
  | x :: r, p, h => by
    have h' : (!PySem.Spec.ltCps x.cps.toList p.cps.toList && PyProof.Rows.risingS x r) = true := h
    rw [Bool.and_eq_true, Bool.not_eq_true'] at h'
    have px : leS p x := lt_of_ltCps.mp h'.1
    have ih := rising_pw r x h'.2
    refine List.pairwise_cons.mpr ⟨fun y hy => ?_, ih⟩
    rcases List.mem_cons.mp hy with rfl | hy
    · exact px
    · exact leS_trans px ((List.pairwise_cons.mp ih).1 y hy)
theorem sorted_pw : ∀ {l : List Str}, PyProof.Rows.sortedS l = true → l.Pairwise leS
  | [], _ => .nil
  | x :: r, h => rising_pw r x h
theorem pw_sorted {l : List Str} (h : l.Pairwise leS) : PyProof.Rows.sortedS l = true :=
  PyProof.Rows.sortedS_of_pairwise l (h.imp fun {a b} q => lt_of_ltCps.mpr q)
theorem leS_anti {a b : Str} (h1 : leS a b) (h2 : leS b a) : a = b := by
  have e : a.cps.toList = b.cps.toList := List.le_antisymm h1 h2
  rw [← S_of a, ← S_of b, e]
theorem sort_unique : ∀ {ys zs : List Str}, ys.Pairwise leS → zs.Pairwise leS → ys.Perm zs → ys = zs
  | [], zs, _, _, p => (List.Perm.nil_eq p)
  | y :: r, [], _, _, p => by cases List.Perm.eq_nil p
  | y :: r, z :: t, h1, h2, p => by
    have my : y ∈ z :: t := p.mem_iff.mp List.mem_cons_self
    have mz : z ∈ y :: r := p.mem_iff.mpr List.mem_cons_self
    have e : y = z := by
      rcases List.mem_cons.mp my with e | my
      · exact e
      · rcases List.mem_cons.mp mz with e | mz
        · exact e.symm
        · exact leS_anti ((List.pairwise_cons.mp h1).1 z mz) ((List.pairwise_cons.mp h2).1 y my)
    subst e
    rw [sort_unique (List.pairwise_cons.mp h1).2 (List.pairwise_cons.mp h2).2 (List.Perm.cons_inv p)]
/-- two sorted orders of the same texts -/
theorem sorted_same {ys zs : List Str} (h1 : PyProof.Rows.sortedS ys = true) (h2 : PyProof.Rows.sortedS zs = true) (p : ys.Perm zs) : ys = zs := sort_unique (sorted_pw h1) (sorted_pw h2) p
theorem perm_codes {ys : List Str} {l : List Nat} (h : ys.Perm (l.map sOne)) : ∃ m : List Nat, m.Perm l ∧ ys = m.map sOne := by
  have dec : ∀ c, (sOne c).cps.getD 0 0 = c := fun c => rfl
  refine ⟨ys.map fun z => z.cps.getD 0 0, ?_, ?_⟩
  · have q := h.map fun z => z.cps.getD 0 0
    rw [List.map_map, show (fun z : Str => z.cps.getD 0 0) ∘ sOne = id from funext dec, List.map_id] at q
    exact q
  · rw [List.map_map]
    have q : ∀ y ∈ ys, (sOne ∘ fun z : Str => z.cps.getD 0 0) y = y := fun y hy => by
      obtain ⟨c, _, rfl⟩ := List.mem_map.mp (h.mem_iff.mp hy)
      rfl
    exact (List.map_id' ys ▸ List.map_congr_left q).symm
theorem map_one {a b : List Nat} (h : a.map sOne = b.map sOne) : a = b := by
  have dec : ∀ l : List Nat, (l.map sOne).map (fun z : Str => z.cps.getD 0 0) = l := fun l => by
    rw [List.map_map, show (fun z : Str => z.cps.getD 0 0) ∘ sOne = id from funext fun _ => rfl, List.map_id]
  rw [← dec a, h, dec]
theorem sg_same {a b c : List Nat} (h1 : PyProof.Rows.sortedS (a.map sOne) = true) (h2 : PyProof.Rows.sortedS (b.map sOne) = true) (p1 : a.Perm c) (p2 : b.Perm c) : a = b :=
  map_one (sorted_same h1 h2 ((p1.trans p2.symm).map sOne))
theorem Sgs.perm {a b : List Nat} (h : Sgs b) (p : a.Perm b) : Sgs a := ⟨fun c hc => h.low c (p.mem_iff.mp hc), p.nodup_iff.mpr h.nd, by rw [p.length_eq]; exact h.pos, by rw [p.length_eq]; exact h.few⟩
end Wb
/-! a loop is made -/
namespace Wb
open PySem L2 WbMin WbS Lz
def lf (z : Str) (t rr u y tb : Addr) : List (Str × V) := putF "_table" (.ref tb) (putF "_yes" (.ref y) (putF "_turns" (.ref u) (putF "_rows" (.ref rr) (putF "_states" (.ref t) (putF "_signs" (.str z) [])))))
/-- a loop stands at r: its class C, its table's class T -/
def LoopAt (C T : Addr) (H : Hp) (r : Addr) (L : LD) : Prop := ∃ (dx t rr u y tb : Addr) (as bs : List Addr), H r = some (.ins C dx (lf (S L.sg) t rr u y tb)) ∧ Prt L t rr u y as bs H ∧ TableAt T H tb L
theorem LoopAt.same {C T : Addr} {H H' : Hp} {r : Addr} {L : LD} (s : Same H H') : LoopAt C T H r L → LoopAt C T H' r L := fun ⟨dx, t, rr, u, y, tb, as, bs, a, b, c⟩ => ⟨dx, t, rr, u, y, tb, as, bs, s _ _ a, b.same s, c.same s⟩
structure LA where
  (C T O fI fW fAn fSt fTx fGo fOf pW tI tG cI cP cB : Addr)
  (dI dW dAn dSt dTx dGo dOf etI etG ecI ecP ecB : FuncData)
  (signs signof first isword isname isint intfrom stateof rowof turnof chst chro chtu chye orro ortu orye : Addr)
  (dsigns dsignof dfirst disword disname disint dintfrom dstateof drowof dturnof dchst dchro dchtu dchye dorro dortu dorye : FuncData)
/-! ### the mathematics -/
end Wb
/-! a loop is made: the defs -/
namespace Wb
open PySem L2 WbMin WbS Lz
theorem Prt.row {L : LD} {t rr u y q : Addr} {as bs : List Addr} {H : Hp} (h : Prt L t rr u y as bs H) (e : H q = some (.tup [.str (S L.sg), .ref t, .ref rr, .ref u, .ref y])) : RowAt H q L :=
  ⟨t, rr, u, y, as, bs, e, h.ht, h.hr, h.hT, h.hu, h.hU, h.hy⟩
section
variable {P : Program} {w : World} {K : PySem.W.Frag} {mg : Str → Option Value} {base : Heap} {A : LA} {e : Addr}
end
end Wb
/-! a loop is asked -/
namespace Wb
open PySem L2 WbMin WbS Lz
/-- where a round leads, and its count -/
def LD.lead (L : LD) (w : List Nat) (i : Nat) : Nat := (L.gone w i).1
def LD.cnt (L : LD) (w : List Nat) (i : Nat) : Int := (L.gone w i).2
theorem lf_none (z : Str) (t rr u y tb : Addr) : (lf z t rr u y tb).lookup ("_check_text" : Str) = none ∧ (lf z t rr u y tb).lookup ("_gone" : Str) = none ∧ (lf z t rr u y tb).lookup ("_answer_of" : Str) = none ∧ (lf z t rr u y tb).lookup ("answer" : Str) = none ∧ (lf z t rr u y tb).lookup ("state" : Str) = none := by
  unfold lf
  refine ⟨?_, ?_, ?_, ?_, ?_⟩ <;> (repeat rw [lookup_putF, if_neg (by decide +kernel)]) <;> rfl
section
variable {P : Program} {w : World} {K : PySem.W.Frag} {mg : Str → Option Value} {base : Heap} {A : LA} {e : Addr} {f fI : Addr} {fd dI : FuncData}
end
end Wb
/-! the ways of a statement, an expression and a test brought together -/
namespace Lz
open PySem PySem.Spec PyProof.Rows L2
section
variable {X : Cx}
def tJoin (t : TS) : TS := fun D σ H => ∃ T : L2.St → Hp → Prop, t { D with nx := T } σ H ∧ ∀ σ' H', T σ' H' → D.nx σ' H'
theorem ps_join {st : Stmt} {t : TS} (h : PS X st t) : PS X st (tJoin t) := by
  refine ⟨fun pins s σ H D I ⟨T, q, k⟩ => thn (h.run pins s σ H _ I q) fun f s' z => ?_⟩
  cases f with
  | next => obtain ⟨σ', H', I', w⟩ := z; exact ⟨σ', H', I', k _ _ w⟩
  | ret u => exact z
  | brk => exact z
  | cont => exact z
end
end Lz
namespace Wb
open PySem L2 WbMin WbS Lz
theorem pool_ne {H : Hp} {p F : Addr} {zs : List Str} (hp : PoolAt H p) (h : H F = some (.lst (zs.map V.str))) : F ≠ p := by
  obtain ⟨x, y, z, e3, _⟩ := hp
  intro q
  subst q
  rw [e3] at h
  injection h with q
  injection q with q
  cases zs with
  | nil => cases q
  | cons a zs => cases q
theorem nat_of {d : Int} (h : 0 ≤ d) : ∃ n : Nat, d = (n : Int) := ⟨d.toNat, (Int.toNat_of_nonneg h).symm⟩
def marks : List Nat := abc ++ (List.range 10).map (· + 48)
theorem eqv_nil {α : Type} (f : α → PyData) : ∀ zs : List α, PyData.eqv (.list (zs.map f)) (.list []) = zs.isEmpty
  | [] => rfl
  | _ :: _ => rfl
theorem dp_strs {K : PySem.W.Frag} {H : Hp} : ∀ zs : List Str, DpAll K H (zs.map V.str) (zs.map PyData.str)
  | [] => .nil
  | z :: r => .cons (.str z) (dp_strs r)
theorem can_strs : ∀ {zs : List Str}, (∀ z ∈ zs, PyData.strOk z = true) → PyData.canLayAll0 (zs.map PyData.str) = true
  | [], _ => rfl
  | z :: r, h => by
    show (PyData.strOk z && PyData.canLayAll0 (r.map PyData.str)) = true
    rw [h z List.mem_cons_self, can_strs fun y q => h y (List.mem_cons_of_mem _ q)] <;> rfl
theorem shaped_strs {zs : List Str} (h : ∀ z ∈ zs, PyData.strOk z = true) : SeqAt.shaped (.list (zs.map PyData.str)) = true := by
  have d : PyData.depth (.list (zs.map PyData.str)) = 1 := by
    show PyData.depthAll (zs.map PyData.str) + 1 = 1
    rw [depthAll_strs]
  unfold SeqAt.shaped
  rw [d]
  show (PyData.canLayAll0 (zs.map PyData.str) && decide (1 ≤ 64)) = true
  rw [can_strs h] <;> rfl
theorem ok_codes {l : List Nat} (h : ∀ c ∈ l, c < 1000) : PyData.strOk (S l) = true := by
  unfold PyData.strOk
  rw [Array.all_eq_true]
  intro i hi
  have m : (S l).cps[i] ∈ l := by
    have q : (S l).cps[i] ∈ (S l).cps.toList := Array.mem_toList_iff.mpr (Array.getElem_mem hi)
    rwa [S_cps] at q
  have q := h _ m
  simp only [decide_eq_true_eq]
  omega
theorem IsNm.low {l : List Nat} (h : IsNm l) : ∀ c ∈ l, c < 1000 := fun c hc => by
  have := h.ok c hc
  omega
/-- the spare names -/
def spare : List Str := (marks.take 9).map fun c => S [122, c]
section
variable {P : Program} {w : World} {K : PySem.W.Frag} {mg : Str → Option Value} {base : Heap} {f fD fN : Addr} {fd fdD dN : FuncData}
end
end Wb
/-! drawn names and amounts -/
namespace Wb
open PySem L2 WbMin WbS Lz
section
variable {P : Program} {w : World} {K : PySem.W.Frag} {mg : Str → Option Value} {base : Heap} {f fD fN : Addr} {fd fdD dN : FuncData}
end
end Wb
/-! a model of a loop is drawn -/
namespace Wb
open PySem L2 WbMin WbS Lz
/-- what stands at a state and a sign, at a state -/
def Entry2 (H : Hp) (kvs : List (List Key × V)) (z : Str) (c : Nat) (y : Str) (m : Int) : Prop := ∃ t, valV kvs (kk (z, S [c])) = some (.ref t) ∧ H t = some (.tup [.str y, .int m])
def Entry1 (H : Hp) (kvs : List (Key × V)) (z y : Str) (m : Int) : Prop := ∃ t, valV kvs (k1 z) = some (.ref t) ∧ H t = some (.tup [.str y, .int m])
/-- tuples stay -/
def Tk (H H' : Hp) : Prop := ∀ b x, H b = some (.tup x) → H' b = some (.tup x)
theorem Tk.refl (H : Hp) : Tk H H := fun _ _ h => h
theorem Tk.trans {H H1 H2 : Hp} (a : Tk H H1) (b : Tk H1 H2) : Tk H H2 := fun c x h => b c x (a c x h)
theorem Tk.of {H H' : Hp} (s : Same H H') : Tk H H' := fun b _ h => s b _ h
theorem pool_other {H : Hp} {p b : Addr} {o : HO} (hp : PoolAt H p) (h : H b = some o) (n : ∀ x y z : Int, o ≠ .lst [.int x, .int y, .int z]) : b ≠ p := by
  obtain ⟨x, y, z, e, _⟩ := hp
  intro q
  subst q
  rw [e] at h
  exact n x y z (Option.some.inj h).symm
theorem Tk.but {H H' : Hp} {p : Addr} (hp : PoolAt H p) (s : But p H H') : Tk H H' := fun b x h => s b _ (pool_other hp h (fun _ _ _ q => by cases q)) h
theorem Tk.put {H : Hp} {S : Addr} {o o' : HO} (h : H S = some o) (n : ∀ x, o ≠ .tup x) : Tk H (L2.upd H S o') := fun b x e => by
  rw [upd_ne (ne_of e h (n x).symm)]
  exact e
theorem Tk.new {H : Hp} {S : Addr} {o' : HO} (h : H S = none) : Tk H (L2.upd H S o') := fun b x e => by
  rw [upd_ne (ne_of_none e h)]
  exact e
theorem Entry2.tk {H H' : Hp} {kvs : List (List Key × V)} {z y : Str} {c : Nat} {m : Int} (s : Tk H H') : Entry2 H kvs z c y m → Entry2 H' kvs z c y m := fun ⟨t, a, b⟩ => ⟨t, a, s _ _ b⟩
theorem Entry1.tk {H H' : Hp} {kvs : List (Key × V)} {z y : Str} {m : Int} (s : Tk H H') : Entry1 H kvs z y m → Entry1 H' kvs z y m := fun ⟨t, a, b⟩ => ⟨t, a, s _ _ b⟩
/-- a model of a loop stands: letters, states, steps, ends, yes states -/
def MdAt (H : Hp) (q : Addr) (L : LD) : Prop := ∃ (A Sd Ed O : Addr) (kvs : List (List Key × V)) (ws : List (Key × V)), H q = some (.lst [.str (S L.sg), .ref A, .ref Sd, .ref Ed, .ref O]) ∧ H A = some (.lst (L.st.map V.str)) ∧ H Sd = some (.dT kvs) ∧ H Ed = some (.dK ws) ∧
  (∀ i c, i < L.n → c ∈ L.sg → Entry2 H kvs (L.nm i) c (L.nm (L.nx i c)) (L.am i c)) ∧ (∀ i, i < L.n → Entry1 H ws (L.nm i) (L.nm (L.tn i)) (L.ta i)) ∧ H O = some (.lst (L.yes.map V.str))
theorem MdAt.but {H H' : Hp} {p q : Addr} {L : LD} (hp : PoolAt H p) (s : But p H H') : MdAt H q L → MdAt H' q L := fun ⟨A, Sd, Ed, O, kvs, ws, h0, hA, hS, hE, e2, e1, hO⟩ =>
  have tk := Tk.but hp s
  ⟨A, Sd, Ed, O, kvs, ws, s _ _ (pool_other hp h0 fun _ _ _ q => by cases q) h0, s _ _ (pool_ne hp hA) hA, s _ _ (pool_other hp hS fun _ _ _ q => by cases q) hS, s _ _ (pool_other hp hE fun _ _ _ q => by cases q) hE,
    fun i c hi hc => (e2 i c hi hc).tk tk, fun i hi => (e1 i hi).tk tk, s _ _ (pool_ne hp hO) hO⟩
theorem MdAt.same {H H' : Hp} {q : Addr} {L : LD} (s : Same H H') : MdAt H q L → MdAt H' q L := fun ⟨A, Sd, Ed, O, kvs, ws, h0, hA, hS, hE, e2, e1, hO⟩ =>
  ⟨A, Sd, Ed, O, kvs, ws, s _ _ h0, s _ _ hA, s _ _ hS, s _ _ hE, fun i c hi hc => (e2 i c hi hc).tk (Tk.of s), fun i hi => (e1 i hi).tk (Tk.of s), s _ _ hO⟩
/-- amounts that are not too great -/
structure LD.Small (L : LD) : Prop where
  am : ∀ i c, i < L.n → c ∈ L.sg → (L.am i c).natAbs < 2 ^ 110
  ta : ∀ i, i < L.n → (L.ta i).natAbs < 2 ^ 110
/-- drawn amounts are smaller yet: two of them together are small -/
structure LD.Tiny (L : LD) : Prop where
  am : ∀ i c, i < L.n → c ∈ L.sg → (L.am i c).natAbs < 2 ^ 100
  ta : ∀ i, i < L.n → (L.ta i).natAbs < 2 ^ 100
theorem LD.Tiny.small {L : LD} (t : L.Tiny) : L.Small := ⟨fun i c hi hc => Nat.lt_trans (t.am i c hi hc) (by decide), fun i hi => Nat.lt_trans (t.ta i hi) (by decide)⟩
/-- the entries of the pairs that are done -/
def E2s (H : Hp) (kvs : List (List Key × V)) (nm : Nat → Str) (n : Nat) (nx : Nat → Nat → Nat) (am : Nat → Nat → Int) (Dn : Nat → Nat → Prop) : Prop := ∀ i c, Dn i c → nx i c < n ∧ (am i c).natAbs < 2 ^ 100 ∧ Entry2 H kvs (nm i) c (nm (nx i c)) (am i c)
def E1s (H : Hp) (ws : List (Key × V)) (nm : Nat → Str) (n : Nat) (tn : Nat → Nat) (ta : Nat → Int) (k : Nat) : Prop := ∀ i, i < k → tn i < n ∧ (ta i).natAbs < 2 ^ 100 ∧ Entry1 H ws (nm i) (nm (tn i)) (ta i)
theorem E2s.tk {H H' : Hp} {kvs : List (List Key × V)} {nm : Nat → Str} {n : Nat} {nx : Nat → Nat → Nat} {am : Nat → Nat → Int} {Dn : Nat → Nat → Prop} (s : Tk H H') (h : E2s H kvs nm n nx am Dn) : E2s H' kvs nm n nx am Dn := fun i c d => ⟨(h i c d).1, (h i c d).2.1, (h i c d).2.2.tk s⟩
theorem E1s.tk {H H' : Hp} {ws : List (Key × V)} {nm : Nat → Str} {n : Nat} {tn : Nat → Nat} {ta : Nat → Int} {k : Nat} (s : Tk H H') (h : E1s H ws nm n tn ta k) : E1s H' ws nm n tn ta k := fun i d => ⟨(h i d).1, (h i d).2.1, (h i d).2.2.tk s⟩
theorem kk_eq {z y : Str} {a c : Nat} (h : kk (z, S [a]) = kk (y, S [c])) : z = y ∧ a = c := by
  have q := kk_inj h
  injection q with q1 q2
  refine ⟨q1, ?_⟩
  have := S_inj q2
  injection this
theorem E2s.put {H : Hp} {kvs : List (List Key × V)} {nm : Nat → Str} {n : Nat} {nx : Nat → Nat → Nat} {am : Nat → Nat → Int} {Dn Dn' : Nat → Nat → Prop} (h : E2s H kvs nm n nx am Dn) {i c e : Nat} {m : Int} {t : Addr} (ht : H t = some (.tup [.str (nm e), .int m])) (he : e < n) (hm : m.natAbs < 2 ^ 100) (hd : ∀ i' c', Dn' i' c' → Dn i' c' ∨ (nm i' = nm i ∧ c' = c)) :
    ∃ nx' am', E2s H (putK kvs (kk (nm i, S [c])) (.ref t)) nm n nx' am' Dn' := by
  refine ⟨fun i' c' => if nm i' = nm i ∧ c' = c then e else nx i' c', fun i' c' => if nm i' = nm i ∧ c' = c then m else am i' c', fun i' c' d => ?_⟩
  dsimp only
  by_cases q : nm i' = nm i ∧ c' = c
  · rw [if_pos q, if_pos q]
    refine ⟨he, hm, t, ?_, ht⟩
    rw [valV_put, if_pos (by rw [q.1, q.2])]
  · rw [if_neg q, if_neg q]
    have h0 := h i' c' ((hd i' c' d).resolve_right q)
    obtain ⟨t', a, b⟩ := h0.2.2
    refine ⟨h0.1, h0.2.1, t', ?_, b⟩
    rw [valV_put, if_neg fun z => q (kk_eq z)]
    exact a
theorem E1s.put {H : Hp} {ws : List (Key × V)} {nm : Nat → Str} {n : Nat} {tn : Nat → Nat} {ta : Nat → Int} {k : Nat} (h : E1s H ws nm n tn ta k) {e : Nat} {m : Int} {t : Addr} (ht : H t = some (.tup [.str (nm e), .int m])) (he : e < n) (hm : m.natAbs < 2 ^ 100) :
    ∃ tn' ta', E1s H (putK ws (k1 (nm k)) (.ref t)) nm n tn' ta' (k + 1) := by
  refine ⟨fun i' => if nm i' = nm k then e else tn i', fun i' => if nm i' = nm k then m else ta i', fun i' d => ?_⟩
  dsimp only
  by_cases q : nm i' = nm k
  · rw [if_pos q, if_pos q]
    refine ⟨he, hm, t, ?_, ht⟩
    rw [valV_put, if_pos (by rw [q])]
  · rw [if_neg q, if_neg q]
    have h0 := h i' (by
      have : i' ≠ k := fun z => q (by rw [z])
      omega)
    obtain ⟨t', a, b⟩ := h0.2.2
    refine ⟨h0.1, h0.2.1, t', ?_, b⟩
    rw [valV_put, if_neg fun z => q (k1_inj z)]
    exact a
/-- the same state once more -/
theorem E1s.over {H : Hp} {ws : List (Key × V)} {nm : Nat → Str} {n : Nat} {tn : Nat → Nat} {ta : Nat → Int} {k : Nat} (h : E1s H ws nm n tn ta (k + 1)) {e : Nat} {m : Int} {t : Addr} (ht : H t = some (.tup [.str (nm e), .int m])) (he : e < n) (hm : m.natAbs < 2 ^ 100) :
    ∃ tn' ta', E1s H (putK ws (k1 (nm k)) (.ref t)) nm n tn' ta' (k + 1) := E1s.put (k := k) (fun i d => h i (by omega)) ht he hm
def nmOf (st : List Str) (i : Nat) : Str := st.getD i (S [])
/-- a model while it is drawn -/
structure MSt (H H' : Hp) (p A Sd Ed : Addr) (st : List Str) (Dn : Nat → Nat → Prop) (k l1 l2 : Nat) : Prop where
  ex : ∃ (kvs : List (List Key × V)) (ws : List (Key × V)) (nx : Nat → Nat → Nat) (am : Nat → Nat → Int) (tn : Nat → Nat) (ta : Nat → Int), H' Sd = some (.dT kvs) ∧ H' Ed = some (.dK ws) ∧ kvs.length ≤ l1 ∧ ws.length ≤ l2 ∧ E2s H' kvs (nmOf st) st.length nx am Dn ∧ E1s H' ws (nmOf st) st.length tn ta k
  hA : H' A = some (.lst (st.map V.str))
  hp : PoolAt H' p
  b : But p H H'
  nS : H Sd = none
  nE : H Ed = none
section
variable {H H1 H2 : Hp} {p A Sd Ed : Addr} {st : List Str} {Dn Dn' : Nat → Nat → Prop} {k l1 l2 : Nat}
theorem MSt.but (q : MSt H H1 p A Sd Ed st Dn k l1 l2) (hp : PoolAt H2 p) (s : But p H1 H2) : MSt H H2 p A Sd Ed st Dn k l1 l2 := by
  obtain ⟨⟨kvs, ws, nx, am, tn, ta, hS, hE, c1, c2, e2, e1⟩, hA, hp1, b, nS, nE⟩ := q
  have tk := Tk.but hp1 s
  exact ⟨⟨kvs, ws, nx, am, tn, ta, s _ _ (pool_other hp1 hS fun _ _ _ q => by cases q) hS, s _ _ (pool_other hp1 hE fun _ _ _ q => by cases q) hE, c1, c2, e2.tk tk, e1.tk tk⟩, s _ _ (pool_ne hp1 hA) hA, hp, b.trans s, nS, nE⟩
theorem MSt.new (q : MSt H H1 p A Sd Ed st Dn k l1 l2) {t : Addr} {o : HO} (h : H1 t = none) : MSt H (L2.upd H1 t o) p A Sd Ed st Dn k l1 l2 := by
  obtain ⟨⟨kvs, ws, nx, am, tn, ta, hS, hE, c1, c2, e2, e1⟩, hA, hp1, b, nS, nE⟩ := q
  have tk : Tk H1 (L2.upd H1 t o) := Tk.new h
  have s : Same H1 (L2.upd H1 t o) := Same.put (Same.refl H1) h
  exact ⟨⟨kvs, ws, nx, am, tn, ta, s _ _ hS, s _ _ hE, c1, c2, e2.tk tk, e1.tk tk⟩, s _ _ hA, hp1.up h, b.upd h, nS, nE⟩
theorem MSt.up (q : MSt H H1 p A Sd Ed st Dn k l1 l2) {R : Addr} {o : HO} {xs : List V} (h : H1 R = some (.lst xs)) (nA : R ≠ A) (np : R ≠ p) (n0 : H R = none) : MSt H (L2.upd H1 R o) p A Sd Ed st Dn k l1 l2 := by
  obtain ⟨⟨kvs, ws, nx, am, tn, ta, hS, hE, c1, c2, e2, e1⟩, hA, hp1, b, nS, nE⟩ := q
  have tk : Tk H1 (L2.upd H1 R o) := Tk.put h (fun x => by intro z; cases z)
  exact ⟨⟨kvs, ws, nx, am, tn, ta, (upd_ne (ne_of hS h (by intro z; cases z))).trans hS, (upd_ne (ne_of hE h (by intro z; cases z))).trans hE, c1, c2, e2.tk tk, e1.tk tk⟩, (upd_ne nA.symm).trans hA, hp1.put np, b.new n0, nS, nE⟩
theorem MSt.put1 (q : MSt H H1 p A Sd Ed st Dn k l1 l2) {e : Nat} {m : Int} {t : Addr} (ht : H1 t = some (.tup [.str (nmOf st e), .int m])) (he : e < st.length) (hm : m.natAbs < 2 ^ 100) (hl : l2 < 100) :
    ∃ H4, DPut H1 Ed (.str (nmOf st k)) (.ref t) H4 ∧ MSt H H4 p A Sd Ed st Dn (k + 1) l1 (l2 + 1) := by
  obtain ⟨⟨kvs, ws, nx, am, tn, ta, hS, hE, c1, c2, e2, e1⟩, hA, hp1, b, nS, nE⟩ := q
  have nEp : Ed ≠ p := pool_other hp1 hE fun _ _ _ q => by cases q
  refine ⟨_, DPut.k (k := k1 (nmOf st k)) hE (by rw [sizeLine_eq]; omega), ?_⟩
  have tk : Tk H1 (L2.upd H1 Ed (.dK (putK ws (k1 (nmOf st k)) (.ref t)))) := Tk.put hE (fun x => by intro z; cases z)
  obtain ⟨tn', ta', e1'⟩ := e1.put ht he hm
  refine ⟨⟨kvs, _, nx, am, tn', ta', (upd_ne (ne_of hS hE (by intro z; cases z))).trans hS, upd_same, c1, ?_, e2.tk tk, e1'.tk tk⟩, (upd_ne (ne_of hA hE (by intro z; cases z))).trans hA, hp1.put nEp, b.new nE, nS, nE⟩
  exact Nat.le_trans (length_putK ws _ _) (by omega)
theorem MSt.over (q : MSt H H1 p A Sd Ed st Dn (k + 1) l1 l2) {e : Nat} {m : Int} {t : Addr} (ht : H1 t = some (.tup [.str (nmOf st e), .int m])) (he : e < st.length) (hm : m.natAbs < 2 ^ 100) (hl : l2 < 100) :
    ∃ H4, DPut H1 Ed (.str (nmOf st k)) (.ref t) H4 ∧ MSt H H4 p A Sd Ed st Dn (k + 1) l1 (l2 + 1) := by
  obtain ⟨⟨kvs, ws, nx, am, tn, ta, hS, hE, c1, c2, e2, e1⟩, hA, hp1, b, nS, nE⟩ := q
  exact MSt.put1 (k := k) ⟨⟨kvs, ws, nx, am, tn, ta, hS, hE, c1, c2, e2, fun i d => e1 i (by omega)⟩, hA, hp1, b, nS, nE⟩ ht he hm hl
end
section
variable {P : Program} {w : World} {K : PySem.W.Frag} {mg : Str → Option Value} {base : Heap} {f fD fN fNs fA : Addr} {fd fdD dN dNs dA : FuncData}
end
end Wb
/-! a list unpacked into names -/
namespace Lz
open PySem PySem.W PySem.Spec PyProof.Rows
section
variable {prog : Program} {w : World} {A : Around} {E : Value → Shared → Prop} {I l : Addr} {St : Nat → Shared → Prop} {items : Array Value} {s : Shared}
end
end Lz
namespace Lz
open PySem PySem.Spec PyProof.Rows L2
section
variable {X : Cx}
end
end Lz
/-! all that a loop is made of, in its one order; the program's loop -/
namespace Wb
open PySem L2 WbMin WbS Lz
def LD.srt (L : LD) (sg : List Nat) : LD := { L with sg := sg }
theorem LD.Ok.srt {L : LD} (O : L.Ok) {sg : List Nat} (p : sg.Perm L.sg) : (L.srt sg).Ok :=
  ⟨⟨fun c hc => O.sgs.low c (p.mem_iff.mp hc), p.nodup_iff.mpr O.sgs.nd, by show 0 < sg.length; rw [p.length_eq]; exact O.sgs.pos, by show sg.length ≤ 4; rw [p.length_eq]; exact O.sgs.few⟩, O.sts, fun i c hi hc => O.nxlt i c hi (p.mem_iff.mp hc), O.tnlt⟩
theorem Tups.append {H : Hp} : ∀ {as bs : List Addr} {xs ys : List (List V)}, Tups H as xs → Tups H bs ys → Tups H (as ++ bs) (xs ++ ys)
  | [], _, [], _, _, h => h
  | _ :: _, _, _ :: _, _, h, g => ⟨h.1, Tups.append h.2 g⟩
  | [], _, _ :: _, _, h, _ => h.elim
  | _ :: _, _, [], _, h, _ => h.elim
section
variable {P : Program} {w : World} {K : PySem.W.Frag} {mg : Str → Option Value} {base : Heap} {f fL : Addr} {fd dL : FuncData} {A : LA} {e : Addr}
end
end Wb
/-! what a loop's answers hang on: the map of a word alone -/
namespace Wb
open PySem L2 WbMin WbS Lz
theorem it_congr {g g' : Nat → Nat} {n : Nat} (h0 : 0 < n) (lt : ∀ i, i < n → g i < n) (h : ∀ i, i < n → g i = g' i) : ∀ m, it g m = it g' m
  | 0 => rfl
  | m + 1 => by
    show g (it g m) = g' (it g' m)
    rw [← it_congr h0 lt h m]
    exact h _ (it_lt h0 lt m)
theorem fold_fst (L : LD) : ∀ (w : List Nat) (p p' : Nat × Int), p.1 = p'.1 → (w.foldl L.stp p).1 = (w.foldl L.stp p').1
  | [], _, _, h => h
  | c :: w, p, p', h => fold_fst L w _ _ (by show L.nx p.1 c = L.nx p'.1 c; rw [h])
theorem wk_app (L : LD) (u v : List Nat) (i : Nat) : (L.wk (u ++ v) i).1 = (L.wk v (L.wk u i).1).1 := by
  unfold LD.wk
  rw [List.foldl_append]
  exact fold_fst L v _ _ rfl
theorem lead_of {L : LD} {u v : List Nat} {i : Nat} (h : (L.wk u i).1 = (L.wk v i).1) : L.lead u i = L.lead v i := congrArg L.tn h
/-- a word that leads from each state where the other one leads -/
def Alike (L : LD) (u v : List Nat) : Prop := ∀ i, i < L.n → (L.wk u i).1 = (L.wk v i).1
theorem Alike.left {L : LD} {u v w : List Nat} (h : Alike L u v) : Alike L (u ++ w) (v ++ w) := fun i hi => by rw [wk_app, wk_app, h i hi]
theorem Alike.right {L : LD} (O : L.Ok) {u v w : List Nat} (hw : ∀ c ∈ w, c ∈ L.sg) (h : Alike L u v) : Alike L (w ++ u) (w ++ v) := fun i hi => by rw [wk_app, wk_app, h _ (wk_lt O hi hw)]
theorem Alike.it {L : LD} (O : L.Ok) {u v : List Nat} (hu : ∀ c ∈ u, c ∈ L.sg) (h : Alike L u v) (m : Nat) : it (L.lead u) m = it (L.lead v) m :=
  it_congr O.sts.pos (fun i hi => gone_lt O hi hu) (fun i hi => lead_of (h i hi)) m
theorem LoopAt.but {C T : Addr} {H H' : Hp} {p r : Addr} {L : LD} (hp : PoolAt H p) (s : But p H H') : LoopAt C T H r L → LoopAt C T H' r L := by
  rintro ⟨dx, t, rr, u, y, tb, as, bs, h0, pr, dx', dN, dX, dA, tX, tA, tY, xs, as', g0, hX, hx, hA, ha, hTX, hTA, hTY⟩
  obtain ⟨a, b, c, e, _⟩ := id hp
  have no : ∀ x, HO.lst [V.int a, .int b, .int c] ≠ HO.tup x := fun x q => by cases q
  exact ⟨dx, t, rr, u, y, tb, as, bs, s _ _ (pool_other hp h0 fun _ _ _ q => by cases q) h0, pr.but no e s, dx', dN, dX, dA, tX, tA, tY, xs, as', s _ _ (pool_other hp g0 fun _ _ _ q => by cases q) g0, s _ _ (pool_other hp hX fun _ _ _ q => by cases q) hX, hx.but no e s,
    s _ _ (pool_other hp hA fun _ _ _ q => by cases q) hA, ha.but no e s, s _ _ (pool_other hp hTX fun _ _ _ q => by cases q) hTX, s _ _ (pool_other hp hTA fun _ _ _ q => by cases q) hTA, s _ _ (pool_other hp hTY fun _ _ _ q => by cases q) hTY⟩
theorem LoopAt.hd {C T : Addr} {H : Hp} {r : Addr} {L : LD} (h : LoopAt C T H r L) : ∃ (dx : Addr) (fs : List (Str × V)), H r = some (.ins C dx fs) ∧ fs.lookup ("answer" : Str) = none ∧ fs.lookup ("state" : Str) = none := by
  obtain ⟨dx, t, rr, u, y, tb, as, bs, h0, pr, TA⟩ := h
  obtain ⟨_, _, _, x4, x5⟩ := lf_none (S L.sg) t rr u y tb
  exact ⟨dx, _, h0, x4, x5⟩
theorem MdAt.hd {H : Hp} {q : Addr} {L : LD} (h : MdAt H q L) : ∃ A Sd Ed O : Addr, H q = some (.lst [.str (S L.sg), .ref A, .ref Sd, .ref Ed, .ref O]) ∧ H A = some (.lst (L.st.map V.str)) ∧ H O = some (.lst (L.yes.map V.str)) := by
  obtain ⟨A, Sd, Ed, O, kvs, ws, h0, hA, hS, hE, e2, e1, hO⟩ := h
  exact ⟨A, Sd, Ed, O, h0, hA, hO⟩
theorem PoolAt.same {H H' : Hp} {p : Addr} (h : PoolAt H p) (s : Same H H') : PoolAt H' p := by
  obtain ⟨a, b, c, e, r⟩ := h
  exact ⟨a, b, c, s _ _ e, r⟩
end Wb
/-! totals of a loop: the mathematics -/
namespace Wb
open PySem L2 WbMin WbS Lz
theorem LD.Small.srt {L : LD} (s : L.Small) {sg : List Nat} (p : sg.Perm L.sg) : (L.srt sg).Small := ⟨fun i c hi hc => s.am i c hi (p.mem_iff.mp hc), s.ta⟩
def LD.cf (L : LD) (w : List Nat) (m : Nat) : Int := L.cnt w (it (L.lead w) m)
end Wb
/-! the total of the first rounds -/
namespace Wb
open PySem L2 WbMin WbS Lz
structure TotA where
  (fTo : Addr)
  (dTo : FuncData)
section
variable {P : Program} {w : World} {K : PySem.W.Frag} {mg : Str → Option Value} {base : Heap} {A : LA} {B : TotA} {e : Addr}
end
end Wb
namespace Wb
open PySem L2 WbMin WbS Lz
/-! ### the mathematics: turnings as lists of codes -/
def rot (l : List Nat) (i : Nat) : List Nat := l.drop i ++ l.take i
def turnsS (l : List Nat) : List Str := (List.range l.length).map fun i => S (rot l i)
def leastOf : List Str → Str
  | [] => S []
  | x :: xs => minS x xs
def textS (l : List Nat) : Str := leastOf (turnsS l)
def perN (l : List Nat) : Nat := (WbSet.differ (turnsS l)).length
theorem rot_len (l : List Nat) (i : Nat) : (rot l i).length = l.length := by
  unfold rot
  rw [List.length_append, List.length_drop, List.length_take]
  omega
/-! ### the object -/
def rf (t : Str) (n : Int) : List (Str × V) := putF "_period" (.int n) (putF "_text" (.str t) [])
/-- the ring of the word l stands at r -/
def RingAt (C : Addr) (H : Hp) (r : Addr) (l : List Nat) : Prop := IsW l ∧ ∃ dx, H r = some (.ins C dx (rf (textS l) (perN l)))
theorem RingAt.same {C : Addr} {H H' : Hp} {r : Addr} {l : List Nat} (h : RingAt C H r l) (s : Same H H') : RingAt C H' r l := by
  obtain ⟨W, dx, e⟩ := h
  exact ⟨W, dx, s _ _ e⟩
theorem RingAt.but {C p : Addr} {H H' : Hp} {r : Addr} {l : List Nat} (h : RingAt C H r l) (s : But p H H') (n : r ≠ p) : RingAt C H' r l := by
  obtain ⟨W, dx, e⟩ := h
  exact ⟨W, dx, s _ _ n e⟩
/-- what the top has written of the class -/
structure Txt (K : PySem.W.Frag) (mg : Str → Option Value) (C : Addr) : Prop where
  cl : Cls K C
  nT : NoAttr K C "_text"
  nP : NoAttr K C "_period"
  gC : mg "Ring" = some (.ref C)
  hcl : PySem.W.findIn K (.ref C) "__class__" = some (some (.builtin "object.__class__"))
  hgt : PySem.W.specialIn K (.builtin "object.__class__") "__get__" = some (some (.builtin "getset_descriptor.__get__"))
  htk : PySem.W.takesIn K (.builtin "object.__class__") = some true
  hob : PySem.W.mroIn K C (.type "object") = some true
section
variable {P : Program} {w : World} {K : PySem.W.Frag} {mg : Str → Option Value} {base : Heap} {f fD fS fW : Addr} {fd fdD fdS fdW : FuncData}
end
end Wb
/-! the mathematics of turnings: the least one, the number of different ones -/
namespace Wb
open PySem L2 WbMin WbS Lz
/-! ### lists without doubles -/
/-! ### the least text -/
/-! ### turnings -/
theorem rot_get {l : List Nat} {i j : Nat} (hi : i ≤ l.length) (hj : j < l.length) : (rot l i)[j]? = l[(i + j) % l.length]? := by
  unfold rot
  by_cases h : j < l.length - i
  · rw [List.getElem?_append_left (by rw [List.length_drop]; exact h), List.getElem?_drop, Nat.mod_eq_of_lt (by omega)]
  · have e : (i + j) % l.length = i + j - l.length := by
      rw [Nat.mod_eq_sub_mod (by omega), Nat.mod_eq_of_lt (by omega)]
    rw [List.getElem?_append_right (by rw [List.length_drop]; omega), List.length_drop, e, List.getElem?_take, if_pos (by omega)]
    congr 1
    omega
theorem rot_rot {l : List Nat} {i j : Nat} (hi : i ≤ l.length) (hj : j ≤ l.length) (h0 : 0 < l.length) : rot (rot l i) j = rot l ((i + j) % l.length) := by
  refine List.ext_getElem? fun k => ?_
  by_cases hk : k < l.length
  · rw [rot_get (by rw [rot_len]; exact hj) (by rw [rot_len]; exact hk), rot_len, rot_get hi (Nat.mod_lt _ h0), rot_get (Nat.le_of_lt (Nat.mod_lt _ h0)) hk]
    congr 1
    rw [Nat.add_mod_mod, Nat.mod_add_mod, Nat.add_assoc]
  · rw [List.getElem?_eq_none (by rw [rot_len, rot_len]; omega), List.getElem?_eq_none (by rw [rot_len]; omega)]
theorem IsW.rot {l : List Nat} (W : IsW l) (i : Nat) : IsW (Wb.rot l i) := by
  refine ⟨fun c hc => W.low c ?_, by rw [rot_len]; exact W.pos, by rw [rot_len]; exact W.few⟩
  unfold Wb.rot at hc
  rcases List.mem_append.mp hc with q | q
  · exact List.mem_of_mem_drop q
  · exact List.mem_of_mem_take q
/-! ### the number of different turnings -/
theorem back {l : List Nat} {p : Nat} (h0 : 0 < l.length) (hp : 0 < p) (hpn : p ≤ l.length) (e : rot l p = l) : ∀ i, i < l.length → rot l i = rot l (i % p) := fun i => by
  induction i using Nat.strongRecOn with
  | ind i ih =>
    intro hi
    by_cases q : i < p
    · rw [Nat.mod_eq_of_lt q]
    · have h1 := rot_rot (l := l) (i := p) (j := i - p) hpn (by omega) h0
      rw [e, show p + (i - p) = i by omega, Nat.mod_eq_of_lt hi] at h1
      rw [← h1, ih (i - p) (by omega) (by omega), ← Nat.mod_eq_sub_mod (by omega)]
end Wb
/-! what an own class's special methods are worth: len(o), bool(o), str(o), o == p, o != p, o an instance of a class of the program's own -/
namespace WbO
open PySem PySem.W PySem.Spec PyProof.Rows
section
variable {prog : Program} {w : World} {A : Around} {E : Value → Shared → Prop} {s : Shared} {K : Frag} {x C f : Addr} {ox : Obj} {od : Option Obj}
end
end WbO
namespace WbO
open PySem PySem.Spec PyProof.Rows L2
section
variable {X : Cx} {CX : CXT} {k : Nat} {C g : Addr} {fd : FuncData} {ps : List Str} {sp : Sp} {E : XK}
end
end WbO
/-! reading round a ring: turned, [i], [i, n] -/
namespace WbT
open PySem PySem.Spec PyProof.Rows L2
section
variable {X : Cx} {CX : CXT} {k : Nat} {C g : Addr} {fd : FuncData} {ps ks : List Str} {sp : Sp} {E : XK} {o : Expr} {m : Str} {apos pos : Pos} {kws : List Keyword} {ta : TE} {tk : TA} {kg : List Value → List Value → List Value} {gV : List V → List V → List V}
theorem vals_signs : ∀ (l : List Nat) (us : List Value), us.length = l.length → (∀ (j : Nat) (v : Value), us[j]? = some v → ∃ c t, l[j]? = some c ∧ v = Value.str ⟨#[c]⟩ t) → Vals (l.map fun c => V.str ⟨#[c]⟩) us
  | [], [], _, _ => .nil
  | [], _ :: _, h, _ => by cases h
  | _ :: _, [], h, _ => by cases h
  | c :: l, u :: us, h, k => by
    obtain ⟨c', t, e1, e2⟩ := k 0 u rfl
    cases e1
    exact .cons ⟨t, e2⟩ (vals_signs l us (Nat.succ.inj h) fun j v q => k (j + 1) v q)
/-- list(z) of a text -/
theorem call_listS (hc : X.calm = true) : CallR X (.type "list") (fun xs H Q => ∃ z : Str, xs = [.str z] ∧ z.length ≤ sizeLine ∧ ∀ p, H p = none → Q (.ref p) (upd H p (.lst (z.cps.toList.map fun c => V.str ⟨#[c]⟩)))) := by
  intro pins s σ H xs us Q I r h
  obtain ⟨z, rfl, fits, q⟩ := h
  obtain ⟨u, rfl, t, rfl⟩ := vals1 r
  refine call_list_str (hn := fits) (I.ok.hd hc) z t fun h' tk acc c kept new items => ?_
  have rel : Vals (z.cps.toList.map fun c => V.str ⟨#[c]⟩) acc.toList := vals_signs _ _ (by rw [Array.length_toList, Array.length_toList]; exact items.1) fun j v e => by
    obtain ⟨c, u, e1, e2⟩ := items.2 j v (by rw [← Array.getElem?_toList]; exact e)
    exact ⟨c, u, by rw [Array.getElem?_toList]; exact e1, e2⟩
  have fits' : (z.cps.toList.map fun c => V.str ⟨#[c]⟩).length ≤ sizeLine := by rw [List.length_map, Array.length_toList]; exact fits
  exact ⟨.ref s.heap.objs.size, _, I.laid (t' := tk) kept (Nat.le_refl _) (show ObjOk X.prog X.w _ h' _ (.lst _) from ⟨fits', acc.toList, c, rel, new⟩), rfl, q _ (I.hok.fresh (Nat.le_refl _))⟩
end
end WbT
namespace Wb
open PySem L2 WbMin WbS Lz WbO WbT
/-! ### reading so many signs round a word -/
/-- the text of the ring as codes -/
def tx (l : List Nat) : List Nat := (textS l).cps.toList
/-! ### the promises -/
section
variable {P : Program} {w : World} {K : PySem.W.Frag} {mg : Str → Option Value} {base : Heap} {f fI fP fR C : Addr} {fd dI dP dR : FuncData}
end
end Wb
/-! the mathematics of words so many times, joined, read from behind -/
namespace Wb
open PySem L2 WbMin
theorem IsW.join {l m : List Nat} (W : IsW l) (V : IsW m) (h : l.length + m.length ≤ 600) : IsW (l ++ m) := by
  refine ⟨fun c hc => ?_, by rw [List.length_append]; have := W.pos; omega, by rw [List.length_append]; exact h⟩
  rcases List.mem_append.mp hc with q | q
  · exact W.low c q
  · exact V.low c q
end Wb
/-! a ring so many times; its period -/
namespace WbX
open PySem PySem.Spec PyProof.Rows L2 WbO
section
variable {X : Cx} {CX : CXT} {k : Nat} {C g : Addr} {fd : FuncData} {ps : List Str} {sp : Sp} {E : XK}
end
end WbX
namespace Wb
open PySem L2 WbMin WbS Lz WbO WbT WbX
structure RgA where
  (C fI fU fM fP pP turns readr : Addr)
  (dI dU dM dP dturns dreadr : FuncData)
section
variable {P : Program} {w : World} {K : PySem.W.Frag} {mg : Str → Option Value} {base : Heap} {f C fI fW : Addr} {fd dI dW : FuncData} {R : RgA}
end
end Wb
/-! class Kind over the base of the loops (out of k10's and k08's texts): checks, pairs, the kind -/
namespace Wb
open PySem L2 WbMin WbO WbS WbT Lz
/-! ## k08 WbK1.lean -/
abbrev sIsPair : Stmt := top 30
abbrev sChPairs : Stmt := top 31
abbrev sAllP : Stmt := top 32
abbrev sHas : Stmt := top 34
/-- a pair of these signs -/
def PairOf (sg : List Nat) (z : Str) : Prop := ∃ a b, a ∈ sg ∧ b ∈ sg ∧ z = S [a, b]
structure Prs (sg : List Nat) (ps : List Str) : Prop where
  of : ∀ z ∈ ps, PairOf sg z
  nd : ps.Nodup
  few : ps.length ≤ 16
def spIsPair : Sp := fun vs H Q _ => ∃ (z : Str) (sg : List Nat), vs = [.str z, .str (S sg)] ∧ PairOf sg z ∧ Q (.bl true) H
def spChPairs : Sp := fun vs H Q _ => ∃ (t : Addr) (sg : List Nat) (ps : List Str), vs = [.ref t, .str (S sg)] ∧ H t = some (.tup (ps.map V.str)) ∧ Prs sg ps ∧ ∀ H', Same H H' → Q .non H'
def spHas : Sp := fun vs H Q _ => ∃ (t : Addr) (sg : List Nat) (ps : List Str), vs = [.str (S sg), .ref t] ∧ H t = some (.tup (ps.map V.str)) ∧ sg.length ≤ 4 ∧ ∀ (b : Bool) H', Same H H' → Q (.bl b) H'
section
variable {P : Program} {w : World} {K : PySem.W.Frag} {mg : Str → Option Value} {base : Heap} {f fW fD : Addr} {fd dW fdD : FuncData}
theorem scPr : FnScope ["value", "signs"] ["value", "signs"] (defScope sIsPair) := ⟨rfl, rfl, rfl, by decide +kernel, rfl, by decide +kernel, by decide +kernel⟩
theorem ok_ispair (F : Fun K "_is_pair" "_is_pair" sIsPair f fd) (Z : Free mg) (DO : Def K mg "is_sign_of" sSignOf ["value", "signs"] fW dW) : FnOk P w K mg base CX0 2 f fd ["value", "signs"] spIsPair := by
  have GO : FnOk P w K mg base CX0 1 fW dW ["value", "signs"] spSignOf := ok_signof DO.F Z
  refine F.ok scPr (fun vs H Q E h => ?_) (fun cdv A outer s H vs Q E hr h => ?_)
  · obtain ⟨z, sg, rfl, _⟩ := h
    rfl
  · obtain ⟨z, sg, rfl, ⟨a, b, ha, hb, rfl⟩, k⟩ := h
    refine ⟨_, pss_cons (ps_if (PW.pt (pw_or (pt_not (pt_val (pe_callB call_isi (by rfl) Z.isi (by decide +kernel) (pa_cons (pv 0) (pa_cons (pe_bltn (v := .ty "str") (u := .type "str") (by rfl) Z.str (by decide +kernel) rfl) pa_nil)))))
        (pw_or1 (pt_cmpR op_ne (pe_callB call_len_str (by rfl) Z.len PySem.boot_len (pa_cons (pv 0) pa_nil)) pe_int (nomark _))))) (pss_one ps_never) pss_nil)
      (pss_one (ps_ret (pe_and (pe_call GO hr rfl DO.g DO.kp DO.b .nil pass0 (pa_cons (pe_ix ix_str (pv 0) pe_int (fun _ _ => rfl)) (pa_cons (pv 1) pa_nil)))
        (pe_one (pe_call GO hr rfl DO.g DO.kp DO.b .nil pass0 (pa_cons (pe_ix ix_str (pv 0) pe_int (fun _ _ => rfl)) (pa_cons (pv 1) pa_nil))))))), ?_⟩
    have fit : (S [a, b]).length ≤ sizeLine := by rw [S_len, sizeLine_eq]; show 2 ≤ _; decide
    refine ⟨_, rfl, _, _, .type "str", .type "str", true, rfl, .ty "str", .base (.str _), kit_ty (by decide +kernel), true, rfl, ?_⟩
    refine ⟨_, rfl, _, rfl, fit, rfl, _, rfl, iteNS (by rw [S_len] <;> rfl) ?_⟩
    refine ⟨_, rfl, _, _, a, rfl, rfl, fit, by rw [S_cps]; exact atI_nat (j := 0) rfl, _, rfl, a, sg, rfl, ha, true, rfl, ?_⟩
    exact ⟨_, rfl, _, _, b, rfl, rfl, fit, by rw [S_cps]; exact atI_nat (j := 1) rfl, _, rfl, b, sg, rfl, hb, k⟩
end
/-! ## k08 WbK2.lean -/
section
variable {P : Program} {w : World} {K : PySem.W.Frag} {mg : Str → Option Value} {base : Heap} {f fP fF fS : Addr} {fd dP dF dS : FuncData}
theorem scCp : FnScope ["pairs", "signs", "wrong", "pair"] ["pairs", "signs"] (defScope sChPairs) := ⟨rfl, rfl, rfl, by decide +kernel, rfl, by decide +kernel, by decide +kernel⟩
theorem ok_chpairs (F : Fun K "_check_pairs" "_check_pairs" sChPairs f fd) (Z : Free mg) (mT : mg "tuple" = none) (mE : mg "enumerate" = none) (DP : Def K mg "_is_pair" sIsPair ["value", "signs"] fP dP) (DS : Def K mg "is_sign_of" sSignOf ["value", "signs"] fS dS) (DF : Def K mg "first_wrong" sFirst ["values", "right"] fF dF) : FnOk P w K mg base CX0 3 f fd ["pairs", "signs"] spChPairs := by
  have GP : FnOk P w K mg base CX0 2 fP dP ["value", "signs"] spIsPair := ok_ispair DP.F Z DS
  have GF : FnOk P w K mg base CX0 1 fF dF ["values", "right"] spFirst := ok_first DF.F mE
  refine F.ok scCp (fun vs H Q E h => ?_) (fun cdv A outer s H vs Q E hr h => ?_)
  · obtain ⟨t, sg, ps, rfl, _⟩ := h
    rfl
  · obtain ⟨t, sg, ps, rfl, ht, G, k⟩ := h
    have hr1 : Room 1 _ := hr.mono (by decide)
    refine ⟨_, pss_cons (ps_if (pt_not (pt_val (pe_callB call_isi (by rfl) Z.isi (by decide +kernel) (pa_cons (pv 0) (pa_cons (pe_bltn (v := .ty "tuple") (u := .type "tuple") (by rfl) mT (by decide +kernel) rfl) pa_nil))))) (pss_one ps_never) pss_nil)
      (pss_cons (ps_set (i := 2) scCp.nd rfl (.inl rfl) (pe_call GF hr1 rfl DF.g DF.kp DF.b .nil pass0 (pa_cons (pv 0) (pa_cons
          (pe_lc (own := [("pair", 3)]) (g := gName 3) (tt := tYes) rfl scCp.nd (pi_tup (pv 0)) (blkOk_by (N := ["pairs", "signs", "wrong", "pair"]) (sc := defScope sChPairs) (by decide +kernel)) (fun _ _ _ _ _ => pg_name (i := 3) scCp.nd rfl (.inl rfl)) (fun _ _ _ _ _ => pts_nil)
            (fun _ _ _ _ _ => pe_call GP hr rfl DP.g DP.kp DP.b .nil pass0 (pa_cons (pv 3) (pa_cons (pv 1) pa_nil)))) pa_nil))))
      (pss_one (ps_if (pt_cmpR op_notN (pv 2) pe_non (nomark _)) (pss_one ps_never) pss_nil))), ?_⟩
    have few := G.few
    refine ⟨_, rfl, _, _, .type "tuple", .type "tuple", true, rfl, .ty "tuple", .base (.tup ht), kit_ty (by decide +kernel), true, rfl, ?_⟩
    refine ⟨_, rfl, _, rfl, t, rfl, ⟨_, SqT.of ht⟩, fun D hD => lc_it (walk_tup (xs := ps.map V.str)) (fun i H3 => H3 D = some (.lst ((List.replicate i true).map V.bl)) ∧ Same H H3) ⟨upd_same, Same.put (Same.refl H) hD⟩ (fun _ _ _ h => SqT.of (h.2 _ _ ht)) ?_ ?_⟩
    · rintro i x H3 H3' hi ⟨h1, h2⟩ ⟨rfl, hx⟩
      rw [List.getElem?_map] at hx
      obtain ⟨z, hz, rfl⟩ := Option.map_eq_some_iff.mp hx
      rw [List.length_map] at hi
      refine ⟨rfl, _, rfl, _, rfl, z, sg, rfl, G.of z (List.mem_of_getElem? hz), _, h1, ?_, ?_, Same.new' h2 hD⟩
      · rw [List.length_map, List.length_replicate, sizeLine_eq]
        omega
      · rw [upd_same, List.replicate_succ', List.map_append] <;> rfl
    · rintro H3 ⟨h1, h2⟩
      rw [List.length_map] at h1
      refine ⟨t, D, ps, rfl, h2 _ _ ht, h1, G.nd, fun H4 s4 => ?_⟩
      refine ⟨_, rfl, rfl, _, rfl, ?_⟩
      show if (!decide (V.non = V.non)) = true then _ else _
      rw [decide_eq_true rfl]
      exact iteF (k H4 (h2.trans s4))
abbrev NH : List Str := ["signs", "pairs", "left", "_", "sign", "after"]
def scOut : Scope := { kind := .function, names := [(".0", .local), ("sign", .cell), ("any", .globalImplicit), ("left", .cell), ("pairs", .cell)], isGenerator := false, isCoroutine := false }
theorem scHs : FnScope NH ["signs", "pairs"] (defScope sHas) := ⟨rfl, rfl, rfl, by decide +kernel, rfl, by decide +kernel, by decide +kernel⟩
set_option maxHeartbeats 0 in
theorem ok_has (F : Fun K "_has_ring" "_has_ring" sHas f fd) (Z : Free mg) (mL : mg "list" = none) (mA : mg "any" = none) : FnOk P w K mg base CX0 1 f fd ["signs", "pairs"] spHas := by
  refine F.ok scHs (fun vs H Q E h => ?_) (fun cdv A outer s H vs Q E hr h => ?_)
  · obtain ⟨t, sg, ps, rfl, _⟩ := h
    rfl
  · obtain ⟨t, sg, ps, rfl, ht, few, k⟩ := h
    refine ⟨_, pss_cons (ps_set (i := 2) scHs.nd rfl (.inr rfl) (pe_callTy (call_listS rfl) (by rfl) mL (by decide +kernel) (pa_cons (pv 0) pa_nil)))
      (pss_cons (ps_for PassesOwn.never rfl (pi_str (pv 0)) (pg_name (i := 3) scHs.nd rfl (.inl rfl))
        (pss_one (ps_set (i := 2) scHs.nd rfl (.inr rfl) (pe_lc (own := [("sign", 4)]) (g := gName 4) rfl scHs.nd (pi_list (pv 2)) (blkOk_by (N := NH) (sc := defScope sHas) (by decide +kernel)) (fun _ _ _ _ _ => pg_name (i := 4) scHs.nd rfl (.inr rfl))
          (fun _ _ _ _ _ => pts_one (pt_val (pe_callB (show CallR _ _ (rAny K) from cr_any rfl) (by rfl) mA (by decide +kernel) (pa_cons
            (by
              refine pe_lc (wi := iList K (tVar 2)) (own := [("after", 5)]) (g := gName 5) (tt := tYes) rfl scHs.nd ?hi (blkOk_by (N := NH) (sc := scOut) (by decide +kernel)) (fun _ _ _ _ _ => pg_name (i := 5) scHs.nd rfl (.inl rfl)) (fun _ _ _ _ _ => pts_nil) (fun _ _ _ _ _ => pe_cmpR (show OpR _ _ (rIn K false) from op_in_seq) (pe_op op_add_str (pv 4) (pv 5)) (pv 1) (by rfl))
              case hi => exact pi_list (pv 2)) pa_nil))))
          (fun _ _ _ _ _ => pv 4)))))
      (pss_one (ps_ret (pe_cmpR op_gt (pe_callB call_len_seq (by rfl) Z.len PySem.boot_len (pa_cons (pv 2) pa_nil)) pe_int (nomark _))))), ?_⟩
    have fits : (S sg).length ≤ sizeLine := by rw [S_len, sizeLine_eq]; omega
    refine ⟨_, rfl, _, rfl, fits, fun L0 hL0 => ?_⟩
    refine ⟨_, rfl, _, rfl, for_it walk_str (fun i σ H' => ∃ (L : Addr) (l : List Nat) (v3 v4 v5 : Option V), σ = [some (.str (S sg)), some (.ref t), some (.ref L), v3, v4, v5] ∧ H' L = some (.lst (l.map vOne)) ∧ l.length ≤ 4 ∧ Same H H')
      ⟨L0, sg, none, none, none, rfl, ?_, few, Same.put (Same.refl H) hL0⟩ (fun _ _ _ _ _ => trivial) ?_ ?_⟩
    · rw [upd_same, S_cps] <;> rfl
    · rintro i x σ H2 H2' hi ⟨L, l, v3, v4, v5, rfl, h1, l4, s2⟩ ⟨rfl, c0, hc0, rfl⟩
      have one_of : ∀ {y : V} {j : Nat}, (l.map vOne)[j]? = some y → ∃ c, y = vOne c := fun h => by
        obtain ⟨c, _, e⟩ := List.mem_map.mp (List.mem_of_getElem? h)
        exact ⟨c, e.symm⟩
      refine ⟨_, rfl, L, rfl, ⟨_, SqL.of h1⟩, fun D hD => lc_it (walk_list (xs := l.map vOne)) (fun j H3 => ∃ k : List Nat, H3 D = some (.lst (k.map vOne)) ∧ k.length ≤ j ∧ Same H2' H3) ⟨[], upd_same, Nat.le_refl _, Same.put (Same.refl _) hD⟩ (fun _ _ _ h => by obtain ⟨_, _, _, h⟩ := h; exact SqL.of (h _ _ h1)) ?_ ?_⟩
      · rintro j y H3 H3' hj ⟨k', g1, g2, g3⟩ ⟨rfl, hy⟩
        obtain ⟨c, rfl⟩ := one_of hy
        rw [List.length_map] at hj
        refine ⟨rfl, _, rfl, L, rfl, ⟨_, SqL.of (g3 _ _ h1)⟩, fun D2 hD2 => lc_it (walk_list (xs := l.map vOne)) (fun m H4 => ∃ bs : List Bool, H4 D2 = some (.lst (bs.map V.bl)) ∧ bs.length = m ∧ Same H3' H4) ⟨[], upd_same, rfl, Same.put (Same.refl _) hD2⟩ (fun _ _ _ h => by obtain ⟨_, _, _, h⟩ := h; exact SqL.of (h _ _ (g3 _ _ h1))) ?_ ?_⟩
        · rintro m z H4 H4' hm ⟨bs, e1, e2, e3⟩ ⟨rfl, hz⟩
          obtain ⟨d, rfl⟩ := one_of hz
          rw [List.length_map] at hm
          refine ⟨rfl, _, rfl, _, rfl, _, _, rfl, rfl, ?_, _, rfl, t, _, rfl, .inr (SqT.of (e3 _ _ (g3 _ _ (s2 _ _ ht)))), rfl, flat_strs ps, _, e1, ?_, bs ++ [inV (.str (one c ++ one d)) (ps.map V.str)], ?_, ?_, Same.new' e3 hD2⟩
          · show 1 + 1 ≤ sizeLine
            decide
          · rw [List.length_map, sizeLine_eq]
            omega
          · rw [upd_same, List.map_append] <;> rfl
          · rw [List.length_append, e2] <;> rfl
        · rintro H4 ⟨bs, e1, e2, e3⟩
          refine ⟨D2, bs, rfl, SqL.of e1, _, rfl, ite2 (fun q => ?_) (fun q => ?_)⟩
          · refine ⟨_, rfl, _, e3 _ _ g1, ?_, k' ++ [c], ?_, ?_, Same.new' (g3.trans e3) hD⟩
            · rw [List.length_map, sizeLine_eq]
              omega
            · rw [upd_same, List.map_append] <;> rfl
            · rw [List.length_append]
              show k'.length + 1 ≤ j + 1
              omega
          · exact ⟨k', e3 _ _ g1, by omega, g3.trans e3⟩
      · rintro H3 ⟨k', g1, g2, g3⟩
        rw [List.length_map] at g2
        exact ⟨D, k', _, _, _, rfl, g1, by omega, s2.trans g3⟩
    · rintro σ H2 ⟨L, l, v3, v4, v5, rfl, h1, l4, s2⟩
      exact ⟨_, rfl, L, _, rfl, .inl (SqL.of h1), _, _, rfl, rfl, k _ H2 s2⟩
end
/-! ## k08 WbK3.lean -/
abbrev sKInit : Stmt := inClass (top 36) 0
def allP (sg : List Nat) : List Str := sg.flatMap fun a => sg.map fun b => S [a, b]
theorem allP_mem {sg : List Nat} {z : Str} : z ∈ allP sg ↔ PairOf sg z := by
  unfold allP PairOf
  rw [List.mem_flatMap]
  constructor
  · rintro ⟨a, ha, h⟩
    obtain ⟨b, hb, rfl⟩ := List.mem_map.mp h
    exact ⟨a, b, ha, hb, rfl⟩
  · rintro ⟨a, b, ha, hb, rfl⟩
    exact ⟨a, ha, List.mem_map.mpr ⟨b, hb, rfl⟩⟩
def kf (z : Str) (t : Addr) (b : Bool) : List (Str × V) := putF "_ringed" (.bl b) (putF "_pairs" (.ref t) (putF "_signs" (.str z) []))
theorem k12 : ¬ (("_signs" : Str) = "_pairs") := by decide +kernel
theorem k13 : ¬ (("_signs" : Str) = "_ringed") := by decide +kernel
theorem k23 : ¬ (("_pairs" : Str) = "_ringed") := by decide +kernel
theorem kf_signs (z : Str) (t : Addr) (b : Bool) : (kf z t b).lookup ("_signs" : Str) = some (.str z) := by
  unfold kf
  rw [lookup_putF, if_neg k13, lookup_putF, if_neg k12, lookup_putF, if_pos rfl]
theorem kf_pairs (z : Str) (t : Addr) (b : Bool) : (kf z t b).lookup ("_pairs" : Str) = some (.ref t) := by
  unfold kf
  rw [lookup_putF, if_neg k23, lookup_putF, if_pos rfl]
/-- the kind with these signs and pairs stands at r -/
def KindAt (C : Addr) (H : Hp) (r : Addr) (sg : List Nat) (ps : List Str) : Prop := ∃ dx t b, H r = some (.ins C dx (kf (S sg) t b)) ∧ H t = some (.tup (ps.map V.str))
theorem KindAt.same {C : Addr} {H H' : Hp} {r : Addr} {sg : List Nat} {ps : List Str} (h : KindAt C H r sg ps) (s : Same H H') : KindAt C H' r sg ps := by
  obtain ⟨dx, t, b, e1, e2⟩ := h
  exact ⟨dx, t, b, s _ _ e1, s _ _ e2⟩
theorem KindAt.but {C p : Addr} {H H' : Hp} {r : Addr} {sg : List Nat} {ps : List Str} (h : KindAt C H r sg ps) (s : But p H H') (n : r ≠ p) (hp : PoolAt H p) : KindAt C H' r sg ps := by
  obtain ⟨dx, t, b, e1, e2⟩ := h
  obtain ⟨x, y, z, e3, _⟩ := hp
  exact ⟨dx, t, b, s _ _ n e1, s _ _ (ne_of e2 e3 (by intro q; cases q)) e2⟩
structure KTxt (K : PySem.W.Frag) (mg : Str → Option Value) (C : Addr) : Prop where
  cl : Cls K C
  nS : NoAttr K C "_signs"
  nP : NoAttr K C "_pairs"
  nR : NoAttr K C "_ringed"
  gC : mg "Kind" = some (.ref C)
  hcl : PySem.W.findIn K (.ref C) "__class__" = some (some (.builtin "object.__class__"))
  hob : PySem.W.mroIn K C (.type "object") = some true
def spAllP : Sp := fun vs H Q _ => ∃ (sg : List Nat), vs = [.str (S sg)] ∧ sg.length ≤ 4 ∧ ∀ (t : Addr) H', H t = none → Same H H' → H' t = some (.tup ((allP sg).map V.str)) → Q (.ref t) H'
def spKInit (C : Addr) : Sp := fun vs H Q _ => ∃ (H0 : Hp) (r dx : Addr) (sg0 : List Nat) (x : V) (ps0 : List Str), vs = [.ref r, .str (S sg0), x] ∧ Sgs sg0 ∧ ((x = .non ∧ ps0 = allP sg0) ∨ ∃ t, x = .ref t ∧ H t = some (.tup (ps0.map V.str)) ∧ Prs sg0 ps0) ∧ Same H0 H ∧ H0 r = none ∧ H r = some (.ins C dx []) ∧
  ∀ (H' : Hp) (sg : List Nat) (ps : List Str), Same H0 H' → sg.Perm sg0 → PyProof.Rows.sortedS (sg.map sOne) = true → ps.Perm ps0 → PyProof.Rows.sortedS ps = true → KindAt C H' r sg ps → Q .non H'
section
variable {P : Program} {w : World} {K : PySem.W.Frag} {mg : Str → Option Value} {base : Heap} {f : Addr} {fd : FuncData}
theorem scAP : FnScope ["signs", "sign", "after"] ["signs"] (defScope sAllP) := ⟨rfl, rfl, rfl, by decide +kernel, rfl, by decide +kernel, by decide +kernel⟩
set_option maxHeartbeats 0 in
theorem ok_allp (F : Fun K "_all_pairs" "_all_pairs" sAllP f fd) (Z : Free mg) (mT : mg "tuple" = none) : FnOk P w K mg base CX0 1 f fd ["signs"] spAllP := by
  refine F.ok scAP (fun vs H Q E h => ?_) (fun cdv A outer s H vs Q E hr h => ?_)
  · obtain ⟨sg, rfl, _⟩ := h
    rfl
  · obtain ⟨sg, rfl, few, k⟩ := h
    refine ⟨_, pss_one (ps_ret (pe_callTy call_tuple_of (by rfl) mT (by decide +kernel) (pa_cons
      (pe_lc2 (own := [("sign", 1), ("after", 2)]) (vs1 := [2]) (g := gName 1) (g1 := gName 2) (tt := tYes) (tt1 := tYes) rfl scAP.nd (pi_str (pv 0)) (blkOk_by (N := ["signs", "sign", "after"]) (sc := defScope sAllP) (by decide +kernel)) (by decide) (fun _ _ _ _ _ => pg_name (i := 1) scAP.nd rfl (.inl rfl)) (fun _ _ _ _ _ => pts_nil)
        (fun _ _ _ _ _ => pi_str (pv 0)) (fun _ _ _ _ _ => pg_name (i := 2) scAP.nd rfl (.inl rfl)) (fun _ _ _ _ _ => pts_nil) (fun _ _ _ _ _ => pe_op op_add_str (pv 1) (pv 2))) pa_nil))), ?_⟩
    refine ⟨_, rfl, _, rfl, fun D hD => it_go walk_str (fun i H3 => H3 D = some (.lst (((sg.take i).flatMap fun a => sg.map fun b => S [a, b]).map V.str)) ∧ Same H H3) ⟨upd_same, Same.put (Same.refl H) hD⟩ (fun _ _ _ _ => trivial) ?_ ?_⟩
    · rintro i x H3 H3' hi ⟨h1, h2⟩ ⟨rfl, c, hc, rfl⟩
      have hc' : sg[i]? = some c := by simpa [S] using hc
      rw [S_size] at hi
      have len : ((sg.take i).flatMap fun a => sg.map fun b => S [a, b]).length ≤ 16 := by
        have e : ((sg.take i).flatMap fun a => sg.map fun b => S [a, b]).length = (sg.take i).length * sg.length := by
          rw [List.length_flatMap, show ((sg.take i).map fun a => (sg.map fun b => S [a, b]).length) = List.replicate (sg.take i).length sg.length from List.map_eq_replicate_iff.mpr fun _ _ => List.length_map ..  , List.sum_replicate_nat]
        rw [e]
        exact Nat.le_trans (Nat.mul_le_mul (by rw [List.length_take]; omega : (sg.take i).length ≤ 4) few) (by decide)
      refine ⟨rfl, _, rfl, _, rfl, it_go walk_str (fun j H4 => H4 D = some (.lst ((((sg.take i).flatMap fun a => sg.map fun b => S [a, b]) ++ (sg.take j).map fun b => S [c, b]).map V.str)) ∧ Same H H4) ⟨by rw [h1]; simp, h2⟩ (fun _ _ _ _ => trivial) ?_ ?_⟩
      · rintro j y H4 H4' hj ⟨e1, e2⟩ ⟨rfl, d, hd, rfl⟩
        have hd' : sg[j]? = some d := by simpa [S] using hd
        refine ⟨rfl, _, rfl, _, rfl, _, _, rfl, rfl, (by show 1 + 1 ≤ sizeLine; decide), _, e1, ?_, ?_, Same.new' e2 hD⟩
        · rw [List.length_map, List.length_append, List.length_map, sizeLine_eq]
          have := List.length_take_le' j sg
          omega
        · rw [upd_same, take_more hd']
          refine congrArg (fun q => some (HO.lst q)) ?_
          simp only [List.map_append, List.map_cons, List.map_nil, List.append_assoc]
          rfl
      · rintro H4 ⟨e1, e2⟩
        rw [S_size, List.take_length] at e1
        refine ⟨?_, e2⟩
        rw [e1, take_more hc', List.flatMap_append]
        simp
    · rintro H3 ⟨h1, h2⟩
      rw [S_size, List.take_length] at h1
      exact ⟨D, _, rfl, .inl ⟨SqL.of h1, fun l hl => k l _ (by cases e : H l with | none => rfl | some o => rw [h2 _ _ e] at hl; cases hl) (Same.put h2 hl) upd_same⟩⟩
end
/-! ## k08 WbSo.lean -/
/-- are two lists of texts equal, as data -/
theorem eqvAll_strs : ∀ xs ys : List Str, PyData.eqvAll (xs.map PyData.str) (ys.map PyData.str) = decide (xs = ys)
  | [], [] => rfl
  | [], _ :: _ => rfl
  | _ :: _, [] => rfl
  | x :: xs, y :: ys => by
    show (x == y && PyData.eqvAll (xs.map PyData.str) (ys.map PyData.str)) = _
    rw [eqvAll_strs xs ys, Bool.eq_iff_iff, Bool.and_eq_true, beq_iff_eq, decide_eq_true_iff, decide_eq_true_iff, List.cons.injEq]
/-! ## k08 WbK5.lean -/
abbrev sKRow : Stmt := inClass (top 36) 3
abbrev sKMade : Stmt := inClass (top 36) 4
abbrev sKEq : Stmt := inClass (top 36) 6
theorem FunD_ok {P : Program} {w : World} {K : PySem.W.Frag} {mg : Str → Option Value} {base : Heap} {x qual : Str} {params : Arguments} {body : List Stmt} {scope : Scope} {dvs : List V} {kws : List (Str × V)} {f : Addr} {fd : FuncData} {N ps : List Str} {k : Nat} {sp : Sp} (F : FunD K x qual params body scope dvs kws f fd) (S : FnScope N ps scope) (len : ∀ vs H Q E, sp vs H Q E → vs.length = ps.length)
    (hbody : ∀ (cdv : Value) (A : Around) (outer : List Env) (s : Shared) (H : Hp) (vs : List V) (Q : VK) (E : XK), Room k (A.deeper (PyProof.Rows.envOfC qual scope s.heap.objs.size f cdv)) → sp vs H Q E →
      ∃ t, PSs (cxOf CX0 P w K mg base N qual scope f cdv A outer s H E).nox body t ∧ t { nx := fun _ H' => Q .non H', rt := Q } (start N vs) H) : FnOk P w K mg base CX0 (k + 1) f fd ps sp :=
  F.ok S len fun cdv A outer s H vs Q E hr hsp => by
    obtain ⟨t, h, q⟩ := hbody cdv A outer s H vs Q E hr hsp
    exact ⟨t, h.nox, q⟩
theorem FunD_kbn {K : PySem.W.Frag} {x qual : Str} {params : Arguments} {body : List Stmt} {scope : Scope} {dvs : List V} {f : Addr} {fd : FuncData} {ps : List Str} (F : FunD K x qual params body scope dvs [] f fd) (n : Nat) (ks : List Str) (g : {α : Type} → List α → List α → List α → List α) (hd : dvs ≠ [])
    (hrel : ∀ {vs ds zs : List V} {us its ws : List Value}, Vals vs us → Vals ds its → Vals zs ws → Vals (g vs ds zs) (g us its ws))
    (h : ∀ (T : Addr) (kV doc pm : Value) (an : Option Addr) (cdv ct : Value) (us its ws : List Value), us.length = n → its.length = dvs.length → ws.length = ks.length →
      ∃ k, bindArgs (PySem.W.fnOf x qual params body scope (.ref T) kV doc pm an cdv ct) ⟨us, ks.zip ws⟩ = seqItems? (.ref T) >>= k ∧ k (some its.toArray) = pure (ps.zip (g us its ws))) :
    ∃ its : List Value, KBn K fd ps n ks (fun us ws => g us its ws) (fun vs zs => g vs dvs zs) := by
  obtain ⟨oc, od, dV, kV, doc, pm, an, cdv, ct, osl, rfl, lk, hcd, hD, hK⟩ := F.ex
  rcases hD with ⟨e, _⟩ | ⟨_, T, o, its, m, rfl, lT, oT, rT⟩
  · exact absurd e hd
  · refine ⟨its, ⟨fun s us ws X l1 l2 => ?_, fun r1 r2 => hrel r1 rT r2⟩⟩
    obtain ⟨k, e1, e2⟩ := h T kV doc pm an cdv ct us its ws l1 rT.length.symm l2
    refine BindsTo.of_looks fun M => ?_
    rw [e1]
    exact looks_items X lT oT (.of_pure e2)
/-- Kind(pairs=p, signs=s); Kind(signs=s); Kind(s, pairs=p) -/
def gA {α : Type} : List α → List α → List α → List α
  | [u], _, [p, s] => [u, s, p]
  | _, _, _ => []
def gC {α : Type} : List α → List α → List α → List α
  | [u, s], _, [p] => [u, s, p]
  | _, _, _ => []
theorem gA_rel {vs ds zs : List V} {us its ws : List Value} (a : Vals vs us) (b : Vals ds its) (c : Vals zs ws) : Vals (gA vs ds zs) (gA us its ws) := by
  cases a with
  | nil => exact .nil
  | cons p r => cases r with
    | cons _ _ => exact .nil
    | nil => cases c with
      | nil => exact .nil
      | cons q t => cases t with
        | nil => exact .nil
        | cons q2 t2 => cases t2 with
          | nil => exact .cons p (.cons q2 (.cons q .nil))
          | cons _ _ => exact .nil
structure KA where
  (C fI fW fE pW : Addr)
  (dI dW dE : FuncData)
  (signs signof first ispair chpairs allp has isword : Addr)
  (dsigns dsignof dfirst dispair dchpairs dallp dhas disword : FuncData)
/-- what the top has written of Kind -/
structure KindF (K : PySem.W.Frag) (mg : Str → Option Value) (A : KA) : Prop where
  T : KTxt K mg A.C
  M : Mk K A.C A.fI
  FI : FunD K "__init__" "Kind.__init__" (defArgs sKInit) (defBody sKInit) (defScope sKInit) [.non] [] A.fI A.dI
  bI3 : Binds K A.dI ["self", "signs", "pairs"] []
  FW : Fun K "row" "Kind.row" sKRow A.fW A.dW
  bW : Binds K A.dW ["self"] []
  hW : PropOf K A.C "row" A.pW A.fW
  FE : Fun K "__eq__" "Kind.__eq__" sKEq A.fE A.dE
  bE : Binds K A.dE ["self", "other"] []
  mE : Meth K A.C "__eq__" A.fE
  nf : PySem.W.notFirst K A.C (.ref A.C) = true
  hgt : PySem.W.specialIn K (.builtin "object.__class__") "__get__" = some (some (.builtin "getset_descriptor.__get__"))
  htk : PySem.W.takesIn K (.builtin "object.__class__") = some true
  signs : Def K mg "is_signs" sIsSigns ["value"] A.signs A.dsigns
  signof : Def K mg "is_sign_of" sSignOf ["value", "signs"] A.signof A.dsignof
  first : Def K mg "first_wrong" sFirst ["values", "right"] A.first A.dfirst
  ispair : Def K mg "_is_pair" sIsPair ["value", "signs"] A.ispair A.dispair
  chpairs : Def K mg "_check_pairs" sChPairs ["pairs", "signs"] A.chpairs A.dchpairs
  allp : Def K mg "_all_pairs" sAllP ["signs"] A.allp A.dallp
  has : Def K mg "_has_ring" sHas ["signs", "pairs"] A.has A.dhas
  isword : Def K mg "is_word" sIsWord ["value"] A.isword A.disword
  w6 : ∃ t : Tok, mg "MOST_WORD" = some (.int 600 t)
  w4 : ∃ t : Tok, mg "MOST_SIGNS" = some (.int 4 t)
  tup : mg "tuple" = none
  lst : mg "list" = none
  any : mg "any" = none
  enum : mg "enumerate" = none
  sort : mg "sorted" = none
theorem pair_nd' {sg : List Nat} (nd : sg.Nodup) : ∀ as : List Nat, as.Nodup → (as.flatMap fun a => sg.map fun b => S [a, b]).Nodup
  | [], _ => List.nodup_nil
  | a :: as, h => by
    obtain ⟨h1, h2⟩ := List.nodup_cons.mp h
    rw [List.flatMap_cons, List.nodup_append]
    have n1 : (sg.map fun b => S [a, b]).Nodup := List.Pairwise.map _ (fun b c h q => h (by
      have := S_inj q
      injection this with _ h2
      injection h2)) nd
    have n2 : ∀ x ∈ sg.map (fun b => S [a, b]), ∀ y ∈ as.flatMap (fun a => sg.map fun b => S [a, b]), x ≠ y := by
      intro x hx y hy e
      subst e
      obtain ⟨c, _, rfl⟩ := List.mem_map.mp hx
      obtain ⟨b, hb, hy⟩ := List.mem_flatMap.mp hy
      obtain ⟨d, _, e⟩ := List.mem_map.mp hy
      have := S_inj e
      injection this with h3
      exact h1 (h3 ▸ hb)
    exact ⟨n1, pair_nd' nd as h2, n2⟩
theorem pair_nd {sg : List Nat} (nd : sg.Nodup) : (allP sg).Nodup := pair_nd' nd sg nd
theorem allP_perm {sg sg0 : List Nat} (h : sg.Perm sg0) (nd : sg0.Nodup) : (allP sg).Perm (allP sg0) := by
  refine (List.perm_ext_iff_of_nodup (pair_nd (h.nodup_iff.mpr nd)) (pair_nd nd)).mpr fun z => ?_
  rw [allP_mem, allP_mem]
  unfold PairOf
  exact ⟨fun ⟨a, b, h1, h2, h3⟩ => ⟨a, b, h.mem_iff.mp h1, h.mem_iff.mp h2, h3⟩, fun ⟨a, b, h1, h2, h3⟩ => ⟨a, b, h.mem_iff.mpr h1, h.mem_iff.mpr h2, h3⟩⟩
theorem leS_one {c d : Nat} : leS (sOne c) (sOne d) ↔ c ≤ d := by
  unfold leS sOne
  show ¬ ([d] : List Nat) < [c] ↔ _
  rw [List.cons_lt_cons_iff]
  simp
theorem leS_pair {a b c d : Nat} (h : a < c ∨ (a = c ∧ b ≤ d)) : leS (S [a, b]) (S [c, d]) := by
  unfold leS
  rw [S_cps, S_cps, List.cons_lt_cons_iff]
  rintro (q | ⟨q, r⟩)
  · omega
  · rw [List.cons_lt_cons_iff] at r
    rcases r with r | ⟨_, r⟩
    · omega
    · exact absurd r (List.lt_irrefl _)
theorem flat_pw {sg : List Nat} (h0 : sg.Pairwise (· ≤ ·)) : ∀ as : List Nat, as.Pairwise (· < ·) → (as.flatMap fun a => sg.map fun b => S [a, b]).Pairwise leS
  | [], _ => .nil
  | a :: as, h => by
    obtain ⟨h1, h2⟩ := List.pairwise_cons.mp h
    rw [List.flatMap_cons, List.pairwise_append]
    refine ⟨List.Pairwise.map _ (fun b c q => leS_pair (.inr ⟨rfl, q⟩)) h0, flat_pw h0 as h2, fun x hx y hy => ?_⟩
    obtain ⟨b, _, rfl⟩ := List.mem_map.mp hx
    obtain ⟨c, hc, hy⟩ := List.mem_flatMap.mp hy
    obtain ⟨d, _, rfl⟩ := List.mem_map.mp hy
    exact leS_pair (.inl (h1 c hc))
theorem allP_sorted {sg sg0 : List Nat} (h : sg.Perm sg0) (nd : sg0.Nodup) (s : PyProof.Rows.sortedS (sg.map sOne) = true) : PyProof.Rows.sortedS (allP sg) = true := by
  have nd' := h.nodup_iff.mpr nd
  have p1 : sg.Pairwise (· ≤ ·) := by
    have q := sorted_pw s
    rw [List.pairwise_map] at q
    exact q.imp fun {a b} r => leS_one.mp r
  have p2 : sg.Pairwise (· < ·) := by
    have q := List.Pairwise.and p1 nd'
    exact q.imp fun {a b} r => Nat.lt_of_le_of_ne r.1 r.2
  exact pw_sorted (flat_pw p1 sg p2)
section
variable {P : Program} {w : World} {K : PySem.W.Frag} {mg : Str → Option Value} {base : Heap} {A : KA}
theorem scKI : FnScope ["self", "signs", "pairs"] ["self", "signs", "pairs"] (defScope sKInit) := ⟨rfl, rfl, rfl, by decide +kernel, rfl, by decide +kernel, by decide +kernel⟩
set_option maxHeartbeats 0 in
theorem ok_kinit (D : KindF K mg A) (Z : Free mg) : FnOk P w K mg base CX0 4 A.fI A.dI ["self", "signs", "pairs"] (spKInit A.C) := by
  obtain ⟨t6, g6⟩ := D.w6
  obtain ⟨t4, g4⟩ := D.w4
  have GS : FnOk P w K mg base CX0 2 A.signs A.dsigns ["value"] spIsSigns := ok_issigns D.signs.F Z D.isword t6 g6 t4 g4
  have GC : FnOk P w K mg base CX0 3 A.chpairs A.dchpairs ["pairs", "signs"] spChPairs := ok_chpairs D.chpairs.F Z D.tup D.enum D.ispair D.signof D.first
  have GA : FnOk P w K mg base CX0 1 A.allp A.dallp ["signs"] spAllP := ok_allp D.allp.F Z D.tup
  have GH : FnOk P w K mg base CX0 1 A.has A.dhas ["signs", "pairs"] spHas := ok_has D.has.F Z D.lst D.any
  refine FunD_ok D.FI scKI (fun vs H Q E h => ?_) (fun cdv A' outer s H vs Q E hr h => ?_)
  · obtain ⟨H0, r, dx, sg0, x, ps0, rfl, _⟩ := h
    rfl
  · obtain ⟨H0, r, dx, sg0, x, ps0, rfl, G, hx, s0, r0, hp, k⟩ := h
    have hr1 : Room 1 _ := hr.mono (by decide)
    have hr2 : Room 2 _ := hr.mono (by decide)
    refine ⟨_, pss_cons (ps_if (pt_not (pt_val (pe_call GS hr2 rfl D.signs.g D.signs.kp D.signs.b .nil pass0 (pa_cons (pv 1) pa_nil)))) (pss_one ps_never) pss_nil)
      (pss_cons (ps_if (pt_cmpR op_notN (pv 2) pe_non (nomark _)) (pss_one (ps_expr (pe_call GC hr rfl D.chpairs.g D.chpairs.kp D.chpairs.b .nil pass0 (pa_cons (pv 2) (pa_cons (pv 1) pa_nil))))) pss_nil)
      (pss_cons (ps_fld (pv 0) (pe_join pe_str (pe_callB (call_sortedTx rfl) (by rfl) D.sort (by decide +kernel) (pa_cons (pv 1) pa_nil))) rfl)
      (pss_cons (ps_fld (pv 0) (pe_ifExp (pt_cmpR op_isN (pv 2) pe_non (nomark _)) (pe_call GA hr1 rfl D.allp.g D.allp.kp D.allp.b .nil pass0 (pa_cons (pe_fld (pv 0) rfl) pa_nil))
          (pe_callTy call_tuple_of (by rfl) D.tup (by decide +kernel) (pa_cons (pe_callB call_sortedTup (by rfl) D.sort (by decide +kernel) (pa_cons (pv 2) pa_nil)) pa_nil))) rfl)
      (pss_one (ps_fld (pv 0) (pe_call GH hr1 rfl D.has.g D.has.kp D.has.b .nil pass0 (pa_cons (pe_fld (pv 0) rfl) (pa_cons (pe_fld (pv 0) rfl) pa_nil))) rfl))))), ?_⟩
    have few := G.few
    have pos := G.pos
    refine ⟨_, rfl, sg0, rfl, G, fun H1 s1 => ⟨true, rfl, ?_⟩⟩
    have hr0 : H1 r = some (.ins A.C dx []) := s1 _ _ hp
    have fitS : ∀ {l : List Nat}, l.length ≤ 4 → (List.map (fun x : Str => x.length) (l.map sOne)).sum + (l.map sOne).length * (Str.ofString "").length ≤ 16777216 := fun {l} h => by
      have e1 : ((l.map sOne).map fun x => x.length) = List.replicate l.length 1 := by
        rw [List.map_map]
        exact List.map_eq_replicate_iff.mpr fun _ _ => rfl
      have e2 : (Str.ofString "").length = 0 := by decide +kernel
      rw [e1, e2, List.sum_replicate_nat]
      omega
    have s01 : Same H0 H1 := s0.trans s1
    rcases hx with ⟨rfl, rfl⟩ | ⟨t0, rfl, ht0, hpr⟩
    · refine ⟨_, rfl, rfl, _, rfl, ?_⟩
      show if (!decide (V.non = V.non)) = true then _ else _
      rw [decide_eq_true rfl]
      refine iteF ?_
      refine ⟨⟨_, rfl⟩, _, rfl, S sg0, rfl, by rw [S_len]; omega, fun ys p perm srt hp' => ?_⟩
      rw [S_cps] at perm
      obtain ⟨sg, hsg, rfl⟩ := perm_codes perm
      have sl : sg.length = sg0.length := hsg.length_eq
      have nrp : r ≠ p := ne_of_none hr0 hp'
      refine ⟨_, p, sg.map sOne, rfl, rfl, .inl (SqL.of upd_same), ?_, ?_⟩
      · exact fitS (l := sg) (by omega)
      have ej : Txt.join (Str.ofString "") (sg.map sOne) = S sg := join_one (by omega)
      rw [ej]
      refine ⟨_, rfl, r, A.C, dx, _, rfl, (upd_ne nrp).trans hr0, D.T.cl, D.T.nS, (by show 0 < 1000; decide), ?_⟩
      have s02 := Same.new' (o := .ins A.C dx (putF "_signs" (.str (S sg)) [])) (Same.put (o := .lst ((sg.map sOne).map V.str)) s01 hp') r0
      refine ⟨_, rfl, rfl, _, rfl, ?_⟩
      refine ifd rfl ?_
      refine ⟨_, rfl, r, A.C, dx, _, _, rfl, upd_same, D.T.cl, D.T.nS, by rw [lookup_putF, if_pos rfl], sg, rfl, by omega, fun t H3 ht s3 h3 => ?_⟩
      have h3r := s3 _ _ (upd_same (a := r))
      have ntr : t ≠ r := fun q => by rw [q, upd_same] at ht; cases ht
      refine ⟨_, rfl, r, A.C, dx, _, rfl, h3r, D.T.cl, D.T.nP, (by show 1 < 1000; decide), ?_⟩
      refine ⟨_, rfl, r, A.C, dx, _, _, rfl, upd_same, D.T.cl, D.T.nS, by rw [lookup_putF, if_neg k12, lookup_putF, if_pos rfl], _, rfl, r, A.C, dx, _, _, rfl, upd_same, D.T.cl, D.T.nP, by rw [lookup_putF, if_pos rfl], ?_⟩
      refine ⟨t, sg, allP sg, rfl, (upd_ne ntr).trans h3, by omega, fun b H5 s5 => ?_⟩
      refine ⟨_, rfl, r, A.C, dx, _, rfl, s5 _ _ upd_same, D.T.cl, D.T.nR, (by show 2 < 1000; decide), ?_⟩
      refine k _ sg (allP sg) ?_ hsg srt (allP_perm hsg G.nd) (allP_sorted hsg G.nd srt) ⟨dx, t, b, upd_same, (upd_ne ntr).trans (s5 _ _ ((upd_ne ntr).trans h3))⟩
      exact Same.new' ((Same.new' (s02.trans s3) r0).trans s5) r0
    · refine ⟨_, rfl, rfl, _, rfl, ?_⟩
      show if (!decide (V.ref t0 = V.non)) = true then _ else _
      rw [decide_eq_false (by intro q; cases q)]
      refine iteT ⟨_, rfl, _, rfl, t0, sg0, ps0, rfl, s1 _ _ ht0, hpr, fun H2 s2 => ?_⟩
      have hr2' := s2 _ _ hr0
      have ht2 := s2 _ _ (s1 _ _ ht0)
      refine ⟨⟨_, rfl⟩, _, rfl, S sg0, rfl, by rw [S_len]; omega, fun ys p perm srt hp' => ?_⟩
      rw [S_cps] at perm
      obtain ⟨sg, hsg, rfl⟩ := perm_codes perm
      have sl : sg.length = sg0.length := hsg.length_eq
      have nrp : r ≠ p := ne_of_none hr2' hp'
      refine ⟨_, p, sg.map sOne, rfl, rfl, .inl (SqL.of upd_same), ?_, ?_⟩
      · exact fitS (l := sg) (by omega)
      have ej : Txt.join (Str.ofString "") (sg.map sOne) = S sg := join_one (by omega)
      rw [ej]
      refine ⟨_, rfl, r, A.C, dx, _, rfl, (upd_ne nrp).trans hr2', D.T.cl, D.T.nS, (by show 0 < 1000; decide), ?_⟩
      have s03 := Same.new' (o := .ins A.C dx (putF "_signs" (.str (S sg)) [])) (Same.put (o := .lst ((sg.map sOne).map V.str)) (s01.trans s2) hp') r0
      have ntr0 : t0 ≠ r := ne_of ht2 hr2' (by intro q; cases q)
      have ht3 := (upd_ne (o := .ins A.C dx (putF "_signs" (.str (S sg)) [])) ntr0).trans ((upd_ne (o := .lst ((sg.map sOne).map V.str)) (ne_of_none ht2 hp')).trans ht2)
      refine ⟨_, rfl, rfl, _, rfl, ?_⟩
      refine ifn (by intro q; cases q) ?_
      have few0 := hpr.few
      refine ⟨_, rfl, t0, ps0, rfl, SqT.of ht3, by omega, fun ys p2 perm2 srt2 hp2 => ⟨p2, _, rfl, .inl ⟨SqL.of upd_same, fun t ht => ?_⟩⟩⟩
      have np2 : r ≠ p2 := ne_of_none upd_same hp2
      have nt : r ≠ t := ne_of_none ((upd_ne np2).trans upd_same) ht
      refine ⟨_, rfl, r, A.C, dx, _, rfl, (upd_ne nt).trans ((upd_ne np2).trans upd_same), D.T.cl, D.T.nP, (by show 1 < 1000; decide), ?_⟩
      refine ⟨_, rfl, r, A.C, dx, _, _, rfl, upd_same, D.T.cl, D.T.nS, by rw [lookup_putF, if_neg k12, lookup_putF, if_pos rfl], _, rfl, r, A.C, dx, _, _, rfl, upd_same, D.T.cl, D.T.nP, by rw [lookup_putF, if_pos rfl], ?_⟩
      refine ⟨t, sg, ys, rfl, (upd_ne nt.symm).trans upd_same, by omega, fun b H5 s5 => ?_⟩
      refine ⟨_, rfl, r, A.C, dx, _, rfl, s5 _ _ upd_same, D.T.cl, D.T.nR, (by show 2 < 1000; decide), ?_⟩
      refine k _ sg ys ?_ hsg srt perm2 srt2 ⟨dx, t, b, upd_same, (upd_ne nt.symm).trans (s5 _ _ ((upd_ne nt.symm).trans upd_same))⟩
      exact Same.new' ((Same.new' (Same.put (Same.put s03 hp2) ht) r0).trans s5) r0
def spKRow (C : Addr) : Sp := fun vs H Q _ => ∃ (r : Addr) (sg : List Nat) (ps : List Str), vs = [.ref r] ∧ KindAt C H r sg ps ∧ ∀ (q t : Addr) (H' : Hp), H q = none → Same H H' → H' q = some (.tup [.str (S sg), .ref t]) → H' t = some (.tup (ps.map V.str)) → Q (.ref q) H'
theorem scK3 : FnScope ["self"] ["self"] (defScope sKRow) := ⟨rfl, rfl, rfl, by decide +kernel, rfl, by decide +kernel, by decide +kernel⟩
theorem ok_krow (D : KindF K mg A) : FnOk P w K mg base CX0 1 A.fW A.dW ["self"] (spKRow A.C) := by
  refine D.FW.ok scK3 (fun vs H Q E h => ?_) (fun cdv A' outer s H vs Q E hr h => ?_)
  · obtain ⟨r, sg, ps, rfl, _⟩ := h
    rfl
  · obtain ⟨r, sg, ps, rfl, ⟨dx, t, b, e1, e2⟩, k⟩ := h
    refine ⟨_, pss_one (ps_ret (pe_tup (pa_cons (pe_fld (pv 0) rfl) (pa_cons (pe_fld (pv 0) rfl) pa_nil)))), ?_⟩
    refine ⟨_, rfl, r, A.C, dx, _, _, rfl, e1, D.T.cl, D.T.nS, kf_signs _ _ _, _, rfl, r, A.C, dx, _, _, rfl, e1, D.T.cl, D.T.nP, kf_pairs _ _ _, (by show 2 ≤ sizeLine; decide), fun q hq => ?_⟩
    exact k q t _ hq (Same.put (Same.refl H) hq) upd_same ((upd_ne (ne_of_none e2 hq)).trans e2)
end
end Wb
/-! first_wrong, good or bad -/
namespace Wb
open PySem L2 WbMin WbS Lz
/-- whether the one at i is wrong: no key, or a key that stood before -/
def badAt {α : Type} [DecidableEq α] (l : List (Option α)) (i : Nat) : Bool := match l[i]? with
  | some (some a) => decide (some a ∈ l.take i)
  | _ => true
/-- the first that is wrong -/
def fwO {α : Type} [DecidableEq α] (l : List (Option α)) : Option Nat := (List.range l.length).find? (badAt l)
def opI : Option Nat → V
  | none => .non
  | some i => .int (i : Nat)
section
variable {α : Type} [DecidableEq α] {l : List (Option α)} {i : Nat}
theorem find_hit {p : Nat → Bool} : ∀ {n i : Nat}, i < n → p i = true → (∀ j, j < i → p j = false) → (List.range n).find? p = some i := fun {n i} hi h pre => by
  rw [List.find?_range_eq_some]
  exact ⟨h, List.mem_range.mpr hi, fun j hj => by rw [pre j hj]; rfl⟩
theorem fwO_hit (hi : i < l.length) (h : badAt l i = true) (pre : ∀ j, j < i → badAt l j = false) : fwO l = some i := find_hit hi h pre
theorem fwO_none (pre : ∀ j, j < l.length → badAt l j = false) : fwO l = none := by
  unfold fwO
  rw [List.find?_eq_none]
  intro j hj
  rw [pre j (List.mem_range.mp hj)]
  exact Bool.false_ne_true
theorem badAt_some {a : α} (h : l[i]? = some (some a)) : badAt l i = decide (some a ∈ l.take i) := by
  unfold badAt
  rw [h]
theorem badAt_non (h : l[i]? = some none) : badAt l i = true := by
  unfold badAt
  rw [h]
/-- before the first wrong one stand keys, no two alike -/
theorem fw_pre : ∀ {i : Nat}, i ≤ l.length → (∀ j, j < i → badAt l j = false) → ∃ ks : List α, ks.length = i ∧ l.take i = ks.map some ∧ ks.Nodup
  | 0, _, _ => ⟨[], rfl, rfl, List.nodup_nil⟩
  | i + 1, hi, pre => by
    obtain ⟨ks, h1, h2, h3⟩ := fw_pre (i := i) (by omega) fun j hj => pre j (by omega)
    have hl : l[i]? = some l[i] := List.getElem?_eq_getElem (by omega)
    have b := pre i (by omega)
    cases e : l[i] with
    | none =>
      rw [e] at hl
      rw [badAt_non hl] at b
      cases b
    | some a =>
      rw [e] at hl
      rw [badAt_some hl, h2, decide_eq_false_iff_not] at b
      refine ⟨ks ++ [a], by rw [List.length_append, h1]; rfl, ?_, ?_⟩
      · rw [List.take_add_one, hl, h2, List.map_append] <;> rfl
      · rw [List.nodup_append]
        refine ⟨h3, List.nodup_cons.mpr ⟨List.not_mem_nil, List.nodup_nil⟩, ?_⟩
        rintro x hx y hy rfl
        rw [List.mem_singleton] at hy
        subst hy
        exact b (List.mem_map.mpr ⟨_, hx, rfl⟩)
theorem mem_some {a : α} {ks : List α} : decide (some a ∈ ks.map some) = decide (a ∈ ks) := by
  refine decide_eq_decide.mpr ⟨fun h => ?_, fun h => List.mem_map.mpr ⟨_, h, rfl⟩⟩
  obtain ⟨b, hb, e⟩ := List.mem_map.mp h
  cases e
  exact hb
end
/-- texts stand where keys are told -/
def KeyT (l : List (Option Str)) (xs : List V) : Prop := l.length = xs.length ∧ ∀ (i : Nat) (z : Str), l[i]? = some (some z) → xs[i]? = some (V.str z)
/-- pairs of texts stand where keys are told -/
def KeyP (H : Hp) (l : List (Option (Str × Str))) (xs : List V) : Prop := l.length = xs.length ∧ ∀ (i : Nat) (p : Str × Str), l[i]? = some (some p) → okP p ∧ ∃ a, xs[i]? = some (V.ref a) ∧ H a = some (.tup (pV p))
theorem KeyT.take {l : List (Option Str)} {xs : List V} (h : KeyT l xs) {i : Nat} {ks : List Str} (hk : ks.length = i) (e : l.take i = ks.map some) : xs.take i = ks.map V.str := by
  refine List.ext_getElem? fun j => ?_
  rw [List.getElem?_map]
  by_cases hj : j < i
  · rw [List.getElem?_take_of_lt hj]
    have hk' : ks[j]? = some ks[j] := List.getElem?_eq_getElem (by omega)
    have q : (l.take i)[j]? = some (some ks[j]) := by rw [e, List.getElem?_map, hk'] <;> rfl
    rw [List.getElem?_take_of_lt hj] at q
    rw [h.2 j _ q, hk'] <;> rfl
  · rw [List.getElem?_eq_none (by rw [List.length_take]; omega), List.getElem?_eq_none (by omega)] <;> rfl
theorem KeyP.take {H : Hp} {l : List (Option (Str × Str))} {xs : List V} (h : KeyP H l xs) : ∀ {i : Nat} {ks : List (Str × Str)}, ks.length = i → l.take i = ks.map some → ∃ as : List Addr, xs.take i = as.map V.ref ∧ Tups H as (ks.map pV) ∧ ∀ p ∈ ks, okP p := fun {i ks} hk e => by
  have at_ : ∀ j, j < i → ∃ (p : Str × Str) (a : Addr), ks[j]? = some p ∧ okP p ∧ xs[j]? = some (V.ref a) ∧ H a = some (.tup (pV p)) := fun j hj => by
    have hk' : ks[j]? = some ks[j] := List.getElem?_eq_getElem (by omega)
    have q : (l.take i)[j]? = some (some ks[j]) := by rw [e, List.getElem?_map, hk'] <;> rfl
    rw [List.getElem?_take_of_lt hj] at q
    obtain ⟨o, a, h1, h2⟩ := h.2 j _ q
    exact ⟨_, a, hk', o, h1, h2⟩
  have main : ∀ n, n ≤ i → ∃ as : List Addr, xs.take n = as.map V.ref ∧ Tups H as ((ks.take n).map pV) := fun n => by
    induction n with
    | zero => exact fun _ => ⟨[], rfl, trivial⟩
    | succ n ih =>
      intro hn
      obtain ⟨as, h1, h2⟩ := ih (by omega)
      obtain ⟨p, a, e1, o, e2, e3⟩ := at_ n (by omega)
      refine ⟨as ++ [a], ?_, ?_⟩
      · rw [List.take_add_one, e2, h1, List.map_append] <;> rfl
      · have q : ((ks.take (n + 1)).map pV) = (ks.take n).map pV ++ [pV p] := by rw [List.take_add_one, e1, List.map_append] <;> rfl
        rw [q]
        exact Tups.snoc e3 h2
  obtain ⟨as, h1, h2⟩ := main i (Nat.le_refl i)
  rw [show ks.take i = ks from by rw [← hk, List.take_length]] at h2
  refine ⟨as, h1, h2, fun p hp => ?_⟩
  obtain ⟨j, hj, rfl⟩ := List.getElem_of_mem hp
  obtain ⟨p, a, e1, o, _⟩ := at_ j (by omega)
  rw [List.getElem?_eq_getElem hj] at e1
  cases e1
  exact o
theorem KeyP.same {H H' : Hp} {l : List (Option (Str × Str))} {xs : List V} (h : KeyP H l xs) (s : Same H H') : KeyP H' l xs := ⟨h.1, fun i p e => by
  obtain ⟨o, a, h1, h2⟩ := h.2 i p e
  exact ⟨o, a, h1, s _ _ h2⟩⟩
def flV {α : Type} (l : List (Option α)) : List V := (l.map Option.isSome).map V.bl
def spFirstA : Sp := fun vs H Q _ => ∃ (t L : Addr) (xs : List V) (l : List (Option Str)), vs = [.ref t, .ref L] ∧ H t = some (.tup xs) ∧ KeyT l xs ∧ H L = some (.lst (flV l)) ∧ ∀ H', Same H H' → Q (opI (fwO l)) H'
theorem flV_at {α : Type} {l : List (Option α)} {i : Nat} {o : Option α} (h : l[i]? = some o) : (flV l)[i]? = some (.bl o.isSome) := by
  unfold flV
  rw [List.getElem?_map, List.getElem?_map, h] <;> rfl
theorem cut_take {xs : List V} {i : Nat} (hi : i ≤ xs.length) : cutV xs none (some ((i : Nat) : Int)) = xs.take i := by
  unfold cutV
  rw [HT.sIx_none, HT.sIx_nat, Nat.min_eq_left hi]
  rfl
section
variable {P : Program} {w : World} {K : PySem.W.Frag} {mg : Str → Option Value} {base : Heap} {f : Addr} {fd : FuncData}
set_option maxHeartbeats 1600000 in
theorem ok_firstA (F : Fun K "first_wrong" "first_wrong" sFirst f fd) (mE : mg "enumerate" = none) : FnOk P w K mg base CX0 1 f fd ["values", "right"] spFirstA := by
  refine F.ok scFw (fun vs H Q E h => ?_) (fun cdv A outer s H vs Q E hr h => ?_)
  · obtain ⟨t, L, xs, l, rfl, _⟩ := h
    rfl
  · obtain ⟨t, L, xs, l, rfl, ht, kt, hL, k⟩ := h
    refine ⟨_, pss_cons (ps_for PassesOwn.never rfl (pi_enumT (by rfl) mE (pa_cons (pv 0) pa_nil)) (pg_tup (by rfl) (pgs_cons (pg_name (i := 2) scFw.nd rfl (.inl rfl)) (pgs_cons (pg_name (i := 3) scFw.nd rfl (.inl rfl)) pgs_nil)))
        (pss_one (ps_if (PW.pt (pw_or (pt_not (pt_val (pe_ix ix_list (pv 1) (pv 2) (fun _ _ => rfl)))) (pw_or1 (pt_cmpR op_in_seq (pv 3) (pe_slice sl_tup (pv 0) po_none (po_some (pv 2))) (by rfl))))) (pss_one (ps_ret (pv 2))) pss_nil)))
      (pss_one (ps_ret pe_non)), ?_⟩
    refine ⟨_, rfl, t, _, rfl, SqT.of ht, for_it walk_enumT (fun i σ H' => ∃ v2 v3 : Option V, σ = [some (.ref t), some (.ref L), v2, v3] ∧ Same H H' ∧ ∀ j, j < i → badAt l j = false) ⟨none, none, rfl, Same.refl H, fun j hj => absurd hj (Nat.not_lt_zero j)⟩ (fun _ _ _ _ h => by obtain ⟨_, _, _, h, _⟩ := h; exact SqT.of (h _ _ ht)) ?_ ?_⟩
    · rintro i x σ H2 H3 hi ⟨v2, v3, rfl, s2, pre⟩ ⟨T, a, b, rfl, hT, rfl, ea, eb⟩
      cases ea
      dsimp only at eb
      have hil : i < l.length := by rw [kt.1]; exact hi
      have sT := Same.put (o := .tup [.int (i : Nat), b]) s2 hT
      have hl : l[i]? = some l[i] := List.getElem?_eq_getElem hil
      refine ⟨T, _, rfl, SqT.of upd_same, rfl, _, _, rfl, _, _, rfl, rfl, ?_⟩
      refine ⟨_, rfl, _, rfl, L, _, _, .bl l[i].isSome, rfl, rfl, SqL.of (sT _ _ hL), atI_nat (flV_at hl), l[i].isSome, rfl, ?_⟩
      cases e : l[i] with
      | none =>
        rw [e] at hl
        rw [fwO_hit hil (badAt_non hl) pre] at k
        exact ⟨_, rfl, k _ sT⟩
      | some z =>
        rw [e] at hl
        obtain ⟨ks, k1, k2, k3⟩ := fw_pre (Nat.le_of_lt hil) pre
        have ez := kt.2 i z hl
        rw [ez] at eb
        cases eb
        refine ⟨_, rfl, _, rfl, _, rfl, _, rfl, t, _, rfl, SqT.of (sT _ _ ht), ?_, fun u hu => ?_⟩
        · rintro ⟨_, q⟩
          rw [HT.sIx_nat] at q
          omega
        · rw [cut_take (Nat.le_of_lt hi), kt.take k1 k2]
          refine ⟨u, _, rfl, .inr (SqT.of upd_same), rfl, flat_strs _, _, rfl, ?_⟩
          have ebad : badAt l i = inV (.str z) (ks.map V.str) := by rw [inV_strs, badAt_some hl, k2, mem_some]
          show if inV (.str z) (ks.map V.str) = true then _ else _
          rw [← ebad]
          cases eb2 : badAt l i with
          | true =>
            rw [fwO_hit hil eb2 pre] at k
            exact ⟨_, rfl, k _ (Same.put sT hu)⟩
          | false =>
            refine ⟨_, _, rfl, Same.put sT hu, fun j hj => ?_⟩
            rcases Nat.lt_succ_iff_lt_or_eq.mp hj with hj | rfl
            · exact pre j hj
            · exact eb2
    · rintro σ H2 ⟨v2, v3, rfl, s2, pre⟩
      rw [fwO_none fun j hj => pre j (by rw [kt.1] at hj; exact hj)] at k
      exact k H2 s2
end
end Wb
set_option maxHeartbeats 1000000
/-! try: .. except X as n: .. except Y as n: .. and so on, the clauses behind the one that takes it unlooked at -/
namespace Le
open PySem PySem.Spec PyProof.Rows L2
/-- a suite's ways out, where the clause's name i goes -/
def offD (D : Ends) (i : Nat) : Ends where
  nx := fun τ G => D.nx (τ.set i none) G
  rt := D.rt
  bk := fun τ G => D.bk (τ.set i none) G
  ct := fun τ G => D.ct (τ.set i none) G
abbrev Suite := Addr → Value → Option Addr → TS
/-- the wish of the clauses, one by one -/
def wCls (K : PySem.W.Frag) (D : Ends) : List (Value × Nat × Suite) → WX
  | [] => fun _ _ _ _ => False
  | (c, i, t) :: more => fun cl dd τ G => ∃ yes, PySem.W.exmOne K cl c = some yes ∧ (yes = true → ∀ r, G r = none → t r cl dd (offD D i) (τ.set i (some (.ref r))) G) ∧ (yes = false → wCls K D more cl dd τ G)
inductive Clauses (X : Cx) : List ExceptHandler → List (Value × Nat × Suite) → Prop
  | rest (hds : List ExceptHandler) : Clauses X hds []
  | as_ {x n : Str} {c : Value} {i : Nat} {t : Suite} {b : Stmt} {bs : List Stmt} {p p' : Pos} {hds : List ExceptHandler} {more : List (Value × Nat × Suite)} (at_ : X.N[i]? = some n) (lo : X.env.kindOf n = some .local) (nm : Names X x c)
      (suite : ∀ (r : Addr) (o : Obj) (cl : Value) (dd : Option Addr) (pn : List (Addr × Obj)), L2N.Zn cl dd o → (∃ fs, o.data = .fields fs) → PSs (X.suite r ((r, o) :: pn)) (b :: bs) (t r cl dd)) (tl : Clauses X hds more) :
      Clauses X (.ExceptHandler (some (.Name x p)) (some n) (b :: bs) p' :: hds) ((c, i, t) :: more)
section
variable {X : Cx} {pins : List (Addr × Obj)} {τ : L2.St} {G : Hp} {D : Ends}
/-- the exception r is on the ground, the state without it is known: the clauses take it -/
theorem taken {r : Addr} {B : Heap} {cl : Value} {dd : Option Addr} {sI s : Shared} (hN : X.N.Nodup) (J : Inv X pins τ G sI) (far : ∀ b o, sI.heap.get? b = some o → b ∉ frs X.stack → B.get? b = some o) (hs : X.stack = X.env :: X.outer) (hf : X.env.frame = some X.env.locals)
    (up : sI.heap.UpToSlots s.heap) (sos : s.os = sI.os) (sb : AllBare s.gens) (nr : G r = none) (fly : HandSPX.FlyingZ B (X.env :: X.outer) r (L2N.Zn cl dd) s.heap) :
    ∀ {hds : List ExceptHandler} {l : List (Value × Nat × Suite)}, Clauses X hds l → wCls X.K D l cl dd τ G → wpAny (model X.prog X.w) X.A (handleBy (.ref r) X.env hds) (SP X pins D) X.xe s := by
  have okX := J.ok
  have grounded : ∀ {h : Heap}, HandSPX.FlyingZ B (X.env :: X.outer) r (L2N.Zn cl dd) h → sI.heap.UpToSlots h → Inv X pins τ G { s with heap := h } := fun {h} fl u =>
    J.landed (s' := { s with heap := h }) far fl.1 u sos sb
  obtain ⟨o1, fs1, g1, z1, d1⟩ := fly.there
  have out : r ∉ frs (X.env :: X.outer) := fun m => by
    obtain ⟨_, o2, g2, nof⟩ := fly.2.2.1.mem m
    rw [g1] at g2
    cases g2
    exact nof _ d1
  have offL : r ≠ X.env.locals := fun q => out (List.mem_filterMap.mpr ⟨X.env, List.mem_cons_self, by rw [hf, q]⟩)
  have offF : r ∉ X.fs := fun m => by
    obtain ⟨en, hen, q⟩ := List.mem_filterMap.mp m
    exact out (List.mem_filterMap.mpr ⟨en, List.mem_cons_of_mem _ hen, q⟩)
  have J1 : Inv X pins τ G s := grounded (h := s.heap) fly up
  intro hds l hk
  induction hk with
  | rest _ => exact fun no => no.elim
  | @as_ x n c i t b bs p p' hds more at_ lo nm suite tl ih =>
    rintro ⟨yes, hy, onYes, onNo⟩
    have inS := J1.suite g1 d1 nr offL offF
    have ty : PySem.W.Looks (model X.prog X.w) s.heap (typeOf (.ref r)) cl := fun A' Q' E' s' st q => wpAny_typeOf_ref (st _ _ g1) (by rw [z1.1]; exact q)
    have asked := PySem.W.exm_one (M := model X.prog X.w) J1.kIn ty hy
    have named : ∀ {Q' : Value → Shared → Prop} {E' : Value → Shared → Prop}, Q' c s → wpAny (model X.prog X.w) (X.A.mark (some (.ref r))) (eval (.Name x p) X.env) Q' E' s := fun {Q' E'} q => by
      obtain ⟨gl, nd, way⟩ := nm
      rcases way with m | ⟨m, bt, nn⟩
      · exact ld_glob (X := X.suite r ((r, o1) :: (X.pn ++ pins))) inS gl m q nd
      · exact ld_blt (X := X.suite r ((r, o1) :: (X.pn ++ pins))) inS gl m bt q nn nd
    refine wpAny_handleBy_cons (codeAny_handlers_test (named (asked.here ?_))) (by intro q; cases q)
    cases yes with
    | false => exact ih (onNo rfl)
    | true =>
      refine codeAny_handlers_suite_as (HandSPX.lands_againZ fly fun h' fly' u' => ?_)
      obtain ⟨o2, fs2, g2, z2, d2⟩ := fly'.there
      have J2 := grounded fly' (up.trans u')
      refine store_ok (X := X.suite r ((r, o2) :: (X.pn ++ pins))) (v := .ref r) (J2.suite g2 d2 nr offL offF) hN at_ (.inl lo) rfl (fun s3 I3 => ?_) (.inr lo)
      have leave : ∀ {τ' : L2.St} {G' : Hp} {s4 : Shared} {Q' : Shared → Prop}, Inv (X.suite r ((r, o2) :: (X.pn ++ pins))) [] τ' G' s4 → (∀ s5, Inv X pins (τ'.set i none) G' s5 → Q' s5) →
          wpAny (model X.prog X.w) X.A (do bindName X.env n .none; unbindBehindTheSuite X.env n p') (fun _ s5 => Q' s5) X.xe s4 := fun {τ' G' s4 Q'} I4 q => gone_ok (I4.unsuite okX) hN at_ lo q
      refine wpAny_mono ((suite r o2 cl dd (X.pn ++ pins) z2 ⟨_, d2⟩).run [] s3 _ G _ I3 (onYes rfl r nr)) (fun w s4 done => ?_) (fun _ _ no => no.elim)
      cases w with
      | next =>
        obtain ⟨_, _, I4, q⟩ := done
        exact leave I4 fun s5 I5 => ⟨_, _, I5, q⟩
      | brk =>
        obtain ⟨_, _, I4, q⟩ := done
        exact leave I4 fun s5 I5 => ⟨_, _, I5, q⟩
      | cont =>
        obtain ⟨_, _, I4, q⟩ := done
        exact leave I4 fun s5 I5 => ⟨_, _, I5, q⟩
      | ret u =>
        obtain ⟨_, _, _, I4, rel, q⟩ := done
        exact leave I4 fun s5 I5 => ⟨_, _, _, I5, rel, q⟩
end
end Le
set_option maxHeartbeats 1000000
/-! a, b = x, y where an exception is being handled -/
namespace Le
open PySem PySem.Spec PyProof.Rows L2 HotX
section
variable {prog : Program} {w : World} {A : Around} {E : Value → Shared → Prop} {s : Shared}
end
end Le
set_option maxHeartbeats 1000000
/-! C(e, ..) of an own class of errors with an own __init__, nothing being handled: its context is None -/
namespace Le
open PySem PySem.Spec PyProof.Rows L2
section
variable {X : Cx} {CX : CXT} {x : Str} {e : Expr} {es : List Expr} {ta : TA} {p pos : Pos} {C fI : Addr} {k : Nat} {fd : FuncData} {ps : List Str} {sp : Sp}
theorem pmk_calm (T : OexC X.K C) (ini : PySem.W.findIn X.K (.ref C) "__init__" = some (some (.ref fI))) (fun_ : PySem.W.typeIn X.K (.ref fI) = some (.type "function")) (F1 : FnOk X.prog X.w X.K X.mg X.base CX k fI fd ps sp) (hr : Room (k + 1) X.A) (hb : Binds X.K fd ps [])
    (quiet : Passes CX X fun _ _ _ => False) (gl : Gl X x) (gv : X.mg x = some (.ref C)) (ha : PA X (e :: es) ta) (nd : (x == ("__debug__" : Str)) = false := by decide) (st : starEach (e :: es) X.env = (false, eval e X.env) :: starEach es X.env := by rfl)
    (pl : (backTo pos (starEach es X.env)).any (·.1) = false := by rfl) : L2N.PMk X (.Call (.Name x p) (e :: es) [] pos) (tMkO C sp [] ta) := by
  intro pins s σ H Q I h
  obtain ⟨_, _, _, _, bm, _, _, _, _, _, _, _, _, _, _, cls, has⟩ := T.cls
  refine wpAny_Call_Name_kw (ld_glob I gl gv (PySem.W.callWith_K (h₀ := X.base) I.ok.mod.kin T.kC (thn (ha.run pos pins s σ H _ I h) fun us s1 ⟨vs, H1, I1, rel, few, goal⟩ => ⟨I1.kIn, ?_⟩) st pl) nd)
  obtain ⟨hp, g, dr, tk, os⟩ := s1
  obtain ⟨n, en⟩ : ∃ n, n = hp.objs.size + 1 := ⟨_, rfl⟩
  obtain ⟨h1, eh1⟩ : ∃ h1, h1 = (hp.push (PySem.W.kdv_tup us)).push (PySem.HandSPX.excO C hp.objs.size) := ⟨_, rfl⟩
  have up1 : hp.objs.size ≤ n := by rw [en]; exact Nat.le_succ _
  have fresh : H1 n = none := I1.hok.fresh up1
  have asked := goal n fresh
  rw [List.append_nil] at asked
  have kept : ∀ b o, hp.get? b = some o → h1.get? b = some o := fun b o z => by rw [eh1]; exact Heap.get?_push_of_some _ (Heap.get?_push_of_some _ z)
  have there : h1.get? n = some (PySem.HandSPX.excO C hp.objs.size) := by rw [eh1, en]; heap_get
  have I2 : Inv X pins σ (upd H1 n (exo n C none)) ⟨h1, g, dr, tk, os⟩ := I1.laid (t' := tk) (a := n) (o := exo n C none) (h' := h1) kept up1 (exo_ok there)
  have rel2 : Vals (V.ref n :: vs) (Value.ref n :: us) := .cons rfl rel
  have cnt : (Value.ref n :: us ++ []).length = ps.length := by rw [List.append_nil, ← rel2.length]; exact F1.len _ _ _ _ asked
  have b2 := hb _ (Value.ref n :: us) I2.kIn cnt
  rw [List.append_nil] at b2
  have small : us.length ≤ sizeLine := by rw [← Paired.length rel, sizeLine_eq]; omega
  show wpAny _ _ (call (.ref C) us) _ _ _
  have run := F1.run (X.A.under (.builtin "type.__call__" ⟨.ref C :: us, []⟩)) X.stack _ _ ⟨Value.ref n :: us, []⟩ (Value.ref n :: us) _ _ (fun _ _ _ => False) (hr.make C us []) (I2.env0.make C us []) b2 rel2 asked
  subst en
  subst eh1
  refine wpAny_call (PySem.HandSPX.call_own F.excBase_ValueError (fun Y => PySem.HandSPX.refsVE_contains Y bm has) (I1.kIn _ _ cls) (PySem.W.looks_findIn I1.kIn ini) (fun self => PySem.W.bind_fn I1.kIn self fun_) small (codeAny_mono run fun r s' q => ?_))
  cases r with
  | error er => exact quiet pins σ _ _ er s' I2 q
  | ok fl =>
    cases fl with
    | next => exact q.elim
    | brk => exact q.elim
    | cont => exact q.elim
    | ret u =>
      obtain ⟨v, H2, os2, bare2, un2, hok2, rv, ev, d, fs, ea, ed, hd1, q2⟩ := q
      subst ev
      obtain ⟨h2, g2, d2, t2, os'⟩ := s'
      obtain ⟨t0, G, J, kG, ge, hoe, na⟩ := mk_end0 (d2 := d2) (t2 := t2) I1 up1 kept un2 hok2 os2 bare2 ea ed hd1
      exact ⟨rv, hp.objs.size + 1, _, _, ⟨G, g2, d2, t2, os'⟩, _, .ref C, some d, rfl, J, kG, ge, hoe, ⟨rfl, rfl, fun vs hv => by cases hv; rfl⟩, rfl, rfl, na, rfl, bare2, raises_own T.exC T.tyC, q2⟩
end
end Le
set_option maxHeartbeats 1000000
/-! a def called with a lambda that may raise; of the exception it is kept that its context is None -/
namespace Le
open PySem PySem.Spec PyProof.Rows L2 LamX
section
variable {X : Cx} {pins : List (Addr × Obj)} {σ : L2.St} {H HZ : Hp} {s s1 : Shared}
end
end Le
set_option maxHeartbeats 1000000
/-! heard(lambda: ..): what the def that hears makes of the lambda's reading -/
namespace Le
open PySem PySem.Spec PyProof.Rows L2 LamX
abbrev Act := XK → Hp → VK → Prop
section
variable {X : Cx}
end
end Le
/-! the errors that the program raises itself: made, raised, asked for what they keep -/
namespace Wb
open PySem L2 PySem.Spec PyProof.Rows
section
variable {P : Program} {w : World} {K : PySem.W.Frag} {mg : Str → Option Value} {base : Heap}
/-- as Fun.ok, for a def that lets errors out; of their context it is told that it is None -/
theorem okN {x qual : Str} {st : Stmt} {f : Addr} {fd : FuncData} {N ps : List Str} {k : Nat} {sp : Sp} (F : Fun K x qual st f fd) (S : FnScope N ps (defScope st)) (len : ∀ vs H Q E, sp vs H Q E → vs.length = ps.length)
    (body : ∀ (cdv : Value) (A : Around) (outer : List Env) (s : Shared) (H : Hp) (vs : List V) (Q : VK) (E : XK), Room k (A.deeper (envOfC qual (defScope st) s.heap.objs.size f cdv)) → sp vs H Q E →
      ∃ t, PSs (cxOf (L2N.CX P w) P w K mg base N qual (defScope st) f cdv A outer s H E) (defBody st) t ∧ t { nx := fun _ H' => Q .non H', rt := Q } (L2.start N vs) H) : FnOk P w K mg base (L2N.CX P w) (k + 1) f fd ps sp := by
  obtain ⟨_, _, _, _, _, _, _, _, _, rfl, at_, code⟩ := F.ex
  exact fn_of at_ code S len (body _)
/-- what never raises keeps its promise whatever is told of errors -/
theorem FnOk.calm {CX : CXT} {k : Nat} {f : Addr} {fd : FuncData} {ps : List Str} {sp : Sp} (F : FnOk P w K mg base CX0 k f fd ps sp) : FnOk P w K mg base CX k f fd ps sp :=
  ⟨F.len, fun A outer s H args us vs Q E hr e0 hb r h => codeAny_mono (F.run A outer s H args us vs Q E hr e0 hb r h) fun res s' q => by
    cases res with
    | error e => exact (show False from q).elim
    | ok fl => cases fl <;> exact q⟩
theorem FnOk.either {CX : CXT} {k : Nat} {f : Addr} {fd : FuncData} {ps : List Str} {sp sp' : Sp} (F : FnOk P w K mg base CX k f fd ps sp) (G : FnOk P w K mg base CX k f fd ps sp') : FnOk P w K mg base CX k f fd ps (fun vs H Q E => sp vs H Q E ∨ sp' vs H Q E) :=
  ⟨fun vs H Q E h => h.elim (F.len vs H Q E) (G.len vs H Q E), fun A outer s H args us vs Q E hr e0 hb r h => h.elim (F.run A outer s H args us vs Q E hr e0 hb r) (G.run A outer s H args us vs Q E hr e0 hb r)⟩
end
def spErr (C : Addr) (g : Str) : Sp := fun vs H Q _ => ∃ (a : Addr) (y : V), vs = [.ref a, y] ∧ H a = some (exo a C none) ∧ ∀ d, H d = none → d ≠ a → Q .non (upd (upd H d (exd d [(g, y)])) a (exo a C (some d)))
/-- what the top has written of an error x whose attribute is g -/
structure ErrF (K : PySem.W.Frag) (mg : Str → Option Value) (x g qual : Str) (st : Stmt) (C f : Addr) (fd : FuncData) : Prop where
  o : OexC K C
  xf : XfC K C
  no : PySem.W.findIn K (.ref C) g = some none
  ini : PySem.W.findIn K (.ref C) "__init__" = some (some (.ref f))
  fn : PySem.W.typeIn K (.ref f) = some (.type "function")
  F : Fun K "__init__" qual st f fd
  b : Binds K fd ["self", g] []
  g : mg x = some (.ref C)
/-- raise C(y), y in slot i -/
def tBad (C : Addr) (g : Str) (W : WX) (i : Nat) : TS := fun _ σ H => ∃ v, σ[i]? = some (some v) ∧ ∀ d, H d = none → W (.ref C) (some d) σ (upd H d (.xd [(g, v)]))
theorem dict_left {H : Hp} {a d : Addr} {u1 u2 u3 o : HO} (ha : H a = none) (_ : d ≠ a) : upd (del (upd (upd (upd H a u1) d u2) a u3) a) d o = upd H d o := by
  funext b
  by_cases e : b = d
  · rw [e, upd_same, upd_same]
  · rw [upd_ne e, upd_ne e]
    by_cases e2 : b = a
    · rw [e2, del_same, ha]
    · rw [del_ne e2, upd_ne e2, upd_ne e, upd_ne e2]
section
variable {X : Cx} {W : WX} {C f : Addr} {fd : FuncData} {x g qual y : Str} {st : Stmt} {k i : Nat} {p p0 pos pos2 : Pos}
theorem ps_bad (E : ErrF X.K X.mg x g qual st C f fd) (F1 : FnOk X.prog X.w X.K X.mg X.base CX0 k f fd ["self", g] (spErr C g)) (hr : Room (k + 1) X.A) (calm : X.calm = true) (tk : L2N.Takes X W) (gl : Gl X x) (ha : PE X (.Name y p0) (tVar i))
    (nd : (x == ("__debug__" : Str)) = false := by decide) : PS X (.Raise (some (.Call (.Name x p) [.Name y p0] [] pos)) none pos2) (tBad C g W i) := by
  refine ⟨fun pins s σ H D I h => (L2N.ps_raise calm tk (Le.pmk_calm (CX := CX0) E.o E.ini E.fn F1 hr E.b (fun _ _ _ _ _ _ _ z => z.elim) gl E.g (pa_cons ha pa_nil) nd rfl rfl)).run pins s σ H D I ?_⟩
  obtain ⟨v, hv, q⟩ := h
  refine ⟨v, hv, (by show 1 ≤ 1000; decide), fun a na => ⟨a, v, rfl, upd_same, fun d nd ne => ⟨rfl, d, [(g, v)], upd_same, ?_, ?_, ?_⟩⟩⟩
  · rw [upd_ne ne, upd_same]
  · rw [upd_ne ne] at nd
    exact nd
  · have nd' : H d = none := by
      rw [upd_ne ne] at nd
      exact nd
    rw [dict_left na ne]
    exact q d nd'
end
section
variable {P : Program} {w : World} {K : PySem.W.Frag} {mg : Str → Option Value} {base : Heap} {C f : Addr} {fd : FuncData}
end
end Wb
/-! the face of a thing: a def that calls itself, over things of any kind -/
namespace Wb
open PySem L2
abbrev sFace : Stmt := top 42
theorem Same.new2 {q : Addr} {o : HO} {H H' : Hp} (a : Same H H') (n : H q = none) : Same H (L2.upd H' q o) := fun c u h => by
  rw [upd_ne (ne_of_none h n)]
  exact a c u h
/-! ### data stay -/
theorem SqT.stay {K : PySem.W.Frag} {H H' : Hp} {a : Addr} {xs : List V} (s : Same H H') (h : SqT K H a xs) : SqT K H' a xs := by
  rcases h with (q | ⟨o, q⟩) | q
  · exact .inl (.inl (s _ _ q))
  · exact .inl (.inr ⟨o, s _ _ q⟩)
  · exact .inr q
mutual
theorem Dp.stay {K : PySem.W.Frag} {H H' : Hp} (s : Same H H') : ∀ {v : V} {d : PyData}, Dp K H v d → Dp K H' v d
  | _, _, .non => .non
  | _, _, .bl b => .bl b
  | _, _, .int i => .int i
  | _, _, .str x => .str x
  | _, _, .lst h r => .lst (s.seq h) (DpAll.stay s r)
  | _, _, .tup h r => .tup (SqT.stay s h) (DpAll.stay s r)
theorem DpAll.stay {K : PySem.W.Frag} {H H' : Hp} (s : Same H H') : ∀ {vs : List V} {ds : List PyData}, DpAll K H vs ds → DpAll K H' vs ds
  | _, _, .nil => .nil
  | _, _, .cons h r => .cons (Dp.stay s h) (DpAll.stay s r)
end
theorem DpAll.snoc {K : PySem.W.Frag} {H : Hp} {v : V} {d : PyData} : ∀ {vs : List V} {ds : List PyData}, DpAll K H vs ds → Dp K H v d → DpAll K H (vs ++ [v]) (ds ++ [d])
  | _, _, .nil, h => .cons h .nil
  | _, _, .cons h r, q => .cons h (DpAll.snoc r q)
/-! ### what a thing is, by the face that it has -/
def plainD (d : PyData) : PyData := .list [.str "plain", d]
/-- a thing without parts -/
inductive Leaf : V → PyData → Prop
  | non : Leaf .non (plainD .none)
  | bl (b : Bool) : Leaf (.bl b) (.list [.str "truth", .bool b])
  | int (i : Int) : Leaf (.int i) (plainD (.int i))
  | str (x : Str) : Leaf (.str x) (plainD (.str x))
inductive Both {α β : Type} (R : α → β → Prop) : List α → List β → Prop
  | nil : Both R [] []
  | cons {x : α} {y : β} {xs : List α} {ys : List β} (h : R x y) (r : Both R xs ys) : Both R (x :: xs) (y :: ys)
theorem Both.imp {α β : Type} {R R' : α → β → Prop} (f : ∀ x y, R x y → R' x y) : ∀ {xs : List α} {ys : List β}, Both R xs ys → Both R' xs ys
  | _, _, .nil => .nil
  | _, _, .cons h r => .cons (f _ _ h) (Both.imp f r)
theorem Both.len {α β : Type} {R : α → β → Prop} : ∀ {xs : List α} {ys : List β}, Both R xs ys → xs.length = ys.length
  | _, _, .nil => rfl
  | _, _, .cons _ r => congrArg (· + 1) (Both.len r)
theorem Both.get {α β : Type} {R : α → β → Prop} : ∀ {xs : List α} {ys : List β} {i : Nat} {x : α}, Both R xs ys → xs[i]? = some x → ∃ y, ys[i]? = some y ∧ R x y
  | _, _, _, _, .nil, h => by cases h
  | _, _, 0, _, .cons h _, e => by cases e; exact ⟨_, rfl, h⟩
  | _ :: _, _ :: _, i + 1, _, .cons _ r, e => Both.get (i := i) r e
def keyD (k : Str) (d : PyData) : PyData := .list [plainD (.str k), d]
def kvsOf (ks : List Str) (xs : List V) : List (Key × V) := List.zipWith (fun k x => (Sum.inr k, x)) ks xs
/-- all but what lies at a -/
def cut (H : Hp) (a : Addr) : Hp := fun b => if b = a then none else H b
theorem cut_same {H H' : Hp} {a : Addr} (s : Same H H') : Same (cut H a) (cut H' a) := fun b o h => by
  unfold cut at h ⊢
  by_cases e : b = a
  · rw [if_pos e] at h
    cases h
  · rw [if_neg e] at h ⊢
    exact s _ _ h
theorem cutH_to {H H' : Hp} {a : Addr} (s : ∀ b o, b ≠ a → H b = some o → H' b = some o) : Same (cut H a) H' := fun b o h => by
  unfold cut at h
  by_cases e : b = a
  · rw [if_pos e] at h
    cases h
  · rw [if_neg e] at h
    exact s _ _ e h
/-- at most n parts within parts; d the face -/
def Thing (H : Hp) : Nat → V → PyData → Prop
  | 0, _, _ => False
  | n + 1, v, d => Leaf v d ∨ (∃ (a : Addr) (xs : List V) (ds : List PyData), v = .ref a ∧ H a = some (.lst xs) ∧ xs.length ≤ 1000 ∧ Both (Thing H n) xs ds ∧ d = .list (.str "list" :: ds))
    ∨ (∃ (a : Addr) (xs : List V) (ds : List PyData), v = .ref a ∧ H a = some (.tup xs) ∧ xs.length ≤ 1000 ∧ Both (Thing H n) xs ds ∧ d = .list (.str "tuple" :: ds))
    ∨ (∃ (a : Addr) (ks : List Str) (xs : List V) (ds : List PyData), v = .ref a ∧ H a = some (.dK (kvsOf ks xs)) ∧ ks.Nodup ∧ ks.length = xs.length ∧ xs.length ≤ 1000 ∧ Both (Thing (cut H a) n) xs ds ∧ d = .list (.str "dict" :: List.zipWith keyD ks ds))
theorem Thing.same {H H' : Hp} (s : Same H H') : ∀ {n : Nat} {v : V} {d : PyData}, Thing H n v d → Thing H' n v d
  | 0, _, _, h => h.elim
  | _ + 1, _, _, .inl h => .inl h
  | _ + 1, _, _, .inr (.inl ⟨a, xs, ds, e, h, l, r, q⟩) => .inr (.inl ⟨a, xs, ds, e, s _ _ h, l, r.imp fun _ _ z => Thing.same s z, q⟩)
  | _ + 1, _, _, .inr (.inr (.inl ⟨a, xs, ds, e, h, l, r, q⟩)) => .inr (.inr (.inl ⟨a, xs, ds, e, s _ _ h, l, r.imp fun _ _ z => Thing.same s z, q⟩))
  | _ + 1, _, _, .inr (.inr (.inr ⟨a, ks, xs, ds, e, h, nd, l1, l, r, q⟩)) => .inr (.inr (.inr ⟨a, ks, xs, ds, e, s _ _ h, nd, l1, l, r.imp fun _ _ z => Thing.same (cut_same s) z, q⟩))
/-- what is new in H' -/
def New (H H' : Hp) : Hp := fun b => match H b with
  | none => H' b
  | some _ => none
theorem New.at {H H' : Hp} {b : Addr} (h : H b = none) : New H H' b = H' b := by
  unfold New
  rw [h]
theorem New.inv {H H' : Hp} {b : Addr} {o : HO} (h : New H H' b = some o) : H b = none ∧ H' b = some o := by
  unfold New at h
  cases e : H b with
  | none =>
    rw [e] at h
    exact ⟨rfl, h⟩
  | some u =>
    rw [e] at h
    cases h
theorem New.sub {H H' : Hp} : Same (New H H') H' := fun _ _ h => (New.inv h).2
theorem New.mono {A B A' B' : Hp} (f : ∀ b o, A b = none → B b = some o → A' b = none ∧ B' b = some o) : Same (New A B) (New A' B') := fun b o h => by
  obtain ⟨h1, h2⟩ := New.inv h
  obtain ⟨g1, g2⟩ := f b o h1 h2
  rw [New.at g1]
  exact g2
def spFace (K : PySem.W.Frag) (n : Nat) : Sp := fun vs H Q _ => ∃ (v : V) (d : PyData), vs = [v] ∧ Thing H n v d ∧ ∀ (a : Addr) (H' : Hp), H a = none → Same H H' → Dp K (New H H') (.ref a) d → Q (.ref a) H'
abbrev NF : List Str := ["_law_thing", "_law_part", "_law_key"]
theorem scFace : FnScope NF ["_law_thing"] (defScope sFace) := ⟨rfl, rfl, rfl, by decide +kernel, rfl, by decide +kernel, by decide +kernel⟩
structure FreeT (mg : Str → Option Value) : Prop where
  isi : mg "isinstance" = none
  tup : mg "tuple" = none
  lst : mg "list" = none
  dct : mg "dict" = none
  bool : mg "bool" = none
theorem leaf_ty {K : PySem.W.Frag} {H : Hp} {v : V} {d : PyData} (h : Leaf v d) : ∃ (t : String) (b : Bool) (d' : PyData), TyX K H v (.type t) ∧ PySem.W.kitOne K (.type t) (.type "tuple") = some false ∧ PySem.W.kitOne K (.type t) (.type "list") = some false ∧
    PySem.W.kitOne K (.type t) (.type "dict") = some false ∧ PySem.W.kitOne K (.type t) (.type "bool") = some b ∧ d = .list [.str (if b = true then "truth" else "plain"), d'] ∧ ∀ H', Dp K H' v d' := by
  cases h with
  | non => exact ⟨_, _, _, .base .non, kit_ty (by decide +kernel), kit_ty (by decide +kernel), kit_ty (by decide +kernel), kit_ty (r := false) (by decide +kernel), rfl, fun _ => .non⟩
  | bl b => exact ⟨_, _, _, .base (.bl b), kit_ty (by decide +kernel), kit_ty (by decide +kernel), kit_ty (by decide +kernel), kit_ty (r := true) (by decide +kernel), rfl, fun _ => .bl b⟩
  | int i => exact ⟨_, _, _, .base (.int i), kit_ty (by decide +kernel), kit_ty (by decide +kernel), kit_ty (by decide +kernel), kit_ty (r := false) (by decide +kernel), rfl, fun _ => .int i⟩
  | str x => exact ⟨_, _, _, .base (.str x), kit_ty (by decide +kernel), kit_ty (by decide +kernel), kit_ty (by decide +kernel), kit_ty (r := false) (by decide +kernel), rfl, fun _ => .str x⟩
theorem free_of {H H' : Hp} {q : Addr} (s : Same H H') (n : H' q = none) : H q = none := by
  cases e : H q with
  | none => rfl
  | some o =>
    rw [s _ _ e] at n
    cases n
/-- the list of faces grows in D -/
def FacePv (K : PySem.W.Frag) (B : Hp) (D : Addr) (ds : List PyData) (i : Nat) (H : Hp) : Prop := ∃ ys : List V, H D = some (.lst ys) ∧ ys.length = i ∧ DpAll K (New (upd B D (.lst [])) H) ys (ds.take i) ∧ Same B H
theorem FacePv.same {K : PySem.W.Frag} {B H : Hp} {D : Addr} {ds : List PyData} {i : Nat} (h : FacePv K B D ds i H) (_ : B D = none) : Same B H := h.choose_spec.2.2.2
theorem FacePv.start {K : PySem.W.Frag} {B : Hp} {D : Addr} {ds : List PyData} (hD : B D = none) : FacePv K B D ds 0 (upd B D (.lst [])) := ⟨[], upd_same, rfl, by rw [List.take_zero]; exact .nil, Same.new2 (Same.refl _) hD⟩
theorem FacePv.grow {K : PySem.W.Frag} {B H H5 : Hp} {D : Addr} {ds : List PyData} {i : Nat} {v : V} {y : PyData} (h : FacePv K B D ds i H) (hD : B D = none) (hy : ds[i]? = some y) (s5 : Same H H5)
    (d5 : ∀ ys, H D = some (.lst ys) → Dp K (New (upd B D (.lst [])) (upd H5 D (.lst (ys ++ [v])))) v y) (few : i < 16777216) : ∃ acc, H5 D = some (.lst acc) ∧ acc.length < sizeLine ∧ FacePv K B D ds (i + 1) (upd H5 D (.lst (acc ++ [v]))) := by
  obtain ⟨ys, e1, e2, e3, e4⟩ := h
  refine ⟨ys, s5 _ _ e1, by rw [sizeLine_eq]; omega, ys ++ [v], upd_same, by rw [List.length_append, e2] <;> rfl, ?_, Same.new2 (e4.trans s5) hD⟩
  rw [List.take_add_one, hy]
  refine DpAll.snoc (DpAll.stay (New.mono fun b o h1 h2 => ⟨h1, ?_⟩) e3) (d5 ys e1)
  have n : b ≠ D := fun z => by
    rw [z, upd_same] at h1
    cases h1
  rw [upd_ne n]
  exact s5 _ _ h2
/-- what is new since later is new since earlier -/
theorem new_in {B H H5 : Hp} {D : Addr} {o : HO} (hB : Same B H) {ys : List V} (hD : H D = some (.lst ys)) : Same (New H H5) (New (upd B D (.lst [])) (upd H5 D o)) := New.mono fun b u h1 h2 => by
  have n : b ≠ D := fun z => by
    rw [z, hD] at h1
    cases h1
  refine ⟨?_, ?_⟩
  · rw [upd_ne n]
    exact free_of hB h1
  · rw [upd_ne n]
    exact h2
theorem FacePv.step {K : PySem.W.Frag} {B H H5 : Hp} {D : Addr} {ds : List PyData} {i : Nat} {c : Addr} {y : PyData} (h : FacePv K B D ds i H) (hD : B D = none) (hy : ds[i]? = some y) (_ : H c = none) (s5 : Same H H5) (d5 : Dp K (New H H5) (.ref c) y) (few : i < 16777216) :
    ∃ acc, H5 D = some (.lst acc) ∧ acc.length < sizeLine ∧ FacePv K B D ds (i + 1) (upd H5 D (.lst (acc ++ [.ref c]))) :=
  h.grow hD hy s5 (fun ys e => Dp.stay (new_in (h.same hD) e) d5) few
theorem FacePv.done {K : PySem.W.Frag} {H H3 : Hp} {L D : Addr} {ds : List PyData} {w : Str} {n : Nat} {Q : VK} (h : FacePv K (upd H L (.lst [.str w])) D ds n H3) (hD : upd H L (.lst [.str w]) D = none) (hL : H L = none) (len : n = ds.length) (few : n ≤ 1000)
    (k : ∀ (a : Addr) (H' : Hp), H a = none → Same H H' → Dp K (New H H') (.ref a) (.list (.str w :: ds)) → Q (.ref a) H') : rCat (.ref L) (.ref D) H3 Q := by
  obtain ⟨ys, e1, e2, e3, e4⟩ := h
  have s0 : Same H H3 := (Same.new2 (Same.refl H) hL).trans e4
  refine ⟨L, D, _, ys, rfl, rfl, e4 _ _ upd_same, e1, by rw [sizeLine_eq, e2]; show 1 + n ≤ _; omega, fun M hM => ?_⟩
  have nM := free_of s0 hM
  refine k M _ nM (Same.new2 s0 nM) ?_
  refine .lst (SqL.of ((New.at nM).trans upd_same)) (.cons (.str _) ?_)
  rw [show ds.take n = ds by rw [len, List.take_length]] at e3
  refine DpAll.stay (New.mono fun b o h1 h2 => ?_) e3
  have n1 : b ≠ D := fun z => by
    rw [z, upd_same] at h1
    cases h1
  rw [upd_ne n1] at h1
  have n2 : b ≠ L := fun z => by
    rw [z, upd_same] at h1
    cases h1
  rw [upd_ne n2] at h1
  refine ⟨h1, ?_⟩
  rw [upd_ne (ne_of_none h2 hM)]
  exact h2
theorem FacePv.unlock {K : PySem.W.Frag} {B H3 : Hp} {a D : Addr} {ds : List PyData} {n : Nat} {u : HO} {od : Obj} (h : FacePv K (upd B a (.frz od u)) D ds n H3) (hD : upd B a (.frz od u) D = none) (ha : B a = some u) : FacePv K B D ds n (upd H3 a u) := by
  obtain ⟨ys, e1, e2, e3, e4⟩ := h
  have nD : D ≠ a := fun z => by
    rw [z, upd_same] at hD
    cases hD
  refine ⟨ys, (upd_ne nD).trans e1, e2, DpAll.stay (New.mono fun b o h1 h2 => ?_) e3, fun b o h => ?_⟩
  · have n1 : b ≠ D := fun z => by
      rw [z, upd_same] at h1
      cases h1
    rw [upd_ne n1] at h1
    have n2 : b ≠ a := fun z => by
      rw [z, upd_same] at h1
      cases h1
    rw [upd_ne n2] at h1
    rw [upd_ne n1, upd_ne n2]
    exact ⟨h1, h2⟩
  · by_cases e : b = a
    · rw [e, upd_same]
      rw [e, ha] at h
      exact h
    · rw [upd_ne e]
      exact e4 _ _ ((upd_ne e).trans h)
theorem kvs_at {ks : List Str} {xs : List V} {i : Nat} {kk : Key} {vv : V} (h : (kvsOf ks xs)[i]? = some (kk, vv)) : ∃ kt, kk = Sum.inr kt ∧ ks[i]? = some kt ∧ xs[i]? = some vv := by
  unfold kvsOf at h
  rw [List.getElem?_zipWith] at h
  cases h1 : ks[i]? with
  | none =>
    rw [h1] at h
    cases h
  | some kt =>
    cases h2 : xs[i]? with
    | none =>
      rw [h1, h2] at h
      cases h
    | some x =>
      rw [h1, h2] at h
      cases h
      exact ⟨kt, rfl, rfl, rfl⟩
theorem valV_at : ∀ {ks : List Str} {xs : List V} {i : Nat} {kt : Str} {vv : V}, ks.Nodup → ks.length = xs.length → ks[i]? = some kt → xs[i]? = some vv → valV (kvsOf ks xs) (Sum.inr kt) = some vv
  | [], _, _, _, _, _, _, h, _ => by cases h
  | _ :: _, [], _, _, _, _, h, _, _ => by cases h
  | k :: ks, x :: xs, 0, kt, vv, _, _, h1, h2 => by
    cases h1
    cases h2
    show ((List.find? _ ((Sum.inr k, x) :: kvsOf ks xs)).map (·.2)) = some x
    rw [List.find?_cons_of_pos (by simp)] <;> rfl
  | k :: ks, x :: xs, i + 1, kt, vv, nd, len, h1, h2 => by
    obtain ⟨n1, n2⟩ := List.nodup_cons.mp nd
    have h1' : ks[i]? = some kt := h1
    have ne : k ≠ kt := fun z => n1 (z ▸ List.mem_of_getElem? h1')
    have ih := valV_at (ks := ks) (xs := xs) (i := i) n2 (Nat.succ.inj len) h1' h2
    show ((List.find? _ ((Sum.inr k, x) :: kvsOf ks xs)).map (·.2)) = some vv
    rw [List.find?_cons_of_neg (by simpa using ne)]
    exact ih
section
variable {P : Program} {w : World} {K : PySem.W.Frag} {mg : Str → Option Value} {base : Heap} {f : Addr} {fd : FuncData}
theorem face_none : FnOk P w K mg base CX0 1 f fd ["_law_thing"] (spFace K 0) :=
  ⟨fun vs H Q E h => by obtain ⟨v, d, rfl, z, _⟩ := h; exact z.elim, fun A outer s H args us vs Q E hr e0 hb hv h => by obtain ⟨v, d, rfl, z, _⟩ := h; exact z.elim⟩
set_option maxHeartbeats 0 in
theorem face_more {n : Nat} (D : Fun K "_law_face" "_law_face" sFace f fd) (g : mg "_law_face" = some (.ref f)) (kp : PySem.W.keepIn K (.ref f) = true) (b : Binds K fd ["_law_thing"] []) (Z : FreeT mg)
    (G : FnOk P w K mg base CX0 (n + 1) f fd ["_law_thing"] (spFace K n)) : FnOk P w K mg base CX0 (n + 2) f fd ["_law_thing"] (spFace K (n + 1)) := by
  refine D.ok scFace (fun vs H Q E h => ?_) (fun cdv A outer s H vs Q E hr h => ?_)
  · obtain ⟨v, d, rfl, _⟩ := h
    rfl
  · obtain ⟨v, d, rfl, th, k⟩ := h
    refine ⟨_, pss_cons (ps_if (pt_val (pe_callB call_isi (by rfl) Z.isi (by decide +kernel) (pa_cons (pv 0) (pa_cons (pe_bltn (v := .ty "tuple") (u := .type "tuple") (by rfl) Z.tup (by decide +kernel) rfl) pa_nil))))
        (pss_one (ps_ret (pe_op op_cat (pe_lst (pa_cons pe_str pa_nil))
          (pe_lc (own := [("_law_part", 1)]) (g := gName 1) (tt := tYes) rfl scFace.nd (pi_tup (pv 0)) (blkOk_by (N := NF) (sc := defScope sFace) (by decide +kernel)) (fun _ _ _ _ _ => pg_name (i := 1) scFace.nd rfl (.inl rfl)) (fun _ _ _ _ _ => pts_nil)
            (fun _ _ _ _ _ => pe_call G hr rfl g kp b .nil pass0 (pa_cons (pv 1) pa_nil)))))) pss_nil)
      (pss_cons (ps_if (pt_val (pe_callB call_isi (by rfl) Z.isi (by decide +kernel) (pa_cons (pv 0) (pa_cons (pe_bltn (v := .ty "list") (u := .type "list") (by rfl) Z.lst (by decide +kernel) rfl) pa_nil))))
        (pss_one (ps_ret (pe_op op_cat (pe_lst (pa_cons pe_str pa_nil))
          (pe_lc (own := [("_law_part", 1)]) (g := gName 1) (tt := tYes) rfl scFace.nd (pi_list (pv 0)) (blkOk_by (N := NF) (sc := defScope sFace) (by decide +kernel)) (fun _ _ _ _ _ => pg_name (i := 1) scFace.nd rfl (.inl rfl)) (fun _ _ _ _ _ => pts_nil)
            (fun _ _ _ _ _ => pe_call G hr rfl g kp b .nil pass0 (pa_cons (pv 1) pa_nil)))))) pss_nil)
      (pss_cons (ps_if (pt_val (pe_callB call_isi (by rfl) Z.isi (by decide +kernel) (pa_cons (pv 0) (pa_cons (pe_bltn (v := .ty "dict") (u := .type "dict") (by rfl) Z.dct (by decide +kernel) rfl) pa_nil))))
        (pss_one (ps_ret (pe_op op_cat (pe_lst (pa_cons pe_str pa_nil))
          (pe_lock (pe_lc (own := [("_law_key", 2)]) (g := gName 2) (tt := tYes) rfl scFace.nd (pi_keys (pv 0)) (blkOk_by (N := NF) (sc := defScope sFace) (by decide +kernel)) (fun _ _ _ _ _ => pg_name (i := 2) scFace.nd rfl (.inl rfl)) (fun _ _ _ _ _ => pts_nil)
            (fun _ _ _ _ _ => pe_lst (pa_cons (pe_call G hr rfl g kp b .nil pass0 (pa_cons (pv 2) pa_nil)) (pa_cons (pe_call G hr rfl g kp b .nil pass0 (pa_cons (pe_dget (hu_of hr) (pv 0) (pv 2) (fun _ _ => rfl)) pa_nil)) pa_nil)))))))) pss_nil)
      (pss_one (ps_ret (pe_lst (pa_cons (pe_ifExp (pt_val (pe_callB call_isi (by rfl) Z.isi (by decide +kernel) (pa_cons (pv 0) (pa_cons (pe_bltn (v := .ty "bool") (u := .type "bool") (by rfl) Z.bool (by decide +kernel) rfl) pa_nil)))) pe_str pe_str) (pa_cons (pv 0) pa_nil))))))), ?_⟩
    rcases th with lf | ⟨a, xs, ds, rfl, ha, few, parts, rfl⟩ | ⟨a, xs, ds, rfl, ha, few, parts, rfl⟩ | ⟨a, ks, xs, ds, rfl, ha, nd, len, few, parts, rfl⟩
    · obtain ⟨t, c, d', ty, k1, k2, k3, k4, rfl, dp⟩ := leaf_ty (K := K) (H := H) lf
      refine ⟨_, rfl, _, _, .type t, .type "tuple", false, rfl, .ty "tuple", ty, k1, false, rfl, iteF ?_⟩
      refine ⟨_, rfl, _, _, .type t, .type "list", false, rfl, .ty "list", ty, k2, false, rfl, iteF ?_⟩
      refine ⟨_, rfl, _, _, .type t, .type "dict", false, rfl, .ty "dict", ty, k3, false, rfl, iteF ?_⟩
      refine ⟨_, rfl, _, _, .type t, .type "bool", c, rfl, .ty "bool", ty, k4, c, rfl, ?_⟩
      cases c with
      | true => exact iteT ⟨_, rfl, (by show 2 ≤ sizeLine; decide), fun q hq => k q _ hq (Same.new2 (Same.refl H) hq) (.lst (SqL.of ((New.at hq).trans upd_same)) (.cons (.str _) (.cons (dp _) .nil)))⟩
      | false => exact iteF ⟨_, rfl, (by show 2 ≤ sizeLine; decide), fun q hq => k q _ hq (Same.new2 (Same.refl H) hq) (.lst (SqL.of ((New.at hq).trans upd_same)) (.cons (.str _) (.cons (dp _) .nil)))⟩
    · refine ⟨_, rfl, _, _, .type "list", .type "tuple", false, rfl, .ty "tuple", .base (.lst ha), kit_ty (by decide +kernel), false, rfl, iteF ?_⟩
      refine ⟨_, rfl, _, _, .type "list", .type "list", true, rfl, .ty "list", .base (.lst ha), kit_ty (by decide +kernel), true, rfl, iteT ?_⟩
      have mk : ∀ L, H L = none → Same H (upd H L (.lst [.str "list"])) := fun L hL => Same.new2 (Same.refl H) hL
      refine ⟨(by show 1 ≤ sizeLine; decide), fun L hL => ⟨_, rfl, a, rfl, ⟨xs, SqL.of (mk L hL _ _ ha)⟩, fun D hD => ?_⟩⟩
      refine lc_it (walk_list (xs := xs)) (FacePv K (upd H L (.lst [.str "list"])) D ds) (FacePv.start hD) (fun i H3 _ q => SqL.of (q.same hD _ _ (mk L hL _ _ ha))) ?_ ?_
      · rintro i x H3 H3' hi q ⟨rfl, hx⟩
        obtain ⟨y, hy, th⟩ := parts.get hx
        refine ⟨rfl, _, rfl, x, y, rfl, th.same ((mk L hL).trans (q.same hD)), fun c H5 hc s5 d5 => q.step hD hy hc s5 d5 (by omega)⟩
      · rintro H3 q
        exact q.done hD hL parts.len few k
    · refine ⟨_, rfl, _, _, .type "tuple", .type "tuple", true, rfl, .ty "tuple", .base (.tup ha), kit_ty (by decide +kernel), true, rfl, iteT ?_⟩
      have mk : ∀ L, H L = none → Same H (upd H L (.lst [.str "tuple"])) := fun L hL => Same.new2 (Same.refl H) hL
      refine ⟨(by show 1 ≤ sizeLine; decide), fun L hL => ⟨_, rfl, a, rfl, ⟨xs, SqT.of (mk L hL _ _ ha)⟩, fun D hD => ?_⟩⟩
      refine lc_it (walk_tup (xs := xs)) (FacePv K (upd H L (.lst [.str "tuple"])) D ds) (FacePv.start hD) (fun i H3 _ q => SqT.of (q.same hD _ _ (mk L hL _ _ ha))) ?_ ?_
      · rintro i x H3 H3' hi q ⟨rfl, hx⟩
        obtain ⟨y, hy, th⟩ := parts.get hx
        refine ⟨rfl, _, rfl, x, y, rfl, th.same ((mk L hL).trans (q.same hD)), fun c H5 hc s5 d5 => q.step hD hy hc s5 d5 (by omega)⟩
      · rintro H3 q
        exact q.done hD hL parts.len few k
    · refine ⟨_, rfl, _, _, .type "dict", .type "tuple", false, rfl, .ty "tuple", .base (.dK ha), kit_ty (by decide +kernel), false, rfl, iteF ?_⟩
      refine ⟨_, rfl, _, _, .type "dict", .type "list", false, rfl, .ty "list", .base (.dK ha), kit_ty (by decide +kernel), false, rfl, iteF ?_⟩
      refine ⟨_, rfl, _, _, .type "dict", .type "dict", true, rfl, .ty "dict", .base (.dK ha), kit_ty (by decide +kernel), true, rfl, iteT ?_⟩
      have mk : ∀ L, H L = none → Same H (upd H L (.lst [.str "dict"])) := fun L hL => Same.new2 (Same.refl H) hL
      refine ⟨(by show 1 ≤ sizeLine; decide), fun L hL => ⟨a, .dK (kvsOf ks xs), mk L hL _ _ ha, trivial, fun od => ⟨_, rfl, a, od, rfl, .inl ⟨_, upd_same, fun D hD => ?_⟩⟩⟩⟩
      have klen : (kvsOf ks xs).length = xs.length := by unfold kvsOf; rw [List.length_zipWith]; omega
      have dlen : (List.zipWith keyD ks ds).length = xs.length := by have := parts.len; rw [List.length_zipWith]; omega
      refine lc_it (walk_keys (kvs := kvsOf ks xs)) (FacePv K (upd (upd H L (.lst [.str "dict"])) a (.frz od (.dK (kvsOf ks xs)))) D (List.zipWith keyD ks ds)) (FacePv.start hD) (fun i H3 _ q => q.same hD _ _ upd_same) ?_ ?_
      · rintro i x H3 H3' hi q ⟨rfl, kk, vv, hk, rfl⟩
        obtain ⟨kt, rfl, ek, ev⟩ := kvs_at hk
        obtain ⟨y, hy, th⟩ := parts.get ev
        have s3 := q.same hD
        have lo : Same (cut H a) H3' := cutH_to fun b o n h => s3 _ _ ((upd_ne n).trans (mk L hL _ _ h))
        refine ⟨rfl, _, rfl, .str kt, plainD (.str kt), rfl, ?_, fun c H5 hc s5 d5 => ⟨_, rfl, _, rfl, a, _, rfl, .inl ⟨kvsOf ks xs, Sum.inr kt, .inr ⟨od, s5 _ _ (s3 _ _ upd_same)⟩, rfl, (valV_at nd len ek ev).symm⟩, vv, y, rfl, th.same (lo.trans s5), fun c2 H6 hc2 s6 d6 => ?_⟩⟩
        · cases n with
          | zero => exact th.elim
          | succ m => exact .inl (.str kt)
        · refine ⟨(by show 2 ≤ sizeLine; decide), fun E hE => ?_⟩
          have s56 := s5.trans s6
          have nE3 := free_of s56 hE
          refine q.grow hD (y := keyD kt y) ?_ (s56.trans (Same.new2 (Same.refl _) hE)) (fun ys e => ?_) (by omega)
          · rw [List.getElem?_zipWith, ek, hy] <;> rfl
          · have nDE : E ≠ D := fun z => by
              rw [z, e] at nE3
              cases nE3
            have nB := free_of (q.same hD) nE3
            refine .lst (SqL.of (xs := [.ref c, .ref c2]) ((New.at (by rw [upd_ne nDE]; exact nB)).trans ?_)) (.cons (Dp.stay ?_ d5) (.cons (Dp.stay ?_ d6) .nil))
            · rw [upd_ne nDE, upd_same]
            · refine New.mono fun b o h1 h2 => ?_
              have n : b ≠ D := fun z => by
                rw [z, e] at h1
                cases h1
              have n2 : b ≠ E := ne_of_none (s6 _ _ h2) hE
              rw [upd_ne n, upd_ne n, upd_ne n2]
              exact ⟨free_of s3 h1, s6 _ _ h2⟩
            · refine New.mono fun b o h1 h2 => ?_
              have h1' := free_of s5 h1
              have n : b ≠ D := fun z => by
                rw [z, e] at h1'
                cases h1'
              have n2 : b ≠ E := ne_of_none h2 hE
              rw [upd_ne n, upd_ne n, upd_ne n2]
              exact ⟨free_of s3 h1', h2⟩
      · rintro H3 q
        refine ⟨q.same hD _ _ upd_same, (q.unlock hD (mk L hL _ _ ha)).done ?_ hL (klen.trans dlen.symm) (by omega) k⟩
        have nD : D ≠ a := fun z => by
          rw [z, upd_same] at hD
          cases hD
        exact (upd_ne nD).symm.trans hD
theorem ok_face (D' : Def K mg "_law_face" sFace ["_law_thing"] f fd) (Z : FreeT mg) : ∀ n, FnOk P w K mg base CX0 (n + 1) f fd ["_law_thing"] (spFace K n)
  | 0 => face_none
  | n + 1 => face_more D'.F D'.g D'.kp D'.b Z (ok_face D' Z n)
end
end Wb
/-! values of any sort, asked what they are -/
namespace Wb
open PySem L2 WbMin WbS
abbrev sLIsWord : Stmt := top 45
/-- a text as it may be passed -/
structure Tx (l : List Nat) : Prop where
  few : l.length ≤ 2000
  cod : ∀ c ∈ l, c < 1000
theorem Tx.fits {l : List Nat} (h : Tx l) : (S l).length ≤ sizeLine := by
  rw [S_len, sizeLine_eq]
  have := h.few
  omega
/-- a value of any sort, the pool p no part of it; d its face -/
def Any (p : Addr) (H : Hp) (x : V) (d : PyData) : Prop := Thing (cut H p) 5 x d ∧ (∀ z, x = .str z → ∃ l, z = S l ∧ Tx l) ∧ (∀ i, x = .int i → i < 2 ^ 1000) ∧ d.canLay0 = true ∧ PyData.depth d ≤ 60
theorem cut_but {p : Addr} {H H' : Hp} (b : But p H H') : Same (cut H p) (cut H' p) := fun c o h => by
  unfold cut at h ⊢
  by_cases e : c = p
  · rw [if_pos e] at h
    cases h
  · rw [if_neg e] at h ⊢
    exact b _ _ e h
theorem Any.but {p : Addr} {H H' : Hp} {x : V} {d : PyData} (h : Any p H x d) (b : But p H H') : Any p H' x d := ⟨h.1.same (cut_but b), h.2⟩
theorem Any.same {p : Addr} {H H' : Hp} {x : V} {d : PyData} (h : Any p H x d) (s : Same H H') : Any p H' x d := ⟨h.1.same (cut_same s), h.2⟩
theorem Any.thing {p : Addr} {H : Hp} {x : V} {d : PyData} (h : Any p H x d) : Thing H 5 x d := h.1.same (cutH_to fun _ _ _ e => e)
/-- what is neither a text nor an integer -/
inductive Neither (H : Hp) : V → Prop where
  | non : Neither H .non
  | bl (b : Bool) : Neither H (.bl b)
  | lst {a : Addr} {xs : List V} (h : H a = some (.lst xs)) : Neither H (.ref a)
  | tup {a : Addr} {xs : List V} (h : H a = some (.tup xs)) : Neither H (.ref a)
  | dK {a : Addr} {xs : List (Key × V)} (h : H a = some (.dK xs)) : Neither H (.ref a)
theorem Neither.same {H H' : Hp} {x : V} (h : Neither H x) (s : Same H H') : Neither H' x := by
  cases h with
  | non => exact .non
  | bl b => exact .bl b
  | lst h => exact .lst (s _ _ h)
  | tup h => exact .tup (s _ _ h)
  | dK h => exact .dK (s _ _ h)
theorem Any.sort {p : Addr} {H : Hp} {x : V} {d : PyData} (h : Any p H x d) : (∃ l, x = .str (S l) ∧ Tx l) ∨ (∃ i, x = .int i) ∨ Neither H x := by
  have th := h.thing
  rcases th with lf | ⟨a, xs, ds, rfl, ha, _⟩ | ⟨a, xs, ds, rfl, ha, _⟩ | ⟨a, ks, xs, ds, rfl, ha, _⟩
  · cases lf with
    | non => exact .inr (.inr .non)
    | bl b => exact .inr (.inr (.bl b))
    | int i => exact .inr (.inl ⟨i, rfl⟩)
    | str z =>
      obtain ⟨l, rfl, t⟩ := h.2.1 z rfl
      exact .inl ⟨l, rfl, t⟩
  · exact .inr (.inr (.lst ha))
  · exact .inr (.inr (.tup ha))
  · exact .inr (.inr (.dK ha))
theorem Neither.str {H : Hp} {K : PySem.W.Frag} {x : V} (h : Neither H x) : ∃ t, TyX K H x t ∧ PySem.W.kitOne K t (.type "str") = some false := by
  cases h with
  | non => exact ⟨_, .base .non, kit_ty (by decide +kernel)⟩
  | bl b => exact ⟨_, .base (.bl b), kit_ty (by decide +kernel)⟩
  | lst h => exact ⟨_, .base (.lst h), kit_ty (by decide +kernel)⟩
  | tup h => exact ⟨_, .base (.tup h), kit_ty (by decide +kernel)⟩
  | dK h => exact ⟨_, .base (.dK h), kit_ty (by decide +kernel)⟩
theorem Neither.int {H : Hp} {K : PySem.W.Frag} {x : V} (h : Neither H x) : ∃ (t : Value) (b : Bool), TyX K H x t ∧ PySem.W.kitOne K t (.type "int") = some b ∧ (b = true → PySem.W.kitOne K t (.type "bool") = some true) := by
  cases h with
  | non => exact ⟨_, false, .base .non, kit_ty (by decide +kernel), fun z => by cases z⟩
  | bl b => exact ⟨_, true, .base (.bl b), kit_ty (by decide +kernel), fun _ => kit_ty (by decide +kernel)⟩
  | lst h => exact ⟨_, false, .base (.lst h), kit_ty (by decide +kernel), fun z => by cases z⟩
  | tup h => exact ⟨_, false, .base (.tup h), kit_ty (by decide +kernel), fun z => by cases z⟩
  | dK h => exact ⟨_, false, .base (.dK h), kit_ty (by decide +kernel), fun z => by cases z⟩
/-! ### the answers -/
def okc (c : Nat) : Bool := decide (97 ≤ c) && decide (c ≤ 122)
def isWB (l : List Nat) : Bool := decide (1 ≤ l.length) && decide (l.length ≤ 600) && l.all okc
theorem isWB_iff {l : List Nat} : isWB l = true ↔ IsW l := by
  unfold isWB
  rw [Bool.and_eq_true, Bool.and_eq_true, decide_eq_true_iff, decide_eq_true_iff, List.all_eq_true]
  constructor
  · rintro ⟨⟨a, b⟩, c⟩
    refine ⟨fun d hd => ?_, by omega, b⟩
    have q := c d hd
    unfold okc at q
    rw [Bool.and_eq_true, decide_eq_true_iff, decide_eq_true_iff] at q
    exact q
  · rintro ⟨a, b, c⟩
    refine ⟨⟨by omega, c⟩, fun d hd => ?_⟩
    unfold okc
    rw [Bool.and_eq_true, decide_eq_true_iff, decide_eq_true_iff]
    exact a d hd
/-- a word -/
def wordB : V → Bool
  | .str z => isWB z.cps.toList
  | _ => false
/-- a word of these signs -/
def goodW (sg : List Nat) : V → Bool
  | .str z => isWB z.cps.toList && z.cps.toList.all fun c => decide (c ∈ sg)
  | _ => false
def intB : V → Bool
  | .int _ => true
  | _ => false
theorem wordB_S {l : List Nat} : wordB (.str (S l)) = isWB l := congrArg isWB (S_cps l)
theorem goodW_S {sg l : List Nat} : goodW sg (.str (S l)) = (isWB l && l.all fun c => decide (c ∈ sg)) := by
  show (isWB (S l).cps.toList && (S l).cps.toList.all fun c => decide (c ∈ sg)) = _
  rw [S_cps]
theorem Neither.word {H : Hp} {x : V} (h : Neither H x) : wordB x = false := by cases h <;> rfl
theorem Neither.good {H : Hp} {x : V} {sg : List Nat} (h : Neither H x) : goodW sg x = false := by cases h <;> rfl
theorem Neither.intB {H : Hp} {x : V} (h : Neither H x) : intB x = false := by cases h <;> rfl
section
variable {P : Program} {w : World} {K : PySem.W.Frag} {mg : Str → Option Value} {base : Heap} {f fI : Addr} {fd dI : FuncData}
theorem scLIw : FnScope ["_law_thing", "_law_abc", "_law_mark"] ["_law_thing", "_law_abc"] (defScope sLIsWord) := ⟨rfl, rfl, rfl, by decide +kernel, rfl, by decide +kernel, by decide +kernel⟩
/-- a word of the signs as the law asks it -/
theorem good_is {sg l : List Nat} (h : Low sg) : goodW sg (.str (S l)) = (decide (1 ≤ l.length) && decide (l.length ≤ 600) && (l.filter fun c => !decide (c ∈ sg)).isEmpty) := by
  rw [goodW_S, Bool.eq_iff_iff]
  unfold isWB
  simp only [Bool.and_eq_true, decide_eq_true_iff, List.all_eq_true, List.isEmpty_iff, List.filter_eq_nil_iff, Bool.not_eq_true', decide_eq_false_iff_not, Classical.not_not]
  constructor
  · rintro ⟨⟨a, _⟩, b⟩
    exact ⟨a, b⟩
  · rintro ⟨a, b⟩
    refine ⟨⟨a, fun c hc => ?_⟩, b⟩
    have q := h c (b c hc)
    unfold okc
    rw [Bool.and_eq_true, decide_eq_true_iff, decide_eq_true_iff]
    exact q
end
end Wb
/-! values of any sort, told by their sort alone; such a value looked for among texts -/
namespace Lg
open PySem
section
variable {A : Around} {s : Shared}
end
end Lg
namespace Wb
open PySem L2 WbMin WbS Lz
/-- a value that is no tuple -/
inductive Odd1 (H : Hp) : V → Prop
  | str {z : Str} (fits : z.length ≤ sizeLine) : Odd1 H (.str z)
  | int (i : Int) : Odd1 H (.int i)
  | non : Odd1 H .non
  | bl (b : Bool) : Odd1 H (.bl b)
  | lst {a : Addr} {xs : List V} (h : H a = some (.lst xs)) : Odd1 H (.ref a)
  | dK {a : Addr} {xs : List (Key × V)} (h : H a = some (.dK xs)) : Odd1 H (.ref a)
/-- a value of any sort -/
inductive So (H : Hp) : V → Prop
  | one {v : V} (h : Odd1 H v) : So H v
  | tup {a : Addr} {xs : List V} (h : H a = some (.tup xs)) : So H (.ref a)
/-- a value of any sort and what a tuple holds -/
inductive TopS (H : Hp) : V → Prop
  | one {v : V} (h : Odd1 H v) : TopS H v
  | tup {a : Addr} {xs : List V} (h : H a = some (.tup xs)) (l : xs.length ≤ 9) (r : ∀ y ∈ xs, So H y) : TopS H (.ref a)
theorem Odd1.same {H H' : Hp} {v : V} (h : Odd1 H v) (s : Same H H') : Odd1 H' v := by
  cases h with
  | str f => exact .str f
  | int i => exact .int i
  | non => exact .non
  | bl b => exact .bl b
  | lst h => exact .lst (s _ _ h)
  | dK h => exact .dK (s _ _ h)
theorem So.same {H H' : Hp} {v : V} (h : So H v) (s : Same H H') : So H' v := by
  cases h with
  | one h => exact .one (h.same s)
  | tup h => exact .tup (s _ _ h)
theorem TopS.same {H H' : Hp} {v : V} (h : TopS H v) (s : Same H H') : TopS H' v := by
  cases h with
  | one h => exact .one (h.same s)
  | tup h l r => exact .tup (s _ _ h) l fun y hy => (r y hy).same s
theorem TopS.so {H : Hp} {v : V} (h : TopS H v) : So H v := by
  cases h with
  | one h => exact .one h
  | tup h l r => exact .tup h
/-- one of the texts st -/
def stB (st : List Str) : V → Bool
  | .str z => decide (z ∈ st)
  | _ => false
section
variable {X : Cx}
end
end Wb
/-! a loop is made of parts in any order -/
namespace Wb
open PySem L2 WbMin WbS Lz
/-- the parts as they are told -/
structure PrtG (st : List Str) (rw : List Row) (tn : List Trn) (ye : List Str) (t rr u y : Addr) (as bs : List Addr) (H : Hp) : Prop where
  ht : H t = some (.tup (st.map V.str))
  hr : H rr = some (.tup (as.map V.ref))
  hT : Tups H as (rw.map Row.v)
  hu : H u = some (.tup (bs.map V.ref))
  hU : Tups H bs (tn.map Trn.v)
  hy : H y = some (.tup (ye.map V.str))
section
variable {st : List Str} {rw : List Row} {tn : List Trn} {ye : List Str} {t rr u y : Addr} {as bs : List Addr} {H H' : Hp}
theorem PrtG.same (s : Same H H') (h : PrtG st rw tn ye t rr u y as bs H) : PrtG st rw tn ye t rr u y as bs H' := ⟨s _ _ h.ht, s _ _ h.hr, h.hT.same s, s _ _ h.hu, h.hU.same s, s _ _ h.hy⟩
theorem PrtG.but {p : Addr} {o : HO} (no : ∀ x, o ≠ .tup x) (hp : H p = some o) (s : But p H H') (h : PrtG st rw tn ye t rr u y as bs H) : PrtG st rw tn ye t rr u y as bs H' :=
  ⟨s _ _ (ne_of h.ht hp fun e => no _ e.symm) h.ht, s _ _ (ne_of h.hr hp fun e => no _ e.symm) h.hr, h.hT.but no hp s, s _ _ (ne_of h.hu hp fun e => no _ e.symm) h.hu, h.hU.but no hp s, s _ _ (ne_of h.hy hp fun e => no _ e.symm) h.hy⟩
end
section
variable {P : Program} {w : World} {K : PySem.W.Frag} {mg : Str → Option Value} {base : Heap} {A : LA} {e : Addr}
end
end Wb
/-! a loop that begins in another state: the mathematics -/
namespace Wb
open PySem L2 WbMin WbS Lz
/-- which state stands there now; where a state stands now -/
def piB (b i : Nat) : Nat := if i = 0 then b else if i ≤ b then i - 1 else i
def rhB (b j : Nat) : Nat := if j = b then 0 else if j < b then j + 1 else j
theorem pi_lt {b i n : Nat} (hb : b < n) (hi : i < n) : piB b i < n := by unfold piB; split <;> (try split) <;> omega
theorem rh_lt {b j n : Nat} (hb : b < n) (hj : j < n) : rhB b j < n := by unfold rhB; split <;> (try split) <;> omega
theorem pi_perm_is : ∀ n, n < 7 → ∀ b, b < n → ((List.range n).map (piB b)).Perm (List.range n) := by decide
def LD.beg (L : LD) (b : Nat) : LD := ⟨L.sg, (List.range L.n).map fun i => L.nm (piB b i), fun i c => rhB b (L.nx (piB b i) c), fun i c => L.am (piB b i) c, fun i => rhB b (L.tn (piB b i)), fun i => L.ta (piB b i), fun i => L.ys (piB b i)⟩
theorem beg_n (L : LD) (b : Nat) : (L.beg b).n = L.n := by
  show ((List.range L.n).map fun i => L.nm (piB b i)).length = L.n
  rw [List.length_map, List.length_range]
theorem st_is (L : LD) : L.st = (List.range L.n).map L.nm := by
  refine List.ext_getElem? fun i => ?_
  by_cases h : i < L.n
  · rw [nm_at h, List.getElem?_map, List.getElem?_range h] <;> rfl
  · have h' : ¬ i < L.st.length := h
    rw [List.getElem?_eq_none (by omega), List.getElem?_eq_none (by rw [List.length_map, List.length_range]; omega)]
theorem beg_perm {L : LD} (O : L.Ok) {b : Nat} (hb : b < L.n) : (L.beg b).st.Perm L.st := by
  have n7 : L.n < 7 := Nat.lt_succ_of_le O.sts.few
  have q := (pi_perm_is L.n n7 b hb).map L.nm
  rw [List.map_map, ← st_is] at q
  exact q
theorem LD.Ok.beg {L : LD} (O : L.Ok) {b : Nat} (hb : b < L.n) : (L.beg b).Ok := by
  have p := beg_perm O hb
  refine ⟨O.sgs, ⟨fun z hz => O.sts.of z (p.mem_iff.mp hz), p.nodup_iff.mpr O.sts.nd, by rw [p.length_eq]; exact O.sts.pos, by rw [p.length_eq]; exact O.sts.few⟩, fun i c hi hc => ?_, fun i hi => ?_⟩
  · rw [beg_n] at hi ⊢
    exact rh_lt hb (O.nxlt _ c (pi_lt hb hi) hc)
  · rw [beg_n] at hi ⊢
    exact rh_lt hb (O.tnlt _ (pi_lt hb hi))
theorem LD.Small.beg {L : LD} (s : L.Small) {b : Nat} (hb : b < L.n) : (L.beg b).Small := ⟨fun i c hi hc => by rw [beg_n] at hi; exact s.am _ c (pi_lt hb hi) hc, fun i hi => by rw [beg_n] at hi; exact s.ta _ (pi_lt hb hi)⟩
/-! ### what it does -/
section
variable {L : LD} {b k : Nat} {w : List Nat} (O : L.Ok) (hb : b = it (L.lead w) k) (hw : ∀ c ∈ w, c ∈ L.sg)
include O hb hw
end
end Wb
/-! a loop begun in another state, by the program -/
namespace Wb
open PySem L2 WbMin WbS Lz
theorem iteSn_n {c : Prop} [Decidable c] {a b : Prop} (hc : ¬ c) (h : b) : if c then a else b := by rw [if_neg hc]; exact h
theorem iteSn_p {c : Prop} [Decidable c] {a b : Prop} (hc : c) (h : a) : if c then a else b := by rw [if_pos hc]; exact h
section
variable {P : Program} {w : World} {K : PySem.W.Frag} {mg : Str → Option Value} {base : Heap} {f fS : Addr} {fd dS : FuncData}
end
section
variable {P : Program} {w : World} {K : PySem.W.Frag} {mg : Str → Option Value} {base : Heap} {f fS : Addr} {fd dS : FuncData}
end
end Wb
/-! Loop.changed -/
namespace Wb
open PySem L2 WbMin WbS Lz
structure ChA where
  (fCh fic fcr flo : Addr)
  (dCh dic dcr dlo : FuncData)
section
variable {P : Program} {w : World} {K : PySem.W.Frag} {mg : Str → Option Value} {base : Heap} {A : LA} {B : ChA} {e : Addr}
end
end Wb
/-! a loop with another row, another turn: the mathematics -/
namespace Wb
open PySem L2 WbMin WbS Lz
section
variable {L : LD} {i c j : Nat} {m : Int}
/-- the row that is put there -/
def LD.newR (L : LD) (i c j : Nat) (m : Int) : Row := ⟨L.nm i, c, L.nm j, m⟩
def LD.newT (L : LD) (i j : Nat) (m : Int) : Trn := ⟨L.nm i, L.nm j, m⟩
end
end Wb
/-! the changes of all three kinds: is_change_of -/
namespace Wb
open PySem L2 WbMin WbS Lz
/-- a change: another row, another turn, another beginning -/
inductive Chg
  | row (i c j : Nat) (m : Int)
  | turn (i j : Nat) (m : Int)
  | beg (b : Nat)
/-- what it tells -/
def Chg.told (L : LD) : Chg → List V
  | .row i c j m => Row.v (L.newR i c j m)
  | .turn i j m => Trn.v (L.newT i j m)
  | .beg b => [.str (L.nm b)]
def Chg.what : Chg → Str
  | .row .. => "row"
  | .turn .. => "turn"
  | .beg _ => "begin"
def Chg.vs (L : LD) (g : Chg) : List V := .str g.what :: g.told L
def Chg.Ok (L : LD) : Chg → Prop
  | .row i c j _ => i < L.n ∧ j < L.n ∧ c ∈ L.sg
  | .turn i j _ => i < L.n ∧ j < L.n
  | .beg b => b < L.n
section
variable {P : Program} {w : World} {K : PySem.W.Frag} {mg : Str → Option Value} {base : Heap} {f fS fR fT fO fI : Addr} {fd dS dR dT dO dI : FuncData}
end
end Wb
/-! the parts of a change, asked of values of any sort -/
namespace Lg
open PySem L2 WbMin WbS Lz Wb
/-- one of the signs -/
def sgL (sg : List Nat) : List Nat → Bool
  | [c] => decide (c ∈ sg)
  | _ => false
def sgB (sg : List Nat) : V → Bool
  | .str z => sgL sg z.cps.toList
  | _ => false
def rowB (sg : List Nat) (st : List Str) : List V → Bool
  | [a, b, c, d] => stB st a && sgB sg b && (stB st c && intB d)
  | _ => false
def turnB (st : List Str) : List V → Bool
  | [a, b, c] => stB st a && (stB st b && intB c)
  | _ => false
theorem So.sort {H : Hp} {v : V} (h : So H v) : (∃ z, v = .str z ∧ z.length ≤ sizeLine) ∨ (∃ i, v = .int i) ∨ Neither H v := by
  cases h with
  | one h =>
    cases h with
    | str f => exact .inl ⟨_, rfl, f⟩
    | int i => exact .inr (.inl ⟨i, rfl⟩)
    | non => exact .inr (.inr .non)
    | bl b => exact .inr (.inr (.bl b))
    | lst h => exact .inr (.inr (.lst h))
    | dK h => exact .inr (.inr (.dK h))
  | tup h => exact .inr (.inr (.tup h))
/-- a text, or nothing of a text -/
theorem So.text {H : Hp} {v : V} (K : PySem.W.Frag) (h : So H v) : (∃ z, v = .str z ∧ z.length ≤ sizeLine) ∨ ((∃ t, TyX K H v t ∧ PySem.W.kitOne K t (.type "str") = some false) ∧ (∀ st, stB st v = false) ∧ ∀ sg, sgB sg v = false) := by
  rcases So.sort h with h | ⟨i, rfl⟩ | n
  · exact .inl h
  · exact .inr ⟨⟨_, .base (.int i), kit_ty (by decide +kernel)⟩, fun _ => rfl, fun _ => rfl⟩
  · refine .inr ⟨n.str, ?_⟩
    cases n <;> exact ⟨fun _ => rfl, fun _ => rfl⟩
theorem odd1_tup {H : Hp} {v : V} (K : PySem.W.Frag) (h : Odd1 H v) : ∃ t, TyX K H v t ∧ PySem.W.kitOne K t (.type "tuple") = some false := by
  cases h with
  | str f => exact ⟨_, .base (.str _), kit_ty (by decide +kernel)⟩
  | int i => exact ⟨_, .base (.int i), kit_ty (by decide +kernel)⟩
  | non => exact ⟨_, .base .non, kit_ty (by decide +kernel)⟩
  | bl b => exact ⟨_, .base (.bl b), kit_ty (by decide +kernel)⟩
  | lst h => exact ⟨_, .base (.lst h), kit_ty (by decide +kernel)⟩
  | dK h => exact ⟨_, .base (.dK h), kit_ty (by decide +kernel)⟩
def spSignS : Sp := fun vs H Q _ => ∃ (v : V) (sg : List Nat), vs = [v, .str (S sg)] ∧ So H v ∧ Q (.bl (sgB sg v)) H
theorem sgB_one {sg : List Nat} {z : Str} {c : Nat} (h : z.cps.toList = [c]) : sgB sg (.str z) = decide (c ∈ sg) := by
  show sgL sg z.cps.toList = _
  rw [h] <;> rfl
theorem sgB_not {sg : List Nat} {z : Str} (h : z.length ≠ 1) : sgB sg (.str z) = false := by
  show sgL sg z.cps.toList = false
  unfold sgL
  split
  · rename_i c e
    refine absurd ?_ h
    show z.cps.size = 1
    rw [← Array.length_toList, e] <;> rfl
  · rfl
theorem one_of {z : Str} (h : z.length = 1) : ∃ c, z.cps.toList = [c] ∧ z = ⟨#[c]⟩ := by
  have e : z.cps.toList.length = 1 := by rw [Array.length_toList]; exact h
  match hl : z.cps.toList, e with
  | [c], _ =>
    refine ⟨c, rfl, ?_⟩
    rw [S_eq hl]
    rfl
section
variable {P : Program} {w : World} {K : PySem.W.Frag} {mg : Str → Option Value} {base : Heap} {f fS fR fT fO fI : Addr} {fd dS dR dT dO dI : FuncData}
theorem ok_signS (F : Fun K "is_sign_of" "is_sign_of" sSignOf f fd) (Z : Free mg) : FnOk P w K mg base CX0 1 f fd ["value", "signs"] spSignS := by
  refine F.ok scSO (fun vs H Q E h => by obtain ⟨v, sg, rfl, _⟩ := h; rfl) (fun cdv A outer s H vs Q E hr h => ?_)
  obtain ⟨v, sg, rfl, so, k⟩ := h
  refine ⟨_, pss_one (ps_ret (pe_and (pe_callB call_isi (by rfl) Z.isi (by decide +kernel) (pa_cons (pv 0) (pa_cons (pe_bltn (v := .ty "str") (u := .type "str") (by rfl) Z.str (by decide +kernel) rfl) pa_nil)))
    (pe_and (pe_cmpR op_eq (pe_callB call_len_str (by rfl) Z.len PySem.boot_len (pa_cons (pv 0) pa_nil)) pe_int (nomark _)) (pe_one (pe_cmpR op_in_sign (pv 0) (pv 1) rfl))))), ?_⟩
  rcases So.text K so with ⟨z, rfl, ft⟩ | ⟨⟨ty, h1, h2⟩, _, n⟩
  · refine ⟨_, rfl, _, _, .type "str", .type "str", true, rfl, .ty "str", .base (.str _), kit_ty (by decide +kernel), true, rfl, ?_⟩
    refine ⟨_, rfl, _, rfl, ft, rfl, _, rfl, ?_⟩
    by_cases e : z.length = 1
    · obtain ⟨c, e1, e2⟩ := one_of e
      refine iteSn_p (decide_eq_true (congrArg (fun n : Nat => V.int (n : Int)) e)) ?_
      refine ⟨_, rfl, _, rfl, c, S sg, by rw [e2], rfl, ?_⟩
      rw [S_cps, ← sgB_one e1]
      exact k
    · refine iteSn_n (fun q => e ?_) ?_
      · have q' := of_decide_eq_true q
        injection q' with q'
        exact_mod_cast q'
      · rw [sgB_not e] at k
        exact k
  · rw [n] at k
    exact ⟨_, rfl, _, _, ty, .type "str", false, rfl, .ty "str", h1, h2, false, rfl, k⟩
theorem four {xs : List V} (h : xs.length = 4) : ∃ a b c d, xs = [a, b, c, d] := by
  match xs, h with
  | [a, b, c, d], _ => exact ⟨a, b, c, d, rfl⟩
theorem three {xs : List V} (h : xs.length = 3) : ∃ a b c, xs = [a, b, c] := by
  match xs, h with
  | [a, b, c], _ => exact ⟨a, b, c, rfl⟩
end
end Lg
/-! the changes of all three kinds: changed_row -/
namespace Wb
open PySem L2 WbMin WbS Lz
end Wb
/-! changed_row, all kinds -/
namespace Wb
open PySem L2 WbMin WbS Lz
section
variable {P : Program} {w : World} {K : PySem.W.Frag} {mg : Str → Option Value} {base : Heap} {f : Addr} {fd : FuncData}
end
end Wb
/-! Loop.changed, all kinds -/
namespace Wb
open PySem L2 WbMin WbS Lz
section
variable {P : Program} {w : World} {K : PySem.W.Frag} {mg : Str → Option Value} {base : Heap} {A : LA} {B : ChA} {e : Addr}
end
end Wb
/-! Loop.changed asked with values of any sort: a change, or refused -/
namespace Lg
open PySem L2 WbMin WbS Lz Wb Le
/-! ### what is a change -/
section
variable {P : Program} {w : World} {K : PySem.W.Frag} {mg : Str → Option Value} {base : Heap} {f fS fR fT fO fI : Addr} {fd dS dR dT dO dI : FuncData}
end
end Lg
/-! Loop.changed refused -/
namespace Lg
open PySem L2 PySem.Spec PyProof.Rows WbMin WbS Lz Wb Le
/-- raise C(None) -/
def tBadC (C : Addr) (g : Str) (W : WX) (v : V) : TS := fun _ σ H => ∀ d, H d = none → W (.ref C) (some d) σ (upd H d (.xd [(g, v)]))
section
variable {X : Cx} {W : WX} {C f : Addr} {fd : FuncData} {x g qual : Str} {st : Stmt} {k : Nat} {p p0 pos pos2 : Pos}
end
section
variable {P : Program} {w : World} {K : PySem.W.Frag} {mg : Str → Option Value} {base : Heap} {A : LA} {B : ChA} {e : Addr} {cI fI : Addr} {dI : FuncData}
/-- an error of class C that keeps x as g -/
def FailsN (E : XK) (C : Addr) (g : Str) (x : V) (H : Hp) : Prop := ∀ (dx : Addr) (H' : Hp), Same H H' → H' dx = none → E (.ref C) (some dx) (upd H' dx (.xd [(g, x)]))
theorem passNg {X : Cx} {E : XK} (tk : L2N.Takes X (fun cls d _ H => E cls d H)) : Passes (L2N.CX X.prog X.w) X E := L2N.passes_call tk fun _ _ _ _ h => h
end
end Lg
/-! is_name of a value of any sort; check_states, good or bad -/
namespace Lg
open PySem L2 WbMin WbS Lz Wb
def okn (c : Nat) : Bool := okc c || (decide (48 ≤ c) && decide (c ≤ 57))
def isNB (l : List Nat) : Bool := decide (1 ≤ l.length) && decide (l.length ≤ 8) && okc (l.getD 0 0) && l.all okn
section
variable {P : Program} {w : World} {K : PySem.W.Frag} {mg : Str → Option Value} {base : Heap} {f : Addr} {fd : FuncData}
end
end Lg
/-! check_states of values of any sort, good or refused -/
namespace Lg
open PySem L2 PySem.Spec PyProof.Rows WbMin WbS Lz Wb Le
/-- a value of any sort and what its tuples hold, two deep -/
inductive Wh (H : Hp) : V → Prop
  | one {v : V} (h : Odd1 H v) : Wh H v
  | tup {a : Addr} {xs : List V} (h : H a = some (.tup xs)) (l : xs.length ≤ 99) (r : ∀ y ∈ xs, TopS H y) (c : ∀ y ∈ xs, ∀ z, y = .str z → PyData.strOk z = true) : Wh H (.ref a)
theorem Wh.same {H H' : Hp} {v : V} (h : Wh H v) (s : Same H H') : Wh H' v := by
  cases h with
  | one h => exact .one (h.same s)
  | tup h l r c => exact .tup (s _ _ h) l (fun y hy => (r y hy).same s) c
theorem Wh.so {H : Hp} {v : V} (h : Wh H v) : So H v := by
  cases h with
  | one h => exact .one h
  | tup h l r => exact .tup h
/-- nothing, or an error of class C that keeps v as g -/
def Outc (Q : VK) (E : XK) (C : Addr) (g : Str) (H : Hp) : Option V → Prop
  | none => ∀ H', Same H H' → Q .non H'
  | some v => FailsN E C g v H
theorem FailsN.mono {E : XK} {C : Addr} {g : Str} {v : V} {H H' : Hp} (h : FailsN E C g v H) (s : Same H H') : FailsN E C g v H' := fun dx H2 s2 n => h dx H2 (s.trans s2) n
section
variable {X : Cx} {W : WX} {C f : Addr} {fd : FuncData} {x g qual : Str} {st : Stmt} {k : Nat} {p pos pos2 : Pos} {ex : Expr} {v : V}
theorem ps_badV (E : ErrF X.K X.mg x g qual st C f fd) (F1 : FnOk X.prog X.w X.K X.mg X.base CX0 k f fd ["self", g] (spErr C g)) (hr : Room (k + 1) X.A) (calm : X.calm = true) (tk : L2N.Takes X W) (gl : Gl X x) (ha : PE X ex (tC v)) (hsx : starEach [ex] X.env = (false, eval ex X.env) :: starEach [] X.env)
    (nd : (x == ("__debug__" : Str)) = false := by decide) : PS X (.Raise (some (.Call (.Name x p) [ex] [] pos)) none pos2) (tBadC C g W v) := by
  refine ⟨fun pins s σ H D I h => (L2N.ps_raise calm tk (Le.pmk_calm (CX := CX0) E.o E.ini E.fn F1 hr E.b (fun _ _ _ _ _ _ _ z => z.elim) gl E.g (pa_cons ha pa_nil (hs := hsx)) nd hsx rfl)).run pins s σ H D I ?_⟩
  refine ⟨(by show 1 ≤ 1000; decide), fun a na => ⟨a, v, rfl, upd_same, fun d nd ne => ⟨rfl, d, [(g, v)], upd_same, ?_, ?_, ?_⟩⟩⟩
  · rw [upd_ne ne, upd_same]
  · rw [upd_ne ne] at nd
    exact nd
  · have nd' : H d = none := by
      rw [upd_ne ne] at nd
      exact nd
    rw [dict_left na ne]
    exact h d nd'
end
def nameK : V → Option Str
  | .str z => if isNB z.cps.toList = true then some z else none
  | _ => none
theorem key_map {f : V → Option Str} (hf : ∀ v z, f v = some z → v = .str z) (xs : List V) : KeyT (xs.map f) xs := by
  refine ⟨List.length_map _, fun i z h => ?_⟩
  rw [List.getElem?_map] at h
  obtain ⟨v, hv, e⟩ := Option.map_eq_some_iff.mp h
  rw [hv, hf v z e]
/-- what is wrong of states -/
def stR (xs : List V) : Option V := if xs.length = 0 then some .non else match fwO ((xs.take 6).map nameK) with
  | some i => some (.int (i : Nat))
  | none => if 6 < xs.length then some (.int 6) else none
def stO : Option HO → Option V
  | some (.tup xs) => stR xs
  | _ => some .non
def stW (H : Hp) : V → Option V
  | .ref a => stO (H a)
  | _ => some .non
theorem stW_one {H : Hp} {v : V} (h : Odd1 H v) : stW H v = some .non := by
  cases h with
  | lst h =>
    show stO (H _) = _
    rw [h] <;> rfl
  | dK h =>
    show stO (H _) = _
    rw [h] <;> rfl
  | _ => rfl
theorem stW_tup {H : Hp} {a : Addr} {xs : List V} (h : H a = some (.tup xs)) : stW H (.ref a) = stR xs := by
  show stO (H a) = _
  rw [h] <;> rfl
section
variable {P : Program} {w : World} {K : PySem.W.Frag} {mg : Str → Option Value} {base : Heap} {f fN fF cS fS : Addr} {fd dN dF dS : FuncData}
end
end Lg
/-! check_yes and check_turns of values of any sort, good or refused -/
namespace Lg
open PySem L2 PySem.Spec PyProof.Rows WbMin WbS Lz Wb Le
/-- a text of st -/
def stK (st : List Str) : V → Option Str
  | .str z => if z ∈ st then some z else none
  | _ => none
/-- an error's index, or nothing -/
def ixO : Option Nat → Option V
  | some i => some (.int (i : Nat))
  | none => none
def yeO (st : List Str) : Option HO → Option V
  | some (.tup xs) => ixO (fwO (xs.map (stK st)))
  | _ => some .non
def yeW (H : Hp) (st : List Str) : V → Option V
  | .ref a => yeO st (H a)
  | _ => some .non
theorem yeW_one {H : Hp} {st : List Str} {v : V} (h : Odd1 H v) : yeW H st v = some .non := by
  cases h with
  | lst h =>
    show yeO st (H _) = _
    rw [h] <;> rfl
  | dK h =>
    show yeO st (H _) = _
    rw [h] <;> rfl
  | _ => rfl
theorem yeW_tup {H : Hp} {st : List Str} {a : Addr} {xs : List V} (h : H a = some (.tup xs)) : yeW H st (.ref a) = ixO (fwO (xs.map (stK st))) := by
  show yeO st (H a) = _
  rw [h] <;> rfl
/-- the first state of a turn -/
def tnL (st : List Str) : List V → Option Str
  | .str z :: ys => if turnB st (.str z :: ys) = true then some z else none
  | _ => none
def tnO (st : List Str) : Option HO → Option Str
  | some (.tup ys) => tnL st ys
  | _ => none
def tnK (H : Hp) (st : List Str) : V → Option Str
  | .ref a => tnO st (H a)
  | _ => none
theorem tnK_one {H : Hp} {st : List Str} {v : V} (h : Odd1 H v) : tnK H st v = none := by
  cases h with
  | lst h =>
    show tnO st (H _) = _
    rw [h] <;> rfl
  | dK h =>
    show tnO st (H _) = _
    rw [h] <;> rfl
  | _ => rfl
theorem tnK_tup {H : Hp} {st : List Str} {a : Addr} {ys : List V} (h : H a = some (.tup ys)) : tnK H st (.ref a) = tnL st ys := by
  show tnO st (H a) = _
  rw [h] <;> rfl
theorem tnK_same {H H' : Hp} {st : List Str} {v : V} (h : TopS H v) (s : Same H H') : tnK H' st v = tnK H st v := by
  cases h with
  | one h => rw [tnK_one h, tnK_one (h.same s)]
  | tup h l r => rw [tnK_tup h, tnK_tup (s _ _ h)]
/-- what a list holds in the places of keys -/
def kV : Option Str → V
  | some z => .str z
  | none => .non
def tuO (H : Hp) (st : List Str) : Option HO → Option V
  | some (.tup xs) => ixO (fwO (xs.map (tnK H st)))
  | _ => some .non
def tuW (H : Hp) (st : List Str) : V → Option V
  | .ref a => tuO H st (H a)
  | _ => some .non
theorem tuW_one {H : Hp} {st : List Str} {v : V} (h : Odd1 H v) : tuW H st v = some .non := by
  cases h with
  | lst h =>
    show tuO H st (H _) = _
    rw [h] <;> rfl
  | dK h =>
    show tuO H st (H _) = _
    rw [h] <;> rfl
  | _ => rfl
theorem tuW_tup {H : Hp} {st : List Str} {a : Addr} {xs : List V} (h : H a = some (.tup xs)) : tuW H st (.ref a) = ixO (fwO (xs.map (tnK H st))) := by
  show tuO H st (H a) = _
  rw [h] <;> rfl
section
variable {P : Program} {w : World} {K : PySem.W.Frag} {mg : Str → Option Value} {base : Heap} {f fN fF fR fI cS cT fT : Addr} {fd dN dF dR dI dT : FuncData} {fS : Addr} {dS : FuncData} {fE : Addr} {dE : FuncData}
end
end Lg
/-! check_turns of values of any sort, good or refused -/
namespace Lg
open PySem L2 PySem.Spec PyProof.Rows WbMin WbS Lz Wb Le
section
variable {P : Program} {w : World} {K : PySem.W.Frag} {mg : Str → Option Value} {base : Heap} {f fN fF fR fI cS cT fT : Addr} {fd dN dF dR dI dT : FuncData} {fS : Addr} {dS : FuncData} {fE : Addr} {dE : FuncData}
end
end Lg
/-! check_rows of values of any sort, good or refused -/
namespace Lg
open PySem L2 PySem.Spec PyProof.Rows WbMin WbS Lz Wb Le
/-- state and sign of a row -/
def rwL (sg : List Nat) (st : List Str) : List V → Option (Str × Str)
  | .str a :: .str c :: ys => if rowB sg st (.str a :: .str c :: ys) = true then some (a, c) else none
  | _ => none
def rwO (sg : List Nat) (st : List Str) : Option HO → Option (Str × Str)
  | some (.tup ys) => rwL sg st ys
  | _ => none
def rwK (H : Hp) (sg : List Nat) (st : List Str) : V → Option (Str × Str)
  | .ref a => rwO sg st (H a)
  | _ => none
section
variable {H H' : Hp} {sg : List Nat} {st : List Str} {v : V}
theorem rwK_one (h : Odd1 H v) : rwK H sg st v = none := by
  cases h with
  | lst h =>
    show rwO sg st (H _) = _
    rw [h] <;> rfl
  | dK h =>
    show rwO sg st (H _) = _
    rw [h] <;> rfl
  | _ => rfl
theorem rwK_tup {a : Addr} {ys : List V} (h : H a = some (.tup ys)) : rwK H sg st (.ref a) = rwL sg st ys := by
  show rwO sg st (H a) = _
  rw [h] <;> rfl
theorem rwK_same (h : TopS H v) (s : Same H H') : rwK H' sg st v = rwK H sg st v := by
  cases h with
  | one h => rw [rwK_one h, rwK_one (h.same s)]
  | tup h l r => rw [rwK_tup h, rwK_tup (s _ _ h)]
end
theorem KeyP.upd {H : Hp} {l : List (Option (Str × Str))} {xs ys : List V} {D : Addr} {o : HO} (h : KeyP H l xs) (hD : H D = some (.lst ys)) : KeyP (L2.upd H D o) l xs := ⟨h.1, fun i p e => by
  obtain ⟨q, a, h1, h2⟩ := h.2 i p e
  refine ⟨q, a, h1, (upd_ne fun z => ?_).trans h2⟩
  subst z
  rw [hD] at h2
  cases h2⟩
theorem KeyP.snoc {H : Hp} {l : List (Option (Str × Str))} {xs : List V} {o : Option (Str × Str)} {x : V} (h : KeyP H l xs) (n : ∀ p, o = some p → okP p ∧ ∃ a, x = .ref a ∧ H a = some (.tup (pV p))) : KeyP H (l ++ [o]) (xs ++ [x]) := by
  refine ⟨by rw [List.length_append, List.length_append, h.1] <;> rfl, fun i p e => ?_⟩
  by_cases hi : i < l.length
  · rw [List.getElem?_append_left hi] at e
    rw [List.getElem?_append_left (by rw [← h.1]; exact hi)]
    exact h.2 i p e
  · rw [List.getElem?_append_right (by omega)] at e
    rw [List.getElem?_append_right (by rw [← h.1]; omega), ← h.1]
    cases ei : i - l.length with
    | zero =>
      rw [ei] at e
      have e' : o = some p := by simpa using e
      obtain ⟨q, a, h1, h2⟩ := n p e'
      exact ⟨q, a, by rw [h1] <;> rfl, h2⟩
    | succ j =>
      rw [ei] at e
      simp at e
/-- what is wrong of rows -/
def rwR (H : Hp) (sg : List Nat) (st : List Str) (xs : List V) : Option V := match fwO (xs.map (rwK H sg st)) with
  | some i => some (.int (i : Nat))
  | none => if xs.length < sg.length * st.length then some .non else none
def roO (H : Hp) (sg : List Nat) (st : List Str) : Option HO → Option V
  | some (.tup xs) => rwR H sg st xs
  | _ => some .non
def roW (H : Hp) (sg : List Nat) (st : List Str) : V → Option V
  | .ref a => roO H sg st (H a)
  | _ => some .non
theorem roW_one {H : Hp} {sg : List Nat} {st : List Str} {v : V} (h : Odd1 H v) : roW H sg st v = some .non := by
  cases h with
  | lst h =>
    show roO H sg st (H _) = _
    rw [h] <;> rfl
  | dK h =>
    show roO H sg st (H _) = _
    rw [h] <;> rfl
  | _ => rfl
theorem roW_tup {H : Hp} {sg : List Nat} {st : List Str} {a : Addr} {xs : List V} (h : H a = some (.tup xs)) : roW H sg st (.ref a) = rwR H sg st xs := by
  show roO H sg st (H a) = _
  rw [h] <;> rfl
section
variable {P : Program} {w : World} {K : PySem.W.Frag} {mg : Str → Option Value} {base : Heap} {f fN fF fR fI fO cR fT : Addr} {fd dN dF dR dI dO dT : FuncData} {fS : Addr} {dS : FuncData}
end
end Lg
/-! is_signs of values of any sort; _law_bad_signs -/
namespace Wb
open PySem L2 WbMin WbS Lz
theorem nd_of : ∀ (n : Nat) (xs : List Str), xs.length = n → (WbSet.differ xs).length = n → xs.Nodup
  | 0, xs, h, _ => by
    rw [List.eq_nil_of_length_eq_zero h]
    exact List.nodup_nil
  | n + 1, xs, h, hd => by
    have ne : xs ≠ [] := fun z => by rw [z] at h; cases h
    have e := List.dropLast_concat_getLast ne
    have ld : xs.dropLast.length = n := by rw [List.length_dropLast, h] <;> rfl
    have ed : WbSet.differ xs = WbSet.addNew (WbSet.differ xs.dropLast) (xs.getLast ne) := by rw [← WbSet.differ_more, e]
    rw [ed, WbSet.addNew_len] at hd
    have le := WbSet.differ_le xs.dropLast
    by_cases m : xs.getLast ne ∈ WbSet.differ xs.dropLast
    · rw [if_pos m] at hd
      omega
    · rw [if_neg m] at hd
      have nd := nd_of n xs.dropLast ld (by omega)
      rw [differ_mem] at m
      rw [← e, List.nodup_append]
      refine ⟨nd, List.nodup_cons.mpr ⟨List.not_mem_nil, List.nodup_nil⟩, ?_⟩
      rintro x hx y hy rfl
      rw [List.mem_singleton] at hy
      subst hy
      exact m hx
theorem signs_nd {l : List Nat} : (WbSet.signs (S l)).Nodup ↔ l.Nodup := by
  unfold WbSet.signs
  rw [S_cps]
  constructor
  · intro h
    have h' := List.pairwise_map.mp h
    exact h'.imp fun n e => n (by rw [e])
  · exact fun nd => List.Pairwise.map _ (fun a b h q => h (by injection q with q; injection q with q; injection q)) nd
theorem differ_len {l : List Nat} : (WbSet.differ (WbSet.signs (S l))).length = l.length ↔ l.Nodup := by
  have ln : (WbSet.signs (S l)).length = l.length := by
    unfold WbSet.signs
    rw [List.length_map, S_cps]
  constructor
  · intro h
    exact signs_nd.mp (nd_of _ _ ln h)
  · intro nd
    rw [← ln]
    exact same_count (differ_nodup _) (signs_nd.mpr nd) fun x => differ_mem x _
def sgnB (l : List Nat) : Bool := isWB l && decide (l.length ≤ 4) && decide l.Nodup
theorem sgnB_iff {l : List Nat} : sgnB l = true ↔ Sgs l := by
  unfold sgnB
  rw [Bool.and_eq_true, Bool.and_eq_true, isWB_iff, decide_eq_true_iff, decide_eq_true_iff]
  constructor
  · rintro ⟨⟨h, a⟩, b⟩
    exact ⟨h.low, b, h.pos, a⟩
  · rintro h
    exact ⟨⟨h.w, h.few⟩, h.nd⟩
/-- the signs of a loop or a kind -/
def signsB : V → Bool
  | .str z => sgnB z.cps.toList
  | _ => false
theorem signsB_S {l : List Nat} : signsB (.str (S l)) = sgnB l := congrArg sgnB (S_cps l)
abbrev sBadSigns : Stmt := top 49
def alpha : List Nat := (List.range 26).map (· + 97)
theorem alpha_is : ("abcdefghijklmnopqrstuvwxyz" : Str) = S alpha := by decide +kernel
theorem alpha_mem {c : Nat} : c ∈ alpha ↔ 97 ≤ c ∧ c ≤ 122 := by
  unfold alpha
  rw [List.mem_map]
  constructor
  · rintro ⟨i, hi, rfl⟩
    have := List.mem_range.mp hi
    omega
  · rintro ⟨a, b⟩
    exact ⟨c - 97, List.mem_range.mpr (by omega), by omega⟩
theorem goodW_alpha {l : List Nat} : goodW alpha (.str (S l)) = isWB l := by
  rw [goodW_S, Bool.eq_iff_iff, Bool.and_eq_true, List.all_eq_true]
  constructor
  · exact fun h => h.1
  · exact fun h => ⟨h, fun c hc => decide_eq_true (alpha_mem.mpr ((isWB_iff.mp h).low c hc))⟩
section
variable {P : Program} {w : World} {K : PySem.W.Frag} {mg : Str → Option Value} {base : Heap} {f fW : Addr} {fd dW : FuncData}
theorem scBs : FnScope ["_law_abc"] ["_law_abc"] (defScope sBadSigns) := ⟨rfl, rfl, rfl, by decide +kernel, rfl, by decide +kernel, by decide +kernel⟩
end
end Wb
/-! the pairs of a kind, of any sort: a pair or not, the first that is wrong -/
namespace Ke
open PySem L2 PySem.Spec PyProof.Rows WbMin WbS Lz Wb Le
open Lg
/-- a word of two of the signs -/
def pairL (sg : List Nat) : List Nat → Bool
  | [a, b] => decide (a ∈ sg) && decide (b ∈ sg)
  | _ => false
def pairB (sg : List Nat) : V → Bool
  | .str z => pairL sg z.cps.toList
  | _ => false
def prK (sg : List Nat) : V → Option Str
  | .str z => if pairL sg z.cps.toList = true then some z else none
  | _ => none
theorem prK_some (sg : List Nat) (v : V) : (prK sg v).isSome = pairB sg v := by
  cases v with
  | str z =>
    show (if pairL sg z.cps.toList = true then some z else none).isSome = pairL sg z.cps.toList
    cases pairL sg z.cps.toList <;> rfl
  | _ => rfl
theorem prK_eq {sg : List Nat} {v : V} {z : Str} (h : prK sg v = some z) : v = .str z ∧ pairL sg z.cps.toList = true := by
  cases v with
  | str y =>
    have h' : (if pairL sg y.cps.toList = true then some y else none) = some z := h
    by_cases e : pairL sg y.cps.toList = true
    · rw [if_pos e] at h'
      cases h'
      exact ⟨rfl, e⟩
    · rw [if_neg e] at h'
      cases h'
  | _ => cases h
/-- what is wrong of pairs -/
def prR (sg : List Nat) (xs : List V) : Option V := match fwO (xs.map (prK sg)) with
  | some i => some (.int (i : Nat))
  | none => none
def prO (sg : List Nat) : Option HO → Option V
  | some (.tup xs) => prR sg xs
  | _ => some .non
def prW (H : Hp) (sg : List Nat) : V → Option V
  | .ref a => prO sg (H a)
  | _ => some .non
theorem prW_one {H : Hp} {sg : List Nat} {v : V} (h : Odd1 H v) : prW H sg v = some .non := by
  cases h with
  | lst h =>
    show prO sg (H _) = _
    rw [h] <;> rfl
  | dK h =>
    show prO sg (H _) = _
    rw [h] <;> rfl
  | _ => rfl
theorem prW_tup {H : Hp} {sg : List Nat} {a : Addr} {xs : List V} (h : H a = some (.tup xs)) : prW H sg (.ref a) = prR sg xs := by
  show prO sg (H a) = _
  rw [h] <;> rfl
theorem prW_same {H H' : Hp} {sg : List Nat} {x : V} (h : Lg.Wh H x) (s : Same H H') : prW H' sg x = prW H sg x := by
  cases h with
  | one h => rw [prW_one h, prW_one (h.same s)]
  | tup h l r => rw [prW_tup h, prW_tup (s _ _ h)]
abbrev sErrInvalidPairs : Stmt := inClass (top 20) 0
def spIsPairA : Sp := fun vs H Q _ => ∃ (x : V) (sg : List Nat), vs = [x, .str (S sg)] ∧ So H x ∧ Q (.bl (pairB sg x)) H
def spChPairsA (C : Addr) : Sp := fun vs H Q E => ∃ (x : V) (sg : List Nat), vs = [x, .str (S sg)] ∧ Lg.Wh H x ∧ Outc Q E C "index" H (prW H sg x)
section
variable {P : Program} {w : World} {K : PySem.W.Frag} {mg : Str → Option Value} {base : Heap} {f fO fP fF cP fE : Addr} {fd dO dP dF dE : FuncData}
theorem so_str (K : PySem.W.Frag) {H : Hp} {v : V} (h : So H v) : (∃ z, v = .str z ∧ z.length ≤ sizeLine) ∨ ((∃ t, TyX K H v (.type t) ∧ PySem.W.kitOne K (.type t) (.type "str") = some false) ∧ ∀ sg, pairB sg v = false) := by
  cases h with
  | one h =>
    cases h with
    | str f => exact .inl ⟨_, rfl, f⟩
    | int i => exact .inr ⟨⟨_, .base (.int i), kit_ty (by decide +kernel)⟩, fun _ => rfl⟩
    | non => exact .inr ⟨⟨_, .base .non, kit_ty (by decide +kernel)⟩, fun _ => rfl⟩
    | bl b => exact .inr ⟨⟨_, .base (.bl b), kit_ty (by decide +kernel)⟩, fun _ => rfl⟩
    | lst h => exact .inr ⟨⟨_, .base (.lst h), kit_ty (by decide +kernel)⟩, fun _ => rfl⟩
    | dK h => exact .inr ⟨⟨_, .base (.dK h), kit_ty (by decide +kernel)⟩, fun _ => rfl⟩
  | tup h => exact .inr ⟨⟨_, .base (.tup h), kit_ty (by decide +kernel)⟩, fun _ => rfl⟩
theorem scPrA : FnScope ["value", "signs"] ["value", "signs"] (defScope sIsPair) := ⟨rfl, rfl, rfl, by decide +kernel, rfl, by decide +kernel, by decide +kernel⟩
set_option maxHeartbeats 2000000 in
theorem ok_ispairA (F : Fun K "_is_pair" "_is_pair" sIsPair f fd) (Z : Free mg) (DO : Def K mg "is_sign_of" sSignOf ["value", "signs"] fO dO) : FnOk P w K mg base CX0 2 f fd ["value", "signs"] spIsPairA := by
  have GO : FnOk P w K mg base CX0 1 fO dO ["value", "signs"] Lg.spSignS := ok_signS DO.F Z
  refine F.ok scPrA (fun vs H Q E h => by obtain ⟨x, sg, rfl, _⟩ := h; rfl) (fun cdv A outer s H vs Q E hr h => ?_)
  obtain ⟨x, sg, rfl, so, k⟩ := h
  refine ⟨_, pss_cons (ps_if (PW.pt (pw_or (pt_not (pt_val (pe_callB call_isi (by rfl) Z.isi (by decide +kernel) (pa_cons (pv 0) (pa_cons (pe_bltn (v := .ty "str") (u := .type "str") (by rfl) Z.str (by decide +kernel) rfl) pa_nil)))))
      (pw_or1 (pt_cmpR op_ne (pe_callB call_len_str (by rfl) Z.len PySem.boot_len (pa_cons (pv 0) pa_nil)) pe_int (nomark _))))) (pss_one (ps_ret pe_bl)) pss_nil)
    (pss_one (ps_ret (pe_and (pe_call GO hr rfl DO.g DO.kp DO.b .nil pass0 (pa_cons (pe_ix ix_str (pv 0) pe_int (fun _ _ => rfl)) (pa_cons (pv 1) pa_nil))) (pe_one (pe_call GO hr rfl DO.g DO.kp DO.b .nil pass0 (pa_cons (pe_ix ix_str (pv 0) pe_int (fun _ _ => rfl)) (pa_cons (pv 1) pa_nil))))))), ?_⟩
  rcases so_str K so with ⟨z, rfl, fits⟩ | ⟨⟨t, ty, kt⟩, no⟩
  · refine ⟨_, rfl, _, _, .type "str", .type "str", true, rfl, .ty "str", .base (.str _), kit_ty (by decide +kernel), true, rfl, ?_⟩
    have zl : z.length = z.cps.toList.length := (Array.length_toList).symm
    refine ⟨_, rfl, _, rfl, fits, rfl, _, rfl, ite2 (fun q => ?_) (fun q => ?_)⟩
    · have ne : z.cps.toList.length ≠ 2 := fun e => by
        rw [zl, e] at q
        exact absurd q (by decide)
      have e : pairB sg (.str z) = false := by
        show pairL sg z.cps.toList = false
        match z.cps.toList, ne with
        | [], _ => rfl
        | [_], _ => rfl
        | [_, _], n => exact absurd rfl n
        | _ :: _ :: _ :: _, _ => rfl
      rw [e] at k
      exact k
    · have two : z.cps.toList.length = 2 := by
        by_cases e : z.cps.toList.length = 2
        · exact e
        · exact absurd (by
            rw [zl]
            show (!decide (V.int (z.cps.toList.length : Nat) = V.int 2)) = true
            rw [decide_eq_false (fun y => e (by injection y with y; exact_mod_cast y))] <;> rfl) q
      obtain ⟨a, b, eab⟩ : ∃ a b, z.cps.toList = [a, b] := by
        match z.cps.toList, two with
        | [a, b], _ => exact ⟨a, b, rfl⟩
      have e : pairB sg (.str z) = (decide (a ∈ sg) && decide (b ∈ sg)) := by
        show pairL sg z.cps.toList = _
        rw [eab] <;> rfl
      rw [e] at k
      have one : ∀ c : Nat, So H (.str ⟨#[c]⟩) := fun c => .one (.str (by rw [sizeLine_eq]; show 1 ≤ _; decide))
      refine ⟨_, rfl, _, _, a, rfl, rfl, fits, by rw [eab]; exact atI_nat (j := 0) rfl, _, rfl, _, sg, rfl, one a, decide (a ∈ sg), rfl, ?_⟩
      by_cases ha : a ∈ sg
      · rw [decide_eq_true ha] at k ⊢
        refine ⟨_, rfl, _, _, b, rfl, rfl, fits, by rw [eab]; exact atI_nat (j := 1) rfl, _, rfl, _, sg, rfl, one b, ?_⟩
        exact k
      · rw [decide_eq_false ha] at k ⊢
        exact k
  · refine ⟨_, rfl, _, _, .type t, .type "str", false, rfl, .ty "str", ty, kt, false, rfl, ?_⟩
    have k := k
    rw [no] at k
    exact k
theorem scErrP : FnScope ["self", "index"] ["self", "index"] (defScope sErrInvalidPairs) := ⟨rfl, rfl, rfl, by decide +kernel, rfl, by decide +kernel, by decide +kernel⟩
theorem ok_errP (EP : ErrF K mg "InvalidPairs" "index" "InvalidPairs.__init__" sErrInvalidPairs cP fE dE) : FnOk P w K mg base CX0 1 fE dE ["self", "index"] (spErr cP "index") := by
  refine EP.F.ok scErrP (fun vs H Q E h => by obtain ⟨a, y, rfl, _⟩ := h; rfl) (fun cdv A outer s H vs Q E' hr h => ?_)
  obtain ⟨a, y, rfl, ha, k⟩ := h
  exact ⟨_, pss_one (ps_ost (pv 0) (pv 1)), _, rfl, _, rfl, a, cP, rfl, EP.o, EP.no, .inl ⟨ha, k⟩⟩
set_option maxHeartbeats 2000000 in
theorem ok_chpairsA (F : Fun K "_check_pairs" "_check_pairs" sChPairs f fd) (Z : Free mg) (mT : mg "tuple" = none) (mE : mg "enumerate" = none) (DP : Def K mg "_is_pair" sIsPair ["value", "signs"] fP dP) (DO : Def K mg "is_sign_of" sSignOf ["value", "signs"] fO dO) (DF : Def K mg "first_wrong" sFirst ["values", "right"] fF dF)
    (EP : ErrF K mg "InvalidPairs" "index" "InvalidPairs.__init__" sErrInvalidPairs cP fE dE) : FnOk P w K mg base (L2N.CX P w) 3 f fd ["pairs", "signs"] (spChPairsA cP) := by
  have GP : FnOk P w K mg base CX0 2 fP dP ["value", "signs"] spIsPairA := ok_ispairA DP.F Z DO
  have GF : FnOk P w K mg base CX0 1 fF dF ["values", "right"] spFirstA := ok_firstA DF.F mE
  have GE : FnOk P w K mg base CX0 1 fE dE ["self", "index"] (spErr cP "index") := ok_errP EP
  refine okN F scCp (fun vs H Q E h => by obtain ⟨x, sg, rfl, _⟩ := h; rfl) (fun cdv A outer s H vs Q E hr h => ?_)
  obtain ⟨x, sg, rfl, wh, k⟩ := h
  have hr1 : Room 1 _ := hr.mono (by decide)
  refine ⟨_, pss_cons (ps_if (pt_not (pt_val (pe_callB call_isi (by rfl) Z.isi (by decide +kernel) (pa_cons (pv 0) (pa_cons (pe_bltn (v := .ty "tuple") (u := .type "tuple") (by rfl) mT (by decide +kernel) rfl) pa_nil))))) (pss_one (ps_badV EP GE hr rfl (L2N.takes_of rfl rfl rfl rfl) rfl pe_non rfl)) pss_nil)
    (pss_cons (ps_set (i := 2) scCp.nd rfl (.inl rfl) (pe_call GF hr1 rfl DF.g DF.kp DF.b .nil pass0 (pa_cons (pv 0) (pa_cons
        (pe_lc (own := [("pair", 3)]) (g := gName 3) (tt := tYes) rfl scCp.nd (pi_tup (pv 0)) (blkOk_by (N := ["pairs", "signs", "wrong", "pair"]) (sc := defScope sChPairs) (by decide +kernel)) (fun _ _ _ _ _ => pg_name (i := 3) scCp.nd rfl (.inl rfl)) (fun _ _ _ _ _ => pts_nil)
          (fun _ _ _ _ _ => pe_call GP hr rfl DP.g DP.kp DP.b .nil pass0 (pa_cons (pv 3) (pa_cons (pv 1) pa_nil)))) pa_nil))))
    (pss_one (ps_if (pt_cmpR op_notN (pv 2) pe_non (nomark _)) (pss_one (ps_bad EP GE hr rfl (L2N.takes_of rfl rfl rfl rfl) rfl (pv 2))) pss_nil))), ?_⟩
  cases wh with
  | one ho =>
    rw [prW_one ho] at k
    obtain ⟨ty, h1, h2⟩ := odd1_tup K ho
    refine ⟨_, rfl, _, _, ty, .type "tuple", false, rfl, .ty "tuple", h1, h2, false, rfl, ?_⟩
    exact fun dx n => k dx H (Same.refl H) n
  | @tup t xs ht few r =>
    rw [prW_tup ht] at k
    unfold prR at k
    have so : ∀ y ∈ xs, So H y := fun y hy => by
      cases r y hy with
      | one h => exact .one h
      | tup h _ _ => exact .tup h
    refine ⟨_, rfl, _, _, .type "tuple", .type "tuple", true, rfl, .ty "tuple", .base (.tup ht), kit_ty (by decide +kernel), true, rfl, ?_⟩
    refine ⟨_, rfl, _, rfl, t, rfl, ⟨_, SqT.of ht⟩, fun D hD => lc_it (walk_tup (xs := xs)) (fun i H3 => H3 D = some (.lst (((xs.take i).map (pairB sg)).map V.bl)) ∧ Same H H3) ⟨upd_same, Same.put (Same.refl H) hD⟩ (fun _ _ _ h => SqT.of (h.2 _ _ ht)) ?_ ?_⟩
    · rintro i x H3 H3' hi ⟨g1, g2⟩ ⟨rfl, hx⟩
      refine ⟨rfl, _, rfl, _, rfl, x, sg, rfl, (so x (List.mem_of_getElem? hx)).same g2, _, g1, ?_, ?_, Same.new' g2 hD⟩
      · rw [List.length_map, List.length_map, List.length_take, sizeLine_eq]
        omega
      · rw [upd_same, List.take_add_one, hx, List.map_append, List.map_append] <;> rfl
    · rintro H3 ⟨g1, g2⟩
      rw [List.take_length] at g1
      refine ⟨t, D, xs, xs.map (prK sg), rfl, g2 _ _ ht, key_map (fun v z h => (prK_eq h).1) xs, ?_, fun H4 s4 => ?_⟩
      · rw [g1]
        unfold flV
        rw [List.map_map, List.map_map, List.map_map]
        refine congrArg (fun z => some (HO.lst z)) (List.map_congr_left fun v _ => ?_)
        show V.bl (pairB sg v) = V.bl (prK sg v).isSome
        rw [prK_some]
      have s04 := g2.trans s4
      cases e : fwO (xs.map (prK sg)) with
      | some i =>
        rw [e] at k
        exact ⟨_, rfl, rfl, _, rfl, iteT ⟨_, rfl, fun dx n => k dx H4 s04 n⟩⟩
      | none =>
        rw [e] at k
        exact ⟨_, rfl, rfl, _, rfl, iteF (k H4 s04)⟩
end
end Ke
/-! two loops gone along with at once: the mathematics of sums -/
namespace Wb
open PySem L2 WbMin WbS Lz
/-- the place of a pair -/
def plc (x : Nat × Nat) : List (Nat × Nat) → Nat
  | [] => 0
  | y :: l => if y = x then 0 else plc x l + 1
theorem plc_at {x : Nat × Nat} : ∀ {l : List (Nat × Nat)}, x ∈ l → l[plc x l]? = some x
  | [], h => nomatch h
  | y :: l, h => by
    show (y :: l)[if y = x then 0 else plc x l + 1]? = some x
    by_cases q : y = x
    · rw [if_pos q, q]
      rfl
    · rw [if_neg q]
      show l[plc x l]? = some x
      exact plc_at ((List.mem_cons.mp h).resolve_left fun z => q z.symm)
theorem plc_lt {x : Nat × Nat} {l : List (Nat × Nat)} (h : x ∈ l) : plc x l < l.length := (List.getElem?_eq_some_iff.mp (plc_at h)).1
/-- pairs of states that both come to -/
structure Goes (A B : LD) (ps : List (Nat × Nat)) : Prop where
  pos : ps[0]? = some (0, 0)
  few : ps.length ≤ 6
  lt : ∀ x ∈ ps, x.1 < A.n ∧ x.2 < B.n
  nx : ∀ x ∈ ps, ∀ c ∈ A.sg, (A.nx x.1 c, B.nx x.2 c) ∈ ps
  tn : ∀ x ∈ ps, (A.tn x.1, B.tn x.2) ∈ ps
/-- the name of the i-th state of a sum -/
def sNm (i : Nat) : Str := S [115, 48 + i]
def prOf (ps : List (Nat × Nat)) (i : Nat) : Nat × Nat := (ps[i]?).getD (0, 0)
theorem pr_at {ps : List (Nat × Nat)} {i : Nat} {x : Nat × Nat} (h : ps[i]? = some x) : prOf ps i = x := by
  unfold prOf
  rw [h] <;> rfl
/-- the sum (f = 1), the difference (f = -1) -/
def LD.sum (A B : LD) (f : Int) (ps : List (Nat × Nat)) : LD where
  sg := A.sg
  st := (List.range ps.length).map sNm
  nx := fun i c => plc (A.nx (prOf ps i).1 c, B.nx (prOf ps i).2 c) ps
  am := fun i c => A.am (prOf ps i).1 c + f * B.am (prOf ps i).2 c
  tn := fun i => plc (A.tn (prOf ps i).1, B.tn (prOf ps i).2) ps
  ta := fun i => A.ta (prOf ps i).1 + f * B.ta (prOf ps i).2
  ys := fun i => if f = 1 then A.ys (prOf ps i).1 && B.ys (prOf ps i).2 else A.ys (prOf ps i).1 == B.ys (prOf ps i).2
theorem sum_n (A B : LD) (f : Int) (ps : List (Nat × Nat)) : (A.sum B f ps).n = ps.length := by
  show ((List.range ps.length).map sNm).length = ps.length
  rw [List.length_map, List.length_range]
section
variable {A B : LD} {ps : List (Nat × Nat)} (G : Goes A B ps) (f : Int)
include G
end
end Wb
/-! a loop so many times: times_row, Loop.__mul__, Loop.__neg__ -/
namespace Wb
open PySem L2 WbMin WbS Lz
/-- so many times each amount -/
def LD.mul (L : LD) (k : Int) : LD := { L with am := fun i c => k * L.am i c, ta := fun i => k * L.ta i }
theorem LD.Ok.mul {L : LD} (O : L.Ok) (k : Int) : (L.mul k).Ok := ⟨O.sgs, O.sts, O.nxlt, O.tnlt⟩
def Row.mul (k : Int) (r : Row) : Row := ⟨r.a, r.c, r.b, k * r.m⟩
def Trn.mul (k : Int) (r : Trn) : Trn := ⟨r.a, r.b, k * r.m⟩
section
variable {P : Program} {w : World} {K : PySem.W.Frag} {mg : Str → Option Value} {base : Heap} {f : Addr} {fd : FuncData}
end
end Wb
/-! sums and multiples: they are loops; what multiples do -/
namespace Wb
open PySem L2 WbMin WbS Lz
theorem sNm_inj {i j : Nat} (h : sNm i = sNm j) : i = j := by
  have q := S_inj h
  injection q with _ q
  injection q with q _
  omega
theorem sNm_is {i : Nat} (h : i < 10) : IsNm [115, 48 + i] := by
  refine ⟨by show 0 < 2; decide, by show 2 ≤ 8; decide, by show 97 ≤ 115 ∧ 115 ≤ 122; decide, fun c hc => ?_⟩
  rcases List.mem_cons.mp hc with rfl | hc
  · exact .inl (by decide)
  · rw [List.mem_singleton.mp hc]
    exact .inr (by omega)
theorem LD.Ok.sum {A B : LD} {f : Int} {ps : List (Nat × Nat)} (O : A.Ok) (G : Goes A B ps) : (A.sum B f ps).Ok := by
  have pos : 0 < ps.length := (List.getElem?_eq_some_iff.mp G.pos).1
  have at_ : ∀ i, i < (A.sum B f ps).n → prOf ps i ∈ ps := fun i hi => by
    rw [sum_n] at hi
    rw [pr_at (List.getElem?_eq_getElem hi)]
    exact List.getElem_mem hi
  refine ⟨O.sgs, ⟨fun z hz => ?_, ?_, by rw [show (A.sum B f ps).st.length = ps.length from sum_n A B f ps]; exact pos, by rw [show (A.sum B f ps).st.length = ps.length from sum_n A B f ps]; exact G.few⟩, fun i c hi hc => ?_, fun i hi => ?_⟩
  · obtain ⟨i, hi, rfl⟩ := List.mem_map.mp hz
    have hi := List.mem_range.mp hi
    have few := G.few
    refine ⟨_, rfl, ?_⟩
    exact sNm_is (by omega)
  · exact List.Pairwise.map sNm (fun a b n e => n (sNm_inj e)) List.nodup_range
  · rw [sum_n]
    exact plc_lt (G.nx _ (at_ i hi) c hc)
  · rw [sum_n]
    exact plc_lt (G.tn _ (at_ i hi))
section
variable (L : LD) (k : Int)
end
end Wb
/-! _is_yes -/
namespace Wb
open PySem L2 WbMin WbS Lz
section
variable {P : Program} {w : World} {K : PySem.W.Frag} {mg : Str → Option Value} {base : Heap} {f : Addr} {fd : FuncData}
end
end Wb
/-! pairs_found: begun (the derivation stands, the body is open) -/
namespace Wb
open PySem L2 WbMin WbS Lz
/-- pairs that both come to -/
inductive Rch (A B : LD) : Nat × Nat → Prop
  | z : Rch A B (0, 0)
  | nx {x : Nat × Nat} {c : Nat} : Rch A B x → c ∈ A.sg → Rch A B (A.nx x.1 c, B.nx x.2 c)
  | tn {x : Nat × Nat} : Rch A B x → Rch A B (A.tn x.1, B.tn x.2)
theorem Rch.lt {A B : LD} (OA : A.Ok) (OB : B.Ok) (eg : B.sg = A.sg) {x : Nat × Nat} (h : Rch A B x) : x.1 < A.n ∧ x.2 < B.n := by
  induction h with
  | z => exact ⟨OA.sts.pos, OB.sts.pos⟩
  | nx _ hc ih => exact ⟨OA.nxlt _ _ ih.1 hc, OB.nxlt _ _ ih.2 (eg ▸ hc)⟩
  | tn _ ih => exact ⟨OA.tnlt _ ih.1, OB.tnlt _ ih.2⟩
/-- all pairs there may be -/
def allPr (n m : Nat) : List (Nat × Nat) := (List.range n).flatMap fun i => (List.range m).map fun j => (i, j)
theorem allPr_len (n m : Nat) : (allPr n m).length = n * m := by
  unfold allPr
  rw [List.length_flatMap, show ((List.range n).map fun a => ((List.range m).map fun j => (a, j)).length) = List.replicate n m from by
    rw [List.map_eq_replicate_iff.mpr (fun _ _ => (List.length_map ..).trans List.length_range), List.length_range], List.sum_replicate_nat]
theorem allPr_mem {n m : Nat} {x : Nat × Nat} (h : x.1 < n ∧ x.2 < m) : x ∈ allPr n m :=
  List.mem_flatMap.mpr ⟨x.1, List.mem_range.mpr h.1, List.mem_map.mpr ⟨x.2, List.mem_range.mpr h.2, rfl⟩⟩
theorem pairs_few {n m : Nat} {ps : List (Nat × Nat)} (nd : ps.Nodup) (h : ∀ x ∈ ps, x.1 < n ∧ x.2 < m) : ps.length ≤ n * m := by
  have := few_of_sub (allPr n m) ps nd fun x hx => allPr_mem (h x hx)
  rwa [allPr_len] at this
/-- what is known of the pairs found: all are come to; those before the k-th are done -/
structure Fnd (A B : LD) (ps : List (Nat × Nat)) (k : Nat) : Prop where
  pos : ps[0]? = some (0, 0)
  nd : ps.Nodup
  rch : ∀ x ∈ ps, Rch A B x
  nx : ∀ (i : Nat) x, i < k → ps[i]? = some x → ∀ c ∈ A.sg, (A.nx x.1 c, B.nx x.2 c) ∈ ps
  tn : ∀ (i : Nat) x, i < k → ps[i]? = some x → (A.tn x.1, B.tn x.2) ∈ ps
theorem Fnd.snoc {A B : LD} {ps : List (Nat × Nat)} {k : Nat} (h : Fnd A B ps k) (hk : k ≤ ps.length) {y : Nat × Nat} (n : y ∉ ps) (r : Rch A B y) : Fnd A B (ps ++ [y]) k where
  pos := by
    have := (List.getElem?_eq_some_iff.mp h.pos).1
    rw [List.getElem?_append_left this]
    exact h.pos
  nd := List.nodup_append.mpr ⟨h.nd, by simp, fun a ha b hb e => n (by rw [List.mem_singleton.mp hb] at e; exact e ▸ ha)⟩
  rch := fun x hx => (List.mem_append.mp hx).elim (h.rch x) fun q => by rw [List.mem_singleton.mp q]; exact r
  nx := fun i x hi e c hc => List.mem_append_left _ (h.nx i x hi (by rw [List.getElem?_append_left (by omega)] at e; exact e) c hc)
  tn := fun i x hi e => List.mem_append_left _ (h.tn i x hi (by rw [List.getElem?_append_left (by omega)] at e; exact e))
/-- what follows a pair -/
def onw (A B : LD) (x : Nat × Nat) : List (Nat × Nat) := (A.sg.map fun c => (A.nx x.1 c, B.nx x.2 c)) ++ [(A.tn x.1, B.tn x.2)]
theorem Fnd.next {A B : LD} {ps : List (Nat × Nat)} {k : Nat} {x : Nat × Nat} (h : Fnd A B ps k) (hx : ps[k]? = some x) (o : ∀ y ∈ onw A B x, y ∈ ps) : Fnd A B ps (k + 1) where
  pos := h.pos
  nd := h.nd
  rch := h.rch
  nx := fun i y hi e c hc => by
    rcases Nat.lt_succ_iff_lt_or_eq.mp hi with q | q
    · exact h.nx i y q e c hc
    · rw [q, hx] at e
      cases e
      exact o _ (List.mem_append_left _ (List.mem_map.mpr ⟨c, hc, rfl⟩))
  tn := fun i y hi e => by
    rcases Nat.lt_succ_iff_lt_or_eq.mp hi with q | q
    · exact h.tn i y q e
    · rw [q, hx] at e
      cases e
      exact o _ (List.mem_append_right _ (List.mem_singleton.mpr rfl))
section
variable {P : Program} {w : World} {K : PySem.W.Frag} {mg : Str → Option Value} {base : Heap} {f C : Addr} {fd : FuncData}
end
end Wb
/-! parts that pass all checks are the parts of a loop -/
namespace Lg
open PySem L2 WbMin WbS Lz Wb
theorem fwO_not {α : Type} [DecidableEq α] {l : List (Option α)} (h : fwO l = none) : ∃ ks : List α, l = ks.map some ∧ ks.Nodup := by
  have pre : ∀ j, j < l.length → badAt l j = false := fun j hj => by
    unfold fwO at h
    rw [List.find?_eq_none] at h
    have q := h j (List.mem_range.mpr hj)
    cases e : badAt l j with
    | false => rfl
    | true => exact absurd e q
  obtain ⟨ks, _, h2, h3⟩ := fw_pre (Nat.le_refl l.length) pre
  rw [List.take_length] at h2
  exact ⟨ks, h2, h3⟩
theorem texts_of {f : V → Option Str} (hf : ∀ v z, f v = some z → v = .str z) : ∀ {xs : List V} {ks : List Str}, xs.map f = ks.map some → xs = ks.map V.str
  | [], [], _ => rfl
  | x :: xs, k :: ks, h => by
    injection h with h1 h2
    rw [hf x k h1, texts_of hf h2] <;> rfl
  | [], _ :: _, h => by cases h
  | _ :: _, [], h => by cases h
/-! ### the loop of these parts -/
theorem S_one {c d : Nat} (h : S [c] = S [d]) : c = d := by
  have := S_inj h
  injection this
section
variable {sg sg0 : List Nat} {st : List Str} {rw : List Row} {tn : List Trn} {ye : List Str}
end
end Lg
/-! a loop made without turns: the default is an empty tuple that the top has written -/
namespace Wb
open PySem L2 WbMin WbS Lz
/-- an empty tuple that the top has written -/
structure E0 (K : PySem.W.Frag) (u : Addr) : Prop where
  sq : ∀ H : Hp, SqT K H u []
  ty : ∀ H : Hp, TyX K H (.ref u) (.type "tuple")
structure Prt0 (K : PySem.W.Frag) (st : List Str) (rw : List Row) (ye : List Str) (t rr u y : Addr) (as : List Addr) (H : Hp) : Prop where
  ht : H t = some (.tup (st.map V.str))
  hr : H rr = some (.tup (as.map V.ref))
  hT : Tups H as (rw.map Row.v)
  hu : E0 K u
  hy : H y = some (.tup (ye.map V.str))
section
variable {K : PySem.W.Frag} {st : List Str} {rw : List Row} {ye : List Str} {t rr u y : Addr} {as : List Addr} {H H' : Hp}
theorem Prt0.same (s : Same H H') (h : Prt0 K st rw ye t rr u y as H) : Prt0 K st rw ye t rr u y as H' := ⟨s _ _ h.ht, s _ _ h.hr, h.hT.same s, h.hu, s _ _ h.hy⟩
theorem Prt0.but {p : Addr} {o : HO} (no : ∀ x, o ≠ .tup x) (hp : H p = some o) (s : But p H H') (h : Prt0 K st rw ye t rr u y as H) : Prt0 K st rw ye t rr u y as H' :=
  ⟨s _ _ (ne_of h.ht hp fun e => no _ e.symm) h.ht, s _ _ (ne_of h.hr hp fun e => no _ e.symm) h.hr, h.hT.but no hp s, h.hu, s _ _ (ne_of h.hy hp fun e => no _ e.symm) h.hy⟩
end
/-- the loop whose turns change nothing -/
def LD.bare (L : LD) : LD := { L with tn := fun i => i, ta := fun _ => 0 }
theorem LD.Ok.bare {L : LD} (O : L.Ok) : L.bare.Ok := ⟨O.sgs, O.sts, O.nxlt, fun _ h => h⟩
theorem LD.Small.bare {L : LD} (s : L.Small) : L.bare.Small := ⟨s.am, fun _ _ => by show (0 : Int).natAbs < 2 ^ 110; decide⟩
section
variable {P : Program} {w : World} {K : PySem.W.Frag} {mg : Str → Option Value} {base : Heap} {f fR fS fI fF : Addr} {fd dR dS dI dF : FuncData}
end
section
variable {P : Program} {w : World} {K : PySem.W.Frag} {mg : Str → Option Value} {base : Heap} {A : LA} {e : Addr}
end
end Wb
/-! faces and data of a loop's row, for laws that reach no total (out of LxK, LxD, LxE) -/
namespace Wb
open PySem L2 WbMin WbS Lz WbO
theorem shaped_of {d : PyData} (h : d.canLay0 = true) (n : PyData.depth d ≤ 64) : SeqAt.shaped d = true := by
  unfold SeqAt.shaped
  rw [h, decide_eq_true n] <;> rfl
theorem Thing.up : ∀ {n : Nat} {H : Hp} {v : V} {d : PyData}, Thing H n v d → Thing H (n + 1) v d
  | 0, _, _, _, h => h.elim
  | _ + 1, _, _, _, .inl h => .inl h
  | _ + 1, _, _, _, .inr (.inl ⟨a, xs, ds, e, h, l, r, q⟩) => .inr (.inl ⟨a, xs, ds, e, h, l, r.imp fun _ _ z => Thing.up z, q⟩)
  | _ + 1, _, _, _, .inr (.inr (.inl ⟨a, xs, ds, e, h, l, r, q⟩)) => .inr (.inr (.inl ⟨a, xs, ds, e, h, l, r.imp fun _ _ z => Thing.up z, q⟩))
  | _ + 1, _, _, _, .inr (.inr (.inr ⟨a, ks, xs, ds, e, h, nd, l1, l, r, q⟩)) => .inr (.inr (.inr ⟨a, ks, xs, ds, e, h, nd, l1, l, r.imp fun _ _ z => Thing.up z, q⟩))
theorem lay_map {α : Type} {g : α → PyData} : ∀ {l : List α}, (∀ x ∈ l, (g x).canLay0 = true) → PyData.canLayAll0 (l.map g) = true
  | [], _ => rfl
  | x :: r, h => by
    show ((g x).canLay0 && PyData.canLayAll0 (r.map g)) = true
    rw [h x List.mem_cons_self, lay_map fun y q => h y (List.mem_cons_of_mem _ q)] <;> rfl
theorem depth_map {α : Type} {g : α → PyData} {n : Nat} : ∀ {l : List α}, (∀ x ∈ l, PyData.depth (g x) ≤ n) → PyData.depthAll (l.map g) ≤ n
  | [], _ => Nat.zero_le _
  | x :: r, h => by
    show max (PyData.depth (g x)) (PyData.depthAll (r.map g)) ≤ n
    have h1 := h x List.mem_cons_self
    have h2 := depth_map (n := n) fun y q => h y (List.mem_cons_of_mem _ q)
    omega
/-- the face of a tuple -/
def tupD (ds : List PyData) : PyData := .list (.str "tuple" :: ds)
/-! ### rows -/
def strF (z : Str) : PyData := plainD (.str z)
def rowF (r : Row) : PyData := tupD [strF r.a, strF (S [r.c]), strF r.b, plainD (.int r.m)]
def trnF (r : Trn) : PyData := tupD [strF r.a, strF r.b, plainD (.int r.m)]
def loopF (L : LD) : PyData := tupD [strF (S L.sg), tupD (L.st.map strF), tupD (L.rows.map rowF), tupD (L.turns.map trnF), tupD (L.yes.map strF)]
/-! ### a row as data -/
def strP (z : Str) : PyData := .str z
def rowP (r : Row) : PyData := .tuple [.str r.a, .str (S [r.c]), .str r.b, .int r.m]
def trnP (r : Trn) : PyData := .tuple [.str r.a, .str r.b, .int r.m]
def loopP (L : LD) : PyData := .tuple [.str (S L.sg), .tuple (L.st.map strP), .tuple (L.rows.map rowP), .tuple (L.turns.map trnP), .tuple (L.yes.map strP)]
/-! ### equal as data: the same -/
/-- two loops of one row -/
structure SameRow (A B : LD) : Prop where
  sg : A.sg = B.sg
  st : A.st = B.st
  rows : A.rows = B.rows
  turns : A.turns = B.turns
  yes : A.yes = B.yes
theorem SameRow.data {A B : LD} (h : SameRow A B) : loopP A = loopP B := by
  unfold loopP
  rw [h.sg, h.st, h.rows, h.turns, h.yes]
theorem SameRow.face {A B : LD} (h : SameRow A B) : loopF A = loopF B := by
  unfold loopF
  rw [h.sg, h.st, h.rows, h.turns, h.yes]
end Wb
/-! o == v, o != v with a v of any type (out of k08's WbE) -/
namespace WbO
open PySem PySem.Spec PyProof.Rows L2
section
variable {X : Cx} {CX : CXT} {k : Nat} {C g : Addr} {fd : FuncData} {ps : List Str} {sp : Sp} {E : XK}
end
end WbO
/-! a loop == a loop, == anything else; states; bool -/
namespace Wb
open PySem L2 WbMin WbS Lz WbO
structure EqA where
  (fEq fSs pSs : Addr)
  (dEq dSs : FuncData)
section
variable {P : Program} {w : World} {K : PySem.W.Frag} {mg : Str → Option Value} {base : Heap} {A : LA} {B : EqA} {e : Addr}
end
end Wb
/-! Loop.made of a loop's row -/
namespace WbO
open PySem PySem.Spec PyProof.Rows L2
section
variable {X : Cx} {CX : CXT} {k i n : Nat} {C f : Addr} {fd : FuncData} {ps ks : List Str} {sp : Sp} {E : XK} {x : Str} {pp pos : Pos} {e : Expr} {es : List Expr} {kws : List Keyword} {t tk : TA} {g : List Value → List Value → List Value} {gV : List V → List V → List V}
end
end WbO
namespace Wb
open PySem L2 WbMin WbS Lz WbO
structure MadA where
  (fMa : Addr)
  (dMa : FuncData)
theorem RowAt.same {H H' : Hp} {q : Addr} {L : LD} (s : Same H H') : RowAt H q L → RowAt H' q L := fun ⟨t, rr, u, y, as, bs, h0, ht, hrr, hT, hu, hU, hy⟩ => ⟨t, rr, u, y, as, bs, s _ _ h0, s _ _ ht, s _ _ hrr, hT.same s, s _ _ hu, hU.same s, s _ _ hy⟩
section
variable {P : Program} {w : World} {K : PySem.W.Frag} {mg : Str → Option Value} {base : Heap} {A : LA} {B : MadA} {e : Addr}
end
end Wb
/-! a loop made of three values: turns and yes left out; all five by name -/
namespace Wb
open PySem L2 WbMin WbS Lz
structure Prt00 (K : PySem.W.Frag) (st : List Str) (rw : List Row) (t rr u y : Addr) (as : List Addr) (H : Hp) : Prop where
  ht : H t = some (.tup (st.map V.str))
  hr : H rr = some (.tup (as.map V.ref))
  hT : Tups H as (rw.map Row.v)
  hu : E0 K u
  hy : E0 K y
section
variable {K : PySem.W.Frag} {st : List Str} {rw : List Row} {t rr u y : Addr} {as : List Addr} {H H' : Hp}
theorem Prt00.same (s : Same H H') (h : Prt00 K st rw t rr u y as H) : Prt00 K st rw t rr u y as H' := ⟨s _ _ h.ht, s _ _ h.hr, h.hT.same s, h.hu, h.hy⟩
theorem Prt00.but {p : Addr} {o : HO} (no : ∀ x, o ≠ .tup x) (hp : H p = some o) (s : But p H H') (h : Prt00 K st rw t rr u y as H) : Prt00 K st rw t rr u y as H' :=
  ⟨s _ _ (ne_of h.ht hp fun e => no _ e.symm) h.ht, s _ _ (ne_of h.hr hp fun e => no _ e.symm) h.hr, h.hT.but no hp s, h.hu, h.hy⟩
end
section
variable {P : Program} {w : World} {K : PySem.W.Frag} {mg : Str → Option Value} {base : Heap} {f fR fS fI fF : Addr} {fd dR dS dI dF : FuncData}
end
section
variable {P : Program} {w : World} {K : PySem.W.Frag} {mg : Str → Option Value} {base : Heap} {A : LA} {e : Addr}
end
end Wb
/-! Loop.__init__ of values of any sort, good or refused -/
namespace Lg
open PySem L2 PySem.Spec PyProof.Rows WbMin WbS Lz Wb Le
section
variable {H H' : Hp} {x : V} {st : List Str} {sg : List Nat}
theorem stW_same (h : Wh H x) (s : Same H H') : stW H' x = stW H x := by
  cases h with
  | one h => rw [stW_one h, stW_one (h.same s)]
  | tup h l r => rw [stW_tup h, stW_tup (s _ _ h)]
theorem yeW_same (h : Wh H x) (s : Same H H') : yeW H' st x = yeW H st x := by
  cases h with
  | one h => rw [yeW_one h, yeW_one (h.same s)]
  | tup h l r => rw [yeW_tup h, yeW_tup (s _ _ h)]
theorem tuW_same (h : Wh H x) (s : Same H H') : tuW H' st x = tuW H st x := by
  cases h with
  | one h => rw [tuW_one h, tuW_one (h.same s)]
  | tup h l r => rw [tuW_tup h, tuW_tup (s _ _ h), List.map_congr_left fun y hy => tnK_same (r y hy) s]
theorem roW_same (h : Wh H x) (s : Same H H') : roW H' sg st x = roW H sg st x := by
  cases h with
  | one h => rw [roW_one h, roW_one (h.same s)]
  | tup h l r =>
    rw [roW_tup h, roW_tup (s _ _ h)]
    unfold rwR
    rw [List.map_congr_left fun y hy => rwK_same (r y hy) s]
end
/-- what is wrong of turns, the default among them -/
def TuIs (f : Bool) (K : PySem.W.Frag) (H : Hp) (st : List Str) (x : V) (o : Option V) : Prop := (f = false ∧ Wh H x ∧ tuW H st x = o) ∨ (f = true ∧ ∃ y, x = .ref y ∧ E0 K y ∧ o = none)
def YeIs (f : Bool) (K : PySem.W.Frag) (H : Hp) (st : List Str) (x : V) (o : Option V) : Prop := (f = false ∧ Wh H x ∧ yeW H st x = o) ∨ (f = true ∧ ∃ y, x = .ref y ∧ E0 K y ∧ o = none)
theorem TuIs.same {f : Bool} {K : PySem.W.Frag} {H H' : Hp} {st : List Str} {x : V} {o : Option V} (h : TuIs f K H st x o) (s : Same H H') : TuIs f K H' st x o := h.imp (fun ⟨e, a, b⟩ => ⟨e, a.same s, (tuW_same a s).trans b⟩) id
theorem YeIs.same {f : Bool} {K : PySem.W.Frag} {H H' : Hp} {st : List Str} {x : V} {o : Option V} (h : YeIs f K H st x o) (s : Same H H') : YeIs f K H' st x o := h.imp (fun ⟨e, a, b⟩ => ⟨e, a.same s, (yeW_same a s).trans b⟩) id
/-- what is wrong of the parts of a loop, the first that is: which check, and what the error keeps -/
inductive LoDue (f : Bool) (K : PySem.W.Frag) (H : Hp) (sV tV rV uV yV : V) : Option (Nat × V) → Prop
  | sg (h : signsB sV = false) : LoDue f K H sV tV rV uV yV (some (0, sV))
  | st {v : V} (h : signsB sV = true) (e : stW H tV = some v) : LoDue f K H sV tV rV uV yV (some (1, v))
  | ro {v : V} {sg : List Nat} {t : Addr} {st : List Str} (h : sV = .str (S sg)) (G : Sgs sg) (ht : tV = .ref t) (hT : H t = some (.tup (st.map V.str))) (T : Sts st) (es : stW H tV = none) (e : roW H sg st rV = some v) : LoDue f K H sV tV rV uV yV (some (2, v))
  | tu {v : V} {sg : List Nat} {t : Addr} {st : List Str} (h : sV = .str (S sg)) (G : Sgs sg) (ht : tV = .ref t) (hT : H t = some (.tup (st.map V.str))) (T : Sts st) (es : stW H tV = none) (er : roW H sg st rV = none) (e : TuIs f K H st uV (some v)) : LoDue f K H sV tV rV uV yV (some (3, v))
  | ye {v : V} {sg : List Nat} {t : Addr} {st : List Str} (h : sV = .str (S sg)) (G : Sgs sg) (ht : tV = .ref t) (hT : H t = some (.tup (st.map V.str))) (T : Sts st) (es : stW H tV = none) (er : roW H sg st rV = none) (eu : TuIs f K H st uV none) (e : YeIs f K H st yV (some v)) : LoDue f K H sV tV rV uV yV (some (4, v))
  | ok {sg : List Nat} {t : Addr} {st : List Str} (h : sV = .str (S sg)) (G : Sgs sg) (ht : tV = .ref t) (hT : H t = some (.tup (st.map V.str))) (T : Sts st) (es : stW H tV = none) (er : roW H sg st rV = none) (eu : TuIs f K H st uV none) (e : YeIs f K H st yV none) : LoDue f K H sV tV rV uV yV none
/-- the errors of the checks -/
structure EL where
  cG : Addr
  fG : Addr
  dG : FuncData
  cS : Addr
  fS : Addr
  dS : FuncData
  cR : Addr
  fR : Addr
  dR : FuncData
  cT : Addr
  fT : Addr
  dT : FuncData
abbrev sErrInvalidSigns : Stmt := inClass (top 14) 0
/-- the class of an error and what it keeps as what -/
def EL.cls (B : EL) : Nat → Addr × Str
  | 0 => (B.cG, "given")
  | 1 => (B.cS, "index")
  | 2 => (B.cR, "index")
  | 3 => (B.cT, "index")
  | _ => (B.cS, "index")
section
variable {P : Program} {w : World} {K : PySem.W.Frag} {mg : Str → Option Value} {base : Heap} {A : LA} {B : EL} {e : Addr}
theorem scErrG : FnScope ["self", "given"] ["self", "given"] (defScope sErrInvalidSigns) := ⟨rfl, rfl, rfl, by decide +kernel, rfl, by decide +kernel, by decide +kernel⟩
theorem ok_errG {C f : Addr} {fd : FuncData} (E : ErrF K mg "InvalidSigns" "given" "InvalidSigns.__init__" sErrInvalidSigns C f fd) : FnOk P w K mg base CX0 1 f fd ["self", "given"] (spErr C "given") := by
  refine E.F.ok scErrG (fun vs H Q E h => by obtain ⟨a, y, rfl, _⟩ := h; rfl) (fun cdv A outer s H vs Q E' hr h => ?_)
  obtain ⟨a, y, rfl, ha, k⟩ := h
  exact ⟨_, pss_one (ps_ost (pv 0) (pv 1)), _, rfl, _, rfl, a, C, rfl, E.o, E.no, .inl ⟨ha, k⟩⟩
end
end Lg
/-! Loop.__init__ of values of any sort: good and refused together -/
namespace Lg
open PySem L2 PySem.Spec PyProof.Rows WbMin WbS Lz Wb Le
/-- turns and yes states as they are told, or both left out -/
def Tail (f : Bool) (K : PySem.W.Frag) (H : Hp) (uV yV : V) : Prop := (f = false ∧ Wh H uV ∧ Wh H yV) ∨ (f = true ∧ ∃ u y, uV = .ref u ∧ yV = .ref y ∧ E0 K u ∧ E0 K y)
theorem Tail.same {f : Bool} {K : PySem.W.Frag} {H H' : Hp} {uV yV : V} (h : Tail f K H uV yV) (s : Same H H') : Tail f K H' uV yV := h.imp (fun ⟨e, a, b⟩ => ⟨e, a.same s, b.same s⟩) id
theorem LoDue.same {f : Bool} {K : PySem.W.Frag} {H H' : Hp} {sV tV rV uV yV : V} {o : Option (Nat × V)} (ht : Wh H tV) (hr : Wh H rV) (h : LoDue f K H sV tV rV uV yV o) (s : Same H H') : LoDue f K H' sV tV rV uV yV o := by
  cases h with
  | sg h => exact .sg h
  | st h e => exact .st h ((stW_same ht s).trans e)
  | ro h G a b T es e => exact .ro h G a (s _ _ b) T ((stW_same ht s).trans es) ((roW_same hr s).trans e)
  | tu h G a b T es er e => exact .tu h G a (s _ _ b) T ((stW_same ht s).trans es) ((roW_same hr s).trans er) (e.same s)
  | ye h G a b T es er eu e => exact .ye h G a (s _ _ b) T ((stW_same ht s).trans es) ((roW_same hr s).trans er) (eu.same s) (e.same s)
  | ok h G a b T es er eu e => exact .ok h G a (s _ _ b) T ((stW_same ht s).trans es) ((roW_same hr s).trans er) (eu.same s) (e.same s)
section
variable {K : PySem.W.Frag} {H : Hp} {rV uV yV : V} {sg : List Nat} {st : List Str}
end
section
variable {P : Program} {w : World} {K : PySem.W.Frag} {mg : Str → Option Value} {base : Heap} {A : LA} {B : EL} {e : Addr}
end
end Lg
/-! o.m(k = v, ..) of an own method -/
namespace Lz
open PySem PySem.Spec PyProof.Rows L2
section
variable {X : Cx} {CX : CXT} {k : Nat} {C g : Addr} {fd : FuncData} {ps ks : List Str} {sp : Sp} {E : XK} {o : Expr} {m : Str} {apos pos : Pos} {kws : List Keyword} {ta : TE} {tk : TA} {kg : List Value → List Value → List Value} {gV : List V → List V → List V}
end
end Lz
namespace Wb
open PySem L2 WbMin WbS Lz
/-! ### rounds that come again -/
/-! ### faces of answers -/
theorem tup_shaped (c : Int) (b : Bool) : SeqAt.shaped (.tuple [.int c, .bool b]) = true := rfl
end Wb
/-! what stays while lambdas are made: all but the pool and the tables of code objects -/
namespace Wb
open PySem L2 WbMin WbS Lz Le LamX
/-- the heap without its tables -/
def noT (H : Hp) : Hp := fun b => match H b with
  | some (.tbl _) => none
  | o => o
theorem noT_at {H : Hp} {b : Addr} {o : HO} (h : H b = some o) (n : ∀ ps, o ≠ .tbl ps) : noT H b = some o := by
  unfold noT
  rw [h]
  cases o with
  | tbl ps => exact (n ps rfl).elim
  | _ => rfl
theorem noT_inv {H : Hp} {b : Addr} {o : HO} (h : noT H b = some o) : H b = some o ∧ ∀ ps, o ≠ .tbl ps := by
  unfold noT at h
  cases e : H b with
  | none =>
    rw [e] at h
    cases h
  | some u =>
    rw [e] at h
    cases u with
    | tbl ps => cases h
    | _ =>
      cases h
      exact ⟨rfl, fun ps z => by cases z⟩
def Bt (p : Addr) (H H' : Hp) : Prop := But p (noT H) H'
theorem Bt.of {p : Addr} {H H' : Hp} (b : But p H H') : Bt p H H' := fun c o n h => b c o n (noT_inv h).1
theorem Bt.same {p : Addr} {H H' : Hp} (s : Same H H') : Bt p H H' := fun c o _ h => s c o (noT_inv h).1
theorem Bt.ext {p : Addr} {H H' : Hp} (e : ExtN H H') : Bt p H H' := fun c o _ h => e c o (noT_inv h).1 (noT_inv h).2
theorem Bt.trans {p : Addr} {H H1 H2 : Hp} (a : Bt p H H1) (b : Bt p H1 H2) : Bt p H H2 := fun c o n h => b c o n (noT_at (a c o n h) (noT_inv h).2)
theorem PoolAt.noT {H : Hp} {p : Addr} (h : PoolAt H p) : PoolAt (noT H) p := by
  obtain ⟨a, b, c, e, r⟩ := h
  exact ⟨a, b, c, noT_at e (fun _ z => by cases z), r⟩
theorem PoolAt.ext {H H' : Hp} {p : Addr} (h : PoolAt H p) (s : ExtN H H') : PoolAt H' p := by
  obtain ⟨a, b, c, e, r⟩ := h
  exact ⟨a, b, c, s _ _ e (fun _ z => by cases z), r⟩
theorem Tups.noT {H : Hp} : ∀ {as : List Addr} {xs : List (List V)}, Tups H as xs → Tups (noT H) as xs
  | [], [], _ => trivial
  | _ :: _, _ :: _, h => ⟨noT_at h.1 (fun _ z => by cases z), Tups.noT h.2⟩
  | [], _ :: _, h => h.elim
  | _ :: _, [], h => h.elim
theorem Prt.noT {L : LD} {t rr u y : Addr} {as bs : List Addr} {H : Hp} (h : Prt L t rr u y as bs H) : Prt L t rr u y as bs (noT H) :=
  ⟨noT_at h.ht (fun _ z => by cases z), noT_at h.hr (fun _ z => by cases z), h.hT.noT, noT_at h.hu (fun _ z => by cases z), h.hU.noT, noT_at h.hy (fun _ z => by cases z)⟩
theorem LoopAt.noT {C T : Addr} {H : Hp} {r : Addr} {L : LD} : LoopAt C T H r L → LoopAt C T (noT H) r L := by
  rintro ⟨dx, t, rr, u, y, tb, as, bs, h0, pr, dx', dN, dX, dA, tX, tA, tY, xs, as', g0, hX, hx, hA, ha, hTX, hTA, hTY⟩
  have nt : ∀ {a : Addr} {o : HO}, H a = some o → (∀ ps, o ≠ .tbl ps) → Wb.noT H a = some o := noT_at
  exact ⟨dx, t, rr, u, y, tb, as, bs, nt h0 (fun _ z => by cases z), pr.noT, dx', dN, dX, dA, tX, tA, tY, xs, as', nt g0 (fun _ z => by cases z), nt hX (fun _ z => by cases z), hx.noT, nt hA (fun _ z => by cases z), ha.noT, nt hTX (fun _ z => by cases z), nt hTA (fun _ z => by cases z), nt hTY (fun _ z => by cases z)⟩
theorem MdAt.noT {H : Hp} {q : Addr} {L : LD} : MdAt H q L → MdAt (noT H) q L := fun ⟨A, Sd, Ed, O, kvs, ws, h0, hA, hS, hE, e2, e1, hO⟩ =>
  have tk : Tk H (Wb.noT H) := fun _ _ h => noT_at h (fun _ z => by cases z)
  ⟨A, Sd, Ed, O, kvs, ws, noT_at h0 (fun _ z => by cases z), noT_at hA (fun _ z => by cases z), noT_at hS (fun _ z => by cases z), noT_at hE (fun _ z => by cases z), fun i c hi hc => (e2 i c hi hc).tk tk, fun i hi => (e1 i hi).tk tk, by
    first
    | exact noT_at hO (fun _ z => by cases z)
    | exact (let ⟨os, h, g⟩ := hO ; ⟨os, noT_at h (fun _ z => by cases z), g⟩)⟩
theorem noT_cut {H : Hp} {a : Addr} : Same (noT (cut H a)) (cut (noT H) a) := fun b o h => by
  obtain ⟨h1, h2⟩ := noT_inv h
  unfold cut at h1 ⊢
  by_cases e : b = a
  · rw [if_pos e] at h1
    cases h1
  · rw [if_neg e] at h1 ⊢
    exact noT_at h1 h2
theorem Thing.noT : ∀ {n : Nat} {H : Hp} {v : V} {d : PyData}, Thing H n v d → Thing (noT H) n v d
  | 0, _, _, _, h => h.elim
  | _ + 1, _, _, _, .inl h => .inl h
  | _ + 1, _, _, _, .inr (.inl ⟨a, xs, ds, e, h, l, r, q⟩) => .inr (.inl ⟨a, xs, ds, e, noT_at h (fun _ z => by cases z), l, r.imp fun _ _ z => Thing.noT z, q⟩)
  | _ + 1, _, _, _, .inr (.inr (.inl ⟨a, xs, ds, e, h, l, r, q⟩)) => .inr (.inr (.inl ⟨a, xs, ds, e, noT_at h (fun _ z => by cases z), l, r.imp fun _ _ z => Thing.noT z, q⟩))
  | _ + 1, _, _, _, .inr (.inr (.inr ⟨a, ks, xs, ds, e, h, nd, l1, l, r, q⟩)) => .inr (.inr (.inr ⟨a, ks, xs, ds, e, noT_at h (fun _ z => by cases z), nd, l1, l, r.imp fun _ _ z => (Thing.noT z).same noT_cut, q⟩))
theorem Any.noT {p : Addr} {H : Hp} {x : V} {d : PyData} (h : Any p H x d) : Any p (noT H) x d := ⟨(Thing.noT h.1).same noT_cut, h.2⟩
theorem Any.bt {p : Addr} {H H' : Hp} {x : V} {d : PyData} (h : Any p H x d) (b : Bt p H H') : Any p H' x d := h.noT.but b
theorem LoopAt.bt {C T : Addr} {H H' : Hp} {p r : Addr} {L : LD} (h : LoopAt C T H r L) (hp : PoolAt H p) (b : Bt p H H') : LoopAt C T H' r L := h.noT.but hp.noT b
theorem MdAt.bt {H H' : Hp} {p q : Addr} {L : LD} (h : MdAt H q L) (hp : PoolAt H p) (b : Bt p H H') : MdAt H' q L := h.noT.but hp.noT b
/-- the tables stay while the pool changes -/
theorem Tabs.but {T : List (Addr × Str)} {H H' : Hp} {p : Addr} (t : Tabs T H) (hp : PoolAt H p) (b : But p H H') : Tabs T H' := fun y hy => by
  obtain ⟨ps, h1, h2, h3⟩ := t y hy
  refine ⟨ps, b _ _ (pool_other hp h1 fun _ _ _ q => by cases q) h1, h2, fun pos cv hc => ?_⟩
  obtain ⟨c, e1, e2⟩ := h3 pos cv hc
  exact ⟨c, e1, b _ _ (pool_other hp e2 fun _ _ _ q => by cases q) e2⟩
mutual
theorem Dp.noT {K : PySem.W.Frag} {H : Hp} : ∀ {v : V} {d : PyData}, Dp K H v d → Dp K (noT H) v d
  | _, _, .non => .non
  | _, _, .bl b => .bl b
  | _, _, .int i => .int i
  | _, _, .str x => .str x
  | _, _, .lst h r => .lst (by
      rcases h with (q | ⟨o, q⟩) | q
      · exact .inl (.inl (noT_at q (fun _ z => by cases z)))
      · exact .inl (.inr ⟨o, noT_at q (fun _ z => by cases z)⟩)
      · exact .inr q) (DpAll.noT r)
  | _, _, .tup h r => .tup (by
      rcases h with (q | ⟨o, q⟩) | q
      · exact .inl (.inl (noT_at q (fun _ z => by cases z)))
      · exact .inl (.inr ⟨o, noT_at q (fun _ z => by cases z)⟩)
      · exact .inr q) (DpAll.noT r)
theorem DpAll.noT {K : PySem.W.Frag} {H : Hp} : ∀ {vs : List V} {ds : List PyData}, DpAll K H vs ds → DpAll K (noT H) vs ds
  | _, _, .nil => .nil
  | _, _, .cons h r => .cons (Dp.noT h) (DpAll.noT r)
end
/-- all but tables stay -/
def Xt (H H' : Hp) : Prop := Same (noT H) H'
theorem Xt.of {H H' : Hp} (s : Same H H') : Xt H H' := fun b o h => s b o (noT_inv h).1
theorem Xt.ext {H H' : Hp} (e : ExtN H H') : Xt H H' := fun b o h => e b o (noT_inv h).1 (noT_inv h).2
theorem Xt.trans {H H1 H2 : Hp} (a : Xt H H1) (b : Xt H1 H2) : Xt H H2 := fun c o h => b c o (noT_at (a c o h) (noT_inv h).2)
theorem Xt.bt {p : Addr} {H H' : Hp} (x : Xt H H') : Bt p H H' := fun c o _ h => x c o h
theorem Any.xt {p : Addr} {H H' : Hp} {x : V} {d : PyData} (h : Any p H x d) (s : Xt H H') : Any p H' x d := h.noT.same s
theorem LoopAt.xt {C T : Addr} {H H' : Hp} {r : Addr} {L : LD} (h : LoopAt C T H r L) (s : Xt H H') : LoopAt C T H' r L := h.noT.same s
theorem PoolAt.xt {H H' : Hp} {p : Addr} (h : PoolAt H p) (s : Xt H H') : PoolAt H' p := h.noT.same s
theorem Dp.xt {K : PySem.W.Frag} {H H' : Hp} {v : V} {d : PyData} (h : Dp K H v d) (s : Xt H H') : Dp K H' v d := Dp.stay s (Dp.noT h)
end Wb
/-! _law_heard of the parts of a loop -/
namespace Lg
open PySem PySem.Spec PyProof.Rows L2 WbMin WbS Lz Wb Le
end Lg
/-! _law_is_name of a value of any sort -/
namespace Lg
open PySem L2 WbMin WbS Lz Wb
theorem strOk_at {l : List Nat} (h : PyData.strOk (S l) = true) {i c : Nat} (hc : l[i]? = some c) : PyData.strOk (one c) = true := by
  unfold PyData.strOk at h ⊢
  rw [Array.all_eq_true] at h ⊢
  intro j hj
  have e : j = 0 := by
    have : j < 1 := hj
    omega
  subst e
  obtain ⟨hi, e⟩ := List.getElem?_eq_some_iff.mp hc
  have q := h i (by show i < (S l).cps.size; rw [S_size]; exact hi)
  have e2 : (S l).cps[i]'(by rw [S_size]; exact hi) = c := by
    have z : (S l).cps.toList[i]? = some c := by rw [S_cps]; exact hc
    rw [Array.getElem?_toList] at z
    exact (Array.getElem?_eq_some_iff.mp z).2
  rw [e2] at q
  exact q
section
variable {P : Program} {w : World} {K : PySem.W.Frag} {mg : Str → Option Value} {base : Heap} {f : Addr} {fd : FuncData}
end
end Lg
/-! words and signs asked of a value of which only the sort is told -/
namespace Ke
open PySem L2 PySem.Spec PyProof.Rows WbMin WbS Lz Wb Le
open Lg
/-- a text that can stand somewhere -/
structure Tz (l : List Nat) : Prop where
  fits : (S l).length ≤ sizeLine
  ok : PyData.strOk (S l) = true
theorem Tz.cod {l : List Nat} (h : Tz l) (c : Nat) (m : c ∈ l) : PyData.strOk (one c) = true := by
  obtain ⟨i, hi⟩ := List.mem_iff_getElem?.mp m
  exact strOk_at h.ok hi
/-- a text, a whole number, or neither -/
def Sor (H : Hp) (x : V) : Prop := (∃ l, x = .str (S l) ∧ Tz l) ∨ (∃ i, x = .int i) ∨ Neither H x
theorem Sor.same {H H' : Hp} {x : V} (h : Sor H x) (s : Same H H') : Sor H' x := h.imp id (Or.imp id fun n => n.same s)
theorem sor_so {H : Hp} {y : V} (h : So H y) (c : ∀ z, y = .str z → PyData.strOk z = true) : Sor H y := by
  cases h with
  | one h =>
    cases h with
    | @str z f => exact .inl ⟨z.cps.toList, congrArg V.str (S_eq rfl), by rw [← S_eq rfl]; exact f, by rw [← S_eq rfl]; exact c z rfl⟩
    | int i => exact .inr (.inl ⟨i, rfl⟩)
    | non => exact .inr (.inr .non)
    | bl b => exact .inr (.inr (.bl b))
    | lst h => exact .inr (.inr (.lst h))
    | dK h => exact .inr (.inr (.dK h))
  | tup h => exact .inr (.inr (.tup h))
theorem sor_wh {H : Hp} {y : V} (h : Lg.Wh H y) (c : ∀ z, y = .str z → PyData.strOk z = true) : Sor H y := sor_so h.so c
def spIsWordS : Sp := fun vs H Q _ => ∃ x : V, vs = [x] ∧ Sor H x ∧ ∀ H', Same H H' → Q (.bl (wordB x)) H'
def spLIsWordS : Sp := fun vs H Q _ => ∃ (x : V) (sg : List Nat), vs = [x, .str (S sg)] ∧ Sor H x ∧ Low sg ∧ ∀ H', Same H H' → Q (.bl (goodW sg x)) H'
def spIsSignsS : Sp := fun vs H Q _ => ∃ x : V, vs = [x] ∧ Sor H x ∧ ∀ H', Same H H' → Q (.bl (signsB x)) H'
def spBadSignsS : Sp := fun vs H Q _ => ∃ x : V, vs = [x] ∧ Sor H x ∧ ∀ H', Same H H' → Q (.bl (!signsB x)) H'
theorem signsB_wordS {H : Hp} {x : V} (h : Sor H x) (n : wordB x = false) : signsB x = false := by
  rcases h with ⟨l, rfl, _⟩ | ⟨i, rfl⟩ | m
  · rw [wordB_S] at n
    rw [signsB_S]
    unfold sgnB
    rw [n] <;> rfl
  · rfl
  · cases m <;> rfl
section
variable {P : Program} {w : World} {K : PySem.W.Frag} {mg : Str → Option Value} {base : Heap} {f fI fW : Addr} {fd dI dW : FuncData}
set_option maxHeartbeats 4000000 in
theorem ok_iswordS (F : Fun K "is_word" "is_word" sIsWord f fd) (Z : Free mg) (t6 : Tok) (g6 : mg "MOST_WORD" = some (.int 600 t6)) : FnOk P w K mg base CX0 1 f fd ["value"] spIsWordS := by
  refine F.ok scIW (fun vs H Q E h => by obtain ⟨x, rfl, _⟩ := h; rfl) (fun cdv A outer s H vs Q E hr h => ?_)
  obtain ⟨x, rfl, ha, k⟩ := h
  refine ⟨_, pss_cons (ps_if (PW.pt (pw_or (pt_not (pt_val (pe_callB call_isi (by rfl) Z.isi (by decide +kernel) (pa_cons (pv 0) (pa_cons (pe_bltn (v := .ty "str") (u := .type "str") (by rfl) Z.str (by decide +kernel) rfl) pa_nil)))))
      (pw_or1 (pt_not (pt_chain op_le op_le pe_int (pe_callB call_len_str (by rfl) Z.len PySem.boot_len (pa_cons (pv 0) pa_nil)) (pe_glob (v := .int 600) (by rfl) g6 ⟨_, rfl⟩)))))) (pss_one (ps_ret pe_bl)) pss_nil)
    (pss_one (ps_ret (pe_callB (cr_all rfl) (by rfl) Z.all (by decide +kernel) (pa_cons
      (pe_lc (own := [("sign", 1)]) (g := gName 1) (tt := tYes) rfl scIW.nd (pi_str (pv 0)) (blkOk_by (N := ["value", "sign"]) (sc := defScope sIsWord) (by decide +kernel)) (fun _ _ _ _ _ => pg_name (i := 1) scIW.nd rfl (.inl rfl)) (fun _ _ _ _ _ => pts_nil)
        (fun _ _ _ _ _ => pe_chain op_le_str op_le_str pe_str (pv 1) pe_str)) pa_nil)))), ?_⟩
  rcases ha with ⟨l, rfl, tl⟩ | ⟨i, rfl⟩ | n
  · rw [wordB_S] at k
    refine ⟨_, rfl, _, _, .type "str", .type "str", true, rfl, .ty "str", .base (.str _), kit_ty (by decide +kernel), true, rfl, ?_⟩
    have no : ¬ (1 ≤ l.length ∧ l.length ≤ 600) → Q (.bl false) H := fun z => by
      have e : isWB l = false := by
        cases e : isWB l with
        | false => rfl
        | true =>
          have q := isWB_iff.mp e
          exact absurd ⟨q.pos, q.few⟩ z
      have q := k H (Same.refl H)
      rw [e] at q
      exact q
    refine ⟨_, rfl, _, rfl, tl.fits, _, _, rfl, rfl, _, rfl, ite2 (fun z1 => ?_) (fun z1 => ?_)⟩
    · have h1 : 1 ≤ l.length := by
        have q := of_decide_eq_true z1
        rw [S_len] at q
        omega
      refine ⟨_, _, rfl, rfl, _, rfl, ?_⟩
      by_cases h2 : l.length ≤ 600
      · refine iteNS (by rw [S_len]; omega) ?_
        refine ⟨_, rfl, _, rfl, fun D hD => lc_it walk_str (fun i H3 => H3 D = some (.lst (((l.take i).map okc).map V.bl)) ∧ Same H H3) ⟨upd_same, Same.put (Same.refl H) hD⟩ (fun _ _ _ _ => trivial) ?_ ?_⟩
        · rintro i x H3 H3' hi ⟨h1, h2⟩ ⟨rfl, c, hc, rfl⟩
          have hc' : l[i]? = some c := by simpa [S] using hc
          have la : (([c] : List Nat) < [97]) ↔ c < 97 := by rw [List.cons_lt_cons_iff]; simp
          have lz : (([122] : List Nat) < [c]) ↔ 122 < c := by rw [List.cons_lt_cons_iff]; simp
          have ea : ("a" : Str).cps.toList = [97] := by decide +kernel
          have ez : ("z" : Str).cps.toList = [122] := by decide +kernel
          have fin : ∀ b : Bool, b = okc c → (∃ acc : List V, H3' D = some (.lst acc) ∧ acc.length < sizeLine ∧ (L2.upd H3' D (.lst (acc ++ [V.bl b]))) D = some (.lst (((l.take (i + 1)).map okc).map V.bl)) ∧ Same H (L2.upd H3' D (.lst (acc ++ [V.bl b])))) := fun b eb => by
            refine ⟨_, h1, ?_, ?_, Same.new' h2 hD⟩
            · rw [List.length_map, List.length_map, sizeLine_eq]
              have := List.length_take_le' i l
              omega
            · rw [upd_same, take_more hc', List.map_append, List.map_append, eb] <;> rfl
          refine ⟨rfl, _, rfl, _, _, rfl, rfl, _, rfl, ?_⟩
          rw [ea]
          by_cases q1 : c < 97
          · have e : okc c = false := by unfold okc; rw [decide_eq_false (show ¬ 97 ≤ c by omega)]; rfl
            have q1' : (!decide ((⟨#[c]⟩ : Str).cps.toList < [97])) = false := by
              rw [decide_eq_true (show (⟨#[c]⟩ : Str).cps.toList < [97] from la.mpr q1)] <;> rfl
            rw [q1', if_neg Bool.false_ne_true]
            exact fin false e.symm
          · have q1' : (!decide ((⟨#[c]⟩ : Str).cps.toList < [97])) = true := by
              rw [decide_eq_false (show ¬ (⟨#[c]⟩ : Str).cps.toList < [97] from fun z => q1 (la.mp z))] <;> rfl
            rw [q1', if_pos rfl]
            refine ⟨_, _, rfl, rfl, ?_⟩
            rw [ez]
            refine fin _ ?_
            unfold okc
            rw [decide_eq_true (show 97 ≤ c by omega)]
            by_cases q2 : c ≤ 122
            · rw [decide_eq_true q2, decide_eq_false (show ¬ [122] < (⟨#[c]⟩ : Str).cps.toList from fun z => by have := lz.mp z; omega)] <;> rfl
            · rw [decide_eq_false q2, decide_eq_true (show [122] < (⟨#[c]⟩ : Str).cps.toList from lz.mpr (by omega))] <;> rfl
        · rintro H3 ⟨h1', h2'⟩
          refine ⟨D, _, rfl, SqL.of h1', ?_⟩
          have q := k H3 h2'
          have e : isWB l = ((l.take (S l).cps.size).map okc).all id := by
            rw [S_size, List.take_length, List.all_map]
            unfold isWB
            rw [decide_eq_true (show 1 ≤ l.length by omega), decide_eq_true h2] <;> rfl
          rw [e] at q
          exact q
      · refine iteS ?_ ?_
        · rw [S_len]; omega
        · exact no (fun z => h2 z.2)
    · refine ⟨_, rfl, no (fun z => z1 (decide_eq_true ?_))⟩
      rw [S_len]
      omega
  · exact ⟨_, rfl, _, _, .type "int", .type "str", false, rfl, .ty "str", .base (.int _), kit_ty (by decide +kernel), false, rfl, k H (Same.refl H)⟩
  · obtain ⟨t, ty, kt⟩ := n.str (K := K)
    rw [n.word] at k
    exact ⟨_, rfl, _, _, t, .type "str", false, rfl, .ty "str", ty, kt, false, rfl, k H (Same.refl H)⟩
set_option maxHeartbeats 4000000 in
theorem ok_liswordS (F : Fun K "_law_is_word" "_law_is_word" sLIsWord f fd) (Z : Free mg) : FnOk P w K mg base CX0 1 f fd ["_law_thing", "_law_abc"] spLIsWordS := by
  refine F.ok scLIw (fun vs H Q E h => by obtain ⟨x, sg, rfl, _⟩ := h; rfl) (fun cdv A outer s H vs Q E hr h => ?_)
  obtain ⟨x, sg, rfl, ha, hs, k⟩ := h
  refine ⟨_, pss_cons (ps_if (PW.pt (pw_or (pt_not (pt_val (pe_callB call_isi (by rfl) Z.isi (by decide +kernel) (pa_cons (pv 0) (pa_cons (pe_bltn (v := .ty "str") (u := .type "str") (by rfl) Z.str (by decide +kernel) rfl) pa_nil)))))
      (pw_or (pt_cmpR op_eq (pv 0) pe_str (nomark _)) (pw_or1 (pt_cmpR op_gt (pe_callB call_len_str (by rfl) Z.len PySem.boot_len (pa_cons (pv 0) pa_nil)) pe_int (nomark _)))))) (pss_one (ps_ret pe_bl)) pss_nil)
    (pss_one (ps_ret (pe_cmpR (op_eqD hr.units) (pe_lc (own := [("_law_mark", 2)]) (g := gName 2) rfl scLIw.nd (pi_str (pv 0)) (blkOk_by (N := ["_law_thing", "_law_abc", "_law_mark"]) (sc := defScope sLIsWord) (by decide +kernel))
        (fun _ _ _ _ _ => pg_name (i := 2) scLIw.nd rfl (.inl rfl)) (fun _ _ _ _ _ => pts_one (pt_cmpR op_notIn_sign (pv 2) (pv 1) rfl)) (fun _ _ _ _ _ => pv 2)) (pe_lst pa_nil) (nomark _)))), ?_⟩
  rcases ha with ⟨l, rfl, tl⟩ | ⟨i, rfl⟩ | n
  · rw [good_is hs] at k
    have no : ¬ (1 ≤ l.length ∧ l.length ≤ 600) → Q (.bl false) H := fun z => by
      have q := k H (Same.refl H)
      have e : (decide (1 ≤ l.length) && decide (l.length ≤ 600)) = false := by
        rw [Bool.eq_false_iff]
        intro y
        rw [Bool.and_eq_true, decide_eq_true_iff, decide_eq_true_iff] at y
        exact z y
      rw [e, Bool.false_and] at q
      exact q
    refine ⟨_, rfl, _, _, .type "str", .type "str", true, rfl, .ty "str", .base (.str _), kit_ty (by decide +kernel), true, rfl, ?_⟩
    refine ⟨_, rfl, rfl, _, rfl, ite2 (fun q => ?_) (fun q => ?_)⟩
    · refine no fun z => ?_
      have q1 : S l = Str.ofString "" := by injection of_decide_eq_true q
      have q2 : (S l).length = 0 := by rw [q1]; decide +kernel
      rw [S_len] at q2
      omega
    · have l0 : 1 ≤ l.length := by
        cases l with
        | nil => exact absurd (decide_eq_true (congrArg V.str (show S [] = Str.ofString "" by decide +kernel))) q
        | cons c l => exact Nat.succ_le_succ (Nat.zero_le _)
      refine ⟨_, rfl, _, rfl, tl.fits, _, _, rfl, rfl, _, rfl, ite2 (fun q => ?_) (fun q => ?_)⟩
      · refine no fun z => ?_
        have q1 := of_decide_eq_true q
        rw [S_len] at q1
        omega
      · have l1 : l.length ≤ 600 := by
          have z : ¬ ((600 : Int) < ((S l).length : Int)) := fun z => q (decide_eq_true z)
          rw [S_len] at z
          omega
        refine ⟨_, rfl, _, rfl, fun D hD => lc_it walk_str (fun i H3 => H3 D = some (.lst (((l.take i).filter fun c => !decide (c ∈ sg)).map vOne)) ∧ Same H H3) ⟨upd_same, Same.put (Same.refl H) hD⟩ (fun _ _ _ _ => trivial) ?_ ?_⟩
        · rintro i x H3 H3' hi ⟨h1, h2⟩ ⟨rfl, c, hc, rfl⟩
          have hc' : l[i]? = some c := by simpa [S] using hc
          refine ⟨rfl, _, rfl, _, rfl, c, S sg, rfl, rfl, _, rfl, ?_⟩
          rw [S_cps]
          by_cases hk : c ∈ sg
          · rw [decide_eq_true hk]
            refine iteF ⟨?_, h2⟩
            rw [h1, take_more hc', List.filter_append, show ([c].filter fun c => !decide (c ∈ sg)) = [] from List.filter_cons_of_neg (by simp [hk]), List.append_nil]
          · rw [decide_eq_false hk]
            refine iteT ⟨_, rfl, _, h1, ?_, ?_, Same.new' h2 hD⟩
            · rw [List.length_map, sizeLine_eq]
              have := List.length_filter_le (fun c => !decide (c ∈ sg)) (l.take i)
              have := List.length_take_le' i l
              omega
            · rw [upd_same, take_more hc', List.filter_append, List.map_append, show ([c].filter fun c => !decide (c ∈ sg)) = [c] from List.filter_cons_of_pos (by simp [hk])] <;> rfl
        · rintro H3 ⟨h1, h2⟩
          rw [S_size, List.take_length] at h1
          refine ⟨(by show 0 ≤ sizeLine; decide), fun M hM => ?_⟩
          have nD : D ≠ M := ne_of_none h1 hM
          have h1' : H3 D = some (.lst (((l.filter fun c => !decide (c ∈ sg)).map one).map V.str)) := by rw [h1, List.map_map] <;> rfl
          refine ⟨_, _, .lst (SqL.of (by rw [upd_ne nD, h1'])) (dp_strs _), .lst (SqL.of upd_same) .nil, shaped_strs fun z hz => ?_, rfl, ?_⟩
          · obtain ⟨c, hc, rfl⟩ := List.mem_map.mp hz
            exact (tl.cod c (List.mem_filter.mp hc).1)
          · have q := k _ (Same.put (o := .lst []) h2 hM)
            have e : (decide (1 ≤ l.length) && decide (l.length ≤ 600) && (l.filter fun c => !decide (c ∈ sg)).isEmpty) = PyData.eqv (.list (((l.filter fun c => !decide (c ∈ sg)).map one).map PyData.str)) (.list []) := by
              rw [eqv_nil, decide_eq_true l0, decide_eq_true l1]
              cases (l.filter fun c => !decide (c ∈ sg)) <;> rfl
            rw [e] at q
            exact q
  · exact ⟨_, rfl, _, _, .type "int", .type "str", false, rfl, .ty "str", .base (.int _), kit_ty (by decide +kernel), false, rfl, k H (Same.refl H)⟩
  · obtain ⟨t, ty, kt⟩ := n.str (K := K)
    rw [n.good] at k
    exact ⟨_, rfl, _, _, t, .type "str", false, rfl, .ty "str", ty, kt, false, rfl, k H (Same.refl H)⟩
set_option maxHeartbeats 4000000 in
theorem ok_issignsS (F : Fun K "is_signs" "is_signs" sIsSigns f fd) (Z : Free mg) (DW : Def K mg "is_word" sIsWord ["value"] fW dW) (t6 : Tok) (g6 : mg "MOST_WORD" = some (.int 600 t6)) (t4 : Tok) (g4 : mg "MOST_SIGNS" = some (.int 4 t4)) : FnOk P w K mg base CX0 2 f fd ["value"] spIsSignsS := by
  have GW : FnOk P w K mg base CX0 1 fW dW ["value"] spIsWordS := ok_iswordS DW.F Z t6 g6
  refine F.ok scSg (fun vs H Q E h => by obtain ⟨x, rfl, _⟩ := h; rfl) (fun cdv A outer s H vs Q E hr h => ?_)
  obtain ⟨x, rfl, ha, k⟩ := h
  refine ⟨_, pss_one (ps_ret (pe_and (pe_call GW hr rfl DW.g DW.kp DW.b .nil pass0 (pa_cons (pv 0) pa_nil)) (pe_and (pe_cmpR op_le (pe_callB call_len_str (by rfl) Z.len PySem.boot_len (pa_cons (pv 0) pa_nil)) (pe_glob (v := .int 4) (by rfl) g4 ⟨_, rfl⟩) (nomark _))
    (pe_one (pe_cmpR op_eq (WbSet.pe_lenSetT rfl (by rfl) Z.len (by rfl) Z.set (pv 0)) (pe_callB call_len_str (by rfl) Z.len PySem.boot_len (pa_cons (pv 0) pa_nil)) (nomark _)))))), ?_⟩
  refine ⟨_, rfl, x, rfl, ha, fun H1 s1 => ?_⟩
  have k := k H1 s1
  cases ew : wordB x with
  | false =>
    rw [signsB_wordS ha ew] at k
    exact ⟨false, rfl, k⟩
  | true =>
    rcases ha with ⟨l, rfl, tl⟩ | ⟨i, rfl⟩ | m
    · rw [wordB_S] at ew
      rw [signsB_S] at k
      unfold sgnB at k
      rw [ew, Bool.true_and] at k
      refine ⟨true, rfl, _, rfl, _, rfl, tl.fits, _, _, rfl, rfl, _, rfl, ?_⟩
      by_cases h4 : l.length ≤ 4
      · rw [decide_eq_true h4, Bool.true_and] at k
        refine ifd (by rw [S_len]; omega) ?_
        refine ⟨_, rfl, S l, rfl, by rw [S_len]; omega, _, rfl, _, rfl, tl.fits, rfl, ?_⟩
        have e : decide (V.int ((WbSet.differ (WbSet.signs (S l))).length : Nat) = V.int ((S l).length : Nat)) = decide l.Nodup := by
          refine decide_eq_decide.mpr ?_
          rw [S_len, ← differ_len]
          constructor
          · intro q
            injection q with q
            exact_mod_cast q
          · intro q
            rw [q]
        rw [e]
        exact k
      · rw [decide_eq_false h4, Bool.false_and] at k
        exact ifn (by rw [S_len]; omega) k
    · cases ew
    · rw [m.word] at ew
      cases ew
set_option maxHeartbeats 4000000 in
theorem ok_badsignsS (F : Fun K "_law_bad_signs" "_law_bad_signs" sBadSigns f fd) (Z : Free mg) (DW : Def K mg "_law_is_word" sLIsWord ["_law_thing", "_law_abc"] fW dW) : FnOk P w K mg base CX0 2 f fd ["_law_abc"] spBadSignsS := by
  have GW : FnOk P w K mg base CX0 1 fW dW ["_law_thing", "_law_abc"] spLIsWordS := ok_liswordS DW.F Z
  refine F.ok scBs (fun vs H Q E h => by obtain ⟨x, rfl, _⟩ := h; rfl) (fun cdv A outer s H vs Q E hr h => ?_)
  obtain ⟨x, rfl, ha, k⟩ := h
  refine ⟨_, pss_cons (ps_if (PW.pt (pw_or (pt_not (pt_val (pe_call GW hr rfl DW.g DW.kp DW.b .nil pass0 (pa_cons (pv 0) (pa_cons pe_str pa_nil))))) (pw_or1 (pt_cmpR op_gt (pe_callB call_len_str (by rfl) Z.len PySem.boot_len (pa_cons (pv 0) pa_nil)) pe_int (nomark _))))) (pss_one (ps_ret pe_bl)) pss_nil)
    (pss_one (ps_ret (pe_cmpR op_lt (WbSet.pe_lenSetT rfl (by rfl) Z.len (by rfl) Z.set (pv 0)) (pe_callB call_len_str (by rfl) Z.len PySem.boot_len (pa_cons (pv 0) pa_nil)) (nomark _)))), ?_⟩
  refine ⟨_, rfl, x, alpha, by rw [alpha_is] <;> rfl, ha, fun c hc => alpha_mem.mp hc, fun H1 s1 => ?_⟩
  have k := k H1 s1
  rcases ha with ⟨l, rfl, tl⟩ | ⟨i, rfl⟩ | m
  · rw [goodW_alpha]
    rw [signsB_S] at k
    unfold sgnB at k
    cases ew : isWB l with
    | false =>
      rw [ew] at k
      exact ⟨false, rfl, k⟩
    | true =>
      rw [ew, Bool.true_and] at k
      refine ⟨true, rfl, _, rfl, _, rfl, tl.fits, _, _, rfl, rfl, _, rfl, ?_⟩
      by_cases h4 : l.length ≤ 4
      · rw [decide_eq_true h4, Bool.true_and] at k
        refine ifn (by rw [S_len]; omega) ?_
        refine ⟨_, rfl, S l, rfl, by rw [S_len]; omega, _, rfl, _, rfl, tl.fits, _, _, rfl, rfl, ?_⟩
        have le := WbSet.differ_le (WbSet.signs (S l))
        have ln : (WbSet.signs (S l)).length = l.length := by
          unfold WbSet.signs
          rw [List.length_map, S_cps]
        have e : decide (((WbSet.differ (WbSet.signs (S l))).length : Int) < ((S l).length : Int)) = !decide l.Nodup := by
          rw [S_len]
          by_cases nd : l.Nodup
          · rw [decide_eq_true nd, decide_eq_false (by have := differ_len.mpr nd; omega)] <;> rfl
          · rw [decide_eq_false nd, decide_eq_true (by
              have : (WbSet.differ (WbSet.signs (S l))).length ≠ l.length := fun z => nd (differ_len.mp z)
              omega)] <;> rfl
        show Q (.bl (decide (((WbSet.differ (WbSet.signs (S l))).length : Int) < ((S l).length : Int)))) H1
        rw [e]
        exact k
      · rw [decide_eq_false h4, Bool.false_and] at k
        exact ifd (by rw [S_len]; omega) k
  · exact ⟨false, rfl, k⟩
  · rw [m.good]
    refine ⟨false, rfl, ?_⟩
    rw [signsB_wordS (.inr (.inr m)) m.word] at k
    exact k
end
end Ke
/-! Kind.__init__ of values of any sort: good and refused together -/
namespace Ke
open PySem L2 PySem.Spec PyProof.Rows WbMin WbS Lz Wb Le
open Lg
abbrev sErrInvalidSigns : Stmt := inClass (top 14) 0
/-- which check is the first to fail, and what its error keeps -/
inductive KDue (H : Hp) (sV pV : V) : Option (Nat × V) → Prop
  | sg (h : signsB sV = false) : KDue H sV pV (some (0, sV))
  | pr {v : V} {sg : List Nat} (h : sV = .str (S sg)) (G : Sgs sg) (nn : pV ≠ .non) (e : prW H sg pV = some v) : KDue H sV pV (some (1, v))
  | ok {sg : List Nat} (h : sV = .str (S sg)) (G : Sgs sg) (e : pV ≠ .non → prW H sg pV = none) : KDue H sV pV none
theorem KDue.same {H H' : Hp} {sV pV : V} {o : Option (Nat × V)} (hp : Lg.Wh H pV) (h : KDue H sV pV o) (s : Same H H') : KDue H' sV pV o := by
  cases h with
  | sg h => exact .sg h
  | pr h G nn e => exact .pr h G nn ((prW_same hp s).trans e)
  | ok h G e => exact .ok h G fun nn => (prW_same hp s).trans (e nn)
theorem kdue_ex {H : Hp} {sV pV : V} (ha : Sor H sV) : ∃ o, KDue H sV pV o := by
  cases es : signsB sV with
  | false => exact ⟨_, .sg es⟩
  | true =>
    obtain ⟨sg, rfl, G⟩ : ∃ sg, sV = .str (S sg) ∧ Sgs sg := by
      rcases ha with ⟨l, rfl, _⟩ | ⟨i, rfl⟩ | m
      · rw [signsB_S] at es
        exact ⟨l, rfl, sgnB_iff.mp es⟩
      · cases es
      · cases m <;> cases es
    by_cases nn : pV = .non
    · exact ⟨_, .ok rfl G fun z => absurd nn z⟩
    · cases e : prW H sg pV with
      | some v => exact ⟨_, .pr rfl G nn e⟩
      | none => exact ⟨_, .ok rfl G fun _ => e⟩
/-- the errors of a kind's checks -/
structure KE' where
  cG : Addr
  fG : Addr
  dG : FuncData
  cP : Addr
  fP : Addr
  dP : FuncData
structure ErK (K : PySem.W.Frag) (mg : Str → Option Value) (B : KE') : Prop where
  EG : ErrF K mg "InvalidSigns" "given" "InvalidSigns.__init__" sErrInvalidSigns B.cG B.fG B.dG
  EP : ErrF K mg "InvalidPairs" "index" "InvalidPairs.__init__" sErrInvalidPairs B.cP B.fP B.dP
def KE'.cls (B : KE') : Nat → Addr × Str
  | 0 => (B.cG, "given")
  | _ => (B.cP, "index")
def spKBad (B : KE') : Sp := fun vs H _ E => ∃ (r : Addr) (sV pV : V) (i : Nat) (v : V), vs = [.ref r, sV, pV] ∧ Sor H sV ∧ Lg.Wh H pV ∧ KDue H sV pV (some (i, v)) ∧ FailsN E (B.cls i).1 (B.cls i).2 v H
theorem pairs_few' {sg : List Nat} (G : Sgs sg) {ps : List Str} (nd : ps.Nodup) (h : ∀ z ∈ ps, PairOf sg z) : ps.length ≤ 16 := by
  have four := G.few
  -- each pair by the places of its signs
  have inj : ∀ z ∈ ps, ∀ y ∈ ps, (sg.idxOf (z.cps.toList.getD 0 0), sg.idxOf (z.cps.toList.getD 1 0)) = (sg.idxOf (y.cps.toList.getD 0 0), sg.idxOf (y.cps.toList.getD 1 0)) → z = y := by
    intro z hz y hy e
    obtain ⟨a, b, ha, hb, rfl⟩ := h z hz
    obtain ⟨c, d, hc, hd, rfl⟩ := h y hy
    rw [S_cps, S_cps] at e
    obtain ⟨e1, e2⟩ := Prod.mk.inj e
    have e1 : sg.idxOf a = sg.idxOf c := e1
    have e2 : sg.idxOf b = sg.idxOf d := e2
    have q1 : a = c := by
      have h1 := List.getElem_idxOf (List.idxOf_lt_length_iff.mpr ha)
      have h2 := List.getElem_idxOf (List.idxOf_lt_length_iff.mpr hc)
      rw [← h1, ← h2]
      congr 1
    have q2 : b = d := by
      have h1 := List.getElem_idxOf (List.idxOf_lt_length_iff.mpr hb)
      have h2 := List.getElem_idxOf (List.idxOf_lt_length_iff.mpr hd)
      rw [← h1, ← h2]
      congr 1
    rw [q1, q2]
  have nd2 : (ps.map fun z => (sg.idxOf (z.cps.toList.getD 0 0), sg.idxOf (z.cps.toList.getD 1 0))).Nodup := by
    rw [List.Nodup, List.pairwise_map]
    exact List.Pairwise.imp_of_mem (fun {x y} hx hy n e => n (inj x hx y hy e)) nd
  have q := pairs_few (n := sg.length) (m := sg.length) nd2 fun x hx => by
    obtain ⟨z, hz, rfl⟩ := List.mem_map.mp hx
    obtain ⟨a, b, ha, hb, rfl⟩ := h z hz
    rw [S_cps]
    exact ⟨List.idxOf_lt_length_iff.mpr ha, List.idxOf_lt_length_iff.mpr hb⟩
  rw [List.length_map] at q
  have : sg.length * sg.length ≤ 4 * 4 := Nat.mul_le_mul four four
  omega
theorem good_pairs {H : Hp} {sg : List Nat} {pV : V} (G : Sgs sg) (wh : Lg.Wh H pV) (h : prW H sg pV = none) : ∃ (t : Addr) (ps : List Str), pV = .ref t ∧ H t = some (.tup (ps.map V.str)) ∧ Prs sg ps := by
  cases wh with
  | one ho =>
    rw [prW_one ho] at h
    cases h
  | @tup t xs hR l r =>
    rw [prW_tup hR] at h
    unfold prR at h
    cases e : fwO (xs.map (prK sg)) with
    | some i =>
      rw [e] at h
      cases h
    | none =>
      obtain ⟨ks, k1, k2⟩ := fwO_not e
      have ex := texts_of (fun v z q => (prK_eq q).1) k1
      have of : ∀ z ∈ ks, PairOf sg z := fun z hz => by
        have m : some z ∈ xs.map (prK sg) := by
          rw [k1]
          exact List.mem_map.mpr ⟨z, hz, rfl⟩
        obtain ⟨v, _, e⟩ := List.mem_map.mp m
        have q := (prK_eq e).2
        match hl : z.cps.toList, q with
        | [a, b], q =>
          have q : (decide (a ∈ sg) && decide (b ∈ sg)) = true := q
          rw [Bool.and_eq_true, decide_eq_true_iff, decide_eq_true_iff] at q
          exact ⟨a, b, q.1, q.2, S_eq hl⟩
      exact ⟨t, ks, rfl, by rw [hR, ex], of, k2, pairs_few' G k2 of⟩
def spKInitX (B : KE') (C : Addr) : Sp := fun vs H Q E => ∃ (H0 : Hp) (r dx : Addr) (sV pV : V) (o : Option (Nat × V)), vs = [.ref r, sV, pV] ∧ Sor H0 sV ∧ Lg.Wh H0 pV ∧ KDue H0 sV pV o ∧ Same H0 H ∧ H0 r = none ∧ H r = some (.ins C dx []) ∧
  (o = none → ∀ (H' : Hp) (sg0 sg : List Nat) (ps0 ps : List Str), Same H0 H' → sV = .str (S sg0) → Sgs sg0 → ((pV = .non ∧ ps0 = allP sg0) ∨ ∃ t, pV = .ref t ∧ H0 t = some (.tup (ps0.map V.str)) ∧ Prs sg0 ps0) → sg.Perm sg0 → PyProof.Rows.sortedS (sg.map sOne) = true → ps.Perm ps0 → PyProof.Rows.sortedS ps = true → KindAt C H' r sg ps → Q .non H') ∧
  (∀ i v, o = some (i, v) → FailsN E (B.cls i).1 (B.cls i).2 v H0)
section
variable {P : Program} {w : World} {K : PySem.W.Frag} {mg : Str → Option Value} {base : Heap} {A : KA} {B : KE'} {cG fG : Addr} {dG : FuncData}
theorem scErrG : FnScope ["self", "given"] ["self", "given"] (defScope sErrInvalidSigns) := ⟨rfl, rfl, rfl, by decide +kernel, rfl, by decide +kernel, by decide +kernel⟩
theorem ok_errG (EG : ErrF K mg "InvalidSigns" "given" "InvalidSigns.__init__" sErrInvalidSigns cG fG dG) : FnOk P w K mg base CX0 1 fG dG ["self", "given"] (spErr cG "given") := by
  refine EG.F.ok scErrG (fun vs H Q E h => by obtain ⟨a, y, rfl, _⟩ := h; rfl) (fun cdv A outer s H vs Q E' hr h => ?_)
  obtain ⟨a, y, rfl, ha, k⟩ := h
  exact ⟨_, pss_one (ps_ost (pv 0) (pv 1)), _, rfl, _, rfl, a, cG, rfl, EG.o, EG.no, .inl ⟨ha, k⟩⟩
set_option maxHeartbeats 2000000 in
theorem ok_kbad (D : KindF K mg A) (Z : Free mg) (EB : ErK K mg B) : FnOk P w K mg base (L2N.CX P w) 4 A.fI A.dI ["self", "signs", "pairs"] (spKBad B) := by
  obtain ⟨t6, g6⟩ := D.w6
  obtain ⟨t4, g4⟩ := D.w4
  have GS : FnOk P w K mg base CX0 2 A.signs A.dsigns ["value"] spIsSignsS := ok_issignsS D.signs.F Z D.isword t6 g6 t4 g4
  have GC : FnOk P w K mg base (L2N.CX P w) 3 A.chpairs A.dchpairs ["pairs", "signs"] (spChPairsA B.cP) := ok_chpairsA D.chpairs.F Z D.tup D.enum D.ispair D.signof D.first EB.EP
  have GE : FnOk P w K mg base CX0 1 B.fG B.dG ["self", "given"] (spErr B.cG "given") := ok_errG EB.EG
  refine D.FI.ok scKI (fun vs H Q E h => by obtain ⟨r, sV, pV, i, v, rfl, _⟩ := h; rfl) (fun cdv A' outer s H vs Q E hr h => ?_)
  obtain ⟨r, sV, pV, i, v, rfl, hs, hp, due, k⟩ := h
  have hr2 : Room 2 _ := hr.mono (by decide)
  refine ⟨_, pss_cons (ps_if (pt_not (pt_val (pe_call GS hr2 rfl D.signs.g D.signs.kp D.signs.b .nil pass0 (pa_cons (pv 1) pa_nil)))) (pss_one (ps_bad EB.EG GE hr2 rfl (L2N.takes_of rfl rfl rfl rfl) rfl (pv 1))) pss_nil)
    (pss_cons (ps_if (pt_cmpR op_notN (pv 2) pe_non (nomark _)) (pss_one (ps_expr (pe_call GC hr rfl D.chpairs.g D.chpairs.kp D.chpairs.b .nil (passNg (L2N.takes_of rfl rfl rfl rfl)) (pa_cons (pv 2) (pa_cons (pv 1) pa_nil))))) pss_nil) pss_never), ?_⟩
  refine ⟨_, rfl, sV, rfl, hs, fun H1 s1 => ?_⟩
  cases due with
  | sg h =>
    rw [h]
    exact ⟨false, rfl, iteT ⟨_, rfl, fun dx n => k dx H1 s1 n⟩⟩
  | @pr v sg h G nn e =>
    subst h
    rw [signsB_S, sgnB_iff.mpr G]
    refine ⟨true, rfl, iteF ⟨_, rfl, rfl, _, rfl, ?_⟩⟩
    show if (!decide (pV = V.non)) = true then _ else _
    rw [decide_eq_false nn]
    refine iteT ⟨_, rfl, _, rfl, pV, sg, rfl, hp.same s1, ?_⟩
    rw [prW_same hp s1, e]
    exact k.mono s1
theorem ok_kinitX (D : KindF K mg A) (Z : Free mg) (EB : ErK K mg B) : FnOk P w K mg base (L2N.CX P w) 4 A.fI A.dI ["self", "signs", "pairs"] (spKInitX B A.C) :=
  (Wb.FnOk.either (Wb.FnOk.calm (ok_kinit D Z)) (ok_kbad D Z EB)).imp fun vs H Q E h => by
    obtain ⟨H0, r, dx, sV, pV, o, rfl, hs, hp, due, s0, r0, hr, good, bad⟩ := h
    cases o with
    | some iv =>
      obtain ⟨i, v⟩ := iv
      exact .inr ⟨r, sV, pV, i, v, rfl, hs.same s0, hp.same s0, due.same hp s0, (bad i v rfl).mono s0⟩
    | none =>
      refine .inl ?_
      cases due with
      | @ok sg0 h G e =>
        subst h
        by_cases nn : pV = .non
        · exact ⟨H0, r, dx, sg0, pV, allP sg0, rfl, G, .inl ⟨nn, rfl⟩, s0, r0, hr, fun H' sg ps s' p1 so1 p2 so2 KA => good rfl H' sg0 sg _ ps s' rfl G (.inl ⟨nn, rfl⟩) p1 so1 p2 so2 KA⟩
        · obtain ⟨t, ps0, rfl, ht, hpr⟩ := good_pairs G hp (e nn)
          exact ⟨H0, r, dx, sg0, .ref t, ps0, rfl, G, .inr ⟨t, rfl, s0 _ _ ht, hpr⟩, s0, r0, hr, fun H' sg ps s' p1 so1 p2 so2 KA => good rfl H' sg0 sg _ ps s' rfl G (.inr ⟨t, rfl, ht, hpr⟩) p1 so1 p2 so2 KA⟩
end
end Ke
set_option maxHeartbeats 1000000
/-! try: clauses with and without a name; raise X() of a class without an __init__ of its own -/
namespace Le
open PySem PySem.Spec PyProof.Rows L2
section
variable {X : Cx} {pins : List (Addr × Obj)} {τ : L2.St} {G : Hp} {D : Ends}
end
section
variable {X : Cx} {C : Addr} {bmB : List Value} {B newId initId : String}
end
end Le
set_option maxHeartbeats 2000000
/-! exceptions whose context is None or an exception without one: in the air, out of a def, into a caller -/
namespace Lk
open PySem PySem.Spec PyProof.Rows L2
/-- an exception without a context -/
def Bare0 (o : Obj) : Prop := ∃ ws : Array Value, o.data = .fields ws ∧ ws[2]? = some .none
/-- a context: none, or an exception of the ground that has none -/
def Link (g : Heap) (J : Hp) (c : Value) : Prop := c = .none ∨ ∃ (q : Addr) (oq : Obj), c = .ref q ∧ g.get? q = some oq ∧ J q = none ∧ Bare0 oq
def Zb (g : Heap) (J : Hp) (cl : Value) (dd : Option Addr) (o : Obj) : Prop := (o.cls = cl ∧ o.dict = dd) ∧ ∀ ws : Array Value, o.data = .fields ws → ∃ c, ws[2]? = some c ∧ Link g J c
theorem Zb.steady {g : Heap} {J : Hp} {cl : Value} {dd : Option Addr} : PXN.Steady1 (Zb g J cl dd) := fun o v z => by
  refine ⟨⟨(Obj.cls_mapFields _ _).trans z.1.1, (HandSPX.dict_mapFields _ _).trans z.1.2⟩, fun ws e => ?_⟩
  obtain ⟨c1, d1, body, sl1⟩ := o
  cases body with
  | fields old =>
    have e' : old.setIfInBounds 1 v = ws := Data.fields.inj e
    obtain ⟨c, h1, h2⟩ := z.2 old rfl
    refine ⟨c, ?_, h2⟩
    rw [← e']
    exact HotX.set_other (by decide) h1
  | _ => cases e
theorem Zb.of {g : Heap} {J : Hp} {cl : Value} {dd : Option Addr} {o : Obj} (z : L2N.Zn cl dd o) : Zb g J cl dd o := ⟨⟨z.1, z.2.1⟩, fun ws e => ⟨_, z.2.2 ws e, .inl rfl⟩⟩
/-- in the air of X; t0 is the state without it -/
def Air (X : Cx) (W : WX) (u : Value) (t : Shared) : Prop :=
  ∃ (x : Addr) (g : Heap) (t0 : Shared) (pl : List (Addr × Obj)) (τ : L2.St) (J : Hp) (cl : Value) (dd : Option Addr), u = .ref x ∧ Inv X pl τ J t0 ∧
    (∀ b o, t0.heap.get? b = some o → b ∉ frs X.stack → g.get? b = some o) ∧ t0.heap.UpToSlots t.heap ∧ Sky g X.stack x (Zb g J cl dd) X.env.locals t.heap ∧ J x = none ∧ t.os = t0.os ∧ AllBare t.gens ∧ W cl dd τ J
def Takes2 (X : Cx) (W : WX) : Prop := ∀ u t, Air X W u t → X.xe u t
/-- behind a call that let one out -/
def Out (P : Program) (w : World) (stk : List Env) (J : Hp) (t0 : Shared) (E : XK) (u : Value) (t : Shared) : Prop :=
  ∃ (x : Addr) (g : Heap) (J' : Hp) (cl : Value) (dd : Option Addr), u = .ref x ∧ HandSPX.FlyingZ g stk x (Zb g J' cl dd) t.heap ∧ HOk P w J' g ∧ UB (frs stk) J J' t0.heap g t.heap ∧ J' x = none ∧ t.os = t0.os ∧ AllBare t.gens ∧ E cl dd J'
theorem traced_imp {h g : Heap} {x : Addr} {Z Z' : Obj → Prop} {v : Value} (i : ∀ o, Z o → Z' o) (z : HandSPX.TracedZ h g x Z v) : HandSPX.TracedZ h g x Z' v := by
  obtain ⟨o, ws, T, oT, ts, a1, a2, rest⟩ := z
  exact ⟨o, ws, T, oT, ts, a1, i o a2, rest⟩
theorem Out.of {P : Program} {w : World} {stk : List Env} {J : Hp} {t0 t : Shared} {E : XK} {u : Value} (c : L2N.CX P w stk J t0 E u t) : Out P w stk J t0 E u t := by
  obtain ⟨x, g, J', cl, dd, e, fl, rest⟩ := c
  exact ⟨x, g, J', cl, dd, e, ⟨fl.1, fl.2.1, fl.2.2.1, traced_imp (fun _ => Zb.of) fl.2.2.2⟩, rest⟩
theorem lift {P : Program} {w : World} {K : PySem.W.Frag} {mg : Str → Option Value} {base : Heap} {k : Nat} {f : Addr} {fd : FuncData} {ps : List Str} {sp : Sp} (F : FnOk P w K mg base (L2N.CX P w) k f fd ps sp) : FnOk P w K mg base (Out P w) k f fd ps sp :=
  ⟨F.len, fun A outer s H args us vs Q E hr he hb hv hs => codeAny_mono (F.run A outer s H args us vs Q E hr he hb hv hs) fun r t done => by
    cases r with
    | error e => exact Out.of done
    | ok f => cases f <;> exact done⟩
section
variable {X : Cx} {pl : List (Addr × Obj)} {τ : L2.St} {J : Hp} {t0 t : Shared} {g : Heap} {W : WX} {E : XK}
/-- a callee's exception is in the caller's air -/
theorem Air.call (I : Inv X pl τ J t0) (hW : ∀ cl dd J', E cl dd J' → W cl dd τ J') {u : Value} (c : Out X.prog X.w X.stack J t0 E u t) : Air X W u t := by
  obtain ⟨x, g, J', cl, dd, rfl, fly, ok, ub, nx, os, ag, hE⟩ := c
  have stay : g.StaysIn t.heap := fly.1
  obtain ⟨m, inM, outM⟩ := restrict t.heap fun b => (g.get? b).isSome || decide (b ∈ frs X.stack)
  have fromG : ∀ b o, g.get? b = some o → m.get? b = some o := fun b o e => (inM b (by simp [e])).trans (stay b o e)
  have frame : ∀ b, b ∈ frs X.stack → m.get? b = t.heap.get? b := fun b hb => inM b (by simp [hb])
  have back : ∀ b o, m.get? b = some o → t.heap.get? b = some o ∧ ((g.get? b).isSome = true ∨ b ∈ frs X.stack) := fun b o e => by
    by_cases q : ((g.get? b).isSome || decide (b ∈ frs X.stack)) = true
    · rw [inM b q] at e
      exact ⟨e, by simpa [Bool.or_eq_true] using q⟩
    · rw [outM b (Bool.eq_false_iff.mpr q)] at e
      cases e
  have inv : Inv X pl τ J' { t0 with heap := m, gens := t.gens, drawn := t.drawn, toks := t.toks } := by
    refine I.call (ch := []) ⟨fun b o e n hb _ => fromG b o (ub.keep b o e n hb), fun b o e n hb _ => ?_, fun b o e n _ => ub.free b o e n, fun b o e _ => ?_, ub.tups, ub.frzs, ub.tbls⟩ (ok.kept fromG) ag (fun _ z => nomatch z)
    · obtain ⟨sl, q⟩ := ub.slot b o e hb
      exact ⟨sl, (frame b hb).trans q⟩
    · by_cases hb : b ∈ frs X.stack
      · obtain ⟨sl, q⟩ := ub.slot b o e hb
        exact ⟨_, (frame b hb).trans q⟩
      · obtain ⟨o', q⟩ := ub.there b o e hb
        exact ⟨o', fromG b o' q⟩
  refine ⟨x, g, _, pl, τ, J', cl, dd, rfl, inv, fun b o e hb => ?_, Heap.UpToSlots.of_keeps fun b o e => (back b o e).1, .inr (.inl fly), nx, os, ag, hW _ _ _ hE⟩
  obtain ⟨e', way⟩ := back b o e
  rcases way with way | way
  · obtain ⟨o', q⟩ := Option.isSome_iff_exists.mp way
    have both := (stay b o' q).symm.trans e'
    cases both
    exact q
  · exact absurd way hb
theorem passes2 (k : Takes2 X fun cl dd _ J => E cl dd J) : Passes (Out X.prog X.w) X E := fun _ _ _ _ e s' I c => k e s' (Air.call I (fun _ _ _ h => h) c)
/-- one that is made here, in the suite of another or not -/
theorem Air.made {x : Addr} {o : Obj} {ws : Array Value} {cl : Value} {dd : Option Addr} (I : Inv X pl τ J t0) (keeps : ∀ b u, t0.heap.get? b = some u → t.heap.get? b = some u) (new : t0.heap.get? x = none) (here : t.heap.get? x = some o)
    (z : ∀ g, (∀ b u, t0.heap.get? b = some u → b ∉ frs X.stack → g.get? b = some u) → Zb g J cl dd o) (d : o.data = .fields ws) (w1 : ws[1]? = some .none) (nx : J x = none) (os : t.os = t0.os) (ag : AllBare t.gens) (w : W cl dd τ J) : Air X W (.ref x) t := by
  have out : ∀ b u, t0.heap.get? b = some u → b ∉ frs X.stack → (PySem.W.hideAll t0.heap (frs X.stack)).get? b = some u := fun b u e n => PySem.W.hideAll_get _ e n
  refine ⟨x, PySem.W.hideAll t0.heap (frs X.stack), t0, pl, τ, J, cl, dd, rfl, I, out, Heap.UpToSlots.of_keeps keeps, .inl ⟨fun b u e => keeps b u (PySem.W.of_hideAll _ e), ?_, ?_, o, ws, here, z _ out, d, w1⟩, nx, os, ag, w⟩
  · match q : (PySem.W.hideAll t0.heap (frs X.stack)).get? x with
    | none => rfl
    | some u =>
      have := new.symm.trans (PySem.W.of_hideAll _ q)
      cases this
  · exact Heap.FunFrames.of_keeps (fun b u e _ => ⟨u, keeps b u e, rfl⟩) (funFrames_none I.stack fun b hb => PySem.W.hideAll_none _ hb)
/-- it leaves the def -/
theorem Air.leaves (hs : X.stack = X.env :: X.outer) (hf : X.env.frame = some X.env.locals) (noex : X.ex = []) {E₁ : Value → Shared → Prop} (hW : ∀ cl dd τ J, W cl dd τ J → E cl dd J) {u : Value} (air : Air X W u t) :
    wpAny (model X.prog X.w) X.A (leaving X.env u) (fun _ t' => Out X.prog X.w X.outer X.H_0 X.s_0 E u t') E₁ t := by
  obtain ⟨x, g, t0, pl, τ, J, cl, dd, rfl, I, far, up, sky, nx, os, ag, w⟩ := air
  have frames : X.A.frames = some (X.env :: X.outer) := by rw [I.ok.frames, hs]
  have apart : ∀ b o, X.s_0.heap.get? b = some o → b ∉ X.fs → b ∉ frs X.stack := fun b o e hb hm => by
    rcases List.mem_cons.mp (I.stkSub b hm) with z | z
    · rw [z] at e
      exact absurd (Nat.lt_of_lt_of_le (Heap.lt_size e) I.ok.above) (Nat.lt_irrefl _)
    · exact hb z
  have nex : ∀ b, b ∉ X.ex := fun b hb => by
    rw [noex] at hb
    cases hb
  have done : ∀ h', HandSPX.FlyingZ g X.outer x (Zb g J cl dd) h' → t.heap.UpToSlots h' → Out X.prog X.w X.outer X.H_0 X.s_0 E (.ref x) { t with heap := h' } := fun h' fly up' => by
    refine ⟨x, g, J, cl, dd, rfl, fly, I.inGround far, ?_, nx, os.trans I.os, ag, hW _ _ _ _ w⟩
    refine ⟨fun b o e n hb => far b o (I.base.keep b o e n hb (nex b)) (apart b o e hb), fun b o e hb => ?_, fun b o e n => I.base.free b o e n (nex b), fun b o e hb => ?_, I.base.tups, I.base.frzs, I.base.tbls⟩
    · obtain ⟨_, ob, eb, nof⟩ := I.ok.funs.mem hb
      have same := e.symm.trans eb
      cases same
      obtain ⟨s1, q1⟩ := I.base.slot b o e (I.ok.frf b hb) hb (nex b)
      obtain ⟨s2, q2⟩ := up b _ q1 nof
      obtain ⟨s3, q3⟩ := up' b _ q2 nof
      exact ⟨s3, q3⟩
    · obtain ⟨o', q⟩ := I.base.there b o e (nex b)
      exact ⟨o', far b o' q (apart b o e hb)⟩
  rw [hs] at sky
  rcases sky with ⟨kB, nB, lB, o, ws, a1, a2, a3, a4⟩ | fly | held
  · exact PXN.leaving_firstZ Zb.steady frames lB hf a1 kB nB a3 a4 a2 done
  · exact PXN.leaves_onZ Zb.steady frames hf fly done
  · exact HandSPX.leaves_heldZ hf held done
theorem takes2_of (hs : X.stack = X.env :: X.outer) (hf : X.env.frame = some X.env.locals) (noex : X.ex = []) {E₁ : Value → Shared → Prop}
    (hx : X.xe = fun e t' => wpAny (model X.prog X.w) X.A (leaving X.env e) (fun _ t'' => Out X.prog X.w X.outer X.H_0 X.s_0 E e t'') E₁ t') : Takes2 X fun cl dd _ J => E cl dd J := fun u t' a => by
  rw [hx]
  exact Air.leaves (W := fun cl dd _ J => E cl dd J) hs hf noex (fun _ _ _ _ h => h) a
end
end Lk
set_option maxHeartbeats 2000000
/-! an exception is being handled whose context is None or an exception without one: what is raised then; a pair of names is set -/
namespace Lk
open PySem PySem.Spec PyProof.Rows L2 HotX
/-- what is handled, and its context -/
def Hot1 (A : Around) (x : Addr) (h : Heap) : Prop := A.handled = some (.ref x) ∧ ∃ (o : Obj) (ws : Array Value) (c : Value), h.get? x = some o ∧ o.data = .fields ws ∧ ws[2]? = some c ∧ (c = .none ∨ ∃ (q : Addr) (oq : Obj), c = .ref q ∧ h.get? q = some oq ∧ Bare0 oq)
theorem Hot1.keeps {A : Around} {x : Addr} {h h' : Heap} (z : Hot1 A x h) (k : ∀ b o, h.get? b = some o → h'.get? b = some o) : Hot1 A x h' := by
  obtain ⟨e, o, ws, c, a1, a2, a3, a4⟩ := z
  exact ⟨e, o, ws, c, k _ _ a1, a2, a3, a4.imp id fun ⟨q, oq, b1, b2, b3⟩ => ⟨q, oq, b1, k _ _ b2, b3⟩⟩
section
variable {prog : Program} {w : World} {A : Around} {E : Value → Shared → Prop} {s : Shared}
theorem unchain_end {x a slow : Addr} {tog : Bool} {o : Obj} {ws : Array Value} {R : Result → Shared → Prop} (h1 : s.heap.get? x = some o) (d1 : o.data = .fields ws) (c1 : ws[2]? = some .none) (q : R (.ok (.ret .none)) s) :
    codeAny (model prog w) A (.builtin "proto.unchain" ⟨[.ref a, .ref x, .ref slow, .bool tog], []⟩) R s := by
  refine codeAny_builtin entry_unchain ?_
  show wpAny _ _ (field (.ref x) 2 >>= _) _ _ s
  refine wpAny_bind (wpAny_field h1 d1 c1 ?_)
  rw [if_pos (show (Value.none == Value.none) = true from rfl)]
  first
  | exact wpAny_bind (wpAny_pure (wpAny_pure q))
  | exact wpAny_pure q
theorem unchain_one {x a : Addr} {Q : Value → Shared → Prop} (hot : Hot1 A x s.heap) (ny : ∀ (y : Addr) (o : Obj) (ws : Array Value), s.heap.get? x = some o → o.data = .fields ws → ws[2]? = some (.ref y) → y ≠ a) (q : Q .none s) :
    wpAny (model prog w) A (holding [Value.ref a] (runValue (.builtin "proto.unchain" ⟨[.ref a, .ref x, .ref x, .bool false], []⟩))) Q E s := by
  obtain ⟨_, o, ws, c, h1, d1, c1, way⟩ := hot
  refine wpAny_holding (wpAny_runValue ?_)
  rcases way with rfl | ⟨y, oy, rfl, hy, wy, dy, cy⟩
  · exact unchain_end h1 d1 c1 q
  · have ny := ny y o ws h1 d1 c1
    have nyx : y ≠ x := fun z => by
      rw [z, h1] at hy
      cases hy
      rw [d1] at dy
      cases dy
      rw [c1] at cy
      cases cy
    refine codeAny_builtin entry_unchain ?_
    show wpAny _ _ (field (.ref x) 2 >>= _) _ _ s
    refine wpAny_bind (wpAny_field h1 d1 c1 ?_)
    have e1 : (Value.ref y == Value.none) = false := by simp
    have e2 : (Value.ref y == Value.ref a) = false := by simp [ny]
    have e3 : (Value.ref y == Value.ref x) = false := by simp [nyx]
    simp only [e1, e2, e3, Bool.false_eq_true, if_false]
    exact wpAny_bind (wpAny_pure (wpAny_pure ⟨Code.quiet_builtin _ (by decide +kernel), unchain_end hy dy cy q⟩))
theorem raise_one {α : Type} {a x : Addr} {oe : Obj} {ws : Array Value} {Q : α → Shared → Prop} (hot : Hot1 A x s.heap) (nx : x ≠ a) (ny : ∀ (y : Addr) (o : Obj) (ws : Array Value), s.heap.get? x = some o → o.data = .fields ws → ws[2]? = some (.ref y) → y ≠ a)
    (ha : s.heap.get? a = some oe) (da : oe.data = .fields ws) (big : 2 < ws.size) (hE : E (.ref a) { s with heap := s.heap.update a (Obj.mapFields (·.setIfInBounds 2 (.ref x))) }) : wpAny (model prog w) A (raiseNew (.ref a) : Sem α) Q E s := by
  unfold raiseNew
  refine wpAny_bind (wpAny_handled ?_)
  rw [hot.1]
  have nb : (Value.ref x != Value.ref a) = true := ref_bne nx
  have go : wpAny (model prog w) A (holding [Value.ref a] (runValue (.builtin "proto.unchain" ⟨[.ref a, .ref x, .ref x, .bool false], []⟩)) >>= fun _ => updateField a 2 (.ref x)) (fun _ s' => E (.ref a) s') E s :=
    wpAny_bind (unchain_one hot ny (chained ha da big hE))
  first
  | (show wpAny _ _ (if (Value.ref x != Value.ref a) = true then _ else _) _ _ _
     rw [if_pos nb]
     first
     | exact wpAny_bind (unchain_one hot ny (wpAny_bind (chained ha da big (wpAny_throw hE))))
     | exact wpAny_bind (wpAny_mono go (fun _ _ q => wpAny_throw q) fun _ _ q => q))
  | (refine wpAny_bind ?_
     show wpAny _ _ (if (Value.ref x != Value.ref a) = true then _ else _) _ _ _
     rw [if_pos nb]
     exact wpAny_mono go (fun _ _ q => wpAny_throw q) fun _ _ q => q)
/-- a tuple's walk is over -/
theorem over_one {it t r : Addr} {i : Nat} {items : Array Value} {Q : Option Value → Shared → Prop} (hot : Hot1 A r s.heap) (nit : r ≠ it) (ny : ∀ (y : Addr) (o : Obj) (ws : Array Value), s.heap.get? r = some o → o.data = .fields ws → ws[2]? = some (.ref y) → y ≠ it) (a : IsTupIter s.heap it t i) (b : IsTup s.heap t items) (e : items[i]? = none)
    (q : ∀ h', Heap.ExtBut it s.heap h' → Q none { s with heap := h' }) : wpAny (model prog w) A (pyNext (.ref it)) Q E s := by
  obtain ⟨ob, g, _, dd⟩ := id a
  obtain ⟨_, gt, _, _, dt⟩ := b
  unfold pyNext
  refine wpAny_bind (wpAny_attempt (wpAny_callSpecial?_slot (name := Str.ofString "__next__") a.typeIs slot_tupleiter_next (wpAny_call_entry slot_tupleiter_next a.typeIs entry_tupleiter_next ?_ (args_tupleiter_next _))))
  show wpAny _ _ (field (.ref it) 0 >>= _) _ _ s ; refine wpAny_bind (wpAny_field g dd (x := .ref t) rfl ?_)
  show wpAny _ _ (if (Value.ref t == Value.none) = true then _ else _) _ _ s ; rw [if_neg (by simp)]
  show wpAny _ _ (field (.ref it) 1 >>= _) _ _ s ; refine wpAny_bind (wpAny_field g dd (x := .int i 0) rfl ?_)
  show wpAny _ _ (seqItems? (.ref t) >>= _) _ _ s ; refine wpAny_bind (wpAny_seqItems gt dt ?_)
  simp only [Int.toNat_natCast, e]
  refine wpAny_bind (wpAny_rule (wpAny_bind (wpAny_setField g dd (by simp) ?_)))
  show wpAny _ _ (newExc (.type "StopIteration") [] >>= _) _ _ _ ; refine wpAny_bind ?_ ; simp only [newExc, newTuple]
  refine wpAny_bind (wpAny_newObj_type (wpAny_bind (m := firstArgMember _ _) (wpAny_of_eq (a := Value.none) (by first | rfl | (simp only [firstArgMember]; rfl)) (wpAny_newObj_type ?_ (by size_fits)))) (by size_fits))
  obtain ⟨hh, o1, vs1, c, g1, d1, c1, way⟩ := hot
  have upd : ∀ {z : Addr} {u : Obj}, z ≠ it → s.heap.get? z = some u → (s.heap.update it (Obj.mapFields (·.setIfInBounds 0 .none))).get? z = some u := fun n k => (Heap.get?_update_other _ _ (Ne.symm n)).trans k
  have g2 := Heap.get?_push_of_some { cls := .type "tuple", data := .seq #[] } (upd nit g1)
  have hot2 : ∀ u : Obj, Hot1 A r (((s.heap.update it (Obj.mapFields (·.setIfInBounds 0 .none))).push { cls := .type "tuple", data := .seq #[] }).push u) := fun u => ⟨hh, o1, vs1, c, Heap.get?_push_of_some _ g2, d1, c1, way.imp id fun ⟨y, oy, e1, e2, e3⟩ => ⟨y, oy, e1, Heap.get?_push_of_some _ (Heap.get?_push_of_some _ (upd (ny y o1 vs1 g1 d1 (by rw [c1, e1])) e2)), e3⟩⟩
  refine raise_one (hot2 _) (Nat.ne_of_lt (Heap.lt_size g2)) (fun y o ws z1 z2 z3 => ?_) (Heap.get?_push_size _ rfl) rfl (by first | (simp; done) | (simp; omega) | (simp only [Array.size_append]; simp; omega)) ?_
  · rw [Heap.get?_push_of_some _ g2] at z1
    cases z1
    rw [d1] at z2
    cases z2
    rw [c1] at z3
    cases z3
    rcases way with w0 | ⟨y', oy, e1, e2, _⟩
    · cases w0
    · cases e1
      exact Nat.ne_of_lt (Heap.lt_size (Heap.get?_push_of_some _ (upd (ny _ o1 vs1 g1 d1 c1) e2)))
  refine wpAny_bind (wpAny_isInstance (T := "StopIteration") (b := true) ⟨_, Heap.get?_update_self _ (Heap.get?_push_size _ rfl) rfl, rfl⟩ isSubtype_stop (wpAny_pure (q _ fun c u nc z => ?_)))
  have z2 := Heap.get?_push_of_some { cls := .type "tuple", data := .seq #[] } (upd nc z)
  rw [Heap.get?_update_other _ _ (Nat.ne_of_gt (Heap.lt_size z2))]
  exact Heap.get?_push_of_some _ z2
/-- a tuple taken apart -/
theorem apart_one {t r : Addr} {items : Array Value} {Q : List Value → Shared → Prop} (hot : Hot1 A r s.heap) (b : IsTup s.heap t items) (q : ∀ h', Heap.ExtBut s.heap.objs.size s.heap h' → Q items.toList { s with heap := h' }) :
    wpAny (model prog w) A (unpackItems (.ref t) items.size none) Q E s := by
  have nt : t ≠ s.heap.objs.size := let ⟨_, g, _⟩ := b; Nat.ne_of_lt (Heap.lt_size g)
  have nr : r ≠ s.heap.objs.size := let ⟨_, _, _, _, g1, _⟩ := hot; Nat.ne_of_lt (Heap.lt_size g1)
  unfold unpackItems notIterableAtAll
  refine wpAny_bind (wpAny_bind (wpAny_specialOf b.typeIs slot_tuple_iter.lookup (wpAny_pure ?_)))
  simp only [Bool.false_eq_true, if_false]
  refine wpAny_bind (wpAny_holding (iter_tuple b (wpAny_bind (wpAny_holding (draw_tuple nt items.size 0 _ _ ⟨_, Heap.get?_push_size _ rfl, rfl, rfl⟩ (b.push _) (by omega) fun h1 a1 sb => ?_)))))
  have whole : (items.toList.drop 0).take items.size = items.toList := by rw [List.drop_zero]; exact List.take_of_length_le (by simp)
  rw [whole, if_neg (by simp)]
  obtain ⟨hh, o1, vs1, c, g1, d1, c1, way⟩ := hot
  have stay : ∀ {z : Addr} {u : Obj}, s.heap.get? z = some u → h1.get? z = some u := fun k => sb.extBut _ _ (Nat.ne_of_lt (Heap.lt_size k)) (Heap.get?_push_of_some _ k)
  have hot1 : Hot1 A r h1 := ⟨hh, o1, vs1, c, stay g1, d1, c1, way.imp id fun ⟨y, oy, e1, e2, e3⟩ => ⟨y, oy, e1, stay e2, e3⟩⟩
  refine wpAny_bind (wpAny_holding (over_one hot1 nr (fun y o ws z1 z2 z3 => ?_) a1 ((b.push _).extBut sb.extBut nt) (by simp) fun h2 x2 => ?_))
  · rw [stay g1] at z1
    cases z1
    rw [d1] at z2
    cases z2
    rw [c1] at z3
    cases z3
    rcases way with w0 | ⟨y', oy, e1, e2, _⟩
    · cases w0
    · cases e1
      exact Nat.ne_of_lt (Heap.lt_size e2)
  simp only [Option.isSome_none, Bool.false_eq_true, if_false]
  exact wpAny_pure (q h2 fun c u nc z => x2 c u nc (sb.extBut c u nc (Heap.get?_push_of_some _ z)))
end
/-- what is handled is pinned, its context too -/
def Warm (X : Cx) : Prop := ∃ p : Addr × Obj, X.A.handled = some (.ref p.1) ∧ p ∈ X.pn ∧ ∃ (ws : Array Value) (c : Value), p.2.data = .fields ws ∧ ws[2]? = some c ∧ (c = .none ∨ ∃ r ∈ X.pn, c = .ref r.1 ∧ Bare0 r.2)
theorem Warm.at {X : Cx} {pins : List (Addr × Obj)} {σ : L2.St} {H : Hp} {s : Shared} (z : Warm X) (I : Inv X pins σ H s) : ∃ r, Hot1 X.A r s.heap := by
  obtain ⟨p, hh, hp, ws, c, d, e, way⟩ := z
  exact ⟨p.1, hh, p.2, ws, c, (I.pin p (List.mem_append_left _ hp)).1, d, e, way.imp id fun ⟨r, hr, e1, e2⟩ => ⟨r.1, r.2, e1, (I.pin r (List.mem_append_left _ hr)).1, e2⟩⟩
/-- a, b = x, y with plain local names -/
theorem ps_par1 {X : Cx} {i j : Nat} {x y : Str} {a b : Expr} {ta : TA} {px py pt pos : Pos} {kt k2 : Nat} {pt2 : Pos} (warm : Warm X) (hN : X.N.Nodup) (hi : X.N[i]? = some x) (hj : X.N[j]? = some y) (ne : i ≠ j) (hx : X.env.scope.names.lookup x = some .local) (hy : X.env.scope.names.lookup y = some .local) (ha : PA X [a, b] ta)
    (sw : swappedStores [.Tuple [.Name x px, .Name y py] kt pt] (.Tuple [a, b] k2 pt2) X.env = pure (some [x, y])) (sole : swapsWithSole [.Tuple [.Name x px, .Name y py] kt pt] (.Tuple [a, b] k2 pt2) pos.line X.env = pure false := by rfl) :
    PS X (.Assign [.Tuple [.Name x px, .Name y py] kt pt] (.Tuple [a, b] k2 pt2) pos) (tPar i j ta) := by
  refine ⟨fun pins s σ H D I h => ?_⟩
  rw [exec_Assign_arm]
  refine wpAny_bind (wpAny_standAt ?_)
  rw [sole]
  refine wpAny_bind (wpAny_pure ?_)
  rw [if_neg (by decide)]
  refine wpAny_bind (Tuple_ (thn (ha.run _ pins s σ H _ I h) fun us s1 ⟨vs, H1, I1, r1, v, w, ev, q⟩ => ?_))
  subst ev
  obtain ⟨u1, u2, eu, rv, rw'⟩ : ∃ u1 u2, us = [u1, u2] ∧ RelV v u1 ∧ RelV w u2 := by
    cases r1 with
    | cons p1 more =>
      cases more with
      | cons p2 none_ =>
        cases none_
        exact ⟨_, _, rfl, p1, p2⟩
  subst eu
  refine wpAny_newObj_type ?_ (by show 2 ≤ sizeLine; decide)
  have kp : ∀ c o, s1.heap.get? c = some o → (s1.heap.push { cls := .type "tuple", data := .seq [u1, u2].toArray }).get? c = some o := fun c o z => Heap.get?_push_of_some _ z
  have I2 : Inv X pins σ H1 { s1 with heap := s1.heap.push { cls := .type "tuple", data := .seq [u1, u2].toArray } } := I1.kept (t' := s1.toks) kp
  obtain ⟨r, hr⟩ := warm.at I2
  rw [sw]
  refine wpAny_bind (wpAny_pure ?_)
  show wpAny (model X.prog X.w) X.A (rule "assign.swapped-stores" >>= fun _ => unpackItems (.ref s1.heap.objs.size) 2 none >>= fun items => assignInOrder [fun v => bindName X.env y v, fun v => bindName X.env x v] items.reverse >>= fun _ => pure Flow.next) _ _ _
  refine wpAny_bind (wpAny_rule (wpAny_bind (apart_one (items := #[u1, u2]) hr (IsTup.new s1.heap _) fun h' ext => ?_)))
  have I3 := I2.kept (h' := h') (t' := s1.toks) fun c o z => ext c o (Nat.ne_of_lt (Heap.lt_size z)) z
  refine wpAny_bind ?_
  show wpAny _ _ (assignInOrder [fun v => bindName X.env y v, fun v => bindName X.env x v] [u2, u1]) _ _ _
  refine assignInOrder_cons (wpAny_bindName (store_ok I3 hN hj (.inl hy) rw' (fun s2 I4 => ?_) (.inr hy)))
  refine assignInOrder_cons (wpAny_bindName (store_ok I4 hN hi (.inl hx) rv (fun s3 I5 => assignInOrder_nil (wpAny_pure ?_)) (.inr hx)))
  rw [List.set_comm _ _ (Ne.symm ne)] at I5
  exact ⟨_, H1, I5, q⟩
end Lk
set_option maxHeartbeats 2000000
/-! raise C(..) from None where another is handled; try with a clause for two classes; clauses that take exceptions with a context -/
namespace Lk
open PySem PySem.Spec PyProof.Rows L2 Le HotX
section
variable {X : Cx} {CX : CXT} {x : Str} {e : Expr} {es : List Expr} {ta : TA} {p pos : Pos} {C fI : Addr} {k : Nat} {fd : FuncData} {ps : List Str} {sp : Sp}
end
theorem pin_far {X : Cx} {pins : List (Addr × Obj)} {σ : L2.St} {H : Hp} {s : Shared} (I : Inv X pins σ H s) {p : Addr × Obj} (h : p ∈ X.pn) : s.heap.get? p.1 = some p.2 ∧ H p.1 = none ∧ p.1 ∉ frs X.stack := by
  obtain ⟨a, b, c, d, _⟩ := I.pin p (List.mem_append_left _ h)
  refine ⟨a, b, fun m => ?_⟩
  rcases List.mem_cons.mp (I.stkSub _ m) with z | z
  · exact c z
  · exact d z
/-- raise .. from None, in the suite of a clause -/
theorem ps_fromNone {X : Cx} {W : WX} {e : Expr} {t : L2.St → Hp → XK → Prop} {j : Nat} {cpos pos : Pos} (hot : L2H.HotC X) (tk : Takes2 X W) (he : L2H.PMk5 X e t) : PS X (.Raise (some e) (some (.Constant .none j cpos)) pos) (fun _ σ H => t σ H fun cl dd H' => W cl dd σ H') := by
  refine ⟨fun pins s σ H D I asked => ?_⟩
  obtain ⟨p, ⟨hh, wp, dp, cp⟩, hp⟩ := hot
  show wpAny _ _ (do standAt pos; raiseStmt X.env (some (do let v ← eval e X.env; standAt pos; pure v)) (some (do let v ← eval (.Constant .none j cpos) X.env; standAt pos; pure v))) _ _ _
  refine wpAny_bind (wpAny_standAt (raise_made_hotN (x1 := p.1) (fun _ _ q => wpAny_bind (Constant_none (wpAny_bind (wpAny_standAt (wpAny_pure q))))) (wpAny_bind (wpAny_mono (he pins s σ H _ I asked) (fun u s1 made => wpAny_bind (wpAny_standAt (wpAny_pure ?_))) fun _ _ q => q))))
  obtain ⟨⟨a, oa, ws, s0, H', cl, dd, rfl, J, kept, new, ha, hz, hd, w1, na, os, ag, r, w⟩, six⟩ := made
  have big : 4 < ws.size := six a oa ws rfl ha hd
  obtain ⟨P1, P2, P3⟩ := pin_far J hp
  have nap : p.1 ≠ a := fun z => by
    rw [z, new] at P1
    cases P1
  have kept4 : ∀ b u, s0.heap.get? b = some u → (noneFrom s1.heap a).get? b = some u := fun b u z => by
    have nab : a ≠ b := fun y => by
      rw [← y, new] at z
      cases z
    rw [noneFrom_other nab]
    exact kept b u z
  have keptE : ∀ b u, s0.heap.get? b = some u → ((noneFrom s1.heap a).update a (Obj.mapFields (·.setIfInBounds 2 (.ref p.1)))).get? b = some u := fun b u z => by
    have nab : a ≠ b := fun y => by
      rw [← y, new] at z
      cases z
    rw [Heap.get?_update_other _ _ nab]
    exact kept4 b u z
  obtain ⟨r1, _⟩ := r (model X.prog X.w) s1.heap (J.kIn.keeps kept)
  obtain ⟨_, r2⟩ := r (model X.prog X.w) (noneFrom s1.heap a) (J.kIn.keeps kept4)
  obtain ⟨ha4, hd4⟩ := noneFrom_at ha hd
  have size4 : 2 < ((ws.setIfInBounds 3 Value.none).setIfInBounds 4 (Value.bool true)).size := by
    rw [set_size, set_size]
    omega
  refine ⟨a, oa, ws, cl, rfl, ha, hz.1, hd, w1, big, nap, ⟨hh, p.2, wp, kept _ _ P1, dp, cp⟩, r1, r2, tk _ _ (Air.made J keptE new (Heap.get?_update_self _ ha4 (Obj.isFreed_of_fields (Obj.data_mapFields hd4 _))) (fun g into => ?_) (Obj.data_mapFields hd4 _) (set_other (by decide) (set_other (by decide) (set_other (by decide) w1))) na os ag w)⟩
  refine ⟨⟨by rw [Obj.cls_mapFields, Obj.cls_mapFields, Obj.cls_mapFields]; exact hz.1, by rw [HandSPX.dict_mapFields, HandSPX.dict_mapFields, HandSPX.dict_mapFields]; exact hz.2.1⟩, fun vs ev => ⟨.ref p.1, ?_, .inr ⟨p.1, p.2, rfl, into _ _ P1 P3, P2, wp, dp, cp⟩⟩⟩
  rw [Obj.data_mapFields hd4 _] at ev
  cases ev
  rw [Array.getElem?_setIfInBounds]
  simp only [if_true, size4]
/-- Takes2 in the suite of a clause -/
theorem Takes2.suite {X : Cx} {W : WX} (tk : Takes2 X W) (ok : X.Ok) {r : Addr} {q : Addr × Obj} {pl : List (Addr × Obj)} : Takes2 (L2H.suiteX X r (q :: (X.pn ++ pl))) W := by
  rintro u t ⟨x, g, t0, pl', τ, J, cl, dd, e, I, far, up, sky, nx, os, ag, w⟩
  exact tk u t ⟨x, g, t0, pl, τ, J, cl, dd, e, L2H.unsuiteX I ok, far, up, sky, nx, os, ag, w⟩
/-- the clause for two classes -/
def wTup (K : PySem.W.Frag) (c1 c2 : Value) (t : Suite) (D : Ends) : WX := fun cl dd τ G => PySem.W.exmAny K cl [c1, c2] = some true ∧ ∀ r, G r = none → t r cl dd D τ G
theorem fly_keeps {B : Heap} {l : List Env} {r : Addr} {Z : Obj → Prop} {h h' : Heap} (k : ∀ b o, h.get? b = some o → h'.get? b = some o) (f : HandSPX.FlyingZ B l r Z h) : HandSPX.FlyingZ B l r Z h' := by
  obtain ⟨a, b, c, oe, vs, T, oT, ts, q1, q2, q3, q4, q5, q6, q7, q8, q9⟩ := f
  exact ⟨fun y o e => k _ _ (a y o e), b, c.of_keeps fun y o e _ => ⟨o, k _ _ e, rfl⟩, oe, vs, T, oT, ts, k _ _ q1, q2, q3, q4, q5, q6, k _ _ q7, q8, q9⟩
theorem ps_tryTup {X : Cx} {body : List Stmt} {b : Stmt} {bs : List Stmt} {x1 x2 : Str} {c1 c2 : Addr} {p1 p2 ph pos : Pos} {kt : Nat} {tp : Pos} {tb : WX → TS} {t : Suite} (hs : X.stack = X.env :: X.outer) (hf : X.env.frame = some X.env.locals) (hN : X.N.Nodup)
    (hb : ∀ (W : WX) (pn : List (Addr × Obj)) (xe : Value → Shared → Prop), L2N.Takes (X.tr pn xe) W → PassesOwn (model X.prog X.w) X.A X.env xe → PSs (X.tr pn xe) body (tb W))
    (n1 : Gl X x1) (g1 : X.mg x1 = some (.ref c1)) (d1 : (x1 == ("__debug__" : Str)) = false) (n2 : Gl X x2) (g2 : X.mg x2 = some (.ref c2)) (d2 : (x2 == ("__debug__" : Str)) = false)
    {Wout : WX} (tk : Takes2 X Wout) (hpa : ∀ hd : Option Value, PassesOwnAt (model X.prog X.w) (X.A.mark hd) X.A X.env X.xe)
    (suite : ∀ (r : Addr) (o : Obj) (cl : Value) (dd : Option Addr) (pl : List (Addr × Obj)), Takes2 (L2H.suiteX X r ((r, o) :: pl)) Wout → L2H.HotC (L2H.suiteX X r ((r, o) :: pl)) → PSs (L2H.suiteX X r ((r, o) :: pl)) (b :: bs) (t r cl dd)) :
    PS X (.Try body [.ExceptHandler (some (.Tuple [.Name x1 p1, .Name x2 p2] kt tp)) none (b :: bs) ph] [] [] pos) (fun D σ H => tb (wTup X.K (.ref c1) (.ref c2) t D) D σ H) := by
  refine ⟨fun pins s σ H D I start => wpAny_Try_except ?_⟩
  have okX := I.ok
  have frames : X.A.frames = some (X.env :: X.outer) := by rw [okX.frames, hs]
  refine wpAny_mono ((hb (wTup X.K (.ref c1) (.ref c2) t D) (X.pn ++ pins) _ (fun u s' air => ?capt) PassesOwn.looking).run [] s σ H D (I.toTry _) start) (fun w s' done => ?_) (fun _ _ q => q)
  case capt =>
    obtain ⟨r, B, sI, _, τ, G, cl, dd, rfl, J, far, up, sky, nr, sos, sb, hit, w⟩ := air
    have sky : Sky B (X.env :: X.outer) r (L2N.Zn cl dd) X.env.locals s'.heap := by rw [← hs]; exact sky
    refine L2N.Sky.land L2N.Zn.steady frames hf sky fun h1 fly u1 => ?_
    have J0 := J.ofTry okX
    have far0 : ∀ b o, sI.heap.get? b = some o → b ∉ frs X.stack → B.get? b = some o := far
    have grounded : ∀ {h : Heap} {tk : Nat}, HandSPX.FlyingZ B (X.env :: X.outer) r (L2N.Zn cl dd) h → sI.heap.UpToSlots h → Inv X pins τ G { s' with heap := h, toks := tk } := fun {h tk} fl u =>
      J0.landed (s' := { s' with heap := h, toks := tk }) far0 fl.1 u sos sb
    obtain ⟨o1, fs1, q1, z1, e1⟩ := fly.there
    have out : r ∉ frs (X.env :: X.outer) := fun m => by
      obtain ⟨_, o2, q2, nof⟩ := fly.2.2.1.mem m
      rw [q1] at q2
      cases q2
      exact nof _ e1
    have offL : r ≠ X.env.locals := fun q => out (List.mem_filterMap.mpr ⟨X.env, List.mem_cons_self, by rw [hf, q]⟩)
    have offF : r ∉ X.fs := fun m => by
      obtain ⟨en, hen, q⟩ := List.mem_filterMap.mp m
      exact out (List.mem_filterMap.mpr ⟨en, List.mem_cons_of_mem _ hen, q⟩)
    have J1 : Inv X pins τ G { s' with heap := h1 } := grounded (tk := s'.toks) fly (up.trans u1)
    have inS := J1.suite q1 e1 nr offL offF
    have ty : PySem.W.Looks (model X.prog X.w) h1 (typeOf (.ref r)) cl := fun A' Q' E' s' st q => wpAny_typeOf_ref (st _ _ q1) (by rw [z1.1]; exact q)
    have named : ∀ {x : Str} {c : Addr} {p : Pos} {Q' : Value → Shared → Prop} {E' : Value → Shared → Prop}, Gl X x → X.mg x = some (.ref c) → (x == ("__debug__" : Str)) = false → Q' (.ref c) { s' with heap := h1 } → wpAny (model X.prog X.w) (X.A.mark (some (.ref r))) (eval (.Name x p) X.env) Q' E' { s' with heap := h1 } := fun {x c p Q' E'} gl m nd q =>
      ld_glob (X := X.suite r ((r, o1) :: (X.pn ++ pins))) inS gl m q nd
    have kp : ∀ q o, h1.get? q = some o → (h1.push { cls := .type "tuple", data := .seq [.ref c1, .ref c2].toArray }).get? q = some o := fun _ _ z => Heap.get?_push_of_some _ z
    have asked := PySem.W.exm_tup2 (M := model X.prog X.w) (J1.kIn.keeps kp) (ty.keeps kp) (Heap.get?_push_size h1 rfl) hit
    refine wpAny_handleBy_cons (codeAny_handlers_test (wpAny_Tuple (wpAny_items_cons (named n1 g1 d1 (wpAny_items_cons (named n2 g2 d2 (wpAny_items_nil ⟨by size_fits, asked.here ?_⟩))))))) (by intro q; cases q)
    refine codeAny_handlers_suite (HandSPX.lands_againZ (fly_keeps kp fly) fun h' fly' u' => ?_)
    obtain ⟨o2, fs2, q2, z2, e2⟩ := fly'.there
    have J2 : Inv X pins τ G { s' with heap := h' } := grounded (tk := s'.toks) fly' (((up.trans u1).trans (Heap.UpToSlots.of_keeps kp)).trans u')
    refine wpAny_mono ((suite r o2 cl dd (X.pn ++ pins) (tk.suite okX) ⟨(r, o2), ⟨rfl, fs2, e2, z2.2.2 fs2 e2⟩, List.mem_cons_self⟩).run [] _ _ G _ (L2H.suiteX_of (J2.suite q2 e2 nr offL offF)) (w r nr)) (fun w s4 done => ?_) (fun er s4 z => hpa (some (.ref r)) er s4 z)
    cases w with
    | next =>
      obtain ⟨_, _, I4, q⟩ := done
      exact ⟨_, _, L2H.unsuiteX I4 okX, q⟩
    | brk =>
      obtain ⟨_, _, I4, q⟩ := done
      exact ⟨_, _, L2H.unsuiteX I4 okX, q⟩
    | cont =>
      obtain ⟨_, _, I4, q⟩ := done
      exact ⟨_, _, L2H.unsuiteX I4 okX, q⟩
    | ret u =>
      obtain ⟨_, _, _, I4, rel, q⟩ := done
      exact ⟨_, _, _, L2H.unsuiteX I4 okX, rel, q⟩
  cases w with
  | next =>
    obtain ⟨_, _, I', q⟩ := done
    exact wpAny_execs_nil ⟨_, _, I'.ofTry okX, q⟩
  | brk =>
    obtain ⟨_, _, I', q⟩ := done
    exact ⟨_, _, I'.ofTry okX, q⟩
  | cont =>
    obtain ⟨_, _, I', q⟩ := done
    exact ⟨_, _, I'.ofTry okX, q⟩
  | ret u =>
    obtain ⟨_, _, _, I', rel, q⟩ := done
    exact ⟨_, _, _, I'.ofTry okX, rel, q⟩
end Lk
set_option maxHeartbeats 1000000
/-! a def called with a lambda that may raise; the exception's context is None or one without a context -/
namespace Lk
open PySem PySem.Spec PyProof.Rows L2 LamX
/-- the context of the lambda's body -/
def lamX2 (X : Cx) (A : Around) (outer : List Env) (s : Shared) (H : Hp) (E : XK) (scope : Scope) (f c : Addr) : Cx :=
  (lamCx X A outer s H (fun _ _ _ => False) scope f c).wish fun u s' => wpAny (model X.prog X.w) (A.deeper (lamEnv X scope s.heap.objs.size f c)) (leaving (lamEnv X scope s.heap.objs.size f c) u) (fun _ s2 => Out X.prog X.w outer H s E u s2) (fun u2 s2 => Out X.prog X.w outer H s E u2 s2) s'
section
variable {X : Cx} {pins : List (Addr × Obj)} {σ : L2.St} {H HZ : Hp} {s s1 : Shared}
/-- act(), act the lambda, in the def that got it -/
theorem pe_act2 {CXg : CXT} {Eg : XK} {Ng : List Str} {qg : Str} {sg : Scope} {g f c : Addr} {cdg pm ct : Value} {params : Arguments} {body : Expr} {scope : Scope} {k i : Nat} {a : Str} {pn : List (Addr × Obj)} {xe : Value → Shared → Prop} {W : WX} {t : XK → TE} {p1 p2 : Pos}
    (I : Inv X pins σ H s) (L : LamS X.env.scope scope) (there : s.heap.get? f = some (PySem.W.kla_obj "<lambda>" (X.env.qual ++ "<lambda>") params body scope (cloFrom X.env.cells scope.names []) pm c ct)) (nf : H f = none) (nfr : f ∉ frs X.stack)
    (noArgs : bindArgs (PySem.W.kla_fn "<lambda>" (X.env.qual ++ "<lambda>") params body scope (cloFrom X.env.cells scope.names []) pm (.ref c) ct) ⟨[], []⟩ = pure []) (tk : Takes2 ((cxOf CXg X.prog X.w X.K X.mg X.base Ng qg sg g cdg X.A X.stack s H Eg).tr pn xe) W)
    (hr : Room (k + 1) (X.A.deeper (envOfC qg sg s.heap.objs.size g cdg))) (inner : ∀ (A : Around) (outer : List Env) (s : Shared) (H : Hp) (E : XK), Room k (A.deeper (lamEnv X scope s.heap.objs.size f c)) → PE (lamX2 X A outer s H E scope f c) body (t E))
    (hN : Ng[i]? = some a) (hv : Vis sg a) (n1 : (a == ("__debug__" : Str)) = false := by decide) (n2 : (a == ("__classdict__" : Str)) = false := by decide) :
    PE ((cxOf CXg X.prog X.w X.K X.mg X.base Ng qg sg g cdg X.A X.stack s H Eg).tr pn xe) (.Call (.Name a p1) [] [] p2) (fun τ G Q => τ[i]? = some (some (.ref f)) ∧ G c = some (CodeO c (X.env.qual ++ "<lambda>")) ∧ t (fun cl d G' => W cl d τ G') σ G Q) := by
  refine ⟨fun pz sz τ G Q IZ ⟨hslot, hcode, goal⟩ => wpAny_Call_Name_kw (thn ((pe_var (pos := p1) (i := i) hN hv n1 n2).run pz sz τ G (fun v G1 => v = .ref f ∧ G1 = G) IZ ⟨.ref f, hslot, rfl, rfl⟩) fun u s1 ⟨v, G1, I1, rel, ev, eG⟩ => ?_)⟩
  subst ev
  rw [eG] at I1
  obtain rfl : u = Value.ref f := rel
  have still := I1.base.keep f _ there nf nfr (fun z => nomatch (show f ∈ ([] : List Addr) from z))
  have grown : Un (frs X.stack) [] H G s.heap s1.heap := I1.base
  obtain ⟨⟨oc, fs, t, g1, g2, g3⟩, _, _⟩ := I1.hok c _ hcode
  let E : XK := fun cl d G' => W cl d τ G'
  have ran : codeAny (model X.prog X.w) (X.A.deeper (envOfC qg sg s.heap.objs.size g cdg)) (.call (.ref f) ⟨[], []⟩) (CR (Out X.prog X.w) (envOfC qg sg s.heap.objs.size g cdg :: X.stack) X.prog X.w G s1 Q E) s1 := by
    refine PySem.W.kla_callFunE hr.depth still rfl L.co L.gen rfl ⟨c, oc, fs, t, rfl, g1, g2, g3⟩ ?_
    rw [noArgs]
    refine wpAny_pure (wpAny_newFunctionEnv (fun y hy => (L.own y hy).2) (fun y hy => absurd hy (by simp)) (fun h1 ns but => ⟨I1.nolimit.fresh _ but, ?_⟩) L.kind)
    have kept : ∀ b o, s1.heap.get? b = some o → h1.get? b = some o := fun b o z => but.extBut b o (Nat.ne_of_lt (Heap.lt_size z)) (Heap.get?_push_of_some _ z)
    have J := (lam_start2 (tk := s1.toks + ([] : List (Str × Value)).length) (E := fun _ _ _ => False) (c' := c) (f := f) I L I1.env0 hr.hd grown ns kept).wish fun u s' => wpAny (model X.prog X.w) ((X.A.deeper (envOfC qg sg s.heap.objs.size g cdg)).deeper (lamEnv X scope s1.heap.objs.size f c)) (leaving (lamEnv X scope s1.heap.objs.size f c) u)
      (fun _ s2 => Out X.prog X.w (envOfC qg sg s.heap.objs.size g cdg :: X.stack) G s1 E u s2) (fun u2 s2 => Out X.prog X.w (envOfC qg sg s.heap.objs.size g cdg :: X.stack) G s1 E u2 s2) s'
    refine PySem.W.kla_codeExpr (wpAny_mono ((inner _ _ s1 G E (hr.deeper _)).run [] _ _ G Q J goal) (fun v s' done => ?_) fun _ _ z => z)
    obtain ⟨v', G', J', rv, q⟩ := done
    exact ⟨v', G', J'.os, J'.bare, J'.base, J'.hok, rv, q⟩
  refine PySem.W.callWith_F0 ⟨_, _, _, _, still⟩ (wpAny_call (codeAny_mono ran fun r s' done => ?_))
  · cases r with
    | error e => exact tk e s' (Air.call I1 (fun _ _ _ h => h) done)
    | ok fl =>
      cases fl with
      | ret u => exact I1.after done
      | next => exact done.elim
      | brk => exact done.elim
      | cont => exact done.elim
end
/-- the context of the def at g that hears, called in X at s -/
abbrev heardCx2 (X : Cx) (Ng : List Str) (x : Str) (sg : Scope) (g : Addr) (cdg : Value) (s : Shared) (H : Hp) : Cx := cxOf C8.CX0 X.prog X.w X.K X.mg X.base Ng x sg g cdg X.A X.stack s H C8.E0
abbrev Act := XK → Hp → VK → Prop
def Hears2 (X : Cx) (Ng : List Str) (x : Str) (sg : Scope) (g : Addr) (cdg : Value) (bg : List Stmt) (a q : Str) (k : Nat) (TT : Act → Hp → VK → Prop) : Prop :=
  ∀ (f c : Addr) (s : Shared) (H : Hp) (Q : VK) (act : Act), Room k (X.A.deeper (envOfC x sg s.heap.objs.size g cdg)) →
    (∀ (W : WX) (pn : List (Addr × Obj)) (xe : Value → Shared → Prop) (p1 p2 : Pos), Takes2 ((heardCx2 X Ng x sg g cdg s H).tr pn xe) W →
      PE ((heardCx2 X Ng x sg g cdg s H).tr pn xe) (.Call (.Name a p1) [] [] p2) (fun τ G Q' => τ[0]? = some (some (.ref f)) ∧ G c = some (CodeO c q) ∧ act (fun cl d G' => W cl d τ G') G Q')) →
    H c = some (CodeO c q) → TT act H Q → ∃ t, PSs (heardCx2 X Ng x sg g cdg s H).nox bg t ∧ t { nx := fun _ H' => Q .non H', rt := Q } (L2.start Ng [.ref f]) H
section
variable {X : Cx}
/-- x(lambda: body) -/
theorem pe_heard2 {T : List (Addr × Str)} {TT : Act → Hp → VK → Prop} {x a : Str} {g c P : Addr} {k : Nat} {pg : Arguments} {bg : List Stmt} {sg : Scope} {dV kV doc pm cdv ct oc : Value} {an od : Option Addr} {osl : Array (Option Value)} {Ng : List Str} {params : Arguments} {body : Expr} {scope : Scope} {t : XK → TE} {p lp pos : Pos}
    (gl : Gl X x) (gv : X.mg x = some (.ref g)) (kp : PySem.W.keepIn X.K (.ref g) = true) (lk : X.K.lookup g = some ⟨oc, od, .func (PySem.W.fnOf x x pg bg sg dV kV doc pm an cdv ct), osl⟩) (cg : PySem.W.codeIn X.K cdv x = true)
    (bi : L2.Binds X.K (PySem.W.fnOf x x pg bg sg dV kV doc pm an cdv ct) [a] []) (Sg : FnScope Ng [a] sg) (hNg : Ng[0]? = some a) (va : Vis sg a) (hears : Hears2 X Ng x sg g cdv bg a (X.env.qual ++ "<lambda>") (k + 1) TT) (TB : TabB X.base X.mg c P) (code : X.env.code = .ref c)
    (inT : (P, X.env.qual ++ "<lambda>") ∈ T) (one : ∀ y ∈ T, y.1 = P → y.2 = X.env.qual ++ "<lambda>") (hr : Room (k + 2) X.A) (L : LamS X.env.scope scope) (nodef : defaultsOf params X.env = ([], []))
    (noArgs : ∀ (q : Str) (cl : List (Str × Addr)) (pm cv ctv : Value), bindArgs (PySem.W.kla_fn "<lambda>" q params body scope cl pm cv ctv) ⟨[], []⟩ = pure [])
    (inner : ∀ (A : Around) (outer : List Env) (s : Shared) (H : Hp) (E : XK) (f c' : Addr), Room k (A.deeper (lamEnv X scope s.heap.objs.size f c')) → PE (lamX2 X A outer s H E scope f c') body (t E))
    (n0 : (x == ("__debug__" : Str)) = false := by decide) (n1 : (a == ("__debug__" : Str)) = false := by decide) (n2 : (a == ("__classdict__" : Str)) = false := by decide) :
    PE X (.Call (.Name x p) [.Lambda params body scope lp] [] pos) (tLam T TT t) := by
  refine ⟨fun pins s σ H Q I ⟨tabs, goal⟩ => wpAny_Call_Name_kw (ld_glob I gl gv (PySem.W.callWith_K (h₀ := X.base) I.ok.mod.kin kp ?_ (by rfl) (by rfl)) n0)⟩
  show wpAny _ _ (spliced ((false, eval (.Lambda params body scope lp) X.env) :: backTo pos (starEach [] X.env))) _ _ s
  refine Calls.spliced_cons (lam_make2 I TB code inT one tabs nodef (L.has I.ok) fun f c' pm' ctv H1 s1 I1 eN T1 there nf nfr co => Calls.spliced_nil ⟨I1.kIn, ?_⟩)
  have ran : codeAny (model X.prog X.w) X.A (.call (.ref g) ⟨[.ref f], []⟩) (CR C8.CX0 X.stack X.prog X.w H1 s1 Q C8.E0) s1 :=
    run_ofS (N := Ng) (ps := [a]) (us := [.ref f]) (vs := [.ref f]) lk cg Sg hr I1.env0 (bi s1 [.ref f] I1.kIn rfl) (.cons rfl .nil) rfl fun hr1 =>
      let ⟨t1, ht, hq⟩ := hears f c' s1 H1 Q (fun E G Q' => t E σ G Q') hr1 (fun W pn xe p1 p2 tk => pe_act2 (i := 0) (t := t) I1 L there nf nfr (noArgs _ _ _ _ _) tk hr1 (fun A outer s H E hr2 => inner A outer s H E f c' hr2) hNg va n1 n2) co (goal H1 eN T1)
      ⟨t1, ht.nox, hq⟩
  refine wpAny_call (codeAny_mono ran fun r s2 done => ?_)
  cases r with
  | error e => exact (show False from done).elim
  | ok fl =>
    cases fl with
    | ret u => exact I1.after done
    | next => exact done.elim
    | brk => exact done.elim
    | cont => exact done.elim
end
end Lk
set_option maxHeartbeats 1000000
/-! try: .. except X as n: .., the exceptions with a context or without -/
namespace Lk
open PySem PySem.Spec PyProof.Rows L2 Le
inductive Clauses2 (X : Cx) : List ExceptHandler → List (Value × Nat × Suite) → Prop
  | rest (hds : List ExceptHandler) : Clauses2 X hds []
  | as_ {x n : Str} {c : Value} {i : Nat} {t : Suite} {b : Stmt} {bs : List Stmt} {p p' : Pos} {hds : List ExceptHandler} {more : List (Value × Nat × Suite)} (at_ : X.N[i]? = some n) (lo : X.env.kindOf n = some .local) (nm : Names X x c)
      (suite : ∀ (r : Addr) (o : Obj) (cl : Value) (dd : Option Addr) (pn : List (Addr × Obj)), Zc cl dd o → (∃ fs, o.data = .fields fs) → Warm (X.suite r ((r, o) :: pn)) → PSs (X.suite r ((r, o) :: pn)) (b :: bs) (t r cl dd)) (tl : Clauses2 X hds more) :
      Clauses2 X (.ExceptHandler (some (.Name x p)) (some n) (b :: bs) p' :: hds) ((c, i, t) :: more)
section
variable {X : Cx} {pins : List (Addr × Obj)} {τ : L2.St} {G : Hp} {D : Ends}
/-- the exception r is on the ground, the state without it is known: the clauses take it -/
theorem taken2 {r : Addr} {B : Heap} {cl : Value} {dd : Option Addr} {sI s : Shared} (hN : X.N.Nodup) (J : Inv X pins τ G sI) (far : ∀ b o, sI.heap.get? b = some o → b ∉ frs X.stack → B.get? b = some o) (hs : X.stack = X.env :: X.outer) (hf : X.env.frame = some X.env.locals)
    (up : sI.heap.UpToSlots s.heap) (sos : s.os = sI.os) (sb : AllBare s.gens) (nr : G r = none) (fly : HandSPX.FlyingZ B (X.env :: X.outer) r (Zb B G cl dd) s.heap) :
    ∀ {hds : List ExceptHandler} {l : List (Value × Nat × Suite)}, Clauses2 X hds l → wCls X.K D l cl dd τ G → wpAny (model X.prog X.w) X.A (handleBy (.ref r) X.env hds) (SP X pins D) X.xe s := by
  have okX := J.ok
  have grounded : ∀ {h : Heap}, HandSPX.FlyingZ B (X.env :: X.outer) r (Zb B G cl dd) h → sI.heap.UpToSlots h → Inv X pins τ G { s with heap := h } := fun {h} fl u =>
    J.landed (s' := { s with heap := h }) far fl.1 u sos sb
  obtain ⟨o1, fs1, g1, z1, d1⟩ := fly.there
  have out : r ∉ frs (X.env :: X.outer) := fun m => by
    obtain ⟨_, o2, g2, nof⟩ := fly.2.2.1.mem m
    rw [g1] at g2
    cases g2
    exact nof _ d1
  have offL : r ≠ X.env.locals := fun q => out (List.mem_filterMap.mpr ⟨X.env, List.mem_cons_self, by rw [hf, q]⟩)
  have offF : r ∉ X.fs := fun m => by
    obtain ⟨en, hen, q⟩ := List.mem_filterMap.mp m
    exact out (List.mem_filterMap.mpr ⟨en, List.mem_cons_of_mem _ hen, q⟩)
  have J1 : Inv X pins τ G s := grounded (h := s.heap) fly up
  intro hds l hk
  induction hk with
  | rest _ => exact fun no => no.elim
  | @as_ x n c i t b bs p p' hds more at_ lo nm suite tl ih =>
    rintro ⟨yes, hy, onYes, onNo⟩
    have inS := J1.suite g1 d1 nr offL offF
    have ty : PySem.W.Looks (model X.prog X.w) s.heap (typeOf (.ref r)) cl := fun A' Q' E' s' st q => wpAny_typeOf_ref (st _ _ g1) (by rw [z1.1.1]; exact q)
    have asked := PySem.W.exm_one (M := model X.prog X.w) J1.kIn ty hy
    have named : ∀ {Q' : Value → Shared → Prop} {E' : Value → Shared → Prop}, Q' c s → wpAny (model X.prog X.w) (X.A.mark (some (.ref r))) (eval (.Name x p) X.env) Q' E' s := fun {Q' E'} q => by
      obtain ⟨gl, nd, way⟩ := nm
      rcases way with m | ⟨m, bt, nn⟩
      · exact ld_glob (X := X.suite r ((r, o1) :: (X.pn ++ pins))) inS gl m q nd
      · exact ld_blt (X := X.suite r ((r, o1) :: (X.pn ++ pins))) inS gl m bt q nn nd
    refine wpAny_handleBy_cons (codeAny_handlers_test (named (asked.here ?_))) (by intro q; cases q)
    cases yes with
    | false => exact ih (onNo rfl)
    | true =>
      refine codeAny_handlers_suite_as (HandSPX.lands_againZ fly fun h' fly' u' => ?_)
      obtain ⟨o2, fs2, g2, z2, d2⟩ := fly'.there
      have J2 := grounded fly' (up.trans u')
      obtain ⟨cx, ecx, link⟩ := z2.2 fs2 d2
      obtain ⟨more, J3, warm⟩ : ∃ more : List (Addr × Obj), Inv X (more ++ pins) τ G { s with heap := h' } ∧ Warm (X.suite r ((r, o2) :: (X.pn ++ (more ++ pins)))) := by
        rcases link with rfl | ⟨q, oq, rfl, hq, nq, wq, dq, eq⟩
        · exact ⟨[], J2, (r, o2), rfl, List.mem_cons_self, fs2, _, d2, ecx, .inl rfl⟩
        · have hq' : h'.get? q = some oq := fly'.1 q oq hq
          have outq : q ∉ frs (X.env :: X.outer) := fun m => by
            obtain ⟨_, o5, g5, nof⟩ := fly'.2.2.1.mem m
            rw [hq'] at g5
            cases g5
            exact nof _ dq
          have offLq : q ≠ X.env.locals := fun z => outq (List.mem_filterMap.mpr ⟨X.env, List.mem_cons_self, by rw [hf, z]⟩)
          have offFq : q ∉ X.fs := fun m => by
            obtain ⟨en, hen, z⟩ := List.mem_filterMap.mp m
            exact outq (List.mem_filterMap.mpr ⟨en, List.mem_cons_of_mem _ hen, z⟩)
          refine ⟨[(q, oq)], J2.pins_of fun p hp => ?_, (r, o2), rfl, List.mem_cons_self, fs2, _, d2, ecx, .inr ⟨(q, oq), List.mem_cons_of_mem _ (List.mem_append_right _ List.mem_cons_self), rfl, wq, dq, eq⟩⟩
          rcases List.mem_cons.mp hp with rfl | hp
          · exact ⟨hq', nq, offLq, offFq, fun v z => by rw [dq] at z; cases z⟩
          · exact J2.pin p (List.mem_append_right _ hp)
      refine store_ok (X := X.suite r ((r, o2) :: (X.pn ++ (more ++ pins)))) (v := .ref r) (J3.suite g2 d2 nr offL offF) hN at_ (.inl lo) rfl (fun s3 I3 => ?_) (.inr lo)
      have leave : ∀ {τ' : L2.St} {G' : Hp} {s4 : Shared} {Q' : Shared → Prop}, Inv (X.suite r ((r, o2) :: (X.pn ++ (more ++ pins)))) [] τ' G' s4 → (∀ s5, Inv X pins (τ'.set i none) G' s5 → Q' s5) →
          wpAny (model X.prog X.w) X.A (do bindName X.env n .none; unbindBehindTheSuite X.env n p') (fun _ s5 => Q' s5) X.xe s4 := fun {τ' G' s4 Q'} I4 q => by
        have I5 : Inv X (more ++ pins) τ' G' s4 := I4.unsuite okX
        exact gone_ok (I5.pins_of fun p hp => I5.pin p (List.mem_append_right _ (List.mem_append_right _ hp)) : Inv X pins τ' G' s4) hN at_ lo q
      refine wpAny_mono ((suite r o2 cl dd (X.pn ++ (more ++ pins)) z2.1 ⟨_, d2⟩ warm).run [] s3 _ G _ I3 (onYes rfl r nr)) (fun w s4 done => ?_) (fun _ _ no => no.elim)
      cases w with
      | next =>
        obtain ⟨_, _, I4, q⟩ := done
        exact leave I4 fun s5 I5 => ⟨_, _, I5, q⟩
      | brk =>
        obtain ⟨_, _, I4, q⟩ := done
        exact leave I4 fun s5 I5 => ⟨_, _, I5, q⟩
      | cont =>
        obtain ⟨_, _, I4, q⟩ := done
        exact leave I4 fun s5 I5 => ⟨_, _, I5, q⟩
      | ret u =>
        obtain ⟨_, _, _, I4, rel, q⟩ := done
        exact leave I4 fun s5 I5 => ⟨_, _, _, I5, rel, q⟩
/-- try: body, then the clauses -/
theorem ps_tryCls2 {body : List Stmt} {h0 : ExceptHandler} {hds : List ExceptHandler} {l : List (Value × Nat × Suite)} {pos : Pos} {tb : WX → TS} (hs : X.stack = X.env :: X.outer) (hf : X.env.frame = some X.env.locals) (hN : X.N.Nodup)
    (hb : ∀ (W : WX) (pn : List (Addr × Obj)) (xe : Value → Shared → Prop), Takes2 (X.tr pn xe) W → PassesOwn (model X.prog X.w) X.A X.env xe → PSs (X.tr pn xe) body (tb W)) (hc : Clauses2 X (h0 :: hds) l) :
    PS X (.Try body (h0 :: hds) [] [] pos) (fun D σ H => tb (wCls X.K D l) D σ H) := by
  refine ⟨fun pins s σ H D I start => wpAny_Try_except ?_⟩
  have okX := I.ok
  have frames : X.A.frames = some (X.env :: X.outer) := by rw [okX.frames, hs]
  refine wpAny_mono ((hb (wCls X.K D l) (X.pn ++ pins) _ (fun u s' air => ?capt) PassesOwn.looking).run [] s σ H D (I.toTry _) start) (fun w s' done => ?_) (fun _ _ q => q)
  case capt =>
    obtain ⟨r, B, sI, _, τ, G, cl, dd, rfl, J, far, up, sky, nr, sos, sb, w⟩ := air
    have sky : Sky B (X.env :: X.outer) r (Zb B G cl dd) X.env.locals s'.heap := by rw [← hs]; exact sky
    exact L2N.Sky.land Zb.steady frames hf sky fun h1 fly u1 => taken2 (s := { s' with heap := h1 }) hN (J.ofTry okX) far hs hf (up.trans u1) sos sb nr fly hc w
  cases w with
  | next =>
    obtain ⟨_, _, I', q⟩ := done
    exact wpAny_execs_nil ⟨_, _, I'.ofTry okX, q⟩
  | brk =>
    obtain ⟨_, _, I', q⟩ := done
    exact ⟨_, _, I'.ofTry okX, q⟩
  | cont =>
    obtain ⟨_, _, I', q⟩ := done
    exact ⟨_, _, I'.ofTry okX, q⟩
  | ret u =>
    obtain ⟨_, _, _, I', rel, q⟩ := done
    exact ⟨_, _, _, I'.ofTry okX, rel, q⟩
end
/-- as okN, for a def whose exceptions may have a context -/
theorem ok2 {P : Program} {w : World} {K : PySem.W.Frag} {mg : Str → Option Value} {base : Heap} {x qual : Str} {st : Stmt} {f : Addr} {fd : FuncData} {N ps : List Str} {k : Nat} {sp : Sp} (F : Fun K x qual st f fd) (S : FnScope N ps (defScope st)) (len : ∀ vs H Q E, sp vs H Q E → vs.length = ps.length)
    (body : ∀ (cdv : Value) (A : Around) (outer : List Env) (s : Shared) (H : Hp) (vs : List V) (Q : VK) (E : XK), Room k (A.deeper (envOfC qual (defScope st) s.heap.objs.size f cdv)) → sp vs H Q E →
      ∃ t, PSs (cxOf (Out P w) P w K mg base N qual (defScope st) f cdv A outer s H E) (defBody st) t ∧ t { nx := fun _ H' => Q .non H', rt := Q } (L2.start N vs) H) : FnOk P w K mg base (Out P w) (k + 1) f fd ps sp := by
  obtain ⟨_, _, _, _, _, _, _, _, _, rfl, at_, code⟩ := F.ex
  exact fn_of at_ code S len (body _)
end Lk
/-! o + p, o - p, o * i by own methods -/
namespace Lz
open PySem PySem.Spec PyProof.Rows L2 WbO
section
variable {X : Cx} {CX : CXT} {k : Nat} {C g : Addr} {fd : FuncData} {ps : List Str} {sp : Sp} {E : XK}
end
end Lz
set_option maxHeartbeats 1000000
/-! o op y by o's own method, y of any built-in type -/
namespace PySem.W
open PySem Sem PySem.Calls PyProof.Rows Builtin
section
variable {prog : Program} {w : World} {A : Around} {E : Value → Shared → Prop} {s : Shared} {K : Frag} {base : Heap} {L a : Addr} {m : Str → Option Value} {oa : Obj} {C f : Addr} {od : Option Obj} {t : String}
end
end PySem.W
namespace Le
open PySem PySem.Spec PyProof.Rows L2
section
variable {X : Cx} {CX : CXT} {k : Nat} {C g : Addr} {fd : FuncData} {ps : List Str} {sp : Sp} {E : XK} {op : Operator}
end
end Le
/-! kinds: a ring in one, two met -/
namespace Wb
open PySem L2 WbMin WbO WbS WbT Lz Le
structure KB where
  (fN fAn goes CR fT pT fRI cNK cNR fNK turns : Addr)
  (dN dAn dgoes dT dRI dNK dturns : FuncData)
section
variable {P : Program} {w : World} {K : PySem.W.Frag} {mg : Str → Option Value} {base : Heap} {A : KA} {B : KB} {f C : Addr} {fd : FuncData}
end
/-! ### the good way, and no sign in common -/
section
variable {P : Program} {w : World} {K : PySem.W.Frag} {mg : Str → Option Value} {base : Heap} {A : KA} {B : KB}
end
end Wb
set_option maxHeartbeats 1000000
/-! a list comprehension where an exception is being handled -/
namespace Le
open PySem PySem.Spec PyProof.Rows L2 L2H
section
end
end Le
set_option maxHeartbeats 1000000
/-! walks over lists, tuples and a dict's keys while an exception is handled -/
namespace Le
open PySem PySem.Spec PyProof.Rows L2 L2H HotX
section
variable {prog : Program} {w : World} {A : Around} {E : Value → Shared → Prop} {s : Shared}
end
end Le
/-! the face of a thing, asked where an exception is being handled -/
namespace Le
open PySem PySem.Spec PyProof.Rows L2 L2H HotX
section
variable {P : Program} {w : World} {K : PySem.W.Frag} {tg : Expr} {d : Addr} {o : Obj} {es : Array DictEntry} {ep : Nat}
end
section
variable {P : Program} {w : World} {K : PySem.W.Frag} {mg : Str → Option Value} {base : Heap}
/-- as Fun.ok, for a def that is called where an exception is being handled -/
theorem okHot {CX : CXT} {x qual : Str} {st : Stmt} {f : Addr} {fd : FuncData} {N ps : List Str} {k : Nat} {sp : Sp} (F : Fun K x qual st f fd) (S : FnScope N ps (defScope st)) (len : ∀ vs H Q E, sp vs H Q E → vs.length = ps.length)
    (body : ∀ (cdv : Value) (A : Around) (outer : List Env) (s : Shared) (H : Hp) (vs : List V) (Q : VK) (E : XK) (p : Addr × Obj), Hot1 A p → RoomH k (A.deeper (envOfC qual (defScope st) s.heap.objs.size f cdv)) → sp vs H Q E →
      ∃ t, PSs (cxH CX P w K mg base N qual (defScope st) f cdv A outer s H E p) (defBody st) t ∧ t { nx := fun _ H' => Q .non H', rt := Q } (L2.start N vs) H) : FnH P w K mg base CX (k + 1) f fd ps sp := by
  obtain ⟨_, _, _, _, _, _, _, _, _, rfl, at_, code⟩ := F.ex
  exact fn_ofH at_ code S len (body _)
end
end Le
namespace Wb
open PySem L2 L2H Le
section
variable {P : Program} {w : World} {K : PySem.W.Frag} {mg : Str → Option Value} {base : Heap} {f : Addr} {fd : FuncData}
end
end Wb
/-! Kind.made of rows of any sort: good and refused together -/
namespace Ke
open PySem L2 PySem.Spec PyProof.Rows WbMin WbO WbT WbS Lz Wb Le Lk
open Lg
theorem sky_imp {B : Heap} {l : List Env} {a : Addr} {Z Z' : Obj → Prop} {L : Addr} {h : Heap} (i : ∀ o, Z o → Z' o) : Sky B l a Z L h → Sky B l a Z' L h := by
  rintro (⟨kB, nB, lB, o, ws, a1, a2, a3, a4⟩ | ⟨x1, x2, x3, x4⟩ | ⟨x1, x2, x3, x4⟩)
  · exact .inl ⟨kB, nB, lB, o, ws, a1, i o a2, a3, a4⟩
  · exact .inr (.inl ⟨x1, x2, x3, traced_imp i x4⟩)
  · exact .inr (.inr ⟨x1, x2, x3, traced_imp i x4⟩)
theorem takes_of2 {X : Cx} {W : WX} (k : Takes2 X W) : L2N.Takes X W := fun u s' ⟨a, B, sI, pins, σ, H, cls, d, e, I, nb, up, sky, na, os, ag, w⟩ => k u s' ⟨a, B, sI, pins, σ, H, cls, d, e, I, nb, up, sky_imp (fun _ => Zb.of) sky, na, os, ag, w⟩
section
variable {X : Cx} {k i n : Nat} {C f : Addr} {fd : FuncData} {ps : List Str} {ds : List Value} {dvs : List V} {sp : Sp} {x : Str} {pp pos : Pos} {e : Expr} {es : List Expr} {t : TA} {W : WX}
/-- c(e, ..), the class at C in slot i -/
def tMkL (i : Nat) (C : Addr) (sp : Sp) (dvs : List V) (E : XK) (t : TA) : TE := fun σ H Q => σ[i]? = some (some (.ref C)) ∧ tMake C sp dvs E t σ H Q
/-- c(e, ..), the class in slot i; what it lets out is taken with the slots as they are -/
theorem pe_makeLS (M : Mk X.K C f) (F : FnOk X.prog X.w X.K X.mg X.base (L2N.CX X.prog X.w) k f fd ps sp) (hr : Room (k + 1) X.A) (hN : X.N[i]? = some x) (hv : Vis X.env.scope x) (hb : Binds X.K fd ps ds) (hd : Vals dvs ds) (tk : L2N.Takes X W) (ha : PA X (e :: es) t)
    (hdb : (x == ("__debug__" : Str)) = false := by decide) (hcd : (x == ("__classdict__" : Str)) = false := by decide)
    (he : starEach (e :: es) X.env = (false, eval e X.env) :: starEach es X.env := by rfl) (hpl : (backTo pos (starEach es X.env)).any (·.1) = false := by rfl) : PE X (.Call (.Name x pp) (e :: es) [] pos) (fun σ H Q => tMkL i C sp dvs (fun cl d G => W cl d σ G) t σ H Q) := by
  refine ⟨fun pins s σ H Q I h => ?_⟩
  obtain ⟨hs, ht⟩ := h
  refine wpAny_Call_Name_kw (thn ((pe_var (pos := pp) hN hv hdb hcd).run pins s σ H (fun v H1 => v = .ref C ∧ H1 = H) I ⟨.ref C, hs, rfl, rfl⟩) fun u s1 ⟨v, H1, I1, r1, q1⟩ => ?_)
  obtain ⟨rfl, rfl⟩ := q1
  cases r1
  refine PySem.W.callWith_K (h₀ := X.base) I.ok.mod.kin M.kp (thn (ha.run pos pins s1 σ _ _ I1 ht) fun us s2 ⟨vs, H2, I2, r, q⟩ => ⟨I2.kIn, ?_⟩) he hpl
  have hq := q (s2.heap.objs.size + 1) s2.heap.objs.size (I2.hok.fresh (Nat.le_succ _)) (I2.hok.fresh (Nat.le_refl _)) (Nat.ne_of_lt (Nat.lt_succ_self _))
  have I3 := Inv.made (C := C) I2
  have r2 : Vals (V.ref (s2.heap.objs.size + 1) :: (vs ++ dvs)) (Value.ref (s2.heap.objs.size + 1) :: (us ++ ds)) := .cons rfl (r.append hd)
  have hl : (Value.ref (s2.heap.objs.size + 1) :: us ++ ds).length = ps.length := by
    have e := r2.length
    rw [F.len _ _ _ _ hq] at e
    exact e.symm
  refine wpAny_call (make_map (f := f) I2.kIn M.makes M.init (beq_iff_eq.mp M.fn) (codeAny_mono (F.run _ X.stack _ _ ⟨Value.ref (s2.heap.objs.size + 1) :: us, []⟩ (Value.ref (s2.heap.objs.size + 1) :: (us ++ ds)) _ _ (fun cl d G => W cl d σ G) (hr.make C us [])
    (I3.env0.make C us []) (hb _ (Value.ref (s2.heap.objs.size + 1) :: us) I3.kIn hl) r2 hq) fun r s' hq' => ?_))
  cases r with
  | error e => exact tk e s' (L2N.XE.of_call I3 (fun cls d H' h => h) hq')
  | ok fl =>
    cases fl with
    | ret u =>
      obtain ⟨v, H', I4, rv, ev, q3⟩ := I3.after hq'
      subst ev
      exact ⟨rv, ⟨V.ref (s2.heap.objs.size + 1), H', I4, rfl, q3⟩⟩
    | next => exact False.elim hq'
    | brk => exact False.elim hq'
    | cont => exact False.elim hq'
end
abbrev sErrInvalidRow : Stmt := inClass (top 17) 0
/-- a row of any sort: that of a kind or not -/
inductive RowK (H : Hp) : V → Bool → Prop
  | one {x : V} (h : Odd1 H x) : RowK H x false
  | len {t : Addr} {xs : List V} (h : H t = some (.tup xs)) (n : xs.length ≠ 2) : RowK H (.ref t) false
  | bad {t : Addr} {x0 x1 : V} {i : Nat} {v : V} (h : H t = some (.tup [x0, x1])) (a : Sor H x0) (wh : Lg.Wh H x1) (due : KDue H x0 x1 (some (i, v))) : RowK H (.ref t) false
  | non {t : Addr} {sg : List Nat} (h : H t = some (.tup [.str (S sg), .non])) (G : Sgs sg) : RowK H (.ref t) false
  | row {t t1 : Addr} {sg : List Nat} {ps : List Str} (h : H t = some (.tup [.str (S sg), .ref t1])) (h1 : H t1 = some (.tup (ps.map V.str))) (G : Sgs sg) (Gp : Prs sg ps) : RowK H (.ref t) (PyProof.Rows.sortedS (sg.map sOne) && PyProof.Rows.sortedS ps)
theorem RowK.same {H H' : Hp} {x : V} {b : Bool} (h : RowK H x b) (s : Same H H') : RowK H' x b := by
  cases h with
  | one h => exact .one (h.same s)
  | len h n => exact .len (s _ _ h) n
  | bad h a wh due => exact .bad (s _ _ h) (a.same s) (wh.same s) (due.same wh s)
  | non h G => exact .non (s _ _ h) G
  | row h h1 G Gp => exact .row (s _ _ h) (s _ _ h1) G Gp
structure ErM (K : PySem.W.Frag) (mg : Str → Option Value) (B : KE') (cR fR : Addr) (dR : FuncData) : Prop where
  er : ErK K mg B
  ER : ErrF K mg "InvalidRow" "given" "InvalidRow.__init__" sErrInvalidRow cR fR dR
  tG : PySem.W.exmAny K (.ref B.cG) [.ref B.cG, .ref B.cP] = some true
  tP : PySem.W.exmAny K (.ref B.cP) [.ref B.cG, .ref B.cP] = some true
/-- what the top has written of Kind.made, and how Kind is called with keywords -/
structure KM where
  fM : Addr
  pM : Addr
  dM : FuncData
structure KMadF (K : PySem.W.Frag) (A : KA) (M : KM) : Prop where
  FM : Fun K "made" "Kind.made" sKMade M.fM M.dM
  bM : Binds K M.dM ["cls", "row"] []
  kM : KBn K M.dM ["cls", "row"] 1 ["row"] (fun us ws => us ++ ws) (fun vs zs => vs ++ zs)
  rM : ∃ mc, ClX.CRead K A.C mc ∧ ClX.CMet K A.C mc "made" M.pM M.fM
  bI : ∃ ds, Vals [V.non] ds ∧ Binds K A.dI ["self", "signs", "pairs"] ds
  kA : ∃ its : List Value, KBn K A.dI ["self", "signs", "pairs"] 1 ["pairs", "signs"] (fun us ws => gA us its ws) (fun vs zs => gA vs [.non] zs)
def spKMadeX (C cR : Addr) : Sp := fun vs H Q E => ∃ (x : V) (b : Bool), vs = [.ref C, x] ∧ RowK H x b ∧ (b = true → ∀ (v : V) (H' : Hp), Same H H' → Q v H') ∧ (b = false → FailsN E cR "given" x H)
theorem eqv_row (a b : Str) (xs ys : List Str) : PyData.eqv (.tuple [.str a, .tuple (xs.map PyData.str)]) (.tuple [.str b, .tuple (ys.map PyData.str)]) = (decide (a = b) && decide (xs = ys)) := by
  show (PyData.eqv (.str a) (.str b) && (PyData.eqvAll (xs.map PyData.str) (ys.map PyData.str) && true)) = _
  rw [eqvAll_strs, Bool.and_true] <;> rfl
theorem eqv_rowN (a b : Str) (xs : List Str) : PyData.eqv (.tuple [.str a, .tuple (xs.map PyData.str)]) (.tuple [.str b, .none]) = false := by
  show (PyData.eqv (.str a) (.str b) && (false && true)) = _
  rw [Bool.false_and, Bool.and_false]
theorem sok {sg : List Nat} (G : Sgs sg) : PyData.strOk (S sg) = true := ok_codes fun c hc => by have := G.low c hc; omega
theorem pok {sg : List Nat} {ps : List Str} (G : Sgs sg) (P : ∀ z ∈ ps, PairOf sg z) : ∀ z ∈ ps, PyData.strOk z = true := fun z hz => by
  obtain ⟨a, b, ha, hb, rfl⟩ := P z hz
  refine ok_codes fun c hc => ?_
  have := G.low a ha
  have := G.low b hb
  rcases List.mem_cons.mp hc with rfl | hc
  · omega
  · rw [List.mem_singleton.mp hc]
    omega
theorem sh_row {z : Str} {ps : List Str} (h1 : PyData.strOk z = true) (h2 : ∀ z ∈ ps, PyData.strOk z = true) : SeqAt.shaped (.tuple [.str z, .tuple (ps.map PyData.str)]) = true := by
  have e1 : PyData.canLay0 (.tuple [.str z, .tuple (ps.map PyData.str)]) = true := by
    show (PyData.strOk z && (PyData.canLayAll0 (ps.map PyData.str) && true)) = true
    rw [h1, can_strs h2] <;> rfl
  have e2 : PyData.depth (.tuple [.str z, .tuple (ps.map PyData.str)]) ≤ 64 := by
    show max 0 (max (PyData.depthAll (ps.map PyData.str) + 1) 0) + 1 ≤ 64
    rw [depthAll_strs]
    decide
  unfold SeqAt.shaped
  rw [e1, decide_eq_true e2] <;> rfl
theorem sh_rowN {z : Str} (h1 : PyData.strOk z = true) : SeqAt.shaped (.tuple [.str z, .none]) = true := by
  have e1 : PyData.canLay0 (.tuple [.str z, .none]) = true := by
    show (PyData.strOk z && (true && true)) = true
    rw [h1] <;> rfl
  have e2 : PyData.depth (.tuple [.str z, .none]) ≤ 64 := by
    show max 0 (max 0 0) + 1 ≤ 64
    decide
  unfold SeqAt.shaped
  rw [e1, decide_eq_true e2] <;> rfl
theorem mko_err {C : Addr} {g : Str} {v : V} {i : Nat} {σ : L2.St} {G : Hp} {W : Value → Option Addr → Hp → Prop} (h : σ[i]? = some (some v)) (k : ∀ d, G d = none → W (.ref C) (some d) (upd G d (.xd [(g, v)]))) : tMkO C (spErr C g) [] (tCons (tVar i) tNil) σ G W := by
  refine ⟨v, h, (by show 1 ≤ 1000; decide), fun a na => ⟨a, v, rfl, upd_same, fun d nd ne => ⟨rfl, d, [(g, v)], upd_same, ?_, ?_, ?_⟩⟩⟩
  · rw [upd_ne ne, upd_same]
  · rw [upd_ne ne] at nd
    exact nd
  · have nd' : G d = none := by
      rw [upd_ne ne] at nd
      exact nd
    rw [dict_left na ne]
    exact k d nd'
theorem str_map_inj : ∀ {a b : List Str}, a.map V.str = b.map V.str → a = b
  | [], [], _ => rfl
  | x :: a, y :: b, h => by
    injection h with h1 h2
    injection h1 with h1
    rw [h1, str_map_inj h2]
  | [], _ :: _, h => by cases h
  | _ :: _, [], h => by cases h
theorem prW_good {H : Hp} {sg : List Nat} {t : Addr} {ps : List Str} (h : H t = some (.tup (ps.map V.str))) (P : Prs sg ps) : prW H sg (.ref t) = none := by
  rw [prW_tup h]
  unfold prR
  have e : (ps.map V.str).map (prK sg) = ps.map some := by
    rw [List.map_map]
    refine List.map_congr_left fun z hz => ?_
    obtain ⟨a, b, ha, hb, rfl⟩ := P.of z hz
    show (if pairL sg (S [a, b]).cps.toList = true then some (S [a, b]) else none) = some (S [a, b])
    rw [S_cps]
    show (if (decide (a ∈ sg) && decide (b ∈ sg)) = true then some (S [a, b]) else none) = some (S [a, b])
    rw [decide_eq_true ha, decide_eq_true hb] <;> rfl
  have q : fwO (ps.map some) = none := fwO_none fun j hj => by
    rw [List.length_map] at hj
    have hs : (ps.map some)[j]? = some (some ps[j]) := by rw [List.getElem?_map, List.getElem?_eq_getElem hj] <;> rfl
    rw [badAt_some hs]
    refine decide_eq_false fun m => ?_
    rw [← List.map_take] at m
    obtain ⟨a, ha, ea⟩ := List.mem_map.mp m
    injection ea with ea
    subst ea
    obtain ⟨i, hi⟩ := List.mem_iff_getElem?.mp ha
    rw [List.getElem?_take] at hi
    split at hi
    · rename_i ij
      have : i = j := (List.getElem?_inj (by omega) P.nd).mp (hi.trans (List.getElem?_eq_getElem hj).symm)
      omega
    · cases hi
  rw [e, q]
section
variable {P : Program} {w : World} {K : PySem.W.Frag} {mg : Str → Option Value} {base : Heap} {A : KA} {M : KM} {B : KE'} {cR fR : Addr} {dR : FuncData}
theorem scKMx : FnScope ["cls", "row", "kind"] ["cls", "row"] (defScope sKMade) := ⟨rfl, rfl, rfl, by decide +kernel, rfl, by decide +kernel, by decide +kernel⟩
theorem scErrRow9 : FnScope ["self", "given"] ["self", "given"] (defScope sErrInvalidRow) := ⟨rfl, rfl, rfl, by decide +kernel, rfl, by decide +kernel, by decide +kernel⟩
theorem ok_errRow9 (EG : ErrF K mg "InvalidRow" "given" "InvalidRow.__init__" sErrInvalidRow cR fR dR) : FnOk P w K mg base CX0 1 fR dR ["self", "given"] (spErr cR "given") := by
  refine EG.F.ok scErrRow9 (fun vs H Q E h => by obtain ⟨a, y, rfl, _⟩ := h; rfl) (fun cdv A outer s H vs Q E' hr h => ?_)
  obtain ⟨a, y, rfl, ha, k⟩ := h
  exact ⟨_, pss_one (ps_ost (pv 0) (pv 1)), _, rfl, _, rfl, a, cR, rfl, EG.o, EG.no, .inl ⟨ha, k⟩⟩
theorem ok_errRow9H (EG : ErrF K mg "InvalidRow" "given" "InvalidRow.__init__" sErrInvalidRow cR fR dR) : L2H.FnH P w K mg base CX0 1 fR dR ["self", "given"] (spErr cR "given") := by
  refine okHot EG.F scErrRow9 (fun vs H Q E h => by obtain ⟨a, y, rfl, _⟩ := h; rfl) (fun cdv A outer s H vs Q E' pn hot hr h => ?_)
  obtain ⟨a, y, rfl, ha, k⟩ := h
  exact ⟨_, pss_one (ps_ost (pv 0) (pv 1)), _, rfl, _, rfl, a, cR, rfl, EG.o, EG.no, .inl ⟨ha, k⟩⟩
set_option maxHeartbeats 4000000 in
theorem ok_kmadeX (D : KindF K mg A) (KM : KMadF K A M) (Z : Free mg) (EM : ErM K mg B cR fR dR) : FnOk P w K mg base (Out P w) 6 M.fM M.dM ["cls", "row"] (spKMadeX A.C cR) := by
  have GK : FnOk P w K mg base (L2N.CX P w) 4 A.fI A.dI ["self", "signs", "pairs"] (spKInitX B A.C) := ok_kinitX D Z EM.er
  have GW : FnOk P w K mg base CX0 1 A.fW A.dW ["self"] (spKRow A.C) := ok_krow D
  have GE : FnOk P w K mg base CX0 1 fR dR ["self", "given"] (spErr cR "given") := ok_errRow9 EM.ER
  refine ok2 KM.FM scKMx (fun vs H Q E h => by obtain ⟨x, b, rfl, _⟩ := h; rfl) (fun cdv A' outer s H vs Q E hr h => ?_)
  obtain ⟨x, b, rfl, rk, good, bad⟩ := h
  have GH : L2H.FnH P w K mg base CX0 1 fR dR ["self", "given"] (spErr cR "given") := ok_errRow9H EM.ER
  have hr2 : Room 2 _ := hr.mono (by decide)
  have hr4 : Room 5 _ := hr.mono (by decide)
  refine ⟨_, pss_cons (ps_if (PW.pt (pw_or (pt_not (pt_val (pe_callB call_isi (by rfl) Z.isi (by decide +kernel) (pa_cons (pv 1) (pa_cons (pe_bltn (v := .ty "tuple") (u := .type "tuple") (by rfl) D.tup (by decide +kernel) rfl) pa_nil)))))
      (pw_or1 (pt_cmpR op_ne (pe_callB call_len_seq (by rfl) Z.len PySem.boot_len (pa_cons (pv 1) pa_nil)) pe_int (nomark _))))) (pss_one (ps_bad EM.ER GE hr2 rfl (takes_of2 (takes2_of rfl rfl rfl rfl)) (by rfl) (pv 1))) pss_nil)
    (pss_cons (ps_tryTup rfl rfl scKMx.nd (fun W pn xe tk po => pss_one (ps_set (i := 2) scKMx.nd rfl (.inl rfl) (pe_makeLS (i := 0) D.M GK hr4 rfl (.inl rfl) D.bI3 .nil tk (pa_cons (pe_ix (show IxR _ (rIxT K) from ix_tup) (pv 1) pe_int (fun _ _ => rfl)) (pa_cons (pe_ix (show IxR _ (rIxT K) from ix_tup) (pv 1) pe_int (fun _ _ => rfl)) pa_nil)))))
        (by rfl) EM.er.EG.g (by decide) (by rfl) EM.er.EP.g (by decide) (takes2_of rfl rfl rfl rfl) (fun hd => L2H.passesAt_of rfl hd)
        (fun r o cl dd pl tk hot => pss_one (ps_fromNone hot tk (L2H.pmk5_oexH (CX := CX0) EM.ER.o EM.ER.ini EM.ER.fn GH (L2H.roomH_mark hr2 _) hot EM.ER.b (fun _ _ _ _ _ _ _ z => z.elim) (by rfl) EM.ER.g (pa_cons (pv 1) pa_nil)))))
    (pss_cons (ps_if (pt_cmpR (op_neD hr.units) (pe_prop (pv 2) D.T.cl D.hW GW hr2 D.bW .nil pass0 rfl) (pv 1) (nomark _)) (pss_one (ps_bad EM.ER GE hr2 rfl (takes_of2 (takes2_of rfl rfl rfl rfl)) (by rfl) (pv 1))) pss_nil)
    (pss_one (ps_ret (pv 2))))), ?_⟩
  have fin : ∀ {H1 : Hp}, Same H H1 → b = false → ∀ dx, H1 dx = none → E (.ref cR) (some dx) (L2.upd H1 dx (.xd [("given", x)])) := fun s1 e dx n => bad e dx _ s1 n
  cases rk with
  | one h =>
    obtain ⟨ty, h1, h2⟩ := odd1_tup K h
    refine ⟨_, rfl, _, _, ty, .type "tuple", false, rfl, .ty "tuple", h1, h2, false, rfl, ?_⟩
    exact ⟨_, rfl, fun dx n => fin (Same.refl H) rfl dx n⟩
  | @len t xs h n =>
    refine ⟨_, rfl, _, _, .type "tuple", .type "tuple", true, rfl, .ty "tuple", .base (.tup h), kit_ty (by decide +kernel), true, rfl, ?_⟩
    refine ⟨_, rfl, t, _, rfl, .inr (SqT.of h), rfl, _, rfl, ?_⟩
    have e : (!decide (V.int (xs.length : Nat) = V.int 2)) = true := by
      rw [decide_eq_false (fun y => n (by injection y with y; exact_mod_cast y))] <;> rfl
    refine ite2 (fun _ => ⟨_, rfl, fun dx n => fin (Same.refl H) rfl dx n⟩) (fun q => absurd e q)
  | @bad t x0 x1 i v h a wh due =>
    refine ⟨_, rfl, _, _, .type "tuple", .type "tuple", true, rfl, .ty "tuple", .base (.tup h), kit_ty (by decide +kernel), true, rfl, ?_⟩
    refine ⟨_, rfl, t, _, rfl, .inr (SqT.of h), rfl, _, rfl, ?_⟩
    refine iteNS rfl ?_
    refine ⟨rfl, _, rfl, t, _, _, _, rfl, rfl, SqT.of h, atI_nat (j := 0) rfl, _, rfl, t, _, _, _, rfl, rfl, SqT.of h, atI_nat (j := 1) rfl, fun kd dxk hx hdx ne => ?_⟩
    refine ⟨H, kd, dxk, x0, x1, _, rfl, a, wh, due, Same.new' (Same.new' (Same.refl H) hdx) hx, hx, upd_same, (fun z => by cases z), fun i' v' e => ?_⟩
    cases e
    intro dx H' s' n
    refine ⟨?_, fun r nr => mko_err rfl fun d2 n2 => bad rfl d2 _ (Same.put s' n) n2⟩
    match i with
    | 0 => exact EM.tG
    | _ + 1 => exact EM.tP
  | @non t sg h G =>
    refine ⟨_, rfl, _, _, .type "tuple", .type "tuple", true, rfl, .ty "tuple", .base (.tup h), kit_ty (by decide +kernel), true, rfl, ?_⟩
    refine ⟨_, rfl, t, _, rfl, .inr (SqT.of h), rfl, _, rfl, ?_⟩
    refine iteNS rfl ?_
    refine ⟨rfl, _, rfl, t, _, _, _, rfl, rfl, SqT.of h, atI_nat (j := 0) rfl, _, rfl, t, _, _, _, rfl, rfl, SqT.of h, atI_nat (j := 1) rfl, fun kd dxk hx hdx ne => ?_⟩
    have ha : Sor H (.str (S sg)) := .inl ⟨sg, rfl, ⟨by have := G.few; rw [S_len, sizeLine_eq]; omega, sok G⟩⟩
    refine ⟨H, kd, dxk, .str (S sg), .non, none, rfl, ha, .one .non, .ok rfl G (fun z => absurd rfl z), Same.new' (Same.new' (Same.refl H) hdx) hx, hx, upd_same, fun _ H3 sg0 sg' ps0 ps' s3 es G0 way psg so pps po K3 => ⟨rfl, ?_⟩, fun i' v' e => by cases e⟩
    have low := G.low
    obtain ⟨dx3, t3, b3, e1, e2⟩ := id K3
    refine ⟨_, rfl, kd, dx3, _, rfl, e1, kd, sg', ps', rfl, K3, fun q t2 H4 hq s4 g1 g2 => ⟨_, rfl, ?_⟩⟩
    injection es with es
    have es := S_inj es
    subst es
    have ez : ps0 = allP sg := by
      rcases way with ⟨_, e⟩ | ⟨_, e, _⟩
      · exact e
      · cases e
    have o1 : PyData.strOk (S sg') = true := ok_codes fun c hc => by have := low c (psg.mem_iff.mp hc); omega
    have o0 : PyData.strOk (S sg) = true := sok G
    have o2 : ∀ z ∈ ps', PyData.strOk z = true := fun z hz => pok G (fun z hz => allP_mem.mp hz) z (by rw [← ez]; exact pps.mem_iff.mp hz)
    refine ⟨.tuple [.str (S sg'), .tuple (ps'.map PyData.str)], .tuple [.str (S sg), .none], .tup (SqT.of g1) (.cons (.str _) (.cons (.tup (SqT.of g2) (dp_strs ps')) .nil)), .tup (SqT.of (s4 _ _ (s3 _ _ h))) (.cons (.str _) (.cons .non .nil)), sh_row o1 o2, sh_rowN o0, ?_⟩
    rw [eqv_rowN]
    exact ⟨_, rfl, iteT ⟨_, rfl, fun dx n => fin (s3.trans s4) rfl dx n⟩⟩
  | @row t t1 sg ps h h1 G Gp =>
    refine ⟨_, rfl, _, _, .type "tuple", .type "tuple", true, rfl, .ty "tuple", .base (.tup h), kit_ty (by decide +kernel), true, rfl, ?_⟩
    refine ⟨_, rfl, t, _, rfl, .inr (SqT.of h), rfl, _, rfl, ?_⟩
    refine iteNS rfl ?_
    refine ⟨rfl, _, rfl, t, _, _, _, rfl, rfl, SqT.of h, atI_nat (j := 0) rfl, _, rfl, t, _, _, _, rfl, rfl, SqT.of h, atI_nat (j := 1) rfl, fun kd dxk hx hdx ne => ?_⟩
    have ha : Sor H (.str (S sg)) := .inl ⟨sg, rfl, ⟨by have := G.few; rw [S_len, sizeLine_eq]; omega, sok G⟩⟩
    have wh : Lg.Wh H (.ref t1) := .tup h1 (by rw [List.length_map]; have := Gp.few; omega) (fun y hy => by
      obtain ⟨z, hz, rfl⟩ := List.mem_map.mp hy
      obtain ⟨a, b, _, _, rfl⟩ := Gp.of z hz
      exact .one (.str (by rw [S_len, sizeLine_eq]; show 2 ≤ _; decide))) fun y hy z e => by
      obtain ⟨z', hz, rfl⟩ := List.mem_map.mp hy
      injection e with e
      rw [← e]
      exact pok G Gp.of _ hz
    have pw : prW H sg (.ref t1) = none := prW_good h1 Gp
    refine ⟨H, kd, dxk, .str (S sg), .ref t1, none, rfl, ha, wh, .ok rfl G (fun _ => pw), Same.new' (Same.new' (Same.refl H) hdx) hx, hx, upd_same, fun _ H3 sg0 sg' ps0 ps' s3 es G0 way psg so pps po K3 => ⟨rfl, ?_⟩, fun i' v' e => by cases e⟩
    have low := G.low
    obtain ⟨dx3, t3, b3, e1, e2⟩ := id K3
    refine ⟨_, rfl, kd, dx3, _, rfl, e1, kd, sg', ps', rfl, K3, fun q t2 H4 hq s4 g1 g2 => ⟨_, rfl, ?_⟩⟩
    injection es with es
    have es := S_inj es
    subst es
    have ez : ps0 = ps := by
      rcases way with ⟨e, _⟩ | ⟨t', e, e', _⟩
      · cases e
      · cases e
        rw [h1] at e'
        injection e' with e'
        injection e' with e'
        exact (str_map_inj e').symm
    subst ez
    have o1 : PyData.strOk (S sg') = true := ok_codes fun c hc => by have := low c (psg.mem_iff.mp hc); omega
    have o0 : PyData.strOk (S sg) = true := sok G
    have q2 := pok G Gp.of
    have o2 : ∀ z ∈ ps', PyData.strOk z = true := fun z hz => q2 z (pps.mem_iff.mp hz)
    refine ⟨.tuple [.str (S sg'), .tuple (ps'.map PyData.str)], .tuple [.str (S sg), .tuple (ps0.map PyData.str)], .tup (SqT.of g1) (.cons (.str _) (.cons (.tup (SqT.of g2) (dp_strs ps')) .nil)), .tup (SqT.of (s4 _ _ (s3 _ _ h))) (.cons (.str _) (.cons (.tup (SqT.of (s4 _ _ (s3 _ _ h1))) (dp_strs ps0)) .nil)), sh_row o1 o2, sh_row o0 q2, ?_⟩
    rw [eqv_row]
    by_cases both : S sg' = S sg ∧ ps' = ps0
    · obtain ⟨y1, y2⟩ := both
      rw [decide_eq_true y1, decide_eq_true y2]
      have y1 := S_inj y1
      subst y1
      subst y2
      refine ⟨_, rfl, ?_⟩
      refine iteF ⟨_, rfl, ?_⟩
      exact good (by rw [so, po] <;> rfl) _ H4 (s3.trans s4)
    · have e : (decide (S sg' = S sg) && decide (ps' = ps0)) = false := by
        rw [← Bool.decide_and, decide_eq_false both]
      rw [e]
      have bf : (PyProof.Rows.sortedS (sg.map sOne) && PyProof.Rows.sortedS ps0) = false := by
        cases q1 : PyProof.Rows.sortedS (sg.map sOne) with
        | false => rfl
        | true =>
          cases q2 : PyProof.Rows.sortedS ps0 with
          | false => rfl
          | true => exact absurd ⟨congrArg S (sg_same so q1 psg (.refl _)), sorted_same po q2 pps⟩ both
      exact ⟨_, rfl, iteT ⟨_, rfl, fun dx n => fin (s3.trans s4) bf dx n⟩⟩
end
end Ke
/-! _law_heard of kinds and their rows, refused or not -/
namespace Ke
open PySem L2 PySem.Spec PyProof.Rows WbMin WbO WbT WbS Lz Wb Le Lk
open Lg
abbrev sRfHeard : Stmt := top 48
abbrev NHr : List Str := ["_law_act", "_law_kept", "_law_word", "e"]
theorem scHr : FnScope NHr ["_law_act"] (defScope sRfHeard) := ⟨rfl, rfl, rfl, by decide +kernel, rfl, by decide +kernel, by decide +kernel⟩
/-- which error is whose -/
structure TakesR (K : PySem.W.Frag) (B : KE') (cR : Addr) : Prop where
  gg : PySem.W.exmOne K (.ref B.cG) (.ref B.cG) = some true
  pg : PySem.W.exmOne K (.ref B.cP) (.ref B.cG) = some false
  pp : PySem.W.exmOne K (.ref B.cP) (.ref B.cP) = some true
  rg : PySem.W.exmOne K (.ref cR) (.ref B.cG) = some false
  rp : PySem.W.exmOne K (.ref cR) (.ref B.cP) = some false
  rr : PySem.W.exmOne K (.ref cR) (.ref cR) = some true
def wdR : Nat → Str
  | 0 => "signs"
  | 1 => "pairs"
  | _ => "row"
/-- the class of an error and what it keeps as what -/
def clR (B : KE') (cR : Addr) : Nat → Addr × Str
  | 0 => (B.cG, "given")
  | 1 => (B.cP, "index")
  | _ => (cR, "given")
def TellR (K : PySem.W.Frag) (H : Hp) (wd : Str) (d : PyData) (Q : VK) : Prop := ∀ (a : Addr) (H' : Hp), H a = none → Same H H' → Dp K (New H H') (.ref a) (.list [.str wd, d]) → Q (.ref a) H'
def TTR (K : PySem.W.Frag) (B : KE') (cR : Addr) : Lk.Act → Hp → VK → Prop := fun act H Q =>
  ((∀ (E : XK) (k : VK), (∀ v H', Same H H' → k v H') → act E H k) ∧ TellR K H "nothing" (plainD .none) Q) ∨
    ∃ (i : Nat) (x : V) (d : PyData), Thing H 7 x d ∧ (∀ (E : XK) (k : VK), FailsN E (clR B cR i).1 (clR B cR i).2 x H → act E H k) ∧ TellR K H (wdR i) d Q
def tSuiteR (wd : Str) (C : Addr) (g : Str) : Suite := fun r cl dd => tSeq (tPar 2 1 (tCons (tC (.str wd)) (tCons (tXf r cl dd C g (tVar 3)) tNil))) tNext
set_option maxHeartbeats 2000000 in
theorem hears_ref {X : Cx} {B : KE'} {cR fR : Addr} {dR : FuncData} {q : Str} {k : Nat} {g fF : Addr} {dF : FuncData} {cdg : Value} (DF : Def X.K X.mg "_law_face" sFace ["_law_thing"] fF dF) (Z : FreeT X.mg) (D : ErM X.K X.mg B cR fR dR) (M : TakesR X.K B cR) (k8 : 8 ≤ k) : Hears2 X NHr "_law_heard" (defScope sRfHeard) g cdg (defBody sRfHeard) "_law_act" q k (TTR X.K B cR) := by
  have GF : FnOk X.prog X.w X.K X.mg X.base CX0 8 fF dF ["_law_thing"] (spFace X.K 7) := ok_face DF Z 7
  intro f c s H Q act hr0 call hc tt
  have hr : Room 8 (X.A.deeper (PyProof.Rows.envOfC "_law_heard" (defScope sRfHeard) s.heap.objs.size g cdg)) := hr0.mono k8
  refine ⟨_, pss_cons (ps_set (i := 1) scHr.nd rfl (.inl rfl) pe_non)
    (pss_cons (ps_tryCls2 (l := [(.ref B.cG, 3, tSuiteR "signs" B.cG "given"), (.ref B.cP, 3, tSuiteR "pairs" B.cP "index"), (.ref cR, 3, tSuiteR "row" cR "given")]) rfl rfl scHr.nd
        (fun W pn xe tk own => pss_cons (ps_expr (call W pn xe _ _ tk)) (pss_one (ps_set (i := 2) scHr.nd rfl (.inl rfl) pe_str)))
        (.as_ (n := "e") (i := 3) rfl rfl ⟨rfl, by decide, .inl D.er.EG.g⟩ (fun r o cl dd pn z hf warm => pss_one (ps_par1 (i := 2) (j := 1) warm scHr.nd rfl rfl (by decide) rfl rfl (pa_cons pe_str (pa_cons (pe_xf D.er.EG.xf D.er.EG.no z hf (pv 3)) pa_nil)) (by rfl)))
        (.as_ (n := "e") (i := 3) rfl rfl ⟨rfl, by decide, .inl D.er.EP.g⟩ (fun r o cl dd pn z hf warm => pss_one (ps_par1 (i := 2) (j := 1) warm scHr.nd rfl rfl (by decide) rfl rfl (pa_cons pe_str (pa_cons (pe_xf D.er.EP.xf D.er.EP.no z hf (pv 3)) pa_nil)) (by rfl)))
        (.as_ (n := "e") (i := 3) rfl rfl ⟨rfl, by decide, .inl D.ER.g⟩ (fun r o cl dd pn z hf warm => pss_one (ps_par1 (i := 2) (j := 1) warm scHr.nd rfl rfl (by decide) rfl rfl (pa_cons pe_str (pa_cons (pe_xf D.ER.xf D.ER.no z hf (pv 3)) pa_nil)) (by rfl)))
        (.rest _)))))
    (pss_one (ps_ret (pe_lst (pa_cons (pv 2) (pa_cons (pe_call GF hr rfl DF.g DF.kp DF.b .nil pass0 (pa_cons (pv 1) pa_nil)) pa_nil)))))), ?_⟩
  have last : ∀ (wd : Str) (x : V) (d : PyData) (G : Hp) (y : Option V), Same H G → Thing G 7 x d → TellR X.K H wd d Q → tRet (tLst (tCons (tVar 2) (tCons (tCall (spFace X.K 7) [] E0 (tCons (tVar 1) tNil)) tNil))) { nx := fun _ H' => Q .non H', rt := Q } [some (.ref f), some x, some (.str wd), y] G := fun wd x d G y s1 th told => by
    refine ⟨_, rfl, _, rfl, x, d, rfl, th, fun b G1 hb s2 d2 => ⟨(by show 2 ≤ sizeLine; decide), fun a ha => ?_⟩⟩
    have s3 := s1.trans s2
    refine told a _ (free_of s3 ha) (Same.new2 s3 (free_of s3 ha)) (.lst (SqL.of ((New.at (free_of s3 ha)).trans upd_same)) (.cons (.str _) (.cons (Dp.stay (New.mono fun c u h1 h2 => ⟨free_of s1 h1, ?_⟩) d2) .nil)))
    rw [upd_ne (ne_of_none h2 ha)]
    exact h2
  refine ⟨rfl, ?_⟩
  rcases tt with ⟨run, told⟩ | ⟨i, x, d, th, run, told⟩
  · refine ⟨hc, run _ _ fun v H' s1 => ?_⟩
    exact last _ _ _ _ none s1 (.inl .non) told
  · refine ⟨hc, run _ _ fun dx H' s1 n => ?_⟩
    have s2 : Same H (upd H' dx (.xd [((clR B cR i).2, x)])) := Same.new2 s1 (free_of s1 n)
    have fin := fun y => last _ _ _ _ y s2 (th.same s2) told
    have hx : (upd H' dx (.xd [((clR B cR i).2, x)])) dx = some (.xd [((clR B cR i).2, x)]) := upd_same
    generalize upd H' dx (.xd [((clR B cR i).2, x)]) = G at fin hx ⊢
    have suite : ∀ (r C : Addr) (wd g : Str), wd = wdR i → (C, g) = clR B cR i → G r = none → tSuiteR wd C g r (.ref C) (some dx) (offD { nx := fun σ' H'' => tRet (tLst (tCons (tVar 2) (tCons (tCall (spFace X.K 7) [] E0 (tCons (tVar 1) tNil)) tNil))) { nx := fun _ H' => Q .non H', rt := Q } σ' H'', rt := Q } 3) [some (.ref f), some .non, none, some (.ref r)] G := by
      rintro r C wd g rfl eg _
      rw [← eg] at hx
      exact ⟨_, rfl, rfl, rfl, dx, _, x, rfl, hx, List.lookup_cons_self, _, _, rfl, fin none⟩
    match i, suite with
    | 0, suite => exact ⟨true, M.gg, fun _ r nr => suite r B.cG "signs" "given" rfl rfl nr, fun z => by cases z⟩
    | 1, suite => exact ⟨false, M.pg, (fun z => by cases z), fun _ => ⟨true, M.pp, fun _ r nr => suite r B.cP "pairs" "index" rfl rfl nr, fun z => by cases z⟩⟩
    | i + 2, suite => exact ⟨false, M.rg, (fun z => by cases z), fun _ => ⟨false, M.rp, (fun z => by cases z), fun _ => ⟨true, M.rr, fun _ r nr => suite r cR "row" "given" rfl rfl nr, fun z => by cases z⟩⟩⟩
end Ke
/-! _law_states_due, _law_yes_due of values of any sort -/
namespace Lg
open PySem L2 WbMin WbS Lz Wb
def lstO : Option V → List V
  | none => []
  | some v => [v]
def DueQ (H : Hp) (o : Option V) (Q : VK) : Prop := ∀ (a : Addr) (H' : Hp), H a = none → Same H H' → H' a = some (.lst (lstO o)) → Q (.ref a) H'
theorem DueQ.later {H H' : Hp} {o : Option V} {Q : VK} (h : DueQ H o Q) (s : Same H H') : DueQ H' o Q := fun a H2 n s2 e => h a H2 (free_of s n) (s.trans s2) e
theorem DueQ.put {H : Hp} {o : Option V} {Q : VK} (h : DueQ H o Q) {a : Addr} (n : H a = none) : Q (.ref a) (upd H a (.lst (lstO o))) := h a _ n (Same.put (Same.refl H) n) upd_same
section
variable {X : Cx}
end
section
variable {P : Program} {w : World} {K : PySem.W.Frag} {mg : Str → Option Value} {base : Heap} {f fN : Addr} {fd dN : FuncData}
end
end Lg
/-! _law_due: what a kind's signs and pairs are owed -/
namespace Ke
open PySem L2 PySem.Spec PyProof.Rows WbMin WbS Lz Wb Le
open Lg
abbrev sRfDue : Stmt := top 50
abbrev NDu : List Str := ["_law_abc", "_law_some", "_law_at"]
theorem scDu9 : FnScope NDu ["_law_abc", "_law_some"] (defScope sRfDue) := ⟨rfl, rfl, rfl, by decide +kernel, rfl, by decide +kernel, by decide +kernel⟩
/-- a value of any sort; what it holds, if it is a tuple, is of known sorts too -/
def Pv (H : Hp) (x : V) : Prop := Odd1 H x ∨ ∃ (t : Addr) (xs : List V), x = .ref t ∧ H t = some (.tup xs) ∧ xs.length ≤ 99 ∧ ∀ y ∈ xs, TopS H y ∧ Sor H y ∧ ∀ z, y = .str z → PyData.strOk z = true
theorem Pv.wh {H : Hp} {x : V} (h : Pv H x) : Lg.Wh H x := by
  rcases h with h | ⟨t, xs, rfl, h, few, r⟩
  · exact .one h
  · exact .tup h few (fun y hy => (r y hy).1) fun y hy => (r y hy).2.2
theorem Pv.same {H H' : Hp} {x : V} (h : Pv H x) (s : Same H H') : Pv H' x := by
  rcases h with h | ⟨t, xs, rfl, h, few, r⟩
  · exact .inl (h.same s)
  · exact .inr ⟨t, xs, rfl, s _ _ h, few, fun y hy => ⟨(r y hy).1.same s, (r y hy).2.1.same s, (r y hy).2.2⟩⟩
theorem pv_wh {H : Hp} {x : V} (h : Lg.Wh H x) : Pv H x := by
  cases h with
  | one h => exact .inl h
  | tup h few r c => exact .inr ⟨_, _, rfl, h, few, fun y hy => ⟨r y hy, sor_so (r y hy).so (c y hy), c y hy⟩⟩
def wdO : Option (Nat × V) → Str
  | none => "nothing"
  | some (i, _) => wdR i
/-- the face of what the error keeps -/
def kpO (d : PyData) : Option (Nat × V) → PyData
  | none => plainD .none
  | some (0, _) => d
  | some (_, .int i) => plainD (.int i)
  | some (_, _) => plainD .none
def spKDue9 (K : PySem.W.Frag) : Sp := fun vs H Q _ => ∃ (x0 x1 : V) (d : PyData) (o : Option (Nat × V)), vs = [x0, x1] ∧ Sor H x0 ∧ Thing H 7 x0 d ∧ Lg.Wh H x1 ∧ KDue H x0 x1 o ∧ TellR K H (wdO o) (kpO d o) Q
theorem kdue_two {H : Hp} {x0 x1 : V} {o : Option (Nat × V)} (h : KDue H x0 x1 o) : (signsB x0 = false ∧ o = some (0, x0)) ∨ ∃ sg, x0 = .str (S sg) ∧ Sgs sg ∧ ((x1 = .non ∧ o = none) ∨ (x1 ≠ .non ∧ o = (prW H sg x1).map fun v => (1, v))) := by
  cases h with
  | sg h => exact .inl ⟨h, rfl⟩
  | pr h G nn e => exact .inr ⟨_, h, G, .inr ⟨nn, by rw [e] <;> rfl⟩⟩
  | ok h G e =>
    by_cases nn : x1 = .non
    · exact .inr ⟨_, h, G, .inl ⟨nn, rfl⟩⟩
    · exact .inr ⟨_, h, G, .inr ⟨nn, by rw [e nn] <;> rfl⟩⟩
section
variable {sg : List Nat} {xs : List V} {i : Nat}
theorem pr_hit (hi : i < xs.length) (h : badAt (xs.map (prK sg)) i = true) (pre : ∀ j, j < i → badAt (xs.map (prK sg)) j = false) : prR sg xs = some (.int (i : Nat)) := by
  unfold prR
  rw [fwO_hit (by rw [List.length_map]; exact hi) h pre]
theorem pr_none (pre : ∀ j, j < xs.length → badAt (xs.map (prK sg)) j = false) : prR sg xs = none := by
  unfold prR
  rw [fwO_none fun j hj => pre j (by rw [List.length_map] at hj; exact hj)]
theorem pair_good {a b : Nat} (G : Sgs sg) (ha : a ∈ sg) (hb : b ∈ sg) : goodW sg (.str (S [a, b])) = true := by
  rw [goodW_S, Bool.and_eq_true, List.all_eq_true]
  refine ⟨isWB_iff.mpr ⟨fun c hc => ?_, by show 0 < 2; decide, by show 2 ≤ 600; decide⟩, fun c hc => decide_eq_true ?_⟩
  · rcases List.mem_cons.mp hc with rfl | hc
    · exact G.low _ ha
    · rw [List.mem_singleton.mp hc]
      exact G.low _ hb
  · rcases List.mem_cons.mp hc with rfl | hc
    · exact ha
    · rw [List.mem_singleton.mp hc]
      exact hb
theorem prK_pair {a b : Nat} (ha : a ∈ sg) (hb : b ∈ sg) : prK sg (.str (S [a, b])) = some (S [a, b]) := by
  show (if pairL sg (S [a, b]).cps.toList = true then some (S [a, b]) else none) = _
  rw [S_cps]
  show (if (decide (a ∈ sg) && decide (b ∈ sg)) = true then some (S [a, b]) else none) = _
  rw [decide_eq_true ha, decide_eq_true hb] <;> rfl
theorem prK_bad {v : V} (G : Sgs sg) (h : goodW sg v = false) : prK sg v = none := by
  cases e : prK sg v with
  | none => rfl
  | some z =>
    obtain ⟨rfl, q⟩ := prK_eq e
    match hl : z.cps.toList, q with
    | [a, b], q =>
      have q : (decide (a ∈ sg) && decide (b ∈ sg)) = true := q
      rw [Bool.and_eq_true, decide_eq_true_iff, decide_eq_true_iff] at q
      rw [S_eq hl, pair_good G q.1 q.2] at h
      cases h
theorem prK_long {l : List Nat} (h : l.length ≠ 2) : prK sg (.str (S l)) = none := by
  show (if pairL sg (S l).cps.toList = true then some (S l) else none) = _
  rw [S_cps]
  have e : pairL sg l = false := by
    match l, h with
    | [], _ => rfl
    | [_], _ => rfl
    | [_, _], h => exact absurd rfl h
    | _ :: _ :: _ :: _, _ => rfl
  rw [e] <;> rfl
end
section
variable {P : Program} {w : World} {K : PySem.W.Frag} {mg : Str → Option Value} {base : Heap} {f fF fB fW : Addr} {fd dF dB dW : FuncData}
set_option maxHeartbeats 4000000 in
theorem ok_rfdue (F : Fun K "_law_due" "_law_due" sRfDue f fd) (Z : Free mg) (ZT : FreeT mg) (DF : Def K mg "_law_face" sFace ["_law_thing"] fF dF) (DB : Def K mg "_law_bad_signs" sBadSigns ["_law_abc"] fB dB) (DW : Def K mg "_law_is_word" sLIsWord ["_law_thing", "_law_abc"] fW dW) : FnOk P w K mg base CX0 9 f fd ["_law_abc", "_law_some"] (spKDue9 K) := by
  have GF : FnOk P w K mg base CX0 8 fF dF ["_law_thing"] (spFace K 7) := ok_face DF ZT 7
  have GB : FnOk P w K mg base CX0 2 fB dB ["_law_abc"] spBadSignsS := ok_badsignsS DB.F Z DW
  have GW : FnOk P w K mg base CX0 1 fW dW ["_law_thing", "_law_abc"] spLIsWordS := ok_liswordS DW.F Z
  refine F.ok scDu9 (fun vs H Q E h => by obtain ⟨x0, x1, d, o, rfl, _⟩ := h; rfl) (fun cdv A outer s H vs Q E hr h => ?_)
  obtain ⟨x0, x1, d, o, rfl, ha, th, wh1, due, k⟩ := h
  have pv1 := pv_wh wh1
  have hrB : Room 2 _ := hr.mono (by decide)
  have hrW : Room 1 _ := hr.mono (by decide)
  have hrF : Room 8 _ := hr
  refine ⟨_, pss_cons (ps_if (pt_val (pe_call GB hrB rfl DB.g DB.kp DB.b .nil pass0 (pa_cons (pv 0) pa_nil))) (pss_one (ps_ret (pe_lst (pa_cons pe_str (pa_cons (pe_call GF hrF rfl DF.g DF.kp DF.b .nil pass0 (pa_cons (pv 0) pa_nil)) pa_nil))))) pss_nil)
    (pss_cons (ps_if (pt_cmpR op_isN (pv 1) pe_non (nomark _)) (pss_one (ps_ret (pe_lst (pa_cons pe_str (pa_cons (pe_call GF hrF rfl DF.g DF.kp DF.b .nil pass0 (pa_cons pe_non pa_nil)) pa_nil))))) pss_nil)
    (pss_cons (ps_if (pt_not (pt_val (pe_callB call_isi (by rfl) Z.isi (by decide +kernel) (pa_cons (pv 1) (pa_cons (pe_bltn (v := .ty "tuple") (u := .type "tuple") (by rfl) ZT.tup (by decide +kernel) rfl) pa_nil))))) (pss_one (ps_ret (pe_lst (pa_cons pe_str (pa_cons (pe_call GF hrF rfl DF.g DF.kp DF.b .nil pass0 (pa_cons pe_non pa_nil)) pa_nil))))) pss_nil)
    (pss_cons (ps_for PassesOwn.never rfl (pi_range1 (by rfl) Z.range (pa_cons (pe_callB call_len_seq (by rfl) Z.len PySem.boot_len (pa_cons (pv 1) pa_nil)) pa_nil)) (pg_name (i := 2) scDu9.nd rfl (.inl rfl))
      (pss_one (ps_if (PW.pt (pw_or (pt_not (pt_val (pe_call GW hrW rfl DW.g DW.kp DW.b .nil pass0 (pa_cons (pe_ix ix_tup (pv 1) (pv 2) (fun _ _ => rfl)) (pa_cons (pv 0) pa_nil)))))
          (pw_or (pt_cmpR op_ne (pe_callB call_len_str (by rfl) Z.len PySem.boot_len (pa_cons (pe_ix ix_tup (pv 1) (pv 2) (fun _ _ => rfl)) pa_nil)) pe_int (nomark _)) (pw_or1 (pt_cmpR op_in_seq (pe_ix ix_tup (pv 1) (pv 2) (fun _ _ => rfl)) (pe_slice sl_tup (pv 1) po_none (po_some (pv 2))) (by rfl))))))
        (pss_one (ps_ret (pe_lst (pa_cons pe_str (pa_cons (pe_call GF hrF rfl DF.g DF.kp DF.b .nil pass0 (pa_cons (pv 2) pa_nil)) pa_nil))))) pss_nil)))
    (pss_one (ps_ret (pe_lst (pa_cons pe_str (pa_cons (pe_call GF hrF rfl DF.g DF.kp DF.b .nil pass0 (pa_cons pe_non pa_nil)) pa_nil)))))))), ?_⟩
  have fin : ∀ (wd : Str) (dv : PyData) (G : Hp), Same H G → TellR K H wd dv Q → ∀ (b : Addr) (G1 : Hp), G b = none → Same G G1 → Dp K (New G G1) (.ref b) dv → ∀ a, G1 a = none → Q (.ref a) (upd G1 a (.lst [.str wd, .ref b])) := fun wd dv G s1 told b G1 _ s2 d2 a ha => by
    have s3 := s1.trans s2
    refine told a _ (free_of s3 ha) (Same.new2 s3 (free_of s3 ha)) (.lst (SqL.of ((New.at (free_of s3 ha)).trans upd_same)) (.cons (.str _) (.cons (Dp.stay (New.mono fun c u h1 h2 => ⟨free_of s1 h1, ?_⟩) d2) .nil)))
    rw [upd_ne (ne_of_none h2 ha)]
    exact h2
  have non7 : ∀ {G : Hp}, Thing G 7 .non (plainD .none) := .inl .non
  refine ⟨_, rfl, x0, rfl, ha, fun H1 s1 => ?_⟩
  rcases kdue_two due with ⟨h, rfl⟩ | ⟨sg, rfl, G, way⟩
  · rw [h]
    refine ⟨true, rfl, _, rfl, _, d, rfl, th.same s1, fun b G3 hb s3 d3 => ⟨(by show 2 ≤ sizeLine; decide), fun c hc => ?_⟩⟩
    exact fin _ _ H1 s1 k b G3 hb s3 d3 c hc
  rw [signsB_S, sgnB_iff.mpr G]
  refine ⟨false, rfl, ?_⟩
  refine ⟨_, rfl, rfl, _, rfl, ?_⟩
  rcases way with ⟨rfl, rfl⟩ | ⟨nn, eo⟩
  · rw [decide_eq_true rfl]
    exact iteT ⟨.non, _, rfl, non7, fun b G3 hb s3 d3 => ⟨(by show 2 ≤ sizeLine; decide), fun c hc => fin _ _ H1 s1 k b G3 hb s3 d3 c hc⟩⟩
  rw [decide_eq_false nn]
  refine iteF ?_
  rcases pv1 with ho | ⟨t, xs, rfl, ht, few, r⟩
  · rw [prW_one ho] at eo
    subst eo
    obtain ⟨ty, h1, h2⟩ := odd1_tup K (ho.same s1)
    refine ⟨_, rfl, _, _, ty, .type "tuple", false, rfl, .ty "tuple", h1, h2, false, rfl, ?_⟩
    refine ⟨.non, _, rfl, non7, fun b G3 hb s3 d3 => ⟨(by show 2 ≤ sizeLine; decide), fun c hc => ?_⟩⟩
    exact fin _ _ H1 s1 k b G3 hb s3 d3 c hc
  rw [prW_tup ht] at eo
  have ret1 : ∀ {i : Nat} {H' : Hp}, Same H H' → (prR sg xs = some (.int (i : Nat))) → TellR K H "pairs" (plainD (.int (i : Nat))) Q := fun {i H'} s e => by
    rw [e] at eo
    subst eo
    exact k
  refine ⟨_, rfl, _, _, .type "tuple", .type "tuple", true, rfl, .ty "tuple", .base (.tup (s1 _ _ ht)), kit_ty (by decide +kernel), true, rfl, ?_⟩
  have big : (xs.length : Int) ≤ 99 := by exact_mod_cast few
  refine ⟨_, rfl, t, _, rfl, .inr (SqT.of (s1 _ _ ht)), _, rfl, by omega, by omega, for_it walk_range (fun i σ H' => ∃ v2 : Option V, σ = [some (.str (S sg)), some (.ref t), v2] ∧ Same H H' ∧ ∀ j, j < i → badAt (xs.map (prK sg)) j = false) ⟨none, rfl, s1, fun j hj => absurd hj (Nat.not_lt_zero j)⟩ (fun _ _ _ _ _ => trivial) ?_ ?_⟩
  · rintro i x σ H2 H3 hi ⟨v1, rfl, s2, pre⟩ ex
    obtain ⟨rfl, rfl⟩ := ex
    have hx : xs[i]? = some xs[i] := List.getElem?_eq_getElem hi
    have mx : xs[i] ∈ xs := List.getElem_mem hi
    rw [show (fun i : Nat => V.int (0 + (i : Int))) i = V.int (i : Int) from congrArg V.int (Int.zero_add _)]
    have out : ∀ {H4 : Hp}, Same H H4 → badAt (xs.map (prK sg)) i = true → ∀ b (G3 : Hp), H4 b = none → Same H4 G3 → Dp K (New H4 G3) (.ref b) (plainD (.int (i : Nat))) → ∀ c, G3 c = none → Q (.ref c) (upd G3 c (.lst [.str "pairs", .ref b])) := fun {H4} s4 bd b G3 hb s3 d3 c hc => fin _ _ H4 s4 (ret1 s4 (pr_hit hi bd pre)) b G3 hb s3 d3 c hc
    have leaf : ∀ {G : Hp}, Thing G 7 (.int (i : Nat)) (plainD (.int (i : Nat))) := .inl (.int _)
    refine ⟨_, rfl, _, rfl, t, _, _, _, rfl, rfl, SqT.of (s2 _ _ ht), atI_nat hx, _, rfl, xs[i], sg, rfl, ((r _ mx).2.1).same s2, fun c hc => G.low c hc, fun H4 s4 => ?_⟩
    have s24 := s2.trans s4
    have hl : (xs.map (prK sg))[i]? = some (prK sg xs[i]) := by rw [List.getElem?_map, hx] <;> rfl
    cases eg : goodW sg xs[i] with
    | false =>
      rw [prK_bad G eg] at hl
      exact ⟨false, rfl, _, rfl, _, _, rfl, leaf, fun b G3 hb s3 d3 => ⟨(by show 2 ≤ sizeLine; decide), fun c hc => out s24 (badAt_non hl) b G3 hb s3 d3 c hc⟩⟩
    | true =>
      obtain ⟨l, el, tl⟩ : ∃ l, xs[i] = .str (S l) ∧ Tz l := by
        rcases (r _ mx).2.1 with h | ⟨j, h⟩ | n
        · exact h
        · rw [h] at eg
          cases eg
        · rw [n.good] at eg
          cases eg
      rw [el] at hl eg hx
      refine ⟨true, rfl, _, rfl, _, rfl, t, _, _, _, rfl, rfl, SqT.of (s24 _ _ ht), atI_nat hx, _, rfl, tl.fits, rfl, _, rfl, ?_⟩
      refine ite2 (fun q => ?_) (fun q => ?_)
      · have ne : l.length ≠ 2 := fun e => by
          rw [S_len, e] at q
          exact absurd q (by decide)
        rw [prK_long ne] at hl
        exact ⟨_, rfl, _, _, rfl, leaf, fun b G3 hb s3 d3 => ⟨(by show 2 ≤ sizeLine; decide), fun c hc => out s24 (badAt_non hl) b G3 hb s3 d3 c hc⟩⟩
      · have l2 : l.length = 2 := by
          by_cases e : l.length = 2
          · exact e
          · exact absurd (by
              rw [S_len]
              show (!decide (V.int (l.length : Nat) = V.int 2)) = true
              rw [decide_eq_false (fun y => e (by injection y with y; exact_mod_cast y))] <;> rfl) q
        obtain ⟨a, b, rfl⟩ : ∃ a b, l = [a, b] := by
          match l, l2 with
          | [a, b], _ => exact ⟨a, b, rfl⟩
        have mem : ∀ c ∈ [a, b], c ∈ sg := fun c hc => by
          rw [goodW_S, Bool.and_eq_true, List.all_eq_true] at eg
          exact of_decide_eq_true (eg.2 c hc)
        rw [prK_pair (mem a List.mem_cons_self) (mem b (List.mem_cons_of_mem _ List.mem_cons_self))] at hl
        obtain ⟨ks, k1, k2, k3⟩ := fw_pre (l := xs.map (prK sg)) (i := i) (by rw [List.length_map]; omega) fun j hj => pre j hj
        have kt := key_map (fun v z h => (prK_eq (sg := sg) h).1) xs
        refine ⟨_, rfl, _, rfl, t, _, _, _, rfl, rfl, SqT.of (s24 _ _ ht), atI_nat hx, _, rfl, _, rfl, _, rfl, t, _, rfl, SqT.of (s24 _ _ ht), ?_, fun u hu => ?_⟩
        · rintro ⟨_, q⟩
          rw [HT.sIx_nat] at q
          omega
        · rw [cut_take (Nat.le_of_lt hi), kt.take k1 k2]
          refine ⟨u, _, rfl, .inr (SqT.of upd_same), rfl, Wb.flat_strs _, _, rfl, ?_⟩
          have ebad : badAt (xs.map (prK sg)) i = inV (.str (S [a, b])) (ks.map V.str) := by rw [inV_strs, badAt_some hl, k2, mem_some]
          rw [← ebad]
          have s5 := Same.put (o := .tup (ks.map V.str)) s24 hu
          cases eb2 : badAt (xs.map (prK sg)) i with
          | true => exact iteT ⟨_, rfl, _, _, rfl, leaf, fun b G3 hb s3 d3 => ⟨(by show 2 ≤ sizeLine; decide), fun c hc => out s5 eb2 b G3 hb s3 d3 c hc⟩⟩
          | false =>
            refine iteF ⟨_, rfl, s5, fun j hj => ?_⟩
            rcases Nat.lt_succ_iff_lt_or_eq.mp hj with hj | rfl
            · exact pre j hj
            · exact eb2
  · rintro σ H2 ⟨v1, rfl, s2, pre⟩
    have e : o = none := by
      rw [pr_none pre] at eo
      exact eo
    subst e
    exact ⟨.non, _, rfl, non7, fun b G3 hb s3 d3 => ⟨(by show 2 ≤ sizeLine; decide), fun c hc => fin _ _ H2 s2 k b G3 hb s3 d3 c hc⟩⟩
end
end Ke
/-! an odd value: one of 27 -/
namespace Wb
open PySem L2 WbMin WbS
abbrev sLOdd : Stmt := top 43
def Val (p : Addr) (H : Hp) (x : V) : Prop := ∃ d, Any p H x d
theorem cut_at {H : Hp} {a p : Addr} (n : a ≠ p) : cut H p a = H a := if_neg n
theorem Val.non {p : Addr} {H : Hp} : Val p H .non := ⟨_, .inl .non, (fun z e => by cases e), (fun i e => by cases e), by decide +kernel, by decide +kernel⟩
theorem Val.bl {p : Addr} {H : Hp} (b : Bool) : Val p H (.bl b) := ⟨_, .inl (.bl b), (fun z e => by cases e), (fun i e => by cases e), by cases b <;> decide +kernel, by cases b <;> decide +kernel⟩
theorem int_layH (c : Int) : (plainD (.int c)).canLay0 = true := by
  show ((PyData.strOk "plain") && (true && true)) = true
  have e : PyData.strOk "plain" = true := by decide +kernel
  rw [e] <;> rfl
theorem strF_layH {z : Str} (h : PyData.strOk z = true) : (plainD (.str z)).canLay0 = true := by
  show ((PyData.strOk "plain") && (PyData.strOk z && true)) = true
  have e : PyData.strOk "plain" = true := by decide +kernel
  rw [e, h] <;> rfl
theorem Val.int {p : Addr} {H : Hp} {i : Int} (h : i < 2 ^ 1000) : Val p H (.int i) := ⟨_, .inl (.int i), (fun z e => by cases e), (fun j e => by cases e; exact h), int_layH i, (by show 1 ≤ 60; decide)⟩
theorem Val.str {p : Addr} {H : Hp} {l : List Nat} (h : Tx l) : Val p H (.str (S l)) := ⟨_, .inl (.str _), (fun z e => by cases e; exact ⟨l, rfl, h⟩), (fun i e => by cases e), strF_layH (ok_codes fun c hc => by have := h.cod c hc; omega), (by show 1 ≤ 60; decide)⟩
theorem Val.lit {p : Addr} {H : Hp} {z : Str} (l : List Nat) (e : z.cps.toList = l) (h1 : l.length ≤ 2000) (h2 : ∀ c ∈ l, c < 1000) : Val p H (.str z) := by
  rw [S_eq e]
  exact .str ⟨h1, h2⟩
theorem Val.of {p a : Addr} {H : Hp} (h : ∃ d, Thing (cut H p) 5 (.ref a) d ∧ d.canLay0 = true ∧ PyData.depth d ≤ 60) : Val p H (.ref a) := ⟨h.choose, h.choose_spec.1, (fun z e => by cases e), (fun i e => by cases e), h.choose_spec.2⟩
theorem keepA {H : Hp} {a b : Addr} {o u : HO} (h : H a = some o) (n : H b = none) : upd H b u a = some o := (upd_ne (ne_of_none h n)).trans h
theorem keep5 {H : Hp} {e f g t L x : Addr} {o u1 u2 u3 u4 u5 u6 : HO} (h : H x = some o) (he : H e = none) (hf : upd H e u1 f = none) (hg : upd (upd H e u1) f u2 g = none) (ht : upd (upd (upd (upd H e u1) f u2) g u3) e u4 t = none)
    (hL : upd (upd (upd (upd (upd H e u1) f u2) g u3) e u4) t u5 L = none) : upd (upd (upd (upd (upd (upd H e u1) f u2) g u3) e u4) t u5) L u6 x = some o :=
  keepA (keepA ((upd_ne (ne_of_none h he)).trans (keepA (keepA (keepA h he) hf) hg)) ht) hL
theorem int_lt {d m : Int} (h0 : 0 ≤ d) (h1 : d < m) : ∃ j : Nat, d = (j : Int) ∧ (j : Int) < m := ⟨d.toNat, by omega, by omega⟩
section
variable {P : Program} {w : World} {K : PySem.W.Frag} {mg : Str → Option Value} {base : Heap} {f fD fW : Addr} {fd fdD dW : FuncData}
theorem scOdA : FnScope ["_law_pool_here", "_law_way"] ["_law_pool_here"] (defScope sLOdd) := ⟨rfl, rfl, rfl, by decide +kernel, rfl, by decide +kernel, by decide +kernel⟩
end
end Wb
/-! an odd value, told by its sort alone -/
namespace Lg
open PySem L2 WbMin WbS Wb
abbrev sLOdd : Stmt := top 43
/-- a value of any sort, the pool p no part of it -/
def ValS (p : Addr) (H : Hp) (x : V) : Prop := TopS (cut H p) x
theorem ValS.but {p : Addr} {H H' : Hp} {x : V} (h : ValS p H x) (b : But p H H') : ValS p H' x := TopS.same h (cut_but b)
theorem ValS.same {p : Addr} {H H' : Hp} {x : V} (h : ValS p H x) (s : Same H H') : ValS p H' x := TopS.same h (cut_same s)
theorem ValS.top {p : Addr} {H : Hp} {x : V} (h : ValS p H x) : TopS H x := TopS.same h (cutH_to fun _ _ _ e => e)
theorem ValS.non {p : Addr} {H : Hp} : ValS p H .non := .one .non
theorem ValS.bl {p : Addr} {H : Hp} (b : Bool) : ValS p H (.bl b) := .one (.bl b)
theorem ValS.int {p : Addr} {H : Hp} {i : Int} (_ : i < 2 ^ 1000) : ValS p H (.int i) := .one (.int i)
theorem ValS.lit {p : Addr} {H : Hp} {z : Str} (l : List Nat) (e : z.cps.toList = l) (h1 : l.length ≤ 2000) (_ : ∀ c ∈ l, c < 1000) : ValS p H (.str z) := by
  rw [S_eq e]
  refine .one (.str ?_)
  rw [S_len, sizeLine_eq]
  omega
theorem cut_at {H : Hp} {a p : Addr} (n : a ≠ p) : cut H p a = H a := if_neg n
theorem keepA {H : Hp} {a b : Addr} {o u : HO} (h : H a = some o) (n : H b = none) : upd H b u a = some o := (upd_ne (ne_of_none h n)).trans h
theorem keep5 {H : Hp} {e f g t L x : Addr} {o u1 u2 u3 u4 u5 u6 : HO} (h : H x = some o) (he : H e = none) (hf : upd H e u1 f = none) (hg : upd (upd H e u1) f u2 g = none) (ht : upd (upd (upd (upd H e u1) f u2) g u3) e u4 t = none)
    (hL : upd (upd (upd (upd (upd H e u1) f u2) g u3) e u4) t u5 L = none) : upd (upd (upd (upd (upd (upd H e u1) f u2) g u3) e u4) t u5) L u6 x = some o :=
  keepA (keepA ((upd_ne (ne_of_none h he)).trans (keepA (keepA (keepA h he) hf) hg)) ht) hL
theorem int_lt {d m : Int} (h0 : 0 ≤ d) (h1 : d < m) : ∃ j : Nat, d = (j : Int) ∧ (j : Int) < m := ⟨d.toNat, by omega, by omega⟩
section
variable {P : Program} {w : World} {K : PySem.W.Frag} {mg : Str → Option Value} {base : Heap} {f fD fW : Addr} {fd fdD dW : FuncData}
end
end Lg
/-! _law_is_step, _law_is_end (posts a tuple); _law_rows_due, _law_ends_due -/
namespace Lg
open PySem L2 WbMin WbS Lz Wb
section
variable {P : Program} {w : World} {K : PySem.W.Frag} {mg : Str → Option Value} {base : Heap} {f fS fR fT fO fI fW : Addr} {fd dS dR dT dO dI dW : FuncData}
end
end Lg
/-! _law_rows_due, _law_ends_due of values of any sort -/
namespace Lg
open PySem L2 WbMin WbS Lz Wb
section
variable {P : Program} {w : World} {K : PySem.W.Frag} {mg : Str → Option Value} {base : Heap} {f fN fW : Addr} {fd dN dW : FuncData}
end
end Lg
/-! _law_loop_due of values of any sort -/
namespace Lg
open PySem L2 WbMin WbS Lz Wb
section
variable {H : Hp} {x v : V} {st : List Str} {sg : List Nat}
end
section
variable {P : Program} {w : World} {K : PySem.W.Frag} {mg : Str → Option Value} {base : Heap} {f fB fS fR fT fY fF fN fW fP fE fLW : Addr} {fd dB dS dR dT dY dF dN dW dP dE dLW : FuncData}
end
end Lg
/-! the first wrong part: there is one answer; parts left out are as empty tuples -/
namespace Lg
open PySem L2 WbMin WbS Lz Wb
section
variable {K : PySem.W.Frag} {H : Hp} {sV tV rV uV yV : V} {p : Addr} {d : PyData}
end
end Lg
/-! an odd value: its face, its sort and what its tuples hold, all at once -/
namespace Lj
open PySem L2 WbMin WbS Wb
open Lg hiding int_lt keepA keep5 cut_at sLOdd
/-- a value of any sort, the pool p no part of it: its face, its sort -/
theorem new_but {p : Addr} {H0 H H' : Hp} (b : But p H H') : But p (New H0 H) (New H0 H') := fun a o n h => by
  obtain ⟨h1, h2⟩ := New.inv h
  rw [New.at h1]
  exact b _ _ n h2
theorem new_same {H0 H H' : Hp} (s : Same H H') : Same (New H0 H) (New H0 H') := fun a o h => by
  obtain ⟨h1, h2⟩ := New.inv h
  rw [New.at h1]
  exact s _ _ h2
/-- what is new in H since H0, the pool p no part of it: a value's face, its sort -/
def ValW (p : Addr) (H0 H : Hp) (x : V) : Prop := (∃ d, Any p (New H0 H) x d) ∧ Lg.Wh (cut H p) x ∧ TopS (cut H p) x ∧ ∀ z, x = .str z → PyData.strOk z = true
theorem ValW.but {p : Addr} {H0 H H' : Hp} {x : V} (h : ValW p H0 H x) (b : But p H H') : ValW p H0 H' x := ⟨⟨_, h.1.choose_spec.but (new_but b)⟩, h.2.1.same (cut_but b), h.2.2.1.same (cut_but b), h.2.2.2⟩
theorem ValW.same {p : Addr} {H0 H H' : Hp} {x : V} (h : ValW p H0 H x) (s : Same H H') : ValW p H0 H' x := ⟨⟨_, h.1.choose_spec.same (new_same s)⟩, h.2.1.same (cut_same s), h.2.2.1.same (cut_same s), h.2.2.2⟩
theorem ValW.non {p : Addr} {H0 H : Hp} : ValW p H0 H .non := ⟨Val.non, .one .non, .one .non, fun z e => by cases e⟩
theorem ValW.bl {p : Addr} {H0 H : Hp} (b : Bool) : ValW p H0 H (.bl b) := ⟨Val.bl b, .one (.bl b), .one (.bl b), fun z e => by cases e⟩
theorem ValW.int {p : Addr} {H0 H : Hp} {i : Int} (h : i < 2 ^ 1000) : ValW p H0 H (.int i) := ⟨Val.int h, .one (.int i), .one (.int i), fun z e => by cases e⟩
theorem ValW.str {p : Addr} {H0 H : Hp} {l : List Nat} (h : Tx l) : ValW p H0 H (.str (S l)) := ⟨Val.str h, .one (.str h.fits), .one (.str h.fits), fun z e => by
  injection e with e
  rw [← e]
  exact ok_codes fun c hc => by have := h.cod c hc; omega⟩
theorem ValW.lit {p : Addr} {H0 H : Hp} {z : Str} (l : List Nat) (e : z.cps.toList = l) (h1 : l.length ≤ 2000) (h2 : ∀ c ∈ l, c < 1000) : ValW p H0 H (.str z) := by
  rw [S_eq e]
  exact .str ⟨h1, h2⟩
theorem ValW.lstW {p a : Addr} {H0 H : Hp} {xs : List V} (e : cut H p a = some (.lst xs)) (h : ∃ d, Thing (cut (New H0 H) p) 5 (.ref a) d ∧ d.canLay0 = true ∧ PyData.depth d ≤ 60) : ValW p H0 H (.ref a) := ⟨Val.of h, .one (.lst e), .one (.lst e), fun z e => by cases e⟩
theorem ValW.dkW {p a : Addr} {H0 H : Hp} {xs : List (Key × V)} (e : cut H p a = some (.dK xs)) (h : ∃ d, Thing (cut (New H0 H) p) 5 (.ref a) d ∧ d.canLay0 = true ∧ PyData.depth d ≤ 60) : ValW p H0 H (.ref a) := ⟨Val.of h, .one (.dK e), .one (.dK e), fun z e => by cases e⟩
theorem ValW.tupW {p a : Addr} {H0 H : Hp} {xs : List V} (e : cut H p a = some (.tup xs)) (l : xs.length ≤ 9) (so : ∀ y ∈ xs, Odd1 (cut H p) y) (c : ∀ y ∈ xs, ∀ z, y = .str z → PyData.strOk z = true) (h : ∃ d, Thing (cut (New H0 H) p) 5 (.ref a) d ∧ d.canLay0 = true ∧ PyData.depth d ≤ 60) : ValW p H0 H (.ref a) :=
  ⟨Val.of h, .tup e (by omega) (fun y hy => .one (so y hy)) c, .tup e l (fun y hy => .one (so y hy)), fun z e => by cases e⟩
section
variable {P : Program} {w : World} {K : PySem.W.Frag} {mg : Str → Option Value} {base : Heap} {f fD fW : Addr} {fd fdD dW : FuncData}
end
end Lj
/-! an odd value, and that the things of its tuple are no tuples -/
namespace Ke
open PySem L2 WbMin WbS Wb Lj
open Lg hiding int_lt keepA keep5 cut_at sLOdd
/-- a tuple of no tuples, or no tuple -/
def Flat (H : Hp) (x : V) : Prop := Odd1 H x ∨ ∃ (t : Addr) (xs : List V), x = .ref t ∧ H t = some (.tup xs) ∧ ∀ y ∈ xs, Odd1 H y
theorem Flat.same {H H' : Hp} {x : V} (h : Flat H x) (s : Same H H') : Flat H' x := by
  rcases h with h | ⟨t, xs, e, h, r⟩
  · exact .inl (h.same s)
  · exact .inr ⟨t, xs, e, s _ _ h, fun y hy => (r y hy).same s⟩
def ValO (p : Addr) (H0 H : Hp) (x : V) : Prop := ValW p H0 H x ∧ Flat (cut H p) x
theorem ValO.but {p : Addr} {H0 H H' : Hp} {x : V} (h : ValO p H0 H x) (b : But p H H') : ValO p H0 H' x := ⟨h.1.but b, h.2.same (cut_but b)⟩
theorem ValO.same {p : Addr} {H0 H H' : Hp} {x : V} (h : ValO p H0 H x) (s : Same H H') : ValO p H0 H' x := ⟨h.1.same s, h.2.same (cut_same s)⟩
theorem ValO.non {p : Addr} {H0 H : Hp} : ValO p H0 H .non := ⟨.non, .inl .non⟩
theorem ValO.bl {p : Addr} {H0 H : Hp} (b : Bool) : ValO p H0 H (.bl b) := ⟨.bl b, .inl (.bl b)⟩
theorem ValO.int {p : Addr} {H0 H : Hp} {i : Int} (h : i < 2 ^ 1000) : ValO p H0 H (.int i) := ⟨.int h, .inl (.int i)⟩
theorem ValO.str {p : Addr} {H0 H : Hp} {l : List Nat} (h : Tx l) : ValO p H0 H (.str (S l)) := ⟨.str h, .inl (.str h.fits)⟩
theorem ValO.lit {p : Addr} {H0 H : Hp} {z : Str} (l : List Nat) (e : z.cps.toList = l) (h1 : l.length ≤ 2000) (h2 : ∀ c ∈ l, c < 1000) : ValO p H0 H (.str z) := by
  rw [S_eq e]
  exact .str ⟨h1, h2⟩
theorem ValO.lstW {p a : Addr} {H0 H : Hp} {xs : List V} (e : cut H p a = some (.lst xs)) (h : ∃ d, Thing (cut (New H0 H) p) 5 (.ref a) d ∧ d.canLay0 = true ∧ PyData.depth d ≤ 60) : ValO p H0 H (.ref a) := ⟨.lstW e h, .inl (.lst e)⟩
theorem ValO.dkW {p a : Addr} {H0 H : Hp} {xs : List (Key × V)} (e : cut H p a = some (.dK xs)) (h : ∃ d, Thing (cut (New H0 H) p) 5 (.ref a) d ∧ d.canLay0 = true ∧ PyData.depth d ≤ 60) : ValO p H0 H (.ref a) := ⟨.dkW e h, .inl (.dK e)⟩
theorem ValO.tupW {p a : Addr} {H0 H : Hp} {xs : List V} (e : cut H p a = some (.tup xs)) (l : xs.length ≤ 9) (so : ∀ y ∈ xs, Odd1 (cut H p) y) (c : ∀ y ∈ xs, ∀ z, y = .str z → PyData.strOk z = true) (h : ∃ d, Thing (cut (New H0 H) p) 5 (.ref a) d ∧ d.canLay0 = true ∧ PyData.depth d ≤ 60) : ValO p H0 H (.ref a) := ⟨.tupW e l so c h, .inr ⟨a, xs, rfl, e, so⟩⟩
def spOddO : Sp := fun vs H Q _ => ∃ p : Addr, vs = [.ref p] ∧ PoolAt H p ∧ ∀ (x : V) (H' : Hp), ValO p H H' x → PoolAt H' p → But p H H' → Q x H'
section
variable {P : Program} {w : World} {K : PySem.W.Frag} {mg : Str → Option Value} {base : Heap} {f fD fW : Addr} {fd fdD dW : FuncData}
set_option maxHeartbeats 0 in
theorem ok_oddO (F : Fun K "_law_odd" "_law_odd" Wb.sLOdd f fd) (D : Def K mg "_law_draw" sDraw ["_law_pool_here", "_law_many"] fD fdD) (Z : Free mg) : FnOk P w K mg base CX0 2 f fd ["_law_pool_here"] spOddO := by
  have G : FnOk P w K mg base CX0 1 fD fdD ["_law_pool_here", "_law_many"] spDraw := ok_draw D.F Z.int Z.divmod
  refine F.ok Wb.scOdA (fun vs H Q E h => ?_) (fun cdv A outer s H vs Q E hr h => ?_)
  · obtain ⟨p, rfl, _⟩ := h
    rfl
  · obtain ⟨p, rfl, hp, k⟩ := h
    refine ⟨_, pss_cons (ps_set (i := 1) Wb.scOdA.nd rfl (.inl rfl) (pe_call G hr rfl D.g D.kp D.b .nil pass0 (pa_cons (pv 0) (pa_cons pe_int pa_nil))))
      (pss_cons (ps_if (pt_cmpR op_lt (pv 1) pe_int (nomark _)) (pss_one (ps_ret (pe_ix ix_list (pe_lst (pa_cons pe_non (pa_cons pe_bl (pa_cons pe_bl (pa_cons pe_int (pa_cons pe_int (pa_cons (pe_un un_neg pe_int) (pa_cons pe_int (pa_cons pe_int (pa_cons pe_int (pa_cons (pe_op op_pow pe_int pe_int) (pa_cons (pe_un un_neg (pe_op op_pow pe_int pe_int)) pa_nil)))))))))))) (pv 1) (fun _ _ => rfl)))) pss_nil)
      (pss_cons (ps_if (pt_cmpR op_lt (pv 1) pe_int (nomark _)) (pss_one (ps_ret (pe_ix ix_list (pe_lst (pa_cons pe_str (pa_cons pe_str (pa_cons pe_str (pa_cons pe_str (pa_cons pe_str (pa_cons pe_str (pa_cons pe_str (pa_cons pe_str pa_nil))))))))) (pe_op op_sub (pv 1) pe_int) (fun _ _ => rfl)))) pss_nil)
      (pss_cons (ps_if (pt_cmpR op_lt (pv 1) pe_int (nomark _)) (pss_one (ps_ret (pe_ix ix_list (pe_lst (pa_cons (pe_lst pa_nil) (pa_cons (pe_lst (pa_cons pe_str pa_nil)) (pa_cons pe_dnewK (pa_cons (pe_disp (pps_cons pe_str pe_int pps_nil) (by rfl) (by rfl) (fun z => by cases z) (by decide)) pa_nil))))) (pe_op op_sub (pv 1) pe_int) (fun _ _ => rfl)))) pss_nil)
      (pss_one (ps_ret (pe_ix ix_list (pe_lst (pa_cons (pe_tup pa_nil) (pa_cons (pe_tup (pa_cons pe_str pa_nil)) (pa_cons (pe_tup (pa_cons pe_int (pa_cons pe_int pa_nil))) (pa_cons (pe_tup (pa_cons (pe_lst pa_nil) (pa_cons (pe_disp (pps_cons pe_str (pe_tup (pa_cons pe_int (pa_cons (pe_lst pa_nil) pa_nil))) pps_nil) (by rfl) (by rfl) (fun z => by cases z) (by decide)) pa_nil))) pa_nil))))) (pe_op op_sub (pv 1) pe_int) (fun _ _ => rfl))))))), ?_⟩
    have pw : CPow 10 38 := by refine ⟨?_, ?_, ?_⟩ <;> decide
    refine ⟨_, rfl, p, _, rfl, by decide, by decide, hp, fun d H1 d0 d1 hp1 b1 => ?_⟩
    obtain ⟨j, rfl, j1⟩ := int_lt d0 d1
    have nil : ∀ {H' : Hp}, ∀ x ∈ ([] : List V), ValO p H H' x := fun x hx => nomatch hx
    have vc : ∀ {H' : Hp} {y : V} {ys : List V}, ValO p H H' y → (∀ x ∈ ys, ValO p H H' x) → ∀ x ∈ y :: ys, ValO p H H' x := fun h1 h2 x hx => by
      rcases List.mem_cons.mp hx with rfl | hx
      · exact h1
      · exact h2 x hx
    have fin : ∀ {H' : Hp} {L : Addr} {xs : List V} {i : Int} {n : Nat}, H' L = some (.lst xs) → i = (n : Int) → n < xs.length → (∀ x ∈ xs, ValO p H H' x) → PoolAt H' p → But p H H' → rIxL K (.ref L) (.int i) H' Q := fun {H' L xs i n} hL ei hn hv hp' hb' => by
      subst ei
      obtain ⟨x, hx⟩ : ∃ x, xs[n]? = some x := ⟨_, List.getElem?_eq_getElem hn⟩
      exact ⟨L, xs, _, x, rfl, rfl, SqL.of hL, atI_nat hx, k x H' (hv x (List.mem_of_getElem? hx)) hp' hb'⟩
    refine ⟨_, rfl, _, _, rfl, rfl, _, rfl, ite2 (fun q => ?_) (fun q => ?_)⟩
    · have q' : j < 11 := by have := of_decide_eq_true q; omega
      refine ⟨_, rfl, _, _, rfl, rfl, pw, _, _, rfl, rfl, pw, _, rfl, (by show 11 ≤ sizeLine; decide), fun L hL => ⟨_, rfl, ?_⟩⟩
      have nL := hp1.ne hL
      refine fin upd_same rfl (by show j < 11; exact q') (vc .non (vc (.bl _) (vc (.bl _) (vc (.int ?_) (vc (.int ?_) (vc (.int ?_) (vc (.int ?_) (vc (.int ?_) (vc (.int ?_) (vc (.int ?_) (vc (.int ?_) nil))))))))))) (hp1.put nL) (b1.upd hL)
      all_goals decide +kernel
    have q1 : 11 ≤ j := by
      have z : ¬ ((j : Int) < 11) := fun z => q (decide_eq_true z)
      omega
    refine ⟨_, rfl, _, _, rfl, rfl, _, rfl, ite2 (fun r => ?_) (fun r => ?_)⟩
    · have r' : j < 19 := by have := of_decide_eq_true r; omega
      refine ⟨(by show 8 ≤ sizeLine; decide), fun L hL => ⟨_, rfl, _, _, rfl, rfl, ?_⟩⟩
      have nL := hp1.ne hL
      refine fin (n := j - 11) upd_same (by omega) (by show j - 11 < 8; omega) ?_ (hp1.put nL) (b1.upd hL)
      refine vc (ValO.lit [] ?_ (by decide) (by decide)) (vc (ValO.lit [97] ?_ (by decide) (by decide)) (vc (ValO.lit [97, 98] ?_ (by decide) (by decide)) (vc (ValO.lit [65] ?_ (by decide) (by decide)) (vc (ValO.lit [97, 32, 98] ?_ (by decide) (by decide)) (vc (ValO.lit [97, 97] ?_ (by decide) (by decide)) (vc (ValO.lit [97, 10] ?_ (by decide) (by decide)) (vc (ValO.lit [97, 98, 99, 100, 101] ?_ (by decide) (by decide)) nil))))))) <;> decide +kernel
    have r1 : 19 ≤ j := by
      have z : ¬ ((j : Int) < 19) := fun z => r (decide_eq_true z)
      omega
    refine ⟨_, rfl, _, _, rfl, rfl, _, rfl, ite2 (fun u => ?_) (fun u => ?_)⟩
    · have u' : j < 23 := by have := of_decide_eq_true u; omega
      refine ⟨(by show 0 ≤ sizeLine; decide), fun a ha => ⟨(by show 1 ≤ sizeLine; decide), fun b hb => fun c hc => fun d hd => ⟨upd_same, [(Sum.inr "a", .int 1)], rfl, by decide, (by show 4 ≤ sizeLine; decide), fun L hL => ⟨_, rfl, _, _, rfl, rfl, ?_⟩⟩⟩⟩
      have na := hp1.ne ha
      have p2 := hp1.put (o := .lst []) na
      have nb := p2.ne hb
      have p3 := p2.put (o := .lst [.str "a"]) nb
      have nc := p3.ne hc
      have p4 := p3.put (o := .dK []) nc
      have nd := p4.ne hd
      have p5 := (p4.put (o := .dK []) nd).put (o := .dK (mergeK [] [(Sum.inr "a", .int 1)])) nd
      have q2 := b1.upd (o := .lst []) ha
      have q3 := q2.upd (o := .lst [.str "a"]) hb
      have q4 := q3.upd (o := .dK []) hc
      have za := b1.free ha na
      have zb := q2.free hb nb
      have zc := q3.free hc nc
      have zd := q4.free hd nd
      have nL := p5.ne hL
      have d1 := ((((But.refl p _).upd (o := .lst []) ha).upd (o := .lst [.str "a"]) hb).upd (o := .dK []) hc).free hd nd
      have fa := keepA (u := .lst [.ref a, .ref b, .ref c, .ref d]) ((upd_ne (o := .dK (mergeK [] [(Sum.inr "a", .int 1)])) (ne_of_none (keepA (u := .dK []) (keepA (u := .lst [.str "a"]) upd_same hb) hc) hd)).trans (keepA (u := .dK []) (keepA (u := .dK []) (keepA (u := .lst [.str "a"]) (upd_same (o := .lst [])) hb) hc) hd)) hL
      have fb := keepA (u := .lst [.ref a, .ref b, .ref c, .ref d]) ((upd_ne (o := .dK (mergeK [] [(Sum.inr "a", .int 1)])) (ne_of_none (keepA (u := .dK []) upd_same hc) hd)).trans (keepA (u := .dK []) (keepA (u := .dK []) (upd_same (o := .lst [.str "a"])) hc) hd)) hL
      have fc := keepA (u := .lst [.ref a, .ref b, .ref c, .ref d]) ((upd_ne (o := .dK (mergeK [] [(Sum.inr "a", .int 1)])) (ne_of_none upd_same hd)).trans (keepA (u := .dK []) (upd_same (o := .dK [])) hd)) hL
      have fd' := keepA (u := .lst [.ref a, .ref b, .ref c, .ref d]) (upd_same (o := .dK (mergeK [] [(Sum.inr "a", .int 1)]))) hL
      have kH := ((((((b1.upd (o := .lst []) ha).upd (o := .lst [.str "a"]) hb).upd (o := .dK []) hc).upd (o := .dK []) hd).new (o := .dK (mergeK [] [(Sum.inr "a", .int 1)])) (b1.free d1 nd)).upd (o := .lst [.ref a, .ref b, .ref c, .ref d]) hL)
      refine fin (n := j - 19) upd_same (by omega) (by show j - 19 < 4; omega) (vc ?_ (vc ?_ (vc ?_ (vc ?_ nil)))) (p5.put nL) kH
      · exact .lstW ((cut_at na).trans fa) ⟨_, .inr (.inl ⟨a, [], [], rfl, (cut_at na).trans ((New.at za).trans fa), by decide, .nil, rfl⟩), by decide +kernel, by decide +kernel⟩
      · exact .lstW ((cut_at nb).trans fb) ⟨_, .inr (.inl ⟨b, [.str "a"], [_], rfl, (cut_at nb).trans ((New.at zb).trans fb), by decide, .cons (.inl (.str _)) .nil, rfl⟩), by decide +kernel, by decide +kernel⟩
      · exact .dkW ((cut_at nc).trans fc) ⟨_, .inr (.inr (.inr ⟨c, [], [], [], rfl, (cut_at nc).trans ((New.at zc).trans fc), .nil, rfl, by decide, .nil, rfl⟩)), by decide +kernel, by decide +kernel⟩
      · exact .dkW ((cut_at nd).trans fd') ⟨_, .inr (.inr (.inr ⟨d, ["a"], [.int 1], [_], rfl, (cut_at nd).trans ((New.at zd).trans fd'), by decide, rfl, by decide, .cons (.inl (.int _)) .nil, rfl⟩)), by decide +kernel, by decide +kernel⟩
    · have u1 : 23 ≤ j := by
        have z : ¬ ((j : Int) < 23) := fun z => u (decide_eq_true z)
        omega
      refine ⟨(by show 0 ≤ sizeLine; decide), fun a ha => ⟨(by show 1 ≤ sizeLine; decide), fun b hb => ⟨(by show 2 ≤ sizeLine; decide), fun c hc => ⟨(by show 0 ≤ sizeLine; decide), fun d hd => fun e he => ⟨(by show 0 ≤ sizeLine; decide), fun f hf => ⟨(by show 2 ≤ sizeLine; decide), fun g hg => ?_⟩⟩⟩⟩⟩⟩
      have na := hp1.ne ha
      have p2 := hp1.put (o := .tup []) na
      have nb := p2.ne hb
      have p3 := p2.put (o := .tup [.str "a"]) nb
      have nc := p3.ne hc
      have p4 := p3.put (o := .tup [.int 0, .int 1]) nc
      have nd := p4.ne hd
      have p5 := p4.put (o := .lst []) nd
      have ne := p5.ne he
      have p6 := p5.put (o := .dK []) ne
      have nf := p6.ne hf
      have p7 := p6.put (o := .lst []) nf
      have ng := p7.ne hg
      have p8 := (p7.put (o := .tup [.int 1, .ref f]) ng).put (o := .dK (mergeK [] [(Sum.inr "a", .ref g)])) ne
      have eE : upd (upd (upd _ e (.dK [])) f (.lst [])) g (.tup [.int 1, .ref f]) e = some (.dK []) := keepA (keepA upd_same hf) hg
      refine ⟨eE, [(Sum.inr "a", .ref g)], rfl, (by show 1 ≤ 15; decide), (by show 2 ≤ sizeLine; decide), fun t ht => ⟨(by show 4 ≤ sizeLine; decide), fun L hL => ⟨_, rfl, _, _, rfl, rfl, ?_⟩⟩⟩
      have nt := p8.ne ht
      have p9 := p8.put (o := .tup [.ref d, .ref e]) nt
      have q2 := b1.upd (o := .tup []) ha
      have q3 := q2.upd (o := .tup [.str "a"]) hb
      have q4 := q3.upd (o := .tup [.int 0, .int 1]) hc
      have q5 := q4.upd (o := .lst []) hd
      have q6 := q5.upd (o := .dK []) he
      have q7 := q6.upd (o := .lst []) hf
      have q8 := q7.upd (o := .tup [.int 1, .ref f]) hg
      have za := b1.free ha na
      have zb := q2.free hb nb
      have zc := q3.free hc nc
      have zd := q4.free hd nd
      have ze := q5.free he ne
      have zf := q6.free hf nf
      have zg := q7.free hg ng
      have zt := (q8.new (o := .dK (mergeK [] [(Sum.inr "a", .ref g)])) ze).free ht nt
      have nL := p9.ne hL
      have e1 := (((((But.refl p _).upd (o := .tup []) ha).upd (o := .tup [.str "a"]) hb).upd (o := .tup [.int 0, .int 1]) hc).upd (o := .lst []) hd).free he ne
      have kH := ((((((((((b1.upd (o := .tup []) ha).upd (o := .tup [.str "a"]) hb).upd (o := .tup [.int 0, .int 1]) hc).upd (o := .lst []) hd).upd (o := .dK []) he).upd (o := .lst []) hf).upd (o := .tup [.int 1, .ref f]) hg).new (o := .dK (mergeK [] [(Sum.inr "a", .ref g)])) (b1.free e1 ne)).upd (o := .tup [.ref d, .ref e]) ht)).upd (o := .lst [.ref a, .ref b, .ref c, .ref t]) hL
      have ef := ne_of_none (upd_same (o := .dK [])) hf
      have eg := ne_of_none (keepA (u := .lst []) (upd_same (o := .dK [])) hf) hg
      have xa := keep5 (u6 := .lst [.ref a, .ref b, .ref c, .ref t]) (keepA (u := .lst []) (keepA (u := .tup [.int 0, .int 1]) (keepA (u := .tup [.str "a"]) (upd_same (o := .tup [])) hb) hc) hd) he hf hg ht hL
      have xb := keep5 (u6 := .lst [.ref a, .ref b, .ref c, .ref t]) (keepA (u := .lst []) (keepA (u := .tup [.int 0, .int 1]) (upd_same (o := .tup [.str "a"])) hc) hd) he hf hg ht hL
      have xc := keep5 (u6 := .lst [.ref a, .ref b, .ref c, .ref t]) (keepA (u := .lst []) (upd_same (o := .tup [.int 0, .int 1])) hd) he hf hg ht hL
      have xd := keep5 (u6 := .lst [.ref a, .ref b, .ref c, .ref t]) (upd_same (o := .lst [])) he hf hg ht hL
      have xe := keepA (u := .lst [.ref a, .ref b, .ref c, .ref t]) (keepA (u := .tup [.ref d, .ref e]) (upd_same (o := .dK (mergeK [] [(Sum.inr "a", .ref g)]))) ht) hL
      have xf := keepA (u := .lst [.ref a, .ref b, .ref c, .ref t]) (keepA (u := .tup [.ref d, .ref e]) ((upd_ne (o := .dK (mergeK [] [(Sum.inr "a", .ref g)])) ef.symm).trans (keepA (u := .tup [.int 1, .ref f]) (upd_same (o := .lst [])) hg)) ht) hL
      have xg := keepA (u := .lst [.ref a, .ref b, .ref c, .ref t]) (keepA (u := .tup [.ref d, .ref e]) ((upd_ne (o := .dK (mergeK [] [(Sum.inr "a", .ref g)])) eg.symm).trans (upd_same (o := .tup [.int 1, .ref f]))) ht) hL
      have xt := keepA (u := .lst [.ref a, .ref b, .ref c, .ref t]) (upd_same (o := .tup [.ref d, .ref e])) hL
      refine fin (n := j - 23) upd_same (by omega) (by show j - 23 < 4; omega) (vc ?_ (vc ?_ (vc ?_ (vc ?_ nil)))) (p9.put nL) kH
      · exact .tupW ((cut_at na).trans xa) (by decide) (fun y hy => nomatch hy) (fun y hy => nomatch hy) ⟨_, .inr (.inr (.inl ⟨a, [], [], rfl, (cut_at na).trans ((New.at za).trans xa), by decide, .nil, rfl⟩)), by decide +kernel, by decide +kernel⟩
      · exact .tupW ((cut_at nb).trans xb) (by decide) (fun y hy => by
          rw [List.mem_singleton.mp hy]
          exact .str (by decide +kernel)) (fun y hy z e => by
          rw [List.mem_singleton.mp hy] at e
          injection e with e
          rw [← e]
          decide +kernel) ⟨_, .inr (.inr (.inl ⟨b, [.str "a"], [_], rfl, (cut_at nb).trans ((New.at zb).trans xb), by decide, .cons (.inl (.str _)) .nil, rfl⟩)), by decide +kernel, by decide +kernel⟩
      · exact .tupW ((cut_at nc).trans xc) (by decide) (fun y hy => by
          rcases List.mem_cons.mp hy with rfl | hy
          · exact .int _
          · rw [List.mem_singleton.mp hy]
            exact .int _) (fun y hy z e => by
          rcases List.mem_cons.mp hy with rfl | hy
          · cases e
          · rw [List.mem_singleton.mp hy] at e
            cases e) ⟨_, .inr (.inr (.inl ⟨c, [.int 0, .int 1], [_, _], rfl, (cut_at nc).trans ((New.at zc).trans xc), by decide, .cons (.inl (.int _)) (.cons (.inl (.int _)) .nil), rfl⟩)), by decide +kernel, by decide +kernel⟩
      · exact .tupW ((cut_at nt).trans xt) (by show 2 ≤ 9; decide) (fun y hy => by
          rcases List.mem_cons.mp hy with rfl | hy
          · exact .lst ((cut_at nd).trans xd)
          · rw [List.mem_singleton.mp hy]
            exact .dK ((cut_at ne).trans xe)) (fun y hy z q => by
          rcases List.mem_cons.mp hy with rfl | hy
          · cases q
          · rw [List.mem_singleton.mp hy] at q
            cases q) ⟨_, .inr (.inr (.inl ⟨t, [.ref d, .ref e], [_, _], rfl, (cut_at nt).trans ((New.at zt).trans xt), (by show 2 ≤ 1000; decide), .cons (.inr (.inl ⟨d, [], [], rfl, (cut_at nd).trans ((New.at zd).trans xd), by decide, .nil, rfl⟩)) (.cons (.inr (.inr (.inr ⟨e, ["a"], [.ref g], [_], rfl, (cut_at ne).trans ((New.at ze).trans xe), by decide, rfl, (by show 1 ≤ 1000; decide),
          .cons (.inr (.inr (.inl ⟨g, [.int 1, .ref f], [_, _], rfl, (cut_at eg.symm).trans ((cut_at ng).trans ((New.at zg).trans xg)), (by show 2 ≤ 1000; decide), .cons (.inl (.int _)) (.cons (.inr (.inl ⟨f, [], [], rfl, (cut_at ef.symm).trans ((cut_at nf).trans ((New.at zf).trans xf)), by decide, .nil, rfl⟩)) .nil), rfl⟩))) .nil, rfl⟩))) .nil), rfl⟩)), by decide +kernel, by decide +kernel⟩
end
end Ke
/-! t[::-1] of a tuple -/
namespace Lg
open PySem PySem.Spec PyProof.Rows HT
section
variable {prog : Program} {w : World} {A : Around} {E : Value → Shared → Prop} {s : Shared}
end
open L2
section
variable {X : Cx}
end
end Lg
/-! _law_bent: a tuple with one change -/
namespace Lj
open PySem L2 WbMin WbS Wb
open Lg hiding int_lt keepA keep5 cut_at sLOdd
/-- an item of a part -/
def Itm (p : Addr) (H : Hp) (y : V) : Prop := TopS (cut H p) y ∧ ∀ z, y = .str z → PyData.strOk z = true
section
variable {p : Addr} {H H' : Hp} {x : V}
theorem Itm.but (h : Itm p H x) (b : But p H H') : Itm p H' x := ⟨h.1.same (cut_but b), h.2⟩
theorem Itm.same (h : Itm p H x) (s : Same H H') : Itm p H' x := ⟨h.1.same (cut_same s), h.2⟩
end
theorem poolT {H : Hp} {p r : Addr} {xs : List V} (h : PoolAt H p) (e : H r = some (.tup xs)) : r ≠ p := fun z => by
  obtain ⟨a, b, c, q, _⟩ := h
  rw [z, q] at e
  cases e
theorem cat_go {K : PySem.W.Frag} {a b : Addr} {xs ys : List V} {H : Hp} {Q : VK} (ha : H a = some (.tup xs)) (hb : H b = some (.tup ys)) (l : xs.length + ys.length ≤ 1000) (k : ∀ (r : Addr) (H' : Hp), Same H H' → H' r = some (.tup (xs ++ ys)) → Q (.ref r) H') : rCatA K (.ref a) (.ref b) H Q := by
  refine ⟨a, b, xs, ys, rfl, rfl, SqT.of ha, SqT.of hb, by rw [sizeLine_eq]; omega, fun e => ?_, fun _ e => ?_, fun _ _ p hp => ?_⟩
  · exact k b H (Same.refl H) (by rw [e]; exact hb)
  · exact k a H (Same.refl H) (by rw [e, List.append_nil]; exact ha)
  · exact k p _ (Same.put (Same.refl H) hp) upd_same
/-- a tuple of things of one sort -/
def TupG (I : Hp → V → Prop) (H : Hp) (n : Nat) (v : V) : Prop := ∃ a xs, v = .ref a ∧ H a = some (.tup xs) ∧ xs.length ≤ n ∧ ∀ y ∈ xs, I H y
abbrev Tup (p : Addr) : Hp → Nat → V → Prop := TupG (Itm p)
def Mono (I : Hp → V → Prop) : Prop := ∀ (H H' : Hp) (y : V), Same H H' → I H y → I H' y
theorem Tup.but {p : Addr} {H H' : Hp} {n : Nat} {x : V} (hp : PoolAt H p) (h : Tup p H n x) (b : But p H H') : Tup p H' n x := by
  obtain ⟨a, xs, rfl, ha, l, r⟩ := h
  exact ⟨a, xs, rfl, b _ _ (poolT hp ha) ha, l, fun y hy => (r y hy).but b⟩
theorem TupG.same {I : Hp → V → Prop} {H H' : Hp} {n : Nat} {x : V} (mo : Mono I) (h : TupG I H n x) (s : Same H H') : TupG I H' n x := by
  obtain ⟨a, xs, rfl, ha, l, r⟩ := h
  exact ⟨a, xs, rfl, s _ _ ha, l, fun y hy => mo _ _ _ s (r y hy)⟩
theorem TupG.mono {I : Hp → V → Prop} {H : Hp} {n m : Nat} {x : V} (h : TupG I H n x) (l : n ≤ m) : TupG I H m x := by
  obtain ⟨a, xs, rfl, ha, l1, r⟩ := h
  exact ⟨a, xs, rfl, ha, by omega, r⟩
theorem Tup.wh {p : Addr} {H : Hp} {n : Nat} {x : V} (hp : PoolAt H p) (h : Tup p H n x) (l : n ≤ 99) : Lg.Wh (cut H p) x := by
  obtain ⟨a, xs, rfl, ha, l1, r⟩ := h
  exact .tup ((Wb.cut_at (poolT hp ha)).trans ha) (by omega) (fun y hy => (r y hy).1) fun y hy => (r y hy).2
theorem cutV_sub {xs : List V} {lo hi : Option Int} {y : V} (h : y ∈ cutV xs lo hi) : y ∈ xs := List.mem_of_mem_drop (List.mem_of_mem_take h)
theorem cut_one {xs : List V} : (cutV xs none (some (1 : Int))).length ≤ 1 := by
  unfold cutV
  rw [show (some (1 : Int)) = some ((1 : Nat) : Int) from rfl, HT.sIx_nat, HT.sIx_none, List.length_take, List.length_drop]
  omega
section
variable {P : Program} {w : World} {K : PySem.W.Frag} {mg : Str → Option Value} {base : Heap} {f fD : Addr} {fd dD : FuncData} {p : Addr} {H : Hp} {n : Nat} {v u : V} {lo hi : Option Int} {Q : VK} {I : Hp → V → Prop}
/-- a slice of a tuple of items is one -/
theorem slW (mo : Mono I) (h : TupG I H n v) (k : ∀ (r : V) (H' : Hp), Same H H' → TupG I H' n r → Q r H') : rSlA K v lo hi H Q := by
  obtain ⟨a, xs, rfl, ha, l, r⟩ := h
  refine ⟨a, xs, rfl, SqT.of ha, fun _ => k _ H (Same.refl H) ⟨a, xs, rfl, ha, l, r⟩, fun _ q hq => ?_⟩
  have s := Same.put (o := .tup (cutV xs lo hi)) (Same.refl H) hq
  exact k _ _ s ⟨q, _, rfl, upd_same, Nat.le_trans (cutV_length xs lo hi) l, fun y hy => mo _ _ _ s (r y (cutV_sub hy))⟩
theorem slW1 (mo : Mono I) (h : TupG I H n v) (k : ∀ (r : V) (H' : Hp), Same H H' → TupG I H' 1 r → Q r H') : rSlA K v none (some 1) H Q := by
  obtain ⟨a, xs, rfl, ha, l, r⟩ := h
  refine ⟨a, xs, rfl, SqT.of ha, fun w => k _ H (Same.refl H) ⟨a, xs, rfl, ha, ?_, r⟩, fun _ q hq => ?_⟩
  · have q := w.2
    rw [show (some (1 : Int)) = some ((1 : Nat) : Int) from rfl, HT.sIx_nat] at q
    omega
  · have s := Same.put (o := .tup (cutV xs none (some 1))) (Same.refl H) hq
    exact k _ _ s ⟨q, _, rfl, upd_same, cut_one, fun y hy => mo _ _ _ s (r y (cutV_sub hy))⟩
theorem catW {m : Nat} (mo : Mono I) (h : TupG I H n v) (h2 : TupG I H m u) (l : n + m ≤ 1000) (k : ∀ (r : V) (H' : Hp), Same H H' → TupG I H' (n + m) r → Q r H') : rCatA K v u H Q := by
  obtain ⟨a, xs, rfl, ha, la, ra⟩ := h
  obtain ⟨b, ys, rfl, hb, lb, rb⟩ := h2
  refine cat_go ha hb (by omega) fun r H' s hr => k _ H' s ⟨r, _, rfl, hr, by rw [List.length_append]; omega, fun y hy => ?_⟩
  rcases List.mem_append.mp hy with q | q
  · exact mo _ _ _ s (ra y q)
  · exact mo _ _ _ s (rb y q)
theorem oneW {a : Addr} (mo : Mono I) (h : I H v) (ha : H a = none) : TupG I (L2.upd H a (.tup [v])) 1 (.ref a) := ⟨a, _, rfl, upd_same, Nat.le_refl _, fun y hy => by
  rw [List.mem_singleton.mp hy]
  exact mo _ _ _ (Same.put (Same.refl H) ha) h⟩
end
end Lj
/-! _law_spoilt_line: an element of some rows or turns with another value at any place -/
namespace Lj
open PySem L2 WbMin WbS Wb
open Lg hiding int_lt keepA keep5 cut_at sLOdd
/-- a short text or an integer -/
def Lt (y : V) : Prop := (∃ z, y = .str z ∧ PyData.strOk z = true ∧ z.length ≤ 10) ∨ ∃ i, y = .int i
theorem Lt.so {H : Hp} {y : V} (h : Lt y) : So H y := by
  rcases h with ⟨z, rfl, _, f⟩ | ⟨i, rfl⟩
  · exact .one (.str (by rw [sizeLine_eq]; omega))
  · exact .one (.int i)
def litD : V → PyData
  | .str z => .str z
  | .int i => .int i
  | _ => .none
theorem Lt.dp {K : PySem.W.Frag} {H : Hp} {y : V} (h : Lt y) : Dp K H y (litD y) := by
  rcases h with ⟨z, rfl, _, f⟩ | ⟨i, rfl⟩
  · exact .str z
  · exact .int i
theorem Lt.lay {y : V} (h : Lt y) : (litD y).canLay0 = true ∧ PyData.depth (litD y) ≤ 0 := by
  rcases h with ⟨z, rfl, o, f⟩ | ⟨i, rfl⟩
  · exact ⟨o, Nat.le_refl _⟩
  · exact ⟨rfl, Nat.le_refl _⟩
theorem Lt.all {K : PySem.W.Frag} {H : Hp} : ∀ {ys : List V}, (∀ y ∈ ys, Lt y) → DpAll K H ys (ys.map litD)
  | [], _ => .nil
  | _ :: _, h => .cons (h _ List.mem_cons_self).dp (Lt.all fun y hy => h y (List.mem_cons_of_mem _ hy))
/-- a tuple of tuples of texts and integers -/
def RowsP (H : Hp) (v : V) : Prop := ∃ a as vss, v = .ref a ∧ H a = some (.tup (as.map V.ref)) ∧ Tups H as vss ∧ vss.length ≤ 24 ∧ ∀ vs ∈ vss, 0 < vs.length ∧ vs.length ≤ 4 ∧ ∀ y ∈ vs, Lt y
theorem RowsP.same {H H' : Hp} {v : V} (h : RowsP H v) (s : Same H H') : RowsP H' v := by
  obtain ⟨a, as, vss, e, h, t, r⟩ := h
  exact ⟨a, as, vss, e, s _ _ h, t.same s, r⟩
theorem rows_dp {K : PySem.W.Frag} {H : Hp} : ∀ {as : List Addr} {vss : List (List V)}, Tups H as vss → (∀ vs ∈ vss, ∀ y ∈ vs, Lt y) → DpAll K H (as.map V.ref) (vss.map fun vs => .tuple (vs.map litD))
  | [], [], _, _ => .nil
  | _ :: _, _ :: _, h, l => .cons (.tup (SqT.of h.1) (Lt.all (l _ List.mem_cons_self))) (rows_dp h.2 fun vs hv => l vs (List.mem_cons_of_mem _ hv))
  | [], _ :: _, h, _ => h.elim
  | _ :: _, [], h, _ => h.elim
theorem tup_shaped {α : Type} {g : α → PyData} {l : List α} (h : ∀ x ∈ l, (g x).canLay0 = true) (d : ∀ x ∈ l, PyData.depth (g x) ≤ 1) : SeqAt.shaped (.tuple (l.map g)) = true := by
  refine shaped_of (lay_map h) ?_
  have := depth_map d
  show PyData.depthAll (l.map g) + 1 ≤ 64
  omega
theorem RowsP.eq {K : PySem.W.Frag} {H : Hp} {v : V} {e : Addr} {Q : VK} (h : RowsP H v) (he : SqT K H e []) (k : ∀ b : Bool, (b = false → ∃ a as vss, v = .ref a ∧ H a = some (.tup (as.map V.ref)) ∧ Tups H as vss ∧ 0 < vss.length ∧ vss.length ≤ 24 ∧ ∀ vs ∈ vss, 0 < vs.length ∧ vs.length ≤ 4 ∧ ∀ y ∈ vs, Lt y) → Q (.bl b) H) : rEqD K v (.ref e) H Q := by
  obtain ⟨a, as, vss, rfl, h, t, l, r⟩ := h
  refine ⟨_, _, .tup (SqT.of h) (rows_dp t fun vs hv => (r vs hv).2.2), .tup he .nil, ?_, rfl, k _ fun z => ⟨a, as, vss, rfl, h, t, ?_, l, r⟩⟩
  · refine tup_shaped (fun vs hv => ?_) fun vs hv => ?_
    · exact lay_map fun y hy => ((r vs hv).2.2 y hy).lay.1
    · have := depth_map fun y hy => ((r vs hv).2.2 y hy).lay.2
      show PyData.depthAll (vs.map litD) + 1 ≤ 1
      omega
  · cases vss with
    | nil => cases z
    | cons _ _ => exact Nat.succ_pos _
/-- texts of the states -/
def Posts (H : Hp) (v : V) : Prop := ∃ (t : Addr) (st : List Str), v = .ref t ∧ H t = some (.tup (st.map V.str)) ∧ 0 < st.length ∧ st.length ≤ 6 ∧ ∀ z ∈ st, PyData.strOk z = true ∧ z.length ≤ 10
theorem Posts.same {H H' : Hp} {v : V} (h : Posts H v) (s : Same H H') : Posts H' v := by
  obtain ⟨a, st, e, h, r⟩ := h
  exact ⟨a, st, e, s _ _ h, r⟩
theorem Posts.but {H H' : Hp} {v : V} {p : Addr} (hp : PoolAt H p) (h : Posts H v) (b : But p H H') : Posts H' v := by
  obtain ⟨a, st, e, h, r⟩ := h
  exact ⟨a, st, e, b _ _ (poolT hp h) h, r⟩
theorem tups_but {p : Addr} {H H' : Hp} (hp : PoolAt H p) (b : But p H H') : ∀ {as : List Addr} {vss : List (List V)}, Tups H as vss → Tups H' as vss
  | [], [], _ => trivial
  | _ :: _, _ :: _, h => ⟨b _ _ (poolT hp h.1) h.1, tups_but hp b h.2⟩
  | [], _ :: _, h => h.elim
  | _ :: _, [], h => h.elim
theorem RowsP.but {H H' : Hp} {v : V} {p : Addr} (hp : PoolAt H p) (h : RowsP H v) (b : But p H H') : RowsP H' v := by
  obtain ⟨a, as, vss, e, h, t, r⟩ := h
  exact ⟨a, as, vss, e, b _ _ (poolT hp h) h, tups_but hp b t, r⟩
theorem neg_last {α : Type} {xs : List α} (h : 0 < xs.length) : ∃ v, v ∈ xs ∧ atI xs (-1) = some v := by
  have hn : xs ≠ [] := fun z => by
    rw [z] at h
    exact absurd h (Nat.lt_irrefl 0)
  refine ⟨xs.getLast hn, List.getLast_mem hn, ?_⟩
  have e := List.dropLast_concat_getLast hn
  conv => lhs; rw [← e]
  exact atI_last _ _
section
variable {P : Program} {w : World} {K : PySem.W.Frag} {mg : Str → Option Value} {base : Heap} {f fD fO : Addr} {fd dD dO : FuncData}
end
end Lj
/-! up to nine drawn names -/
namespace Wb
open PySem L2 WbMin WbS Lz
section
variable {P : Program} {w : World} {K : PySem.W.Frag} {mg : Str → Option Value} {base : Heap} {f fD fN : Addr} {fd fdD dN : FuncData}
end
end Wb
/-! tuple(z) of a text -/
namespace WbT
open PySem PySem.Spec PyProof.Rows L2
section
variable {X : Cx}
theorem vals_marks : ∀ (l : List Nat) (us : List Value), us.length = l.length → (∀ (j : Nat) (v : Value), us[j]? = some v → ∃ c t, l[j]? = some c ∧ v = Value.str ⟨#[c]⟩ t) → Vals (l.map fun c => V.str ⟨#[c]⟩) us
  | [], [], _, _ => .nil
  | [], _ :: _, h, _ => by cases h
  | _ :: _, [], h, _ => by cases h
  | c :: l, u :: us, h, k => by
    obtain ⟨c', t, e1, e2⟩ := k 0 u rfl
    cases e1
    exact .cons ⟨t, e2⟩ (vals_marks l us (Nat.succ.inj h) fun j v q => k (j + 1) v q)
/-- tuple(z) of a text -/
theorem call_tupleS (calm : X.calm = true) : CallR X (.type "tuple") (fun xs H Q => ∃ z : Str, xs = [.str z] ∧ z.length ≤ sizeLine ∧ ∀ p, H p = none → Q (.ref p) (upd H p (.tup (z.cps.toList.map fun c => V.str ⟨#[c]⟩)))) := by
  intro pins s σ H xs us Q I r h
  obtain ⟨z, rfl, fits, q⟩ := h
  obtain ⟨u, rfl, t, rfl⟩ := vals1 r
  refine call_tuple_str (I.ok.hd calm) z t (fun h' tk acc kept items => ?_) fits
  have rel : Vals (z.cps.toList.map fun c => V.str ⟨#[c]⟩) acc.toList := vals_marks _ _ (by rw [Array.length_toList, Array.length_toList]; exact items.1) fun j v e => by
    obtain ⟨c, u, e1, e2⟩ := items.2 j v (by rw [← Array.getElem?_toList]; exact e)
    exact ⟨c, u, by rw [Array.getElem?_toList]; exact e1, e2⟩
  have fits' : (z.cps.toList.map fun c => V.str ⟨#[c]⟩).length ≤ sizeLine := by rw [List.length_map, Array.length_toList]; exact fits
  have I1 : Inv X pins σ H { s with heap := h', toks := tk } := I.kept (t' := tk) kept
  have new := IsTup.new h' acc.toList.toArray
  have e : acc.toList.toArray = acc := by simp
  rw [e] at new
  exact ⟨.ref h'.objs.size, _, I1.laid (t' := tk) (fun b o e => Heap.get?_push_of_some _ e) (Nat.le_refl _) (show ObjOk X.prog X.w _ _ _ (.tup _) from ⟨fits', acc.toList, rel, by rw [e]; exact new⟩), rfl, q _ (I1.hok.fresh (Nat.le_refl _))⟩
end
end WbT
/-! _law_spoilt: the parts with a change in one of them -/
namespace Lj
open PySem L2 WbMin WbS Lz Wb
open Lg hiding int_lt keepA keep5 cut_at sLOdd
/-- a text of at most m signs -/
def TxM (m : Nat) (v : V) : Prop := ∃ l, v = .str (S l) ∧ l.length ≤ m ∧ ∀ c ∈ l, c < 1000
theorem TxM.mono {m n : Nat} {v : V} (h : TxM m v) (k : m ≤ n) : TxM n v := by
  obtain ⟨l, e, a, b⟩ := h
  exact ⟨l, e, by omega, b⟩
section
variable {m n : Nat} {v u : V} {lo hi : Option Int} {H : Hp} {Q : VK}
theorem slX (h : TxM m v) (k0 : m ≤ 2000) (k : ∀ r, TxM m r → Q r H) : rSlS v lo hi H Q := by
  obtain ⟨l, rfl, a, b⟩ := h
  refine ⟨_, rfl, by rw [S_len, sizeLine_eq]; omega, k _ ⟨(l.drop (HT.sIx (S l).length 0 lo)).take (HT.sIx (S l).length (S l).length hi - HT.sIx (S l).length 0 lo), ?_, ?_, fun c hc => b c (List.mem_of_mem_drop (List.mem_of_mem_take hc))⟩⟩
  · show V.str ⟨_⟩ = V.str ⟨_⟩
    rw [S_cps]
  · rw [List.length_take, List.length_drop]
    omega
def rAddS : R2 := fun x y H Q => ∃ i j, x = .str i ∧ y = .str j ∧ i.length + j.length ≤ sizeLine ∧ Q (.str (i ++ j)) H
theorem op_addX {X : Cx} : OpR X (binaryOp .Add) rAddS := op_add_str
theorem catX (h : TxM m v) (h2 : TxM n u) (k0 : m + n ≤ 2000) (k : ∀ r, TxM (m + n) r → Q r H) : rAddS v u H Q := by
  obtain ⟨l, rfl, a, b⟩ := h
  obtain ⟨l2, rfl, a2, b2⟩ := h2
  refine ⟨_, _, rfl, rfl, by rw [S_len, S_len, sizeLine_eq]; omega, ?_⟩
  rw [S_add]
  exact k _ ⟨_, rfl, by rw [List.length_append]; omega, fun c hc => (List.mem_append.mp hc).elim (b c) (b2 c)⟩
end
theorem both_ones {H : Hp} {n : Nat} : ∀ l : List Nat, Both (Thing H (n + 1)) (l.map fun c => V.str ⟨#[c]⟩) (l.map fun c => plainD (.str ⟨#[c]⟩))
  | [] => .nil
  | _ :: l => .cons (.inl (.str _)) (both_ones l)
theorem ones_any {p a : Addr} {H : Hp} {l : List Nat} (n : a ≠ p) (h : H a = some (.tup (l.map fun c => V.str ⟨#[c]⟩))) (hl : l.length ≤ 1000) (hc : ∀ c ∈ l, c < 1000) : ∃ d, Any p H (.ref a) d := by
  refine Val.of ⟨_, .inr (.inr (.inl ⟨a, _, _, rfl, (Wb.cut_at n).trans h, by rw [List.length_map]; exact hl, both_ones l, rfl⟩)), ?_, ?_⟩
  · show (PyData.strOk "tuple" && PyData.canLayAll0 (l.map fun c => plainD (.str ⟨#[c]⟩))) = true
    have e : PyData.strOk "tuple" = true := by decide +kernel
    rw [e, Bool.true_and]
    refine lay_map fun c hm => strF_layH ?_
    have := ok_codes (l := [c]) fun d hd => by
      rw [List.mem_singleton.mp hd]
      have := hc c hm
      omega
    exact this
  · have := depth_map (g := fun c => plainD (.str (⟨#[c]⟩ : Str))) (n := 1) (l := l) fun c _ => Nat.le_refl _
    show max 0 (PyData.depthAll (l.map fun c => plainD (.str ⟨#[c]⟩))) + 1 ≤ 60
    omega
/-- some texts of states -/
def Txs (H : Hp) (v : V) : Prop := ∃ (t : Addr) (st : List Str), v = .ref t ∧ H t = some (.tup (st.map V.str)) ∧ st.length ≤ 6 ∧ ∀ z ∈ st, PyData.strOk z = true ∧ z.length ≤ 10
theorem Txs.same {H H' : Hp} {v : V} (h : Txs H v) (s : Same H H') : Txs H' v := by
  obtain ⟨a, st, e, h, r⟩ := h
  exact ⟨a, st, e, s _ _ h, r⟩
theorem Txs.but {H H' : Hp} {v : V} {p : Addr} (hp : PoolAt H p) (h : Txs H v) (b : But p H H') : Txs H' v := by
  obtain ⟨a, st, e, h, r⟩ := h
  exact ⟨a, st, e, b _ _ (poolT hp h) h, r⟩
theorem Posts.txs {H : Hp} {v : V} (h : Posts H v) : Txs H v := by
  obtain ⟨a, st, e, h, _, r⟩ := h
  exact ⟨a, st, e, h, r⟩
theorem str_itm {p : Addr} {H : Hp} {z : Str} (h : PyData.strOk z = true ∧ z.length ≤ 10) : Itm p H (.str z) := ⟨.one (.str (by rw [sizeLine_eq]; omega)), fun y e => by
  injection e with e
  rw [← e]
  exact h.1⟩
theorem Txs.tup {p : Addr} {H : Hp} {v : V} (h : Txs H v) : Tup p H 6 v := by
  obtain ⟨a, st, rfl, h, l, r⟩ := h
  refine ⟨a, _, rfl, h, by rw [List.length_map]; exact l, fun y hy => ?_⟩
  obtain ⟨z, hz, rfl⟩ := List.mem_map.mp hy
  exact str_itm (r z hz)
theorem rows_itm {p : Addr} {H : Hp} (hp : PoolAt H p) : ∀ {as : List Addr} {vss : List (List V)}, Tups H as vss → (∀ vs ∈ vss, vs.length ≤ 4 ∧ ∀ y ∈ vs, Lt y) → ∀ y ∈ as.map V.ref, Itm p H y
  | [], [], _, _, y, hy => nomatch hy
  | a :: as, vs :: vss, h, l, y, hy => by
    rcases List.mem_cons.mp hy with rfl | hy
    · obtain ⟨l4, lt⟩ := l vs List.mem_cons_self
      exact ⟨.tup ((Wb.cut_at (poolT hp h.1)).trans h.1) (by omega) fun y hy => (lt y hy).so, fun z e => by cases e⟩
    · exact rows_itm hp h.2 (fun vs hv => l vs (List.mem_cons_of_mem _ hv)) y hy
  | [], _ :: _, h, _, _, _ => h.elim
  | _ :: _, [], h, _, _, _ => h.elim
theorem RowsP.tup {p : Addr} {H : Hp} {v : V} (hp : PoolAt H p) (h : RowsP H v) : Tup p H 24 v := by
  obtain ⟨a, as, vss, rfl, h, t, l, r⟩ := h
  exact ⟨a, _, rfl, h, by rw [List.length_map, t.length]; exact l, rows_itm hp t fun vs hv => (r vs hv).2⟩
/-- the parts of a loop as they are drawn -/
structure PartsP (p : Addr) (H : Hp) (L : Addr) (sg : List Nat) (tV rV uV yV : V) : Prop where
  hL : H L = some (.lst [.str (S sg), tV, rV, uV, yV])
  ne : L ≠ p
  lo : ∀ c ∈ sg, c < 1000
  s0 : 0 < sg.length
  s4 : sg.length ≤ 4
  ht : Posts H tV
  hr : RowsP H rV
  hu : RowsP H uV
  hy : Txs H yV
theorem PartsP.but {p : Addr} {H H' : Hp} {L : Addr} {sg : List Nat} {tV rV uV yV : V} (hp : PoolAt H p) (h : PartsP p H L sg tV rV uV yV) (b : But p H H') : PartsP p H' L sg tV rV uV yV :=
  ⟨b _ _ h.ne h.hL, h.ne, h.lo, h.s0, h.s4, h.ht.but hp b, h.hr.but hp b, h.hu.but hp b, h.hy.but hp b⟩
/-- parts of any sort -/
def PtA (p : Addr) (H : Hp) (L : Addr) : Prop := ∃ (sV tV rV uV yV : V) (d : PyData), H L = some (.lst [sV, tV, rV, uV, yV]) ∧ L ≠ p ∧ Any p H sV d ∧ Lg.Wh (cut H p) tV ∧ Lg.Wh (cut H p) rV ∧ Lg.Wh (cut H p) uV ∧ Lg.Wh (cut H p) yV
theorem PtA.but {p : Addr} {H H' : Hp} {L : Addr} (h : PtA p H L) (b : But p H H') : PtA p H' L := by
  obtain ⟨sV, tV, rV, uV, yV, d, hL, n, a, h1, h2, h3, h4⟩ := h
  exact ⟨sV, tV, rV, uV, yV, d, b _ _ n hL, n, a.but b, h1.same (cut_but b), h2.same (cut_but b), h3.same (cut_but b), h4.same (cut_but b)⟩
/-- parts of any sort, the signs' things new since H0 -/
def PtN (p : Addr) (H0 H : Hp) (L : Addr) : Prop := ∃ (sV tV rV uV yV : V) (d : PyData), H L = some (.lst [sV, tV, rV, uV, yV]) ∧ L ≠ p ∧ Any p (New H0 H) sV d ∧ Lg.Wh (cut H p) tV ∧ Lg.Wh (cut H p) rV ∧ Lg.Wh (cut H p) uV ∧ Lg.Wh (cut H p) yV
theorem PtN.but {p : Addr} {H0 H H' : Hp} {L : Addr} (h : PtN p H0 H L) (b : But p H H') : PtN p H0 H' L := by
  obtain ⟨sV, tV, rV, uV, yV, d, hL, n, a, h1, h2, h3, h4⟩ := h
  exact ⟨sV, tV, rV, uV, yV, d, b _ _ n hL, n, a.but (new_but b), h1.same (cut_but b), h2.same (cut_but b), h3.same (cut_but b), h4.same (cut_but b)⟩
theorem PartsP.any {p : Addr} {H : Hp} {L F : Addr} {sg : List Nat} {tV rV uV yV : V} (hp : PoolAt H p) (h : PartsP p H L sg tV rV uV yV) (hF : H F = some (.lst [.str (S sg), tV, rV, uV, yV])) (n : F ≠ p) : PtA p H F := by
  have := h.s4
  obtain ⟨d, hd⟩ := Val.str (p := p) (H := H) (l := sg) ⟨by omega, h.lo⟩
  exact ⟨_, _, _, _, _, d, hF, n, hd, h.ht.txs.tup.wh hp (by decide), (h.hr.tup hp).wh hp (by decide), (h.hu.tup hp).wh hp (by decide), h.hy.tup.wh hp (by decide)⟩
/-- a list changes: what is no list stays -/
theorem Odd1.put {p F : Addr} {H : Hp} {xs ys : List V} {v : V} (hF : H F = some (.lst xs)) (n : F ≠ p) (h : Odd1 (cut H p) v) : Odd1 (cut (L2.upd H F (.lst ys)) p) v := by
  cases h with
  | str f => exact .str f
  | int i => exact .int i
  | non => exact .non
  | bl b => exact .bl b
  | @lst a zs h =>
    by_cases e : a = F
    · subst e
      exact .lst ((Wb.cut_at n).trans upd_same)
    · refine .lst (xs := zs) ?_
      unfold cut at h ⊢
      by_cases ep : a = p
      · rw [if_pos ep] at h
        cases h
      · rw [if_neg ep] at h ⊢
        rw [upd_ne e]
        exact h
  | @dK a zs h =>
    refine .dK (xs := zs) ?_
    unfold cut at h ⊢
    by_cases ep : a = p
    · rw [if_pos ep] at h
      cases h
    · rw [if_neg ep] at h ⊢
      have e : a ≠ F := fun z => by
        rw [z, hF] at h
        cases h
      rw [upd_ne e]
      exact h
theorem tup_put {p F a : Addr} {H : Hp} {xs ys zs : List V} (hF : H F = some (.lst xs)) (h : cut H p a = some (.tup zs)) : cut (L2.upd H F (.lst ys)) p a = some (.tup zs) := by
  unfold cut at h ⊢
  by_cases ep : a = p
  · rw [if_pos ep] at h
    cases h
  · rw [if_neg ep] at h ⊢
    have e : a ≠ F := fun z => by
      rw [z, hF] at h
      cases h
    rw [upd_ne e]
    exact h
theorem So.put {p F : Addr} {H : Hp} {xs ys : List V} {v : V} (hF : H F = some (.lst xs)) (n : F ≠ p) (h : So (cut H p) v) : So (cut (L2.upd H F (.lst ys)) p) v := by
  cases h with
  | one h => exact .one (Odd1.put hF n h)
  | tup h => exact .tup (tup_put hF h)
theorem TopS.put {p F : Addr} {H : Hp} {xs ys : List V} {v : V} (hF : H F = some (.lst xs)) (n : F ≠ p) (h : TopS (cut H p) v) : TopS (cut (L2.upd H F (.lst ys)) p) v := by
  cases h with
  | one h => exact .one (Odd1.put hF n h)
  | tup h l r => exact .tup (tup_put hF h) l fun y hy => So.put hF n (r y hy)
theorem Wh.put {p F : Addr} {H : Hp} {xs ys : List V} {v : V} (hF : H F = some (.lst xs)) (n : F ≠ p) (h : Lg.Wh (cut H p) v) : Lg.Wh (cut (L2.upd H F (.lst ys)) p) v := by
  cases h with
  | one h => exact .one (Odd1.put hF n h)
  | tup h l r c => exact .tup (tup_put hF h) l (fun y hy => TopS.put hF n (r y hy)) c
/-- parts of a loop, the signs a text -/
def PtS (p : Addr) (H : Hp) (L : Addr) (sg : List Nat) (i : Nat) : Prop := ∃ (tV rV uV yV : V), H L = some (.lst [.str (S sg), tV, rV, uV, yV]) ∧ L ≠ p ∧ Lg.Wh (cut H p) tV ∧ Lg.Wh (cut H p) rV ∧ Lg.Wh (cut H p) uV ∧ Lg.Wh (cut H p) yV
theorem PtS.but {p : Addr} {H H' : Hp} {L : Addr} {sg : List Nat} {i : Nat} (h : PtS p H L sg i) (b : But p H H') : PtS p H' L sg i := by
  obtain ⟨tV, rV, uV, yV, hL, n, h1, h2, h3, h4⟩ := h
  exact ⟨tV, rV, uV, yV, b _ _ n hL, n, h1.same (cut_but b), h2.same (cut_but b), h3.same (cut_but b), h4.same (cut_but b)⟩
/-- the part with index i becomes v -/
theorem PtS.set {p : Addr} {H : Hp} {L : Addr} {sg : List Nat} {i j : Nat} {v : V} {Q : Hp → Prop} (h : PtS p H L sg i) (j0 : 0 < j) (j5 : j < 5) (hv : Lg.Wh (cut H p) v) (k : ∀ H', PtS p H' L sg i → (∃ ys, H' = L2.upd H L (.lst ys)) → Q H') : rSetL (.ref L) (.int (j : Nat)) v H Q := by
  obtain ⟨tV, rV, uV, yV, hL, n, h1, h2, h3, h4⟩ := h
  have ij : ixN 5 (j : Int) = some j := by
    unfold ixN
    rw [if_pos (by omega), if_pos (by omega)] <;> rfl
  refine ⟨L, _, _, j, rfl, rfl, hL, ij, k _ ?_ ⟨_, rfl⟩⟩
  have w1 := Wh.put (ys := [V.str (S sg), tV, rV, uV, yV].set j v) hL n h1
  have w2 := Wh.put (ys := [V.str (S sg), tV, rV, uV, yV].set j v) hL n h2
  have w3 := Wh.put (ys := [V.str (S sg), tV, rV, uV, yV].set j v) hL n h3
  have w4 := Wh.put (ys := [V.str (S sg), tV, rV, uV, yV].set j v) hL n h4
  have wv := Wh.put (ys := [V.str (S sg), tV, rV, uV, yV].set j v) hL n hv
  rcases (by omega : j = 1 ∨ j = 2 ∨ j = 3 ∨ j = 4) with rfl | rfl | rfl | rfl
  · exact ⟨v, rV, uV, yV, upd_same, n, wv, w2, w3, w4⟩
  · exact ⟨tV, v, uV, yV, upd_same, n, w1, wv, w3, w4⟩
  · exact ⟨tV, rV, v, yV, upd_same, n, w1, w2, wv, w4⟩
  · exact ⟨tV, rV, uV, v, upd_same, n, w1, w2, w3, wv⟩
section
variable {P : Program} {w : World} {K : PySem.W.Frag} {mg : Str → Option Value} {base : Heap} {f fD fO fN fNs fB fL : Addr} {fd dD dO dN dNs dB dL : FuncData}
end
end Lj
/-! _law_spoilt_signs -/
namespace Ke
open PySem L2 PySem.Spec PyProof.Rows WbMin WbS Lz Wb Le
open Lj
open Lg hiding int_lt keepA keep5 cut_at sLOdd
abbrev sRfSpS : Stmt := top 51
/-- a value of any sort, the pool no part of it -/
def Vx (p : Addr) (H : Hp) (x : V) : Prop := (∃ d, Any p H x d) ∧ Lg.Wh (cut H p) x ∧ TopS (cut H p) x ∧ (∀ z, x = .str z → PyData.strOk z = true) ∧ Flat (cut H p) x
theorem Vx.but {p : Addr} {H H' : Hp} {x : V} (h : Vx p H x) (b : But p H H') : Vx p H' x := ⟨⟨_, h.1.choose_spec.but b⟩, h.2.1.same (cut_but b), h.2.2.1.same (cut_but b), h.2.2.2.1, h.2.2.2.2.same (cut_but b)⟩
theorem Vx.same {p : Addr} {H H' : Hp} {x : V} (h : Vx p H x) (s : Same H H') : Vx p H' x := ⟨⟨_, h.1.choose_spec.same s⟩, h.2.1.same (cut_same s), h.2.2.1.same (cut_same s), h.2.2.2.1, h.2.2.2.2.same (cut_same s)⟩
theorem ValO.vx {p : Addr} {H0 H : Hp} {x : V} (h : ValO p H0 H x) : Vx p H x := ⟨⟨_, h.1.1.choose_spec.same New.sub⟩, h.1.2.1, h.1.2.2.1, h.1.2.2.2, h.2⟩
theorem TxM.vx {p : Addr} {H : Hp} {m : Nat} {v : V} (h : TxM m v) (k : m ≤ 2000) : Vx p H v := by
  obtain ⟨l, rfl, a, b⟩ := h
  exact ValO.vx (H0 := H) (.str ⟨by omega, b⟩)
theorem ones_vx {p a : Addr} {H : Hp} {l : List Nat} (n : a ≠ p) (h : H a = some (.tup (l.map fun c => V.str ⟨#[c]⟩))) (hl : l.length ≤ 9) (hc : ∀ c ∈ l, c < 1000) : Vx p H (.ref a) := by
  have e := (Wb.cut_at n).trans h
  have one : ∀ y ∈ l.map (fun c => V.str ⟨#[c]⟩), Odd1 (cut H p) y := fun y hy => by
    obtain ⟨c, _, rfl⟩ := List.mem_map.mp hy
    exact .str (by rw [sizeLine_eq]; show 1 ≤ _; decide)
  have sk : ∀ y ∈ l.map (fun c => V.str ⟨#[c]⟩), ∀ z, y = .str z → PyData.strOk z = true := fun y hy z e => by
    obtain ⟨c, hm, rfl⟩ := List.mem_map.mp hy
    injection e with e
    rw [← e]
    exact ok_codes (l := [c]) fun d hd => by
      rw [List.mem_singleton.mp hd]
      exact hc c hm
  exact ⟨ones_any n h (by omega) hc, .tup e (by rw [List.length_map]; omega) (fun y hy => .one (one y hy)) sk, .tup e (by rw [List.length_map]; exact hl) fun y hy => .one (one y hy), (fun z e => by cases e), .inr ⟨a, _, rfl, e, one⟩⟩
def spSpS : Sp := fun vs H Q _ => ∃ (p : Addr) (sg : List Nat), vs = [.ref p, .str (S sg)] ∧ Sgs sg ∧ PoolAt H p ∧ ∀ (x : V) (H' : Hp), Vx p H' x → PoolAt H' p → But p H H' → Q x H'
abbrev NSpS9 : List Str := ["_law_pool_here", "_law_abc", "_law_way", "_law_at", "_law_mark"]
theorem scSpS9 : FnScope NSpS9 ["_law_pool_here", "_law_abc"] (defScope sRfSpS) := ⟨rfl, rfl, rfl, by decide +kernel, rfl, by decide +kernel, by decide +kernel⟩
theorem estSpS9 (a b : V) : L2.start NSpS9 [a, b] = [some a, some b, none, none, none] := rfl
section
variable {P : Program} {w : World} {K : PySem.W.Frag} {mg : Str → Option Value} {base : Heap} {f fD fO : Addr} {fd dD dO : FuncData}
set_option maxHeartbeats 8000000 in
theorem ok_spsigns (F : Fun K "_law_spoilt_signs" "_law_spoilt_signs" sRfSpS f fd) (D : Def K mg "_law_draw" sDraw ["_law_pool_here", "_law_many"] fD dD) (DO : Def K mg "_law_odd" Wb.sLOdd ["_law_pool_here"] fO dO) (Z : Free mg) (mT : mg "tuple" = none) : FnOk P w K mg base CX0 3 f fd ["_law_pool_here", "_law_abc"] spSpS := by
  have G : FnOk P w K mg base CX0 1 fD dD ["_law_pool_here", "_law_many"] spDraw := ok_draw D.F Z.int Z.divmod
  have GO : FnOk P w K mg base CX0 2 fO dO ["_law_pool_here"] spOddO := ok_oddO DO.F D Z
  refine F.ok scSpS9 (fun vs H Q E h => by obtain ⟨p, sg, rfl, _⟩ := h; rfl) (fun cdv A outer s H vs Q E hr h => ?_)
  obtain ⟨p, sg, rfl, SG, hp, k⟩ := h
  have hr1 : Room 1 _ := hr.mono (by decide)
  have hr2 : Room 2 _ := hr
  refine ⟨_, pss_cons (ps_par (i := 2) (j := 3) rfl scSpS9.nd rfl rfl (by decide) rfl rfl (pa_cons (pe_call G hr1 rfl D.g D.kp D.b .nil pass0 (pa_cons (pv 0) (pa_cons pe_int pa_nil)))
        (pa_cons (pe_call G hr1 rfl D.g D.kp D.b .nil pass0 (pa_cons (pv 0) (pa_cons (pe_op op_add (pe_callB call_len_str (by rfl) Z.len PySem.boot_len (pa_cons (pv 1) pa_nil)) pe_int) pa_nil))) pa_nil)) (by rfl))
    (pss_cons (ps_set (i := 4) scSpS9.nd rfl (.inl rfl) (pe_ix ix_str (pe_op op_add_str (pv 1) pe_str) (pe_call G hr1 rfl D.g D.kp D.b .nil pass0 (pa_cons (pv 0) (pa_cons (pe_op op_add (pe_callB call_len_str (by rfl) Z.len PySem.boot_len (pa_cons (pv 1) pa_nil)) pe_int) pa_nil))) (fun _ _ => rfl)))
    (pss_cons (ps_if (pt_cmpR op_lt (pv 2) pe_int (nomark _)) (pss_one (ps_ret (pe_op op_addX (pe_op op_addX (pe_slice sl_str (pv 1) po_none (po_some (pv 3))) (pv 4)) (pe_slice sl_str (pv 1) (po_some (pe_op op_add (pv 3) (pe_call G hr1 rfl D.g D.kp D.b .nil pass0 (pa_cons (pv 0) (pa_cons pe_int pa_nil))))) po_none)))) pss_nil)
    (pss_cons (ps_if (pt_cmpR op_eq (pv 2) pe_int (nomark _)) (pss_one (ps_ret (pe_op op_addX (pe_slice sl_str (pv 1) po_none (po_some (pv 3))) (pe_slice sl_str (pv 1) (po_some (pe_op op_add (pv 3) pe_int)) po_none)))) pss_nil)
    (pss_one (ps_ret (pe_ifExp (pt_cmpR op_eq (pv 2) pe_int (nomark _)) (pe_callTy (WbT.call_tupleS rfl) (by rfl) mT (by decide +kernel) (pa_cons (pv 1) pa_nil)) (pe_call GO hr2 rfl DO.g DO.kp DO.b .nil pass0 (pa_cons (pv 0) pa_nil)))))))), ?_⟩
  have s4 := SG.few
  have lo : ∀ c ∈ sg, c < 1000 := fun c hc => by have := SG.low c hc; omega
  have lsg : (S sg).length = sg.length := S_len sg
  have lsgx : (S sg).length ≤ sizeLine := by
    rw [lsg, sizeLine_eq]
    omega
  refine ⟨_, rfl, p, _, rfl, by decide, by decide, hp, fun d0 G0 d00 d01 po0 c0 => ?_⟩
  refine ⟨_, rfl, _, rfl, _, rfl, lsgx, _, _, rfl, rfl, p, _, rfl, by omega, by omega, po0, fun d1 G1 d10 d11 po1 c1 => ?_⟩
  refine ⟨_, _, rfl, ?_⟩
  dsimp only [estSpS9, List.set]
  have hM : ("A0 _z" : Str) = S [65, 48, 32, 95, 122] := S_eq (by decide +kernel)
  refine ⟨_, rfl, _, _, rfl, rfl, by rw [hM, lsg, S_len, sizeLine_eq]; show sg.length + 5 ≤ _; omega, ?_⟩
  rw [hM, S_add]
  refine ⟨_, rfl, _, rfl, _, rfl, lsgx, _, _, rfl, rfl, p, _, rfl, by omega, by omega, po1, fun d2 G2 d20 d21 po2 c2 => ?_⟩
  obtain ⟨i0, rfl⟩ := nat_of d00
  obtain ⟨i1, rfl⟩ := nat_of d10
  obtain ⟨i2, rfl⟩ := nat_of d20
  obtain ⟨c, hc⟩ : ∃ c, (sg ++ [65, 48, 32, 95, 122])[i2]? = some c := ⟨_, List.getElem?_eq_getElem (by rw [List.length_append]; show i2 < sg.length + 5; omega)⟩
  have hc1 : c < 1000 := by
    rcases List.mem_append.mp (List.mem_of_getElem? hc) with q | q
    · exact lo c q
    · simp only [List.mem_cons, List.not_mem_nil, or_false] at q
      omega
  refine ⟨_, _, c, rfl, rfl, by rw [S_len, List.length_append, sizeLine_eq]; show sg.length + 5 ≤ _; omega, by rw [S_cps]; exact atI_nat hc, ?_⟩
  dsimp only [List.set]
  have X : TxM 4 (.str (S sg)) := ⟨sg, rfl, s4, lo⟩
  have M : TxM 1 (.str ⟨#[c]⟩) := ⟨[c], rfl, Nat.le_refl _, fun d hd => by rw [List.mem_singleton.mp hd]; exact hc1⟩
  have c02 := (c0.trans c1).trans c2
  refine ⟨_, rfl, _, _, rfl, rfl, _, rfl, ite2 (fun q => ?_) (fun q => ?_)⟩
  · refine ⟨_, rfl, _, rfl, _, rfl, slX X (by decide) fun r1 x1 => ⟨_, rfl, catX x1 M (by decide) fun r2 x2 => ⟨_, rfl, _, rfl, _, rfl, p, _, rfl, by decide, by decide, po2, fun d3 G3 d30 d31 po3 c3 => ?_⟩⟩⟩
    refine ⟨_, _, rfl, rfl, _, rfl, ?_⟩
    dsimp only [tNoPart]
    exact slX X (by decide) fun r3 x3 => catX x2 x3 (by decide) fun w1 y1 => k _ _ (TxM.vx y1 (by decide)) po3 (c02.trans c3)
  refine ⟨_, rfl, rfl, _, rfl, ite2 (fun q => ?_) (fun q => ?_)⟩
  · refine ⟨_, rfl, _, rfl, _, rfl, slX X (by decide) fun r1 x1 => ⟨_, rfl, _, rfl, _, _, rfl, rfl, _, rfl, ?_⟩⟩
    dsimp only [tNoPart]
    exact slX X (by decide) fun r3 x3 => catX x1 x3 (by decide) fun w1 y1 => k _ _ (TxM.vx y1 (by decide)) po2 c02
  refine ⟨_, rfl, rfl, _, rfl, ite2 (fun q => ?_) (fun q => ?_)⟩
  · refine ⟨_, rfl, S sg, rfl, lsgx, fun t4 ht4 => ?_⟩
    rw [S_cps]
    exact k _ _ (ones_vx (po2.ne ht4) upd_same (by omega) lo) (po2.same (Same.put (Same.refl _) ht4)) (c02.trans (But.of (Same.put (Same.refl _) ht4)))
  · exact ⟨_, rfl, p, rfl, po2, fun x G4 hx po4 c4 => k _ _ (ValO.vx hx) po4 (c02.trans c4)⟩
end
end Ke
/-! _law_spoilt_pairs -/
namespace Ke
open PySem L2 PySem.Spec PyProof.Rows WbMin WbS Lz Wb Le
open Lj
open Lg hiding int_lt keepA keep5 cut_at sLOdd
abbrev sRfSpP : Stmt := top 52
/-- a tuple of things whose things are known, or no tuple -/
def Deep (H : Hp) (x : V) : Prop := Odd1 H x ∨ ∃ (t : Addr) (xs : List V), x = .ref t ∧ H t = some (.tup xs) ∧ ∀ y ∈ xs, Lg.Wh H y
theorem Deep.same {H H' : Hp} {x : V} (h : Deep H x) (s : Same H H') : Deep H' x := by
  rcases h with h | ⟨t, xs, e, h, r⟩
  · exact .inl (h.same s)
  · exact .inr ⟨t, xs, e, s _ _ h, fun y hy => (r y hy).same s⟩
theorem Flat.deep {H : Hp} {x : V} (h : Flat H x) : Deep H x := by
  rcases h with h | ⟨t, xs, e, h, r⟩
  · exact .inl h
  · exact .inr ⟨t, xs, e, h, fun y hy => .one (r y hy)⟩
/-- pairs of any sort: a face with one level more -/
def Px (p : Addr) (H : Hp) (x : V) : Prop := (∃ d, Thing (cut H p) 6 x d ∧ d.canLay0 = true ∧ PyData.depth d ≤ 61) ∧ Lg.Wh (cut H p) x ∧ (∀ z, x = .str z → PyData.strOk z = true) ∧ Deep (cut H p) x
theorem Px.but {p : Addr} {H H' : Hp} {x : V} (h : Px p H x) (b : But p H H') : Px p H' x := ⟨h.1.imp fun _ z => ⟨z.1.same (cut_but b), z.2⟩, h.2.1.same (cut_but b), h.2.2.1, h.2.2.2.same (cut_but b)⟩
theorem Px.same {p : Addr} {H H' : Hp} {x : V} (h : Px p H x) (s : Same H H') : Px p H' x := ⟨h.1.imp fun _ z => ⟨z.1.same (cut_same s), z.2⟩, h.2.1.same (cut_same s), h.2.2.1, h.2.2.2.same (cut_same s)⟩
theorem Vx.px {p : Addr} {H : Hp} {x : V} (h : Vx p H x) : Px p H x := ⟨h.1.imp fun _ z => ⟨Thing.up z.1, z.2.2.2.1, Nat.le_trans z.2.2.2.2 (by decide)⟩, h.2.1, h.2.2.2.1, h.2.2.2.2.deep⟩
theorem faces {p : Addr} {H : Hp} : ∀ {xs : List V}, (∀ y ∈ xs, Vx p H y) → ∃ ds, Both (Thing (cut H p) 5) xs ds ∧ PyData.canLayAll0 ds = true ∧ PyData.depthAll ds ≤ 60
  | [], _ => ⟨[], .nil, rfl, Nat.zero_le _⟩
  | x :: xs, h => by
    obtain ⟨d, h1⟩ := (h x List.mem_cons_self).1
    obtain ⟨ds, b, c, e⟩ := faces fun y hy => h y (List.mem_cons_of_mem _ hy)
    refine ⟨d :: ds, .cons h1.1 b, ?_, ?_⟩
    · show (d.canLay0 && PyData.canLayAll0 ds) = true
      rw [h1.2.2.2.1, c] <;> rfl
    · show max (PyData.depth d) (PyData.depthAll ds) ≤ 60
      have := h1.2.2.2.2
      omega
theorem monoV {p : Addr} : Mono (Vx p) := fun _ _ _ s h => h.same s
theorem TupV.but {p : Addr} {H H' : Hp} {n : Nat} {x : V} (hp : PoolAt H p) (h : TupG (Vx p) H n x) (b : But p H H') : TupG (Vx p) H' n x := by
  obtain ⟨a, xs, rfl, ha, l, r⟩ := h
  exact ⟨a, xs, rfl, b _ _ (poolT hp ha) ha, l, fun y hy => (r y hy).but b⟩
theorem tup_px {p : Addr} {H : Hp} {n : Nat} {x : V} (hp : PoolAt H p) (h : TupG (Vx p) H n x) (l : n ≤ 99) : Px p H x := by
  obtain ⟨a, xs, rfl, ha, l1, r⟩ := h
  have e := (Wb.cut_at (poolT hp ha)).trans ha
  obtain ⟨ds, b, c, q⟩ := faces r
  refine ⟨⟨_, .inr (.inr (.inl ⟨a, xs, ds, rfl, e, by omega, b, rfl⟩)), ?_, ?_⟩, .tup e (by omega) (fun y hy => (r y hy).2.2.1) fun y hy => (r y hy).2.2.2.1, (fun z e => by cases e), .inr ⟨a, xs, rfl, e, fun y hy => (r y hy).2.1⟩⟩
  · show (PyData.strOk "tuple" && PyData.canLayAll0 ds) = true
    have e : PyData.strOk "tuple" = true := by decide +kernel
    rw [e, c] <;> rfl
  · show max 0 (PyData.depthAll ds) + 1 ≤ 61
    omega
theorem lst_px {p a : Addr} {H : Hp} {xs : List V} (n : a ≠ p) (h : H a = some (.lst xs)) (l : xs.length ≤ 99) (r : ∀ y ∈ xs, Vx p H y) : Px p H (.ref a) := by
  have e := (Wb.cut_at n).trans h
  obtain ⟨ds, b, c, q⟩ := faces r
  refine ⟨⟨_, .inr (.inl ⟨a, xs, ds, rfl, e, by omega, b, rfl⟩), ?_, ?_⟩, .one (.lst e), (fun z e => by cases e), .inl (.lst e)⟩
  · show (PyData.strOk "list" && PyData.canLayAll0 ds) = true
    have e : PyData.strOk "list" = true := by decide +kernel
    rw [e, c] <;> rfl
  · show max 0 (PyData.depthAll ds) + 1 ≤ 61
    omega
theorem pair_vx {p : Addr} {H : Hp} {sg : List Nat} {ps : List Str} (G : Sgs sg) (P : Prs sg ps) : ∀ y ∈ ps.map V.str, Vx p H y := fun y hy => by
  obtain ⟨z, hz, rfl⟩ := List.mem_map.mp hy
  obtain ⟨a, b, ha, hb, rfl⟩ := P.of z hz
  exact TxM.vx (m := 2) ⟨[a, b], rfl, Nat.le_refl _, fun c hc => by
    have := G.low a ha
    have := G.low b hb
    rcases List.mem_cons.mp hc with rfl | hc
    · omega
    · rw [List.mem_singleton.mp hc]
      omega⟩ (by decide)
def spSpP : Sp := fun vs H Q _ => ∃ (p a : Addr) (sg : List Nat) (ps : List Str), vs = [.ref p, .str (S sg), .ref a] ∧ Sgs sg ∧ PoolAt H p ∧ H a = some (.tup (ps.map V.str)) ∧ Prs sg ps ∧ ∀ (x : V) (H' : Hp), Px p H' x → PoolAt H' p → But p H H' → Q x H'
abbrev NSpP9 : List Str := ["_law_pool_here", "_law_abc", "_law_some", "_law_way", "_law_at", "_law_mark", "_law_odd_here"]
theorem scSpP9 : FnScope NSpP9 ["_law_pool_here", "_law_abc", "_law_some"] (defScope sRfSpP) := ⟨rfl, rfl, rfl, by decide +kernel, rfl, by decide +kernel, by decide +kernel⟩
theorem estSpP9 (a b c : V) : L2.start NSpP9 [a, b, c] = [some a, some b, some c, none, none, none, none] := rfl
section
variable {P : Program} {w : World} {K : PySem.W.Frag} {mg : Str → Option Value} {base : Heap} {f fD fO : Addr} {fd dD dO : FuncData}
set_option maxHeartbeats 8000000 in
theorem ok_sppairs (F : Fun K "_law_spoilt_pairs" "_law_spoilt_pairs" sRfSpP f fd) (D : Def K mg "_law_draw" sDraw ["_law_pool_here", "_law_many"] fD dD) (DO : Def K mg "_law_odd" Wb.sLOdd ["_law_pool_here"] fO dO) (Z : Free mg) (mL : mg "list" = none) : FnOk P w K mg base CX0 3 f fd ["_law_pool_here", "_law_abc", "_law_some"] spSpP := by
  have G : FnOk P w K mg base CX0 1 fD dD ["_law_pool_here", "_law_many"] spDraw := ok_draw D.F Z.int Z.divmod
  have GO : FnOk P w K mg base CX0 2 fO dO ["_law_pool_here"] spOddO := ok_oddO DO.F D Z
  refine F.ok scSpP9 (fun vs H Q E h => by obtain ⟨p, a, sg, ps, rfl, _⟩ := h; rfl) (fun cdv A outer s H vs Q E hr h => ?_)
  obtain ⟨p, a, sg, ps, rfl, SG, hp, ha, PS, k⟩ := h
  have hr1 : Room 1 _ := hr.mono (by decide)
  have hr2 : Room 2 _ := hr
  refine ⟨_, pss_cons (ps_par (i := 3) (j := 4) rfl scSpP9.nd rfl rfl (by decide) rfl rfl (pa_cons (pe_call G hr1 rfl D.g D.kp D.b .nil pass0 (pa_cons (pv 0) (pa_cons pe_int pa_nil)))
        (pa_cons (pe_call G hr1 rfl D.g D.kp D.b .nil pass0 (pa_cons (pv 0) (pa_cons (pe_op op_add (pe_callB call_len_seq (by rfl) Z.len PySem.boot_len (pa_cons (pv 2) pa_nil)) pe_int) pa_nil))) pa_nil)) (by rfl))
    (pss_cons (ps_set (i := 5) scSpP9.nd rfl (.inl rfl) (pe_ix ix_str (pe_op op_add_str (pv 1) pe_str) (pe_call G hr1 rfl D.g D.kp D.b .nil pass0 (pa_cons (pv 0) (pa_cons (pe_op op_add (pe_callB call_len_str (by rfl) Z.len PySem.boot_len (pa_cons (pv 1) pa_nil)) pe_int) pa_nil))) (fun _ _ => rfl)))
    (pss_cons (ps_set (i := 6) scSpP9.nd rfl (.inl rfl) (pe_ix ix_list (pe_lst (pa_cons (pe_op op_addX (pv 5) (pe_ix ix_str (pv 1) pe_int (fun _ _ => rfl))) (pa_cons (pe_op op_addX (pe_ix ix_str (pv 1) (pe_un un_neg pe_int) (fun _ _ => rfl)) (pv 5)) (pa_cons (pv 5)
        (pa_cons (pe_op op_mulS (pe_ix ix_str (pv 1) pe_int (fun _ _ => rfl)) pe_int) (pa_cons (pe_tup (pa_cons (pe_ix ix_str (pv 1) pe_int (fun _ _ => rfl)) (pa_cons (pe_ix ix_str (pv 1) pe_int (fun _ _ => rfl)) pa_nil))) pa_nil))))))
        (pe_call G hr1 rfl D.g D.kp D.b .nil pass0 (pa_cons (pv 0) (pa_cons pe_int pa_nil))) (fun _ _ => rfl)))
    (pss_cons (ps_if (pt_cmpR op_lt (pv 3) pe_int (nomark _)) (pss_one (ps_ret (pe_op (show OpR _ _ (rCatA K) from op_catA) (pe_op (show OpR _ _ (rCatA K) from op_catA) (pe_slice (show SlR _ (rSlA K) from sl_tupA) (pv 2) po_none (po_some (pv 4))) (pe_tup (pa_cons (pv 6) pa_nil))) (pe_slice (show SlR _ (rSlA K) from sl_tupA) (pv 2) (po_some (pe_op op_add (pv 4) (pe_call G hr1 rfl D.g D.kp D.b .nil pass0 (pa_cons (pv 0) (pa_cons pe_int pa_nil))))) po_none)))) pss_nil)
    (pss_cons (ps_if (pt_cmpR op_eq (pv 3) pe_int (nomark _)) (pss_one (ps_ret (pe_op (show OpR _ _ (rCatA K) from op_catA) (pe_op (show OpR _ _ (rCatA K) from op_catA) (pe_slice (show SlR _ (rSlA K) from sl_tupA) (pv 2) po_none (po_some (pv 4))) (pe_slice (show SlR _ (rSlA K) from sl_tupA) (pv 2) po_none (po_some pe_int))) (pe_slice (show SlR _ (rSlA K) from sl_tupA) (pv 2) (po_some (pv 4)) po_none)))) pss_nil)
    (pss_cons (ps_if (pt_cmpR op_eq (pv 3) pe_int (nomark _)) (pss_one (ps_ret (pe_op (show OpR _ _ (rCatA K) from op_catA) (pe_op (show OpR _ _ (rCatA K) from op_catA) (pe_slice (show SlR _ (rSlA K) from sl_tupA) (pv 2) po_none (po_some (pv 4))) (pe_tup (pa_cons (pe_call GO hr2 rfl DO.g DO.kp DO.b .nil pass0 (pa_cons (pv 0) pa_nil)) pa_nil))) (pe_slice (show SlR _ (rSlA K) from sl_tupA) (pv 2) (po_some (pv 4)) po_none)))) pss_nil)
    (pss_one (ps_ret (pe_ix ix_list (pe_lst (pa_cons (pe_callTy call_list_of (by rfl) mL (by decide +kernel) (pa_cons (pv 2) pa_nil)) (pa_cons (pe_call GO hr2 rfl DO.g DO.kp DO.b .nil pass0 (pa_cons (pv 0) pa_nil)) pa_nil))) (pe_op op_sub (pv 3) pe_int) (fun _ _ => rfl))))))))), ?_⟩
  have s4 := SG.few
  have sp := SG.pos
  have lo : ∀ c ∈ sg, c < 1000 := fun c hc => by have := SG.low c hc; omega
  have lsg : (S sg).length = sg.length := S_len sg
  have lsgx : (S sg).length ≤ sizeLine := by
    rw [lsg, sizeLine_eq]
    omega
  have few := PS.few
  refine ⟨_, rfl, p, _, rfl, by decide, by decide, hp, fun d0 G0 d00 d01 po0 c0 => ?_⟩
  have ha0 := c0 _ _ (poolT hp ha) ha
  have big : ((ps.map V.str).length : Int) ≤ 16 := by
    rw [List.length_map]
    exact_mod_cast few
  refine ⟨_, rfl, _, rfl, a, _, rfl, .inr (SqT.of ha0), _, _, rfl, rfl, p, _, rfl, by omega, by omega, po0, fun d1 G1 d10 d11 po1 c1 => ?_⟩
  refine ⟨_, _, rfl, ?_⟩
  dsimp only [estSpP9, List.set]
  have hM : ("A0z" : Str) = S [65, 48, 122] := S_eq (by decide +kernel)
  refine ⟨_, rfl, _, _, rfl, rfl, by rw [hM, lsg, S_len, sizeLine_eq]; show sg.length + 3 ≤ _; omega, ?_⟩
  rw [hM, S_add]
  refine ⟨_, rfl, _, rfl, _, rfl, lsgx, _, _, rfl, rfl, p, _, rfl, by omega, by omega, po1, fun d2 G2 d20 d21 po2 c2 => ?_⟩
  obtain ⟨i0, rfl⟩ := nat_of d00
  obtain ⟨i1, rfl⟩ := nat_of d10
  obtain ⟨i2, rfl⟩ := nat_of d20
  obtain ⟨c, hc⟩ : ∃ c, (sg ++ [65, 48, 122])[i2]? = some c := ⟨_, List.getElem?_eq_getElem (by rw [List.length_append]; show i2 < sg.length + 3; omega)⟩
  have hc1 : c < 1000 := by
    rcases List.mem_append.mp (List.mem_of_getElem? hc) with q | q
    · exact lo c q
    · simp only [List.mem_cons, List.not_mem_nil, or_false] at q
      omega
  refine ⟨_, _, c, rfl, rfl, by rw [S_len, List.length_append, sizeLine_eq]; show sg.length + 3 ≤ _; omega, by rw [S_cps]; exact atI_nat hc, ?_⟩
  dsimp only [List.set]
  have M : TxM 1 (.str ⟨#[c]⟩) := ⟨[c], rfl, Nat.le_refl _, fun d hd => by rw [List.mem_singleton.mp hd]; exact hc1⟩
  have c02 := (c0.trans c1).trans c2
  obtain ⟨e0, he0, a0⟩ : ∃ e, e ∈ sg ∧ atI sg 0 = some e := by
    cases sg with
    | nil => exact absurd sp (Nat.lt_irrefl 0)
    | cons e _ => exact ⟨e, List.mem_cons_self, atI_nat (j := 0) rfl⟩
  obtain ⟨e1, he1, a1⟩ := neg_last sp
  have one : ∀ {e}, e ∈ sg → TxM 1 (.str ⟨#[e]⟩) := fun h => ⟨[_], rfl, Nat.le_refl _, fun d hd => by rw [List.mem_singleton.mp hd]; exact lo _ h⟩
  refine ⟨_, rfl, _, rfl, _, _, e0, rfl, rfl, lsgx, by rw [S_cps]; exact a0, ?_⟩
  refine catX M (one he0) (by decide) fun w1 y1 => ?_
  refine ⟨_, rfl, _, rfl, _, _, e1, rfl, rfl, lsgx, by rw [S_cps]; exact a1, _, rfl, ?_⟩
  refine catX (one he1) M (by decide) fun w2 y2 => ?_
  refine ⟨_, rfl, _, rfl, _, _, e0, rfl, rfl, lsgx, by rw [S_cps]; exact a0, _, _, rfl, rfl, mulOk (by decide) (by show 1 * 3 ≤ _; decide) (by decide), ?_⟩
  have y4 : TxM 3 (.str (Txt.mul ⟨#[e0]⟩ 3)) := ⟨[e0, e0, e0], congrArg V.str (S_eq (by rw [mul_cps (by decide)] <;> rfl)), Nat.le_refl _, fun d hd => by
    have := lo _ he0
    simp only [List.mem_cons, List.not_mem_nil, or_false] at hd
    omega⟩
  refine ⟨_, rfl, _, _, e0, rfl, rfl, lsgx, by rw [S_cps]; exact a0, _, rfl, _, _, e0, rfl, rfl, lsgx, by rw [S_cps]; exact a0, (by show 2 ≤ sizeLine; decide), fun t ht => ?_⟩
  have v5 : Vx p (L2.upd G2 t (.tup [.str ⟨#[e0]⟩, .str ⟨#[e0]⟩])) (.ref t) := ones_vx (l := [e0, e0]) (po2.ne ht) upd_same (by show 2 ≤ 9; decide) fun d hd => by
    have := lo _ he0
    simp only [List.mem_cons, List.not_mem_nil, or_false] at hd
    omega
  have s3 := Same.put (o := .tup [.str ⟨#[e0]⟩, .str ⟨#[e0]⟩]) (Same.refl G2) ht
  generalize L2.upd G2 t (.tup [.str ⟨#[e0]⟩, .str ⟨#[e0]⟩]) = G3 at s3 v5 ⊢
  refine ⟨(by show 5 ≤ sizeLine; decide), fun L hL => ?_⟩
  have po3 := po2.same s3
  have nL := po3.ne hL
  have s4' := Same.put (o := .lst [w1, w2, .str ⟨#[c]⟩, .str (Txt.mul ⟨#[e0]⟩ 3), .ref t]) (Same.refl G3) hL
  have eL : (L2.upd G3 L (.lst [w1, w2, .str ⟨#[c]⟩, .str (Txt.mul ⟨#[e0]⟩ 3), .ref t])) L = some (.lst [w1, w2, .str ⟨#[c]⟩, .str (Txt.mul ⟨#[e0]⟩ 3), .ref t]) := upd_same
  generalize L2.upd G3 L (.lst [w1, w2, .str ⟨#[c]⟩, .str (Txt.mul ⟨#[e0]⟩ 3), .ref t]) = G4 at s4' eL ⊢
  have po4 := po3.same s4'
  have v5 := v5.same s4'
  refine ⟨_, rfl, p, _, rfl, by decide, by decide, po4, fun d5 G5 d50 d51 po5 c5 => ?_⟩
  obtain ⟨i5, rfl⟩ := nat_of d50
  obtain ⟨y, hy, vy⟩ : ∃ y, [w1, w2, .str ⟨#[c]⟩, .str (Txt.mul ⟨#[e0]⟩ 3), .ref t][i5]? = some y ∧ Vx p G5 y := by
    rcases (by omega : i5 = 0 ∨ i5 = 1 ∨ i5 = 2 ∨ i5 = 3 ∨ i5 = 4) with rfl | rfl | rfl | rfl | rfl
    · exact ⟨_, rfl, TxM.vx y1 (by decide)⟩
    · exact ⟨_, rfl, TxM.vx y2 (by decide)⟩
    · exact ⟨_, rfl, TxM.vx M (by decide)⟩
    · exact ⟨_, rfl, TxM.vx y4 (by decide)⟩
    · exact ⟨_, rfl, v5.but c5⟩
  refine ⟨L, _, _, y, rfl, rfl, SqL.of (c5 _ _ nL eL), atI_nat hy, ?_⟩
  dsimp only [List.set]
  have c05 : But p H G5 := ((c02.trans (But.of s3)).trans (But.of s4')).trans c5
  clear c5 v5 hy eL s4' s3 c02 y4 y1 y2 M a0 a1
  have ha5 := c05 _ _ (poolT hp ha) ha
  have t5 : TupG (Vx p) G5 16 (.ref a) := ⟨a, _, rfl, ha5, by rw [List.length_map]; exact few, pair_vx SG PS⟩
  have fin : ∀ {H' : Hp} {n : Nat} {r : V}, n ≤ 99 → But p G5 H' → PoolAt H' p → TupG (Vx p) H' n r → Q r H' := fun l b po t => k _ _ (tup_px po t l) po (c05.trans b)
  have put1 : ∀ {G : Hp} {b : Addr} {o : HO}, G b = none → Same G (L2.upd G b o) := fun n => Same.put (Same.refl _) n
  refine ⟨_, rfl, _, _, rfl, rfl, _, rfl, ite2 (fun q1 => ?_) (fun q1 => ?_)⟩
  · refine ⟨_, rfl, _, rfl, _, rfl, slW monoV t5 fun r1 H3 s3 t3 => ⟨_, rfl, by show 1 ≤ sizeLine; decide, fun b hb => ?_⟩⟩
    have s4 := s3.trans (Same.put (o := .tup [y]) (Same.refl H3) hb)
    refine catW monoV (t3.same monoV (put1 hb)) (oneW monoV (vy.same s3) hb) (by decide) fun r5 H5 s5 t55 => ?_
    have s55 := s4.trans s5
    have po6 := po5.same s55
    refine ⟨_, rfl, _, rfl, _, rfl, p, _, rfl, by decide, by decide, po6, fun d6 G6 d60 d61 po7 c7 => ?_⟩
    have c57 := (But.of (p := p) s55).trans c7
    refine ⟨_, _, rfl, rfl, _, rfl, ?_⟩
    dsimp only [tNoPart]
    refine slW monoV (TupV.but po5 t5 c57) fun r6 H6 s6 t6 => ?_
    exact catW monoV ((TupV.but po6 t55 c7).same monoV s6) t6 (by decide) fun r7 H7 s7 t7 => fin (by decide) (c57.trans (But.of (s6.trans s7))) (po7.same (s6.trans s7)) t7
  refine ⟨_, rfl, rfl, _, rfl, ite2 (fun q2 => ?_) (fun q2 => ?_)⟩
  · refine ⟨_, rfl, _, rfl, _, rfl, slW monoV t5 fun r1 H3 s3 t3 => ⟨_, rfl, _, rfl, slW1 monoV (t5.same monoV s3) fun r2 H4 s4 t4 => ?_⟩⟩
    refine catW monoV (t3.same monoV s4) t4 (by decide) fun r5 H5 s5 t55 => ?_
    have s25 := (s3.trans s4).trans s5
    refine ⟨_, rfl, _, rfl, _, rfl, ?_⟩
    dsimp only [tNoPart]
    refine slW monoV (t5.same monoV s25) fun r6 H6 s6 t6 => ?_
    exact catW monoV (t55.same monoV s6) t6 (by decide) fun r7 H7 s7 t7 => fin (by decide) (But.of ((s25.trans s6).trans s7)) (po5.same ((s25.trans s6).trans s7)) t7
  refine ⟨_, rfl, rfl, _, rfl, ite2 (fun q3 => ?_) (fun q3 => ?_)⟩
  · refine ⟨_, rfl, _, rfl, _, rfl, slW monoV t5 fun r1 H3 s3 t3 => ⟨_, rfl, p, rfl, po5.same s3, fun x G6 hx po6 c6 => ⟨by show 1 ≤ sizeLine; decide, fun b hb => ?_⟩⟩⟩
    have s7 := Same.put (o := .tup [x]) (Same.refl G6) hb
    refine catW monoV ((TupV.but (po5.same s3) t3 c6).same monoV s7) (oneW monoV (ValO.vx hx) hb) (by decide) fun r5 H5 s5 t55 => ?_
    have c5 := (((But.of (p := p) s3).trans c6).trans (But.of s7)).trans (But.of s5)
    have po7 := (po6.same s7).same s5
    refine ⟨_, rfl, _, rfl, _, rfl, ?_⟩
    dsimp only [tNoPart]
    refine slW monoV (TupV.but po5 t5 c5) fun r6 H6 s6 t6 => ?_
    exact catW monoV (t55.same monoV s6) t6 (by decide) fun r7 H7 s8 t7 => fin (by decide) (c5.trans (But.of (s6.trans s8))) (po7.same (s6.trans s8)) t7
  have i67 : i0 = 6 ∨ i0 = 7 := by
    have z1 : ¬ ((i0 : Int) < 4) := fun z => q1 (decide_eq_true z)
    have z2 : ¬ (i0 = 4) := fun z => q2 (decide_eq_true (by rw [z] <;> rfl))
    have z3 : ¬ (i0 = 5) := fun z => q3 (decide_eq_true (by rw [z] <;> rfl))
    omega
  refine ⟨_, rfl, a, _, rfl, .inr (SqT.of ha5), fun F hF => ?_⟩
  have nF := po5.ne hF
  have s6 := Same.put (o := .lst (ps.map V.str)) (Same.refl G5) hF
  have eF : (L2.upd G5 F (.lst (ps.map V.str))) F = some (.lst (ps.map V.str)) := upd_same
  generalize L2.upd G5 F (.lst (ps.map V.str)) = G6 at s6 eF ⊢
  refine ⟨_, rfl, p, rfl, po5.same s6, fun x G7 hx po7 c7 => ⟨by show 2 ≤ sizeLine; decide, fun L8 hL8 => ?_⟩⟩
  have s8 := Same.put (o := .lst [.ref F, x]) (Same.refl G7) hL8
  have e8 : (L2.upd G7 L8 (.lst [.ref F, x])) L8 = some (.lst [.ref F, x]) := upd_same
  generalize L2.upd G7 L8 (.lst [.ref F, x]) = G8 at s8 e8 ⊢
  have c8 := (c05.trans (But.of s6)).trans (c7.trans (But.of s8))
  have c68 := c7.trans (But.of s8)
  have po8 := po7.same s8
  refine ⟨_, rfl, _, _, rfl, rfl, ?_⟩
  rcases i67 with rfl | rfl
  · exact ⟨L8, _, _, .ref F, rfl, rfl, SqL.of e8, atI_nat (j := 0) rfl, k _ _ (lst_px nF (c68 _ _ nF eF) (by rw [List.length_map]; omega) (pair_vx SG PS)) po8 c8⟩
  · exact ⟨L8, _, _, x, rfl, rfl, SqL.of e8, atI_nat (j := 1) rfl, k _ _ (Vx.px ((ValO.vx hx).same s8)) po8 c8⟩
end
end Ke
/-! _law_row_due: what a row is owed -/
namespace Ke
open PySem L2 PySem.Spec PyProof.Rows WbMin WbS Lz Wb Le
open Lg
abbrev sRfRowDue : Stmt := top 53
theorem scRd9 : FnScope ["_law_thing"] ["_law_thing"] (defScope sRfRowDue) := ⟨rfl, rfl, rfl, by decide +kernel, rfl, by decide +kernel, by decide +kernel⟩
def wdB : Bool → Str
  | true => "nothing"
  | false => "row"
def kpB (d : PyData) : Bool → PyData
  | true => plainD .none
  | false => d
def spRwDue9 (K : PySem.W.Frag) : Sp := fun vs H Q _ => ∃ (x : V) (d : PyData) (b : Bool), vs = [x] ∧ RowK H x b ∧ Thing H 7 x d ∧ TellR K H (wdB b) (kpB d b) Q
theorem thing_two {H : Hp} {t : Addr} {x0 x1 : V} {d : PyData} {n : Nat} (th : Thing H (n + 1) (.ref t) d) (h : H t = some (.tup [x0, x1])) : ∃ d0, Thing H n x0 d0 := by
  rcases th with lf | ⟨a, xs, ds, e, ha, _⟩ | ⟨a, xs, ds, e, ha, _, b, _⟩ | ⟨a, ks, xs, ds, e, ha, _⟩
  · cases lf
  · cases e
    rw [h] at ha
    cases ha
  · cases e
    rw [h] at ha
    injection ha with ha
    injection ha with ha
    subst ha
    cases b with
    | cons h1 _ => exact ⟨_, h1⟩
  · cases e
    rw [h] at ha
    cases ha
theorem first_word {K : PySem.W.Frag} {H : Hp} {a : Addr} {wd : Str} {d : PyData} (h : Dp K H (.ref a) (.list [.str wd, d])) : ∃ v1, SqL K H a [.str wd, v1] := by
  cases h with
  | lst h1 h2 =>
    cases h2 with
    | cons q r =>
      cases q
      cases r with
      | cons q2 r2 =>
        cases r2
        exact ⟨_, h1⟩
theorem eqv_lists (xs ys : List Str) : PyData.eqv (.list (xs.map PyData.str)) (.list (ys.map PyData.str)) = decide (xs = ys) := eqvAll_strs xs ys
theorem sh_list {ps : List Str} (h2 : ∀ z ∈ ps, PyData.strOk z = true) : SeqAt.shaped (.list (ps.map PyData.str)) = true := by
  have e1 : PyData.canLay0 (.list (ps.map PyData.str)) = true := can_strs h2
  have e2 : PyData.depth (.list (ps.map PyData.str)) ≤ 64 := by
    show PyData.depthAll (ps.map PyData.str) + 1 ≤ 64
    rw [depthAll_strs]
    decide
  unfold SeqAt.shaped
  rw [e1, decide_eq_true e2] <;> rfl
section
variable {P : Program} {w : World} {K : PySem.W.Frag} {mg : Str → Option Value} {base : Heap} {f fF fD fB fW : Addr} {fd dF dD dB dW : FuncData}
set_option maxHeartbeats 8000000 in
theorem ok_rfrow (F : Fun K "_law_row_due" "_law_row_due" sRfRowDue f fd) (Z : Free mg) (ZT : FreeT mg) (mS : mg "sorted" = none) (mL : mg "list" = none) (DF : Def K mg "_law_face" sFace ["_law_thing"] fF dF) (DD : Def K mg "_law_due" sRfDue ["_law_abc", "_law_some"] fD dD) (DB : Def K mg "_law_bad_signs" sBadSigns ["_law_abc"] fB dB) (DW : Def K mg "_law_is_word" sLIsWord ["_law_thing", "_law_abc"] fW dW) : FnOk P w K mg base CX0 10 f fd ["_law_thing"] (spRwDue9 K) := by
  have GF : FnOk P w K mg base CX0 8 fF dF ["_law_thing"] (spFace K 7) := ok_face DF ZT 7
  have GD : FnOk P w K mg base CX0 9 fD dD ["_law_abc", "_law_some"] (spKDue9 K) := ok_rfdue DD.F Z ZT DF DB DW
  refine F.ok scRd9 (fun vs H Q E h => by obtain ⟨x, d, b, rfl, _⟩ := h; rfl) (fun cdv A outer s H vs Q E hr h => ?_)
  obtain ⟨x, d, b, rfl, rk, th, k⟩ := h
  have hrF : Room 8 _ := hr.mono (by decide)
  have hrD : Room 9 _ := hr
  refine ⟨_, pss_cons (ps_if (PW.pt (pw_and (pt_val (pe_callB call_isi (by rfl) Z.isi (by decide +kernel) (pa_cons (pv 0) (pa_cons (pe_bltn (v := .ty "tuple") (u := .type "tuple") (by rfl) ZT.tup (by decide +kernel) rfl) pa_nil)))) (pw_and (pt_cmpR op_eq (pe_callB call_len_seq (by rfl) Z.len PySem.boot_len (pa_cons (pv 0) pa_nil)) pe_int (nomark _)) (pw_and1 (pt_cmpR op_notN (pe_ix ix_tup (pv 0) pe_int (fun _ _ => rfl)) pe_non (nomark _))))))
      (pss_one (ps_if (pt_cmpR op_eq (pe_ix ix_list (pe_call GD hrD rfl DD.g DD.kp DD.b .nil pass0 (pa_cons (pe_ix ix_tup (pv 0) pe_int (fun _ _ => rfl)) (pa_cons (pe_ix ix_tup (pv 0) pe_int (fun _ _ => rfl)) pa_nil))) pe_int (fun _ _ => rfl)) pe_str (nomark _))
        (pss_one (ps_if (PW.pt (pw_and (pt_cmpR op_eq (pe_ix ix_tup (pv 0) pe_int (fun _ _ => rfl)) (pe_join pe_str (pe_callB (call_sortedTx rfl) (by rfl) mS (by decide +kernel) (pa_cons (pe_ix ix_tup (pv 0) pe_int (fun _ _ => rfl)) pa_nil))) (nomark _))
            (pw_and1 (pt_cmpR (op_eqD hr.units) (pe_callTy call_list_of (by rfl) mL (by decide +kernel) (pa_cons (pe_ix ix_tup (pv 0) pe_int (fun _ _ => rfl)) pa_nil)) (pe_callB call_sortedTup (by rfl) mS (by decide +kernel) (pa_cons (pe_ix ix_tup (pv 0) pe_int (fun _ _ => rfl)) pa_nil)) (nomark _)))))
          (pss_one (ps_ret (pe_lst (pa_cons pe_str (pa_cons (pe_call GF hrF rfl DF.g DF.kp DF.b .nil pass0 (pa_cons pe_non pa_nil)) pa_nil))))) pss_nil)) pss_nil)) pss_nil)
    (pss_one (ps_ret (pe_lst (pa_cons pe_str (pa_cons (pe_call GF hrF rfl DF.g DF.kp DF.b .nil pass0 (pa_cons (pv 0) pa_nil)) pa_nil))))), ?_⟩
  have fin : ∀ (wd : Str) (dv : PyData) (G : Hp), Same H G → TellR K H wd dv Q → ∀ (b : Addr) (G1 : Hp), G b = none → Same G G1 → Dp K (New G G1) (.ref b) dv → ∀ a, G1 a = none → Q (.ref a) (upd G1 a (.lst [.str wd, .ref b])) := fun wd dv G s1 told b G1 _ s2 d2 a ha => by
    have s3 := s1.trans s2
    refine told a _ (free_of s3 ha) (Same.new2 s3 (free_of s3 ha)) (.lst (SqL.of ((New.at (free_of s3 ha)).trans upd_same)) (.cons (.str _) (.cons (Dp.stay (New.mono fun c u h1 h2 => ⟨free_of s1 h1, ?_⟩) d2) .nil)))
    rw [upd_ne (ne_of_none h2 ha)]
    exact h2
  have non7 : ∀ {G : Hp}, Thing G 7 .non (plainD .none) := .inl .non
  have row : ∀ {G : Hp}, Same H G → b = false → ∀ (c : Addr) (G1 : Hp), G c = none → Same G G1 → Dp K (New G G1) (.ref c) d → ∀ a, G1 a = none → Q (.ref a) (upd G1 a (.lst [.str "row", .ref c])) := fun s e => by
    subst e
    exact fin _ _ _ s k
  cases rk with
  | one h =>
    obtain ⟨ty, h1, h2⟩ := odd1_tup K h
    refine ⟨_, rfl, _, _, ty, .type "tuple", false, rfl, .ty "tuple", h1, h2, false, rfl, ?_⟩
    exact ⟨_, rfl, _, d, rfl, th, fun c G1 n s e => ⟨(by show 2 ≤ sizeLine; decide), fun a ha => row (Same.refl H) rfl c G1 n s e a ha⟩⟩
  | @len t xs h n =>
    refine ⟨_, rfl, _, _, .type "tuple", .type "tuple", true, rfl, .ty "tuple", .base (.tup h), kit_ty (by decide +kernel), true, rfl, ?_⟩
    refine ⟨_, rfl, t, _, rfl, .inr (SqT.of h), rfl, _, rfl, ?_⟩
    rw [decide_eq_false (show ¬ V.int (xs.length : Nat) = V.int 2 from fun y => n (by injection y with y; exact_mod_cast y))]
    exact ⟨_, rfl, _, d, rfl, th, fun c G1 n s e => ⟨(by show 2 ≤ sizeLine; decide), fun a ha => row (Same.refl H) rfl c G1 n s e a ha⟩⟩
  | @bad t x0 x1 i v h a wh due =>
    refine ⟨_, rfl, _, _, .type "tuple", .type "tuple", true, rfl, .ty "tuple", .base (.tup h), kit_ty (by decide +kernel), true, rfl, ?_⟩
    refine ⟨_, rfl, t, _, rfl, .inr (SqT.of h), rfl, _, rfl, ?_⟩
    refine ⟨_, rfl, t, _, _, x1, rfl, rfl, SqT.of h, atI_nat (j := 1) rfl, rfl, _, rfl, ?_⟩
    obtain ⟨d0, th0⟩ := thing_two th h
    by_cases nn : x1 = .non
    · rw [decide_eq_true nn]
      exact ⟨_, rfl, _, d, rfl, th, fun c G1 n s e => ⟨(by show 2 ≤ sizeLine; decide), fun a ha => row (Same.refl H) rfl c G1 n s e a ha⟩⟩
    rw [decide_eq_false nn]
    refine ⟨_, rfl, t, _, _, x0, rfl, rfl, SqT.of h, atI_nat (j := 0) rfl, _, rfl, t, _, _, x1, rfl, rfl, SqT.of h, atI_nat (j := 1) rfl, x0, x1, d0, _, rfl, a, th0.up, wh, due, fun q H1 nq s1 dq => ?_⟩
    obtain ⟨v1, hq⟩ := first_word (Dp.stay New.sub dq)
    refine ⟨q, _, _, _, rfl, rfl, hq, atI_nat (j := 0) rfl, rfl, _, rfl, ?_⟩
    have ne : ¬ V.str (wdO (some (i, v))) = V.str "nothing" := fun e => by
      injection e with e
      match i, e with
      | 0, e => exact absurd e (show ¬ ("signs" : Str) = "nothing" by decide +kernel)
      | 1, e => exact absurd e (show ¬ ("pairs" : Str) = "nothing" by decide +kernel)
      | _ + 2, e => exact absurd e (show ¬ ("row" : Str) = "nothing" by decide +kernel)
    rw [decide_eq_false ne]
    exact iteF ⟨_, rfl, _, d, rfl, th.same s1, fun c G1 n s e => ⟨(by show 2 ≤ sizeLine; decide), fun a ha => row s1 rfl c G1 n s e a ha⟩⟩
  | @non t sg h G =>
    refine ⟨_, rfl, _, _, .type "tuple", .type "tuple", true, rfl, .ty "tuple", .base (.tup h), kit_ty (by decide +kernel), true, rfl, ?_⟩
    refine ⟨_, rfl, t, _, rfl, .inr (SqT.of h), rfl, _, rfl, ?_⟩
    refine ⟨_, rfl, t, _, _, .non, rfl, rfl, SqT.of h, atI_nat (j := 1) rfl, rfl, _, rfl, ?_⟩
    exact ⟨_, rfl, _, d, rfl, th, fun c G1 n s e => ⟨(by show 2 ≤ sizeLine; decide), fun a ha => row (Same.refl H) rfl c G1 n s e a ha⟩⟩
  | @row t t1 sg ps h h1 G Gp =>
    refine ⟨_, rfl, _, _, .type "tuple", .type "tuple", true, rfl, .ty "tuple", .base (.tup h), kit_ty (by decide +kernel), true, rfl, ?_⟩
    refine ⟨_, rfl, t, _, rfl, .inr (SqT.of h), rfl, _, rfl, ?_⟩
    refine ⟨_, rfl, t, _, _, .ref t1, rfl, rfl, SqT.of h, atI_nat (j := 1) rfl, rfl, _, rfl, ?_⟩
    obtain ⟨d0, th0⟩ := thing_two th h
    have few := G.few
    have few' := Gp.few
    have ha : Sor H (.str (S sg)) := .inl ⟨sg, rfl, ⟨by rw [S_len, sizeLine_eq]; omega, sok G⟩⟩
    have q2 := pok G Gp.of
    have wh : Lg.Wh H (.ref t1) := .tup h1 (by rw [List.length_map]; omega) (fun y hy => by
      obtain ⟨z, hz, rfl⟩ := List.mem_map.mp hy
      obtain ⟨a, b, _, _, rfl⟩ := Gp.of z hz
      exact .one (.str (by rw [S_len, sizeLine_eq]; show 2 ≤ _; decide))) fun y hy z e => by
      obtain ⟨z', hz, rfl⟩ := List.mem_map.mp hy
      injection e with e
      rw [← e]
      exact q2 _ hz
    refine ⟨_, rfl, t, _, _, _, rfl, rfl, SqT.of h, atI_nat (j := 0) rfl, _, rfl, t, _, _, .ref t1, rfl, rfl, SqT.of h, atI_nat (j := 1) rfl, _, .ref t1, d0, none, rfl, ha, th0.up, wh, .ok rfl G (fun _ => prW_good h1 Gp), fun q H1 nq s1 dq => ?_⟩
    obtain ⟨v1, hq⟩ := first_word (Dp.stay New.sub dq)
    refine ⟨q, _, _, _, rfl, rfl, hq, atI_nat (j := 0) rfl, rfl, _, rfl, ?_⟩
    rw [decide_eq_true (show V.str (wdO none) = V.str "nothing" from rfl)]
    refine iteT ?_
    have h' := s1 _ _ h
    have h1' := s1 _ _ h1
    refine ⟨_, rfl, t, _, _, _, rfl, rfl, SqT.of h', atI_nat (j := 0) rfl, ⟨_, rfl⟩, _, rfl, t, _, _, _, rfl, rfl, SqT.of h', atI_nat (j := 0) rfl, S sg, rfl, by rw [S_len]; omega, fun ys p perm srt hp' => ?_⟩
    rw [S_cps] at perm
    obtain ⟨sg1, hsg1, rfl⟩ := perm_codes perm
    have sl := hsg1.length_eq
    refine ⟨_, p, sg1.map sOne, rfl, rfl, .inl (SqL.of upd_same), ?_, ?_⟩
    · have e1 : ((sg1.map sOne).map fun x => x.length) = List.replicate sg1.length 1 := by
        rw [List.map_map]
        exact List.map_eq_replicate_iff.mpr fun _ _ => rfl
      have e2 : (Str.ofString "").length = 0 := by decide +kernel
      rw [e1, e2, List.sum_replicate_nat]
      omega
    have ej : Txt.join (Str.ofString "") (sg1.map sOne) = S sg1 := join_one (by rw [sl]; exact G.pos)
    rw [ej]
    have s2 := s1.trans (Same.put (o := .lst ((sg1.map sOne).map V.str)) (Same.refl H1) hp')
    generalize L2.upd H1 p (.lst ((sg1.map sOne).map V.str)) = H2 at s2 ⊢
    refine ⟨rfl, _, rfl, ?_⟩
    by_cases es : S sg = S sg1
    · have es' := S_inj es
      subst es'
      rw [decide_eq_true rfl]
      refine iteT ?_
      have h'' := s2 _ _ h
      have h1'' := s2 _ _ h1
      refine ⟨_, rfl, t, _, _, _, rfl, rfl, SqT.of h'', atI_nat (j := 1) rfl, t1, _, rfl, .inr (SqT.of h1''), fun L hL => ?_⟩
      have s3 := s2.trans (Same.put (o := .lst (ps.map V.str)) (Same.refl H2) hL)
      have eL : (L2.upd H2 L (.lst (ps.map V.str))) L = some (.lst (ps.map V.str)) := upd_same
      generalize L2.upd H2 L (.lst (ps.map V.str)) = H3 at s3 eL ⊢
      refine ⟨_, rfl, t, _, _, _, rfl, rfl, SqT.of (s3 _ _ h), atI_nat (j := 1) rfl, t1, ps, rfl, SqT.of (s3 _ _ h1), by omega, fun ys p2 perm2 srt2 hp2 => ?_⟩
      have s4 := s3.trans (Same.put (o := .lst (ys.map V.str)) (Same.refl H3) hp2)
      have eL4 := (Same.put (o := .lst (ys.map V.str)) (Same.refl H3) hp2) _ _ eL
      have ep : (L2.upd H3 p2 (.lst (ys.map V.str))) p2 = some (.lst (ys.map V.str)) := upd_same
      generalize L2.upd H3 p2 (.lst (ys.map V.str)) = H4 at s4 eL4 ep ⊢
      have q4 : ∀ z ∈ ys, PyData.strOk z = true := fun z hz => q2 z (perm2.mem_iff.mp hz)
      refine ⟨.list (ps.map PyData.str), .list (ys.map PyData.str), .lst (SqL.of eL4) (dp_strs ps), .lst (SqL.of ep) (dp_strs ys), sh_list q2, sh_list q4, _, rfl, ?_⟩
      rw [eqv_lists]
      by_cases ey : ps = ys
      · subst ey
        rw [decide_eq_true rfl]
        have e : (PyProof.Rows.sortedS (sg.map sOne) && PyProof.Rows.sortedS ps) = true := by rw [srt, srt2] <;> rfl
        rw [e] at k
        exact ⟨.non, _, rfl, non7, fun c G1 n s e => ⟨(by show 2 ≤ sizeLine; decide), fun a ha => fin _ _ _ s4 k c G1 n s e a ha⟩⟩
      · rw [decide_eq_false ey]
        have bf : (PyProof.Rows.sortedS (sg.map sOne) && PyProof.Rows.sortedS ps) = false := by
          cases q2 : PyProof.Rows.sortedS ps with
          | false => rw [Bool.and_false]
          | true => exact absurd (sorted_same q2 srt2 perm2.symm) ey
        exact ⟨_, rfl, _, d, rfl, th.same s4, fun c G1 n s e => ⟨(by show 2 ≤ sizeLine; decide), fun a ha => row s4 bf c G1 n s e a ha⟩⟩
    · rw [decide_eq_false (fun e => es (by injection e))]
      have bf : (PyProof.Rows.sortedS (sg.map sOne) && PyProof.Rows.sortedS ps) = false := by
        cases q1 : PyProof.Rows.sortedS (sg.map sOne) with
        | false => rfl
        | true => exact absurd (congrArg S (sg_same q1 srt hsg1.symm (.refl _))) es
      exact ⟨_, rfl, _, d, rfl, th.same s2, fun c G1 n s e => ⟨(by show 2 ≤ sizeLine; decide), fun a ha => row s2 bf c G1 n s e a ha⟩⟩
end
end Ke
/-! things that rows are made of; facts without the heap's tables -/
namespace Ke
open PySem L2 PySem.Spec PyProof.Rows WbMin WbS Lz Wb Le LamX
open Lj
open Lg hiding int_lt keepA keep5 cut_at sLOdd
section
variable {H H' : Hp} {v x : V}
theorem no_same : Same (noT H) H := fun _ _ h => (noT_inv h).1
theorem no_odd (h : Odd1 H v) : Odd1 (noT H) v := by
  cases h with
  | str f => exact .str f
  | int i => exact .int i
  | non => exact .non
  | bl b => exact .bl b
  | lst h => exact .lst (noT_at h fun _ q => by cases q)
  | dK h => exact .dK (noT_at h fun _ q => by cases q)
theorem no_so (h : So H v) : So (noT H) v := by
  cases h with
  | one h => exact .one (no_odd h)
  | tup h => exact .tup (noT_at h fun _ q => by cases q)
theorem no_top (h : TopS H v) : TopS (noT H) v := by
  cases h with
  | one h => exact .one (no_odd h)
  | tup h l r => exact .tup (noT_at h fun _ q => by cases q) l fun y hy => no_so (r y hy)
theorem no_wh (h : Lg.Wh H v) : Lg.Wh (noT H) v := by
  cases h with
  | one h => exact .one (no_odd h)
  | tup h l r c => exact .tup (noT_at h fun _ q => by cases q) l (fun y hy => no_top (r y hy)) c
theorem no_deep (h : Deep H v) : Deep (noT H) v := by
  rcases h with h | ⟨t, xs, e, h, r⟩
  · exact .inl (no_odd h)
  · exact .inr ⟨t, xs, e, noT_at h (fun _ q => by cases q), fun y hy => no_wh (r y hy)⟩
theorem no_nei (h : Neither H v) : Neither (noT H) v := by
  cases h with
  | non => exact .non
  | bl b => exact .bl b
  | lst h => exact .lst (noT_at h fun _ q => by cases q)
  | tup h => exact .tup (noT_at h fun _ q => by cases q)
  | dK h => exact .dK (noT_at h fun _ q => by cases q)
theorem no_sor (h : Sor H v) : Sor (noT H) v := h.imp id (Or.imp id no_nei)
theorem no_due {sV pV : V} {o : Option (Nat × V)} (hp : Lg.Wh H pV) (h : KDue H sV pV o) : KDue (noT H) sV pV o := by
  have e : ∀ sg, prW (noT H) sg pV = prW H sg pV := fun sg => (prW_same (no_wh hp) no_same).symm
  cases h with
  | sg h => exact .sg h
  | pr h G nn q => exact .pr h G nn ((e _).trans q)
  | ok h G q => exact .ok h G fun nn => (e _).trans (q nn)
theorem no_row {b : Bool} (h : RowK H x b) : RowK (noT H) x b := by
  cases h with
  | one h => exact .one (no_odd h)
  | len h n => exact .len (noT_at h fun _ q => by cases q) n
  | bad h a wh due => exact .bad (noT_at h (fun _ q => by cases q)) (no_sor a) (no_wh wh) (no_due wh due)
  | non h G => exact .non (noT_at h fun _ q => by cases q) G
  | row h h1 G Gp => exact .row (noT_at h (fun _ q => by cases q)) (noT_at h1 (fun _ q => by cases q)) G Gp
end
/-- a thing that stands in a row -/
def Tv (H : Hp) (x : V) : Prop := (∃ d, Thing H 6 x d ∧ d.canLay0 = true ∧ PyData.depth d ≤ 61) ∧ Lg.Wh H x ∧ (∀ z, x = .str z → PyData.strOk z = true) ∧ Deep H x
theorem Tv.same {H H' : Hp} {x : V} (h : Tv H x) (s : Same H H') : Tv H' x := ⟨h.1.imp fun _ z => ⟨z.1.same s, z.2⟩, h.2.1.same s, h.2.2.1, h.2.2.2.same s⟩
theorem Tv.xt {H H' : Hp} {x : V} (h : Tv H x) (s : Xt H H') : Tv H' x := Tv.same (H := noT H) ⟨h.1.imp fun _ z => ⟨z.1.noT, z.2⟩, no_wh h.2.1, h.2.2.1, no_deep h.2.2.2⟩ s
theorem Px.tv {p : Addr} {H : Hp} {x : V} (h : Px p H x) : Tv H x := Tv.same (H := cut H p) h (cutH_to fun _ _ _ e => e)
theorem Tv.sor {H : Hp} {x : V} (h : Tv H x) : Sor H x := sor_wh h.2.1 h.2.2.1
/-- a row and its face -/
structure Rv (H : Hp) (x : V) (b : Bool) (d : PyData) : Prop where
  k : RowK H x b
  th : Thing H 7 x d
  lay : d.canLay0 = true
  dep : PyData.depth d ≤ 62
theorem Rv.same {H H' : Hp} {x : V} {b : Bool} {d : PyData} (h : Rv H x b d) (s : Same H H') : Rv H' x b d := ⟨h.k.same s, h.th.same s, h.lay, h.dep⟩
theorem Rv.xt {H H' : Hp} {x : V} {b : Bool} {d : PyData} (h : Rv H x b d) (s : Xt H H') : Rv H' x b d := Rv.same (H := noT H) ⟨no_row h.k, h.th.noT, h.lay, h.dep⟩ s
theorem facesT {H : Hp} : ∀ {xs : List V}, (∀ y ∈ xs, Tv H y) → ∃ ds, Both (Thing H 6) xs ds ∧ PyData.canLayAll0 ds = true ∧ PyData.depthAll ds ≤ 61
  | [], _ => ⟨[], .nil, rfl, Nat.zero_le _⟩
  | x :: xs, h => by
    obtain ⟨d, h1, h2, h3⟩ := (h x List.mem_cons_self).1
    obtain ⟨ds, b, c, e⟩ := facesT fun y hy => h y (List.mem_cons_of_mem _ hy)
    refine ⟨d :: ds, .cons h1 b, ?_, ?_⟩
    · show (d.canLay0 && PyData.canLayAll0 ds) = true
      rw [h2, c] <;> rfl
    · show max (PyData.depth d) (PyData.depthAll ds) ≤ 61
      omega
theorem rowk_two {H : Hp} {t : Addr} {x0 x1 : V} (h : H t = some (.tup [x0, x1])) (ha : Sor H x0) (wh : Lg.Wh H x1) : ∃ b, RowK H (.ref t) b := by
  obtain ⟨o, due⟩ := kdue_ex (pV := x1) ha
  cases o with
  | some iv => exact ⟨_, .bad h ha wh due⟩
  | none =>
    cases due with
    | ok h0 G e =>
      subst h0
      by_cases nn : x1 = .non
      · subst nn
        exact ⟨_, .non h G⟩
      · obtain ⟨t1, ps, rfl, h1, Gp⟩ := good_pairs G wh (e nn)
        exact ⟨_, .row h h1 G Gp⟩
theorem face_tup {H : Hp} {t : Addr} {xs : List V} (h : H t = some (.tup xs)) (l : xs.length ≤ 9) (r : ∀ y ∈ xs, Tv H y) : ∃ d, Thing H 7 (.ref t) d ∧ d.canLay0 = true ∧ PyData.depth d ≤ 62 := by
  obtain ⟨ds, b, c, q⟩ := facesT r
  refine ⟨_, .inr (.inr (.inl ⟨t, xs, ds, rfl, h, by omega, b, rfl⟩)), ?_, ?_⟩
  · show (PyData.strOk "tuple" && PyData.canLayAll0 ds) = true
    have e : PyData.strOk "tuple" = true := by decide +kernel
    rw [e, c] <;> rfl
  · show max 0 (PyData.depthAll ds) + 1 ≤ 62
    omega
theorem rv_two {H : Hp} {t : Addr} {x0 x1 : V} (h : H t = some (.tup [x0, x1])) (h0 : Tv H x0) (h1 : Tv H x1) : ∃ b d, Rv H (.ref t) b d := by
  obtain ⟨b, k⟩ := rowk_two h h0.sor h1.2.1
  obtain ⟨d, q1, q2, q3⟩ := face_tup h (by show 2 ≤ 9; decide) fun y hy => by
    rcases List.mem_cons.mp hy with rfl | hy
    · exact h0
    · rw [List.mem_singleton.mp hy]
      exact h1
  exact ⟨b, d, k, q1, q2, q3⟩
theorem rv_len {H : Hp} {t : Addr} {xs : List V} (h : H t = some (.tup xs)) (l : xs.length ≤ 9) (n : xs.length ≠ 2) (r : ∀ y ∈ xs, Tv H y) : ∃ b d, Rv H (.ref t) b d := by
  obtain ⟨d, q1, q2, q3⟩ := face_tup h l r
  exact ⟨_, d, .len h n, q1, q2, q3⟩
theorem rv_lst {H : Hp} {t : Addr} {x0 x1 : V} (h : H t = some (.lst [x0, x1])) (h0 : Tv H x0) (h1 : Tv H x1) : ∃ b d, Rv H (.ref t) b d := by
  obtain ⟨ds, b, c, q⟩ := facesT (H := H) (xs := [x0, x1]) fun y hy => by
    rcases List.mem_cons.mp hy with rfl | hy
    · exact h0
    · rw [List.mem_singleton.mp hy]
      exact h1
  refine ⟨_, _, .one (.lst h), .inr (.inl ⟨t, _, ds, rfl, h, by show 2 ≤ 1000; decide, b, rfl⟩), ?_, ?_⟩
  · show (PyData.strOk "list" && PyData.canLayAll0 ds) = true
    have e : PyData.strOk "list" = true := by decide +kernel
    rw [e, c] <;> rfl
  · show max 0 (PyData.depthAll ds) + 1 ≤ 62
    omega
theorem rv_self {H : Hp} {x : V} (h : Tv H x) : ∃ b d, Rv H x b d := by
  obtain ⟨⟨d, d1, d2, d3⟩, wh, _, deep⟩ := h
  have fin : ∀ {b}, RowK H x b → ∃ b d, Rv H x b d := fun {b} k => ⟨b, d, k, d1.up, d2, by omega⟩
  rcases deep with ho | ⟨t, xs, rfl, ht, r⟩
  · exact fin (.one ho)
  · by_cases n : xs.length = 2
    · match xs, n with
      | [x0, x1], _ =>
        have c : ∀ z, x0 = .str z → PyData.strOk z = true := by
          cases wh with
          | one h =>
            cases h with
            | lst h => rw [ht] at h; cases h
            | dK h => rw [ht] at h; cases h
          | tup h l r2 c =>
            rw [ht] at h
            injection h with h
            injection h with h
            subst h
            exact c x0 List.mem_cons_self
        obtain ⟨b, k⟩ := rowk_two ht (sor_wh (r x0 List.mem_cons_self) c) (r x1 (List.mem_cons_of_mem _ List.mem_cons_self))
        exact fin k
    · exact fin (.len ht n)
end Ke
/-! a classmethod by name -/
namespace Ke
open PySem PySem.Spec PyProof.Rows L2
section
variable {X : Cx} {CX : CXT} {k i n : Nat} {C f p g : Addr} {mc : Value} {fd : FuncData} {ps ks : List Str} {ds : List Value} {dvs : List V} {sp : Sp} {E : XK} {x m : Str} {pp pos apos : Pos} {e o : Expr} {es : List Expr} {kws : List Keyword} {t tk : TA} {ta : TE} {gg : List Value → List Value → List Value} {gV : List V → List V → List V} {pl : Sem Bool}
/-- C.m(k = v), m a classmethod -/
def tCMethQ (C : Addr) (sp : Sp) (gV : List V → List V → List V) (E : XK) (ta : TE) (tk : TA) : TE := fun σ H Q => ta σ H fun x H1 => x = .ref C ∧ tk σ H1 fun zs H2 => zs.length = 1 ∧ sp (gV [.ref C] zs) H2 Q E
theorem pe_cmethQ (he : PE X o ta) (r : ClX.CRead X.K C mc) (c : ClX.CMet X.K C mc m p g) (F : FnOk X.prog X.w X.K X.mg X.base CX k g fd ps sp) (hr : Room k X.A) (hb : KBn X.K fd ps 1 ks gg gV) (hk1 : ks.length = 1) (hx : Passes CX X E) (hkw : PK X kws tk)
    (hall : (backToKw pos (keywordEach kws X.env)).all (·.1.isSome) = true := by rfl) (hks : (backToKw pos (keywordEach kws X.env)).filterMap (·.1) = ks := by rfl)
    (hpl : ((backTo pos (starEach [] X.env)).any (·.1) || (backToKw pos (keywordEach kws X.env)).any (·.1.isNone)) = false := by rfl)
    (ht : eval (.Call (.Attribute o m apos) [] kws pos) X.env = (do
      let ov ← eval o X.env
      standAt apos.atName
      let (f, first) ← holding [ov] (getMethod ov m pl)
      callWith pos f first (backTo pos (starEach [] X.env)) (backToKw pos (keywordEach kws X.env))) := by rfl) :
    PE X (.Call (.Attribute o m apos) [] kws pos) (tCMethQ C sp gV E ta tk) := by
  refine ⟨fun pins s σ H Q I h => ?_⟩
  refine PySem.W.methodCall_KW (pl := pl) (thn (he.run pins s σ H _ I h) fun u s1 ⟨x, H1, I1, rx, ex, q⟩ => ?_) ht
  subst ex
  obtain rfl : u = Value.ref C := rx
  refine ClX.getmethcm_ok I1 r c fun s2 I2 => ?_
  refine PySem.W.callWith_of hpl (PySem.W.keeps_M c.fi) (evalArgs_kw2_nil hall (thn (hkw.run pos _ s2 σ H1 _ I2 q) fun ws s3 ⟨zs, H2, I3, rz, l1, q2⟩ => ⟨⟨ClX.pin_at I3, I3.kIn⟩, ?_⟩))
  rw [hks]
  have z : wpAny (model X.prog X.w) X.A (call (.ref s1.heap.objs.size) ([] ++ []) (ks.zip ws)) (EP X ((s1.heap.objs.size, PySem.W.methodObj (.ref g) (.ref C)) :: pins) σ Q) X.xe s3 := wpAny_call (PySem.W.method_call (ClX.pin_at I3) (codeAny_mono (F.run X.A X.stack s3 H2 ⟨[.ref C], ks.zip ws⟩ (gg [.ref C] ws) (gV [.ref C] zs) Q E hr I3.env0 (hb.to s3 [.ref C] ws I3.kIn rfl (rz.length.symm.trans (l1.trans hk1.symm))) (hb.rel (.cons rfl .nil) rz) q2) fun r s' hq => ?_))
  · exact thn z fun _ _ y => ClX.unpinE y
  · cases r with
    | error e => exact hx _ σ H2 s3 e s' I3 hq
    | ok fl =>
      cases fl with
      | ret u => exact I3.after hq
      | next => exact hq.elim
      | brk => exact hq.elim
      | cont => exact hq.elim
end
end Ke
/-! as LyS, over the class Ring's texts -/
namespace Wb
open PySem L2 WbMin WbS Lz WbO WbT
abbrev sShuf : Stmt := top 41
theorem seq_nat {i n : Nat} (h : i < n) : seqIndex? (i : Int) n = some i := by
  unfold seqIndex?
  have h0 : ¬ ((i : Int) < 0) := by omega
  have h1 : ((i : Int) < (n : Int)) := by omega
  simp [h0, h1]
theorem perm_erase {α : Type} : ∀ {l : List α} {i : Nat} {x : α}, l[i]? = some x → (x :: l.eraseIdx i).Perm l
  | [], _, _, h => by cases h
  | y :: l, 0, x, h => by cases h; exact .refl _
  | y :: l, i + 1, x, h => by
    have ih := perm_erase (l := l) (i := i) h
    show (x :: y :: l.eraseIdx i).Perm (y :: l)
    exact (List.Perm.swap y x _).trans (ih.cons y)
/-- what stands at a text, a tuple, a list -/
inductive Its (H : Hp) : V → List V → Prop
  | str (l : List Nat) : Its H (.str (S l)) (l.map vOne)
  | tup {a : Addr} {xs : List V} (h : H a = some (.tup xs)) : Its H (.ref a) xs
  | lst {a : Addr} {xs : List V} (h : H a = some (.lst xs)) (n : ∀ x y z : Int, xs ≠ [.int x, .int y, .int z]) : Its H (.ref a) xs
theorem Its.but {H H' : Hp} {p : Addr} (hp : PoolAt H p) (b : But p H H') {v : V} {xs : List V} (h : Its H v xs) : Its H' v xs := by
  cases h with
  | str l => exact .str l
  | tup h => exact .tup (b _ _ (pool_other hp h fun _ _ _ q => by cases q) h)
  | lst h n => exact .lst (b _ _ (pool_other hp h fun x y z q => n x y z (by injection q)) h) n
def spShufA : Sp := fun vs H Q _ => ∃ (p : Addr) (v : V) (xs : List V), vs = [.ref p, v] ∧ Its H v xs ∧ xs.length ≤ 600 ∧ PoolAt H p ∧ ∀ (a : Addr) (ys : List V) (H' : Hp), H' a = some (.lst ys) → a ≠ p → ys.Perm xs → PoolAt H' p → But p H H' → Q (.ref a) H'
section
variable {P : Program} {w : World} {K : PySem.W.Frag} {mg : Str → Option Value} {base : Heap} {f fD : Addr} {fd fdD : FuncData}
theorem scSh : FnScope ["_law_pool_here", "_law_things", "_law_rest", "_law_found", "_law_turn"] ["_law_pool_here", "_law_things"] (defScope sShuf) := ⟨rfl, rfl, rfl, by decide +kernel, rfl, by decide +kernel, by decide +kernel⟩
/-- list(x), len(x) of such a thing -/
@[irreducible] def rLst (K : PySem.W.Frag) : List V → Hp → VK → Prop := fun xs H Q => (∃ p ys, xs = [.ref p] ∧ (SqL K H p ys ∨ SqT K H p ys) ∧ ∀ l, H l = none → Q (.ref l) (upd H l (.lst ys))) ∨ (∃ z : Str, xs = [.str z] ∧ z.length ≤ sizeLine ∧ ∀ p, H p = none → Q (.ref p) (upd H p (.lst (z.cps.toList.map fun c => V.str ⟨#[c]⟩))))
@[irreducible] def rLen (K : PySem.W.Frag) : List V → Hp → VK → Prop := fun xs H Q => (∃ p ys, xs = [.ref p] ∧ (SqL K H p ys ∨ SqT K H p ys) ∧ Q (.int ys.length) H) ∨ (∃ z, xs = [.str z] ∧ z.length ≤ sizeLine ∧ Q (.int z.length) H)
theorem its_lst {H : Hp} {v : V} {xs : List V} {Q : VK} (h : Its H v xs) (few : xs.length ≤ 600) (k : ∀ l, H l = none → Q (.ref l) (L2.upd H l (.lst xs))) : rLst K [v] H Q := by
  unfold rLst
  cases h with
  | str l =>
    refine .inr ⟨_, rfl, ?_, fun p hp => ?_⟩
    · rw [S_len, sizeLine_eq]
      rw [List.length_map] at few
      omega
    · rw [S_cps]
      exact k p hp
  | tup h => exact .inl ⟨_, _, rfl, .inr (SqT.of h), k⟩
  | lst h n => exact .inl ⟨_, _, rfl, .inl (SqL.of h), k⟩
theorem its_len {H : Hp} {v : V} {xs : List V} {Q : VK} (h : Its H v xs) (few : xs.length ≤ 600) (k : Q (.int xs.length) H) : rLen K [v] H Q := by
  unfold rLen
  cases h with
  | str l =>
    rw [List.length_map] at few k
    refine .inr ⟨_, rfl, ?_, ?_⟩
    · rw [S_len, sizeLine_eq]
      omega
    · rw [S_len]
      exact k
  | tup h => exact .inl ⟨_, _, rfl, .inr (SqT.of h), k⟩
  | lst h n => exact .inl ⟨_, _, rfl, .inl (SqL.of h), k⟩
theorem cr_lst {X : Cx} (hc : X.calm = true) : CallR X (.type "list") (rLst X.K) := by
  unfold rLst
  exact CallR.or call_list_of (call_listS hc)
theorem cr_len {X : Cx} : CallR X (.builtin "len") (rLen X.K) := by
  unfold rLen
  exact CallR.or call_len_seq call_len_str
set_option maxHeartbeats 0 in
theorem ok_shufA (F : Fun K "_law_shuffled" "_law_shuffled" sShuf f fd) (D : Def K mg "_law_draw" sDraw ["_law_pool_here", "_law_many"] fD fdD) (Z : Free mg) (mL : mg "list" = none) : FnOk P w K mg base CX0 2 f fd ["_law_pool_here", "_law_things"] spShufA := by
  have G : FnOk P w K mg base CX0 1 fD fdD ["_law_pool_here", "_law_many"] spDraw := ok_draw D.F Z.int Z.divmod
  refine F.ok scSh (fun vs H Q E h => ?_) (fun cdv A outer s H vs Q E hr h => ?_)
  · obtain ⟨p, v, xs, rfl, _⟩ := h
    rfl
  · obtain ⟨p, v, xs, rfl, hL, z1, hp, k⟩ := h
    refine ⟨_, pss_cons (ps_par (i := 2) (j := 3) (by rfl) scSh.nd rfl rfl (by decide) rfl rfl (pa_cons (pe_callTy (show CallR _ _ (rLst K) from cr_lst rfl) (by rfl) mL (by decide +kernel) (pa_cons (pv 1) pa_nil)) (pa_cons (pe_lst pa_nil) pa_nil)) (by rfl))
      (pss_cons (ps_for PassesOwn.never rfl (pi_range1 rfl Z.range (pa_cons (pe_callB (show CallR _ _ (rLen K) from cr_len) (by rfl) Z.len PySem.boot_len (pa_cons (pv 1) pa_nil)) pa_nil)) (pg_name (i := 4) scSh.nd rfl (.inl rfl))
        (pss_one (ps_expr (pe_bm PySem.F.plainAttrs_list PySem.F.slot_list_append PySem.F.type_list_append mt_append (pv 3) (pa_cons
          (pe_bm PySem.F.plainAttrs_list PySem.F.slot_list_pop PySem.F.type_list_pop mt_popAt (pv 2) (pa_cons (pe_call G hr rfl D.g D.kp D.b .nil pass0 (pa_cons (pv 0) (pa_cons (pe_callB call_len_seq (by rfl) Z.len PySem.boot_len (pa_cons (pv 2) pa_nil)) pa_nil))) pa_nil)) pa_nil)))))
      (pss_one (ps_ret (pv 3)))), ?_⟩
    refine ⟨_, rfl, its_lst hL z1 fun R hR => ?_⟩
    refine ⟨(by show 0 ≤ sizeLine; decide), fun F0 hF => ⟨_, _, rfl, ?_⟩⟩
    have nR := hp.ne hR
    have hF1 := hF
    have nFR : F0 ≠ R := fun z => by
      rw [z, upd_same] at hF
      cases hF
    rw [upd_ne nFR] at hF1
    have nF := hp.ne hF1
    have b0 : But p H (L2.upd (L2.upd H R (.lst xs)) F0 (.lst [])) := ((But.refl p H).upd (o := .lst xs) hR).upd (o := .lst []) hF
    refine ⟨_, rfl, its_len (hL.but hp b0) z1 ?_⟩
    refine ⟨_, rfl, by omega, by omega, for_it walk_range
      (fun i σ H' => ∃ (rest found : List V) (v4 : Option V), σ = [some (.ref p), some v, some (.ref R), some (.ref F0), v4] ∧ H' R = some (.lst rest) ∧ H' F0 = some (.lst found) ∧ (found ++ rest).Perm xs ∧ rest.length + i = xs.length ∧ found.length = i ∧ PoolAt H' p ∧ But p H H')
      ⟨xs, [], none, rfl, ?_, upd_same, .refl _, rfl, rfl, (hp.put nR).put nF, b0⟩ (fun _ _ _ _ _ => trivial) ?_ ?_⟩
    · rw [upd_ne nFR.symm, upd_same]
    · rintro i x σ H2 H2' hi ⟨rest, found, v4, rfl, h1, h2, pm, r1, r2, hp2, b2⟩ ⟨rfl, rfl⟩
      refine ⟨_, rfl, .inl ⟨rfl, _, SqL.of h2⟩, _, rfl, .inl ⟨rfl, _, SqL.of h1⟩, _, rfl, _, rfl, R, _, rfl, .inl (SqL.of h1), p, _, rfl, ?_, ?_, hp2, fun e H3 e0 e1 hp3 b3 => ?_⟩
      · omega
      · omega
      · obtain ⟨j, rfl⟩ := nat_of e0
        have hj : j < rest.length := by omega
        have g1 := b3 R _ nR h1
        have g2 := b3 F0 _ nF h2
        obtain ⟨z, hz⟩ : ∃ z, rest[j]? = some z := ⟨_, List.getElem?_eq_getElem hj⟩
        refine ⟨R, _, _, j, z, rfl, rfl, g1, by omega, by omega, seq_nat hj, hz, F0, _, _, rfl, rfl, (upd_ne nFR).trans g2, ?_, ?_⟩
        · rw [sizeLine_eq]; omega
        · refine ⟨rest.eraseIdx j, found ++ [z], _, rfl, ?_, upd_same, ?_, ?_, ?_, (hp3.put nR).put nF, ?_⟩
          · rw [upd_ne nFR.symm, upd_same]
          · rw [List.append_assoc]
            exact ((perm_erase hz).append_left found).trans pm
          · rw [List.length_eraseIdx, if_pos hj]; omega
          · rw [List.length_append, r2] <;> rfl
          · exact ((b2.trans b3).new hR).new hF1
    · rintro σ H2 ⟨rest, found, v4, rfl, h1, h2, pm, r1, r2, hp2, b2⟩
      have e0 : rest = [] := List.eq_nil_of_length_eq_zero (by omega)
      subst e0
      rw [List.append_nil] at pm
      exact ⟨_, rfl, k F0 found H2 h2 nF pm hp2 b2⟩
end
end Wb
/-! laws of kinds over the base of the loops (out of k10's texts): _law_every, _law_couples, _law_along -/
namespace Wb
open PySem L2 WbMin WbO WbS WbT Lz
theorem perm_map {α β : Type} (f : α → β) : ∀ {xs ys : List β}, xs.Perm ys → ∀ l : List α, xs = l.map f → ∃ l', l.Perm l' ∧ ys = l'.map f
  | _, _, .nil, l, e => ⟨l, .refl _, e⟩
  | _, _, .cons x p, l, e => by
    cases l with
    | nil => cases e
    | cons a l =>
      injection e with e1 e2
      obtain ⟨l', q, e'⟩ := perm_map f p l e2
      exact ⟨a :: l', q.cons a, by rw [e', e1] <;> rfl⟩
  | _, _, .swap x y r, l, e => by
    cases l with
    | nil => cases e
    | cons a l =>
      injection e with e1 e2
      cases l with
      | nil => cases e2
      | cons b l =>
        injection e2 with e2 e3
        exact ⟨b :: a :: l, .swap _ _ _, by rw [e1, e2, e3] <;> rfl⟩
  | _, _, .trans p q, l, e => by
    obtain ⟨l1, p1, e1⟩ := perm_map f p l e
    obtain ⟨l2, p2, e2⟩ := perm_map f q l1 e1
    exact ⟨l2, p1.trans p2, e2⟩
theorem strs_no_ints {q : List Str} : ∀ x y z : Int, q.map V.str ≠ [.int x, .int y, .int z] := fun x y z e => by
  cases q with
  | nil => cases e
  | cons a q =>
    injection e with e _
    cases e
/-! ## k10 WbL1.lean -/
abbrev sEvery : Stmt := top 46
abbrev sCouples : Stmt := top 47
theorem allP_len (sg : List Nat) : (allP sg).length = sg.length * sg.length := by
  unfold allP
  rw [List.length_flatMap, show (sg.map fun a => (sg.map fun b => S [a, b]).length) = List.replicate sg.length sg.length from List.map_eq_replicate_iff.mpr fun _ _ => List.length_map .., List.sum_replicate_nat]
theorem prs_of {sg : List Nat} {ps : List Str} (G : Sgs sg) (nd : ps.Nodup) (sub : ∀ z ∈ ps, z ∈ allP sg) : Prs sg ps := by
  refine ⟨fun z hz => allP_mem.mp (sub z hz), nd, ?_⟩
  have h1 := few_of_sub (allP sg) ps nd sub
  rw [allP_len] at h1
  exact Nat.le_trans h1 (Nat.le_trans (Nat.mul_le_mul G.few G.few) (by decide))
def spEvery : Sp := fun vs H Q _ => ∃ (sg : List Nat), vs = [.str (S sg)] ∧ sg.length ≤ 4 ∧ ∀ (a : Addr) (H' : Hp), H' a = some (.lst ((allP sg).map V.str)) → H a = none → Same H H' → Q (.ref a) H'
def spCouples : Sp := fun vs H Q _ => ∃ (p : Addr) (sg : List Nat), vs = [.ref p, .str (S sg)] ∧ Sgs sg ∧ PoolAt H p ∧ ∀ (a : Addr) (ps : List Str) (H' : Hp), H' a = some (.lst (ps.map V.str)) → a ≠ p → Prs sg ps → PoolAt H' p → But p H H' → Q (.ref a) H'
section
variable {P : Program} {w : World} {K : PySem.W.Frag} {mg : Str → Option Value} {base : Heap} {f fD fE fS : Addr} {fd fdD dE dS : FuncData}
theorem scEv : FnScope ["_law_abc", "_law_found", "_law_near", "_law_far"] ["_law_abc"] (defScope sEvery) := ⟨rfl, rfl, rfl, by decide +kernel, rfl, by decide +kernel, by decide +kernel⟩
set_option maxHeartbeats 0 in
theorem ok_every (F : Fun K "_law_every" "_law_every" sEvery f fd) : FnOk P w K mg base CX0 1 f fd ["_law_abc"] spEvery := by
  refine F.ok scEv (fun vs H Q E h => ?_) (fun cdv A outer s H vs Q E hr h => ?_)
  · obtain ⟨sg, rfl, _⟩ := h
    rfl
  · obtain ⟨sg, rfl, few, k⟩ := h
    refine ⟨_, pss_cons (ps_set (i := 1) scEv.nd rfl (.inl rfl) (pe_lst pa_nil))
      (pss_cons (ps_for PassesOwn.never rfl (pi_str (pv 0)) (pg_name (i := 2) scEv.nd rfl (.inr rfl))
        (pss_one (ps_set (i := 1) scEv.nd rfl (.inl rfl) (pe_op op_cat (pv 1) (pe_lc (own := [("_law_far", 3)]) (g := gName 3) (tt := tYes) rfl scEv.nd (pi_str (pv 0)) (blkOk_by (N := ["_law_abc", "_law_found", "_law_near", "_law_far"]) (sc := defScope sEvery) (by decide +kernel)) (fun _ _ _ _ _ => pg_name (i := 3) scEv.nd rfl (.inl rfl)) (fun _ _ _ _ _ => pts_nil)
          (fun _ _ _ _ _ => pe_op op_add_str (pv 2) (pv 3)))))))
      (pss_one (ps_ret (pv 1)))), ?_⟩
    refine ⟨(by show 0 ≤ sizeLine; decide), fun L0 hL0 => ?_⟩
    refine ⟨_, rfl, _, rfl, for_it walk_str (fun i σ H' => ∃ (L : Addr) (v2 v3 : Option V), σ = [some (.str (S sg)), some (.ref L), v2, v3] ∧ H' L = some (.lst (((sg.take i).flatMap fun a => sg.map fun b => S [a, b]).map V.str)) ∧ H L = none ∧ Same H H')
      ⟨L0, none, none, rfl, upd_same, hL0, Same.put (Same.refl H) hL0⟩ (fun _ _ _ _ _ => trivial) ?_ ?_⟩
    · rintro i x σ H2 H2' hi ⟨L, v2, v3, rfl, h1, hL, s2⟩ ⟨rfl, c, hc, rfl⟩
      have hc' : sg[i]? = some c := by simpa [S] using hc
      rw [S_size] at hi
      have len : ((sg.take i).flatMap fun a => sg.map fun b => S [a, b]).length ≤ 16 := by
        have e : ((sg.take i).flatMap fun a => sg.map fun b => S [a, b]).length = (sg.take i).length * sg.length := by
          rw [List.length_flatMap, show ((sg.take i).map fun a => (sg.map fun b => S [a, b]).length) = List.replicate (sg.take i).length sg.length from List.map_eq_replicate_iff.mpr fun _ _ => List.length_map ..  , List.sum_replicate_nat]
        rw [e]
        exact Nat.le_trans (Nat.mul_le_mul (by rw [List.length_take]; omega : (sg.take i).length ≤ 4) few) (by decide)
      refine ⟨_, rfl, _, rfl, _, rfl, fun D hD => lc_it walk_str (fun j H3 => H3 D = some (.lst (((sg.take j).map fun b => S [c, b]).map V.str)) ∧ Same H2' H3) ⟨upd_same, Same.put (Same.refl _) hD⟩ (fun _ _ _ _ => trivial) ?_ ?_⟩
      · rintro j y H3 H3' hj ⟨e1, e2⟩ ⟨rfl, d, hd, rfl⟩
        have hd' : sg[j]? = some d := by simpa [S] using hd
        refine ⟨rfl, _, rfl, _, rfl, _, _, rfl, rfl, (by show 1 + 1 ≤ sizeLine; decide), _, e1, ?_, ?_, Same.new' e2 hD⟩
        · rw [List.length_map, List.length_map, sizeLine_eq]
          have := List.length_take_le' j sg
          omega
        · rw [upd_same, take_more hd']
          refine congrArg (fun q => some (HO.lst q)) ?_
          simp only [List.map_append, List.map_cons, List.map_nil]
          rfl
      · rintro H3 ⟨e1, e2⟩
        rw [S_size, List.take_length] at e1
        refine ⟨L, D, _, _, rfl, rfl, e2 _ _ h1, e1, ?_, fun M hM => ⟨M, _, _, rfl, ?_, ?_, Same.put (s2.trans e2) hM⟩⟩
        · rw [List.length_map, List.length_map, List.length_map, sizeLine_eq]
          omega
        · rw [upd_same, take_more hc', List.flatMap_append, List.map_append]
          simp
        · cases e : H M with
          | none => rfl
          | some o =>
            rw [e2 _ _ (s2 _ _ e)] at hM
            cases hM
    · rintro σ H2 ⟨L, v2, v3, rfl, h1, hL, s2⟩
      rw [S_size, List.take_length] at h1
      exact ⟨_, rfl, k L H2 h1 hL s2⟩
end
/-! ## k10 WbL2.lean -/
section
variable {P : Program} {w : World} {K : PySem.W.Frag} {mg : Str → Option Value} {base : Heap} {f fD fE fS : Addr} {fd fdD dE dS : FuncData}
abbrev NCo : List Str := ["_law_pool_here", "_law_abc", "_law_every_here", "_law_way", "_law_some", "_law_mate"]
theorem scCo : FnScope NCo ["_law_pool_here", "_law_abc"] (defScope sCouples) := ⟨rfl, rfl, rfl, by decide +kernel, rfl, by decide +kernel, by decide +kernel⟩
set_option maxHeartbeats 0 in
theorem ok_couples (F : Fun K "_law_couples" "_law_couples" sCouples f fd) (D : Def K mg "_law_draw" sDraw ["_law_pool_here", "_law_many"] fD fdD) (DE : Def K mg "_law_every" sEvery ["_law_abc"] fE dE) (DS : Def K mg "_law_shuffled" sShuf ["_law_pool_here", "_law_things"] fS dS) (Z : Free mg) (mL : mg "list" = none) : FnOk P w K mg base CX0 3 f fd ["_law_pool_here", "_law_abc"] spCouples := by
  have G : FnOk P w K mg base CX0 1 fD fdD ["_law_pool_here", "_law_many"] spDraw := ok_draw D.F Z.int Z.divmod
  have GE : FnOk P w K mg base CX0 1 fE dE ["_law_abc"] spEvery := ok_every DE.F
  have GS : FnOk P w K mg base CX0 2 fS dS ["_law_pool_here", "_law_things"] spShufA := ok_shufA DS.F D Z mL
  refine F.ok scCo (fun vs H Q E h => ?_) (fun cdv A outer s H vs Q E hr h => ?_)
  · obtain ⟨p, sg, rfl, _⟩ := h
    rfl
  · obtain ⟨p, sg, rfl, Gs, hp, k⟩ := h
    have hr1 : Room 1 _ := hr.mono (by decide)
    refine ⟨_, pss_cons (ps_asg (pe_tup (pa_cons (pe_call GE hr1 rfl DE.g DE.kp DE.b .nil pass0 (pa_cons (pv 1) pa_nil)) (pa_cons (pe_call G hr1 rfl D.g D.kp D.b .nil pass0 (pa_cons (pv 0) (pa_cons pe_int pa_nil))) pa_nil))) (pg_tup (by rfl) (pgs_cons (pg_name (i := 2) scCo.nd rfl (.inl rfl)) (pgs_cons (pg_name (i := 3) scCo.nd rfl (.inr rfl)) pgs_nil))))
      (pss_cons (ps_if (pt_cmpR op_lt (pv 3) pe_int (nomark _)) (pss_one (ps_ret (pe_ix ix_list (pe_lst (pa_cons (pv 2) (pa_cons (pe_lst pa_nil) pa_nil))) (pv 3) (fun _ _ => rfl)))) pss_nil)
      (pss_cons (ps_setLc (i := 4) (own := [("_law_mate", 5)]) (g := gName 5) rfl scCo.nd rfl rfl (sw_true rfl rfl rfl (by decide +kernel)) (pi_list (pv 2)) (blkOk_by (N := NCo) (sc := defScope sCouples) (by decide +kernel)) (fun _ _ _ _ _ => pg_name (i := 5) scCo.nd rfl (.inl rfl))
          (fun _ _ _ _ _ => pts_one (pt_cmpR op_lt (pe_call G hr1 rfl D.g D.kp D.b .nil pass0 (pa_cons (pv 0) (pa_cons pe_int pa_nil))) (pe_ix (show IxR _ (rIxL K) from ix_list) (pe_lst (pa_cons pe_int (pa_cons pe_int pa_nil))) (pe_callTy call_int1 (by rfl) Z.int (by decide +kernel) (pa_cons (pe_cmpR op_lt (pv 3) pe_int (nomark _)) pa_nil)) (fun _ _ => rfl)) (nomark _))) (fun _ _ _ _ _ => pv 5))
      (pss_one (ps_ret (pe_call GS hr rfl DS.g DS.kp DS.b .nil pass0 (pa_cons (pv 0) (pa_cons (pv 4) pa_nil))))))), ?_⟩
    have lenE : (allP sg).length ≤ 16 := by
      rw [allP_len]
      exact Nat.le_trans (Nat.mul_le_mul Gs.few Gs.few) (by decide)
    refine ⟨_, rfl, sg, rfl, Gs.few, fun E0 H1 hE hE0 s1 => ?_⟩
    have nE := hp.ne hE0
    have hp1 := hp.same s1
    refine ⟨_, rfl, p, _, rfl, by decide, by decide, hp1, fun d H2 d0 d1 hp2 b2 => ?_⟩
    refine ⟨(by show 2 ≤ sizeLine; decide), fun t ht => ?_⟩
    have nt := hp2.ne ht
    have hE3 : (L2.upd H2 t (.tup [.ref E0, .int d])) E0 = some (.lst ((allP sg).map V.str)) := ((But.refl p H2).upd ht) _ _ nE (b2 _ _ nE hE)
    have hp3 := hp2.put (o := .tup [.ref E0, .int d]) nt
    have b3 := ((But.of s1).trans b2).upd (o := .tup [.ref E0, .int d]) ht
    refine ⟨t, _, rfl, SqT.of upd_same, rfl, _, _, rfl, _, _, rfl, rfl, ?_⟩
    generalize (L2.upd H2 t (.tup [.ref E0, .int d])) = H3 at hE3 hp3 b3 ⊢
    refine ⟨_, rfl, _, _, rfl, rfl, _, rfl, ite2 (fun q => ?_) (fun q => ?_)⟩
    · have q' := of_decide_eq_true q
      refine ⟨_, rfl, (by show 0 ≤ sizeLine; decide), fun a0 ha0 => ⟨(by show 2 ≤ sizeLine; decide), fun L hL => ⟨_, rfl, ?_⟩⟩⟩
      have na0 := hp3.ne ha0
      have hp4 := hp3.put (o := .lst []) na0
      have nL := hp4.ne hL
      have b5 := (b3.upd (o := .lst []) ha0).upd (o := .lst [.ref E0, .ref a0]) hL
      have bE := ((But.refl p H3).upd (o := .lst []) ha0).upd (o := .lst [.ref E0, .ref a0]) hL
      have bA := (But.refl p (L2.upd H3 a0 (.lst []))).upd (o := .lst [.ref E0, .ref a0]) hL
      obtain ⟨j, rfl, j1⟩ := int_lt d0 q'
      rcases j with _ | _ | j
      · exact ⟨L, _, _, _, rfl, rfl, SqL.of upd_same, atI_nat (j := 0) rfl, k E0 (allP sg) _ (bE _ _ nE hE3) nE (prs_of Gs (pair_nd Gs.nd) fun _ h => h) (hp4.put nL) b5⟩
      · exact ⟨L, _, _, _, rfl, rfl, SqL.of upd_same, atI_nat (j := 1) rfl, k a0 [] _ (bA _ _ na0 upd_same) na0 ⟨(fun z hz => nomatch hz), List.nodup_nil, Nat.zero_le _⟩ (hp4.put nL) b5⟩
      · omega
    · refine ⟨_, rfl, E0, rfl, ⟨_, SqL.of hE3⟩, fun D0 hD => lc_it (walk_list (xs := (allP sg).map V.str)) (fun i H4 => ∃ q : List Str, H4 D0 = some (.lst (q.map V.str)) ∧ q.Sublist ((allP sg).take i) ∧ PoolAt H4 p ∧ But p H3 H4) ⟨[], upd_same, List.nil_sublist _, hp3.put (hp3.ne hD), (But.refl p H3).upd hD⟩ (fun _ _ _ h => by obtain ⟨_, _, _, _, h⟩ := h; exact SqL.of (h _ _ nE hE3)) ?_ ?_⟩
      · rintro i x H4 H4' hi ⟨q2, g1, g2, g3, g4⟩ ⟨rfl, hx⟩
        have nD := hp3.ne hD
        rw [List.getElem?_map] at hx
        obtain ⟨z, hz, rfl⟩ := Option.map_eq_some_iff.mp hx
        rw [List.length_map] at hi
        refine ⟨rfl, _, rfl, p, _, rfl, by decide, by decide, g3, fun e H5 e0 e1 hp5 b5 => ?_⟩
        refine ⟨(by show 2 ≤ sizeLine; decide), fun M hM => ?_⟩
        refine ⟨_, rfl, _, _, rfl, rfl, .inr ⟨_, rfl, ?_⟩⟩
        have nM := hp5.ne hM
        obtain ⟨y, hy⟩ : ∃ y : Int, atI [V.int 2, V.int 3] (if decide (d < 5) = true then (1 : Int) else 0) = some (.int y) := by
          split
          · exact ⟨3, atI_nat (j := 1) rfl⟩
          · exact ⟨2, atI_nat (j := 0) rfl⟩
        refine ⟨M, _, _, _, rfl, rfl, SqL.of upd_same, hy, _, _, rfl, rfl, _, rfl, ite2 (fun _ => ?_) (fun _ => ?_)⟩
        · have ql : q2.length ≤ 16 := Nat.le_trans g2.length_le (by rw [List.length_take]; omega)
          refine ⟨_, rfl, _, ((But.refl p H5).upd hM) _ _ nD (b5 _ _ nD g1), ?_, q2 ++ [z], ?_, ?_, (hp5.put nM).put nD, ((g4.trans b5).upd hM).new hD⟩
          · rw [List.length_map, sizeLine_eq]
            omega
          · rw [upd_same, List.map_append] <;> rfl
          · rw [take_more hz]
            exact g2.append (List.Sublist.refl _)
        · refine ⟨q2, ((But.refl p H5).upd hM) _ _ nD (b5 _ _ nD g1), ?_, hp5.put nM, (g4.trans b5).upd hM⟩
          rw [take_more hz]
          exact g2.trans (List.sublist_append_left _ _)
      · rintro H4 ⟨q2, g1, g2, g3, g4⟩
        rw [List.length_map, List.take_length] at g2
        have ql : q2.length ≤ 16 := Nat.le_trans g2.length_le lenE
        refine ⟨_, rfl, _, rfl, p, .ref D0, q2.map V.str, rfl, .lst g1 strs_no_ints, by rw [List.length_map]; omega, g3, fun a ys0 H6 h6 na pm0 hp6 b6 => ?_⟩
        obtain ⟨ys, pm, rfl⟩ := perm_map V.str pm0.symm q2 rfl
        have pm := pm.symm
        exact k a ys H6 h6 na (prs_of Gs (pm.nodup_iff.mpr (g2.nodup (pair_nd Gs.nd))) fun z hz => g2.subset (pm.mem_iff.mp hz)) hp6 ((b3.trans g4).trans b6)
end
end Wb
/-! k09: _law_row_right -/
namespace Wb
open PySem PySem.Spec PyProof.Rows L2 WbMin WbO WbS WbT Lz Le Lk Lj LamX Ke
open Lg hiding int_lt keepA keep5 cut_at sLOdd
abbrev sRfRow : Stmt := top 54
/-- a def whose code object is known: it makes lambdas -/
structure FunT (K : PySem.W.Frag) (x qual : Str) (st : Stmt) (f : Addr) (fd : FuncData) (c : Addr) : Prop where
  ex : ∃ (oc : Value) (od : Option Addr) (kV doc pm : Value) (an : Option Addr) (ct : Value) (osl : Array (Option Value)),
    fd = PySem.W.fnOf x qual (defArgs st) (defBody st) (defScope st) .none kV doc pm an (.ref c) ct ∧ K.lookup f = some ⟨oc, od, .func fd, osl⟩ ∧ PySem.W.codeIn K (.ref c) qual = true
section
variable {P : Program} {w : World} {K : PySem.W.Frag} {mg : Str → Option Value} {base : Heap}
theorem okT {x qual : Str} {st : Stmt} {f c : Addr} {fd : FuncData} {N ps : List Str} {k : Nat} {sp : Sp} (F : FunT K x qual st f fd c) (S : FnScope N ps (defScope st)) (len : ∀ vs H Q E, sp vs H Q E → vs.length = ps.length)
    (body : ∀ (A : Around) (outer : List Env) (s : Shared) (H : Hp) (vs : List V) (Q : VK) (E : XK), Room k (A.deeper (PyProof.Rows.envOfC qual (defScope st) s.heap.objs.size f (.ref c))) → sp vs H Q E →
      ∃ t, PSs (cxOf CX0 P w K mg base N qual (defScope st) f (.ref c) A outer s H E).nox (defBody st) t ∧ t { nx := fun _ H' => Q .non H', rt := Q } (L2.start N vs) H) : FnOk P w K mg base CX0 (k + 1) f fd ps sp := by
  obtain ⟨_, _, _, _, _, _, _, _, rfl, at_, code⟩ := F.ex
  refine fn_of at_ code S len fun A outer s H vs Q E hr h => ?_
  obtain ⟨t, h1, q⟩ := body A outer s H vs Q E hr h
  exact ⟨t, h1.nox, q⟩
end
abbrev qRow : Str := "_law_row_right.<locals>.<lambda>"
abbrev qRig : Str := "_law_right.<locals>.<lambda>"
abbrev NRr : List Str := ["_law_abc", "_law_some", "_law_thing"]
theorem scRr9 : FnScope NRr ["_law_abc", "_law_some"] (defScope sRfRow) := ⟨rfl, rfl, rfl, by decide +kernel, rfl, by decide +kernel, by decide +kernel⟩
/-- all defs of the law -/
structure DQ where
  (cell pool draw shuf face odd signs isword every couples heard bads due sps spp rowdue row right : Addr)
  (dcell dpool ddraw dshuf dface dodd dsigns disword devery dcouples dheard dbads ddue dsps dspp drowdue drow dright : FuncData)
abbrev sRfRight : Stmt := top 55
structure Defs (K : PySem.W.Frag) (mg : Str → Option Value) (D : DQ) : Prop where
  cell : Def K mg "_law_cell" sCell ["_law_script", "_law_k"] D.cell D.dcell
  pool : Def K mg "_law_pool" sPool ["_law_cell_here"] D.pool D.dpool
  draw : Def K mg "_law_draw" sDraw ["_law_pool_here", "_law_many"] D.draw D.ddraw
  shuf : Def K mg "_law_shuffled" sShuf ["_law_pool_here", "_law_things"] D.shuf D.dshuf
  face : Def K mg "_law_face" sFace ["_law_thing"] D.face D.dface
  odd : Def K mg "_law_odd" Wb.sLOdd ["_law_pool_here"] D.odd D.dodd
  signs : Def K mg "_law_signs" sSigns ["_law_pool_here", "_law_most"] D.signs D.dsigns
  isword : Def K mg "_law_is_word" sLIsWord ["_law_thing", "_law_abc"] D.isword D.disword
  every : Def K mg "_law_every" sEvery ["_law_abc"] D.every D.devery
  couples : Def K mg "_law_couples" sCouples ["_law_pool_here", "_law_abc"] D.couples D.dcouples
  heard : Def K mg "_law_heard" sRfHeard ["_law_act"] D.heard D.dheard
  bads : Def K mg "_law_bad_signs" sBadSigns ["_law_abc"] D.bads D.dbads
  due : Def K mg "_law_due" sRfDue ["_law_abc", "_law_some"] D.due D.ddue
  sps : Def K mg "_law_spoilt_signs" sRfSpS ["_law_pool_here", "_law_abc"] D.sps D.dsps
  spp : Def K mg "_law_spoilt_pairs" sRfSpP ["_law_pool_here", "_law_abc", "_law_some"] D.spp D.dspp
  rowdue : Def K mg "_law_row_due" sRfRowDue ["_law_thing"] D.rowdue D.drowdue
  row : Def K mg "_law_row_right" sRfRow ["_law_abc", "_law_some"] D.row D.drow
  right : Def K mg "_law_right" sRfRight ["_law_pool_here"] D.right D.dright
theorem wdB_ok (b : Bool) : PyData.strOk (wdB b) = true := by
  cases b <;> decide +kernel
theorem kpB_ok {H : Hp} {x : V} {b : Bool} {d : PyData} (R : Rv H x b d) : (PyData.list [.str (wdB b), kpB d b]).canLay0 = true ∧ PyData.depth (PyData.list [.str (wdB b), kpB d b]) ≤ 64 := by
  have e1 := wdB_ok b
  have e2 : (kpB d b).canLay0 = true ∧ PyData.depth (kpB d b) ≤ 62 := by
    cases b with
    | true => exact ⟨show (plainD .none).canLay0 = true by decide +kernel, show PyData.depth (plainD .none) ≤ 62 by decide +kernel⟩
    | false => exact ⟨R.lay, R.dep⟩
  refine ⟨?_, ?_⟩
  · show (PyData.strOk (wdB b) && ((kpB d b).canLay0 && true)) = true
    rw [e1, e2.1] <;> rfl
  · show max 0 (max (PyData.depth (kpB d b)) 0) + 1 ≤ 64
    omega
theorem ttr_row {K : PySem.W.Frag} {B : KE'} {cR : Addr} {act : Lk.Act} {H : Hp} {Q : VK} {x : V} {b : Bool} {d : PyData} (R : Rv H x b d) (run : ∀ (E : XK) (k : VK), (b = true → ∀ v H', Same H H' → k v H') → (b = false → FailsN E cR "given" x H) → act E H k) (told : TellR K H (wdB b) (kpB d b) Q) : TTR K B cR act H Q := by
  cases b with
  | true => exact .inl ⟨fun E k g => run E k (fun _ => g) (fun e => by cases e), told⟩
  | false => exact .inr ⟨2, x, d, R.th, fun E k g => run E k (fun e => by cases e) (fun _ => g), told⟩
def spRowR (T : List (Addr × Str)) : Sp := fun vs H Q _ => ∃ (x y : V), vs = [x, y] ∧ Tv H x ∧ Tv H y ∧ Tabs T H ∧ ∀ H', Xt H H' → Tabs T H' → Q (.bl true) H'
section
variable {P : Program} {w : World} {K : PySem.W.Frag} {mg : Str → Option Value} {base : Heap} {c Pt cR fR : Addr} {dR : FuncData} {A : KA} {M : KM} {B : KE'} {D : DQ} {T : List (Addr × Str)}
set_option maxHeartbeats 8000000 in
theorem ok_rowright (F : FunT K "_law_row_right" "_law_row_right" sRfRow D.row D.drow c) (TB : TabB base mg c Pt) (inT : (Pt, qRow) ∈ T) (one : ∀ y ∈ T, y.1 = Pt → y.2 = qRow) (Z : Free mg) (ZT : FreeT mg) (mL : mg "list" = none) (R : KindF K mg A) (KM : KMadF K A M) (EM : ErM K mg B cR fR dR) (TK : TakesR K B cR) (D' : Defs K mg D) :
    FnOk P w K mg base CX0 11 D.row D.drow ["_law_abc", "_law_some"] (spRowR T) := by
  have GM : FnOk P w K mg base (Out P w) 6 M.fM M.dM ["cls", "row"] (spKMadeX A.C cR) := ok_kmadeX R KM Z EM
  have GD : FnOk P w K mg base CX0 10 D.rowdue D.drowdue ["_law_thing"] (spRwDue9 K) := ok_rfrow D'.rowdue.F Z ZT R.sort mL D'.face D'.due D'.bads D'.isword
  obtain ⟨mc, rM, cM⟩ := KM.rM
  obtain ⟨ocH, odH, kVH, docH, pmH, anH, cdvH, ctH, oslH, eH, lkH, cdH⟩ := D'.heard.F.ex
  have bH := D'.heard.b
  rw [eH] at lkH bH
  refine okT F scRr9 (fun vs H Q E h => by obtain ⟨x, y, rfl, _⟩ := h; rfl) (fun A' outer s H vs Q E hr h => ?_)
  obtain ⟨x, y, rfl, tx, ty, tabs0, k⟩ := h
  have hr10 : Room 10 _ := hr
  have hr9 : Room 9 _ := hr.mono (by decide)
  refine ⟨_, pss_cons (ps_for PassesOwn.never rfl (pi_list (pe_lst (pa_cons (pe_tup (pa_cons (pv 0) (pa_cons (pv 1) pa_nil))) (pa_cons (pe_lst (pa_cons (pv 0) (pa_cons (pv 1) pa_nil))) (pa_cons (pe_tup (pa_cons (pv 0) pa_nil)) (pa_cons (pe_tup (pa_cons (pv 0) (pa_cons (pv 1) (pa_cons (pe_tup pa_nil) pa_nil))))
        (pa_cons (pe_tup (pa_cons (pv 1) (pa_cons (pv 0) pa_nil))) (pa_cons (pv 0) (pa_cons (pv 1) pa_nil))))))))) (pg_name (i := 2) scRr9.nd rfl (.inr rfl))
      (pss_cons (ps_if (pt_cmpR (op_neD hr.units) (pe_heard2 (T := T) (TT := TTR K B cR) (k := 8) (Ng := NHr) (a := "_law_act") (by rfl) D'.heard.g D'.heard.kp lkH cdH bH scHr rfl (.inl rfl) (hears_ref D'.face ZT EM TK (by decide)) TB rfl inT one hr10 (lamS_by (show lamSB (defScope sRfRow) _ = true by decide +kernel)) rfl (fun _ _ _ _ _ => rfl)
          (fun A2 outer2 s2 H2 E2 f2 c2 hr2 => ClX.pe_cmeth (pe_glob (v := .ref A.C) (by rfl) R.T.gC rfl) rM cM (GM.raw KM.bM .nil) (hr2.mono (by decide)) (passes2 (takes2_of rfl rfl rfl rfl)) (pa_cons (pv 2) pa_nil)))
        (pe_call GD hr10 rfl D'.rowdue.g D'.rowdue.kp D'.rowdue.b .nil pass0 (pa_cons (pv 2) pa_nil)) (nomark _)) (pss_one ps_never) pss_nil)
      (pss_one (ps_if (pt_cmpR (op_neD hr.units) (pe_heard2 (T := T) (TT := TTR K B cR) (k := 8) (Ng := NHr) (a := "_law_act") (by rfl) D'.heard.g D'.heard.kp lkH cdH bH scHr rfl (.inl rfl) (hears_ref D'.face ZT EM TK (by decide)) TB rfl inT one hr10 (lamS_by (show lamSB (defScope sRfRow) _ = true by decide +kernel)) rfl (fun _ _ _ _ _ => rfl)
          (fun A2 outer2 s2 H2 E2 f2 c2 hr2 => pe_cmethQ (pe_glob (v := .ref A.C) (by rfl) R.T.gC rfl) rM cM GM (hr2.mono (by decide)) KM.kM rfl (passes2 (takes2_of rfl rfl rfl rfl)) (pk_cons (pv 2) pk_nil)))
        (pe_call GD hr10 rfl D'.rowdue.g D'.rowdue.kp D'.rowdue.b .nil pass0 (pa_cons (pv 2) pa_nil)) (nomark _)) (pss_one ps_never) pss_nil))))
    (pss_one (ps_ret pe_bl)), ?_⟩
  have t1 : ∀ {H : Hp}, Tv H x → ∀ y ∈ [x], Tv H y := fun h z hz => by
    rw [List.mem_singleton.mp hz]
    exact h
  refine ⟨_, rfl, _, rfl, by show 2 ≤ sizeLine; decide, fun a1 n1 => ⟨_, rfl, _, rfl, by show 2 ≤ sizeLine; decide, fun a2 n2 => ⟨_, rfl, by show 1 ≤ sizeLine; decide, fun a3 n3 => ?_⟩⟩⟩
  have s1 := Same.put (o := .tup [x, y]) (Same.refl H) n1
  have e1 : (L2.upd H a1 (.tup [x, y])) a1 = some (.tup [x, y]) := upd_same
  generalize L2.upd H a1 (.tup [x, y]) = H1 at s1 e1 n2 n3 ⊢
  have s2 := Same.put (o := .lst [x, y]) (Same.refl H1) n2
  have e2 : (L2.upd H1 a2 (.lst [x, y])) a2 = some (.lst [x, y]) := upd_same
  generalize L2.upd H1 a2 (.lst [x, y]) = H2 at s2 e2 n3 ⊢
  have s3 := Same.put (o := .tup [x]) (Same.refl H2) n3
  have e3 : (L2.upd H2 a3 (.tup [x])) a3 = some (.tup [x]) := upd_same
  generalize L2.upd H2 a3 (.tup [x]) = H3 at s3 e3 ⊢
  refine ⟨_, rfl, _, rfl, by show 0 ≤ sizeLine; decide, fun a4 n4 => ⟨by show 3 ≤ sizeLine; decide, fun a5 n5 => ⟨_, rfl, _, rfl, by show 2 ≤ sizeLine; decide, fun a6 n6 => ⟨_, rfl, _, rfl, by show 7 ≤ sizeLine; decide, fun L nL => ?_⟩⟩⟩⟩
  have s4 := Same.put (o := .tup []) (Same.refl H3) n4
  have e4 : (L2.upd H3 a4 (.tup [])) a4 = some (.tup []) := upd_same
  generalize L2.upd H3 a4 (.tup []) = H4 at s4 e4 n5 n6 nL ⊢
  have s5 := Same.put (o := .tup [x, y, .ref a4]) (Same.refl H4) n5
  have e5 : (L2.upd H4 a5 (.tup [x, y, .ref a4])) a5 = some (.tup [x, y, .ref a4]) := upd_same
  generalize L2.upd H4 a5 (.tup [x, y, .ref a4]) = H5 at s5 e5 n6 nL ⊢
  have s6 := Same.put (o := .tup [y, x]) (Same.refl H5) n6
  have e6 : (L2.upd H5 a6 (.tup [y, x])) a6 = some (.tup [y, x]) := upd_same
  generalize L2.upd H5 a6 (.tup [y, x]) = H6 at s6 e6 nL ⊢
  have s7 := Same.put (o := .lst [.ref a1, .ref a2, .ref a3, .ref a5, .ref a6, x, y]) (Same.refl H6) nL
  have e7 : (L2.upd H6 L (.lst [.ref a1, .ref a2, .ref a3, .ref a5, .ref a6, x, y])) L = some (.lst [.ref a1, .ref a2, .ref a3, .ref a5, .ref a6, x, y]) := upd_same
  generalize L2.upd H6 L (.lst [.ref a1, .ref a2, .ref a3, .ref a5, .ref a6, x, y]) = H7 at s7 e7 ⊢
  have r57 := s6.trans s7
  have r47 := s5.trans r57
  have r37 := s4.trans r47
  have r27 := s3.trans r37
  have r17 := s2.trans r27
  have r07 := s1.trans r17
  have X7 := tx.same r07
  have Y7 := ty.same r07
  have T7 := Tabs.ext tabs0 r07
  have x7 : Xt H H7 := Xt.of r07
  have tv4 : Tv H7 (.ref a4) := by
    refine ⟨⟨.list [.str "tuple"], .inr (.inr (.inl ⟨a4, [], [], rfl, r47 _ _ e4, Nat.zero_le _, .nil, rfl⟩)), by decide +kernel, by decide +kernel⟩, .tup (r47 _ _ e4) (Nat.zero_le _) (fun _ h => nomatch h) (fun _ h => nomatch h), (fun z e => by cases e), .inr ⟨a4, [], rfl, r47 _ _ e4, fun _ h => nomatch h⟩⟩
  have all : ∀ z ∈ [V.ref a1, .ref a2, .ref a3, .ref a5, .ref a6, x, y], ∃ b d, Rv H7 z b d := by
    intro z hz
    simp only [List.mem_cons, List.not_mem_nil, or_false] at hz
    rcases hz with rfl | rfl | rfl | rfl | rfl | rfl | rfl
    · exact rv_two (r17 _ _ e1) X7 Y7
    · exact rv_lst (r27 _ _ e2) X7 Y7
    · exact rv_len (r37 _ _ e3) (by show 1 ≤ 9; decide) (by show 1 ≠ 2; decide) (t1 X7)
    · refine rv_len (r57 _ _ e5) (by show 3 ≤ 9; decide) (by show 3 ≠ 2; decide) fun z hz => ?_
      simp only [List.mem_cons, List.not_mem_nil, or_false] at hz
      rcases hz with rfl | rfl | rfl
      · exact X7
      · exact Y7
      · exact tv4
    · exact rv_two (s7 _ _ e6) Y7 X7
    · exact rv_self X7
    · exact rv_self Y7
  clear tv4 e1 e2 e3 e4 e5 e6 r57 r47 r37 r27 r17 s1 s2 s3 s4 s5 s6 s7 n1 n2 n3 n4 n5 n6 nL t1
  have heap : ∀ {G : Hp}, Xt H7 G → G L = some (.lst [.ref a1, .ref a2, .ref a3, .ref a5, .ref a6, x, y]) := fun g => g _ _ (noT_at e7 fun _ q => by cases q)
  refine ⟨L, rfl, ⟨_, SqL.of e7⟩, for_it (walk_list (xs := [.ref a1, .ref a2, .ref a3, .ref a5, .ref a6, x, y])) (fun i σ H' => ∃ v2 : Option V, σ = [some x, some y, v2] ∧ Xt H7 H' ∧ Tabs T H') ⟨none, rfl, Xt.of (Same.refl H7), T7⟩ (fun _ _ _ _ h => by obtain ⟨_, _, h, _⟩ := h; exact SqL.of (heap h)) ?_ ?_⟩
  · rintro i z σ G G' hi ⟨v2, rfl, xg, tg⟩ ex
    obtain ⟨rfl, hz⟩ := ex
    obtain ⟨b, d, R7⟩ := all z (List.mem_of_getElem? hz)
    have ok := kpB_ok R7
    dsimp only [List.set]
    refine ⟨tg, fun G2 eN T2 => ?_⟩
    have x2 : Xt H7 G2 := xg.trans (Xt.ext eN)
    refine ttr_row (R7.xt x2) (fun E k g bd => ⟨rfl, _, rfl, z, b, rfl, (R7.xt x2).k, g, bd⟩) fun q3 G3 n3 s3 d3 => ?_
    have x3 := x2.trans (Xt.of s3)
    refine ⟨_, rfl, z, d, b, rfl, (R7.xt x3).k, (R7.xt x3).th, fun q4 G4 n4 s4 d4 => ?_⟩
    refine ⟨_, _, Dp.stay s4 (Dp.stay New.sub d3), Dp.stay New.sub d4, shaped_of ok.1 ok.2, shaped_of ok.1 ok.2, ?_⟩
    rw [SeqAt.eqv_refl _ ok.1]
    refine ⟨_, rfl, iteF ?_⟩
    have x4 := x3.trans (Xt.of s4)
    refine ⟨Tabs.ext T2 (s3.trans s4), fun G5 eN5 T5 => ?_⟩
    have x5 : Xt H7 G5 := x4.trans (Xt.ext eN5)
    refine ttr_row (R7.xt x5) (fun E k g bd => ⟨rfl, _, rfl, rfl, z, b, rfl, (R7.xt x5).k, g, bd⟩) fun q6 G6 n6 s6 d6 => ?_
    have x6 := x5.trans (Xt.of s6)
    refine ⟨_, rfl, z, d, b, rfl, (R7.xt x6).k, (R7.xt x6).th, fun q8 G8 n8 s8 d8 => ?_⟩
    refine ⟨_, _, Dp.stay s8 (Dp.stay New.sub d6), Dp.stay New.sub d8, shaped_of ok.1 ok.2, shaped_of ok.1 ok.2, ?_⟩
    rw [SeqAt.eqv_refl _ ok.1]
    exact ⟨_, rfl, iteF ⟨_, rfl, x6.trans (Xt.of s8), Tabs.ext T5 (s6.trans s8)⟩⟩
  · rintro σ G ⟨v2, rfl, xg, tg⟩
    exact k _ (x7.trans xg) tg
end
end Wb
/-! k09: _law_right -/
namespace Wb
open PySem PySem.Spec PyProof.Rows L2 WbMin WbO WbS WbT Lz Le Lk Lj LamX Ke
open Lg hiding int_lt keepA keep5 cut_at sLOdd
theorem prW_ni {H : Hp} {sg : List Nat} {x v : V} (h : prW H sg x = some v) : v = .non ∨ ∃ i : Int, v = .int i := by
  have pr : ∀ {xs}, prR sg xs = some v → v = .non ∨ ∃ i : Int, v = .int i := fun {xs} h => by
    unfold prR at h
    split at h
    · cases h
      exact .inr ⟨_, rfl⟩
    · cases h
  have po : ∀ {o}, prO sg o = some v → v = .non ∨ ∃ i : Int, v = .int i := fun {o} h => by
    unfold prO at h
    split at h
    · exact pr h
    · cases h
      exact .inl rfl
  cases x with
  | ref a => exact po h
  | _ =>
    cases h
    exact .inl rfl
theorem no_thing {H H' : Hp} {x : V} {d : PyData} {n : Nat} (h : Thing H n x d) (s : Xt H H') : Thing H' n x d := h.noT.same s
theorem kp_ok {H : Hp} {x0 x1 : V} {o : Option (Nat × V)} {d : PyData} (due : KDue H x0 x1 o) (l : d.canLay0 = true) (n : PyData.depth d ≤ 62) : (PyData.list [.str (wdO o), kpO d o]).canLay0 = true ∧ PyData.depth (PyData.list [.str (wdO o), kpO d o]) ≤ 64 := by
  have non : (plainD .none).canLay0 = true ∧ PyData.depth (plainD .none) ≤ 62 := ⟨by decide +kernel, by decide +kernel⟩
  have int : ∀ i : Int, (plainD (.int i)).canLay0 = true ∧ PyData.depth (plainD (.int i)) ≤ 62 := fun i => by
    refine ⟨?_, by show 1 ≤ 62; decide⟩
    show ((PyData.strOk "plain") && (true && true)) = true
    have e : PyData.strOk "plain" = true := by decide +kernel
    rw [e] <;> rfl
  have fin : ∀ {wd : Str} {u : PyData}, PyData.strOk wd = true → u.canLay0 = true ∧ PyData.depth u ≤ 62 → (PyData.list [.str wd, u]).canLay0 = true ∧ PyData.depth (PyData.list [.str wd, u]) ≤ 64 := fun {wd u} e1 e2 => by
    refine ⟨?_, ?_⟩
    · show (PyData.strOk wd && (u.canLay0 && true)) = true
      rw [e1, e2.1] <;> rfl
    · show max 0 (max (PyData.depth u) 0) + 1 ≤ 64
      omega
  rcases kdue_two due with ⟨_, rfl⟩ | ⟨sg, _, G, ⟨_, rfl⟩ | ⟨_, rfl⟩⟩
  · exact fin (show PyData.strOk ("signs" : Str) = true by decide +kernel) ⟨l, n⟩
  · exact fin (show PyData.strOk ("nothing" : Str) = true by decide +kernel) non
  · cases e : prW H sg x1 with
    | none => exact fin (show PyData.strOk ("nothing" : Str) = true by decide +kernel) non
    | some v =>
      rcases prW_ni e with rfl | ⟨i, rfl⟩
      · exact fin (show PyData.strOk ("pairs" : Str) = true by decide +kernel) non
      · exact fin (show PyData.strOk ("pairs" : Str) = true by decide +kernel) (int i)
theorem ttr_due {K : PySem.W.Frag} {B : KE'} {cR : Addr} {act : Lk.Act} {H : Hp} {Q : VK} {x0 x1 : V} {o : Option (Nat × V)} {d : PyData} (due : KDue H x0 x1 o) (th : Thing H 7 x0 d)
    (run : ∀ (E : XK) (k : VK), (o = none → ∀ v H', Same H H' → k v H') → (∀ i v, o = some (i, v) → FailsN E (B.cls i).1 (B.cls i).2 v H) → act E H k) (told : TellR K H (wdO o) (kpO d o) Q) : TTR K B cR act H Q := by
  rcases kdue_two due with ⟨_, rfl⟩ | ⟨sg, _, G, ⟨_, rfl⟩ | ⟨_, rfl⟩⟩
  · exact .inr ⟨0, x0, d, th, fun E k b => run E k (fun q => by cases q) (fun i v q => by cases q; exact b), told⟩
  · exact .inl ⟨fun E k g => run E k (fun _ => g) (fun i v q => by cases q), told⟩
  · cases e : prW H sg x1 with
    | none =>
      rw [e] at run told
      exact .inl ⟨fun E k g => run E k (fun _ => g) (fun i v q => by cases q), told⟩
    | some v =>
      rw [e] at run told
      rcases prW_ni e with rfl | ⟨j, rfl⟩
      · exact .inr ⟨1, .non, plainD .none, .inl .non, fun E k b => run E k (fun q => by cases q) (fun i v q => by cases q; exact b), told⟩
      · exact .inr ⟨1, .int j, plainD (.int j), .inl (.int j), fun E k b => run E k (fun q => by cases q) (fun i v q => by cases q; exact b), told⟩
theorem due_xt {H H' : Hp} {x0 x1 : V} {o : Option (Nat × V)} (wh : Lg.Wh H x1) (h : KDue H x0 x1 o) (s : Xt H H') : KDue H' x0 x1 o := KDue.same (no_wh wh) (no_due wh h) s
def spRight9 (T : List (Addr × Str)) : Sp := fun vs H Q _ => ∃ p : Addr, vs = [.ref p] ∧ PoolAt H p ∧ Tabs T H ∧ ∀ H', Bt p H H' → Tabs T H' → Q (.bl true) H'
abbrev NRi9 : List Str := ["_law_pool_here", "_law_turn", "_law_way", "_law_due_here", "_law_abc", "_law_some"]
theorem scRi9 : FnScope NRi9 ["_law_pool_here"] (defScope sRfRight) := ⟨rfl, rfl, rfl, by decide +kernel, rfl, by decide +kernel, by decide +kernel⟩
section
variable {P : Program} {w : World} {K : PySem.W.Frag} {mg : Str → Option Value} {base : Heap} {c c2 Pt Pt2 cR fR : Addr} {dR : FuncData} {A : KA} {M : KM} {B : KE'} {D : DQ} {T : List (Addr × Str)}
set_option maxHeartbeats 8000000 in
theorem ok_right (F : FunT K "_law_right" "_law_right" sRfRight D.right D.dright c2) (TB2 : TabB base mg c2 Pt2) (inT2 : (Pt2, qRig) ∈ T) (one2 : ∀ y ∈ T, y.1 = Pt2 → y.2 = qRig) (FR : FunT K "_law_row_right" "_law_row_right" sRfRow D.row D.drow c) (TB : TabB base mg c Pt) (inT : (Pt, qRow) ∈ T) (one : ∀ y ∈ T, y.1 = Pt → y.2 = qRow) (Z : Free mg) (ZT : FreeT mg) (mL : mg "list" = none) (R : KindF K mg A) (KM : KMadF K A M) (EM : ErM K mg B cR fR dR) (TK : TakesR K B cR) (D' : Defs K mg D) :
    FnOk P w K mg base CX0 12 D.right D.dright ["_law_pool_here"] (spRight9 T) := by
  have G : FnOk P w K mg base CX0 1 D.draw D.ddraw ["_law_pool_here", "_law_many"] spDraw := ok_draw D'.draw.F Z.int Z.divmod
  have GS : FnOk P w K mg base CX0 2 D.signs D.dsigns ["_law_pool_here", "_law_most"] spSigns := ok_signs D'.signs.F D'.draw Z.int Z.divmod Z.len Z.range
  have GC : FnOk P w K mg base CX0 3 D.couples D.dcouples ["_law_pool_here", "_law_abc"] spCouples := ok_couples D'.couples.F D'.draw D'.every D'.shuf Z R.lst
  have GP : FnOk P w K mg base CX0 3 D.spp D.dspp ["_law_pool_here", "_law_abc", "_law_some"] spSpP := ok_sppairs D'.spp.F D'.draw D'.odd Z mL
  have GSs : FnOk P w K mg base CX0 3 D.sps D.dsps ["_law_pool_here", "_law_abc"] spSpS := ok_spsigns D'.sps.F D'.draw D'.odd Z R.tup
  have GD : FnOk P w K mg base CX0 9 D.due D.ddue ["_law_abc", "_law_some"] (spKDue9 K) := ok_rfdue D'.due.F Z ZT D'.face D'.bads D'.isword
  have GR : FnOk P w K mg base CX0 11 D.row D.drow ["_law_abc", "_law_some"] (spRowR T) := ok_rowright FR TB inT one Z ZT mL R KM EM TK D'
  have GK : FnOk P w K mg base (Out P w) 4 A.fI A.dI ["self", "signs", "pairs"] (spKInitX B A.C) := lift (ok_kinitX R Z EM.er)
  obtain ⟨its, kA⟩ := KM.kA
  obtain ⟨ds, vds, bI⟩ := KM.bI
  obtain ⟨ocH, odH, kVH, docH, pmH, anH, cdvH, ctH, oslH, eH, lkH, cdH⟩ := D'.heard.F.ex
  have bH := D'.heard.b
  rw [eH] at lkH bH
  refine okT F scRi9 (fun vs H Q E h => by obtain ⟨p, rfl, _⟩ := h; rfl) (fun A' outer s H vs Q E hr h => ?_)
  obtain ⟨p, rfl, hp, tabs, k⟩ := h
  have hr1 : Room 1 _ := hr.mono (by decide)
  have hr2 : Room 2 _ := hr.mono (by decide)
  have hr3 : Room 3 _ := hr.mono (by decide)
  have hr9 : Room 9 _ := hr.mono (by decide)
  have hr10 : Room 10 _ := hr.mono (by decide)
  refine ⟨_, pss_cons (ps_for PassesOwn.never rfl (pi_range1 rfl Z.range (pa_cons pe_int pa_nil)) (pg_name (i := 1) scRi9.nd rfl (.inl rfl))
      (pss_cons (ps_set (i := 4) scRi9.nd rfl (.inr rfl) (pe_call GS hr2 rfl D'.signs.g D'.signs.kp D'.signs.b .nil pass0 (pa_cons (pv 0) (pa_cons pe_int pa_nil))))
      (pss_cons (ps_set (i := 5) scRi9.nd rfl (.inr rfl) (pe_callTy call_tuple_of (by rfl) R.tup (by decide +kernel) (pa_cons (pe_call GC hr3 rfl D'.couples.g D'.couples.kp D'.couples.b .nil pass0 (pa_cons (pv 0) (pa_cons (pv 4) pa_nil))) pa_nil)))
      (pss_cons (ps_set (i := 2) scRi9.nd rfl (.inl rfl) (pe_call G hr1 rfl D'.draw.g D'.draw.kp D'.draw.b .nil pass0 (pa_cons (pv 0) (pa_cons pe_int pa_nil))))
      (pss_cons (ps_join (ps_if (pt_cmpR (show OpR _ _ (rIn K false) from op_in_seq) (pv 2) (pe_lst (pa_cons pe_int (pa_cons pe_int pa_nil))) (by rfl)) (pss_one (ps_set (i := 5) scRi9.nd rfl (.inr rfl) (pe_call GP hr3 rfl D'.spp.g D'.spp.kp D'.spp.b .nil pass0 (pa_cons (pv 0) (pa_cons (pv 4) (pa_cons (pv 5) pa_nil)))))) pss_nil))
      (pss_cons (ps_join (ps_if (pt_cmpR (show OpR _ _ (rIn K false) from op_in_seq) (pv 2) (pe_lst (pa_cons pe_int (pa_cons pe_int pa_nil))) (by rfl)) (pss_one (ps_set (i := 4) scRi9.nd rfl (.inr rfl) (pe_call GSs hr3 rfl D'.sps.g D'.sps.kp D'.sps.b .nil pass0 (pa_cons (pv 0) (pa_cons (pv 4) pa_nil))))) pss_nil))
      (pss_cons (ps_set (i := 3) scRi9.nd rfl (.inl rfl) (pe_call GD hr9 rfl D'.due.g D'.due.kp D'.due.b .nil pass0 (pa_cons (pv 4) (pa_cons (pv 5) pa_nil))))
      (pss_cons (ps_if (pt_cmpR (op_neD hr.units) (pe_heard2 (T := T) (TT := TTR K B cR) (k := 8) (Ng := NHr) (a := "_law_act") (by rfl) D'.heard.g D'.heard.kp lkH cdH bH scHr rfl (.inl rfl) (hears_ref D'.face ZT EM TK (by decide)) TB2 rfl inT2 one2 hr10 (lamS_by (show lamSB (defScope sRfRight) _ = true by decide +kernel)) rfl (fun _ _ _ _ _ => rfl)
          (fun A2 outer2 s2 H2 E2 f2 c2 hr2 => pe_make R.M GK (hr2.mono (by decide)) rfl R.T.gC R.bI3 .nil (passes2 (takes2_of rfl rfl rfl rfl)) (pa_cons (pv 4) (pa_cons (pv 5) pa_nil)))) (pv 3) (nomark _)) (pss_one ps_never) pss_nil)
      (pss_cons (ps_if (pt_cmpR (op_neD hr.units) (pe_heard2 (T := T) (TT := TTR K B cR) (k := 8) (Ng := NHr) (a := "_law_act") (by rfl) D'.heard.g D'.heard.kp lkH cdH bH scHr rfl (.inl rfl) (hears_ref D'.face ZT EM TK (by decide)) TB2 rfl inT2 one2 hr10 (lamS_by (show lamSB (defScope sRfRight) _ = true by decide +kernel)) rfl (fun _ _ _ _ _ => rfl)
          (fun A2 outer2 s2 H2 E2 f2 c2 hr2 => pe_makeK0 R.M GK (hr2.mono (by decide)) rfl R.T.gC kA (passes2 (takes2_of rfl rfl rfl rfl)) (pk_cons (pv 5) (pk_cons (pv 4) pk_nil)))) (pv 3) (nomark _)) (pss_one ps_never) pss_nil)
      (pss_cons (ps_if (PW.pt (pw_or (pt_cmpR (op_neD hr.units) (pe_heard2 (T := T) (TT := TTR K B cR) (k := 8) (Ng := NHr) (a := "_law_act") (by rfl) D'.heard.g D'.heard.kp lkH cdH bH scHr rfl (.inl rfl) (hears_ref D'.face ZT EM TK (by decide)) TB2 rfl inT2 one2 hr10 (lamS_by (show lamSB (defScope sRfRight) _ = true by decide +kernel)) rfl (fun _ _ _ _ _ => rfl)
          (fun A2 outer2 s2 H2 E2 f2 c2 hr2 => pe_make R.M GK (hr2.mono (by decide)) rfl R.T.gC bI vds (passes2 (takes2_of rfl rfl rfl rfl)) (pa_cons (pv 4) pa_nil))) (pe_call GD hr9 rfl D'.due.g D'.due.kp D'.due.b .nil pass0 (pa_cons (pv 4) (pa_cons pe_non pa_nil))) (nomark _))
          (pw_or1 (pt_not (pt_val (pe_call GR hr rfl D'.row.g D'.row.kp D'.row.b .nil pass0 (pa_cons (pv 4) (pa_cons (pv 5) pa_nil)))))))) (pss_one ps_never) pss_nil)
      (pss_one (ps_if (PW.pt (pw_and (pt_cmpR op_eq (pv 2) pe_int (nomark _)) (pw_and1 (pt_not (pt_val (pe_call GR hr rfl D'.row.g D'.row.kp D'.row.b .nil pass0 (pa_cons (pe_join pe_str (pe_callB (call_sortedTx rfl) (by rfl) R.sort (by decide +kernel) (pa_cons (pv 4) pa_nil)))
          (pa_cons (pe_callTy call_tuple_of (by rfl) R.tup (by decide +kernel) (pa_cons (pe_callB call_sortedTup (by rfl) R.sort (by decide +kernel) (pa_cons (pv 5) pa_nil)) pa_nil)) pa_nil)))))))) (pss_one ps_never) pss_nil))))))))))))
    (pss_one (ps_ret pe_bl)), ?_⟩
  refine ⟨_, rfl, by decide, by decide, for_it walk_range (fun i σ H' => ∃ v1 v2 v3 v4 v5 : Option V, σ = [some (V.ref p), v1, v2, v3, v4, v5] ∧ PoolAt H' p ∧ Tabs T H' ∧ Bt p H H') ⟨none, none, none, none, none, rfl, hp, tabs, Bt.same (Same.refl H)⟩ (fun _ _ _ _ _ => trivial) ?_ ?_⟩
  · rintro i x0 σ H0 H0' hi ⟨v1, v2, v3, v4, v5, rfl, hp0, tb0, t0⟩ ⟨rfl, rfl⟩
    dsimp only [List.set]
    refine ⟨_, rfl, p, 4, rfl, by decide, by decide, hp0, fun sg H1 low nd a0 a1 hp1 b1 => ?_⟩
    have SG : Sgs sg := ⟨low, nd, a0, by omega⟩
    refine ⟨_, rfl, _, rfl, p, sg, rfl, SG, hp1, fun l ps H2 hl nl PS hp2 b2 => ?_⟩
    refine ⟨l, _, rfl, .inl ⟨SqL.of hl, fun t nt => ?_⟩⟩
    have s3 := Same.put (o := .tup (ps.map V.str)) (Same.refl H2) nt
    have et : (L2.upd H2 t (.tup (ps.map V.str))) t = some (.tup (ps.map V.str)) := upd_same
    have hp3 := hp2.same s3
    have c3 := (b1.trans b2).trans (But.of s3)
    generalize L2.upd H2 t (.tup (ps.map V.str)) = H3 at s3 et hp3 c3 ⊢
    dsimp only [List.set]
    refine ⟨_, rfl, p, _, rfl, by decide, by decide, hp3, fun d H4 d0 d1 hp4 b4 => ?_⟩
    dsimp only [List.set]
    obtain ⟨d, rfl⟩ := nat_of d0
    have et4 := b4 _ _ (poolT hp3 et) et
    have c4 := c3.trans b4
    clear b4 c3 hp3 et s3 d0 hl nl hp2 b2 b1 hp1
    have lo : ∀ c ∈ sg, c < 1000 := fun c hc => by have := SG.low c hc; omega
    have few := SG.few
    have pS : ∀ {G : Hp}, Px p G (.str (S sg)) := Vx.px (TxM.vx (m := 4) ⟨sg, rfl, few, lo⟩ (by decide))
    have pT : ∀ {G : Hp}, But p H4 G → PoolAt G p → Px p G (.ref t) := fun b po => tup_px (n := 16) po ⟨t, _, rfl, b _ _ (poolT hp4 et4) et4, by rw [List.length_map]; exact PS.few, pair_vx SG PS⟩ (by decide)
    have yes : ∀ {b : Bool}, b = true → ∀ {A B : Prop}, A → (if b = true then A else B) := fun e _ _ h => by rw [e]; exact h
    have no : ∀ {b : Bool}, b = false → ∀ {A B : Prop}, B → (if b = true then A else B) := fun e _ _ h => by rw [e]; exact h
    refine ⟨fun σ' H' => ∃ (y : V) (vi : Option V), σ' = [some (V.ref p), vi, some (.int (d : Nat)), v3, some (.str (S sg)), some y] ∧ Px p H' y ∧ (d = 0 → y = .ref t) ∧ PoolAt H' p ∧ But p H4 H', ?_, ?_⟩
    · refine ⟨_, rfl, by show 2 ≤ sizeLine; decide, fun e he => ⟨e, _, rfl, .inl (SqL.of upd_same), rfl, rfl, _, rfl, ?_⟩⟩
      have s5 := Same.put (o := .lst [.int 1, .int 3]) (Same.refl H4) he
      have po5 := hp4.same s5
      have c5 := But.of (p := p) s5
      generalize L2.upd H4 e (.lst [.int 1, .int 3]) = H5 at s5 po5 c5 ⊢
      by_cases hd : d = 1 ∨ d = 3
      · refine yes (by rcases hd with rfl | rfl <;> rfl) ?_
        exact ⟨_, rfl, _, rfl, _, rfl, p, t, sg, ps, rfl, SG, po5, s5 _ _ et4, PS, fun y H6 py po6 c6 => ⟨y, _, rfl, py, fun z => by omega, po6, c5.trans c6⟩⟩
      · refine no ?_ ⟨_, _, rfl, pT c5 po5, fun _ => rfl, po5, c5⟩
        rcases (by omega : d = 0 ∨ d = 2) with rfl | rfl <;> rfl
    rintro σ H5 ⟨y, vi, rfl, py, ey, hp5, b5⟩
    refine ⟨fun σ' H' => ∃ (x y : V) (vi : Option V), σ' = [some (V.ref p), vi, some (.int (d : Nat)), v3, some x, some y] ∧ Px p H' x ∧ Px p H' y ∧ (d = 0 → x = .str (S sg) ∧ y = .ref t) ∧ PoolAt H' p ∧ But p H4 H', ?_, ?_⟩
    · refine ⟨_, rfl, by show 2 ≤ sizeLine; decide, fun e he => ⟨e, _, rfl, .inl (SqL.of upd_same), rfl, rfl, _, rfl, ?_⟩⟩
      have s6 := Same.put (o := .lst [.int 2, .int 3]) (Same.refl H5) he
      have po6 := hp5.same s6
      have c6 := But.of (p := p) s6
      generalize L2.upd H5 e (.lst [.int 2, .int 3]) = H6 at s6 po6 c6 ⊢
      by_cases hd : d = 2 ∨ d = 3
      · refine yes (by rcases hd with rfl | rfl <;> rfl) ?_
        exact ⟨_, rfl, _, rfl, p, sg, rfl, SG, po6, fun x H7 px po7 c7 => ⟨x, y, _, rfl, Vx.px px, (py.same s6).but c7, fun z => by omega, po7, b5.trans (c6.trans c7)⟩⟩
      · refine no ?_ ⟨_, y, _, rfl, pS, py.same s6, fun z => ⟨rfl, ey z⟩, po6, b5.trans c6⟩
        rcases (by omega : d = 0 ∨ d = 1) with rfl | rfl <;> rfl
    rintro σ H6 ⟨x, y, vi, rfl, px, py, exy, hp6, b6⟩
    have tb6 := Tabs.but tb0 hp0 (c4.trans b6)
    have t6 : Bt p H H6 := t0.trans (Bt.of (c4.trans b6))
    have X6 := px.tv
    have Y6 := py.tv
    have et6 := b6 _ _ (poolT hp4 et4) et4
    clear py px ey b5 hp5 b6 et4 c4 tb0 t0 hp0 pT pS yes no hp4
    obtain ⟨o, due⟩ := kdue_ex (pV := y) X6.sor
    obtain ⟨dx, th6, lay, dep⟩ := id X6.1
    have th := th6.up
    have ok := kp_ok due lay (Nat.le_trans dep (by decide))
    refine ⟨_, rfl, _, rfl, x, y, dx, o, rfl, X6.sor, th, Y6.2.1, due, fun q H7 nq s7 dq => ?_⟩
    dsimp only [List.set]
    have dq7 : Dp K H7 (.ref q) _ := Dp.stay New.sub dq
    refine ⟨Tabs.ext tb6 s7, fun G2 eN T2 => ?_⟩
    have x2 : Xt H6 G2 := (Xt.of s7).trans (Xt.ext eN)
    have made : ∀ {G : Hp} {pV : V} {o' : Option (Nat × V)} {E : XK} {k : VK} {kx dxk : Addr}, Xt H6 G → Lg.Wh G pV → KDue G x pV o' → (o' = none → ∀ v H', Same G H' → k v H') → (∀ i v, o' = some (i, v) → FailsN E (B.cls i).1 (B.cls i).2 v G) → G kx = none → G dxk = none → spKInitX B A.C [.ref kx, x, pV] (L2.upd (L2.upd G dxk (.own kx)) kx (.ins A.C dxk [])) (fun v H2 => v = .non ∧ k (.ref kx) H2) E := fun {G pV o' E k kx dxk} xg wg dg g bd hx hdx =>
      ⟨G, kx, dxk, x, pV, o', rfl, (X6.xt xg).sor, wg, dg, Same.new' (Same.put (Same.refl G) hdx) hx, hx, upd_same, fun eo H' sg0 sg' ps0 ps' s' _ _ _ _ _ _ _ _ => ⟨rfl, g eo _ H' s'⟩, bd⟩
    refine ttr_due (due_xt Y6.2.1 due x2) (no_thing th x2) (fun E k g bd => ⟨_, rfl, _, rfl, fun kx dxk hx hdx ne => made x2 (Y6.xt x2).2.1 (due_xt Y6.2.1 due x2) g bd hx hdx⟩) fun a1 G3 n3 s3 d3 => ?_
    have q3 := Dp.stay s3 (Dp.xt dq7 (Xt.ext eN))
    refine ⟨_, rfl, _, _, Dp.stay New.sub d3, q3, shaped_of ok.1 ok.2, shaped_of ok.1 ok.2, ?_⟩
    rw [SeqAt.eqv_refl _ ok.1]
    refine ⟨_, rfl, iteF ?_⟩
    refine ⟨Tabs.ext T2 s3, fun G4 eN4 T4 => ?_⟩
    have x4 : Xt H6 G4 := (x2.trans (Xt.of s3)).trans (Xt.ext eN4)
    refine ttr_due (due_xt Y6.2.1 due x4) (no_thing th x4) (fun E k g bd => ⟨_, rfl, _, rfl, rfl, rfl, fun kx dxk hx hdx ne => made x4 (Y6.xt x4).2.1 (due_xt Y6.2.1 due x4) g bd hx hdx⟩) fun a5 G5 n5 s5 d5 => ?_
    have q5 := Dp.stay s5 (Dp.xt q3 (Xt.ext eN4))
    refine ⟨_, rfl, _, _, Dp.stay New.sub d5, q5, shaped_of ok.1 ok.2, shaped_of ok.1 ok.2, ?_⟩
    rw [SeqAt.eqv_refl _ ok.1]
    refine ⟨_, rfl, iteF ?_⟩
    refine ⟨Tabs.ext T4 s5, fun G6 eN6 T6 => ?_⟩
    have x6 : Xt H6 G6 := (x4.trans (Xt.of s5)).trans (Xt.ext eN6)
    obtain ⟨o2, due2⟩ := kdue_ex (pV := .non) (X6.xt x6).sor
    have ok2 := kp_ok due2 lay (Nat.le_trans dep (by decide))
    refine ttr_due due2 (no_thing th x6) (fun E k g bd => ⟨_, rfl, fun kx dxk hx hdx ne => made x6 (.one .non) due2 g bd hx hdx⟩) fun a7 G7 n7 s7' d7 => ?_
    have x7 := x6.trans (Xt.of s7')
    refine ⟨_, rfl, x, .non, dx, o2, rfl, (X6.xt x7).sor, no_thing th x7, .one .non, KDue.same (.one .non) due2 s7', fun a8 G8 n8 s8 d8 => ?_⟩
    refine ⟨_, _, Dp.stay s8 (Dp.stay New.sub d7), Dp.stay New.sub d8, shaped_of ok2.1 ok2.2, shaped_of ok2.1 ok2.2, ?_⟩
    rw [SeqAt.eqv_refl _ ok2.1]
    refine ⟨_, rfl, iteF ?_⟩
    have x8 := x7.trans (Xt.of s8)
    refine ⟨_, rfl, _, rfl, x, y, rfl, X6.xt x8, Y6.xt x8, Tabs.ext T6 (s7'.trans s8), fun G9 x9 T9 => ⟨_, rfl, iteF ?_⟩⟩
    have x69 := x8.trans x9
    refine ⟨_, rfl, rfl, _, rfl, ?_⟩
    by_cases hd : d = 0
    · obtain ⟨rfl, rfl⟩ := exy hd
      subst hd
      refine iteT ?_
      have et9 := x69 _ _ (noT_at et6 fun _ q => by cases q)
      refine ⟨⟨_, rfl⟩, _, rfl, S sg, rfl, by rw [S_len]; omega, fun ys p1 perm srt hp' => ?_⟩
      rw [S_cps] at perm
      obtain ⟨sg1, hsg1, rfl⟩ := perm_codes perm
      have sl := hsg1.length_eq
      refine ⟨_, p1, sg1.map sOne, rfl, rfl, .inl (SqL.of upd_same), ?_, ?_⟩
      · have e1 : ((sg1.map sOne).map fun x => x.length) = List.replicate sg1.length 1 := by
          rw [List.map_map]
          exact List.map_eq_replicate_iff.mpr fun _ _ => rfl
        have e2 : (Str.ofString "").length = 0 := by decide +kernel
        rw [e1, e2, List.sum_replicate_nat]
        omega
      have ej : Txt.join (Str.ofString "") (sg1.map sOne) = S sg1 := join_one (by rw [sl]; exact SG.pos)
      rw [ej]
      have sA := Same.put (o := .lst ((sg1.map sOne).map V.str)) (Same.refl G9) hp'
      generalize L2.upd G9 p1 (.lst ((sg1.map sOne).map V.str)) = G10 at sA ⊢
      have few' := PS.few
      refine ⟨_, rfl, t, ps, rfl, SqT.of (sA _ _ et9), by omega, fun ys p2 perm2 srt2 hp2 => ⟨p2, _, rfl, .inl ⟨SqL.of upd_same, fun u nu => ?_⟩⟩⟩
      have sB := Same.put (o := .lst (ys.map V.str)) (Same.refl G10) hp2
      generalize L2.upd G10 p2 (.lst (ys.map V.str)) = G11 at sB nu ⊢
      have sC := Same.put (o := .tup (ys.map V.str)) (Same.refl G11) nu
      have eu : (L2.upd G11 u (.tup (ys.map V.str))) u = some (.tup (ys.map V.str)) := upd_same
      generalize L2.upd G11 u (.tup (ys.map V.str)) = G12 at sC eu ⊢
      have sD := (sA.trans sB).trans sC
      have po12 := (hp6.xt x69).same sD
      have tvS : Tv G12 (.str (S sg1)) := (Vx.px (TxM.vx (p := p) (m := 4) ⟨sg1, rfl, by omega, fun c hc => lo c (hsg1.mem_iff.mp hc)⟩ (by decide))).tv
      have tvU : Tv G12 (.ref u) := (tup_px (n := 16) po12 ⟨u, _, rfl, eu, by rw [List.length_map, perm2.length_eq]; exact PS.few, fun z hz => pair_vx SG PS z ((perm2.map V.str).mem_iff.mp hz)⟩ (by decide)).tv
      refine ⟨_, _, rfl, tvS, tvU, Tabs.ext T9 sD, fun G13 x13 T13 => ⟨_, rfl, iteF ?_⟩⟩
      have xz := (x69.trans (Xt.of sD)).trans x13
      exact ⟨_, _, _, _, _, rfl, hp6.xt xz, T13, t6.trans (Xt.bt xz)⟩
    · have e : decide (V.int (d : Nat) = V.int 0) = false := decide_eq_false fun q => hd (by injection q with q; exact_mod_cast q)
      rw [e]
      exact ⟨_, _, _, _, _, rfl, hp6.xt x69, T9, t6.trans (Xt.bt x69)⟩
  · rintro σ H8 ⟨v1, v2, v3, v4, v5, rfl, hp8, tb8, t8⟩
    exact k H8 t8 tb8
end
end Wb
/-! k09: the law -/
namespace Wb
open PySem L2 WbMin WbS Lz Le LamX Lk Lj Ke
open Lg hiding int_lt keepA keep5 cut_at sLOdd
abbrev sLaw : Stmt := top 56
def spLawT (K : PySem.W.Frag) (T : List (Addr × Str)) : Sp := fun vs H Q _ => ∃ (a : Addr) (ns : List Int), vs = [.ref a] ∧ SqL K H a (ns.map V.int) ∧ ns.length ≤ 63 ∧ Tabs T H ∧ ∀ H', Q (.bl true) H'
theorem SqL.noT {K : PySem.W.Frag} {H : Hp} {a : Addr} {xs : List V} (h : SqL K H a xs) : SqL K (noT H) a xs := by
  rcases h with (q | ⟨o, q⟩) | q
  · exact .inl (.inl (noT_at q (fun _ z => by cases z)))
  · exact .inl (.inr ⟨o, noT_at q (fun _ z => by cases z)⟩)
  · exact .inr q
theorem Tabs.put {T : List (Addr × Str)} {H : Hp} {L : Addr} {xs : List V} {o : HO} (t : Tabs T H) (h : H L = some (.lst xs)) : Tabs T (upd H L o) := fun y hy => by
  obtain ⟨ps, h1, h2, h3⟩ := t y hy
  have n1 : y.1 ≠ L := ne_of h1 h fun z => by cases z
  refine ⟨ps, (upd_ne n1).trans h1, h2, fun pos cv hc => ?_⟩
  obtain ⟨c, e1, e2⟩ := h3 pos cv hc
  exact ⟨c, e1, (upd_ne (ne_of e2 h fun z => by cases z)).trans e2⟩
theorem Tabs.new {T : List (Addr × Str)} {H : Hp} {L : Addr} {o : HO} (t : Tabs T H) (h : H L = none) : Tabs T (L2.upd H L o) := fun y hy => by
  obtain ⟨ps, h1, h2, h3⟩ := t y hy
  refine ⟨ps, (upd_ne (ne_of_none h1 h)).trans h1, h2, fun pos cv hc => ?_⟩
  obtain ⟨c, e1, e2⟩ := h3 pos cv hc
  exact ⟨c, e1, (upd_ne (ne_of_none e2 h)).trans e2⟩
section
variable {P : Program} {w : World} {K : PySem.W.Frag} {mg : Str → Option Value} {base : Heap} {f c c2 Pt Pt2 cR fR : Addr} {fd dR : FuncData} {A : KA} {M : KM} {B : KE'} {D : DQ}
theorem scLa : FnScope ["_law_script", "_law_k"] ["_law_script"] (defScope sLaw) := ⟨rfl, rfl, rfl, by decide +kernel, rfl, by decide +kernel, by decide +kernel⟩
set_option maxHeartbeats 4000000 in
theorem ok_law (F : Fun K "law" "law" sLaw f fd) (TB2 : TabB base mg c2 Pt2) (FT2 : FunT K "_law_right" "_law_right" sRfRight D.right D.dright c2) (TB : TabB base mg c Pt) (FT : FunT K "_law_row_right" "_law_row_right" sRfRow D.row D.drow c) (nPt : Pt ≠ Pt2) (Z : Free mg) (ZT : FreeT mg) (mL : mg "list" = none) (R : KindF K mg A) (KM : KMadF K A M) (EM : ErM K mg B cR fR dR) (TK : TakesR K B cR)
    (D' : Defs K mg D) : FnOk P w K mg base CX0 13 f fd ["_law_script"] (spLawT K [(Pt2, qRig), (Pt, qRow)]) := by
  have GC : FnOk P w K mg base CX0 1 D.cell D.dcell ["_law_script", "_law_k"] (spCell K) := ok_cell D'.cell.F Z.int Z.len
  have GP : FnOk P w K mg base CX0 1 D.pool D.dpool ["_law_cell_here"] spPool := ok_pool D'.pool.F Z.abs Z.int
  have one2 : ∀ y ∈ [(Pt2, qRig), (Pt, qRow)], y.1 = Pt2 → y.2 = qRig := fun y hy e => by
    simp only [List.mem_cons, List.not_mem_nil, or_false] at hy
    rcases hy with rfl | rfl
    · rfl
    · exact absurd e nPt
  have one : ∀ y ∈ [(Pt2, qRig), (Pt, qRow)], y.1 = Pt → y.2 = qRow := fun y hy e => by
    simp only [List.mem_cons, List.not_mem_nil, or_false] at hy
    rcases hy with rfl | rfl
    · exact absurd e.symm nPt
    · rfl
  have GR : FnOk P w K mg base CX0 12 D.right D.dright ["_law_pool_here"] (spRight9 [(Pt2, qRig), (Pt, qRow)]) := ok_right FT2 TB2 List.mem_cons_self one2 FT TB (List.mem_cons_of_mem _ List.mem_cons_self) one Z ZT mL R KM EM TK D'
  refine F.ok scLa (fun vs H Q E h => ?_) (fun cdv A' outer s H vs Q E hr h => ?_)
  · obtain ⟨a, ns, rfl, _⟩ := h
    rfl
  · obtain ⟨a, ns, rfl, hS0, hlen, tabs0, k⟩ := h
    have hr1 : Room 1 _ := hr.mono (by decide)
    refine ⟨_, (pss_one (ps_ret (pe_callB (cr_all rfl) (by rfl) Z.all (by decide +kernel) (pa_cons
      (pe_lc (own := [("_law_k", 1)]) (g := gName 1) (tt := tYes) rfl scLa.nd (pi_range1 rfl Z.range (pa_cons (pe_callB (call_max2 rfl) (by rfl) Z.max (by decide +kernel) (pa_cons pe_int (pa_cons
            (pe_callB (call_min2 rfl) (by rfl) Z.min (by decide +kernel) (pa_cons (pe_callB call_len_seq (by rfl) Z.len PySem.boot_len (pa_cons (pv 0) pa_nil)) (pa_cons pe_int pa_nil))) pa_nil))) pa_nil))
        (blkOk_by (N := ["_law_script", "_law_k"]) (sc := defScope sLaw) (by decide +kernel)) (fun _ _ _ _ _ => pg_name (i := 1) scLa.nd rfl (.inl rfl)) (fun _ _ _ _ _ => pts_nil)
        (fun _ _ _ _ _ => pe_call GR hr rfl D'.right.g D'.right.kp D'.right.b .nil pass0 (pa_cons (pe_call GP hr1 rfl D'.pool.g D'.pool.kp D'.pool.b .nil pass0 (pa_cons (pe_call GC hr1 rfl D'.cell.g D'.cell.kp D'.cell.b .nil pass0 (pa_cons (pv 0) (pa_cons (pv 1) pa_nil))) pa_nil)) pa_nil))) pa_nil)))), ?_⟩
    have few : (ns.map V.int).length ≤ 63 := by rw [List.length_map]; exact hlen
    have all2 : ∀ n : Nat, (List.replicate n true).all id = true := fun n => List.all_eq_true.mpr fun b hb => by rw [List.eq_of_mem_replicate hb] <;> rfl
    have hS := hS0
    have tabs := tabs0
    obtain ⟨H1, eH1⟩ : ∃ H1, H1 = H := ⟨H, rfl⟩
    rw [← eH1] at hS tabs ⊢
    clear hS0 tabs0
    refine ⟨_, rfl, a, _, rfl, .inl hS, _, _, rfl, _, _, rfl, _, rfl, ?_, ?_, fun L hL => lc_it walk_range (fun i H3 => H3 L = some (.lst ((List.replicate i true).map V.bl)) ∧ Xt H1 H3 ∧ Tabs [(Pt2, qRig), (Pt, qRow)] H3) ⟨upd_same, Xt.of (Same.put (Same.refl H1) hL), Tabs.new tabs hL⟩ (fun _ _ _ _ => trivial) ?_ ?_⟩
    · split <;> split <;> omega
    · split <;> split <;> omega
    · rintro i x H3 H3' hi ⟨h1, h2, h3⟩ ⟨rfl, rfl⟩
      have hi' : i < 8 := by
        have q := hi
        split at q <;> (try split at q) <;> omega
      refine ⟨rfl, _, rfl, _, rfl, a, ns, _, rfl, Same.seq h2 (SqL.noT hS), hlen, by omega, by omega, fun n H4 s4 => ⟨_, rfl, fun p H5 np s5 hp => ⟨p, rfl, hp, Tabs.ext h3 (s4.trans s5), fun H6 b6 t6 => ?_⟩⟩⟩
      have h4 := s4 _ _ h1
      have s6 : Xt H1 H6 := fun b o e => by
        have q := s4 _ _ (h2 _ _ e)
        exact b6 b o (ne_of_none q np) (noT_at (s5 _ _ q) (noT_inv e).2)
      have hL6 := b6 L _ (ne_of_none h4 np) (noT_at (s5 _ _ h4) (fun _ z => by cases z))
      refine ⟨_, hL6, ?_, ?_, ?_, Wb.Tabs.put t6 hL6⟩
      · rw [List.length_map, List.length_replicate, sizeLine_eq]
        omega
      · rw [upd_same, List.replicate_succ', List.map_append] <;> rfl
      · exact fun b o e => by
          rw [upd_ne (ne_of_none (noT_inv e).1 hL)]
          exact s6 b o e
    · rintro H3 ⟨h1, h2, h3⟩
      refine ⟨L, _, rfl, SqL.of h1, ?_⟩
      rw [all2]
      exact k H3
end
end Wb
namespace Wb
open PySem L2 WbMin WbO WbT WbS Lz Le Lk Lj LamX Ke
open Lg hiding int_lt keepA keep5 cut_at sLOdd
theorem binds_nil {K : PySem.W.Frag} {fd : FuncData} {ps : List Str} (h : ∃ ds, Vals [] ds ∧ Binds K fd ps ds) : Binds K fd ps [] := by
  obtain ⟨ds, hv, hb⟩ := h
  cases hv
  exact hb
theorem exm_two {K : PySem.W.Frag} {cl c1 c2 : Value} {b1 b2 : Bool} (h1 : PySem.W.exmOne K cl c1 = some b1) (h2 : PySem.W.exmOne K cl c2 = some b2) : PySem.W.exmAny K cl [c1, c2] = some (b1 || (b2 || false)) := by
  unfold PySem.W.exmAny
  unfold PySem.W.exmAny
  unfold PySem.W.exmAny
  rw [h1, h2]
set_option maxHeartbeats 0 in
theorem all_mk {l : PySem.W.OpenLaw} {w : World} {K : PySem.W.Frag} {h : Heap} {mg : Str → Option Value} {fa CK pKW pKM tD : Addr} {t6 t4 : Tok} {rKW rKM : List Value} {oc_tD : Value} {od_tD : Option Addr} {n_tD : Nat} {sl_tD : Array (Option Value)} (X : K.In h) (G : h.Ns mainGlobals mg) (hfa : mg "law" = some (.ref fa))
    {f_cell f_pool f_draw f_shuf f_face f_odd f_signs f_isword f_every f_couples f_heard f_bads f_due f_sps f_spp f_rowdue f_row f_right f_ksigns f_ksignof f_kfirst f_kispair f_kchpairs f_kallp f_khas f_kisword f_law f_mKI f_mKW f_mKE f_mKM : Addr} {od_cell an_cell od_pool an_pool od_draw an_draw od_shuf an_shuf od_face an_face od_odd an_odd od_signs an_signs od_isword an_isword od_every an_every od_couples an_couples od_heard an_heard od_bads an_bads od_due an_due od_sps an_sps od_spp an_spp od_rowdue an_rowdue od_row an_row od_right an_right od_ksigns an_ksigns od_ksignof an_ksignof od_kfirst an_kfirst od_kispair an_kispair od_kchpairs an_kchpairs od_kallp an_kallp od_khas an_khas od_kisword an_kisword od_law an_law od_mKI an_mKI od_mKW an_mKW od_mKE an_mKE od_mKM an_mKM : Option Addr} {sl_cell sl_pool sl_draw sl_shuf sl_face sl_odd sl_signs sl_isword sl_every sl_couples sl_heard sl_bads sl_due sl_sps sl_spp sl_rowdue sl_row sl_right sl_ksigns sl_ksignof sl_kfirst sl_kispair sl_kchpairs sl_kallp sl_khas sl_kisword sl_law sl_mKI sl_mKW sl_mKE sl_mKM : Array (Option Value)}
    {oc_cell kv_cell dc_cell pm_cell cd_cell ct_cell oc_pool kv_pool dc_pool pm_pool cd_pool ct_pool oc_draw kv_draw dc_draw pm_draw cd_draw ct_draw oc_shuf kv_shuf dc_shuf pm_shuf cd_shuf ct_shuf oc_face kv_face dc_face pm_face cd_face ct_face oc_odd kv_odd dc_odd pm_odd cd_odd ct_odd oc_signs kv_signs dc_signs pm_signs cd_signs ct_signs oc_isword kv_isword dc_isword pm_isword cd_isword ct_isword oc_every kv_every dc_every pm_every cd_every ct_every oc_couples kv_couples dc_couples pm_couples cd_couples ct_couples oc_heard kv_heard dc_heard pm_heard cd_heard ct_heard oc_bads kv_bads dc_bads pm_bads cd_bads ct_bads oc_due kv_due dc_due pm_due cd_due ct_due oc_sps kv_sps dc_sps pm_sps cd_sps ct_sps oc_spp kv_spp dc_spp pm_spp cd_spp ct_spp oc_rowdue kv_rowdue dc_rowdue pm_rowdue cd_rowdue ct_rowdue oc_row kv_row dc_row pm_row ct_row oc_right kv_right dc_right pm_right ct_right oc_ksigns kv_ksigns dc_ksigns pm_ksigns cd_ksigns ct_ksigns oc_ksignof kv_ksignof dc_ksignof pm_ksignof cd_ksignof ct_ksignof oc_kfirst kv_kfirst dc_kfirst pm_kfirst cd_kfirst ct_kfirst oc_kispair kv_kispair dc_kispair pm_kispair cd_kispair ct_kispair oc_kchpairs kv_kchpairs dc_kchpairs pm_kchpairs cd_kchpairs ct_kchpairs oc_kallp kv_kallp dc_kallp pm_kallp cd_kallp ct_kallp oc_khas kv_khas dc_khas pm_khas cd_khas ct_khas oc_kisword kv_kisword dc_kisword pm_kisword cd_kisword ct_kisword oc_law kv_law dc_law pm_law cd_law ct_law oc_mKI kv_mKI dc_mKI pm_mKI cd_mKI ct_mKI oc_mKW kv_mKW dc_mKW pm_mKW cd_mKW ct_mKW oc_mKE kv_mKE dc_mKE pm_mKE cd_mKE ct_mKE oc_mKM kv_mKM dc_mKM pm_mKM cd_mKM ct_mKM : Value}
    {cRt PtR cLt PtL w0 : Addr}
    {oc_cR oc_cL : Value}
    {od_cR od_cL : Option Addr}
    {sl_cR sl_cL : Array (Option Value)}
    {vsR vsL : Array Value}
    {cGG : Addr}
    {cPP : Addr}
    {cRR : Addr}
    {NGG f_eGG : Addr}
    {nmGG qGG : Str}
    {bsGG suGG : List Value}
    {snGG : List Str}
    {abGG : Bool}
    {coGG : Option Bool}
    {ddGG : Option Addr}
    {xGG_0 xGG_1 xGG_2 xGG_3 xGG_5 : Option Value}
    {od_eGG an_eGG : Option Addr}
    {sl_eGG : Array (Option Value)}
    {oc_eGG kv_eGG dc_eGG pm_eGG cd_eGG ct_eGG : Value}
    {NPP f_ePP : Addr}
    {nmPP qPP : Str}
    {bsPP suPP : List Value}
    {snPP : List Str}
    {abPP : Bool}
    {coPP : Option Bool}
    {ddPP : Option Addr}
    {xPP_0 xPP_1 xPP_2 xPP_3 xPP_5 : Option Value}
    {od_ePP an_ePP : Option Addr}
    {sl_ePP : Array (Option Value)}
    {oc_ePP kv_ePP dc_ePP pm_ePP cd_ePP ct_ePP : Value}
    {NRR f_eRR : Addr}
    {nmRR qRR : Str}
    {bsRR suRR : List Value}
    {snRR : List Str}
    {abRR : Bool}
    {coRR : Option Bool}
    {ddRR : Option Addr}
    {xRR_0 xRR_1 xRR_2 xRR_3 xRR_5 : Option Value}
    {od_eRR an_eRR : Option Addr}
    {sl_eRR : Array (Option Value)}
    {oc_eRR kv_eRR dc_eRR pm_eRR cd_eRR ct_eRR : Value}
    (a_cell : PySem.W.nsIn K mainGlobals "_law_cell" = some (some (.ref f_cell)))
    (l_cell : K.lookup f_cell = some ⟨oc_cell, od_cell, .func (PySem.W.fnOf "_law_cell" "_law_cell" (defArgs sCell) (defBody sCell) (defScope sCell) .none kv_cell dc_cell pm_cell an_cell cd_cell ct_cell), sl_cell⟩)
    (c_cell : PySem.W.codeIn K cd_cell "_law_cell" = true)
    (k_cell : PySem.W.keepIn K (.ref f_cell) = true)
    (a_pool : PySem.W.nsIn K mainGlobals "_law_pool" = some (some (.ref f_pool)))
    (l_pool : K.lookup f_pool = some ⟨oc_pool, od_pool, .func (PySem.W.fnOf "_law_pool" "_law_pool" (defArgs sPool) (defBody sPool) (defScope sPool) .none kv_pool dc_pool pm_pool an_pool cd_pool ct_pool), sl_pool⟩)
    (c_pool : PySem.W.codeIn K cd_pool "_law_pool" = true)
    (k_pool : PySem.W.keepIn K (.ref f_pool) = true)
    (a_draw : PySem.W.nsIn K mainGlobals "_law_draw" = some (some (.ref f_draw)))
    (l_draw : K.lookup f_draw = some ⟨oc_draw, od_draw, .func (PySem.W.fnOf "_law_draw" "_law_draw" (defArgs sDraw) (defBody sDraw) (defScope sDraw) .none kv_draw dc_draw pm_draw an_draw cd_draw ct_draw), sl_draw⟩)
    (c_draw : PySem.W.codeIn K cd_draw "_law_draw" = true)
    (k_draw : PySem.W.keepIn K (.ref f_draw) = true)
    (a_shuf : PySem.W.nsIn K mainGlobals "_law_shuffled" = some (some (.ref f_shuf)))
    (l_shuf : K.lookup f_shuf = some ⟨oc_shuf, od_shuf, .func (PySem.W.fnOf "_law_shuffled" "_law_shuffled" (defArgs sShuf) (defBody sShuf) (defScope sShuf) .none kv_shuf dc_shuf pm_shuf an_shuf cd_shuf ct_shuf), sl_shuf⟩)
    (c_shuf : PySem.W.codeIn K cd_shuf "_law_shuffled" = true)
    (k_shuf : PySem.W.keepIn K (.ref f_shuf) = true)
    (a_face : PySem.W.nsIn K mainGlobals "_law_face" = some (some (.ref f_face)))
    (l_face : K.lookup f_face = some ⟨oc_face, od_face, .func (PySem.W.fnOf "_law_face" "_law_face" (defArgs sFace) (defBody sFace) (defScope sFace) .none kv_face dc_face pm_face an_face cd_face ct_face), sl_face⟩)
    (c_face : PySem.W.codeIn K cd_face "_law_face" = true)
    (k_face : PySem.W.keepIn K (.ref f_face) = true)
    (a_odd : PySem.W.nsIn K mainGlobals "_law_odd" = some (some (.ref f_odd)))
    (l_odd : K.lookup f_odd = some ⟨oc_odd, od_odd, .func (PySem.W.fnOf "_law_odd" "_law_odd" (defArgs Wb.sLOdd) (defBody Wb.sLOdd) (defScope Wb.sLOdd) .none kv_odd dc_odd pm_odd an_odd cd_odd ct_odd), sl_odd⟩)
    (c_odd : PySem.W.codeIn K cd_odd "_law_odd" = true)
    (k_odd : PySem.W.keepIn K (.ref f_odd) = true)
    (a_signs : PySem.W.nsIn K mainGlobals "_law_signs" = some (some (.ref f_signs)))
    (l_signs : K.lookup f_signs = some ⟨oc_signs, od_signs, .func (PySem.W.fnOf "_law_signs" "_law_signs" (defArgs sSigns) (defBody sSigns) (defScope sSigns) .none kv_signs dc_signs pm_signs an_signs cd_signs ct_signs), sl_signs⟩)
    (c_signs : PySem.W.codeIn K cd_signs "_law_signs" = true)
    (k_signs : PySem.W.keepIn K (.ref f_signs) = true)
    (a_isword : PySem.W.nsIn K mainGlobals "_law_is_word" = some (some (.ref f_isword)))
    (l_isword : K.lookup f_isword = some ⟨oc_isword, od_isword, .func (PySem.W.fnOf "_law_is_word" "_law_is_word" (defArgs sLIsWord) (defBody sLIsWord) (defScope sLIsWord) .none kv_isword dc_isword pm_isword an_isword cd_isword ct_isword), sl_isword⟩)
    (c_isword : PySem.W.codeIn K cd_isword "_law_is_word" = true)
    (k_isword : PySem.W.keepIn K (.ref f_isword) = true)
    (a_every : PySem.W.nsIn K mainGlobals "_law_every" = some (some (.ref f_every)))
    (l_every : K.lookup f_every = some ⟨oc_every, od_every, .func (PySem.W.fnOf "_law_every" "_law_every" (defArgs sEvery) (defBody sEvery) (defScope sEvery) .none kv_every dc_every pm_every an_every cd_every ct_every), sl_every⟩)
    (c_every : PySem.W.codeIn K cd_every "_law_every" = true)
    (k_every : PySem.W.keepIn K (.ref f_every) = true)
    (a_couples : PySem.W.nsIn K mainGlobals "_law_couples" = some (some (.ref f_couples)))
    (l_couples : K.lookup f_couples = some ⟨oc_couples, od_couples, .func (PySem.W.fnOf "_law_couples" "_law_couples" (defArgs sCouples) (defBody sCouples) (defScope sCouples) .none kv_couples dc_couples pm_couples an_couples cd_couples ct_couples), sl_couples⟩)
    (c_couples : PySem.W.codeIn K cd_couples "_law_couples" = true)
    (k_couples : PySem.W.keepIn K (.ref f_couples) = true)
    (a_heard : PySem.W.nsIn K mainGlobals "_law_heard" = some (some (.ref f_heard)))
    (l_heard : K.lookup f_heard = some ⟨oc_heard, od_heard, .func (PySem.W.fnOf "_law_heard" "_law_heard" (defArgs sRfHeard) (defBody sRfHeard) (defScope sRfHeard) .none kv_heard dc_heard pm_heard an_heard cd_heard ct_heard), sl_heard⟩)
    (c_heard : PySem.W.codeIn K cd_heard "_law_heard" = true)
    (k_heard : PySem.W.keepIn K (.ref f_heard) = true)
    (a_bads : PySem.W.nsIn K mainGlobals "_law_bad_signs" = some (some (.ref f_bads)))
    (l_bads : K.lookup f_bads = some ⟨oc_bads, od_bads, .func (PySem.W.fnOf "_law_bad_signs" "_law_bad_signs" (defArgs sBadSigns) (defBody sBadSigns) (defScope sBadSigns) .none kv_bads dc_bads pm_bads an_bads cd_bads ct_bads), sl_bads⟩)
    (c_bads : PySem.W.codeIn K cd_bads "_law_bad_signs" = true)
    (k_bads : PySem.W.keepIn K (.ref f_bads) = true)
    (a_due : PySem.W.nsIn K mainGlobals "_law_due" = some (some (.ref f_due)))
    (l_due : K.lookup f_due = some ⟨oc_due, od_due, .func (PySem.W.fnOf "_law_due" "_law_due" (defArgs sRfDue) (defBody sRfDue) (defScope sRfDue) .none kv_due dc_due pm_due an_due cd_due ct_due), sl_due⟩)
    (c_due : PySem.W.codeIn K cd_due "_law_due" = true)
    (k_due : PySem.W.keepIn K (.ref f_due) = true)
    (a_sps : PySem.W.nsIn K mainGlobals "_law_spoilt_signs" = some (some (.ref f_sps)))
    (l_sps : K.lookup f_sps = some ⟨oc_sps, od_sps, .func (PySem.W.fnOf "_law_spoilt_signs" "_law_spoilt_signs" (defArgs sRfSpS) (defBody sRfSpS) (defScope sRfSpS) .none kv_sps dc_sps pm_sps an_sps cd_sps ct_sps), sl_sps⟩)
    (c_sps : PySem.W.codeIn K cd_sps "_law_spoilt_signs" = true)
    (k_sps : PySem.W.keepIn K (.ref f_sps) = true)
    (a_spp : PySem.W.nsIn K mainGlobals "_law_spoilt_pairs" = some (some (.ref f_spp)))
    (l_spp : K.lookup f_spp = some ⟨oc_spp, od_spp, .func (PySem.W.fnOf "_law_spoilt_pairs" "_law_spoilt_pairs" (defArgs sRfSpP) (defBody sRfSpP) (defScope sRfSpP) .none kv_spp dc_spp pm_spp an_spp cd_spp ct_spp), sl_spp⟩)
    (c_spp : PySem.W.codeIn K cd_spp "_law_spoilt_pairs" = true)
    (k_spp : PySem.W.keepIn K (.ref f_spp) = true)
    (a_rowdue : PySem.W.nsIn K mainGlobals "_law_row_due" = some (some (.ref f_rowdue)))
    (l_rowdue : K.lookup f_rowdue = some ⟨oc_rowdue, od_rowdue, .func (PySem.W.fnOf "_law_row_due" "_law_row_due" (defArgs sRfRowDue) (defBody sRfRowDue) (defScope sRfRowDue) .none kv_rowdue dc_rowdue pm_rowdue an_rowdue cd_rowdue ct_rowdue), sl_rowdue⟩)
    (c_rowdue : PySem.W.codeIn K cd_rowdue "_law_row_due" = true)
    (k_rowdue : PySem.W.keepIn K (.ref f_rowdue) = true)
    (a_row : PySem.W.nsIn K mainGlobals "_law_row_right" = some (some (.ref f_row)))
    (l_row : K.lookup f_row = some ⟨oc_row, od_row, .func (PySem.W.fnOf "_law_row_right" "_law_row_right" (defArgs sRfRow) (defBody sRfRow) (defScope sRfRow) .none kv_row dc_row pm_row an_row (.ref cLt) ct_row), sl_row⟩)
    (c_row : PySem.W.codeIn K (.ref cLt) "_law_row_right" = true)
    (k_row : PySem.W.keepIn K (.ref f_row) = true)
    (a_right : PySem.W.nsIn K mainGlobals "_law_right" = some (some (.ref f_right)))
    (l_right : K.lookup f_right = some ⟨oc_right, od_right, .func (PySem.W.fnOf "_law_right" "_law_right" (defArgs sRfRight) (defBody sRfRight) (defScope sRfRight) .none kv_right dc_right pm_right an_right (.ref cRt) ct_right), sl_right⟩)
    (c_right : PySem.W.codeIn K (.ref cRt) "_law_right" = true)
    (k_right : PySem.W.keepIn K (.ref f_right) = true)
    (a_ksigns : PySem.W.nsIn K mainGlobals "is_signs" = some (some (.ref f_ksigns)))
    (l_ksigns : K.lookup f_ksigns = some ⟨oc_ksigns, od_ksigns, .func (PySem.W.fnOf "is_signs" "is_signs" (defArgs sIsSigns) (defBody sIsSigns) (defScope sIsSigns) .none kv_ksigns dc_ksigns pm_ksigns an_ksigns cd_ksigns ct_ksigns), sl_ksigns⟩)
    (c_ksigns : PySem.W.codeIn K cd_ksigns "is_signs" = true)
    (k_ksigns : PySem.W.keepIn K (.ref f_ksigns) = true)
    (a_ksignof : PySem.W.nsIn K mainGlobals "is_sign_of" = some (some (.ref f_ksignof)))
    (l_ksignof : K.lookup f_ksignof = some ⟨oc_ksignof, od_ksignof, .func (PySem.W.fnOf "is_sign_of" "is_sign_of" (defArgs sSignOf) (defBody sSignOf) (defScope sSignOf) .none kv_ksignof dc_ksignof pm_ksignof an_ksignof cd_ksignof ct_ksignof), sl_ksignof⟩)
    (c_ksignof : PySem.W.codeIn K cd_ksignof "is_sign_of" = true)
    (k_ksignof : PySem.W.keepIn K (.ref f_ksignof) = true)
    (a_kfirst : PySem.W.nsIn K mainGlobals "first_wrong" = some (some (.ref f_kfirst)))
    (l_kfirst : K.lookup f_kfirst = some ⟨oc_kfirst, od_kfirst, .func (PySem.W.fnOf "first_wrong" "first_wrong" (defArgs sFirst) (defBody sFirst) (defScope sFirst) .none kv_kfirst dc_kfirst pm_kfirst an_kfirst cd_kfirst ct_kfirst), sl_kfirst⟩)
    (c_kfirst : PySem.W.codeIn K cd_kfirst "first_wrong" = true)
    (k_kfirst : PySem.W.keepIn K (.ref f_kfirst) = true)
    (a_kispair : PySem.W.nsIn K mainGlobals "_is_pair" = some (some (.ref f_kispair)))
    (l_kispair : K.lookup f_kispair = some ⟨oc_kispair, od_kispair, .func (PySem.W.fnOf "_is_pair" "_is_pair" (defArgs sIsPair) (defBody sIsPair) (defScope sIsPair) .none kv_kispair dc_kispair pm_kispair an_kispair cd_kispair ct_kispair), sl_kispair⟩)
    (c_kispair : PySem.W.codeIn K cd_kispair "_is_pair" = true)
    (k_kispair : PySem.W.keepIn K (.ref f_kispair) = true)
    (a_kchpairs : PySem.W.nsIn K mainGlobals "_check_pairs" = some (some (.ref f_kchpairs)))
    (l_kchpairs : K.lookup f_kchpairs = some ⟨oc_kchpairs, od_kchpairs, .func (PySem.W.fnOf "_check_pairs" "_check_pairs" (defArgs sChPairs) (defBody sChPairs) (defScope sChPairs) .none kv_kchpairs dc_kchpairs pm_kchpairs an_kchpairs cd_kchpairs ct_kchpairs), sl_kchpairs⟩)
    (c_kchpairs : PySem.W.codeIn K cd_kchpairs "_check_pairs" = true)
    (k_kchpairs : PySem.W.keepIn K (.ref f_kchpairs) = true)
    (a_kallp : PySem.W.nsIn K mainGlobals "_all_pairs" = some (some (.ref f_kallp)))
    (l_kallp : K.lookup f_kallp = some ⟨oc_kallp, od_kallp, .func (PySem.W.fnOf "_all_pairs" "_all_pairs" (defArgs sAllP) (defBody sAllP) (defScope sAllP) .none kv_kallp dc_kallp pm_kallp an_kallp cd_kallp ct_kallp), sl_kallp⟩)
    (c_kallp : PySem.W.codeIn K cd_kallp "_all_pairs" = true)
    (k_kallp : PySem.W.keepIn K (.ref f_kallp) = true)
    (a_khas : PySem.W.nsIn K mainGlobals "_has_ring" = some (some (.ref f_khas)))
    (l_khas : K.lookup f_khas = some ⟨oc_khas, od_khas, .func (PySem.W.fnOf "_has_ring" "_has_ring" (defArgs sHas) (defBody sHas) (defScope sHas) .none kv_khas dc_khas pm_khas an_khas cd_khas ct_khas), sl_khas⟩)
    (c_khas : PySem.W.codeIn K cd_khas "_has_ring" = true)
    (k_khas : PySem.W.keepIn K (.ref f_khas) = true)
    (a_kisword : PySem.W.nsIn K mainGlobals "is_word" = some (some (.ref f_kisword)))
    (l_kisword : K.lookup f_kisword = some ⟨oc_kisword, od_kisword, .func (PySem.W.fnOf "is_word" "is_word" (defArgs sIsWord) (defBody sIsWord) (defScope sIsWord) .none kv_kisword dc_kisword pm_kisword an_kisword cd_kisword ct_kisword), sl_kisword⟩)
    (c_kisword : PySem.W.codeIn K cd_kisword "is_word" = true)
    (k_kisword : PySem.W.keepIn K (.ref f_kisword) = true)
    (a_law : PySem.W.nsIn K mainGlobals "law" = some (some (.ref f_law)))
    (l_law : K.lookup f_law = some ⟨oc_law, od_law, .func (PySem.W.fnOf "law" "law" (defArgs sLaw) (defBody sLaw) (defScope sLaw) .none kv_law dc_law pm_law an_law cd_law ct_law), sl_law⟩)
    (c_law : PySem.W.codeIn K cd_law "law" = true)
    (k_law : PySem.W.keepIn K (.ref f_law) = true)
    (aCK : PySem.W.nsIn K mainGlobals "Kind" = some (some (.ref CK)))
    (a_mKI : PySem.W.findIn K (.ref CK) "__init__" = some (some (.ref f_mKI)))
    (i_mKI : PySem.W.isFn K (.ref f_mKI) = true)
    (l_mKI : K.lookup f_mKI = some ⟨oc_mKI, od_mKI, .func (PySem.W.fnOf "__init__" "Kind.__init__" (defArgs sKInit) (defBody sKInit) (defScope sKInit) (.ref tD) kv_mKI dc_mKI pm_mKI an_mKI cd_mKI ct_mKI), sl_mKI⟩)
    (c_mKI : PySem.W.codeIn K cd_mKI "Kind.__init__" = true)
    (k_mKI : PySem.W.keepIn K (.ref f_mKI) = true)
    (p_atKW : PySem.W.findIn K (.ref CK) "row" = some (some (.ref pKW)))
    (p_getKW : PySem.W.specialIn K (.ref pKW) "__get__" = some (some (.builtin "property.__get__")))
    (p_takKW : PySem.W.takesIn K (.ref pKW) = some true)
    (p_recKW : PySem.W.recIn K pKW "property" = some (.ref f_mKW :: rKW))
    (l_mKW : K.lookup f_mKW = some ⟨oc_mKW, od_mKW, .func (PySem.W.fnOf "row" "Kind.row" (defArgs sKRow) (defBody sKRow) (defScope sKRow) .none kv_mKW dc_mKW pm_mKW an_mKW cd_mKW ct_mKW), sl_mKW⟩)
    (c_mKW : PySem.W.codeIn K cd_mKW "Kind.row" = true)
    (k_mKW : PySem.W.keepIn K (.ref f_mKW) = true)
    (a_mKE : PySem.W.findIn K (.ref CK) "__eq__" = some (some (.ref f_mKE)))
    (i_mKE : PySem.W.isFn K (.ref f_mKE) = true)
    (l_mKE : K.lookup f_mKE = some ⟨oc_mKE, od_mKE, .func (PySem.W.fnOf "__eq__" "Kind.__eq__" (defArgs sKEq) (defBody sKEq) (defScope sKEq) .none kv_mKE dc_mKE pm_mKE an_mKE cd_mKE ct_mKE), sl_mKE⟩)
    (c_mKE : PySem.W.codeIn K cd_mKE "Kind.__eq__" = true)
    (k_mKE : PySem.W.keepIn K (.ref f_mKE) = true)
    (cm_atKM : PySem.W.findCls K (.ref CK) (.type "type") "made" = some (.get (.builtin "classmethod.__get__") (.ref pKM) .none (.ref CK)))
    (cm_recKM : PySem.W.recIn K pKM "classmethod" = some (.ref f_mKM :: rKM))
    (cm_fiKM : PySem.W.fnIn K f_mKM = true)
    (l_mKM : K.lookup f_mKM = some ⟨oc_mKM, od_mKM, .func (PySem.W.fnOf "made" "Kind.made" (defArgs sKMade) (defBody sKMade) (defScope sKMade) .none kv_mKM dc_mKM pm_mKM an_mKM cd_mKM ct_mKM), sl_mKM⟩)
    (c_mKM : PySem.W.codeIn K cd_mKM "Kind.made" = true)
    (k_mKM : PySem.W.keepIn K (.ref f_mKM) = true)
    (l_tD : K.lookup tD = some ⟨oc_tD, od_tD, .seq #[.none] n_tD, sl_tD⟩)
    (pg : PySem.W.plainGet K CK Str.empty = true)
    (hd : PySem.W.hasDictIn K CK = true)
    (po : PySem.W.plainOver K CK = true)
    (sa : PySem.W.findIn K (.ref CK) "__setattr__" = some (some (.builtin "object.__setattr__")))
    (mk : PySem.W.makesIn K CK = true)
    (kc : PySem.W.keepIn K (.ref CK) = true)
    (cc : PySem.W.findIn K (.ref CK) "__class__" = some (some (.builtin "object.__class__")))
    (co : PySem.W.mroIn K CK (.type "object") = some true)
    (nSK : PySem.W.findIn K (.ref CK) "_signs" = some none)
    (nPK : PySem.W.findIn K (.ref CK) "_pairs" = some none)
    (nRK : PySem.W.findIn K (.ref CK) "_ringed" = some none)
    (cg : PySem.W.specialIn K (.builtin "object.__class__") "__get__" = some (some (.builtin "getset_descriptor.__get__")))
    (ct : PySem.W.takesIn K (.builtin "object.__class__") = some true)
    (rd : PySem.W.readsIn K CK (.type "type") = true)
    (ga : PySem.W.specialIn K (.ref CK) "__getattribute__" = some (some (.builtin "type.__getattribute__")))
    (nf : PySem.W.notFirst K CK (.ref CK) = true)
    (g6 : PySem.W.nsIn K mainGlobals "MOST_WORD" = some (some (.int 600 t6)))
    (g4 : PySem.W.nsIn K mainGlobals "MOST_SIGNS" = some (some (.int 4 t4)))
    (aXGG : PySem.W.nsIn K mainGlobals "InvalidSigns" = some (some (.ref cGG)))
    (exGG : PySem.W.subIn K (.ref cGG) (.type "BaseException") = some true)
    (tyGG : PySem.W.typeIn K (.ref cGG) = some (.type "type"))
    (gaGG : PySem.W.findIn K (.ref cGG) "__getattribute__" = some (some (.builtin "BaseException.__getattribute__")))
    (ggGG : PySem.W.findIn K (.ref cGG) "__getattr__" = some none)
    (hdGGx : PySem.W.hasDictIn K cGG = true)
    (noGG : PySem.W.findIn K (.ref cGG) "given" = some none)
    (aXPP : PySem.W.nsIn K mainGlobals "InvalidPairs" = some (some (.ref cPP)))
    (exPP : PySem.W.subIn K (.ref cPP) (.type "BaseException") = some true)
    (tyPP : PySem.W.typeIn K (.ref cPP) = some (.type "type"))
    (gaPP : PySem.W.findIn K (.ref cPP) "__getattribute__" = some (some (.builtin "BaseException.__getattribute__")))
    (ggPP : PySem.W.findIn K (.ref cPP) "__getattr__" = some none)
    (hdPPx : PySem.W.hasDictIn K cPP = true)
    (noPP : PySem.W.findIn K (.ref cPP) "index" = some none)
    (aXRR : PySem.W.nsIn K mainGlobals "InvalidRow" = some (some (.ref cRR)))
    (exRR : PySem.W.subIn K (.ref cRR) (.type "BaseException") = some true)
    (tyRR : PySem.W.typeIn K (.ref cRR) = some (.type "type"))
    (gaRR : PySem.W.findIn K (.ref cRR) "__getattribute__" = some (some (.builtin "BaseException.__getattribute__")))
    (ggRR : PySem.W.findIn K (.ref cRR) "__getattr__" = some none)
    (hdRRx : PySem.W.hasDictIn K cRR = true)
    (noRR : PySem.W.findIn K (.ref cRR) "given" = some none)
    (sGGGG : PySem.W.subIn K (.ref cGG) (.ref cGG) = some true)
    (sGGPP : PySem.W.subIn K (.ref cGG) (.ref cPP) = some false)
    (sPPGG : PySem.W.subIn K (.ref cPP) (.ref cGG) = some false)
    (sPPPP : PySem.W.subIn K (.ref cPP) (.ref cPP) = some true)
    (sRRGG : PySem.W.subIn K (.ref cRR) (.ref cGG) = some false)
    (sRRPP : PySem.W.subIn K (.ref cRR) (.ref cPP) = some false)
    (sRRRR : PySem.W.subIn K (.ref cRR) (.ref cRR) = some true)
    (xLGG : K.lookup cGG = some (excClassObj nmGG qGG cGG NGG bsGG (.ref w0 :: [.type "ValueError", .type "Exception", .type "BaseException", .type "object"]) true snGG suGG abGG coGG ddGG xGG_0 xGG_1 xGG_2 xGG_3 xGG_5 "ValueError.__new__"))
    (saGGx : PySem.W.findIn K (.ref cGG) "__setattr__" = some (some (.builtin "object.__setattr__")))
    (kcGGx : PySem.W.keepIn K (.ref cGG) = true)
    (iniGG : PySem.W.findIn K (.ref cGG) "__init__" = some (some (.ref f_eGG)))
    (fnGG : PySem.W.typeIn K (.ref f_eGG) = some (.type "function"))
    (l_eGG : K.lookup f_eGG = some ⟨oc_eGG, od_eGG, .func (PySem.W.fnOf "__init__" "InvalidSigns.__init__" (defArgs Ke.sErrInvalidSigns) (defBody Ke.sErrInvalidSigns) (defScope Ke.sErrInvalidSigns) .none kv_eGG dc_eGG pm_eGG an_eGG cd_eGG ct_eGG), sl_eGG⟩)
    (c_eGG : PySem.W.codeIn K cd_eGG "InvalidSigns.__init__" = true)
    (k_eGG : PySem.W.keepIn K (.ref f_eGG) = true)
    (xLPP : K.lookup cPP = some (excClassObj nmPP qPP cPP NPP bsPP (.ref w0 :: [.type "ValueError", .type "Exception", .type "BaseException", .type "object"]) true snPP suPP abPP coPP ddPP xPP_0 xPP_1 xPP_2 xPP_3 xPP_5 "ValueError.__new__"))
    (saPPx : PySem.W.findIn K (.ref cPP) "__setattr__" = some (some (.builtin "object.__setattr__")))
    (kcPPx : PySem.W.keepIn K (.ref cPP) = true)
    (iniPP : PySem.W.findIn K (.ref cPP) "__init__" = some (some (.ref f_ePP)))
    (fnPP : PySem.W.typeIn K (.ref f_ePP) = some (.type "function"))
    (l_ePP : K.lookup f_ePP = some ⟨oc_ePP, od_ePP, .func (PySem.W.fnOf "__init__" "InvalidPairs.__init__" (defArgs Ke.sErrInvalidPairs) (defBody Ke.sErrInvalidPairs) (defScope Ke.sErrInvalidPairs) .none kv_ePP dc_ePP pm_ePP an_ePP cd_ePP ct_ePP), sl_ePP⟩)
    (c_ePP : PySem.W.codeIn K cd_ePP "InvalidPairs.__init__" = true)
    (k_ePP : PySem.W.keepIn K (.ref f_ePP) = true)
    (xLRR : K.lookup cRR = some (excClassObj nmRR qRR cRR NRR bsRR (.ref w0 :: [.type "ValueError", .type "Exception", .type "BaseException", .type "object"]) true snRR suRR abRR coRR ddRR xRR_0 xRR_1 xRR_2 xRR_3 xRR_5 "ValueError.__new__"))
    (saRRx : PySem.W.findIn K (.ref cRR) "__setattr__" = some (some (.builtin "object.__setattr__")))
    (kcRRx : PySem.W.keepIn K (.ref cRR) = true)
    (iniRR : PySem.W.findIn K (.ref cRR) "__init__" = some (some (.ref f_eRR)))
    (fnRR : PySem.W.typeIn K (.ref f_eRR) = some (.type "function"))
    (l_eRR : K.lookup f_eRR = some ⟨oc_eRR, od_eRR, .func (PySem.W.fnOf "__init__" "InvalidRow.__init__" (defArgs Ke.sErrInvalidRow) (defBody Ke.sErrInvalidRow) (defScope Ke.sErrInvalidRow) .none kv_eRR dc_eRR pm_eRR an_eRR cd_eRR ct_eRR), sl_eRR⟩)
    (c_eRR : PySem.W.codeIn K cd_eRR "InvalidRow.__init__" = true)
    (k_eRR : PySem.W.keepIn K (.ref f_eRR) = true)
    (l_cR : K.lookup cRt = some ⟨oc_cR, od_cR, .fields vsR, sl_cR⟩)
    (v11 : (vsR[11]? : Option Value) = some (.ref PtR))
    (nP : K.lookup PtR = none)
    (l_cL : K.lookup cLt = some ⟨oc_cL, od_cL, .fields vsL, sl_cL⟩)
    (v11L : (vsL[11]? : Option Value) = some (.ref PtL))
    (nPL : K.lookup PtL = none)
    (nPt : PtL ≠ PtR)
    (z_int : PySem.W.nsIn K mainGlobals "int" = some none)
    (z_len : PySem.W.nsIn K mainGlobals "len" = some none)
    (z_range : PySem.W.nsIn K mainGlobals "range" = some none)
    (z_divmod : PySem.W.nsIn K mainGlobals "divmod" = some none)
    (z_abs : PySem.W.nsIn K mainGlobals "abs" = some none)
    (z_isinstance : PySem.W.nsIn K mainGlobals "isinstance" = some none)
    (z_str : PySem.W.nsIn K mainGlobals "str" = some none)
    (z_all : PySem.W.nsIn K mainGlobals "all" = some none)
    (z_min : PySem.W.nsIn K mainGlobals "min" = some none)
    (z_max : PySem.W.nsIn K mainGlobals "max" = some none)
    (z_set : PySem.W.nsIn K mainGlobals "set" = some none)
    (z_bool : PySem.W.nsIn K mainGlobals "bool" = some none)
    (z_tuple : PySem.W.nsIn K mainGlobals "tuple" = some none)
    (z_list : PySem.W.nsIn K mainGlobals "list" = some none)
    (z_dict : PySem.W.nsIn K mainGlobals "dict" = some none)
    (z_any : PySem.W.nsIn K mainGlobals "any" = some none)
    (z_enumerate : PySem.W.nsIn K mainGlobals "enumerate" = some none)
    (z_sorted : PySem.W.nsIn K mainGlobals "sorted" = some none) :
    ∃ (fd : FuncData) (c Pt c2 Pt2 : Addr), K.lookup Pt = none ∧ K.lookup Pt2 = none ∧ PySem.W.tabIn K "_law_row_right" = some (c, Pt) ∧ PySem.W.tabIn K "_law_right" = some (c2, Pt2) ∧ (∀ (s : Shared) (v : Value), BindsTo s fd ⟨[v], []⟩ [("_law_script", v)]) ∧ ∀ base : Heap, K.In base → base.Ns mainGlobals mg → LamX.TabB base mg c Pt → LamX.TabB base mg c2 Pt2 → FnOk l.prog w K mg base CX0 13 fa fd ["_law_script"] (spLawT K [(Pt2, qRig), (Pt, qRow)]) := by
  have e := hfa.symm.trans (PySem.W.mg_of X G a_law)
  cases e
  have TK : KTxt K mg CK := ⟨⟨pg, hd, po, sa⟩, nSK, nPK, nRK, PySem.W.mg_of X G aCK, cc, co⟩
  have Z_int := PySem.W.mg_none_of X G z_int
  have Z_len := PySem.W.mg_none_of X G z_len
  have Z_range := PySem.W.mg_none_of X G z_range
  have Z_divmod := PySem.W.mg_none_of X G z_divmod
  have Z_abs := PySem.W.mg_none_of X G z_abs
  have Z_isinstance := PySem.W.mg_none_of X G z_isinstance
  have Z_str := PySem.W.mg_none_of X G z_str
  have Z_all := PySem.W.mg_none_of X G z_all
  have Z_min := PySem.W.mg_none_of X G z_min
  have Z_max := PySem.W.mg_none_of X G z_max
  have Z_set := PySem.W.mg_none_of X G z_set
  have Z_bool := PySem.W.mg_none_of X G z_bool
  have Z_tuple := PySem.W.mg_none_of X G z_tuple
  have Z_list := PySem.W.mg_none_of X G z_list
  have Z_dict := PySem.W.mg_none_of X G z_dict
  have Z_any := PySem.W.mg_none_of X G z_any
  have Z_enumerate := PySem.W.mg_none_of X G z_enumerate
  have Z_sorted := PySem.W.mg_none_of X G z_sorted
  have Z : Free mg := ⟨Z_int, Z_len, Z_range, Z_divmod, Z_abs, Z_isinstance, Z_str, Z_all, Z_min, Z_max, Z_set, Z_bool⟩
  have F_cell := fun_mk (st := sCell) l_cell c_cell k_cell
  have b_cell := F_cell.binds (ps := ["_law_script", "_law_k"]) fun _ _ _ _ _ _ us hl => match us, hl with | [_, _], _ => rfl
  have D_cell : Def K mg "_law_cell" sCell ["_law_script", "_law_k"] f_cell _ := ⟨F_cell, PySem.W.mg_of X G a_cell, k_cell, b_cell⟩
  have F_pool := fun_mk (st := sPool) l_pool c_pool k_pool
  have b_pool := F_pool.binds (ps := ["_law_cell_here"]) fun _ _ _ _ _ _ us hl => match us, hl with | [_], _ => rfl
  have D_pool : Def K mg "_law_pool" sPool ["_law_cell_here"] f_pool _ := ⟨F_pool, PySem.W.mg_of X G a_pool, k_pool, b_pool⟩
  have F_draw := fun_mk (st := sDraw) l_draw c_draw k_draw
  have b_draw := F_draw.binds (ps := ["_law_pool_here", "_law_many"]) fun _ _ _ _ _ _ us hl => match us, hl with | [_, _], _ => rfl
  have D_draw : Def K mg "_law_draw" sDraw ["_law_pool_here", "_law_many"] f_draw _ := ⟨F_draw, PySem.W.mg_of X G a_draw, k_draw, b_draw⟩
  have F_shuf := fun_mk (st := sShuf) l_shuf c_shuf k_shuf
  have b_shuf := F_shuf.binds (ps := ["_law_pool_here", "_law_things"]) fun _ _ _ _ _ _ us hl => match us, hl with | [_, _], _ => rfl
  have D_shuf : Def K mg "_law_shuffled" sShuf ["_law_pool_here", "_law_things"] f_shuf _ := ⟨F_shuf, PySem.W.mg_of X G a_shuf, k_shuf, b_shuf⟩
  have F_face := fun_mk (st := sFace) l_face c_face k_face
  have b_face := F_face.binds (ps := ["_law_thing"]) fun _ _ _ _ _ _ us hl => match us, hl with | [_], _ => rfl
  have D_face : Def K mg "_law_face" sFace ["_law_thing"] f_face _ := ⟨F_face, PySem.W.mg_of X G a_face, k_face, b_face⟩
  have F_odd := fun_mk (st := Wb.sLOdd) l_odd c_odd k_odd
  have b_odd := F_odd.binds (ps := ["_law_pool_here"]) fun _ _ _ _ _ _ us hl => match us, hl with | [_], _ => rfl
  have D_odd : Def K mg "_law_odd" Wb.sLOdd ["_law_pool_here"] f_odd _ := ⟨F_odd, PySem.W.mg_of X G a_odd, k_odd, b_odd⟩
  have F_signs := fun_mk (st := sSigns) l_signs c_signs k_signs
  have b_signs := F_signs.binds (ps := ["_law_pool_here", "_law_most"]) fun _ _ _ _ _ _ us hl => match us, hl with | [_, _], _ => rfl
  have D_signs : Def K mg "_law_signs" sSigns ["_law_pool_here", "_law_most"] f_signs _ := ⟨F_signs, PySem.W.mg_of X G a_signs, k_signs, b_signs⟩
  have F_isword := fun_mk (st := sLIsWord) l_isword c_isword k_isword
  have b_isword := F_isword.binds (ps := ["_law_thing", "_law_abc"]) fun _ _ _ _ _ _ us hl => match us, hl with | [_, _], _ => rfl
  have D_isword : Def K mg "_law_is_word" sLIsWord ["_law_thing", "_law_abc"] f_isword _ := ⟨F_isword, PySem.W.mg_of X G a_isword, k_isword, b_isword⟩
  have F_every := fun_mk (st := sEvery) l_every c_every k_every
  have b_every := F_every.binds (ps := ["_law_abc"]) fun _ _ _ _ _ _ us hl => match us, hl with | [_], _ => rfl
  have D_every : Def K mg "_law_every" sEvery ["_law_abc"] f_every _ := ⟨F_every, PySem.W.mg_of X G a_every, k_every, b_every⟩
  have F_couples := fun_mk (st := sCouples) l_couples c_couples k_couples
  have b_couples := F_couples.binds (ps := ["_law_pool_here", "_law_abc"]) fun _ _ _ _ _ _ us hl => match us, hl with | [_, _], _ => rfl
  have D_couples : Def K mg "_law_couples" sCouples ["_law_pool_here", "_law_abc"] f_couples _ := ⟨F_couples, PySem.W.mg_of X G a_couples, k_couples, b_couples⟩
  have F_heard := fun_mk (st := sRfHeard) l_heard c_heard k_heard
  have b_heard := F_heard.binds (ps := ["_law_act"]) fun _ _ _ _ _ _ us hl => match us, hl with | [_], _ => rfl
  have D_heard : Def K mg "_law_heard" sRfHeard ["_law_act"] f_heard _ := ⟨F_heard, PySem.W.mg_of X G a_heard, k_heard, b_heard⟩
  have F_bads := fun_mk (st := sBadSigns) l_bads c_bads k_bads
  have b_bads := F_bads.binds (ps := ["_law_abc"]) fun _ _ _ _ _ _ us hl => match us, hl with | [_], _ => rfl
  have D_bads : Def K mg "_law_bad_signs" sBadSigns ["_law_abc"] f_bads _ := ⟨F_bads, PySem.W.mg_of X G a_bads, k_bads, b_bads⟩
  have F_due := fun_mk (st := sRfDue) l_due c_due k_due
  have b_due := F_due.binds (ps := ["_law_abc", "_law_some"]) fun _ _ _ _ _ _ us hl => match us, hl with | [_, _], _ => rfl
  have D_due : Def K mg "_law_due" sRfDue ["_law_abc", "_law_some"] f_due _ := ⟨F_due, PySem.W.mg_of X G a_due, k_due, b_due⟩
  have F_sps := fun_mk (st := sRfSpS) l_sps c_sps k_sps
  have b_sps := F_sps.binds (ps := ["_law_pool_here", "_law_abc"]) fun _ _ _ _ _ _ us hl => match us, hl with | [_, _], _ => rfl
  have D_sps : Def K mg "_law_spoilt_signs" sRfSpS ["_law_pool_here", "_law_abc"] f_sps _ := ⟨F_sps, PySem.W.mg_of X G a_sps, k_sps, b_sps⟩
  have F_spp := fun_mk (st := sRfSpP) l_spp c_spp k_spp
  have b_spp := F_spp.binds (ps := ["_law_pool_here", "_law_abc", "_law_some"]) fun _ _ _ _ _ _ us hl => match us, hl with | [_, _, _], _ => rfl
  have D_spp : Def K mg "_law_spoilt_pairs" sRfSpP ["_law_pool_here", "_law_abc", "_law_some"] f_spp _ := ⟨F_spp, PySem.W.mg_of X G a_spp, k_spp, b_spp⟩
  have F_rowdue := fun_mk (st := sRfRowDue) l_rowdue c_rowdue k_rowdue
  have b_rowdue := F_rowdue.binds (ps := ["_law_thing"]) fun _ _ _ _ _ _ us hl => match us, hl with | [_], _ => rfl
  have D_rowdue : Def K mg "_law_row_due" sRfRowDue ["_law_thing"] f_rowdue _ := ⟨F_rowdue, PySem.W.mg_of X G a_rowdue, k_rowdue, b_rowdue⟩
  have F_row := fun_mk (st := sRfRow) l_row c_row k_row
  have b_row := F_row.binds (ps := ["_law_abc", "_law_some"]) fun _ _ _ _ _ _ us hl => match us, hl with | [_, _], _ => rfl
  have D_row : Def K mg "_law_row_right" sRfRow ["_law_abc", "_law_some"] f_row _ := ⟨F_row, PySem.W.mg_of X G a_row, k_row, b_row⟩
  have F_right := fun_mk (st := sRfRight) l_right c_right k_right
  have b_right := F_right.binds (ps := ["_law_pool_here"]) fun _ _ _ _ _ _ us hl => match us, hl with | [_], _ => rfl
  have D_right : Def K mg "_law_right" sRfRight ["_law_pool_here"] f_right _ := ⟨F_right, PySem.W.mg_of X G a_right, k_right, b_right⟩
  have F_ksigns := fun_mk (st := sIsSigns) l_ksigns c_ksigns k_ksigns
  have b_ksigns := F_ksigns.binds (ps := ["value"]) fun _ _ _ _ _ _ us hl => match us, hl with | [_], _ => rfl
  have D_ksigns : Def K mg "is_signs" sIsSigns ["value"] f_ksigns _ := ⟨F_ksigns, PySem.W.mg_of X G a_ksigns, k_ksigns, b_ksigns⟩
  have F_ksignof := fun_mk (st := sSignOf) l_ksignof c_ksignof k_ksignof
  have b_ksignof := F_ksignof.binds (ps := ["value", "signs"]) fun _ _ _ _ _ _ us hl => match us, hl with | [_, _], _ => rfl
  have D_ksignof : Def K mg "is_sign_of" sSignOf ["value", "signs"] f_ksignof _ := ⟨F_ksignof, PySem.W.mg_of X G a_ksignof, k_ksignof, b_ksignof⟩
  have F_kfirst := fun_mk (st := sFirst) l_kfirst c_kfirst k_kfirst
  have b_kfirst := F_kfirst.binds (ps := ["values", "right"]) fun _ _ _ _ _ _ us hl => match us, hl with | [_, _], _ => rfl
  have D_kfirst : Def K mg "first_wrong" sFirst ["values", "right"] f_kfirst _ := ⟨F_kfirst, PySem.W.mg_of X G a_kfirst, k_kfirst, b_kfirst⟩
  have F_kispair := fun_mk (st := sIsPair) l_kispair c_kispair k_kispair
  have b_kispair := F_kispair.binds (ps := ["value", "signs"]) fun _ _ _ _ _ _ us hl => match us, hl with | [_, _], _ => rfl
  have D_kispair : Def K mg "_is_pair" sIsPair ["value", "signs"] f_kispair _ := ⟨F_kispair, PySem.W.mg_of X G a_kispair, k_kispair, b_kispair⟩
  have F_kchpairs := fun_mk (st := sChPairs) l_kchpairs c_kchpairs k_kchpairs
  have b_kchpairs := F_kchpairs.binds (ps := ["pairs", "signs"]) fun _ _ _ _ _ _ us hl => match us, hl with | [_, _], _ => rfl
  have D_kchpairs : Def K mg "_check_pairs" sChPairs ["pairs", "signs"] f_kchpairs _ := ⟨F_kchpairs, PySem.W.mg_of X G a_kchpairs, k_kchpairs, b_kchpairs⟩
  have F_kallp := fun_mk (st := sAllP) l_kallp c_kallp k_kallp
  have b_kallp := F_kallp.binds (ps := ["signs"]) fun _ _ _ _ _ _ us hl => match us, hl with | [_], _ => rfl
  have D_kallp : Def K mg "_all_pairs" sAllP ["signs"] f_kallp _ := ⟨F_kallp, PySem.W.mg_of X G a_kallp, k_kallp, b_kallp⟩
  have F_khas := fun_mk (st := sHas) l_khas c_khas k_khas
  have b_khas := F_khas.binds (ps := ["signs", "pairs"]) fun _ _ _ _ _ _ us hl => match us, hl with | [_, _], _ => rfl
  have D_khas : Def K mg "_has_ring" sHas ["signs", "pairs"] f_khas _ := ⟨F_khas, PySem.W.mg_of X G a_khas, k_khas, b_khas⟩
  have F_kisword := fun_mk (st := sIsWord) l_kisword c_kisword k_kisword
  have b_kisword := F_kisword.binds (ps := ["value"]) fun _ _ _ _ _ _ us hl => match us, hl with | [_], _ => rfl
  have D_kisword : Def K mg "is_word" sIsWord ["value"] f_kisword _ := ⟨F_kisword, PySem.W.mg_of X G a_kisword, k_kisword, b_kisword⟩
  have F_mKI : FunD K "__init__" "Kind.__init__" (defArgs sKInit) (defBody sKInit) (defScope sKInit) [.non] [] f_mKI _ := ⟨⟨_, _, .ref tD, _, _, _, _, _, _, _, rfl, l_mKI, c_mKI, .inr ⟨by simp, tD, _, [.none], _, rfl, l_tD, rfl, .cons rfl .nil⟩, .inl rfl⟩, k_mKI⟩
  have bI := F_mKI.binds1 (ps := ["self", "signs", "pairs"]) 2 0 (by simp) rfl fun T kV doc pm an cdv ct us its hu hi => match us, hu, its, hi with | [_, _], _, [_], _ => ⟨_, rfl, rfl⟩
  have b3_mKI := binds_nil (F_mKI.binds1 (ps := ["self", "signs", "pairs"]) 3 1 (by simp) rfl fun T kV doc pm an cdv ct us its hu hi => match us, hu, its, hi with | [_, _, _], _, [_], _ => ⟨_, rfl, rfl⟩)
  have kA := FunD_kbn (ps := ["self", "signs", "pairs"]) F_mKI 1 ["pairs", "signs"] gA (by simp) gA_rel fun T kV doc pm an cdv ct us its ws hu hi hw => match us, hu, its, hi, ws, hw with | [_], _, [_], _, [_, _], _ => ⟨_, rfl, rfl⟩
  have F_mKW := fun_mk (st := sKRow) l_mKW c_mKW k_mKW
  have b_mKW := F_mKW.binds (ps := ["self"]) fun _ _ _ _ _ _ us hl => match us, hl with | [_], _ => rfl
  have P_mKW : PropOf K CK "row" pKW f_mKW := ⟨p_atKW, p_getKW, p_takKW, ⟨_, p_recKW⟩⟩
  have F_mKE := fun_mk (st := sKEq) l_mKE c_mKE k_mKE
  have b_mKE := F_mKE.binds (ps := ["self", "other"]) fun _ _ _ _ _ _ us hl => match us, hl with | [_, _], _ => rfl
  have F_mKM := fun_mk (st := sKMade) l_mKM c_mKM k_mKM
  have b_mKM := F_mKM.binds (ps := ["cls", "row"]) fun _ _ _ _ _ _ us hl => match us, hl with | [_, _], _ => rfl
  have kM : KBn K (PySem.W.fnOf "made" "Kind.made" (defArgs sKMade) (defBody sKMade) (defScope sKMade) .none kv_mKM dc_mKM pm_mKM an_mKM cd_mKM ct_mKM) ["cls", "row"] 1 ["row"] (fun us ws => us ++ ws) (fun vs zs => vs ++ zs) := ⟨fun s us ws _ hu hw => match us, ws, hu, hw with | [_], [_], _, _ => .of_eq rfl, fun a b => a.append b⟩
  have F_eGG := fun_mk (st := Ke.sErrInvalidSigns) l_eGG c_eGG k_eGG
  have b_eGG := F_eGG.binds (ps := ["self", "given"]) fun _ _ _ _ _ _ us hl => match us, hl with | [_, _], _ => rfl
  have EGG : ErrF K mg "InvalidSigns" "given" "InvalidSigns.__init__" Ke.sErrInvalidSigns cGG f_eGG _ := ⟨⟨⟨_, _, _, _, _, _, _, _, _, _, _, _, _, _, _, xLGG, (show PySem.HandSPX.refsVE [.type "ValueError", .type "Exception", .type "BaseException", .type "object"] = true by decide +kernel)⟩, saGGx, exGG, tyGG, kcGGx⟩, ⟨gaGG, ggGG, exGG, hdGGx⟩, noGG, iniGG, fnGG, F_eGG, b_eGG, PySem.W.mg_of X G aXGG⟩
  have F_ePP := fun_mk (st := Ke.sErrInvalidPairs) l_ePP c_ePP k_ePP
  have b_ePP := F_ePP.binds (ps := ["self", "index"]) fun _ _ _ _ _ _ us hl => match us, hl with | [_, _], _ => rfl
  have EPP : ErrF K mg "InvalidPairs" "index" "InvalidPairs.__init__" Ke.sErrInvalidPairs cPP f_ePP _ := ⟨⟨⟨_, _, _, _, _, _, _, _, _, _, _, _, _, _, _, xLPP, (show PySem.HandSPX.refsVE [.type "ValueError", .type "Exception", .type "BaseException", .type "object"] = true by decide +kernel)⟩, saPPx, exPP, tyPP, kcPPx⟩, ⟨gaPP, ggPP, exPP, hdPPx⟩, noPP, iniPP, fnPP, F_ePP, b_ePP, PySem.W.mg_of X G aXPP⟩
  have F_eRR := fun_mk (st := Ke.sErrInvalidRow) l_eRR c_eRR k_eRR
  have b_eRR := F_eRR.binds (ps := ["self", "given"]) fun _ _ _ _ _ _ us hl => match us, hl with | [_, _], _ => rfl
  have ERR : ErrF K mg "InvalidRow" "given" "InvalidRow.__init__" Ke.sErrInvalidRow cRR f_eRR _ := ⟨⟨⟨_, _, _, _, _, _, _, _, _, _, _, _, _, _, _, xLRR, (show PySem.HandSPX.refsVE [.type "ValueError", .type "Exception", .type "BaseException", .type "object"] = true by decide +kernel)⟩, saRRx, exRR, tyRR, kcRRx⟩, ⟨gaRR, ggRR, exRR, hdRRx⟩, noRR, iniRR, fnRR, F_eRR, b_eRR, PySem.W.mg_of X G aXRR⟩
  have ZT : FreeT mg := ⟨Z_isinstance, Z_tuple, Z_list, Z_dict, Z_bool⟩
  have FT2 : FunT K "_law_right" "_law_right" sRfRight f_right _ cRt := ⟨_, _, _, _, _, _, _, _, rfl, l_right, c_right⟩
  have FT : FunT K "_law_row_right" "_law_row_right" sRfRow f_row _ cLt := ⟨_, _, _, _, _, _, _, _, rfl, l_row, c_row⟩
  have htright : PySem.W.tabIn K "_law_right" = some (cRt, PtR) := by
    unfold PySem.W.tabIn
    rw [a_right]
    dsimp only
    rw [l_right]
    dsimp only [PySem.W.fnOf]
    rw [l_cR]
    dsimp only
    rw [v11]
  have htrow : PySem.W.tabIn K "_law_row_right" = some (cLt, PtL) := by
    unfold PySem.W.tabIn
    rw [a_row]
    dsimp only
    rw [l_row]
    dsimp only [PySem.W.fnOf]
    rw [l_cL]
    dsimp only
    rw [v11L]
  have EB : ErK K mg ⟨cGG, f_eGG, _, cPP, f_ePP, _⟩ := ⟨EGG, EPP⟩
  have EM : ErM K mg ⟨cGG, f_eGG, _, cPP, f_ePP, _⟩ cRR f_eRR _ := ⟨EB, ERR, exm_two (PySem.W.exm_ref exGG hdGGx tyGG sGGGG) (PySem.W.exm_ref exPP hdPPx tyPP sGGPP), exm_two (PySem.W.exm_ref exGG hdGGx tyGG sPPGG) (PySem.W.exm_ref exPP hdPPx tyPP sPPPP)⟩
  have TK9 : ∀ d1 d2, TakesR K ⟨cGG, f_eGG, d1, cPP, f_ePP, d2⟩ cRR := fun _ _ => ⟨PySem.W.exm_ref exGG hdGGx tyGG sGGGG, PySem.W.exm_ref exGG hdGGx tyGG sPPGG, PySem.W.exm_ref exPP hdPPx tyPP sPPPP, PySem.W.exm_ref exGG hdGGx tyGG sRRGG, PySem.W.exm_ref exPP hdPPx tyPP sRRPP, PySem.W.exm_ref exRR hdRRx tyRR sRRRR⟩
  have R' : KindF K mg ⟨CK, f_mKI, f_mKW, f_mKE, pKW, PySem.W.fnOf "__init__" "Kind.__init__" (defArgs sKInit) (defBody sKInit) (defScope sKInit) (.ref tD) kv_mKI dc_mKI pm_mKI an_mKI cd_mKI ct_mKI, PySem.W.fnOf "row" "Kind.row" (defArgs sKRow) (defBody sKRow) (defScope sKRow) .none kv_mKW dc_mKW pm_mKW an_mKW cd_mKW ct_mKW, PySem.W.fnOf "__eq__" "Kind.__eq__" (defArgs sKEq) (defBody sKEq) (defScope sKEq) .none kv_mKE dc_mKE pm_mKE an_mKE cd_mKE ct_mKE, f_ksigns, f_ksignof, f_kfirst, f_kispair, f_kchpairs, f_kallp, f_khas, f_kisword, PySem.W.fnOf "is_signs" "is_signs" (defArgs sIsSigns) (defBody sIsSigns) (defScope sIsSigns) .none kv_ksigns dc_ksigns pm_ksigns an_ksigns cd_ksigns ct_ksigns, PySem.W.fnOf "is_sign_of" "is_sign_of" (defArgs sSignOf) (defBody sSignOf) (defScope sSignOf) .none kv_ksignof dc_ksignof pm_ksignof an_ksignof cd_ksignof ct_ksignof, PySem.W.fnOf "first_wrong" "first_wrong" (defArgs sFirst) (defBody sFirst) (defScope sFirst) .none kv_kfirst dc_kfirst pm_kfirst an_kfirst cd_kfirst ct_kfirst, PySem.W.fnOf "_is_pair" "_is_pair" (defArgs sIsPair) (defBody sIsPair) (defScope sIsPair) .none kv_kispair dc_kispair pm_kispair an_kispair cd_kispair ct_kispair, PySem.W.fnOf "_check_pairs" "_check_pairs" (defArgs sChPairs) (defBody sChPairs) (defScope sChPairs) .none kv_kchpairs dc_kchpairs pm_kchpairs an_kchpairs cd_kchpairs ct_kchpairs, PySem.W.fnOf "_all_pairs" "_all_pairs" (defArgs sAllP) (defBody sAllP) (defScope sAllP) .none kv_kallp dc_kallp pm_kallp an_kallp cd_kallp ct_kallp, PySem.W.fnOf "_has_ring" "_has_ring" (defArgs sHas) (defBody sHas) (defScope sHas) .none kv_khas dc_khas pm_khas an_khas cd_khas ct_khas, PySem.W.fnOf "is_word" "is_word" (defArgs sIsWord) (defBody sIsWord) (defScope sIsWord) .none kv_kisword dc_kisword pm_kisword an_kisword cd_kisword ct_kisword⟩ := ⟨TK, ⟨mk, a_mKI, i_mKI, kc⟩, F_mKI, b3_mKI, F_mKW, b_mKW, P_mKW, F_mKE, b_mKE, ⟨a_mKE, i_mKE, k_mKE⟩, nf, cg, ct, D_ksigns, D_ksignof, D_kfirst, D_kispair, D_kchpairs, D_kallp, D_khas, D_kisword, ⟨t6, PySem.W.mg_of X G g6⟩, ⟨t4, PySem.W.mg_of X G g4⟩, Z_tuple, Z_list, Z_any, Z_enumerate, Z_sorted⟩
  have M' : KMadF K ⟨CK, f_mKI, f_mKW, f_mKE, pKW, PySem.W.fnOf "__init__" "Kind.__init__" (defArgs sKInit) (defBody sKInit) (defScope sKInit) (.ref tD) kv_mKI dc_mKI pm_mKI an_mKI cd_mKI ct_mKI, PySem.W.fnOf "row" "Kind.row" (defArgs sKRow) (defBody sKRow) (defScope sKRow) .none kv_mKW dc_mKW pm_mKW an_mKW cd_mKW ct_mKW, PySem.W.fnOf "__eq__" "Kind.__eq__" (defArgs sKEq) (defBody sKEq) (defScope sKEq) .none kv_mKE dc_mKE pm_mKE an_mKE cd_mKE ct_mKE, f_ksigns, f_ksignof, f_kfirst, f_kispair, f_kchpairs, f_kallp, f_khas, f_kisword, PySem.W.fnOf "is_signs" "is_signs" (defArgs sIsSigns) (defBody sIsSigns) (defScope sIsSigns) .none kv_ksigns dc_ksigns pm_ksigns an_ksigns cd_ksigns ct_ksigns, PySem.W.fnOf "is_sign_of" "is_sign_of" (defArgs sSignOf) (defBody sSignOf) (defScope sSignOf) .none kv_ksignof dc_ksignof pm_ksignof an_ksignof cd_ksignof ct_ksignof, PySem.W.fnOf "first_wrong" "first_wrong" (defArgs sFirst) (defBody sFirst) (defScope sFirst) .none kv_kfirst dc_kfirst pm_kfirst an_kfirst cd_kfirst ct_kfirst, PySem.W.fnOf "_is_pair" "_is_pair" (defArgs sIsPair) (defBody sIsPair) (defScope sIsPair) .none kv_kispair dc_kispair pm_kispair an_kispair cd_kispair ct_kispair, PySem.W.fnOf "_check_pairs" "_check_pairs" (defArgs sChPairs) (defBody sChPairs) (defScope sChPairs) .none kv_kchpairs dc_kchpairs pm_kchpairs an_kchpairs cd_kchpairs ct_kchpairs, PySem.W.fnOf "_all_pairs" "_all_pairs" (defArgs sAllP) (defBody sAllP) (defScope sAllP) .none kv_kallp dc_kallp pm_kallp an_kallp cd_kallp ct_kallp, PySem.W.fnOf "_has_ring" "_has_ring" (defArgs sHas) (defBody sHas) (defScope sHas) .none kv_khas dc_khas pm_khas an_khas cd_khas ct_khas, PySem.W.fnOf "is_word" "is_word" (defArgs sIsWord) (defBody sIsWord) (defScope sIsWord) .none kv_kisword dc_kisword pm_kisword an_kisword cd_kisword ct_kisword⟩ ⟨f_mKM, pKM, _⟩ := ⟨F_mKM, b_mKM, kM, ⟨_, ⟨rd, ga⟩, ⟨cm_atKM, ⟨_, cm_recKM⟩, cm_fiKM⟩⟩, bI, kA⟩
  have D' : Defs K mg ⟨f_cell, f_pool, f_draw, f_shuf, f_face, f_odd, f_signs, f_isword, f_every, f_couples, f_heard, f_bads, f_due, f_sps, f_spp, f_rowdue, f_row, f_right, _, _, _, _, _, _, _, _, _, _, _, _, _, _, _, _, _, _⟩ := ⟨D_cell, D_pool, D_draw, D_shuf, D_face, D_odd, D_signs, D_isword, D_every, D_couples, D_heard, D_bads, D_due, D_sps, D_spp, D_rowdue, D_row, D_right⟩
  exact ⟨PySem.W.fnOf "law" "law" (defArgs sLaw) (defBody sLaw) (defScope sLaw) .none kv_law dc_law pm_law an_law cd_law ct_law, cLt, PtL, cRt, PtR, nPL, nP, htrow, htright, fun s v => .of_eq rfl, fun base _ _ TB TB2 => ok_law (fun_mk (st := sLaw) l_law c_law k_law) TB2 FT2 TB FT nPt Z ZT Z_list R' M' EM (TK9 _ _) D'⟩
theorem walk {l : PySem.W.OpenLaw} {q : Program} {loose : List Str} {XP : (Str → Option Value) → Heap → Prop} {YP : World → Heap → Prop} {d d2 d3 : DefRec} {K : Params → PySem.W.Frag} (hn : l.most = some 63) (hdf : d.params.defaults = []) (hY : ∀ (w : World) (h : Heap), YP w h → (K w.params).In h)
    (find : (PyProof.Rows.recsOf q).find? (fun e => e.name == Str.ofString "_law_row_right") = some d2) (find2 : (PyProof.Rows.recsOf q).find? (fun e => e.name == Str.ofString "_law_right") = some d3)
    (F : ∀ (w : World) (mg : Str → Option Value) (fa : Addr) (h : Heap), (K w.params).In h → h.Ns mainGlobals mg → mg d.name = some (.ref fa) → ∃ (fd : FuncData) (c Pt c2 Pt2 : Addr), (K w.params).lookup Pt = none ∧ (K w.params).lookup Pt2 = none ∧ PySem.W.tabIn (K w.params) "_law_row_right" = some (c, Pt) ∧ PySem.W.tabIn (K w.params) "_law_right" = some (c2, Pt2) ∧ (∀ (s : Shared) (v : Value), BindsTo s fd ⟨[v], []⟩ [("_law_script", v)]) ∧ ∀ base : Heap, (K w.params).In base → base.Ns mainGlobals mg → LamX.TabB base mg c Pt → LamX.TabB base mg c2 Pt2 → FnOk l.prog w (K w.params) mg base CX0 13 fa fd ["_law_script"] (spLawT (K w.params) [(Pt2, qRig), (Pt, qRow)])) :
    PySem.W.WalkO q loose XP YP l.row.toRowW d [] (fun f vs => PySem.call f vs) := by
  refine Att.attach_callB hn hdf fun w s0 s1 mg mb fa o pm cd doc a vs ns G Y ho hd hcd hmg hobj hints hlen hbits hg => ?_
  have KX := hY w _ Y
  obtain ⟨fd, c, Pt, c2, Pt2, nP, nP2, ht, ht2, hb, hF⟩ := F w mg fa _ KX G.T.g hmg
  obtain ⟨hC, hT⟩ := PySem.W.tab_of G.T KX find ht
  obtain ⟨hC2, hT2⟩ := PySem.W.tab_of G.T KX find2 ht2
  have both : ∀ {p : Addr × Addr} {S : Addr × Addr → Prop}, p ∈ [(c2, Pt2), (c, Pt)] → S (c2, Pt2) → S (c, Pt) → S p := fun hp h1 h2 => by
    rcases List.mem_cons.mp hp with rfl | hp
    · exact h1
    · rw [List.mem_singleton.mp hp]
      exact h2
  refine LamX.law_callTs (k := 13) (cs := [(c2, Pt2), (c, Pt)]) (fd := fd) (x := "_law_script") (CX := CX0) (sp := spLawT (K w.params) [(Pt2, qRig), (Pt, qRow)]) KX G.T.g G.T.b G.T.builtins G.T.nolimit hg ?_ ?_ ?_ G.T.bmain hobj hints (Nat.le_trans hlen (by decide)) ⟨rfl, by decide, by decide⟩ (fun base h1 h2 h3 => hF base h1 h2 (h3 _ (List.mem_cons_of_mem _ List.mem_cons_self)) (h3 _ List.mem_cons_self)) hb ?_ (fun _ _ _ z => z)
  · exact fun y hy => both (S := fun y => s1.heap.get? y.2 = some (PySem.W.tabObj #[])) hy hT2 hT
  · exact fun y hy => both (S := fun y => (K w.params).lookup y.2 = none) hy nP2 nP
  · exact fun y hy => both (S := fun y => PySem.W.CodeHd _ y.1 y.2) hy hC2 hC
  · intro H hH hS
    refine ⟨a, ns, rfl, hS, hlen, fun y hy => ?_, fun _ => rfl⟩
    rcases List.mem_cons.mp hy with rfl | hy
    · exact LamX.TabS.nil (hH _ List.mem_cons_self)
    · rw [List.mem_singleton.mp hy]
      exact LamX.TabS.nil (hH (c, Pt) (List.mem_cons_of_mem _ List.mem_cons_self))
end Wb
open PySem PySem.W PyProof.Rows in
set_option maxRecDepth 100000 in
set_option maxHeartbeats 0 in
theorem PySem.Challenge.cw_wherebegun_k09_kinds_refused_holds : PySem.Challenge.rw_wherebegun_k09_kinds_refused.Holds := by
  w_on; o_law; k_head; (case hw => w_witness2)
  k_fill
  refine Wb.walk (l := PySem.Challenge.rw_wherebegun_k09_kinds_refused) rfl rfl (fun w h Y => PySem.W.km_in_of Y) rfl rfl ?F
  case F =>
    intro w mg fa h KX G hmg
    refine' Wb.all_mk KX G hmg ?a_cell ?l_cell ?c_cell ?k_cell ?a_pool ?l_pool ?c_pool ?k_pool ?a_draw ?l_draw ?c_draw ?k_draw ?a_shuf ?l_shuf ?c_shuf ?k_shuf ?a_face ?l_face ?c_face ?k_face ?a_odd ?l_odd ?c_odd ?k_odd ?a_signs ?l_signs ?c_signs ?k_signs ?a_isword ?l_isword ?c_isword ?k_isword ?a_every ?l_every ?c_every ?k_every ?a_couples ?l_couples ?c_couples ?k_couples ?a_heard ?l_heard ?c_heard ?k_heard ?a_bads ?l_bads ?c_bads ?k_bads ?a_due ?l_due ?c_due ?k_due ?a_sps ?l_sps ?c_sps ?k_sps ?a_spp ?l_spp ?c_spp ?k_spp ?a_rowdue ?l_rowdue ?c_rowdue ?k_rowdue ?a_row ?l_row ?c_row ?k_row ?a_right ?l_right ?c_right ?k_right ?a_ksigns ?l_ksigns ?c_ksigns ?k_ksigns ?a_ksignof ?l_ksignof ?c_ksignof ?k_ksignof ?a_kfirst ?l_kfirst ?c_kfirst ?k_kfirst ?a_kispair ?l_kispair ?c_kispair ?k_kispair ?a_kchpairs ?l_kchpairs ?c_kchpairs ?k_kchpairs ?a_kallp ?l_kallp ?c_kallp ?k_kallp ?a_khas ?l_khas ?c_khas ?k_khas ?a_kisword ?l_kisword ?c_kisword ?k_kisword ?a_law ?l_law ?c_law ?k_law ?aCK ?a_mKI ?i_mKI ?l_mKI ?c_mKI ?k_mKI ?p_atKW ?p_getKW ?p_takKW ?p_recKW ?l_mKW ?c_mKW ?k_mKW ?a_mKE ?i_mKE ?l_mKE ?c_mKE ?k_mKE ?cm_atKM ?cm_recKM ?cm_fiKM ?l_mKM ?c_mKM ?k_mKM ?l_tD ?pg ?hd ?po ?sa ?mk ?kc ?cc ?co ?nSK ?nPK ?nRK ?cg ?ct ?rd ?ga ?nf ?g6 ?g4 ?aXGG ?exGG ?tyGG ?gaGG ?ggGG ?hdGGx ?noGG ?aXPP ?exPP ?tyPP ?gaPP ?ggPP ?hdPPx ?noPP ?aXRR ?exRR ?tyRR ?gaRR ?ggRR ?hdRRx ?noRR ?sGGGG ?sGGPP ?sPPGG ?sPPPP ?sRRGG ?sRRPP ?sRRRR ?xLGG ?saGGx ?kcGGx ?iniGG ?fnGG ?l_eGG ?c_eGG ?k_eGG ?xLPP ?saPPx ?kcPPx ?iniPP ?fnPP ?l_ePP ?c_ePP ?k_ePP ?xLRR ?saRRx ?kcRRx ?iniRR ?fnRR ?l_eRR ?c_eRR ?k_eRR ?l_cR ?v11 ?nP ?l_cL ?v11L ?nPL ?nPt ?z_int ?z_len ?z_range ?z_divmod ?z_abs ?z_isinstance ?z_str ?z_all ?z_min ?z_max ?z_set ?z_bool ?z_tuple ?z_list ?z_dict ?z_any ?z_enumerate ?z_sorted
    (case a_cell => k_is)
    (case l_cell => k_is)
    (case c_cell => k_is)
    (case k_cell => k_is)
    (case a_pool => k_is)
    (case l_pool => k_is)
    (case c_pool => k_is)
    (case k_pool => k_is)
    (case a_draw => k_is)
    (case l_draw => k_is)
    (case c_draw => k_is)
    (case k_draw => k_is)
    (case a_shuf => k_is)
    (case l_shuf => k_is)
    (case c_shuf => k_is)
    (case k_shuf => k_is)
    (case a_face => k_is)
    (case l_face => k_is)
    (case c_face => k_is)
    (case k_face => k_is)
    (case a_odd => k_is)
    (case l_odd => k_is)
    (case c_odd => k_is)
    (case k_odd => k_is)
    (case a_signs => k_is)
    (case l_signs => k_is)
    (case c_signs => k_is)
    (case k_signs => k_is)
    (case a_isword => k_is)
    (case l_isword => k_is)
    (case c_isword => k_is)
    (case k_isword => k_is)
    (case a_every => k_is)
    (case l_every => k_is)
    (case c_every => k_is)
    (case k_every => k_is)
    (case a_couples => k_is)
    (case l_couples => k_is)
    (case c_couples => k_is)
    (case k_couples => k_is)
    (case a_heard => k_is)
    (case l_heard => k_is)
    (case c_heard => k_is)
    (case k_heard => k_is)
    (case a_bads => k_is)
    (case l_bads => k_is)
    (case c_bads => k_is)
    (case k_bads => k_is)
    (case a_due => k_is)
    (case l_due => k_is)
    (case c_due => k_is)
    (case k_due => k_is)
    (case a_sps => k_is)
    (case l_sps => k_is)
    (case c_sps => k_is)
    (case k_sps => k_is)
    (case a_spp => k_is)
    (case l_spp => k_is)
    (case c_spp => k_is)
    (case k_spp => k_is)
    (case a_rowdue => k_is)
    (case l_rowdue => k_is)
    (case c_rowdue => k_is)
    (case k_rowdue => k_is)
    (case a_row => k_is)
    (case l_row => k_is)
    (case c_row => k_is)
    (case k_row => k_is)
    (case a_right => k_is)
    (case l_right => k_is)
    (case c_right => k_is)
    (case k_right => k_is)
    (case a_ksigns => k_is)
    (case l_ksigns => k_is)
    (case c_ksigns => k_is)
    (case k_ksigns => k_is)
    (case a_ksignof => k_is)
    (case l_ksignof => k_is)
    (case c_ksignof => k_is)
    (case k_ksignof => k_is)
    (case a_kfirst => k_is)
    (case l_kfirst => k_is)
    (case c_kfirst => k_is)
    (case k_kfirst => k_is)
    (case a_kispair => k_is)
    (case l_kispair => k_is)
    (case c_kispair => k_is)
    (case k_kispair => k_is)
    (case a_kchpairs => k_is)
    (case l_kchpairs => k_is)
    (case c_kchpairs => k_is)
    (case k_kchpairs => k_is)
    (case a_kallp => k_is)
    (case l_kallp => k_is)
    (case c_kallp => k_is)
    (case k_kallp => k_is)
    (case a_khas => k_is)
    (case l_khas => k_is)
    (case c_khas => k_is)
    (case k_khas => k_is)
    (case a_kisword => k_is)
    (case l_kisword => k_is)
    (case c_kisword => k_is)
    (case k_kisword => k_is)
    (case a_law => k_is)
    (case l_law => k_is)
    (case c_law => k_is)
    (case k_law => k_is)
    (case aCK => k_is)
    (case a_mKI => k_is)
    (case i_mKI => k_is)
    (case l_mKI => k_is)
    (case c_mKI => k_is)
    (case k_mKI => k_is)
    (case p_atKW => k_is)
    (case p_getKW => k_is)
    (case p_takKW => k_is)
    (case p_recKW => k_is)
    (case l_mKW => k_is)
    (case c_mKW => k_is)
    (case k_mKW => k_is)
    (case a_mKE => k_is)
    (case i_mKE => k_is)
    (case l_mKE => k_is)
    (case c_mKE => k_is)
    (case k_mKE => k_is)
    (case cm_atKM => k_is)
    (case cm_recKM => k_is)
    (case cm_fiKM => k_is)
    (case l_mKM => k_is)
    (case c_mKM => k_is)
    (case k_mKM => k_is)
    (case l_tD => k_is)
    (case pg => k_is)
    (case hd => k_is)
    (case po => k_is)
    (case sa => k_is)
    (case mk => k_is)
    (case kc => k_is)
    (case cc => k_is)
    (case co => k_is)
    (case nSK => k_is)
    (case nPK => k_is)
    (case nRK => k_is)
    (case cg => k_is)
    (case ct => k_is)
    (case rd => k_is)
    (case ga => k_is)
    (case nf => k_is)
    (case g6 => k_is)
    (case g4 => k_is)
    (case aXGG => k_is)
    (case exGG => k_is)
    (case tyGG => k_is)
    (case gaGG => k_is)
    (case ggGG => k_is)
    (case hdGGx => k_is)
    (case noGG => k_is)
    (case aXPP => k_is)
    (case exPP => k_is)
    (case tyPP => k_is)
    (case gaPP => k_is)
    (case ggPP => k_is)
    (case hdPPx => k_is)
    (case noPP => k_is)
    (case aXRR => k_is)
    (case exRR => k_is)
    (case tyRR => k_is)
    (case gaRR => k_is)
    (case ggRR => k_is)
    (case hdRRx => k_is)
    (case noRR => k_is)
    (case sGGGG => k_is)
    (case sGGPP => k_is)
    (case sPPGG => k_is)
    (case sPPPP => k_is)
    (case sRRGG => k_is)
    (case sRRPP => k_is)
    (case sRRRR => k_is)
    (case xLGG => k_is)
    (case saGGx => k_is)
    (case kcGGx => k_is)
    (case iniGG => k_is)
    (case fnGG => k_is)
    (case l_eGG => k_is)
    (case c_eGG => k_is)
    (case k_eGG => k_is)
    (case xLPP => k_is)
    (case saPPx => k_is)
    (case kcPPx => k_is)
    (case iniPP => k_is)
    (case fnPP => k_is)
    (case l_ePP => k_is)
    (case c_ePP => k_is)
    (case k_ePP => k_is)
    (case xLRR => k_is)
    (case saRRx => k_is)
    (case kcRRx => k_is)
    (case iniRR => k_is)
    (case fnRR => k_is)
    (case l_eRR => k_is)
    (case c_eRR => k_is)
    (case k_eRR => k_is)
    (case l_cR => k_is)
    (case v11 => exact rfl)
    (case nP => kernel_rfl)
    (case l_cL => k_is)
    (case v11L => exact rfl)
    (case nPL => kernel_rfl)
    (case nPt => decide)
    (case z_int => k_is)
    (case z_len => k_is)
    (case z_range => k_is)
    (case z_divmod => k_is)
    (case z_abs => k_is)
    (case z_isinstance => k_is)
    (case z_str => k_is)
    (case z_all => k_is)
    (case z_min => k_is)
    (case z_max => k_is)
    (case z_set => k_is)
    (case z_bool => k_is)
    (case z_tuple => k_is)
    (case z_list => k_is)
    (case z_dict => k_is)
    (case z_any => k_is)
    (case z_enumerate => k_is)
    (case z_sorted => k_is)
