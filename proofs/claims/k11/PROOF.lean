import PyProof.Rows.All
import Wide.All
import OpenK.AllK
import Wide.FinOn
import HandS.ForMost
import HandS.IsInst
import HandS.Property
import HandS.Wide
import HandS.MakeKw
import KE.DataMinMax
import PyProof.StrBlock2
import HandS.Strs
import HandS.Walk
import Wide.Txt
import PyProof.StrLawsFirst
import HandS.GenList
import PyProof.ForAny
import HandS.Words
import HandS.Comp
import HandS.Zip
import HandS.DictComp
import PyProof.CollectStr
import PyProof.TupleOfSeq
import HandS.More
import KE.GoesMore
import KE.GoesEnum
import HandS.Deep
import HandS.TupAny
import HandS.ExcInit
import PyProof.Rows.StrMeet
import PyProof.Rows.SortStr
import HandS.MakeKwOnly
import KE.KCallOwn
import PyProof.Conv_bool
import PyProof.InstNe
import HandS.SlotsOwn
import PyProof.ListStr
import KE.KOpsOwn
import HandS.ClsMeth
import HandS.Defaults
import PyProof.P3Eq
import PyProof.Rows.CallKw2
import HandS.ExcCtx
import HandS.TryMany
import HandS.HotCalls
import HandS.ExcField
import PyProof.Rows.TupIter
import HandS.Hot
import HandS.ExcInitHot
import HandS.Lambda
import HandS.Dict
import HandS.StrMore
import HandS.Replace
import HandS.Codes
import PyProof.TupleIter
import PyProof.Seq
import HandS.Iter
import PyProof.NeKinds
import HandS.Star
import HandS.Gcd
import HandS.ExcIs
import PySem.Challenge.RW_wherebegun_k11_whole_all_rings_of_a_leng
set_option Elab.async false
set_option maxRecDepth 100000
namespace Wb
open PySem L2
def top (i : Nat) : Stmt := PySem.Challenge.pw_wherebegun_k11_whole_all_rings_of_a_leng.main.body.getD i (.Pass ⟨0, 0, 0, 0⟩)
abbrev sCell : Stmt := top 37
abbrev sPool : Stmt := top 38
abbrev sDraw : Stmt := top 39
/-- all but what lies at p stays -/
def But (p : Addr) (H H' : Hp) : Prop := ∀ b o, b ≠ p → H b = some o → H' b = some o
theorem But.refl (p : Addr) (H : Hp) : But p H H := fun _ _ _ h => h
theorem But.trans {p : Addr} {H H1 H2 : Hp} (a : But p H H1) (b : But p H1 H2) : But p H H2 := fun c o n h => b c o n (a c o n h)
theorem But.of {p : Addr} {H H' : Hp} (a : Same H H') : But p H H' := fun c o _ h => a c o h
theorem But.upd {p q : Addr} {o : HO} {H H' : Hp} (a : But p H H') (n : H' q = none) : But p H (L2.upd H' q o) := fun c u k h => by
  rw [upd_ne (ne_of_none (a c u k h) n)]
  exact a c u k h
theorem But.here {p : Addr} {o : HO} {H H' : Hp} (a : But p H H') : But p H (L2.upd H' p o) := fun c u k h => by
  rw [upd_ne k]
  exact a c u k h
theorem Same.put {q : Addr} {o : HO} {H H' : Hp} (a : Same H H') (n : H' q = none) : Same H (L2.upd H' q o) := fun c u h => by
  rw [upd_ne (ne_of_none (a c u h) n)]
  exact a c u h
/-- a pool stands at p: three ints -/
def PoolAt (H : Hp) (p : Addr) : Prop := ∃ a b c : Int, H p = some (.lst [.int a, .int b, .int c]) ∧ 0 ≤ a ∧ a < 2147483648 ∧ 0 ≤ b
def spDraw : Sp := fun vs H Q _ => ∃ (p : Addr) (m : Int), vs = [.ref p, .int m] ∧ 0 < m ∧ m < 1073741824 ∧ PoolAt H p ∧
  ∀ (d : Int) (H' : Hp), 0 ≤ d → d < m → PoolAt H' p → But p H H' → Q (.int d) H'
def spPool : Sp := fun vs H Q _ => ∃ c : Int, vs = [.int c] ∧ ∀ (p : Addr) (H' : Hp), H p = none → Same H H' → PoolAt H' p → Q (.ref p) H'
def spCell (K : PySem.W.Frag) : Sp := fun vs H Q _ => ∃ (a : Addr) (ns : List Int) (k : Int), vs = [.ref a, .int k] ∧ SqL K H a (ns.map V.int) ∧ ns.length ≤ 63 ∧ 0 ≤ k ∧ k < 64 ∧
  ∀ (n : Int) (H' : Hp), Same H H' → Q (.int n) H'
theorem cut_int {ns : List Int} {lo hi : Option Int} {i : Nat} {y : V} (h : (cutV (ns.map V.int) lo hi)[i]? = some y) : ∃ u, y = V.int u := by
  have q := List.mem_of_getElem? h
  unfold cutV at q
  obtain ⟨u, _, e⟩ := List.mem_map.mp (List.mem_of_mem_drop (List.mem_of_mem_take q))
  exact ⟨u, e.symm⟩
section
variable {P : Program} {w : World} {K : PySem.W.Frag} {mg : Str → Option Value} {base : Heap}
theorem scP : FnScope ["_law_cell_here", "_law_digits"] ["_law_cell_here"] (defScope sPool) := ⟨rfl, rfl, rfl, by decide +kernel, rfl, by decide +kernel, by decide +kernel⟩
theorem ok_pool {f : Addr} {fd : FuncData} (F : Fun K "_law_pool" "_law_pool" sPool f fd) (mAbs : mg "abs" = none) (mInt : mg "int" = none) : FnOk P w K mg base CX0 1 f fd ["_law_cell_here"] spPool := by
  refine F.ok scP (fun vs H Q E h => ?_) (fun cdv A outer s H vs Q E hr h => ?_)
  · obtain ⟨c, rfl, _⟩ := h
    rfl
  · obtain ⟨c, rfl, k⟩ := h
    refine ⟨_, pss_cons (ps_set (i := 1) scP.nd rfl (.inl rfl) (pe_ifExp (PW.pt (pw_or (pt_cmpR op_lt (pv 0) pe_int (nomark _)) (pw_or1 (pt_cmpR op_ge (pv 0) (pe_op op_pow pe_int pe_int) (nomark _)))))
        (pe_callB call_abs (by rfl) mAbs (by decide +kernel) (pa_cons (pv 0) pa_nil)) pe_int))
      (pss_one (ps_ret (pe_lst (pa_cons (pe_op op_mod (pe_callTy call_int1 (by rfl) mInt (by decide +kernel) (pa_cons (pv 0) pa_nil)) pe_int) (pa_cons (pv 1) (pa_cons pe_int pa_nil)))))), ?_⟩
    have fin : ∀ d : Int, 0 ≤ d → (tRet (tLst (tCons (tOp (rI (fun x j => 0 < j) fun i j => V.int (i % j)) (tCB (fun xs H Q => (∃ i, xs = [V.int i] ∧ Q (V.int i) H) ∨ ∃ k, xs = [V.bl k] ∧ Q (V.int (if k = true then 1 else 0)) H) (tCons (tVar 0) tNil)) (tC (V.int 2147483587))) (tCons (tVar 1) (tCons (tC (V.int 0)) tNil)))))
        { nx := fun x H' => Q V.non H', rt := Q } [some (V.int c), some (V.int d)] H := fun d h0 => by
      refine ⟨_, rfl, .inl ⟨_, rfl, _, _, rfl, rfl, (by show (0 : Int) < 2147483587; decide), _, rfl, (by show 3 ≤ sizeLine; decide), fun p hp => ?_⟩⟩
      refine k p _ hp (Same.put (Same.refl H) hp) ⟨_, _, _, upd_same, ?_⟩
      omega
    refine ⟨_, rfl, _, _, rfl, rfl, _, rfl, ite2 (fun h1 => iteT ?_) (fun h1 => ?_)⟩
    · refine ⟨_, rfl, _, rfl, ?_⟩
      exact fin _ (by split <;> omega)
    · refine ⟨_, rfl, _, _, rfl, rfl, (by refine ⟨?_, ?_, ?_⟩ <;> decide), _, _, rfl, rfl, _, rfl, ?_⟩
      refine ite2 (fun h2 => ?_) (fun h2 => ?_)
      · refine ⟨_, rfl, _, rfl, ?_⟩
        exact fin _ (by split <;> omega)
      · exact fin 0 (by omega)
theorem scD : FnScope ["_law_pool_here", "_law_many", "_law_mixed", "_law_digit"] ["_law_pool_here", "_law_many"] (defScope sDraw) := ⟨rfl, rfl, rfl, by decide +kernel, rfl, by decide +kernel, by decide +kernel⟩
theorem ok_draw {f : Addr} {fd : FuncData} (F : Fun K "_law_draw" "_law_draw" sDraw f fd) (mInt : mg "int" = none) (mDm : mg "divmod" = none) : FnOk P w K mg base CX0 1 f fd ["_law_pool_here", "_law_many"] spDraw := by
  refine F.ok scD (fun vs H Q E h => ?_) (fun cdv A outer s H vs Q E hr h => ?_)
  · obtain ⟨p, m, rfl, _⟩ := h
    rfl
  · obtain ⟨p, m, rfl, m0, m1, ⟨a, b, c, hp, a0, a1, b0⟩, k⟩ := h
    refine ⟨_, pss_cons (ps_asg (pe_op op_add (pe_ix ix_list (pv 0) pe_int (fun _ _ => rfl)) pe_int) (pg_sub (pv 0) pe_int set_list))
      (pss_cons (ps_set (i := 2) scD.nd rfl (.inl rfl) (pe_op op_mod (pe_callTy call_int1 (by rfl) mInt (by decide +kernel) (pa_cons (pe_op op_add (pe_op op_add (pe_op op_mul (pe_ix ix_list (pv 0) pe_int (fun _ _ => rfl)) pe_int) (pe_op op_mul (pe_ix ix_list (pv 0) pe_int (fun _ _ => rfl)) pe_int)) pe_int) pa_nil)) pe_int))
      (pss_cons (ps_asg (pe_op op_mod (pe_callTy call_int1 (by rfl) mInt (by decide +kernel) (pa_cons (pe_op op_mul (pv 2) (pe_op op_add (pe_op op_fdiv (pv 2) pe_int) pe_int)) pa_nil)) pe_int) (pg_sub (pv 0) pe_int set_list))
      (pss_cons (ps_if (pt_cmpR op_gt (pe_ix ix_list (pv 0) pe_int (fun _ _ => rfl)) pe_int (nomark _))
          (pss_cons (ps_asg (pe_callB call_divmod (by rfl) mDm (by decide +kernel) (pa_cons (pe_ix ix_list (pv 0) pe_int (fun _ _ => rfl)) (pa_cons (pv 1) pa_nil))) (pg_tup (by rfl) (pgs_cons (pg_sub (pv 0) pe_int set_list) (pgs_cons (pg_name (i := 3) scD.nd rfl (.inl rfl)) pgs_nil))))
            (pss_one (ps_ret (pv 3)))) pss_nil)
      (pss_one (ps_ret (pe_op op_mod (pe_callTy call_int1 (by rfl) mInt (by decide +kernel) (pa_cons (pe_op op_fdiv (pe_ix ix_list (pv 0) pe_int (fun _ _ => rfl)) pe_int) pa_nil)) (pv 1))))))), ?_⟩
    refine ⟨_, rfl, p, _, _, _, rfl, rfl, SqL.of hp, rfl, _, _, rfl, rfl, _, rfl, p, _, _, 2, rfl, rfl, hp, rfl, ?_⟩
    have hp1 : (L2.upd H p (.lst [.int a, .int b, .int (c + 1)])) p = some (.lst [.int a, .int b, .int (c + 1)]) := upd_same
    refine ⟨_, rfl, p, _, _, _, rfl, rfl, SqL.of hp1, rfl, _, _, rfl, rfl, .inl ⟨by omega, by omega⟩, _, rfl, p, _, _, _, rfl, rfl, SqL.of hp1, rfl, _, _, rfl, rfl, .inr ⟨by decide, by decide⟩, _, _, rfl, rfl, _, _, rfl, rfl, .inl ⟨_, rfl, _, _, rfl, rfl, (by show (0 : Int) < 2147483587; decide), ?_⟩⟩
    have x0 : ∀ z : Int, 0 ≤ z % 2147483587 ∧ z % 2147483587 < 2147483587 := fun z => ⟨Int.emod_nonneg _ (by decide), Int.emod_lt_of_pos _ (by decide)⟩
    generalize hx : ((a * 50021 + (c + 1) * 69067 + 31) % 2147483587 : Int) = x
    have ⟨x1, x2⟩ : 0 ≤ x ∧ x < 2147483587 := by rw [← hx]; exact x0 _
    refine ⟨_, rfl, _, rfl, _, _, rfl, rfl, ⟨by decide, by decide⟩, _, _, rfl, rfl, _, _, rfl, rfl, .inl ⟨by omega, by omega⟩, .inl ⟨_, rfl, _, _, rfl, rfl, (by show (0 : Int) < 2147483629; decide), ?_⟩⟩
    have y0 : ∀ z : Int, 0 ≤ z % 2147483629 ∧ z % 2147483629 < 2147483629 := fun z => ⟨Int.emod_nonneg _ (by decide), Int.emod_lt_of_pos _ (by decide)⟩
    refine ⟨_, rfl, p, _, _, 0, rfl, rfl, hp1, rfl, ?_⟩
    refine ⟨_, rfl, p, _, _, _, rfl, rfl, SqL.of upd_same, rfl, _, _, rfl, rfl, _, rfl, ite2 (fun h1 => ?_) (fun h1 => ?_)⟩
    · refine ⟨_, rfl, p, _, _, _, rfl, rfl, SqL.of upd_same, rfl, _, rfl, _, _, rfl, ⟨m0, m1⟩, fun t ht => ?_⟩
      have npt : p ≠ t := ne_of_none upd_same ht
      refine ⟨t, _, rfl, SqT.of upd_same, rfl, _, _, rfl, _, rfl, p, _, _, 1, rfl, rfl, (upd_ne npt).trans upd_same, rfl, _, _, rfl, ?_⟩
      refine ⟨rfl, _, rfl, k _ _ (Int.emod_nonneg _ (by omega)) (Int.emod_lt_of_pos _ m0) ⟨_, _, _, upd_same, ?_⟩ (But.here (But.upd (But.here (But.here (But.refl p H))) ht))⟩
      refine ⟨(y0 _).1, Int.lt_trans (y0 _).2 (by decide), ?_⟩
      exact Int.ediv_nonneg b0 (Int.le_of_lt m0)
    · refine ⟨_, rfl, p, _, _, _, rfl, rfl, SqL.of upd_same, rfl, _, _, rfl, rfl, ⟨by decide, by decide⟩, .inl ⟨_, rfl, _, rfl, _, _, rfl, rfl, m0, ?_⟩⟩
      exact k _ _ (Int.emod_nonneg _ (by omega)) (Int.emod_lt_of_pos _ m0) ⟨_, _, _, upd_same, (y0 _).1, Int.lt_trans (y0 _).2 (by decide), b0⟩ (But.here (But.here (But.refl p H)))
theorem scC : FnScope ["_law_script", "_law_k", "_law_mixed", "_law_cell_here"] ["_law_script", "_law_k"] (defScope sCell) := ⟨rfl, rfl, rfl, by decide +kernel, rfl, by decide +kernel, by decide +kernel⟩
theorem ok_cell {f : Addr} {fd : FuncData} (F : Fun K "_law_cell" "_law_cell" sCell f fd) (mInt : mg "int" = none) (mLen : mg "len" = none) : FnOk P w K mg base CX0 1 f fd ["_law_script", "_law_k"] (spCell K) := by
  refine F.ok scC (fun vs H Q E h => ?_) (fun cdv A outer s H vs Q E hr h => ?_)
  · obtain ⟨a, ns, j, rfl, _⟩ := h
    rfl
  · obtain ⟨a, ns, j, rfl, hS, hlen, j0, j1, k⟩ := h
    refine ⟨_, pss_cons (ps_if (pt_cmpR op_lt (pv 1) (pe_callB call_len_seq (by rfl) mLen PySem.boot_len (pa_cons (pv 0) pa_nil)) (nomark _)) (pss_one (ps_ret (pe_ix ix_list (pv 0) (pv 1) (fun _ _ => rfl)))) pss_nil)
      (pss_cons (ps_set (i := 2) scC.nd rfl (.inl rfl) (pe_op op_add pe_int (pe_op op_mul (pe_op op_mul pe_int (pv 1)) (pv 1))))
      (pss_cons (ps_for PassesOwn.never rfl (pi_list (pe_slice sl_list (pv 0) po_none (po_some pe_int))) (pg_name (i := 3) scC.nd rfl (.inl rfl))
        (pss_one (ps_set (i := 2) scC.nd rfl (.inl rfl) (pe_op op_mod (pe_callTy call_int1 (by rfl) mInt (by decide +kernel) (pa_cons (pe_op op_add (pe_op op_mul (pv 2) pe_int) (pv 3)) pa_nil)) pe_int))))
      (pss_one (ps_ret (pv 2))))), ?_⟩
    refine ⟨_, rfl, _, rfl, a, _, rfl, .inl hS, _, _, rfl, rfl, _, rfl, ite2 (fun h1 => ?_) (fun h1 => ?_)⟩
    · have h2 : j < (ns.length : Int) := by
        have q := of_decide_eq_true h1
        rw [List.length_map] at q
        exact q
      have h3 : (ns.map V.int)[j.toNat]? = some (V.int (ns[j.toNat]'(by omega))) := by
        rw [List.getElem?_map, List.getElem?_eq_getElem (by omega)] <;> rfl
      have h4 : atI (ns.map V.int) j = some (V.int (ns[j.toNat]'(by omega))) := by
        have q := atI_nat h3
        rw [Int.toNat_of_nonneg j0] at q
        exact q
      exact ⟨_, rfl, _, rfl, a, _, _, _, rfl, rfl, hS, h4, k _ _ (Same.refl H)⟩
    · have b1 : (-(2 ^ 64) < (4093 : Int) ∧ (4093 : Int) < 2 ^ 64) := by decide
      refine ⟨_, rfl, _, _, rfl, rfl, .inl b1, _, rfl, _, _, rfl, rfl, .inr ⟨by omega, by omega⟩, _, _, rfl, rfl, ?_⟩
      refine ⟨_, rfl, _, rfl, a, _, rfl, hS, fun q hq => ?_⟩
      have sq : SqL K (L2.upd H q (.lst (cutV (ns.map V.int) none (some 4)))) q (cutV (ns.map V.int) none (some 4)) := SqL.of upd_same
      refine ⟨q, rfl, ⟨_, sq⟩, for_list (K := K) (a := q) (xs := cutV (ns.map V.int) none (some 4)) (fun i σ H' => ∃ (z : Int) (v : Option V), σ = [some (.ref a), some (.int j), some (.int z), v] ∧ Same H H' ∧ SqL K H' q (cutV (ns.map V.int) none (some 4)))
        ⟨_, none, rfl, Same.put (Same.refl H) hq, sq⟩ (fun i σ H' _ ⟨_, _, _, _, s⟩ => s) ?_ ?_⟩
      · rintro i y σ H' hi ⟨z, v, rfl, s1, s2⟩
        obtain ⟨u, rfl⟩ := cut_int hi
        exact ⟨_, rfl, _, _, rfl, rfl, .inr ⟨by decide, by decide⟩, _, rfl, _, _, rfl, rfl, .inl ⟨_, rfl, _, _, rfl, rfl, (by show (0 : Int) < 2147483629; decide), _, _, rfl, s1, s2⟩⟩
      · rintro σ H' ⟨z, v, rfl, s1, s2⟩
        exact ⟨_, rfl, k _ _ s1⟩
end
end Wb
/-! min(xs) of a list of texts; a text so many times -/
namespace WbMin
open PySem PySem.W PySem.Spec PyProof.Rows L2
/-- the least text, the first of them -/
def minS (x : Str) (xs : List Str) : Str := xs.foldl (fun a y => if y.cps.toList < a.cps.toList then y else a) x
theorem minD_minS (x : Str) : ∀ xs : List Str, minD (.str x) (xs.map PyData.str) = .str (minS x xs) := by
  intro xs
  unfold minD minS
  induction xs generalizing x with
  | nil => rfl
  | cons y r ih =>
    simp only [List.map_cons, List.foldl_cons, dataLt_str]
    by_cases q : y.cps.toList < x.cps.toList
    · simp only [q, decide_true, if_true]
      exact ih y
    · simp only [q, decide_false, if_false, Bool.false_eq_true]
      exact ih x
theorem depthAll_strs : ∀ xs : List Str, PyData.depthAll (xs.map PyData.str) = 0
  | [] => rfl
  | x :: r => by
    show max (PyData.depth (.str x)) (PyData.depthAll (r.map PyData.str)) = 0
    rw [depthAll_strs r] <;> rfl
theorem alike_strs (xs : List Str) : AlikeAll (xs.map PyData.str) := by
  refine ⟨fun d hd e he => ?_, fun d hd => ?_⟩
  · obtain ⟨x, _, rfl⟩ := List.mem_map.mp hd
    obtain ⟨y, _, rfl⟩ := List.mem_map.mp he
    rfl
  · obtain ⟨x, _, rfl⟩ := List.mem_map.mp hd
    exact fun z => nomatch z
theorem reads_strs {h : Heap} : ∀ {xs : List Str} {us : List Value}, Vals (xs.map V.str) us → ReadsAll h us (xs.map PyData.str) []
  | [], _, .nil => .nil
  | x :: r, _, .cons q t => by
    obtain ⟨k, rfl⟩ := q
    exact ReadsAll.cons (as := []) (bs := []) (.str x k) (reads_strs t)
theorem reads_str {h : Heap} {v : Value} {x : Str} {bs : List Addr} (r : Reads h v (.str x) bs) : ∃ t, v = .str x t := by
  cases r with
  | str _ t => exact ⟨t, rfl⟩
section
variable {X : Cx}
/-- min(xs), xs a list of one text or more -/
def rMinS (K : PySem.W.Frag) : List V → Hp → VK → Prop := fun vs H Q => ∃ (a : Addr) (x : Str) (xs : List Str), vs = [V.ref a] ∧ SqL K H a ((x :: xs).map V.str) ∧ Q (.str (minS x xs)) H
theorem cr_minS {k : Nat} (hr : Room k X.A) (hc : X.calm = true) : CallR X (.builtin "min") (rMinS X.K) := by
  intro pins s σ H vs us Q I r h
  obtain ⟨a, x, xs, rfl, hs, q⟩ := h
  obtain ⟨its, rv, hl, _⟩ := I.list hs
  rw [Vals.ref1 r]
  have rd : ReadsAll s.heap its.toArray.toList (PyData.str x :: xs.map PyData.str) [] := by simpa using reads_strs (h := s.heap) rv
  have un := hr.units
  have al : AlikeAll (PyData.str x :: xs.map PyData.str) := alike_strs (x :: xs)
  have dp : PyData.depthAll (PyData.str x :: xs.map PyData.str) = 0 := depthAll_strs (x :: xs)
  refine min_list_data (I.ok.hd hc) hl.isList rd al (by rw [dp]; omega) fun i v h' tk bs hv hm kept => ?_
  rw [minD_minS] at hm
  obtain ⟨t, rfl⟩ := reads_str hm
  exact ⟨.str (minS x xs), H, I.kept kept, ⟨t, rfl⟩, q⟩
/-- z * k, z a text -/
def rMulS : R2 := fun x y H Q => ∃ (z : Str) (k : Int), x = .str z ∧ y = .int k ∧ MulOk z k ∧ Q (.str (Txt.mul z k)) H
theorem op_mulS : OpR X (binaryOp .Mult) rMulS := by
  intro pins s σ H x y v u Q I rx ry h
  obtain ⟨z, k, rfl, rfl, ok, q⟩ := h
  obtain ⟨t, rfl⟩ := rx
  obtain ⟨t2, rfl⟩ := ry
  exact SB.mul ok fun t' n => ⟨.str (Txt.mul z k), H, I.tok n, ⟨t', rfl⟩, q⟩
end
/-- so many times, by the signs -/
theorem mulOk {z : Str} {k : Int} (h0 : 0 ≤ k) (h : z.length * k.toNat ≤ 16777216) (hk : k ≤ 16777216) : MulOk z k := by
  refine ⟨?_, fun h1 _ => ?_, fun h1 _ => ?_⟩
  · rw [decide_eq_false (show ¬ k < -(2 ^ 63) by omega), decide_eq_false (show ¬ k ≥ 2 ^ 63 by omega)] <;> rfl
  · intro q
    have k1 : 0 < k := by omega
    have h2 : (z.length : Int) * k ≤ 16777216 := by
      have e : ((z.length * k.toNat : Nat) : Int) = (z.length : Int) * k := by
        rw [Int.natCast_mul, Int.toNat_of_nonneg h0]
      rw [← e]
      exact Int.ofNat_le.mpr h
    have h3 : (2 ^ 63 - 1) / k < (z.length : Int) := q
    have h4 : (2 ^ 63 - 1 : Int) < (z.length : Int) * k := (Int.ediv_lt_iff_lt_mul k1).mp h3
    omega
  · show decide (z.length * k.toNat > sizeLine) = false
    exact decide_eq_false (by rw [sizeLine_eq]; omega)
theorem fold_cat : ∀ (n : Nat) (c acc : Array Nat), ((List.replicate n c).foldl (· ++ ·) acc).toList = acc.toList ++ (List.replicate n c.toList).flatten
  | 0, c, acc => by simp
  | n + 1, c, acc => by
    rw [List.replicate_succ, List.foldl_cons, fold_cat n c (acc ++ c), List.replicate_succ, List.flatten_cons, Array.toList_append, List.append_assoc]
theorem mul_cps {z : Str} {k : Int} (h0 : 0 ≤ k) : (Txt.mul z k).cps.toList = (List.replicate k.toNat z.cps.toList).flatten := by
  unfold Txt.mul
  by_cases h1 : k < 1
  · obtain rfl : k = 0 := by omega
    rw [if_pos h1] <;> rfl
  · rw [if_neg h1]
    by_cases h2 : (k == 1 || z.length == 0) = true
    · rw [if_pos h2]
      rcases Bool.or_eq_true _ _ ▸ h2 with e | e
      · have e1 : k = 1 := by simpa using e
        subst e1
        simp
      · have e1 : z.cps.size = 0 := by
          have q : z.length = 0 := by simpa using e
          exact q
        have e2 : z.cps.toList = [] := List.eq_nil_of_length_eq_zero (by rw [Array.length_toList]; exact e1)
        rw [e2]
        simp
    · rw [if_neg h2]
      show ((List.replicate k.toNat z.cps).foldl (· ++ ·) #[]).toList = _
      rw [fold_cat]
      simp
end WbMin
namespace Wb
open PySem L2 WbMin
abbrev sSigns : Stmt := top 44
/-- the text of these codes -/
def S (l : List Nat) : Str := ⟨l.toArray⟩
theorem S_cps (l : List Nat) : (S l).cps.toList = l := by simp [S]
theorem S_size (l : List Nat) : (S l).cps.size = l.length := by simp [S]
theorem S_len (l : List Nat) : (S l).length = l.length := S_size l
theorem S_of (z : Str) : S z.cps.toList = z := by cases z; simp [S]
theorem S_eq {z : Str} {l : List Nat} (h : z.cps.toList = l) : z = S l := by rw [← h, S_of]
theorem S_add (l m : List Nat) : S l ++ S m = S (l ++ m) := by
  show Str.append (S l) (S m) = S (l ++ m)
  simp [S, Str.append]
def one (c : Nat) : Str := ⟨#[c]⟩
theorem S_one (c : Nat) : one c = S [c] := rfl
def abc : List Nat := (List.range 26).map (· + 97)
theorem abc_is : ("abcdefghijklmnopqrstuvwxyz" : Str) = S abc := by decide +kernel
/-- small letters -/
def Low (l : List Nat) : Prop := ∀ c ∈ l, 97 ≤ c ∧ c ≤ 122
theorem abc_low : Low abc := by unfold Low abc; decide
theorem abc_len : abc.length = 26 := rfl
/-- a def of the top -/
structure Def (K : PySem.W.Frag) (mg : Str → Option Value) (x : Str) (st : Stmt) (ps : List Str) (f : Addr) (fd : FuncData) : Prop where
  F : Fun K x x st f fd
  g : mg x = some (.ref f)
  kp : PySem.W.keepIn K (.ref f) = true
  b : Binds K fd ps []
def spSigns : Sp := fun vs H Q _ => ∃ (p : Addr) (m : Int), vs = [.ref p, .int m] ∧ 0 < m ∧ m ≤ 26 ∧ PoolAt H p ∧
  ∀ (l : List Nat) (H' : Hp), Low l → l.Nodup → 0 < l.length → (l.length : Int) ≤ m → PoolAt H' p → But p H H' → Q (.str (S l)) H'
theorem drop_one (a : Nat) : ∀ ys : List Nat, ys.Nodup → ys.length ≤ (ys.filter fun c => !decide (c = a)).length + 1
  | [], _ => Nat.zero_le _
  | y :: r, nd => by
    obtain ⟨n1, n2⟩ := List.nodup_cons.mp nd
    by_cases e : y = a
    · have e1 : (r.filter fun c => !decide (c = a)) = r := List.filter_eq_self.mpr fun c hc => by
        have : c ≠ a := fun z => n1 (e ▸ z ▸ hc)
        simp [this]
      rw [List.filter_cons_of_neg (by simp [e]), e1] <;> exact Nat.le_refl _
    · rw [List.filter_cons_of_pos (by simp [e])]
      have := drop_one a r n2
      simp only [List.length_cons]
      omega
theorem left_len : ∀ (l xs : List Nat), xs.Nodup → xs.length ≤ (xs.filter fun c => !decide (c ∈ l)).length + l.length
  | [], xs, _ => by
    have e : (xs.filter fun c => !decide (c ∈ ([] : List Nat))) = xs := List.filter_eq_self.mpr (by simp)
    rw [e] <;> exact Nat.le_refl _
  | a :: l, xs, nd => by
    have ih := left_len l xs nd
    have e : (xs.filter fun c => !decide (c ∈ a :: l)) = ((xs.filter fun c => !decide (c ∈ l)).filter fun c => !decide (c = a)) := by
      rw [List.filter_filter]
      refine List.filter_congr fun c _ => ?_
      by_cases h1 : c = a <;> by_cases h2 : c ∈ l <;> simp [h1, h2]
    have := drop_one a _ (nd.filter fun c => !decide (c ∈ l))
    rw [e]
    simp only [List.length_cons]
    omega
theorem rest_pos {l : List Nat} (h : l.length < 26) : 0 < (abc.filter fun c => !decide (c ∈ l)).length := by
  have := left_len l abc (by unfold abc; decide)
  rw [abc_len] at this
  omega
theorem PoolAt.up {H : Hp} {p q : Addr} {o : HO} (h : PoolAt H p) (n : H q = none) : PoolAt (L2.upd H q o) p := by
  obtain ⟨a, b, c, e, r⟩ := h
  exact ⟨a, b, c, by rw [upd_ne (ne_of_none e n)]; exact e, r⟩
theorem PoolAt.ne {H : Hp} {p q : Addr} (h : PoolAt H p) (n : H q = none) : q ≠ p := by
  obtain ⟨a, b, c, e, r⟩ := h
  exact (ne_of_none e n).symm
theorem PoolAt.put {H : Hp} {p q : Addr} {o : HO} (h : PoolAt H p) (n : q ≠ p) : PoolAt (L2.upd H q o) p := by
  obtain ⟨a, b, c, e, r⟩ := h
  exact ⟨a, b, c, by rw [upd_ne n.symm]; exact e, r⟩
/-- a store at a thing that was not there at first -/
theorem But.new {p q : Addr} {o : HO} {H H' : Hp} (a : But p H H') (n : H q = none) : But p H (L2.upd H' q o) := fun c u k h => by
  rw [upd_ne (ne_of_none h n)]
  exact a c u k h
theorem But.free {p q : Addr} {H H' : Hp} (a : But p H H') (n : H' q = none) (ne : q ≠ p) : H q = none := by
  cases e : H q with
  | none => rfl
  | some o =>
    rw [a q o ne e] at n
    cases n
theorem take_more {α : Type} : ∀ {l : List α} {i : Nat} {x : α}, l[i]? = some x → l.take (i + 1) = l.take i ++ [x] := fun {l i x} h => by
  rw [List.take_add_one, h] <;> rfl
def vOne (c : Nat) : V := .str (one c)
section
variable {P : Program} {w : World} {K : PySem.W.Frag} {mg : Str → Option Value} {base : Heap} {f fD : Addr} {fd fdD : FuncData}
theorem scS : FnScope ["_law_pool_here", "_law_most", "_law_found", "_law_turn", "_law_rest", "_law_mark"] ["_law_pool_here", "_law_most"] (defScope sSigns) := ⟨rfl, rfl, rfl, by decide +kernel, rfl, by decide +kernel, by decide +kernel⟩
theorem ok_signs (F : Fun K "_law_signs" "_law_signs" sSigns f fd) (D : Def K mg "_law_draw" sDraw ["_law_pool_here", "_law_many"] fD fdD) (mInt : mg "int" = none) (mDm : mg "divmod" = none) (mLen : mg "len" = none) (mRange : mg "range" = none) :
    FnOk P w K mg base CX0 2 f fd ["_law_pool_here", "_law_most"] spSigns := by
  have G : FnOk P w K mg base CX0 1 fD fdD ["_law_pool_here", "_law_many"] spDraw := ok_draw D.F mInt mDm
  refine F.ok scS (fun vs H Q E h => ?_) (fun cdv A outer s H vs Q E hr h => ?_)
  · obtain ⟨p, m, rfl, _⟩ := h
    rfl
  · obtain ⟨p, m, rfl, m0, m1, hp, k⟩ := h
    refine ⟨_, pss_cons (ps_set (i := 2) scS.nd rfl (.inr rfl) pe_str)
      (pss_cons (ps_for PassesOwn.never rfl (pi_range1 rfl mRange (pa_cons (pe_op op_add pe_int (pe_call G hr rfl D.g D.kp D.b .nil pass0 (pa_cons (pv 0) (pa_cons (pv 1) pa_nil)))) pa_nil)) (pg_name (i := 3) scS.nd rfl (.inl rfl))
        (pss_cons (ps_setLc (i := 4) (own := [("_law_mark", 5)]) (g := gName 5) rfl scS.nd rfl rfl (sw_true rfl rfl rfl (by decide +kernel)) (pi_str pe_str) (blkOk_by (N := ["_law_pool_here", "_law_most", "_law_found", "_law_turn", "_law_rest", "_law_mark"]) (sc := defScope sSigns) (by decide +kernel))
            (fun _ _ _ _ _ => pg_name (i := 5) scS.nd rfl (.inl rfl)) (fun _ _ _ _ _ => pts_one (pt_cmpR op_notIn_sign (pv 5) (pv 2) rfl)) (fun _ _ _ _ _ => pv 5))
          (pss_one (ps_set (i := 2) scS.nd rfl (.inr rfl) (pe_op op_add_str (pv 2) (pe_ix ix_list (pv 4) (pe_call G hr rfl D.g D.kp D.b .nil pass0 (pa_cons (pv 0) (pa_cons (pe_callB call_len_seq (by rfl) mLen PySem.boot_len (pa_cons (pv 4) pa_nil)) pa_nil))) (fun _ _ => rfl)))))))
      (pss_one (ps_ret (pv 2)))), ?_⟩
    have e0 : (Str.ofString "" : Str) = S [] := by decide +kernel
    refine ⟨_, rfl, _, rfl, p, m, rfl, m0, by omega, hp, fun d H1 d0 d1 hp1 b1 => ⟨_, _, rfl, rfl, _, rfl, by omega, by omega, for_it walk_range
      (fun i σ H' => ∃ (l : List Nat) (v3 v4 v5 : Option V), σ = [some (.ref p), some (.int m), some (.str (S l)), v3, v4, v5] ∧ Low l ∧ l.Nodup ∧ l.length = i ∧ PoolAt H' p ∧ But p H H')
      ⟨[], none, none, none, by rw [← e0]; rfl, (fun c hc => nomatch hc), List.nodup_nil, rfl, hp1, b1⟩ (fun _ _ _ _ _ => trivial) ?_ ?_⟩⟩
    · rintro i x σ H2 H2' hi ⟨l, v3, v4, v5, rfl, lo, nd, ll, hp2, b2⟩ ⟨rfl, rfl⟩
      refine ⟨_, rfl, fun D hD => lc_it walk_str (fun j H3 => H3 D = some (.lst (((abc.take j).filter fun c => !decide (c ∈ l)).map vOne)) ∧ PoolAt H3 p ∧ But p H H3) ?_ (fun _ _ _ _ => trivial) ?_ ?_⟩
      · exact ⟨upd_same, hp2.up hD, b2.upd hD⟩
      · rintro j y H3 H3' hj ⟨h1, h2, h3⟩ ⟨rfl, c, hc, rfl⟩
        have hc' : abc[j]? = some c := by
          rw [abc_is] at hc
          simpa [S] using hc
        have hD0 : H D = none := b2.free hD (hp2.ne hD)
        refine ⟨rfl, _, rfl, _, rfl, c, S l, rfl, rfl, _, rfl, ite2 (fun q => ?_) (fun q => ?_)⟩
        · refine ⟨_, rfl, _, h1, ?_, ?_, h2.put (hp2.ne hD), h3.new hD0⟩
          · rw [List.length_map, sizeLine_eq]
            have := List.length_filter_le (fun c => !decide (c ∈ l)) (abc.take j)
            have := List.length_take_le' j abc
            rw [abc_len] at this
            omega
          · rw [upd_same, take_more hc', List.filter_append, List.map_append]
            rw [S_cps] at q
            rw [show ([c].filter fun c => !decide (c ∈ l)) = [c] from List.filter_cons_of_pos q] <;> rfl
        · refine ⟨?_, h2, h3⟩
          rw [S_cps] at q
          rw [h1, take_more hc', List.filter_append, show ([c].filter fun c => !decide (c ∈ l)) = [] from List.filter_cons_of_neg q, List.append_nil]
      · rintro H3 ⟨h1, h2, h3⟩
        have full : abc.take ("abcdefghijklmnopqrstuvwxyz" : Str).cps.size = abc := by rw [abc_is, S_size, List.take_length]
        rw [full] at h1
        have ne : 0 < (abc.filter fun c => !decide (c ∈ l)).length := rest_pos (by omega)
        refine ⟨_, rfl, _, rfl, _, rfl, _, rfl, D, _, rfl, .inl (SqL.of h1), p, _, rfl, ?_, ?_, h2, fun e H4 e0 e1 hp4 b4 => ?_⟩
        · rw [List.length_map]
          omega
        · rw [List.length_map]
          have := List.length_filter_le (fun c => !decide (c ∈ l)) abc
          rw [abc_len] at this
          omega
        · have e1' : e.toNat < (abc.filter fun c => !decide (c ∈ l)).length := by
            rw [List.length_map] at e1
            omega
          obtain ⟨c, hc⟩ : ∃ c, (abc.filter fun c => !decide (c ∈ l))[e.toNat]? = some c := ⟨_, List.getElem?_eq_getElem e1'⟩
          obtain ⟨c1, c2⟩ := List.mem_filter.mp (List.mem_of_getElem? hc)
          have c3 : c ∉ l := by simpa using c2
          have hat : atI ((abc.filter fun c => !decide (c ∈ l)).map vOne) e = some (vOne c) := by
            have q := atI_nat (xs := (abc.filter fun c => !decide (c ∈ l)).map vOne) (j := e.toNat) (v := vOne c) (by rw [List.getElem?_map, hc] <;> rfl)
            rwa [Int.toNat_of_nonneg e0] at q
          have h4 := b4 D _ (hp2.ne hD) h1
          refine ⟨D, _, _, _, rfl, rfl, SqL.of h4, hat, _, _, rfl, rfl, ?_, l ++ [c], some (.int (0 + (i : Nat))), some (.ref D), v5, ?_, fun z hz => ?_, ?_, ?_, hp4, h3.trans b4⟩
          · rw [S_len, sizeLine_eq]
            show l.length + 1 ≤ 16777216
            omega
          · rw [← S_add]
            rfl
          · rcases List.mem_append.mp hz with hz | hz
            · exact lo z hz
            · rw [List.mem_singleton.mp hz]
              exact abc_low c c1
          · rw [List.nodup_append]
            exact ⟨nd, by simp, fun a ha b hb q => c3 (by rw [← List.mem_singleton.mp hb, ← q]; exact ha)⟩
          · rw [List.length_append, ll] <;> rfl
    · rintro σ H2 ⟨l, v3, v4, v5, rfl, lo, nd, ll, hp2, b2⟩
      exact ⟨_, rfl, k l _ lo nd (by omega) (by omega) hp2 b2⟩
end
end Wb
namespace Wb
open PySem L2 WbMin
theorem one_cat : ∀ (l : List Nat) (c : Nat), Str.join (S []) ((c :: l).map one) = S (c :: l)
  | [], c => rfl
  | d :: l, c => by
    have ih := one_cat l d
    show one c ++ S [] ++ Str.join (S []) ((d :: l).map one) = S (c :: d :: l)
    rw [ih, S_one, S_add, S_add]
    rfl
theorem join_one {l : List Nat} (h : 0 < l.length) : Txt.join (Str.ofString "") (l.map one) = S l := by
  have e0 : (Str.ofString "" : Str) = S [] := by decide +kernel
  cases l with
  | nil => cases h
  | cons c l =>
    rw [e0]
    show Builtin.Str.glued (S []) ((c :: l).map one) = S (c :: l)
    rw [StrLaws.glued_eq_join]
    exact one_cat l c
end Wb
/-! words by the places of their letters: the step from one least turning to the next -/
namespace Wb
open PySem L2 WbMin
/-- without its last letters c -/
def rdrop (c : Nat) (l : List Nat) : List Nat := (l.reverse.dropWhile (· == c)).reverse
theorem rdrop_take (c : Nat) (l : List Nat) : rdrop c l = l.take (l.length - (l.reverse.takeWhile (· == c)).length) := by
  have e : l.reverse.dropWhile (· == c) = l.reverse.drop (l.reverse.takeWhile (· == c)).length := by
    generalize l.reverse = r
    induction r with
    | nil => rfl
    | cons a r ih =>
      have e1 : (a :: r).dropWhile (· == c) = if (a == c) = true then r.dropWhile (· == c) else a :: r := by
        show (match a == c with | true => _ | false => _) = _
        cases a == c <;> rfl
      have e2 : (a :: r).takeWhile (· == c) = if (a == c) = true then a :: r.takeWhile (· == c) else [] := by
        show (match a == c with | true => _ | false => _) = _
        cases a == c <;> rfl
      rw [e1, e2]
      by_cases h : (a == c) = true
      · rw [if_pos h, if_pos h, ih]; rfl
      · rw [if_neg h, if_neg h]; rfl
  unfold rdrop
  rw [e, List.drop_reverse, List.reverse_reverse]
theorem rstrip_S (l : List Nat) (c : Nat) : Txt.rstripChars (S l) (S [c]) = S (rdrop c l) := by
  unfold Txt.rstripChars
  rw [PySem.W.stripBy_eq]
  have hg : (fun x => (S [c]).cps.contains x) = fun x => x == c := by
    funext x
    show (#[c] : Array Nat).contains x = _
    simp [Array.contains]
  refine S_eq ?_
  show (Builtin.Str.strSub (S l) 0 ((S l).length - (((S l).cps.toList.drop 0).reverse.takeWhile fun x => (S [c]).cps.contains x).length)).cps.toList = _
  rw [hg, S_cps, S_len, List.drop_zero, rdrop_take]
  show ((S l).cps.extract 0 _).toList = _
  rw [Array.toList_extract, S_cps]
  simp [List.extract]
theorem occ_S {sg : List Nat} {i c : Nat} (h : sg[i]? = some c) (nd : sg.Nodup) : ∃ rest, Builtin.Str.occurrences (S sg) (S [c]) 0 (S sg).length 1 = i :: rest := by
  have hi : i < sg.length := (List.getElem?_eq_some_iff.mp h).1
  have sub : ∀ k, k < sg.length → (Builtin.Str.subAt (S sg) (S [c]) k = true ↔ sg[k]? = some c) := fun k hk => by
    unfold Builtin.Str.subAt
    rw [S_len]
    show (((S sg).cps.extract k (k + 1)) == (S [c]).cps) = true ↔ _
    rw [beq_iff_eq]
    constructor
    · intro e
      have e2 := congrArg Array.toList e
      rw [Array.toList_extract, S_cps, S_cps] at e2
      have e3 := congrArg (·[0]?) e2
      simpa [List.extract, List.getElem?_take, List.getElem?_drop] using e3
    · intro e
      apply Array.ext'
      rw [Array.toList_extract, S_cps, S_cps]
      obtain ⟨hk', e'⟩ := List.getElem?_eq_some_iff.mp e
      simp only [List.extract, Nat.add_sub_cancel_left]
      rw [List.drop_eq_getElem_cons hk']
      simp [e']
  rcases StrLaws.occ_head (S sg) (S [c]) 1 (Nat.le_refl _) with ⟨_, hn⟩ | ⟨j, r, e, hj, hn⟩
  · exact absurd ⟨by rw [S_len, S_len]; exact hi, (sub i hi).mpr h⟩ (hn i)
  · have hj1 : j < sg.length := by
      have := hj.1
      rw [S_len, S_len] at this
      exact this
    have hj2 := (sub j hj1).mp hj.2
    have : i = j := by
      exact (List.getElem?_inj hi nd).mp (h.trans hj2.symm)
    subst this
    exact ⟨r, e⟩
/-- the step -/
def nextI (m n : Nat) (w : List Nat) : List Nat :=
  match (rdrop (m - 1) ((List.replicate n w).flatten.take n)).reverse with
  | [] => []
  | z :: r => r.reverse ++ [z + 1]
/-- what comes out from w on -/
def outs : Nat → Nat → Nat → List Nat → Option (List (List Nat))
  | 0, _, _, _ => none
  | k + 1, m, n, w => if w = [] then some [] else
    match outs k m n (nextI m n w) with
    | none => none
    | some r => some (if n % w.length = 0 then (List.replicate (n / w.length) w).flatten :: r else r)
/-- letters by their places -/
def fm (sg : List Nat) (w : List Nat) : List Nat := w.map fun i => sg.getD i 0
theorem fm_len (sg w : List Nat) : (fm sg w).length = w.length := List.length_map ..
theorem fm_rp (sg w : List Nat) (n : Nat) : (List.replicate n (fm sg w)).flatten = fm sg (List.replicate n w).flatten := by
  unfold fm
  rw [List.map_flatten, List.map_replicate]
theorem fm_take (sg w : List Nat) (n : Nat) : (fm sg w).take n = fm sg (w.take n) := by
  unfold fm
  rw [List.map_take]
theorem getD_inj {sg : List Nat} (nd : sg.Nodup) {i j : Nat} (hi : i < sg.length) (hj : j < sg.length) (e : sg.getD i 0 = sg.getD j 0) : i = j := by
  have e1 : sg[i]? = some (sg.getD i 0) := by simp [List.getD, List.getElem?_eq_getElem hi]
  have e2 : sg[j]? = some (sg.getD j 0) := by simp [List.getD, List.getElem?_eq_getElem hj]
  exact (List.getElem?_inj hi nd).mp (by rw [e1, e2, e])
theorem fm_rdrop {sg : List Nat} (nd : sg.Nodup) {w : List Nat} (hw : ∀ x ∈ w, x < sg.length) {c : Nat} (hc : c < sg.length) : rdrop (sg.getD c 0) (fm sg w) = fm sg (rdrop c w) := by
  unfold rdrop fm
  rw [← List.map_reverse]
  have hw' : ∀ x ∈ w.reverse, x < sg.length := fun x hx => hw x (List.mem_reverse.mp hx)
  generalize w.reverse = r at hw'
  have key : (r.map fun i => sg.getD i 0).dropWhile (· == sg.getD c 0) = (r.dropWhile (· == c)).map fun i => sg.getD i 0 := by
    induction r with
    | nil => rfl
    | cons a r ih =>
      have ha := hw' a List.mem_cons_self
      have e1 : (a :: r).dropWhile (· == c) = if (a == c) = true then r.dropWhile (· == c) else a :: r := by
        show (match a == c with | true => _ | false => _) = _
        cases a == c <;> rfl
      have e2 : (sg.getD a 0 :: r.map fun i => sg.getD i 0).dropWhile (· == sg.getD c 0) = if (sg.getD a 0 == sg.getD c 0) = true then (r.map fun i => sg.getD i 0).dropWhile (· == sg.getD c 0) else sg.getD a 0 :: r.map fun i => sg.getD i 0 := by
        show (match sg.getD a 0 == sg.getD c 0 with | true => _ | false => _) = _
        cases sg.getD a 0 == sg.getD c 0 <;> rfl
      rw [List.map_cons, e1, e2]
      by_cases h : a = c
      · subst h
        rw [if_pos (beq_self_eq_true _), if_pos (beq_self_eq_true _)]
        exact ih fun x hx => hw' x (List.mem_cons_of_mem _ hx)
      · rw [if_neg (fun z => h (getD_inj nd ha hc (beq_iff_eq.mp z))), if_neg (fun z => h (beq_iff_eq.mp z))]
        rfl
  rw [key, List.map_reverse]
theorem rdrop_sub (c : Nat) (l : List Nat) : ∀ x ∈ rdrop c l, x ∈ l := fun x hx => by
  rw [rdrop_take] at hx
  exact List.mem_of_mem_take hx
/-- the last one left isn't the last letter -/
theorem rdrop_last {c : Nat} {l : List Nat} {z : Nat} {r : List Nat} (e : (rdrop c l).reverse = z :: r) : z ≠ c := by
  unfold rdrop at e
  rw [List.reverse_reverse] at e
  intro h
  have := List.head?_dropWhile_not (· == c) l.reverse
  rw [e] at this
  simp [h] at this
end Wb
set_option linter.all false
set_option maxHeartbeats 1000000
/-! what sleeps stays: a run that holds with each sleeping generator stuck holds with them as they are, and leaves them alone -/
namespace Gx
open PySem PySem.Spec PyProof.Rows L2
open Sem (wp)

/-- the same shared state with other generators -/
abbrev wg (s : Shared) (G : Array GenState) : Shared := { s with gens := G }
/-- asleep as it is, and stuck -/
inductive Dead : GenState → GenState → Prop
  | mk (k l c p fs cl) : Dead (.suspended k l c p fs cl) (.suspended (fun _ => .unsupported "") l c p fs cl)
/-- no generator's own frame amid its frames -/
def Fine : GenState → Prop
  | .suspended _ _ _ _ fs _ => splitAtGen fs = none
  | _ => True
def Two (y z : GenState) : Prop := Dead y z ∨ (y = z ∧ Fine z)
structure Sim (G D : Array GenState) : Prop where
  size : G.size = D.size
  two : ∀ (i : Nat) (y z : GenState), G[i]? = some y → D[i]? = some z → Two y z
/-- the dead ones lie as they lay -/
def Lie (G D G' D' : Array GenState) : Prop := ∀ (i : Nat) (y z : GenState), G[i]? = some y → D[i]? = some z → Dead y z → G'[i]? = some y ∧ D'[i]? = some z
theorem Lie.refl {G D : Array GenState} : Lie G D G D := fun _ _ _ a b _ => ⟨a, b⟩
theorem Lie.trans {G D G1 D1 G2 D2 : Array GenState} (a : Lie G D G1 D1) (b : Lie G1 D1 G2 D2) : Lie G D G2 D2 := fun i y z p q d =>
  let ⟨u, v⟩ := a i y z p q d
  b i y z u v d
theorem Dead.seen {y z : GenState} (h : Dead y z) : y.seen = z.seen := by cases h; rfl
theorem Two.seen {y z : GenState} (h : Two y z) : y.seen = z.seen := h.elim Dead.seen fun e => by rw [e.1]
theorem Two.bare {y z : GenState} (h : Two y z) : y.bare = z.bare := by
  rcases h with h | h
  · cases h; rfl
  · rw [h.1]
theorem Sim.get {G D : Array GenState} (S : Sim G D) {i : Nat} {z : GenState} (h : D[i]? = some z) : ∃ y, G[i]? = some y ∧ Two y z := by
  have hi : i < D.size := (Array.getElem?_eq_some_iff.mp h).1
  have hg : i < G.size := by rw [S.size]; exact hi
  exact ⟨G[i], Array.getElem?_eq_getElem hg, S.two i _ z (Array.getElem?_eq_getElem hg) h⟩
theorem Sim.allBare {G D : Array GenState} (S : Sim G D) (h : AllBare D) : AllBare G := fun y hy => by
  obtain ⟨i, hi, e⟩ := Array.mem_iff_getElem.mp hy
  have hd : i < D.size := by rw [← S.size]; exact hi
  have t := S.two i y D[i] (by rw [Array.getElem?_eq_getElem hi, e]) (Array.getElem?_eq_getElem hd)
  rw [t.bare]
  exact h _ (Array.getElem_mem hd)
theorem Sim.push {G D : Array GenState} (S : Sim G D) (c : Code) : Sim (G.push (.fresh c)) (D.push (.fresh c)) := by
  refine ⟨by rw [Array.size_push, Array.size_push, S.size], fun i y z a b => ?_⟩
  rw [Array.getElem?_push] at a b
  rw [S.size] at a
  by_cases hi : i = D.size
  · rw [if_pos hi] at a b
    cases a; cases b
    exact .inr ⟨rfl, trivial⟩
  · rw [if_neg hi] at a b
    exact S.two i y z a b
theorem Lie.push {G D : Array GenState} (S : Sim G D) (c : Code) : Lie G D (G.push (.fresh c)) (D.push (.fresh c)) := fun i y z a b _ => by
  have hi : i < D.size := (Array.getElem?_eq_some_iff.mp b).1
  rw [Array.getElem?_push, Array.getElem?_push, S.size, if_neg (Nat.ne_of_lt hi), if_neg (Nat.ne_of_lt hi)]
  exact ⟨a, b⟩
theorem Sim.set {G D : Array GenState} (S : Sim G D) (g : Nat) {x : GenState} (hx : Fine x) : Sim (G.setIfInBounds g x) (D.setIfInBounds g x) := by
  refine ⟨by rw [Array.size_setIfInBounds, Array.size_setIfInBounds, S.size], fun i y z a b => ?_⟩
  by_cases hi : g = i
  · subst hi
    have hb : g < D.size := by
      have := (Array.getElem?_eq_some_iff.mp b).1
      rw [Array.size_setIfInBounds] at this; exact this
    have hg : g < G.size := by rw [S.size]; exact hb
    rw [Array.getElem?_setIfInBounds_self_of_lt hb] at b
    rw [Array.getElem?_setIfInBounds_self_of_lt hg] at a
    cases a; cases b
    exact .inr ⟨rfl, hx⟩
  · rw [Array.getElem?_setIfInBounds_ne hi] at a b
    exact S.two i y z a b
theorem Lie.set {G D : Array GenState} (g : Nat) {x z : GenState} (hz : D[g]? = some z) (hn : ∀ y, ¬ Dead y z) : Lie G D (G.setIfInBounds g x) (D.setIfInBounds g x) := fun i y w a b d => by
  by_cases hi : g = i
  · subst hi
    rw [hz] at b; cases b
    exact absurd d (hn y)
  · rw [Array.getElem?_setIfInBounds_ne hi, Array.getElem?_setIfInBounds_ne hi]
    exact ⟨a, b⟩

theorem split_ret {k h g l c p kp fs} : splitAtGen (.ret k h g l c p kp :: fs) = (splitAtGen fs).map fun x => (.ret k h g l c p kp :: x.1, x.2) := by
  first
    | rfl
    | (show splitAtGen (.ret k h g l c p kp :: fs) = _; simp [splitAtGen])
theorem split_app {a b : List Frame} (ha : splitAtGen a = none) (hb : splitAtGen b = none) : splitAtGen (a ++ b) = none := by
  induction a with
  | nil => exact hb
  | cons F a ih =>
    cases F with
    | ret k h g l c p kp =>
      rw [split_ret] at ha
      show splitAtGen (.ret k h g l c p kp :: (a ++ b)) = none
      rw [split_ret, ih (by cases e : splitAtGen a with
        | none => rfl
        | some x => rw [e] at ha; cases ha)]
      rfl
    | gen g k l c p => cases ha
theorem split_tail {k h g l c p kp fs} (e : splitAtGen (.ret k h g l c p kp :: fs) = none) : splitAtGen fs = none := by
  rw [split_ret] at e
  cases q : splitAtGen fs with
  | none => rfl
  | some x => rw [q] at e; cases e

variable {M : Model}
theorem no_run {Γ : PySem.Ctx} {p : Pos} {w : String} {fs : List Frame} {s s' : Shared} {e : End} (h : Runs M Γ p (.unsupported w) fs s e s') : False := by
  have base : ∀ {Γ : PySem.Ctx} {s s' : Shared} {e : End}, ¬ Runs M Γ p (.unsupported w) [] s e s' := fun h => by cases h
  cases h with
  | segRet a _ => exact base a
  | segGen a _ => exact base a
  | segSuspOut _ a => exact base a
  | segSuspGen _ a _ _ => exact base a

def FineE : End → Prop
  | .ret _ => True
  | .susp _ _ _ _ _ _ fs => splitAtGen fs = none
theorem FineE.st {e : End} (h : FineE e) : Fine e.genState := by
  cases e with
  | ret r => trivial
  | susp v g l k c p fs => exact h

/-- THE STEP BESIDE: a run with the sleeping ones stuck -/
theorem beside {Γ : PySem.Ctx} {p : Pos} {t : Sem PySem.Fin} {fs : List Frame} {s s' : Shared} {e : End} (h : Runs M Γ p t fs s e s') :
    splitAtGen fs = none → ∀ G, Sim G s.gens → ∃ G', Runs M Γ p t fs (wg s G) e (wg s' G') ∧ Sim G' s'.gens ∧ Lie G s.gens G' s'.gens ∧ FineE e := by
  induction h with
  | done => intro _ G S; exact ⟨G, .done, S, .refl, trivial⟩
  | raise => intro _ G S; exact ⟨G, .raise, S, .refl, trivial⟩
  | again hq _ ih => intro a G S; obtain ⟨G', r, q⟩ := ih a G S; exact ⟨G', .again hq r, q⟩
  | rule _ ih => intro a G S; obtain ⟨G', r, q⟩ := ih a G S; exact ⟨G', .rule r, q⟩
  | «at» _ ih => intro a G S; obtain ⟨G', r, q⟩ := ih a G S; exact ⟨G', .at r, q⟩
  | load ho _ ih => intro a G S; obtain ⟨G', r, q⟩ := ih a G S; exact ⟨G', .load (s := wg _ G) ho r, q⟩
  | update ho _ ih => intro a G S; obtain ⟨G', r, q⟩ := ih a G S; exact ⟨G', .update (s := wg _ G) ho r, q⟩
  | loadIfAlive _ ih => intro a G S; obtain ⟨G', r, q⟩ := ih a G S; exact ⟨G', .loadIfAlive (s := wg _ G) r, q⟩
  | point _ ih => intro a G S; obtain ⟨G', r, q⟩ := ih a G S; exact ⟨G', .point r, q⟩
  | alloc _ ih => intro a G S; obtain ⟨G', r, q⟩ := ih a G S; exact ⟨G', .alloc (s := wg _ G) r, q⟩
  | fresh _ ih => intro a G S; obtain ⟨G', r, q⟩ := ih a G S; exact ⟨G', .fresh (s := wg _ G) r, q⟩
  | ask _ ih => intro a G S; obtain ⟨G', r, q⟩ := ih a G S; exact ⟨G', .ask r, q⟩
  | choose hn _ ih => intro a G S; obtain ⟨G', r, q⟩ := ih a G S; exact ⟨G', .choose (s := wg _ G) hn r, q⟩
  | os _ ih => intro a G S; obtain ⟨G', r, q⟩ := ih a G S; exact ⟨G', .os (s := wg _ G) r, q⟩
  | handled _ ih => intro a G S; obtain ⟨G', r, q⟩ := ih a G S; exact ⟨G', .handled r, q⟩
  | genState hs _ ih =>
    intro a G S
    obtain ⟨y, hy, t⟩ := S.get hs
    obtain ⟨G', r, q⟩ := ih a G S
    exact ⟨G', .genState (s := wg _ G) hy (by rw [t.seen]; exact r), q⟩
  | stack _ ih => intro a G S; obtain ⟨G', r, q⟩ := ih a G S; exact ⟨G', .stack r, q⟩
  | thread _ ih => intro a G S; obtain ⟨G', r, q⟩ := ih a G S; exact ⟨G', .thread r, q⟩
  | @newGen _ _ k _ _ _ c _ ih =>
    intro a G S
    obtain ⟨G', r, S', L, f⟩ := ih a _ (S.push c)
    refine ⟨G', .newGen (s := wg _ G) ?_, S', (Lie.push S c).trans L, f⟩
    show Runs M _ _ (k G.size) _ _ _ _
    rw [S.size]
    exact r
  | call _ _ ih1 ih2 =>
    intro a G S
    obtain ⟨G1, r1, S1, L1, _⟩ := ih1 rfl G S
    obtain ⟨G2, r2, S2, L2, f⟩ := ih2 rfl G1 S1
    exact ⟨G2, .call r1 r2, S2, L1.trans L2, f⟩
  | callSusp _ ih =>
    intro a G S
    obtain ⟨G1, r1, S1, L1, f⟩ := ih rfl G S
    exact ⟨G1, .callSusp r1, S1, L1, split_app f (by rw [split_ret]; rfl)⟩
  | yield => intro _ G S; exact ⟨G, .yield, S, .refl, rfl⟩
  | @resumeFresh _ _ g _ _ _ c _ _ _ _ hs _ hq _ ih1 ih2 =>
    intro a G S
    obtain ⟨y, hy, t⟩ := S.get hs
    have hn : ∀ y, ¬ Dead y (.fresh c) := fun y d => by cases d
    rcases t with t | ⟨rfl, _⟩
    · exact absurd t (hn y)
    obtain ⟨G1, r1, S1, L1, f1⟩ := ih1 rfl _ (S.set g (x := .running) trivial)
    have L0 := Lie.set (G := G) (x := .running) g hs hn
    obtain ⟨G2, r2, S2, L2, f2⟩ := ih2 rfl _ (S1.set g f1.st)
    refine ⟨G2, .resumeFresh (s := wg _ G) hy r1 hq r2, S2, fun i y z p q d => ?_, f2⟩
    have hi : g ≠ i := fun z => by subst z; rw [hs] at q; cases q; exact hn _ d
    obtain ⟨p1, q1⟩ := L0 i y z p q d
    obtain ⟨p2, q2⟩ := L1 i y z p1 q1 d
    refine L2 i y z ?_ ?_ d
    · show (G1.setIfInBounds g _)[i]? = _
      rw [Array.getElem?_setIfInBounds_ne hi]; exact p2
    · show (Array.setIfInBounds _ g _)[i]? = _
      rw [Array.getElem?_setIfInBounds_ne hi]; exact q2
  | @resumeSuspended _ _ g _ _ _ sx k₀ l₀ c₀ p₀ fs₀ cl _ _ _ _ hs hr hq _ ih1 ih2 =>
    intro a G S
    obtain ⟨y, hy, t⟩ := S.get hs
    rcases t with t | ⟨rfl, fine⟩
    · cases t
      exact (no_run hr).elim
    obtain ⟨G1, r1, S1, L1, f1⟩ := ih1 fine _ (S.set g (x := .running) trivial)
    obtain ⟨G2, r2, S2, L2, f2⟩ := ih2 rfl _ (S1.set g f1.st)
    refine ⟨G2, .resumeSuspended (s := wg _ G) hy r1 hq r2, S2, fun i y z p q d => ?_, f2⟩
    by_cases hi : g = i
    · subst hi
      rw [hs] at q; cases q
      have hy : G[g]? = _ := hy
      rw [hy] at p; cases p
      cases d
      exact (no_run hr).elim
    · have p0 : (G.setIfInBounds g .running)[i]? = some y := by rw [Array.getElem?_setIfInBounds_ne hi]; exact p
      have q0 : (sx.gens.setIfInBounds g GenState.running)[i]? = some z := by rw [Array.getElem?_setIfInBounds_ne hi]; exact q
      obtain ⟨p2, q2⟩ := L1 i y z p0 q0 d
      refine L2 i y z ?_ ?_ d
      · show (G1.setIfInBounds g _)[i]? = _
        rw [Array.getElem?_setIfInBounds_ne hi]; exact p2
      · show (Array.setIfInBounds _ g _)[i]? = _
        rw [Array.getElem?_setIfInBounds_ne hi]; exact q2
  | @resumeJustStarted _ _ _ _ _ _ _ c _ _ hs hv _ ih =>
    intro a G S
    obtain ⟨y, hy, t⟩ := S.get hs
    rcases t with t | ⟨rfl, _⟩
    · cases t
    obtain ⟨G', r, q⟩ := ih a G S
    exact ⟨G', .resumeJustStarted (s := wg _ G) hy hv r, q⟩
  | resumeThrowFresh hs _ ih =>
    intro a G S
    obtain ⟨y, hy, t⟩ := S.get hs
    rcases t with t | ⟨rfl, _⟩
    · cases t
    obtain ⟨G', r, S', L', f⟩ := ih a _ (S.set _ (x := .finished) trivial)
    exact ⟨G', .resumeThrowFresh (s := wg _ G) hy r, S', (Lie.set (G := G) (x := .finished) _ hs fun y d => by cases d).trans L', f⟩
  | resumeRunning hs _ ih =>
    intro a G S
    obtain ⟨y, hy, t⟩ := S.get hs
    rcases t with t | ⟨rfl, _⟩
    · cases t
    obtain ⟨G', r, q⟩ := ih a G S
    exact ⟨G', .resumeRunning (s := wg _ G) hy r, q⟩
  | resumeFinished hs _ ih =>
    intro a G S
    obtain ⟨y, hy, t⟩ := S.get hs
    rcases t with t | ⟨rfl, _⟩
    · cases t
    obtain ⟨G', r, q⟩ := ih a G S
    exact ⟨G', .resumeFinished (s := wg _ G) hy r, q⟩
  | segRet _ _ ih1 ih2 =>
    intro a G S
    obtain ⟨G1, r1, S1, L1, _⟩ := ih1 rfl G S
    obtain ⟨G2, r2, S2, L2, f⟩ := ih2 (split_tail a) G1 S1
    exact ⟨G2, .segRet r1 r2, S2, L1.trans L2, f⟩
  | segGen _ _ _ _ => intro a; cases a
  | segSuspOut hs _ ih =>
    intro a G S
    obtain ⟨G1, r1, S1, L1, f⟩ := ih rfl G S
    exact ⟨G1, .segSuspOut hs r1, S1, L1, split_app f a⟩
  | segSuspGen hs _ _ _ _ _ => intro a; rw [a] at hs; cases hs

theorem wakes_beside {Γ : PySem.Ctx} {p : Pos} {g : Nat} {r : Resume} {s s' : Shared} {res : GenResult} (h : Wakes M Γ p g r s res s') {G : Array GenState} (S : Sim G s.gens) :
    ∃ G', Wakes M Γ p g r (wg s G) res (wg s' G') ∧ Sim G' s'.gens ∧ Lie G s.gens G' s'.gens := by
  unfold Wakes at h
  cases hs : s.gens[g]? with
  | none => rw [hs] at h; exact h.elim
  | some z =>
    rw [hs] at h
    obtain ⟨y, hy, t⟩ := S.get hs
    have hy' : (wg s G).gens[g]? = some y := hy
    have far : ∀ {e₁ : End} {s₁ : Shared} {G1 : Array GenState}, (∀ y, ¬ Dead y z) → Lie (G.setIfInBounds g .running) (s.gens.setIfInBounds g .running) G1 s₁.gens → Lie G s.gens (G1.setIfInBounds g e₁.genState) (s₁.gens.setIfInBounds g e₁.genState) := fun {e₁ s₁ G1} hn L i y' z' a b d => by
      have hi : g ≠ i := fun e => by subst e; rw [hs] at b; cases b; exact hn _ d
      obtain ⟨a', b'⟩ := L i y' z' (by rw [Array.getElem?_setIfInBounds_ne hi]; exact a) (by rw [Array.getElem?_setIfInBounds_ne hi]; exact b) d
      rw [Array.getElem?_setIfInBounds_ne hi, Array.getElem?_setIfInBounds_ne hi]
      exact ⟨a', b'⟩
    cases z with
    | fresh c =>
      rcases t with t | ⟨rfl, _⟩
      · cases t
      have nd : ∀ y, ¬ Dead y (.fresh c) := fun y d => by cases d
      cases r with
      | throw x =>
        obtain ⟨rfl, rfl⟩ := h
        refine ⟨G.setIfInBounds g .finished, ?_, S.set g (x := .finished) trivial, Lie.set (x := .finished) g hs nd⟩
        unfold Wakes
        rw [hy']
        exact ⟨rfl, rfl⟩
      | send v =>
        cases v with
        | none =>
          obtain ⟨e₁, s₁, hr, hq, rfl, rfl⟩ := h
          obtain ⟨G1, r1, S1, L1, f1⟩ := beside hr rfl _ (S.set g (x := .running) trivial)
          refine ⟨G1.setIfInBounds g e₁.genState, ?_, S1.set g f1.st, far nd L1⟩
          unfold Wakes
          rw [hy']
          exact ⟨e₁, _, r1, hq, rfl, rfl⟩
        | _ =>
          obtain ⟨rfl, rfl⟩ := h
          refine ⟨G, ?_, S, .refl⟩
          unfold Wakes
          rw [hy']
          exact ⟨rfl, rfl⟩
    | suspended k₀ l₀ c₀ p₀ fs₀ cl =>
      obtain ⟨e₁, s₁, hr, hq, rfl, rfl⟩ := h
      have nk : ∀ y, ¬ Dead y (.suspended k₀ l₀ c₀ p₀ fs₀ cl) := fun y d => by
        cases d
        exact no_run hr
      rcases t with t | ⟨rfl, fine⟩
      · exact (nk _ t).elim
      obtain ⟨G1, r1, S1, L1, f1⟩ := beside hr fine _ (S.set g (x := .running) trivial)
      refine ⟨G1.setIfInBounds g e₁.genState, ?_, S1.set g f1.st, far nk L1⟩
      unfold Wakes
      rw [hy']
      exact ⟨e₁, _, r1, hq, rfl, rfl⟩
    | running =>
      rcases t with t | ⟨rfl, _⟩
      · cases t
      obtain ⟨rfl, rfl⟩ := h
      refine ⟨G, ?_, S, .refl⟩
      unfold Wakes
      rw [hy']
      exact ⟨rfl, rfl⟩
    | finished =>
      rcases t with t | ⟨rfl, _⟩
      · cases t
      obtain ⟨rfl, rfl⟩ := h
      refine ⟨G, ?_, S, .refl⟩
      unfold Wakes
      rw [hy']
      exact ⟨rfl, rfl⟩

theorem wp_beside {α : Type} (M : Model) (Γ : PySem.Ctx) (G0 D0 : Array GenState) (t : Sem α) : ∀ (Q : α → Pos → Shared → Prop) (E : Value → Pos → Shared → Prop) (p : Pos) (s : Shared) (G : Array GenState), Sim G s.gens → Lie G0 D0 G s.gens → wp M Γ t Q E p s →
    wp M Γ t (fun a p' s' => ∃ D, Q a p' (wg s' D) ∧ Sim s'.gens D ∧ Lie G0 D0 s'.gens D) (fun e p' s' => ∃ D, E e p' (wg s' D) ∧ Sim s'.gens D ∧ Lie G0 D0 s'.gens D) p (wg s G) := by
  induction t with
  | pure a => intro Q E p s G S L h; exact ⟨s.gens, h, S, L⟩
  | raise e => intro Q E p s G S L h; exact ⟨s.gens, h, S, L⟩
  | unsupported _ => intro Q E p s G S L h; exact h
  | finish _ => intro Q E p s G S L h; exact h
  | rule _ k ih => intro Q E p s G S L h; exact ih () Q E p s G S L h
  | «at» p' k ih => intro Q E p s G S L h; exact ih () Q E p' s G S L h
  | load a _ k ih => intro Q E p s G S L h; obtain ⟨o, ho, h⟩ := h; exact ⟨o, ho, ih o Q E p s G S L h⟩
  | update a _ f k ih => intro Q E p s G S L h; exact ⟨h.1, ih () Q E p { s with heap := s.heap.update a f } G S L h.2⟩
  | loadIfAlive a k ih => intro Q E p s G S L h; exact ih _ Q E p s G S L h
  | point _ k ih => intro Q E p s G S L h; exact ih () Q E p s G S L h
  | register _ _ => intro Q E p s G S L h; exact h
  | alloc o k ih => intro Q E p s G S L h; exact ih _ Q E p { s with heap := s.heap.push o } G S L h
  | fresh k ih => intro Q E p s G S L h; exact ih _ Q E p { s with toks := s.toks + 1 } G S L h
  | ask k ih => intro Q E p s G S L h; exact ih _ Q E p s G S L h
  | choose src m k ih => intro Q E p s G S L h; exact ⟨h.1, ih _ Q E p { s with drawn := s.drawn.bump src } G S L h.2⟩
  | os q _ k ih => intro Q E p s G S L h; exact ih _ Q E p { s with os := (Os.step s.os q).1 } G S L h
  | call c hd _ _ k ih =>
    intro Q E p s G S L h
    obtain ⟨r, s', hr, h⟩ := h
    obtain ⟨G1, r1, S1, L1, _⟩ := beside hr rfl G S
    exact ⟨r, wg s' G1, r1, ih r Q E p s' G1 S1 (L.trans L1) h⟩
  | handled own k ih => intro Q E p s G S L h; exact ih _ Q E p s G S L h
  | genState g k ih =>
    intro Q E p s G S L h
    obtain ⟨z, hz, h⟩ := h
    obtain ⟨y, hy, t⟩ := S.get hz
    exact ⟨y, hy, by rw [t.seen]; exact ih _ Q E p s G S L h⟩
  | newGen c k ih =>
    intro Q E p s G S L h
    have q := ih _ Q E p { s with gens := s.gens.push (.fresh c) } _ (S.push c) (L.trans (Lie.push S c)) h
    rw [← S.size] at q
    exact q
  | resume g r _ k ih =>
    intro Q E p s G S L h
    obtain ⟨res, s', hw, h⟩ := h
    obtain ⟨G1, w1, S1, L1⟩ := wakes_beside hw S
    exact ⟨res, wg s' G1, w1, ih res Q E p s' G1 S1 (L.trans L1) h⟩
  | yield _ _ _ _ => intro Q E p s G S L h; exact h
  | stack k ih => intro Q E p s G S L h; exact ih _ Q E p s G S L h
  | fork _ _ => intro Q E p s G S L h; exact h
  | thread k ih => intro Q E p s G S L h; exact ih _ Q E p s G S L h
  | await _ _ _ _ _ => intro Q E p s G S L h; exact h

def stuck1 : GenState → GenState
  | .suspended _ l c p fs cl => .suspended (fun _ => .unsupported "") l c p fs cl
  | y => y
def stuckAll (G : Array GenState) : Array GenState := G.map stuck1
def Sleeps : GenState → Prop
  | .suspended .. => True
  | _ => False
theorem dead_of {y : GenState} (h : Sleeps y) : Dead y (stuck1 y) := by
  cases y with
  | suspended k l c p fs cl => exact .mk ..
  | _ => exact h.elim
theorem sim_stuck (G : Array GenState) : Sim G (stuckAll G) := by
  refine ⟨by unfold stuckAll; rw [Array.size_map], fun i y z a b => ?_⟩
  unfold stuckAll at b
  rw [Array.getElem?_map, a] at b
  cases b
  cases y with
  | suspended k l c p fs cl => exact .inl (.mk ..)
  | _ => exact .inr ⟨rfl, trivial⟩
/-- those that sleep stay as they are -/
def Calm (G G' : Array GenState) : Prop := ∀ (i : Nat) (y : GenState), G[i]? = some y → Sleeps y → G'[i]? = some y
theorem Calm.refl {G : Array GenState} : Calm G G := fun _ _ h _ => h
theorem Calm.trans {A B C : Array GenState} (a : Calm A B) (b : Calm B C) : Calm A C := fun i y h k => b i y (a i y h k) k
theorem bare_stuck {G : Array GenState} (h : AllBare G) : AllBare (stuckAll G) := fun y hy => by
  unfold stuckAll at hy
  obtain ⟨x, hx, rfl⟩ := Array.mem_map.mp hy
  have := h x hx
  cases x <;> exact this
/-- THE RULE: what holds with the sleeping ones stuck holds with them as they are -/
theorem calm {α : Type} {A : Around} {t : Sem α} {Q : α → Shared → Prop} {E : Value → Shared → Prop} {s : Shared} (h : wpAny M A t Q E (wg s (stuckAll s.gens))) :
    wpAny M A t (fun a s' => ∃ D, Q a (wg s' D) ∧ Calm s.gens s'.gens ∧ (AllBare D → AllBare s'.gens)) (fun e s' => ∃ D, E e (wg s' D) ∧ Calm s.gens s'.gens ∧ (AllBare D → AllBare s'.gens)) s := by
  have fin : ∀ (D : Array GenState) (s' : Shared), Sim s'.gens D → Lie s.gens (stuckAll s.gens) s'.gens D → Calm s.gens s'.gens ∧ (AllBare D → AllBare s'.gens) := fun D s' S L => by
    refine ⟨fun i y e k => ?_, S.allBare⟩
    refine (L i y (stuck1 y) e ?_ (dead_of k)).1
    unfold stuckAll
    rw [Array.getElem?_map, e]; rfl
  intro Γ p hΓ
  exact Sem.wp_mono M Γ t (fun a p' s' ⟨D, q, S, L⟩ => ⟨D, q, fin D s' S L⟩) (fun e p' s' ⟨D, q, S, L⟩ => ⟨D, q, fin D s' S L⟩) _ _ (wp_beside M Γ s.gens (stuckAll s.gens) t _ _ p (wg s (stuckAll s.gens)) s.gens (sim_stuck _) .refl (h Γ p hΓ))
end Gx
set_option linter.all false
set_option maxHeartbeats 1000000
/-! one run of a generator: from where it is woken to its next yield, or to its end; nothing is raised -/
namespace Gx
open PySem PySem.Spec PyProof.Rows L2 GenW
open Sem (wp)

section
variable {M : Model} {A : Around} {Z : End → Shared → Prop} {c : Code} {fs : List Frame} {s : Shared}
/-- from here the run comes to an end at which Z -/
def Go (M : Model) (A : Around) (Z : End → Shared → Prop) (c : Code) (t : Sem PySem.Fin) (fs : List Frame) (s : Shared) : Prop :=
  ∀ (Γ : PySem.Ctx) (p : Pos), Γ.code = c → Γ.Woken A → ∃ e s', Runs M Γ p t fs s e s' ∧ Z e s'
abbrev NoX : Value → Shared → Prop := fun _ _ => False
theorem go_wrap {α : Type} {m : Sem α} {K : α → Sem PySem.Fin} {J : Value → Sem PySem.Fin} {gd lv} (h : wpAny M (A.over c fs) m (fun a s' => Go M A Z c (K a) fs s') NoX s) : Go M A Z c (m.wrap K J gd lv) fs s := by
  rintro Γ p rfl hΓ
  exact runs_wrap_of_wp K J gd lv m (h (Γ.over fs) p (hΓ.over fs)) (fun a p' s' q => q Γ p' rfl hΓ) fun x p' s' q => q.elim
theorem go_bindw {α β : Type} {m : Sem α} {f : α → Sem β} {K : β → Sem PySem.Fin} {J : Value → Sem PySem.Fin} {gd lv} (h : wpAny M (A.over c fs) m (fun a s' => Go M A Z c ((f a).wrap K J gd lv) fs s') NoX s) :
    Go M A Z c ((m >>= f).wrap K J gd lv) fs s := by
  rw [Sem.bind_eq_wrap', Sem.wrap_wrap]
  rintro Γ p rfl hΓ
  exact runs_wrap_of_wp _ _ _ _ m (h (Γ.over fs) p (hΓ.over fs)) (fun a p' s' q => q Γ p' rfl hΓ) fun x p' s' q => q.elim
theorem go_at {p' : Pos} {k : Unit → Sem PySem.Fin} (h : Go M A Z c (k ()) fs s) : Go M A Z c (.at p' k) fs s :=
  go_wrap (m := standAt p') (K := k) (J := .raise) (gd := id) (lv := id) (wpAny_standAt h)
theorem go_point {l : List Value} {k : Unit → Sem PySem.Fin} (h : Go M A Z c (k ()) fs s) : Go M A Z c (.point l k) fs s :=
  go_wrap (m := point) (K := k) (J := .raise) (gd := id) (lv := fun _ => l) (wpAny_point h)
theorem go_call {c' : Code} {h g l} {k : Result → Sem PySem.Fin} (hc : ∀ p, Go M A Z c' (M.den c') (.ret k h g l c p [] :: fs) s) : Go M A Z c (.call c' h g l k) fs s := by
  rintro Γ p rfl hΓ
  obtain ⟨e, s', r, z⟩ := hc p (Γ.goto c') p rfl (hΓ.goto c')
  exact ⟨e, s', runs_call_seg r, z⟩
theorem go_leaf {k h g l c₁ p₁ kp} (r : Result) (hk : Go M A Z c₁ (k r) fs s) : Go M A Z c (leafOf r) (.ret k h g l c₁ p₁ kp :: fs) s := by
  rintro Γ p rfl hΓ
  obtain ⟨e, s', x, z⟩ := hk (Γ.goto c₁) p₁ rfl (hΓ.goto c₁)
  exact ⟨e, s', x.pop r, z⟩
theorem go_again {c' : Code} (hq : c'.quiet = true) (hc : Go M A Z c' (M.den c') fs s) : Go M A Z c (.pure (.again c')) fs s := by
  rintro Γ p rfl hΓ
  obtain ⟨e, s', x, z⟩ := hc (Γ.goto c') p rfl (hΓ.goto c')
  exact ⟨e, s', Runs.head (c₁ := c') (fun _ _ y => .again hq y) x, z⟩
theorem go_end (r : Result) (h : Z (.ret r) s) : Go M A Z c (leafOf r) [] s := by
  rintro Γ p rfl _
  exact ⟨.ret r, s, Runs.leaf r, h⟩
/-- woken again -/
def Wake (M : Model) (A : Around) (Z : End → Shared → Prop) (gs : GenState) (s : Shared) : Prop :=
  match gs with
  | .fresh c => Go M A Z c (M.den c) [] s
  | .suspended k _ c _ fs _ => Go M A Z c (k (.send .none)) fs s
  | _ => False
theorem go_yield {v g l} {k : Resume → Sem PySem.Fin} (hfs : splitAtGen fs = none) (hg : g = false) (hfg : fs.any Frame.guarded = false)
    (h : ∀ e, e.quiet = true → e.result = .yielded v → Sleeps e.genState → (∀ (A' : Around) (Z' : End → Shared → Prop) (s' : Shared), Go M A' Z' c (k (.send .none)) fs s' → Wake M A' Z' e.genState s') → Z e s) : Go M A Z c (.yield v g l k) fs s := by
  rintro Γ p rfl _
  exact ⟨_, s, Runs.yield' fs hfs, h _ (by simp [End.quiet, hg, hfg]) rfl trivial fun A' Z' s' q => q⟩
theorem go_execs_nil {env : Env} {K : Flow → Sem PySem.Fin} {J gd lv} (h : Go M A Z c (K .next) fs s) : Go M A Z c ((execs [] env).wrap K J gd lv) fs s := h
theorem go_execs_cons {st : Stmt} {rest : List Stmt} {env : Env} {K : Flow → Sem PySem.Fin} {J gd lv}
    (h : Go M A Z c ((exec st env).wrap (fun f => match f with | .next => (execs rest env).wrap K J gd lv | f => K f) J gd lv) fs s) : Go M A Z c ((execs (st :: rest) env).wrap K J gd lv) fs s := by
  rw [execs_cons_wrap]; exact h
theorem go_If {test : Expr} {body orelse : List Stmt} {pos : Pos} {env : Env} {K : Flow → Sem PySem.Fin} {J gd lv}
    (h : wpAny M (A.over c fs) (isTrue test env (eval test env)) (fun b s' => Go M A Z c ((if b = true then execs body env else execs orelse env).wrap K J gd lv) fs s') NoX s) :
    Go M A Z c ((exec (.If test body orelse pos) env).wrap K J gd lv) fs s := by
  rw [arm_exec_If]
  refine go_bindw (wpAny_standAt ?_)
  exact go_bindw h
theorem go_Yield {e : Expr} {ypos pos : Pos} {env : Env} {K : Flow → Sem PySem.Fin} {J gd lv} (hfs : splitAtGen fs = none) (hgd : gd false = false) (hfg : fs.any Frame.guarded = false)
    (h : wpAny M (A.over c fs) (eval e env) (fun v s' => ∀ e', e'.quiet = true → e'.result = .yielded v → Sleeps e'.genState → (∀ (A' : Around) (Z' : End → Shared → Prop) (s' : Shared), Go M A' Z' c (K .next) fs s' → Wake M A' Z' e'.genState s') → Z e' s') NoX s)
    (hco : env.scope.isCoroutine = false := by rfl) (hi : interactive env = false := by rfl) : Go M A Z c ((exec (.Expr (.Yield (some e) ypos) pos) env).wrap K J gd lv) fs s := by
  rw [exec_Expr env _ pos hi rfl]
  show Go M A Z c (.at pos fun _ => ((eval e env >>= fun v => (standAt ypos >>= fun _ => yieldOut env v)) >>= fun x => dropValue (.Yield (some e) ypos) pos x).wrap K J gd lv) fs s
  have hy : ∀ v, yieldOut env v = yieldValue v := fun v => by simp only [yieldOut, hco, Bool.false_eq_true, if_false]
  simp only [hy]
  refine go_at ?_
  rw [Sem.bind_eq_wrap', Sem.bind_eq_wrap', Sem.wrap_wrap, Sem.wrap_wrap]
  refine go_wrap (thn h fun v s' q => ?_)
  exact go_at (go_yield hfs hgd hfg q)
theorem go_While {test : Expr} {body : List Stmt} {pos : Pos} {env : Env} {K : Flow → Sem PySem.Fin} {J gd lv}
    (h : ∀ (p : Pos) (J' : Value → Sem PySem.Fin), Go M A Z (.whileLoop test body [] env) (M.den (.whileLoop test body [] env)) (.ret (fun r => (match r with | .ok f => K f | .error e => J' e)) none (gd false) (lv []) c p [] :: fs) s) :
    Go M A Z c ((exec (.While test body [] pos) env).wrap K J gd lv) fs s := by
  refine go_at (go_call fun p => ?_)
  have e : ∀ (F : Value → Sem Unit), (fun r : Result => ((match r with | .ok f => (.pure f : Sem Flow) | .error e => .raise e).onRaise F).wrap K J gd lv) = fun r => match r with | .ok f => K f | .error e => ((Sem.raise e : Sem Flow).onRaise F).wrap K J gd lv := fun F => by
    funext r
    cases r <;> rfl
  have q := h p fun x => ((Sem.raise x : Sem Flow).onRaise fun (x : Value) => do
        if (← field x 1) == Value.none then unsupported "frame.own-activation:exception-without-traceback"
        setFlight x env.frame).wrap K J gd lv
  rw [← e] at q
  exact q
end

section
variable {P : Program} {w : World} {A : Around} {Z : End → Shared → Prop} {fs : List Frame} {s : Shared} {env : Env}
/-- a loop's turn -/
def turnK (again : Code) : Flow → Sem PySem.Fin
  | .next | .cont => .pure (.again again)
  | .brk => .pure (.done .next)
  | .ret v => .pure (.done (.ret v))
theorem go_whileLoop {test : Expr} {body : List Stmt}
    (h : wpAny (model P w) (A.over (.whileLoop test body [] env) fs) (isTrue test env (eval test env)) (fun b s' => if b = true
      then ∀ J, Go (model P w) A Z (.whileLoop test body [] env) ((execs body env).wrap (turnK (.whileLoop test body [] env)) J id id) fs s'
      else Go (model P w) A Z (.whileLoop test body [] env) (.pure (.done .next)) fs s') NoX s) :
    Go (model P w) A Z (.whileLoop test body [] env) ((model P w).den (.whileLoop test body [] env)) fs s := by
  show Go _ A Z _ ((whileTurn test body [] env).onRaise (fun x => do noteFrame x env; theTreesLotGoes x)) fs s
  unfold whileTurn
  rw [Sem.onRaise_eq_wrap, Sem.bind_eq_wrap', Sem.wrap_wrap]
  refine go_wrap (thn h fun b s' hb => ?_)
  cases b with
  | true =>
    rw [if_pos rfl] at hb
    show Go _ A Z _ (Sem.wrap _ _ _ _ (if true = true then _ else _)) fs s'
    rw [if_pos rfl, Sem.bind_eq_wrap', Sem.wrap_wrap]
    rw [Sem.wrap_congr (execs body env) _ _ (K' := turnK (.whileLoop test body [] env)) (fun f => by cases f <;> rfl) (fun e => rfl)]
    exact hb _
  | false =>
    rw [if_neg Bool.false_ne_true] at hb
    show Go _ A Z _ (Sem.wrap _ _ _ _ (if false = true then _ else _)) fs s'
    rw [if_neg Bool.false_ne_true]
    exact hb
theorem go_func {body : List Stmt}
    (h : ∀ J, Go (model P w) A Z (.func body env) ((execs body env).wrap (fun f => .pure (.done (.ret (match f with | .ret v => v | _ => .none)))) J id id) fs s) :
    Go (model P w) A Z (.func body env) ((model P w).den (.func body env)) fs s := by
  show Go _ A Z _ (.point [] fun _ => ((execs body env).onRaise (leaving env)) >>= _) fs s
  refine go_point ?_
  rw [Sem.onRaise_eq_wrap, Sem.bind_eq_wrap', Sem.wrap_wrap]
  rw [Sem.wrap_congr (execs body env) _ _ (K' := fun f => .pure (.done (.ret (match f with | .ret v => v | _ => .none)))) (fun f => by cases f <;> rfl) (fun e => rfl)]
  exact h _
theorem go_For {target iter : Expr} {body : List Stmt} {pos : Pos} {c : Code} {K : Flow → Sem PySem.Fin} {J gd lv}
    (h : wpAny (model P w) (A.over c fs) (eval iter env) (fun x s1 => wpAny (model P w) (A.over c fs) (pyIter x) (fun it s2 =>
      ∀ (p : Pos) (J' : Value → Sem PySem.Fin), Go (model P w) A Z (.forLoop target it body [] env) ((model P w).den (.forLoop target it body [] env)) (.ret (fun r => (match r with | .ok f => K f | .error e => J' e)) none (gd false) (lv []) c p [] :: fs) s2) NoX s1) NoX s)
    (hs : ∀ x, foldedSetIterable iter env x = pure x) : Go (model P w) A Z c ((exec (.For target iter body [] pos) env).wrap K J gd lv) fs s := by
  rw [arm_exec_For]
  refine go_bindw (wpAny_standAt ?_)
  rw [show (do let x ← foldedSetIterable iter env (← eval iter env); standAt iter.pos; runOwn (.forLoop target (← holding [x] (pyIter x)) body [] env) env : Sem Flow) = (eval iter env >>= fun x => (foldedSetIterable iter env x >>= fun x => (standAt iter.pos >>= fun _ => (holding [x] (pyIter x) >>= fun it => runOwn (.forLoop target it body [] env) env)))) from rfl]
  refine go_bindw (thn h fun x s1 q => ?_)
  rw [hs]
  refine go_bindw (wpAny_pure (go_bindw (wpAny_standAt (go_bindw (wpAny_holding (thn q fun it s2 z => ?_))))))
  refine go_call fun p => ?_
  have e : ∀ (F : Value → Sem Unit), (fun r : Result => ((match r with | .ok f => (.pure f : Sem Flow) | .error e => .raise e).onRaise F).wrap K J gd lv) = fun r => match r with | .ok f => K f | .error e => ((Sem.raise e : Sem Flow).onRaise F).wrap K J gd lv := fun F => by
    funext r
    cases r <;> rfl
  have q := z p fun x => ((Sem.raise x : Sem Flow).onRaise fun (x : Value) => do
        if (← field x 1) == Value.none then unsupported "frame.own-activation:exception-without-traceback"
        setFlight x env.frame).wrap K J gd lv
  rw [← e] at q
  exact q
theorem go_forLoop {target : Expr} {it : Value} {body : List Stmt}
    (h : wpAny (model P w) (A.over (.forLoop target it body [] env) fs) (pyNext it) (fun r s1 => match r with
      | none => Go (model P w) A Z (.block [] env) (.pure (.done .next)) fs s1
      | some v => wpAny (model P w) (A.over (.forLoop target it body [] env) fs) (letOwnedTupleGo target it v) (fun _ s2 => wpAny (model P w) (A.over (.forLoop target it body [] env) fs) (assign target env v) (fun _ s3 =>
          ∀ J, Go (model P w) A Z (.forLoop target it body [] env) ((execs body env).wrap (turnK (.forLoop target it body [] env)) J id id) fs s3) NoX s2) NoX s1) NoX s) :
    Go (model P w) A Z (.forLoop target it body [] env) ((model P w).den (.forLoop target it body [] env)) fs s := by
  show Go _ A Z _ ((forTurn target it body [] env).onRaise (fun x => do noteFrame x env; theTreesLotGoes x)) fs s
  unfold forTurn
  rw [Sem.onRaise_eq_wrap]
  refine go_bindw (wpAny_standAt (go_bindw (wpAny_onRaise (wpAny_mono h (fun r s1 q => ?_) fun _ _ z => z.elim))))
  cases r with
  | none => exact go_again rfl q
  | some v =>
    refine go_bindw (thn q fun _ s2 q2 => go_bindw (thn q2 fun _ s3 q3 => ?_))
    rw [Sem.bind_eq_wrap', Sem.wrap_wrap]
    rw [Sem.wrap_congr (execs body env) _ _ (K' := turnK (.forLoop target it body [] env)) (fun f => by cases f <;> rfl) (fun e => rfl)]
    exact q3 _
end
end Gx
set_option linter.all false
set_option maxHeartbeats 1000000
/-! next(g) by one run -/
namespace Gx
open PySem PySem.Spec PyProof.Rows L2 GenW
open Sem (wp)

theorem wpAny_wake {M : Model} {A : Around} {Z : End → Shared → Prop} {E : Value → Shared → Prop} {s : Shared} {g : Nat} {gs : GenState} {l : List Value} {α : Type} {k : GenResult → Sem α} {Q : α → Shared → Prop} (hg : s.gens[g]? = some gs)
    (hgo : Wake M A Z gs (s.setGen g .running)) (hZ : ∀ e s', Z e s' → s.gens.size ≤ s'.gens.size → e.quiet = true ∧ wpAny M A (k e.result) Q E (s'.setGen g e.genState)) : wpAny M A (.resume g (.send .none) l k) Q E s := by
  intro Γ p hΓ
  rw [Sem.wp_resume]
  cases gs with
  | fresh c =>
    obtain ⟨e, s1, x, z⟩ := hgo (Γ.wake c p) p rfl (hΓ.wake c p)
    obtain ⟨q, h⟩ := hZ e s1 z (by have q := runs_gsz x; rw [setGen_size] at q; exact q)
    exact ⟨e.result, s1.setGen g e.genState, by unfold Wakes; rw [hg]; exact ⟨e, s1, x, q, rfl, rfl⟩, h Γ p hΓ⟩
  | suspended k₀ l₀ c₀ p₀ fs₀ cl =>
    obtain ⟨e, s1, x, z⟩ := hgo (Γ.wake c₀ p) p₀ rfl (hΓ.wake c₀ p)
    obtain ⟨q, h⟩ := hZ e s1 z (by have q := runs_gsz x; rw [setGen_size] at q; exact q)
    exact ⟨e.result, s1.setGen g e.genState, by unfold Wakes; rw [hg]; exact ⟨e, s1, x, q, rfl, rfl⟩, h Γ p hΓ⟩
  | running => exact hgo.elim
  | finished => exact hgo.elim

section
variable {P : Program} {w : World} {A : Around} {s : Shared}
/-- what a run leaves for next(g): an item, or the end -/
def NextZ (g : Nat) (Q : Option Value → Shared → Prop) (e : End) (s1 : Shared) : Prop :=
  match e with
  | .ret (.ok f) => (f = .ret .none ∨ f = .next) ∧ ∀ h' : Heap, (∀ b o, s1.heap.get? b = some o → h'.get? b = some o) → Q none { s1.setGen g .finished with heap := h' }
  | .ret (.error _) => False
  | .susp v .. => e.quiet = true ∧ (g < s1.gens.size → Q (some v) (s1.setGen g e.genState))
theorem next_go {a : Addr} {g : Nat} {gs : GenState} {Q : Option Value → Shared → Prop} {E : Value → Shared → Prop} (hh : A.handled = none) (hl : s.heap.NoLimit) (hroom : A.depth < recursionLimit) (hg : s.heap.IsGen a g) (hgs : s.gens[g]? = some gs)
    (hgo : Wake (model P w) A.in1 (NextZ g Q) gs (s.setGen g .running)) : wpAny (model P w) A (pyNext (.ref a)) Q E s := by
  unfold pyNext
  refine wpAny_bind (wpAny_attempt (wpAny_callSpecial?_slot (name := Str.ofString "__next__") hg.typeIs slot_gen_next (wpAny_call_entry slot_gen_next hg.typeIs entry_gen_next ?_ (args_gen_next _))))
  show wpAny _ A.in1 (Builtin.Generator.genWake (.ref a) (.send .none)) _ _ s
  unfold Builtin.Generator.genWake
  refine wpAny_bind (wpAny_holding (wpAny_genNumber hg (wpAny_bind (wpAny_genState hgs ?_))))
  have key : ∀ {α : Type} {l : List Value} {k : GenResult → Sem α} {Q' : α → Shared → Prop} {E' : Value → Shared → Prop},
      (∀ (v : Value) (s1 : Shared), Q (some v) s1 → wpAny (model P w) A.in1 (k (.yielded v)) Q' E' s1) →
      (∀ (s1 : Shared), (∀ h' : Heap, (∀ b o, s1.heap.get? b = some o → h'.get? b = some o) → Q none { s1.setGen g .finished with heap := h' }) → wpAny (model P w) A.in1 (k (.returned .none)) Q' E' (s1.setGen g .finished)) →
      wpAny (model P w) A.in1 (.resume g (.send .none) l k) Q' E' s := fun {α l k Q' E'} h1 h2 => by
    refine wpAny_wake hgs hgo fun e s1 z hsz => ?_
    have hlt : g < s1.gens.size := Nat.lt_of_lt_of_le (Array.getElem?_eq_some_iff.mp hgs).1 hsz
    cases e with
    | ret r =>
      cases r with
      | error x => exact z.elim
      | ok f =>
        obtain ⟨hf, q⟩ := z
        refine ⟨rfl, ?_⟩
        have hr : (End.ret (.ok f)).result = .returned .none := by rcases hf with rfl | rfl <;> rfl
        rw [hr]
        exact h2 s1 q
    | susp v gd l k c p fs => exact ⟨z.1, h1 v _ (z.2 hlt)⟩
  cases gs with
  | running => exact hgo.elim
  | finished => exact hgo.elim
  | _ =>
    refine wpAny_bind (wpAny_roomToWake hl hroom ?_)
    show wpAny _ A.in1 (.resume g (.send .none) [] _) _ _ s
    refine key ?_ ?_
    · intro v s1 q
      exact wpAny_pure ⟨v, rfl, wpAny_pure q⟩
    intro s1 q
    show wpAny _ A.in1 (newExc (.type "StopIteration") [] >>= _) _ _ _
    refine wpAny_bind ?_
    simp only [newExc, newTuple]
    refine wpAny_bind (wpAny_newObj_type ?_ (by size_fits))
    refine wpAny_bind (m := firstArgMember _ _) (wpAny_of_eq (a := Value.none) (by first | rfl | (simp only [firstArgMember]; rfl)) ?_)
    refine wpAny_newObj_type ?_ (by size_fits)
    simp only [raiseNew]
    refine wpAny_bind (wpAny_bind (wpAny_handled ?_))
    first | rw [show A.in1.handled = none from hh] | rw [hh]
    refine wpAny_throw ?_
    refine wpAny_bind (wpAny_isInstance (T := "StopIteration") (b := true) ⟨_, Heap.get?_push_size _ rfl, rfl⟩ isSubtype_stop ?_)
    exact wpAny_pure (q _ fun b o hb => Heap.get?_push_of_some _ (Heap.get?_push_of_some _ hb))
end
end Gx
set_option linter.all false
set_option maxHeartbeats 1000000
/-! a generator's frame taken up again: its context begun anew at each waking -/
namespace Gx
open PySem PySem.Spec PyProof.Rows L2 GenW

/-- the heap's first objects -/
def cutH (h : Heap) (L : Nat) : Heap := { h with objs := h.objs.extract 0 L }
theorem cutH_lt {h : Heap} {L b : Nat} (hb : b < L) : (cutH h L).get? b = h.get? b := by
  have e : (cutH h L).objs[b]? = h.objs[b]? := by
    show (h.objs.extract 0 L)[b]? = _
    rw [Array.getElem?_extract]
    by_cases hs : b < h.objs.size
    · rw [if_pos (by omega), Nat.zero_add]
    · rw [if_neg (by omega), Array.getElem?_eq_none (by omega)]
  unfold Heap.get?
  rw [e]
theorem cutH_size {h : Heap} {L : Nat} (hL : L ≤ h.objs.size) : (cutH h L).objs.size = L := by
  show (h.objs.extract 0 L).size = L
  rw [Array.size_extract]; omega
theorem cutH_some {h : Heap} {L b : Nat} {o : Obj} (hL : L ≤ h.objs.size) (e : (cutH h L).get? b = some o) : b < L ∧ h.get? b = some o := by
  have hb : b < L := by
    have := Heap.lt_size e
    rw [cutH_size hL] at this
    exact this
  rw [cutH_lt hb] at e
  exact ⟨hb, e⟩
abbrev rt (s : Shared) (L : Nat) : Shared := { s with heap := cutH s.heap L }
def cutHp (H : Hp) (L : Nat) : Hp := fun b => if b < L then H b else none
theorem cutHp_lt {H : Hp} {L b : Nat} (hb : b < L) : cutHp H L b = H b := by unfold cutHp; rw [if_pos hb]
theorem cutHp_some {H : Hp} {L b : Nat} {o : HO} (e : cutHp H L b = some o) : H b = some o := by
  unfold cutHp at e
  split at e
  · exact e
  · cases e
theorem has_of {P : Program} {w : World} {H : Hp} {h : Heap} {a : Addr} {o : HO} (x : ObjOk P w H h a o) : ∃ u, h.get? a = some u := by
  cases o with
  | lst xs => obtain ⟨_, _, _, _, e⟩ := x; exact ⟨_, e⟩
  | tup xs => obtain ⟨_, _, _, u, e, _⟩ := x; exact ⟨_, e⟩
  | dK kvs => obtain ⟨_, _, _, _, u, _, _, e, _⟩ := x; exact ⟨_, e⟩
  | dT kvs => obtain ⟨_, _, _, _, u, _, _, e, _⟩ := x; exact ⟨_, e⟩
  | set S n => obtain ⟨u, _, _, _, e, _⟩ := x; exact ⟨_, e⟩
  | ins C dx fs => obtain ⟨_, _, _, e, _⟩ := x; exact ⟨_, e⟩
  | own y => exact x
  | xd fs => obtain ⟨_, ⟨u, _, _, e, _⟩, _⟩ := x; exact ⟨_, e⟩
  | rng lo hi => obtain ⟨_, _, _, e⟩ := x; exact ⟨_, e⟩
  | frz ob u => exact ⟨_, x.1⟩
  | tbl ps => exact ⟨_, x⟩
  | met f y => exact ⟨_, x⟩
  | ext φ => exact x.2.1
theorem cut_funs {base : Heap} {h : Heap} {L : Nat} : ∀ {l : List Env}, (∀ b ∈ frs l, b < L) → h.FunFrames base l → (cutH h L).FunFrames base l
  | [], _, _ => trivial
  | env :: r, hb, hl => by
    obtain ⟨hk, ⟨b, o, hf, hn, ho, hd⟩, hr⟩ := hl
    have hbL : b < L := hb b (by unfold frs; rw [List.filterMap_cons, hf]; exact List.mem_cons_self)
    exact ⟨hk, ⟨b, o, hf, hn, (cutH_lt hbL).trans ho, hd⟩, cut_funs (fun c hc => hb c (by
      unfold frs
      rw [List.filterMap_cons, hf]
      exact List.mem_cons_of_mem _ hc)) hr⟩

/-- what a generator's def is, through its life: no cells -/
structure Own (scope : Scope) : Prop where
  kind : scope.kind = .function
  nocell : ∀ n, cellsFrom n scope.names [] = []
  noc : ∀ y, scope.names.lookup y ≠ some .cell ∧ scope.names.lookup y ≠ some .free

section
variable (P : Program) (w : World) (K : PySem.W.Frag) (mg : Str → Option Value) (base : Heap) (N : List Str) (qual : Str) (scope : Scope) (f : Addr) (cd : Value) (A : Around) (outer : List Env) (L : Addr)
/-- its context, begun at root -/
def gX (root : Shared) (H : Hp) : Cx where
  prog := P
  w := w
  K := K
  mg := mg
  base := base
  A := A.deeper (envOfC qual scope L f cd)
  N := N
  s_0 := root
  H_0 := H
  env := envOfC qual scope L f cd
  outer := outer
  stack := envOfC qual scope L f cd :: outer
  ex := []
  fn := fun _ => true
  calm := true
  pn := []
  xe := NoX
/-- how it stands -/
structure Lies (σ : L2.St) (H : Hp) (s : Shared) : Prop where
  e0 : Env0 P w K mg base A outer s H
  bL : base.objs.size ≤ L
  lt : ∀ b ∈ frs outer, b < L
  loc : ∃ m, s.heap.Ns L m ∧ ∀ (i : Nat) (x : Str) (v : V), N[i]? = some x → σ[i]? = some (some v) → Vis scope x → ∃ u, RelV v u ∧ Look (envOfC qual scope L f cd) s.heap m x u
  free : H L = none
  len : σ.length = N.length
end
/-- these may have changed: from L on, what isn't tracked, but for req -/
def exOf (L : Addr) (H : Hp) (req : List (Addr × Obj)) (h : Heap) : List Addr := (List.range h.objs.size).filter fun b => decide (L ≤ b) && (H b).isNone && !(req.map (·.1)).contains b
theorem mem_exOf {L : Addr} {H : Hp} {req : List (Addr × Obj)} {h : Heap} {b : Addr} : b ∈ exOf L H req h ↔ b < h.objs.size ∧ L ≤ b ∧ H b = none ∧ b ∉ req.map (·.1) := by
  unfold exOf
  rw [List.mem_filter, List.mem_range]
  simp only [Bool.and_eq_true, decide_eq_true_eq, Option.isNone_iff_eq_none, Bool.not_eq_true', List.contains_eq_mem, decide_eq_false_iff_not, and_assoc]
/-- these stand, and may be pinned -/
def Pinned (L : Addr) (outer : List Env) (req : List (Addr × Obj)) (H : Hp) (s : Shared) : Prop := ∀ p ∈ req, s.heap.get? p.1 = some p.2 ∧ H p.1 = none ∧ p.1 ≠ L ∧ p.1 ∉ frs outer ∧ ∀ v, p.2.data ≠ .cell v

section
variable {P : Program} {w : World} {K : PySem.W.Frag} {mg : Str → Option Value} {base : Heap} {N : List Str} {qual : Str} {scope : Scope} {f : Addr} {cd : Value} {A : Around} {outer : List Env} {L : Addr}
theorem Lies.inv {σ : L2.St} {H : Hp} {s : Shared} {pins : List (Addr × Obj)} (W : Own scope) (hd : A.handled = none) (x : Lies P w K mg base N qual scope f cd A outer L σ H s) (hp : Pinned L outer pins H s) :
    Inv (gX P w K mg base N qual scope f cd A outer L (rt s L) (cutHp H L)) pins σ H s := by
  obtain ⟨e0, bL, lt, loc, free, len⟩ := x
  have hL : L ≤ s.heap.objs.size := by
    obtain ⟨m, hn, _⟩ := loc
    exact Nat.le_of_lt hn.lt
  have cells : ∀ x, (envOfC qual scope L f cd).cells.lookup x = none := fun x => by
    show (cellsFrom (L + 1) scope.names []).lookup x = none
    rw [W.nocell]; rfl
  have kept : ∀ b o, (cutH s.heap L).get? b = some o → s.heap.get? b = some o := fun b o e => (cutH_some hL e).2
  refine ⟨⟨e0.mod, W.kind, rfl, rfl, Nat.le_of_eq (cutH_size hL), fun y z c h _ => ?_, fun y hy => ?_, fun y c _ h => ?_, fun _ => hd, Around.frames_deeper e0.frames, .inr ⟨rfl, rfl⟩, fun b z => absurd (show b ∈ ([] : List Addr) from z) (by simp), fun b o e => ?_, ?_, fun b _ _ => (by show b ∉ ([] : List Addr); simp), fun b z => absurd (show b ∈ ([] : List Addr) from z) (by simp), cut_funs lt e0.funs, fun b hb => ?_⟩,
    rfl, e0.bare, ⟨fun b o e _ _ _ => kept b o e, fun b o e _ _ _ => ⟨o.slots, kept b o e⟩, fun b o e n _ => ?_, fun b o e _ => ⟨o, kept b o e⟩, fun b xs e => cutHp_some e, fun b o u e => cutHp_some e, fun b ps e => ⟨#[], by rw [cutHp_some e]; simp⟩⟩, loc, fun y c h => ?_, free, fun y c h => ?_, fun p hp' => ?_, e0.hok, len⟩
  · rw [show (gX P w K mg base N qual scope f cd A outer L (rt s L) (cutHp H L)).env.cells.lookup y = none from cells y] at h; cases h
  · have hy : scope.names.lookup y = some .cell ∨ scope.names.lookup y = some .free := hy
    rcases hy with hy | hy
    · exact absurd hy (W.noc y).1
    · exact absurd hy (W.noc y).2
  · rw [show (gX P w K mg base N qual scope f cd A outer L (rt s L) (cutHp H L)).env.cells.lookup y = none from cells y] at h; cases h
  · have hb : b < L := Nat.lt_of_lt_of_le (Heap.lt_size (show base.get? b = some o from e)) bL
    obtain ⟨q1, q2⟩ := e0.bs b o e
    exact ⟨(cutH_lt hb).trans q1, (cutHp_lt hb).trans q2⟩
  · show base.objs.size ≤ (cutH s.heap L).objs.size
    rw [cutH_size hL]; exact bL
  · exact (cutHp_lt (lt b hb)).trans (e0.frf b hb)
  · have hb := (cutH_some hL e).1
    have n : cutHp H L b = none := n
    rw [cutHp_lt hb] at n
    exact n
  · rw [show (gX P w K mg base N qual scope f cd A outer L (rt s L) (cutHp H L)).env.cells.lookup y = none from cells y] at h; cases h
  · rw [show (gX P w K mg base N qual scope f cd A outer L (rt s L) (cutHp H L)).env.cells.lookup y = none from cells y] at h; cases h
  · exact hp p (by simpa [gX] using hp')
theorem Lies.of {σ σ' : L2.St} {H H' H0 : Hp} {s s' root : Shared} {pins : List (Addr × Obj)} (x : Lies P w K mg base N qual scope f cd A outer L σ H s) (I : Inv (gX P w K mg base N qual scope f cd A outer L root H0) pins σ' H' s') :
    Lies P w K mg base N qual scope f cd A outer L σ' H' s' := by
  refine ⟨⟨x.e0.frames, I.ok.mod, I.bs, Nat.le_trans I.ok.bsz I.sz, I.funs, fun b hb => ?_, I.hok, I.bare⟩, x.bL, x.lt, I.loc, I.free, I.len⟩
  obtain ⟨_, o, ho, _⟩ := I.ok.funs.mem hb
  exact I.base.free b o ho (I.ok.frf b hb) fun z => absurd (show b ∈ ([] : List Addr) from z) (by simp)
/-- the relation of a run, for its waker -/
theorem un_of {σ σ' : L2.St} {H H' : Hp} {s s' : Shared} {pins req : List (Addr × Obj)} (x : Lies P w K mg base N qual scope f cd A outer L σ H s)
    (I : Inv (gX P w K mg base N qual scope f cd A outer L (rt s L) (cutHp H L)) pins σ' H' s') (sm : Same H H') (hsub : ∀ p ∈ req, p ∈ pins) (hreq : Pinned L outer req H s) : Un (frs outer) (exOf L H req s.heap) H H' s.heap s'.heap := by
  have young : ∀ b o, s.heap.get? b = some o → H b = none → b ∉ exOf L H req s.heap → ¬ b < L → s'.heap.get? b = some o ∧ H' b = none := fun b o e n hx hb => by
    have hm : b ∈ req.map (·.1) := by
      by_cases hm : b ∈ req.map (·.1)
      · exact hm
      · exact absurd (mem_exOf.mpr ⟨Heap.lt_size e, Nat.le_of_not_lt hb, n, hm⟩) hx
    obtain ⟨p, hp, rfl⟩ := List.mem_map.mp hm
    have q := (hreq p hp).1
    rw [e] at q; cases q
    obtain ⟨z1, z2, _⟩ := I.pin p (List.mem_append_right _ (hsub p hp))
    exact ⟨z1, z2⟩
  have old : ∀ b o, s.heap.get? b = some o → b < L → (rt s L).heap.get? b = some o := fun b o e hb => (cutH_lt hb).trans e
  have none' : ∀ b, b ∉ (gX P w K mg base N qual scope f cd A outer L (rt s L) (cutHp H L)).ex := fun b z => absurd (show b ∈ ([] : List Addr) from z) (by simp)
  refine ⟨fun b o e n nf hx => ?_, fun b o e n hf hx => ?_, fun b o e n hx => ?_, fun b o e hx => ?_, fun b xs e => sm b _ e, fun b o u e => sm b _ e, fun b ps e => ⟨#[], by rw [sm b _ e]; simp⟩⟩
  · by_cases hb : b < L
    · exact I.base.keep b o (old b o e hb) ((cutHp_lt hb).trans n) nf (none' b)
    · exact (young b o e n hx hb).1
  · exact I.base.slot b o (old b o e (x.lt b hf)) ((cutHp_lt (x.lt b hf)).trans n) hf (none' b)
  · by_cases hb : b < L
    · exact I.base.free b o (old b o e hb) ((cutHp_lt hb).trans n) (none' b)
    · exact (young b o e n hx hb).2
  · by_cases hb : b < L
    · exact I.base.there b o (old b o e hb) (none' b)
    · cases q : H b with
      | none => exact ⟨o, (young b o e q hx hb).1⟩
      | some ho => exact has_of (I.hok b ho (sm b ho q))
end
end Gx
set_option linter.all false
set_option maxHeartbeats 1000000
/-! a generator that sleeps, told by what it will hand out -/
namespace Gx
open PySem PySem.Spec PyProof.Rows L2 GenW

section
variable (P : Program) (w : World) (outer : List Env) (L : Addr) (req : List (Addr × Obj))
/-- from one waking to the next sleep -/
structure After (H : Hp) (s : Shared) (H' : Hp) (s' : Shared) : Prop where
  os : s'.os = s.os
  bare : AllBare s'.gens
  hok : HOk P w H' s'.heap
  same : Same H H'
  un : Un (frs outer) (exOf L H req s.heap) H H' s.heap s'.heap
end
/-- its own objects, as they stand -/
def FootOk (L : Addr) (objs : List (Addr × Obj)) (H : Hp) (s : Shared) : Prop := ∀ p ∈ objs, L ≤ p.1 ∧ s.heap.get? p.1 = some p.2 ∧ H p.1 = none ∧ ∀ v, p.2.data ≠ .cell v
def GensAt (gl : List (Nat × GenState)) (s : Shared) : Prop := ∀ q ∈ gl, s.gens[q.1]? = some q.2
/-- what its waker wants kept -/
def ReqOk (outer : List Env) (objs req : List (Addr × Obj)) (H : Hp) (s : Shared) : Prop := ∀ p ∈ req, s.heap.get? p.1 = some p.2 ∧ H p.1 = none ∧ p.1 ∉ frs outer ∧ (∀ v, p.2.data ≠ .cell v) ∧ ∀ q ∈ objs, q.1 ≠ p.1
def Apart2 (objs req : List (Addr × Obj)) : Prop := ∀ p ∈ objs, ∀ q ∈ req, q.1 ≠ p.1

section
variable {ι : Type} (P : Program) (w : World) (K : PySem.W.Frag) (mg : Str → Option Value) (base : Heap) (A : Around) (outer : List Env) (L a : Addr) (g lo : Nat) (Inn : Hp → Prop) (item : ι → V → Hp → Prop)
/-- it will hand out these, and then end -/
def Alive : List ι → List (Addr × Obj) → List (Nat × GenState) → Prop
  | [], objs, gl => ∀ (H : Hp) (s : Shared) (req : List (Addr × Obj)) (Q : Option Value → Shared → Prop) (E : Value → Shared → Prop), Env0 P w K mg base A outer s H → Inn H → FootOk L objs H s → GensAt gl s → ReqOk outer objs req H s →
      (∀ H' s', After P w outer L req H s H' s' → Q none s') → wpAny (model P w) A (pyNext (.ref a)) Q E s
  | x :: xs, objs, gl => ∀ (H : Hp) (s : Shared) (req : List (Addr × Obj)) (Q : Option Value → Shared → Prop) (E : Value → Shared → Prop), Env0 P w K mg base A outer s H → Inn H → FootOk L objs H s → GensAt gl s → ReqOk outer objs req H s →
      (∀ v vv H' s' objs' gl', After P w outer L req H s H' s' → RelV vv v → item x vv H' → FootOk L objs' H' s' → GensAt gl' s' → (∀ q ∈ gl', Sleeps q.2) → (∀ q ∈ gl', lo ≤ q.1) → Apart2 objs' req → Alive xs objs' gl' → Q (some v) s') → wpAny (model P w) A (pyNext (.ref a)) Q E s
/-- what a run may end with -/
structure Ok1 (xs : List ι) (H0 : Hp) (s0 : Shared) (req : List (Addr × Obj)) (Z : End → Shared → Prop) : Prop where
  fin : xs = [] → ∀ H s, After P w outer L req H0 s0 H s → Z (.ret (.ok (.ret .none))) s
  out : ∀ x xs', xs = x :: xs' → ∀ (e : End) (v : Value) (vv : V) (H : Hp) (s : Shared) objs' (gl' : List (Nat × GenState)), After P w outer L req H0 s0 H s → e.quiet = true → e.result = .yielded v → Sleeps e.genState → RelV vv v → item x vv H → FootOk L objs' H s → Apart2 objs' req →
    (∀ q ∈ gl', q.1 ≠ g ∧ lo ≤ q.1 ∧ Sleeps q.2 ∧ s.gens[q.1]? = some q.2) → Alive P w K mg base A outer L a lo Inn item xs' objs' ((g, e.genState) :: gl') → Z e s
end
section
variable {ι : Type} {P : Program} {w : World} {K : PySem.W.Frag} {mg : Str → Option Value} {base : Heap} {A : Around} {outer : List Env} {L a : Addr} {g lo : Nat} {Inn : Hp → Prop} {item : ι → V → Hp → Prop}
theorem After.setGen {req : List (Addr × Obj)} {H H' : Hp} {s s' : Shared} {x : GenState} (h : After P w outer L req H s H' s') (hx : x.bare = true) {h' : Heap} (k : ∀ b o, s'.heap.get? b = some o → h'.get? b = some o) : After P w outer L req H s H' { s'.setGen g x with heap := h' } :=
  ⟨h.os, allBare_setGen (s := s') h.bare hx, h.hok.kept k, h.same, h.un.trans (Un.kept k)⟩
theorem sleeps_bare {e : End} (h : e.quiet = true) : e.genState.bare = true := End.bare_of_quiet h
theorem gen_size {s : Shared} {i : Nat} {x : GenState} {y : GenState} {j : Nat} (h : s.gens[j]? = some y) (n : j ≠ i) : (s.setGen i x).gens[j]? = some y := by
  show (s.gens.setIfInBounds i x)[j]? = _
  rw [Array.getElem?_setIfInBounds_ne (Ne.symm n)]; exact h
/-- THE RULE: by the run of its body -/
theorem alive_of {xs : List ι} {objs : List (Addr × Obj)} {gl : List (Nat × GenState)} {gs : GenState} {go : Obj} {nm qn : Value} (hd : A.handled = none) (hroom : A.depth < recursionLimit) (hga : (a, go) ∈ objs)
    (hc : go.cls = .type "generator") (hf : go.data = .fields #[.int g 0, nm, qn]) (hs : go.slots = #[]) (hgl : (g, gs) ∈ gl) (hlo : lo ≤ g)
    (h : ∀ H s req Z, Env0 P w K mg base A.in1 outer s H → Inn H → FootOk L objs H s → (∀ q ∈ gl, q.1 ≠ g → s.gens[q.1]? = some q.2) → g < s.gens.size → ReqOk outer objs req H s → Ok1 P w K mg base A outer L a g lo Inn item xs H s req Z → Wake (model P w) A.in1 Z gs s) :
    Alive P w K mg base A outer L a lo Inn item xs objs gl := by
  have key : ∀ (H : Hp) (s : Shared) (req : List (Addr × Obj)) (Q : Option Value → Shared → Prop) (E : Value → Shared → Prop), Env0 P w K mg base A outer s H → Inn H → FootOk L objs H s → GensAt gl s → ReqOk outer objs req H s →
      Ok1 P w K mg base A outer L a g lo Inn item xs H (s.setGen g .running) req (NextZ g Q) → wpAny (model P w) A (pyNext (.ref a)) Q E s := fun H s req Q E e0 inn fo ga rq acc => by
    have hgs := ga _ hgl
    have hsz : g < s.gens.size := (Array.getElem?_eq_some_iff.mp hgs).1
    have lim : s.heap.NoLimit := e0.mod.nolimit.keeps fun b o e => (e0.bs b o e).1
    refine next_go hd lim hroom ⟨go, nm, qn, (fo _ hga).2.1, hc, hf, hs⟩ hgs (h H (s.setGen g .running) req _ ?_ inn fo (fun q hq n => gen_size (ga q hq) n) (by rw [setGen_size]; exact hsz) rq acc)
    exact ⟨e0.frames, e0.mod, e0.bs, e0.bsz, e0.funs, e0.frf, e0.hok, allBare_setGen (s := s) e0.bare rfl⟩
  cases xs with
  | nil =>
    intro H s req Q E e0 inn fo ga rq hQ
    refine key H s req Q E e0 inn fo ga rq ⟨fun _ H' s' af => ⟨.inl rfl, fun h' k => hQ H' _ ?_⟩, fun x xs' e => (by cases e)⟩
    have q := af.setGen (g := g) (x := .finished) rfl k
    exact ⟨q.os, q.bare, q.hok, q.same, q.un⟩
  | cons x xs =>
    intro H s req Q E e0 inn fo ga rq hQ
    refine key H s req Q E e0 inn fo ga rq ⟨fun e => (by cases e), fun x' xs' e en v vv H' s' objs' gl' af qt rs sl rv it fo' ap hg' al => ?_⟩
    cases e
    have q := af.setGen (g := g) (x := en.genState) (sleeps_bare qt) fun b o e => e
    have fin : g < s'.gens.size → Q (some v) (s'.setGen g en.genState) := by
      intro hsz
      refine hQ v vv H' _ objs' _ ⟨q.os, q.bare, q.hok, q.same, q.un⟩ rv it fo' (fun z hz => ?_) (fun z hz => ?_) (fun z hz => ?_) ap al
      · rcases List.mem_cons.mp hz with rfl | hz
        · exact setGen_at hsz
        · exact gen_size (hg' z hz).2.2.2 (hg' z hz).1
      · rcases List.mem_cons.mp hz with rfl | hz
        · exact sl
        · exact (hg' z hz).2.2.1
      · rcases List.mem_cons.mp hz with rfl | hz
        · exact hlo
        · exact (hg' z hz).2.1
    cases en with
    | ret r => cases r <;> cases rs
    | susp v' gd l k c p fs => cases rs; exact ⟨qt, fin⟩
end

section
variable {X : Cx} {pins : List (Addr × Obj)} {σ : L2.St} {H : Hp} {s : Shared}
/-- other generators, the same invariant -/
theorem invG (I : Inv X pins σ H s) {G : Array GenState} (hG : AllBare G) : Inv X pins σ H (wg s G) := ⟨I.ok, I.os, hG, I.base, I.loc, I.cell, I.free, I.freeC, I.pin, I.hok, I.len⟩
/-- plain work while others sleep -/
theorem calmI {α : Type} {t : Sem α} {Q : α → Shared → Prop} {E : Value → Shared → Prop} (I : Inv X pins σ H s) (h : ∀ s1, Inv X pins σ H s1 → wpAny (model X.prog X.w) X.A t Q E s1) :
    wpAny (model X.prog X.w) X.A t (fun a s' => ∃ D, Q a (wg s' D) ∧ Calm s.gens s'.gens ∧ (AllBare D → AllBare s'.gens)) (fun e s' => ∃ D, E e (wg s' D) ∧ Calm s.gens s'.gens ∧ (AllBare D → AllBare s'.gens)) s :=
  calm (h _ (invG I (bare_stuck I.bare)))
theorem invB {s' : Shared} {D : Array GenState} (I : Inv X pins σ H (wg s' D)) (b : AllBare D → AllBare s'.gens) : Inv X pins σ H s' := invG (s := wg s' D) I (b I.bare)
/-- behind a waking -/
theorem afterI {L : Addr} {req : List (Addr × Obj)} {H' : Hp} {s' : Shared} (I : Inv X pins σ H s) (h : After X.prog X.w X.stack L req H s H' s')
    (hL : ∀ b, L ≤ b → b < s.heap.objs.size → H b = none → b ∉ req.map (·.1) → (b ∈ X.ex ∨ X.s_0.heap.objs.size ≤ b) ∧ b ≠ X.env.locals ∧ (∀ x c, X.env.cells.lookup x = some c → c ≠ b) ∧ ∀ p ∈ X.pn ++ pins, p.1 ≠ b) : Inv X pins σ H' s' :=
  I.call' h.os h.un h.hok h.bare fun b hb => by
    obtain ⟨h1, h2, h3, h4⟩ := mem_exOf.mp hb
    exact hL b h2 h1 h3 h4
end
end Gx
set_option linter.all false
set_option maxHeartbeats 2000000
/-! [v for v in g]: a list of what a generator hands out -/
namespace Gx
open PySem PySem.Spec PyProof.Rows L2 GenW

/-- an item's word holds while the heap grows, and while a list changes -/
structure Stays {ι : Type} (item : ι → V → Hp → Prop) : Prop where
  same : ∀ x v H H', item x v H → Same H H' → item x v H'
  list : ∀ x v H D acc acc', item x v H → H D = some (.lst acc) → item x v (upd H D (.lst acc'))
abbrev TGn (ι : Type) := L2.St → Hp → (List ι → Hp → Prop) → Prop
/-- an expression whose value is a generator that has not begun -/
structure PGn {ι : Type} (X : Cx) (Rq : Hp → Hp → Prop) (item : ι → V → Hp → Prop) (e : Expr) (tg : TGn ι) : Prop where
  run : ∀ (pins : List (Addr × Obj)) (s : Shared) (σ : L2.St) (H : Hp) (cont : List ι → Hp → Prop), Inv X pins σ H s → tg σ H cont → wpAny (model X.prog X.w) X.A (eval e X.env) (fun u s' => ∃ (a : Addr) (g : Nat) (s1 : Shared) (xs : List ι) (objs : List (Addr × Obj)) (gl : List (Nat × GenState)) (H1 : Hp) (Inn : Hp → Prop) (lo : Nat),
    (∀ H', Rq H1 H' → Inn H') ∧ s.gens.size ≤ lo ∧ (∀ q ∈ gl, lo ≤ q.1) ∧ u = .ref a ∧ Inv X pins σ H1 s1 ∧ Inv X pins σ H1 s' ∧ s'.heap.IsGen a g ∧ Alive X.prog X.w X.K X.mg X.base X.A X.stack s1.heap.objs.size a lo Inn item xs objs gl ∧ FootOk s1.heap.objs.size objs H1 s' ∧ GensAt gl s' ∧
    s1.heap.objs.size ≤ s'.heap.objs.size ∧ cont xs H1) X.xe s
def Told {ι : Type} (item : ι → V → Hp → Prop) (xs : List ι) (ys : List V) (H : Hp) : Prop := ys.length = xs.length ∧ ∀ (i : Nat) x y, xs[i]? = some x → ys[i]? = some y → item x y H
def tLcG {ι : Type} (item : ι → V → Hp → Prop) (tg : TGn ι) : TE := fun σ H Q => tg σ H fun xs H1 => xs.length ≤ sizeLine ∧ ∀ D ys H', H1 D = none → Same H1 H' → H' D = some (.lst ys) → Told item xs ys H' → Q (.ref D) H'

theorem lcG_core {ι : Type} {X : Cx} {item item2 : ι → V → Hp → Prop} {e elt : Expr} {te : TE} {tg : TGn ι} {v : Str} {vp : Pos} {scope : Scope} {own : List (Str × Nat)} {i : Nat} {pos pos' : Pos} {pins : List (Addr × Obj)} {s : Shared} {σ : L2.St} {H : Hp} {Q : VK} {use : Option (Value → Sem Unit)} {Qf : Value → Shared → Prop}
    (st : Stays item2) (hc : X.calm = true) (hN : X.N.Nodup) (hi : PGn X Same item e tg) (ok : BlkOk X.N X.env.scope scope own) (hio : i ∈ own.map (·.2)) (hil : i < X.N.length)
    (hcl : ∀ n, cellsFrom n scope.names (cloFrom X.env.cells scope.names []) = [])
    (hg : ∀ (s : Shared) (H : Hp) (C : Addr) (cl : List (Str × Addr)) (fp : List Addr), PG (X.blk s H scope (compEnvC scope cl C X.env) fp) (.Name v vp) (gName i))
    (he : ∀ (s : Shared) (H : Hp) (C : Addr) (cl : List (Str × Addr)) (fp : List Addr), PE (X.blk s H scope (compEnvC scope cl C X.env) fp) elt te)
    (hte : ∀ (τ : L2.St) (G : Hp) (R : VK) x vv, τ[i]? = some (some vv) → item x vv G → (∀ y G', Same G G' → item2 x y G' → R y G') → te τ G R)
    (hs : ∀ x, foldedSetIterable e X.env x = pure x) (I : Inv X pins σ H s) (h : tLcG item2 tg σ H Q)
    (hRR : ∀ D C s' m H', Inv X pins σ H' s' → Q (.ref D) H' → s'.heap.Ns C m → FpOk X pins H' C → compPost (model X.prog X.w) X.A X.xe use Qf (.ref D) C (.ok .next) s') :
    wpAny (model X.prog X.w) X.A (comprehension (.ListComp elt [⟨.Name v vp, e, [], 0⟩] scope pos) scope X.env pos' (newList []) false (eval e X.env) use) Qf X.xe s := by
  have hfree : ∀ y ∈ scope.names, y.2 = .free → ∃ c, X.env.cells.lookup y.1 = some c := fun y hy e => by
    rcases ok.free y hy e with k | k
    · exact I.ok.has _ (.inl k)
    · exact I.ok.has _ (.inr k)
  refine wpAny_comprehension_free (use := use) rfl hs (closure_ok hfree) ok.kind (fun y hy e => by rw [ok.uniq y hy, e]) (thn (hi.run pins s σ H _ I h) fun u s2 hu => ?_)
  obtain ⟨a, g, s1, xs0, objs0, gl0, H1, Inn, lo, inn, _, _, rfl, I1, I2, hga, al0, fo0, ga0, hLD, hlen, hQ⟩ := hu
  generalize hL : s1.heap.objs.size = L at al0 fo0 hLD
  refine wpAny_pyIter_gen hga ?_
  refine wpAny_newObj_type (newEnv_comp ?_) (by show 0 ≤ sizeLine; decide)
  generalize hD : s2.heap.objs.size = D at hLD
  have hDn : H1 D = none := I2.hok.fresh (Nat.le_of_eq hD)
  generalize hs3 : ({ s2 with heap := s2.heap.push { cls := .type "list", data := .seq ([] : List Value).toArray } } : Shared) = s3
  have I3 : Inv X pins σ (upd H1 D (.lst [])) s3 := by
    rw [← hs3]
    refine I2.laid (t' := s2.toks) (fun b o e => Heap.get?_push_of_some _ e) (Nat.le_of_eq hD) ⟨Nat.zero_le _, [], 0, .nil, ?_⟩
    rw [← hD]
    exact Heap.get?_push_size _ rfl
  have h3 : s3.heap = s2.heap.push { cls := .type "list", data := .seq ([] : List Value).toArray } := by rw [← hs3]
  have z3 : s3.heap.objs.size = D + 1 := by rw [h3, Heap.size_push, hD]
  have k3 : ∀ b o, s2.heap.get? b = some o → s3.heap.get? b = some o := fun b o e => by rw [h3]; exact Heap.get?_push_of_some _ e
  have g3 : s3.gens = s2.gens := by rw [← hs3]
  generalize hF : ((List.range D).filter fun b => decide (L ≤ b) && (H1 b).isNone) = F
  have memF : ∀ b, b ∈ F ↔ b < D ∧ L ≤ b ∧ H1 b = none := fun b => by
    rw [← hF, List.mem_filter, List.mem_range]
    simp only [Bool.and_eq_true, decide_eq_true_eq, Option.isNone_iff_eq_none]
  have fp3 : ∀ b ∈ F, FpOk X pins (upd H1 D (.lst [])) b ∧ b < s3.heap.objs.size := fun b hb => by
    obtain ⟨q1, q2, q3⟩ := (memF b).mp hb
    refine ⟨I1.fpOk (by rw [hL]; exact q2) ?_, by rw [z3]; exact Nat.lt_succ_of_lt q1⟩
    rw [upd_ne (Nat.ne_of_lt q1)]; exact q3
  have I4 := block_start I3 ok hN fp3
  have pg := hg s3 (upd H1 D (.lst [])) s3.heap.objs.size (cellsFrom (s3.heap.objs.size + 1) scope.names (cloFrom X.env.cells scope.names [])) F
  have pe := he s3 (upd H1 D (.lst [])) s3.heap.objs.size (cellsFrom (s3.heap.objs.size + 1) scope.names (cloFrom X.env.cells scope.names [])) F
  show codeAny _ _ (.compStart _ 0 (.ref a) (.ref D) (compEnvC scope (cellsFrom (s3.heap.objs.size + 1) scope.names (cloFrom X.env.cells scope.names [])) s3.heap.objs.size X.env)) (compPost (model X.prog X.w) X.A X.xe use Qf (.ref D) s3.heap.objs.size) { s3 with heap := pushCells (s3.heap.push { cls := .type "dict", data := .dict #[] }) scope.names }
  have hcell0 : ∀ y, (compEnvC scope (cellsFrom (s3.heap.objs.size + 1) scope.names (cloFrom X.env.cells scope.names [])) s3.heap.objs.size X.env).cells.lookup y = none := fun y => by
    show (cellsFrom (s3.heap.objs.size + 1) scope.names (cloFrom X.env.cells scope.names [])).lookup y = none
    rw [hcl]; rfl
  generalize hce : compEnvC scope (cellsFrom (s3.heap.objs.size + 1) scope.names (cloFrom X.env.cells scope.names [])) s3.heap.objs.size X.env = ce at I4 pg pe hcell0 ⊢
  have cL : ce.locals = s3.heap.objs.size := by subst hce; rfl
  generalize hH3 : upd H1 D (.lst []) = H3 at I3 I4 pg pe fp3
  have sm3 : Same H1 H3 := fun b o e => by
    rw [← hH3, upd_ne (fun z => by rw [z, hDn] at e; cases e)]; exact e
  have h3D : H3 D = some (.lst []) := by rw [← hH3]; exact upd_same
  generalize hs4 : ({ s3 with heap := pushCells (s3.heap.push { cls := .type "dict", data := .dict #[] }) scope.names } : Shared) = s4 at I4 ⊢
  have k4 : ∀ b o, s3.heap.get? b = some o → s4.heap.get? b = some o := fun b o e => by rw [← hs4]; exact pushCells_keeps _ _ _ _ (Heap.get?_push_of_some _ e)
  have g4 : s4.gens = s2.gens := by rw [← hs4]; exact g3
  have stkL : ∀ b ∈ frs X.stack, b < L := fun b hb => by
    obtain ⟨_, o, ho, _⟩ := I1.stack.mem hb
    rw [← hL]; exact Heap.lt_size ho
  have loop : codeAny (model X.prog X.w) X.A (.compLoop (.ListComp elt [⟨.Name v vp, e, [], 0⟩] scope pos) 0 (.ref a) (.ref D) ce) (compPost (model X.prog X.w) X.A X.xe use Qf (.ref D) s3.heap.objs.size) s4 := by
    refine compLoop_any (fun n s' => ∃ (xs ps : List ι) (objs : List (Addr × Obj)) (gl : List (Nat × GenState)) (H' : Hp) (ys : List V), n = xs.length ∧ xs0 = ps ++ xs ∧ Inv (X.blk s3 H3 scope ce F) [] (wipe σ (own.map (·.2))) H' s' ∧ Alive X.prog X.w X.K X.mg X.base X.A X.stack L a lo Inn item xs objs gl ∧
      FootOk L objs H' s' ∧ GensAt gl s' ∧ (∀ p ∈ objs, p.1 ≠ ce.locals) ∧ Same H1 H' ∧ H' D = some (.lst ys) ∧ Told item2 ps ys H') ?_ xs0.length
      ⟨xs0, [], objs0, gl0, H3, [], rfl, rfl, I4, al0, fun p hp => ?_, fun q hq => by rw [g4]; exact ga0 q hq, fun p hp => ?_, sm3, h3D, rfl, fun i x y h => by simp at h⟩
    · rintro n s5 ⟨xs, ps, objs, gl, H5, ys, rfl, eps, I5, al, fo, ga, ne, sm, hD5, told⟩
      obtain ⟨m5, ⟨oL, es, ep, hoL, hdL, hrL⟩, hl5⟩ := id I5.loc
      have rq : ReqOk X.stack objs [(ce.locals, oL)] H5 s5 := fun p hp => by
        rw [List.mem_singleton.mp hp]
        refine ⟨hoL, I5.free, fun z => ?_, fun v q => ?_, fun q hq => ne q hq⟩
        · have := stkL _ z
          rw [cL, z3] at this
          exact absurd (Nat.lt_of_lt_of_le this hLD) (Nat.not_lt_of_le (Nat.le_succ D))
        · rw [hdL] at q; cases q
      have back : ∀ {H6 : Hp} {s6 : Shared}, After X.prog X.w X.stack L [(ce.locals, oL)] H5 s5 H6 s6 → Inv (X.blk s3 H3 scope ce F) [] (wipe σ (own.map (·.2))) H6 s6 := fun {H6 s6} af => by
        refine afterI (X := X.blk s3 H3 scope ce F) (L := L) (req := [(ce.locals, oL)]) I5 af fun b h1 h2 h3' h4 => ⟨?_, fun z => h4 (by rw [z]; simp), fun y c hy => ?_, fun p hp => absurd (show p ∈ ([] : List (Addr × Obj)) ++ [] from hp) (by simp)⟩
        · by_cases hb : s3.heap.objs.size ≤ b
          · exact .inr hb
          · refine .inl ((memF b).mpr ⟨?_, h1, ?_⟩)
            · rcases Nat.lt_or_ge b D with z | z
              · exact z
              · have : b = D := by
                  rw [z3] at hb
                  exact Nat.le_antisymm (Nat.le_of_lt_succ (Nat.lt_of_not_le hb)) z
                rw [this, hD5] at h3'; cases h3'
            · cases q : H1 b with
              | none => rfl
              | some o => rw [sm b o q] at h3'; cases h3'
        · have hy : ce.cells.lookup y = some c := hy
          rw [hcell0] at hy; cases hy
      cases xs with
      | nil =>
        refine al H5 s5 [(ce.locals, oL)] _ _ I5.env0 (inn _ sm) fo ga rq fun H6 s6 af => ?_
        have I6 := back af
        have I7 : Inv X pins σ H6 s6 := I3.call' (ch := F) I6.os I6.base I6.hok I6.bare fun b hb => ⟨(fp3 b hb).1.2.2.2.1, (fp3 b hb).1.2.1, (fp3 b hb).1.2.2.2.2.1, (fp3 b hb).1.2.2.2.2.2⟩
        have nC : H6 s3.heap.objs.size = none := by
          have z : H6 ce.locals = none := I6.free
          rw [cL] at z
          exact z
        obtain ⟨m, hn, _⟩ := I6.loc
        have hn : s6.heap.Ns ce.locals m := hn
        rw [cL] at hn
        refine hRR D s3.heap.objs.size s6 m H6 I7 (hQ D ys H6 hDn (sm.trans af.same) (af.same _ _ hD5) ?_) hn (I3.fpOk (Nat.le_refl _) nC)
        rw [List.append_nil] at eps
        rw [eps]
        exact ⟨told.1, fun i x y e1 e2 => st.same x y _ _ (told.2 i x y e1 e2) af.same⟩
      | cons x xs =>
        refine al H5 s5 [(ce.locals, oL)] _ _ I5.env0 (inn _ sm) fo ga rq fun u vv H6 s6 objs6 gl6 af rv it fo6 ga6 sl6 _ ap6 al6 => ?_
        have I6 := back af
        refine wpAny_pure ?_
        have I6' : Inv (X.blk s3 H3 scope ce F) ([] ++ objs6) (wipe σ (own.map (·.2))) H6 s6 := I6.pins_of fun p hp => by
          obtain ⟨q1, q2, q3, q4⟩ := fo6 p hp
          refine ⟨q2, q3, fun z => ap6 p hp (ce.locals, oL) (List.mem_singleton.mpr rfl) z.symm, fun z => ?_, q4⟩
          exact absurd (Nat.lt_of_lt_of_le (stkL p.1 z) q1) (Nat.lt_irrefl _)
        have gcalm : ∀ {G : Array GenState}, Calm s6.gens G → ∀ q ∈ gl6, G[q.1]? = some q.2 := fun {G} cm q hq => cm q.1 q.2 (ga6 q hq) (sl6 q hq)
        refine wpAny_mono (calmI (X := X.blk s3 H3 scope ce F) I6' fun t It => pg.run _ t _ H6 vv u (fun σ' H' => σ' = (wipe σ (own.map (·.2))).set i (some vv) ∧ H' = H6) It rv ⟨rfl, rfl⟩) (fun _ s7 ⟨D7, ⟨σ7, H7, I7, e7, e7'⟩, c7, b7⟩ => ?_) fun _ _ ⟨_, z, _⟩ => z.elim
        subst e7; subst e7'
        have I7 := invB I7 b7
        refine wpAny_tests_nil ?_
        rw [if_pos rfl]
        have hil' : i < (wipe σ (own.map (·.2))).length := by rw [wipe_length, I.len]; exact hil
        refine wpAny_mono (calmI (X := X.blk s3 H3 scope ce F) I7 fun t It => pe.run _ t _ H7 (fun y H' => item2 x y H' ∧ Same H7 H') It (hte _ H7 _ x vv (by rw [List.getElem?_set_self hil']) it fun y G' s' i' => ⟨i', s'⟩)) (fun y s8 ⟨D8, ⟨vy, H8, I8, r8, it8, sm8⟩, c8, b8⟩ => ?_) fun _ _ ⟨_, z, _⟩ => z.elim
        have I8 := invB I8 b8
        have hD8 : H8 D = some (.lst ys) := sm8 _ _ (af.same _ _ hD5)
        have hyl : ys.length < sizeLine := by
          have := told.1
          have hl := congrArg List.length eps
          rw [List.length_append, List.length_cons] at hl
          omega
        refine wpAny_mono (calmI (X := X.blk s3 H3 scope ce F) I8 fun t It => app_ok (X := X.blk s3 H3 scope ce F) (Q := fun _ s' => Inv (X.blk s3 H3 scope ce F) ([] ++ objs6) ((wipe σ (own.map (·.2))).set i (some vv)) (upd H8 D (.lst (ys ++ [vy]))) s') (E := fun _ _ => False) It hD8 hyl r8 fun s' I' => I')
          (fun _ s9 ⟨D9, I9, c9, b9⟩ => ?_) fun _ _ ⟨_, z, _⟩ => z.elim
        have I9 := invB I9 b9
        refine ⟨xs.length, by simp, xs, ps ++ [x], objs6, gl6, _, ys ++ [vy], rfl, by rw [eps]; simp, (I9.unpinned (pins := [])).weak (by rw [List.length_set]) (fun j z e => ?_), al6, fun p hp => ?_, gcalm ((c7.trans c8).trans c9), fun p hp z => ap6 p hp (ce.locals, oL) (List.mem_singleton.mpr rfl) z.symm, fun b o e => ?_, upd_same, ?_⟩
        · have := wipe_some e
          rw [List.getElem?_set_ne (fun z => by subst z; exact this.2 hio)]
          exact e
        · obtain ⟨z1, z2, z3', z4, z5⟩ := I9.pin p (List.mem_append_right _ (List.mem_append_right _ hp))
          exact ⟨(fo6 p hp).1, z1, z2, z5⟩
        · rw [upd_ne (fun z => by rw [z, hDn] at e; cases e)]
          exact sm8 _ _ (af.same _ _ (sm b o e))
        · refine ⟨by rw [List.length_append, List.length_append, told.1]; rfl, fun j x' y' e1 e2 => ?_⟩
          by_cases hj : j < ps.length
          · rw [List.getElem?_append_left hj] at e1
            rw [List.getElem?_append_left (by rw [told.1]; exact hj)] at e2
            exact st.list _ _ _ _ _ _ (st.same _ _ _ _ (told.2 j x' y' e1 e2) (af.same.trans sm8)) hD8
          · have hj1 : j < (ps ++ [x]).length := (List.getElem?_eq_some_iff.mp e1).1
            rw [List.length_append, List.length_singleton] at hj1
            have hj2 : j = ps.length := by omega
            subst hj2
            rw [List.getElem?_append_right (Nat.le_refl _), Nat.sub_self] at e1
            rw [← told.1, List.getElem?_append_right (Nat.le_refl _), Nat.sub_self] at e2
            cases e1; cases e2
            exact st.list _ _ _ _ _ _ it8 hD8
    · obtain ⟨q1, q2, q3, q4⟩ := fo0 p hp
      have lt2 : p.1 < D := by rw [← hD]; exact Heap.lt_size q2
      refine ⟨q1, k4 _ _ (k3 _ _ q2), ?_, q4⟩
      rw [← hH3, upd_ne (Nat.ne_of_lt lt2)]; exact q3
    · have lt2 : p.1 < D := by rw [← hD]; exact Heap.lt_size (fo0 p hp).2.1
      rw [cL, z3]; exact Nat.ne_of_lt (Nat.lt_succ_of_lt lt2)
  have hga4 : s4.heap.IsGen a g := by
    obtain ⟨o, nm, qn, ho, r⟩ := hga
    exact ⟨o, nm, qn, k4 _ _ (k3 _ _ ho), r⟩
  exact codeAny_compStart_list loop (wpAny_pyIter_gen hga4 loop)
/-- as a value -/
theorem pe_lcG {ι : Type} {X : Cx} {item item2 : ι → V → Hp → Prop} {e elt : Expr} {te : TE} {tg : TGn ι} {v : Str} {vp : Pos} {scope : Scope} {own : List (Str × Nat)} {i : Nat} {pos : Pos} (st : Stays item2) (hc : X.calm = true) (hN : X.N.Nodup) (hi : PGn X Same item e tg) (ok : BlkOk X.N X.env.scope scope own) (hio : i ∈ own.map (·.2)) (hil : i < X.N.length)
    (hcl : ∀ n, cellsFrom n scope.names (cloFrom X.env.cells scope.names []) = [])
    (hg : ∀ (s : Shared) (H : Hp) (C : Addr) (cl : List (Str × Addr)) (fp : List Addr), PG (X.blk s H scope (compEnvC scope cl C X.env) fp) (.Name v vp) (gName i))
    (he : ∀ (s : Shared) (H : Hp) (C : Addr) (cl : List (Str × Addr)) (fp : List Addr), PE (X.blk s H scope (compEnvC scope cl C X.env) fp) elt te)
    (hte : ∀ (τ : L2.St) (G : Hp) (R : VK) x vv, τ[i]? = some (some vv) → item x vv G → (∀ y G', Same G G' → item2 x y G' → R y G') → te τ G R) (hs : ∀ x, foldedSetIterable e X.env x = pure x := by intro _; rfl) :
    PE X (.ListComp elt [⟨.Name v vp, e, [], 0⟩] scope pos) (tLcG item2 tg) := by
  refine ⟨fun pins s σ H Q I h => ?_⟩
  rw [eval_ListComp]
  refine lcG_core st hc hN hi ok hio hil hcl hg he hte hs I h fun D C s' m H' I' q hn f => ⟨m, hn, fun h'' sb => ?_⟩
  obtain ⟨f0, f1, f2, f3, f4, f5⟩ := f
  exact ⟨.ref D, H', I'.turned (t' := s'.toks) (fun b o hb e => (sb.2 b hb).trans e) f0 f1 f3 f4 f5, rfl, q⟩
/-- name = [..] on one line -/
theorem ps_setLcG {ι : Type} {X : Cx} {item item2 : ι → V → Hp → Prop} {j : Nat} {y : Str} {py spos : Pos} {e elt : Expr} {te : TE} {tg : TGn ι} {v : Str} {vp : Pos} {scope : Scope} {own : List (Str × Nat)} {i : Nat} {pos : Pos} (st : Stays item2) (hc : X.calm = true) (hN : X.N.Nodup) (hy : X.N[j]? = some y) (hyl : X.env.scope.names.lookup y = some .local)
    (hsw : swapsWith (.ListComp elt [⟨.Name v vp, e, [], 0⟩] scope pos) (some (.Name y py)) spos.line X.env = pure true) (hi : PGn X Same item e tg) (ok : BlkOk X.N X.env.scope scope own) (hio : i ∈ own.map (·.2)) (hil : i < X.N.length)
    (hcl : ∀ n, cellsFrom n scope.names (cloFrom X.env.cells scope.names []) = [])
    (hg : ∀ (s : Shared) (H : Hp) (C : Addr) (cl : List (Str × Addr)) (fp : List Addr), PG (X.blk s H scope (compEnvC scope cl C X.env) fp) (.Name v vp) (gName i))
    (he : ∀ (s : Shared) (H : Hp) (C : Addr) (cl : List (Str × Addr)) (fp : List Addr), PE (X.blk s H scope (compEnvC scope cl C X.env) fp) elt te)
    (hte : ∀ (τ : L2.St) (G : Hp) (R : VK) x vv, τ[i]? = some (some vv) → item x vv G → (∀ y G', Same G G' → item2 x y G' → R y G') → te τ G R) (hs : ∀ x, foldedSetIterable e X.env x = pure x := by intro _; rfl) :
    PS X (.Assign [.Name y py] (.ListComp elt [⟨.Name v vp, e, [], 0⟩] scope pos) spos) (tAsg (tLcG item2 tg) (gName j)) := by
  refine ⟨fun pins s σ H D I h => ?_⟩
  rw [exec_Assign_Name_used _ _ _ _ hsw]
  refine wpAny_bind (wpAny_standAt (wpAny_bind ?_))
  show wpAny _ X.A (do let _ ← comprehension (.ListComp elt [⟨.Name v vp, e, [], 0⟩] scope pos) scope X.env (firstIterPos [⟨.Name v vp, e, [], 0⟩] pos) (newList []) false (eval e X.env) (some (assign (.Name y py) X.env))) _ _ s
  have h : tLcG item2 tg σ H (fun x H1 => gName j x σ H1 D.nx) := h
  refine wpAny_bind (thn (lcG_core (Qf := fun _ s' => SP X pins D .next s') st hc hN hi ok hio hil hcl hg he hte hs I h fun M C s' m H' I' q hn f => ?_) fun _ s' hq => wpAny_pure (wpAny_pure hq))
  show wpAny _ _ (assign (.Name y py) X.env (.ref M)) _ _ _
  refine wpAny_assign_Name (store_ok2 (v := V.ref M) I' hN hy (.inl hyl) rfl (fun s2 I2 ⟨b, sb, hb⟩ => ?_) (.inr hyl))
  obtain ⟨f0, f1, f2, f3, f4, f5⟩ := f
  have apart : C ≠ b := by
    rcases hb with z | z
    · rw [z]; exact f1
    · exact fun e => f4 y b z e.symm
  refine ⟨m, hn.sameBut sb apart, fun h3 sb3 => ⟨_, H', I2.turned (t' := s2.toks) (fun b o hb e => (sb3.2 b hb).trans e) f0 f1 f3 f4 f5, q⟩⟩
end Gx
set_option linter.all false
set_option maxHeartbeats 2000000
/-! a generator def called -/
namespace Gx
open PySem PySem.Spec PyProof.Rows L2 GenW

section
variable {ι : Type} (P : Program) (w : World) (K : PySem.W.Frag) (mg : Str → Option Value) (base : Heap) (Rq : Hp → Hp → Prop) (item : ι → V → Hp → Prop)
/-- what a call of a generator's def gives -/
structure Born (A : Around) (outer : List Env) (s : Shared) (H : Hp) (cont : List ι → Hp → Prop) (u : Value) (s' : Shared) : Prop where
  os : s'.os = s.os
  bare : AllBare s'.gens
  keep : ∀ b o, s.heap.get? b = some o → s'.heap.get? b = some o
  size : s.heap.objs.size ≤ s'.heap.objs.size
  is : ∃ (a : Addr) (g : Nat) (xs : List ι) (objs : List (Addr × Obj)) (gl : List (Nat × GenState)) (Inn : Hp → Prop), (∀ H', Rq H H' → Inn H') ∧ u = .ref a ∧ s'.heap.IsGen a g ∧ Alive P w K mg base A outer s.heap.objs.size a s.gens.size Inn item xs objs gl ∧ (∀ q ∈ gl, s.gens.size ≤ q.1) ∧ FootOk s.heap.objs.size objs H s' ∧ GensAt gl s' ∧ cont xs H
abbrev SpGn (ι : Type) := List V → Hp → (List ι → Hp → Prop) → Prop
structure GDef (k : Nat) (f : Addr) (fd : FuncData) (ps : List Str) (sp : SpGn ι) : Prop where
  len : ∀ vs H cont, sp vs H cont → vs.length = ps.length
  run : ∀ (A : Around) (outer : List Env) (s : Shared) (H : Hp) (args : Args) (us : List Value) (vs : List V) (cont : List ι → Hp → Prop), Room k A → Env0 P w K mg base A outer s H → BindsTo s fd args (ps.zip us) → Vals vs us → sp vs H cont →
    codeAny (model P w) A (.call (.ref f) args) (fun r s' => match r with | .ok (.ret u) => Born P w K mg base Rq item A outer s H cont u s' | _ => False) s
end
/-- a generator's own object -/
structure GenObj (go : Obj) (g : Nat) : Prop where
  cls : go.cls = .type "generator"
  dat : ∃ nm qn, go.data = .fields #[.int g 0, nm, qn]
  slots : go.slots = #[]
section
variable {ι : Type} {P : Program} {w : World} {K : PySem.W.Frag} {mg : Str → Option Value} {base : Heap} {Rq : Hp → Hp → Prop} {item : ι → V → Hp → Prop}
/-- THE RULE: by the runs of its body -/
theorem gdef_of {k : Nat} {f : Addr} {name qual : Str} {params : Arguments} {body : List Stmt} {scope : Scope} {dV kV doc pm cdv ct oc : Value} {an od : Option Addr} {osl : Array (Option Value)} {N ps : List Str} {sp : SpGn ι}
    (lk : K.lookup f = some ⟨oc, od, .func (PySem.W.fnOf name qual params body scope dV kV doc pm an cdv ct), osl⟩) (hcd : PySem.W.codeIn K cdv qual = true) (S : GScope N ps scope) (W : Own scope) (len : ∀ vs H cont, sp vs H cont → vs.length = ps.length)
    (hbody : ∀ (A : Around) (outer : List Env) (L : Addr) (H : Hp) (vs : List V) (cont : List ι → Hp → Prop) (a : Addr) (g lo : Nat) (go : Obj), Room k A → A.frames = some outer → L < a → GenObj go g → lo ≤ g → sp vs H cont → ∃ (xs : List ι) (Inn : Hp → Prop), cont xs H ∧ (∀ H', Rq H H' → Inn H') ∧
      ∀ (H2 : Hp) (s2 : Shared) (req : List (Addr × Obj)) (Z : End → Shared → Prop) (oL : Obj), Lies P w K mg base N qual scope f cdv A.in1 outer L (start N vs) H2 s2 → Inn H2 → s2.heap.get? a = some go → H2 a = none → g < s2.gens.size → ReqOk outer [(L, oL), (a, go)] req H2 s2 →
        Ok1 P w K mg base A outer L a g lo Inn item xs H2 s2 req Z → Go (model P w) A.in1 Z (.func body (envOfC qual scope L f cdv)) ((model P w).den (.func body (envOfC qual scope L f cdv))) [] s2) :
    GDef P w K mg base Rq item k f (PySem.W.fnOf name qual params body scope dV kV doc pm an cdv ct) ps sp := by
  refine ⟨len, fun A outer s H args us vs cont hr e0 hb r hsp => ?_⟩
  have hl := len _ _ _ hsp
  have KX : K.In s.heap := e0.mod.kin.keeps fun b o e => (e0.bs b o e).1
  have lim : s.heap.NoLimit := e0.mod.nolimit.keeps fun b o e => (e0.bs b o e).1
  have hkind : ∀ y ∈ ps.zip us, scope.names.lookup y.1 = some .local ∨ (scope.names.lookup y.1 = some .cell ∧ ((cellsFrom (s.heap.objs.size + 1) scope.names []).lookup y.1).isSome = true) := fun ⟨n, v⟩ hy => by
    rcases S.par n (List.of_mem_zip hy).1 with q | q
    · exact .inl q
    · exact absurd q (W.noc n).1
  refine codeAny_call_generator hr.depth (KX _ _ lk) rfl S.co S.gen rfl (PySem.W.codeRec_of KX hcd) (hb _ _ _ _ ?_)
  refine wpAny_newFunctionEnv_cells S.kind hkind fun env he s1 x => ?_
  subst he
  refine ⟨lim.keeps x.toInCall.keep, ?_⟩
  obtain ⟨h1, tk, es1, hk1⟩ := x.done
  have os1 : s1.os = s.os := by rw [es1]
  have gen1 : s1.gens = s.gens := by rw [es1]
  have lt1 : s.heap.objs.size < s1.heap.objs.size := x.toInCall.ns.lt
  have I1 : Inv (gcxOf P w K mg base N qual scope f cdv A outer s H (fun _ _ _ => False) []) [] (start N vs) H s1 := inv_startG S hr.hd e0 hl r x
  obtain ⟨m, ⟨oL, es, ep, hoL, hdL, hrL⟩, hloc⟩ := I1.loc
  have hoL : s1.heap.get? s.heap.objs.size = some oL := hoL
  have main : ∀ (go : Obj) (tk2 : Nat), GenObj go s1.gens.size → (∀ h : Heap, (h.push go).get? h.objs.size = some go) →
      Born P w K mg base Rq item A outer s H cont (.ref s1.heap.objs.size) { s1 with gens := s1.gens.push (.fresh (.func body (envOfC qual scope s.heap.objs.size f cdv))), toks := tk2, heap := s1.heap.push go } := by
    intro go tk2 hgo hgp
    obtain ⟨xs, Inn, hc, hinn, run⟩ := hbody A outer s.heap.objs.size H vs cont s1.heap.objs.size s1.gens.size s.gens.size go hr e0.frames lt1 hgo (by rw [gen1]; exact Nat.le_refl _) hsp
    obtain ⟨hgc, ⟨nm, qn, hgd⟩, hgs⟩ := hgo
    have k2 : ∀ b o, s1.heap.get? b = some o → (s1.heap.push go).get? b = some o := fun b o e => Heap.get?_push_of_some _ e
    refine ⟨os1, AllBare.push (by rw [gen1]; exact e0.bare) rfl, fun b o e => k2 b o (x.toInCall.keep b o e), ?_, s1.heap.objs.size, s1.gens.size, xs, [(s.heap.objs.size, oL), (s1.heap.objs.size, go)], [(s1.gens.size, .fresh (.func body (envOfC qual scope s.heap.objs.size f cdv)))], Inn, hinn, rfl, ⟨go, nm, qn, hgp _, hgc, hgd, hgs⟩, ?_, ?_, ?_, ?_, hc⟩
    · show _ ≤ (s1.heap.push go).objs.size
      rw [Heap.size_push]; omega
    · refine alive_of (go := go) hr.hd hr.depth (List.mem_cons_of_mem _ (List.mem_singleton.mpr rfl)) hgc hgd hgs (List.mem_singleton.mpr rfl) (by rw [gen1]; exact Nat.le_refl _) fun H2 s2 req Z e2 i2 f2 g2 z2 r2 ok => ?_
      have fL := f2 _ List.mem_cons_self
      have fa := f2 _ (List.mem_cons_of_mem _ (List.mem_singleton.mpr rfl))
      refine run H2 s2 req Z oL ⟨e2, e0.bsz, fun b hb => ?_, ⟨m, ⟨oL, es, ep, fL.2.1, hdL, hrL⟩, fun i y v h1 h2 h3 => ?_⟩, fL.2.2.1, I1.len⟩ i2 fa.2.1 fa.2.2.1 z2 r2 ok
      · obtain ⟨_, o, ho, _⟩ := e0.funs.mem hb
        exact Heap.lt_size ho
      · obtain ⟨u, ru, lo⟩ := hloc i y v h1 h2 h3
        refine ⟨u, ru, ?_⟩
        rcases lo with lo | ⟨k, _⟩
        · exact .inl lo
        · have k : scope.names.lookup y = some .cell ∨ scope.names.lookup y = some .free := k
          rcases k with k | k
          · exact absurd k (W.noc y).1
          · exact absurd k (W.noc y).2
    · intro q hq
      rw [List.mem_singleton.mp hq, gen1]; exact Nat.le_refl _
    · intro p hp
      rcases List.mem_cons.mp hp with rfl | hp
      · exact ⟨Nat.le_refl _, k2 _ _ hoL, e0.hok.fresh (Nat.le_refl _), fun v q => by rw [show oL.data = .dict es ep from hdL] at q; cases q⟩
      · rw [List.mem_singleton.mp hp]
        exact ⟨Nat.le_of_lt lt1, hgp _, e0.hok.fresh (Nat.le_of_lt lt1), fun v q => by rw [show go.data = _ from hgd] at q; cases q⟩
    · intro q hq
      rw [List.mem_singleton.mp hq]
      exact Array.getElem?_push_size ..
  exact main _ _ ⟨rfl, ⟨_, _, rfl⟩, rfl⟩ fun h => Heap.get?_push_size _ rfl
section
variable {X : Cx} {k : Nat} {f C : Addr} {fd : FuncData} {ps : List Str} {sp : SpGn ι} {dvs : List V} {ds : List Value} {x m : Str} {p pos pos' apos : Pos} {o : Expr} {ta : TE}
theorem run_gdef {X : Cx} {pins : List (Addr × Obj)} {σ : L2.St} {H : Hp} {s : Shared} {us : List Value} {vs : List V} {cont : List ι → Hp → Prop} {E1 : Value → Shared → Prop} (F : GDef X.prog X.w X.K X.mg X.base Rq item k f fd ps sp) (hr : Room k X.A)
    (I : Inv X pins σ H s) {kw : List (Str × Value)} {us2 : List Value} (hb : BindsTo s fd ⟨us, kw⟩ (ps.zip us2)) (r : Vals vs us2) (h : sp vs H cont) :
    codeAny (model X.prog X.w) X.A (.call (.ref f) ⟨us, kw⟩) (fun r s' => match r with
      | .ok (.ret u) => ∃ (a : Addr) (g : Nat) (s1 : Shared) (xs : List ι) (objs : List (Addr × Obj)) (gl : List (Nat × GenState)) (H1 : Hp) (Inn : Hp → Prop) (lo : Nat),
    (∀ H', Rq H1 H' → Inn H') ∧ s.gens.size ≤ lo ∧ (∀ q ∈ gl, lo ≤ q.1) ∧ u = .ref a ∧ Inv X pins σ H1 s1 ∧ Inv X pins σ H1 s' ∧ s'.heap.IsGen a g ∧ Alive X.prog X.w X.K X.mg X.base X.A X.stack s1.heap.objs.size a lo Inn item xs objs gl ∧ FootOk s1.heap.objs.size objs H1 s' ∧ GensAt gl s' ∧
    s1.heap.objs.size ≤ s'.heap.objs.size ∧ cont xs H1
      | _ => False) s := by
  refine codeAny_mono (F.run X.A X.stack s H ⟨us, kw⟩ us2 vs cont hr I.env0 hb r h) fun r s' hq => ?_
  cases r with
  | error e => exact False.elim hq
  | ok fl =>
    cases fl with
    | ret u =>
      obtain ⟨os, bare, keep, size, a, g, xs, objs, gl, Inn, h1, h2, h3, h4, h4', h5, h6, h7⟩ := hq
      exact ⟨a, g, s, xs, objs, gl, H, Inn, s.gens.size, h1, Nat.le_refl _, h4', h2, I, I.call' (ch := []) os (Un.kept keep) (I.hok.kept keep) bare (fun b z => absurd z (by simp)), h3, h4, h5, h6, size, h7⟩
    | next => exact False.elim hq
    | brk => exact False.elim hq
    | cont => exact False.elim hq
end
end
end Gx
set_option linter.all false
set_option maxHeartbeats 2000000
/-! a generator's body, statement by statement -/
namespace Gx
open PySem PySem.Spec PyProof.Rows L2 GenW

section
variable (P : Program) (w : World) (K : PySem.W.Frag) (mg : Str → Option Value) (base : Heap) (N : List Str) (qual : Str) (scope : Scope) (f : Addr) (cd : Value) (A : Around) (outer : List Env) (L a : Addr) (go : Obj)
/-- amid a run that was woken at s0: A is the around of its frame's caller -/
structure Here (H0 : Hp) (s0 : Shared) (req : List (Addr × Obj)) (σ : L2.St) (H : Hp) (s : Shared) : Prop where
  inv : Inv (gX P w K mg base N qual scope f cd A outer L (rt s0 L) (cutHp H0 L)) (req ++ [(a, go)]) σ H s
  same : Same H0 H
  from_ : ∃ σ0, Lies P w K mg base N qual scope f cd A outer L σ0 H0 s0
  pin : Pinned L outer req H0 s0
  apart : ∀ p ∈ req, p.1 ≠ a
end
section
variable {ι : Type} {P : Program} {w : World} {K : PySem.W.Frag} {mg : Str → Option Value} {base : Heap} {N : List Str} {qual : Str} {scope : Scope} {f : Addr} {cd : Value} {A : Around} {outer : List Env} {L a : Addr} {go : Obj} {item : ι → V → Hp → Prop} {Inn : Hp → Prop} {g : Nat}
theorem Here.after {H0 H : Hp} {s0 s : Shared} {req : List (Addr × Obj)} {σ : L2.St} (h : Here P w K mg base N qual scope f cd A outer L a go H0 s0 req σ H s) : After P w outer L req H0 s0 H s := by
  obtain ⟨I, sm, ⟨σ0, l0⟩, pn, _⟩ := h
  exact ⟨I.os, I.bare, I.hok, sm, un_of l0 I sm (fun p hp => List.mem_append_left _ hp) pn⟩
theorem Here.lies {H0 H : Hp} {s0 s : Shared} {req : List (Addr × Obj)} {σ : L2.St} (h : Here P w K mg base N qual scope f cd A outer L a go H0 s0 req σ H s) : Lies P w K mg base N qual scope f cd A outer L σ H s := by
  obtain ⟨I, sm, ⟨σ0, l0⟩, pn, _⟩ := h
  exact l0.of I
theorem Here.go_at {H0 H : Hp} {s0 s : Shared} {req : List (Addr × Obj)} {σ : L2.St} (h : Here P w K mg base N qual scope f cd A outer L a go H0 s0 req σ H s) : s.heap.get? a = some go ∧ H a = none ∧ ∀ v, go.data ≠ .cell v := by
  obtain ⟨z1, z2, _, _, z5⟩ := h.inv.pin (a, go) (List.mem_append_right _ (List.mem_append_right _ (List.mem_singleton.mpr rfl)))
  exact ⟨z1, z2, z5⟩
/-- woken -/
theorem Here.new {H0 : Hp} {s0 : Shared} {req objs : List (Addr × Obj)} {σ : L2.St} {oL : Obj} (W : Own scope) (hd : A.handled = none) (l0 : Lies P w K mg base N qual scope f cd A outer L σ H0 s0) (ha : s0.heap.get? a = some go) (hH : H0 a = none) (hLa : L < a) (hf : a ∉ frs outer) (hc : ∀ v, go.data ≠ .cell v)
    (hL : (L, oL) ∈ objs) {oa : Obj} (hA : (a, oa) ∈ objs) (hr : ReqOk outer objs req H0 s0) : Here P w K mg base N qual scope f cd A outer L a go H0 s0 req σ H0 s0 := by
  have pn : Pinned L outer req H0 s0 := fun p hp => by
    obtain ⟨z1, z2, z3, z4, z5⟩ := hr p hp
    exact ⟨z1, z2, fun z => z5 _ hL z.symm, z3, z4⟩
  refine ⟨l0.inv W hd fun p hp => ?_, Same.refl _, ⟨σ, l0⟩, pn, fun p hp z => (hr p hp).2.2.2.2 _ hA z.symm⟩
  rcases List.mem_append.mp hp with hp | hp
  · exact pn p hp
  · rw [List.mem_singleton.mp hp]
    exact ⟨ha, hH, Nat.ne_of_gt hLa, hf, hc⟩
/-- a step: the same run further on -/
theorem Here.on {H0 H H' : Hp} {s0 s s' : Shared} {req : List (Addr × Obj)} {σ σ' : L2.St} (h : Here P w K mg base N qual scope f cd A outer L a go H0 s0 req σ H s) (I : Inv (gX P w K mg base N qual scope f cd A outer L (rt s0 L) (cutHp H0 L)) (req ++ [(a, go)]) σ' H' s') (sm : Same H H') :
    Here P w K mg base N qual scope f cd A outer L a go H0 s0 req σ' H' s' := ⟨I, h.same.trans sm, h.from_, h.pin, h.apart⟩
/-- the frame's object, to sleep by -/
theorem Here.frame {H0 H : Hp} {s0 s : Shared} {req : List (Addr × Obj)} {σ : L2.St} (h : Here P w K mg base N qual scope f cd A outer L a go H0 s0 req σ H s) : ∃ oL, s.heap.get? L = some oL ∧ (∀ v, oL.data ≠ .cell v) ∧ H L = none ∧
    (∀ (H2 : Hp) (s2 : Shared), Env0 P w K mg base A outer s2 H2 → s2.heap.get? L = some oL → H2 L = none → Own scope → Lies P w K mg base N qual scope f cd A outer L σ H2 s2) := by
  obtain ⟨e0, bL, lt, ⟨m, ⟨oL, es, ep, hoL, hdL, hrL⟩, hl⟩, free, len⟩ := h.lies
  refine ⟨oL, hoL, fun v q => (by rw [hdL] at q; cases q), free, fun H2 s2 e2 o2 f2 W => ⟨e2, bL, lt, ⟨m, ⟨oL, es, ep, o2, hdL, hrL⟩, fun i x v h1 h2 h3 => ?_⟩, f2, len⟩⟩
  obtain ⟨u, ru, lo⟩ := hl i x v h1 h2 h3
  refine ⟨u, ru, ?_⟩
  rcases lo with lo | ⟨k, _⟩
  · exact .inl lo
  · have k : scope.names.lookup x = some .cell ∨ scope.names.lookup x = some .free := k
    rcases k with k | k
    · exact absurd k (W.noc x).1
    · exact absurd k (W.noc x).2
section
variable {Z : End → Shared → Prop} {c : Code} {fs : List Frame} {X : Cx} {pins : List (Addr × Obj)} {σ : L2.St} {H : Hp} {s : Shared} {Kf : Flow → Sem PySem.Fin} {J : Value → Sem PySem.Fin} {gd : Bool → Bool} {lv : List Value → List Value} {st : Stmt} {rest : List Stmt}
/-- a plain statement, others awake -/
theorem go_ps {Ax : Around} {t : TS} {Nx : L2.St → Hp → Prop} (hx : ∀ e s, X.xe e s → False) (hA : Ax.over c fs = X.A) (h : PS X st t) (I : Inv X pins σ H s) (ht : t { nx := Nx, rt := fun _ _ => False } σ H)
    (k : ∀ σ' H' s', Inv X pins σ' H' s' → Nx σ' H' → Go (model X.prog X.w) Ax Z c ((execs rest X.env).wrap Kf J gd lv) fs s') : Go (model X.prog X.w) Ax Z c ((execs (st :: rest) X.env).wrap Kf J gd lv) fs s := by
  refine go_execs_cons (go_wrap ?_)
  rw [hA]
  refine wpAny_mono (h.run pins s σ H _ I ht) (fun fl s' q => ?_) fun e s' q => hx e s' q
  cases fl with
  | next => obtain ⟨σ', H', I', q⟩ := q; exact k σ' H' s' I' q
  | brk => obtain ⟨_, _, _, q⟩ := q; exact q.elim
  | cont => obtain ⟨_, _, _, q⟩ := q; exact q.elim
  | ret u => obtain ⟨_, _, _, _, _, q⟩ := q; exact q.elim
/-- .. and how many generators there are -/
theorem go_psZ {Ax : Around} {t : TS} {Nx : L2.St → Hp → Prop} (hx : ∀ e s, X.xe e s → False) (hA : Ax.over c fs = X.A) (h : PS X st t) (I : Inv X pins σ H s) (ht : t { nx := Nx, rt := fun _ _ => False } σ H)
    (k : ∀ σ' H' s', Inv X pins σ' H' s' → s.gens.size ≤ s'.gens.size → Nx σ' H' → Go (model X.prog X.w) Ax Z c ((execs rest X.env).wrap Kf J gd lv) fs s') : Go (model X.prog X.w) Ax Z c ((execs (st :: rest) X.env).wrap Kf J gd lv) fs s := by
  refine go_execs_cons (go_wrap ?_)
  rw [hA]
  refine wpAny_gsz (Nat.le_refl _) (wpAny_mono (h.run pins s σ H _ I ht) (fun fl s' q hz => ?_) fun e s' q => (hx e s' q).elim)
  cases fl with
  | next => obtain ⟨σ', H', I', q⟩ := q; exact k σ' H' s' I' hz q
  | brk => obtain ⟨_, _, _, q⟩ := q; exact q.elim
  | cont => obtain ⟨_, _, _, q⟩ := q; exact q.elim
  | ret u => obtain ⟨_, _, _, _, _, q⟩ := q; exact q.elim
end
end
end Gx
set_option maxHeartbeats 1000000
/-! zip of two walks of any kind; then zip(a tuple, a list) -/
namespace Lz
open PySem PySem.Spec PyProof.Rows L2
/-- how one of the two is walked -/
structure Kind2 where
  It : Heap → Addr → Addr → Nat → Prop
  Src : Heap → Addr → Array Value → Prop
  obj : ∀ {h it l k}, It h it l k → ∃ o, h.get? it = some o ∧ ∀ v, o.data ≠ .cell v
  mvIt : ∀ {h h' it l k}, It h it l k → (∀ o, h.get? it = some o → h'.get? it = some o) → It h' it l k
  mvSrc : ∀ {h h' l xs}, Src h l xs → (∀ o, h.get? l = some o → h'.get? l = some o) → Src h' l xs
  item : ∀ {prog : Program} {w : World} {A : Around} {E : Value → Shared → Prop} {s : Shared} {it l : Addr} {i : Nat} {xs : Array Value} {x : Value} {Q : Value → Shared → Prop}, It s.heap it l i → Src s.heap l xs → xs[i]? = some x →
    (∀ h', It h' it l (i + 1) → Heap.SameBut it s.heap h' → Q x { s with heap := h' }) → wpAny (model prog w) A (Builtin.SmallTypes.nextOf (.ref it)) Q E s
  fin : ∀ {prog : Program} {w : World} {A : Around} {E : Value → Shared → Prop} {s : Shared} {it l : Addr} {i : Nat} {xs : Array Value} {Q : Value → Shared → Prop}, A.handled = none → It s.heap it l i → Src s.heap l xs → xs[i]? = none →
    (∀ h' e, Heap.ExtBut it s.heap h' → (∃ o, h'.get? e = some o ∧ o.cls = .type "StopIteration") → E (.ref e) { s with heap := h' }) → wpAny (model prog w) A (Builtin.SmallTypes.nextOf (.ref it)) Q E s
section
variable {prog : Program} {w : World} {A : Around} {E : Value → Shared → Prop} {s : Shared} {z TI TO i1 i2 l1 l2 : Addr} {k1 k2 : Nat} {xs ys : Array Value} {x y a b : Value} (U V : Kind2)
end
end Lz
set_option maxHeartbeats 1000000
namespace Lz
open PySem PySem.Spec PyProof.Rows L2
section
variable {prog : Program} {w : World} {A : Around} {E : Value → Shared → Prop} {s : Shared} {z TI TO i1 i2 l1 l2 : Addr} {k1 k2 : Nat} {xs ys : Array Value} {x y a b : Value} (U V : Kind2)
end
/-! ### zip(a tuple, a list) is made -/
abbrev m1 (h : Heap) (l1 : Addr) : Heap := h.push { cls := .type "tuple_iterator", data := .fields #[.ref l1, .int 0 0] }
abbrev m2 (h : Heap) (l1 l2 : Addr) : Heap := (m1 h l1).push { cls := .type "list_iterator", data := .fields #[.ref l2, .int 0 0] }
abbrev m3 (h : Heap) (l1 l2 : Addr) : Heap := (m2 h l1 l2).push { cls := .type "tuple", data := .seq #[.ref h.objs.size, .ref (m1 h l1).objs.size] }
abbrev m4 (h : Heap) (l1 l2 : Addr) : Heap := (m3 h l1 l2).push { cls := .type "tuple", data := .seq #[.none, .none] }
abbrev m5 (h : Heap) (l1 l2 : Addr) : Heap := (m4 h l1 l2).push { cls := .type "zip", data := .fields #[.none, .bool false, .bool false, .ref (m2 h l1 l2).objs.size, .ref (m3 h l1 l2).objs.size] }
section
variable {prog : Program} {w : World} {A : Around} {E : Value → Shared → Prop} {s : Shared}
end
/-! ### its turns -/
end Lz
set_option maxHeartbeats 1000000
/-! {k: v for ..} with tuples as keys -/
namespace Lz
open PySem PySem.Spec PyProof.Rows L2
section
variable {X : Cx}
variable {kx vx tg iter : Expr} {ifs : List Expr} {scope : Scope} {own : List (Str × Nat)} {pos : Pos} {wi : TI} {g : TG} {tt : TT} {tk tv : TE}
end
end Lz
/-! set(xs) and len(set(xs)) of a list of texts, any of them, below the scanned bound -/
namespace WbSet
open PySem PySem.Spec PyProof.Rows
/-- the different ones, by their first places -/
def addNew (acc : List Str) (x : Str) : List Str := if x ∈ acc then acc else acc ++ [x]
def differ (xs : List Str) : List Str := xs.foldl addNew []
theorem addNew_mem (acc : List Str) (x k : Str) : k ∈ addNew acc x ↔ k ∈ acc ∨ k = x := by
  unfold addNew
  by_cases h : x ∈ acc
  · rw [if_pos h]
    exact ⟨.inl, fun q => q.elim id fun e => e ▸ h⟩
  · rw [if_neg h, List.mem_append, List.mem_singleton]
theorem addNew_len (acc : List Str) (x : Str) : (addNew acc x).length = if x ∈ acc then acc.length else acc.length + 1 := by
  unfold addNew
  by_cases h : x ∈ acc
  · rw [if_pos h, if_pos h]
  · rw [if_neg h, if_neg h, List.length_append] <;> rfl
theorem differ_more (xs : List Str) (x : Str) : differ (xs ++ [x]) = addNew (differ xs) x := by
  unfold differ
  rw [List.foldl_append] <;> rfl
theorem fold_le : ∀ (xs acc : List Str), (xs.foldl addNew acc).length ≤ acc.length + xs.length
  | [], acc => Nat.le_refl _
  | x :: r, acc => by
    have h1 := fold_le r (addNew acc x)
    have h2 : (addNew acc x).length ≤ acc.length + 1 := by rw [addNew_len]; split <;> omega
    show (r.foldl addNew (addNew acc x)).length ≤ acc.length + (r.length + 1)
    omega
theorem differ_le (xs : List Str) : (differ xs).length ≤ xs.length := by
  have h := fold_le xs []
  show (xs.foldl addNew []).length ≤ xs.length
  simpa using h
/-- what the set at a holds behind the first i -/
def Has (P : Program) (w : World) (h : Heap) (a : Addr) (ys : List Str) : Prop := h.SetOf (strKind P w) a (fun k => decide (k ∈ ys)) ys.length
section
variable {prog : Program} {w : World} {A : Around} {R : Result → Shared → Prop} {I : Addr} {fp wr : List Addr} {G : Array GenState → Array GenState → Prop} {n : Nat} {P : Nat → Value → Prop} {St : Nat → Shared → Prop}
theorem Has.keep {h h' : Heap} {a : Addr} {ys : List Str} (q : Has prog w h a ys) (k : ∀ o, h.get? a = some o → h'.get? a = some o) : Has prog w h' a ys := by
  obtain ⟨o, es, ep, t, ho, r⟩ := q
  exact ⟨o, es, ep, t, k o ho, r⟩
theorem Has.more {h : Heap} {a : Addr} {ys : List Str} {x : Str} (q : h.SetOf (strKind prog w) a (fun j => decide (j ∈ ys) || decide (j = x)) (if decide (x ∈ ys) = true then ys.length else ys.length + 1)) : Has prog w h a (addNew ys x) := by
  refine SetOf_congr q (fun k => ?_) ?_
  · rw [← Bool.decide_or]
    exact decide_eq_decide.mpr (addNew_mem ys x k).symm
  · rw [addNew_len]
    by_cases e : x ∈ ys
    · rw [if_pos e, if_pos (decide_eq_true e)]
    · rw [if_neg e, if_neg (fun z => e (of_decide_eq_true z))]
theorem turns (W : WalksS prog w A.in1 I fp wr G n P St) (T : Addr) (nT : T ∉ fp) (xs : List Str) (lx : xs.length = n) (few : n + 1 < scanBound) (told : ∀ i v, P i v → ∃ x t, xs[i]? = some x ∧ v = .str x t) :
    ∀ (left i : Nat) (s : Shared), n - i = left → i ≤ n → St i s → Has prog w s.heap T (differ (xs.take i)) →
      (∀ s', Moved (T :: wr) G s s' → Has prog w s'.heap T (differ xs) → R (.ok (.ret .none)) s') → codeAny (model prog w) A (.builtin "set.update.loop" ⟨[.ref T, .ref I], []⟩) R s := by
  have nTw : T ∉ wr := fun q => nT (W.sub _ q)
  have wider : ∀ b ∈ wr, b ∈ T :: wr := fun _ q => List.mem_cons_of_mem _ q
  intro left
  induction left with
  | zero =>
    intro i s e1 e2 hst has fin
    obtain rfl : i = n := by omega
    refine codeAny_builtin PyProof.Rows.F.entry_set_update_loop ?_ ; rw [Around.under_plainId PyProof.Rows.F.plain_set_update_loop _]
    show wpAny _ A.in1 (pyNext (.ref I) >>= _) _ _ s ; refine wpAny_bind (W.done s _ _ hst fun s1 mv => ?_)
    show wpAny _ A.in1 (ret Value.none) _ _ s1
    refine wpAny_pure (fin s1 (mv.mono wider) ?_)
    rw [← lx, List.take_length] at has
    exact has.keep fun o e => mv.heap T o nTw e
  | succ left ih =>
    intro i s e1 e2 hst has fin
    have lt : i < n := by omega
    refine codeAny_builtin PyProof.Rows.F.entry_set_update_loop ?_ ; rw [Around.under_plainId PyProof.Rows.F.plain_set_update_loop _]
    show wpAny _ A.in1 (pyNext (.ref I) >>= _) _ _ s ; refine wpAny_bind (W.item i s _ _ lt hst fun v s1 hP hst1 mv => ?_)
    obtain ⟨x, t, hx, rfl⟩ := told i v hP
    have has1 : Has prog w s1.heap T (differ (xs.take i)) := has.keep fun o e => mv.heap T o nTw e
    have room : (differ (xs.take i)).length + 1 < scanBound := by
      have := differ_le (xs.take i)
      rw [List.length_take] at this
      omega
    have step : differ (xs.take (i + 1)) = addNew (differ (xs.take i)) x := by
      rw [← differ_more, List.take_add_one, hx] <;> rfl
    show wpAny _ A.in1 (holding [Value.str x t] (setAdd T (.str x t)) >>= _) _ _ s1 ; refine wpAny_bind (wpAny_holding ?_)
    unfold setAdd ; refine wpAny_holding (wpAny_bind ((strKind prog w).pyHash (k := x) (strKind_is _ _ _ _) ?_))
    refine wpAny_setAddHashed_of (knd := strKind prog w) (s := { s1 with toks := s1.toks + 1 }) (strKind_is _ _ _ _) rfl has1 room fun h2 but new => ?_
    have has2 : Has prog w h2 T (differ (xs.take (i + 1))) := by rw [step]; exact Has.more new
    refine wpAny_pure ⟨plainId_quiet PyProof.Rows.F.plain_set_update_loop _, ih (i + 1) _ (by omega) lt (W.frame _ s1 _ _ hst1 (Nat.le_succ _) fun b hb o e => ?_) has2 fun s2 mv2 has3 => fin s2 (Moved.trans W.gtrans ((mv.mono wider).then_heap (Nat.le_succ _) fun b o hb e => ?_) mv2) has3⟩
    · rw [but.2 b fun q => nT (q ▸ hb)] ; exact e
    · rw [but.2 b fun q => hb (q ▸ List.mem_cons_self)] ; exact e
end
section
variable {prog : Program} {w : World} {A : Around} {E : Value → Shared → Prop} {s : Shared}
theorem strs_told : ∀ {vs : List Value} {xs : List Str}, StrsAre vs xs → ∀ (i : Nat) (v : Value), vs[i]? = some v → ∃ x t, xs[i]? = some x ∧ v = .str x t
  | _, _, .nil, i, v, h => by simp at h
  | _, _, .cons x t r, 0, v, h => ⟨x, t, rfl, by simp at h; exact h.symm⟩
  | _, _, .cons x t r, i + 1, v, h => by
    simp only [List.getElem?_cons_succ] at h ⊢
    exact strs_told r i v h
/-- the set object that set() makes first -/
abbrev setO (led : Bool) : Obj := { cls := .type "set", dict := none, data := .set #[] 0 (.fresh 0 0 led) }
set_option maxHeartbeats 3200000 in
theorem call_set {l : Addr} {items : Array Value} {xs : List Str} {Q : Value → Shared → Prop} (calm : A.handled = none) (il : s.heap.IsList l items) (told : StrsAre items.toList xs) (few : xs.length + 1 < scanBound)
    (k : ∀ (h' : Heap) (tk : Nat), Has prog w h' s.heap.objs.size (differ xs) → (∀ b o, b < s.heap.objs.size → s.heap.get? b = some o → h'.get? b = some o) → Q (.ref s.heap.objs.size) { s with heap := h', toks := tk }) :
    wpAny (model prog w) A (call (.type "set") [.ref l]) Q E s := by
  obtain ⟨c, tl, mro⟩ := PySem.F.called_set.mro
  have f1 := PySem.F.called_set.made
  have f2 := PySem.F.called_set.sub
  refine wpAny_call (codeAny_of_tree ?_) ; show wpAny _ _ (callAny (.type "set") _) _ _ _
  refine wpAny_pure ⟨Code.quiet_builtin _ (by decide +kernel), codeAny_builtin PySem.F.entry_type_call ?_⟩ ; rw [Around.under_plain (weight_type_call_type "set" [.ref l] []) rfl]
  have f3 := PySem.F.called_set.notType
  have f4 := PySem.F.called_set.canCreate
  have f5 := PySem.F.typeCall_set_1 (.ref l)
  repeat (any_goals (first | assumption | wp_step))
  refine codeAny_mono (code_set_new_1 (.ref l) (E := E) (Q₁ := fun v s1 => ∃ led : Bool, v = .ref s.heap.objs.size ∧ s1 = { s with heap := s.heap.push (setO led) }) fun led => ⟨led, rfl, rfl⟩) fun r s1 hr => ?_
  cases r with
  | error e => exact hr
  | ok fl =>
    cases fl with
    | ret v =>
      obtain ⟨led, rfl, rfl⟩ := hr
      have g1 : (s.heap.push (setO led)).get? s.heap.objs.size = some (setO led) := Heap.get?_push_size _ rfl
      have g2 : Shared.TypeIs { s with heap := s.heap.push (setO led) } (.ref s.heap.objs.size) "set" := ⟨_, g1, rfl⟩
      have f6 := PySem.F.called_set.init.lookup
      have f7 := PySem.F.called_set.init.bind (.ref s.heap.objs.size)
      repeat (any_goals (first | assumption | wp_step))
      refine codeAny_mono (codeAny_call_builtin (R := wants (fun r s2 => r = .none ∧ ∃ h' tk, s2 = { s with heap := h', toks := tk } ∧ Has prog w h' s.heap.objs.size (differ xs) ∧ (∀ b o, b < s.heap.objs.size → s.heap.get? b = some o → h'.get? b = some o)) E) PySem.F.called_set.init.plain PySem.F.entry_set_init (check_set_init_1 g2 ?_)) fun r2 s2 hr2 => ?_
      · obtain ⟨⟨oc, od, dt, sl⟩, ho, hc, nl, hd⟩ := il
        simp only at hc hd
        subst hc hd
        have g3 : (s.heap.push (setO led)).get? l = some { cls := .type "list", dict := od, data := .seq items nl, slots := sl } := Heap.get?_push_of_some _ ho
        have f8 := PySem.F.sub_list_set
        have f9 := PySem.F.sub_list_frozenset
        have f10 : (Value.type "list" == Value.type "dict") = false := by decide
        have il1 : (s.heap.push (setO led)).IsList l items := ⟨_, g3, rfl, nl, rfl⟩
        unfold Builtin.«set.__init__» noKeywords Builtin.Frozenset.updateFrom
        generalize hit : pyIter = it
        wp_walk
        subst hit
        refine wpAny_pyIter_list il1 (wpAny_bind (wpAny_runValue ?_))
        have lt : l < s.heap.objs.size := Heap.lt_size ho
        have calm3 : A.in1.in1.in1.handled = none := by simp [calm]
        have sz : (s.heap.push (setO led)).objs.size = s.heap.objs.size + 1 := Heap.size_push _ _
        have ne1 : l ≠ (s.heap.push (setO led)).objs.size := by rw [sz]; exact Nat.ne_of_lt (Nat.lt_succ_of_lt lt)
        have ne2 : s.heap.objs.size ∉ [(s.heap.push (setO led)).objs.size, l] := by
          intro q
          rcases List.mem_cons.mp q with q | q
          · rw [sz] at q; exact absurd q (Nat.ne_of_lt (Nat.lt_succ_self _))
          · exact absurd (List.mem_singleton.mp q) (Nat.ne_of_gt lt)
        have lx : xs.length = items.size := by rw [← StrsAre.len_eq told, Array.length_toList]
        refine turns ((Walks.list calm3 _ l ne1 items).toS) s.heap.objs.size ne2 xs lx (by rw [← lx]; exact few) (fun i v hv => strs_told told i v (by rw [Array.getElem?_toList]; exact hv)) (items.size - 0) 0 _ (by omega) (Nat.zero_le _) ⟨⟨_, Heap.get?_push_size _ rfl, rfl, rfl⟩, (il1.push _)⟩ ?start ?fin
        case start =>
          have g4 : ((s.heap.push (setO led)).push { cls := .type "list_iterator", data := .fields #[.ref l, .int 0 0] }).get? s.heap.objs.size = some (setO led) := Heap.get?_push_of_some _ g1
          exact SetOf_congr ((setObjOf_fresh (knd := strKind prog w) led).setOf g4 (by unfold scanBound; omega)) (fun _ => rfl) rfl
        case fin =>
          intro s3 mv has
          obtain ⟨h3, g3', d3, tk3, os3⟩ := s3
          obtain rfl : g3' = s.gens := mv.gens
          obtain rfl : d3 = s.drawn := mv.drawn
          obtain rfl : os3 = s.os := mv.os
          show wpAny _ _ _ _ _ _ ; refine wpAny_pure ?_ ; show wpAny _ _ (ret Value.none) _ _ _
          refine wpAny_pure ⟨rfl, h3, tk3, rfl, has, fun b o hb e => mv.heap b o ?_ (Heap.get?_push_of_some _ (Heap.get?_push_of_some _ e))⟩
          intro q
          rcases List.mem_cons.mp q with q | q
          · exact absurd q (Nat.ne_of_lt hb)
          · have q2 := List.mem_singleton.mp q
            rw [sz] at q2
            exact absurd q2 (Nat.ne_of_lt (Nat.lt_succ_of_lt hb))
      · cases r2 with
        | error e => exact hr2
        | ok fl2 =>
          cases fl2 with
          | ret r =>
            obtain ⟨rfl, h', tk, rfl, has, kept⟩ := hr2
            repeat (any_goals (first | assumption | wp_step))
            exact k _ _ has kept
          | _ => exact hr2.elim
    | _ => exact hr.elim
end
end WbSet
namespace WbSet
open PySem PySem.Spec PyProof.Rows L2
variable {X : Cx}
/-- len(set(xs)), xs a list of texts -/
def tLenSet (K : PySem.W.Frag) (ta : TE) : TE := fun σ H Q => ta σ H fun x H1 => ∃ l, ∃ xs : List Str, x = .ref l ∧ SqL K H1 l (xs.map V.str) ∧ xs.length ≤ 4000 ∧ Q (.int (differ xs).length) H1
theorem pe_lenSet {a : Expr} {ta : TE} {p p2 q pos : Pos} (hc : X.calm = true) (hg : Gl X "len") (hm : X.mg "len" = none) (hg2 : Gl X "set") (hm2 : X.mg "set" = none) (ha : PE X a ta)
    (na : starEach [a] X.env = (false, eval a X.env) :: starEach [] X.env := by rfl) : PE X (.Call (.Name "len" p) [.Call (.Name "set" p2) [a] [] q] [] pos) (tLenSet X.K ta) := by
  refine ⟨fun pins s σ H Q I h => Call_ (ld_blt I hg hm boot_len ?_)⟩
  refine callWith_builtin1 (args_cons (Call_ (ld_blt I hg2 hm2 boot_set ?_)) rfl) rfl rfl
  refine callWith_type1 (args_cons (thn (ha.run pins s σ H _ I h) fun v s1 ⟨x, H1, I1, r1, q1⟩ => args_nil ?_) na) na rfl
  obtain ⟨l, xs, rfl, hq, few, q1⟩ := q1
  cases r1
  obtain ⟨its, r, pl, hz⟩ := I1.list hq
  refine call_set (I1.ok.hd hc) pl.isList (by simpa using strsAre_of r) (by unfold scanBound; omega) fun h' tk has kept => args_nil ?_
  obtain ⟨o, es, ep, t, ho, hex, hd, _, _, _, hf, hn⟩ := has
  have I2 : Inv X pins σ H1 { s1 with heap := h', toks := tk } := I1.kept fun b o e => kept b o (Heap.lt_size e) e
  have le := differ_le xs
  exact call_len_set ho hex hd hf (by rw [hn]; omega) ⟨.int (differ xs).length, H1, I2.tok _, ⟨_, by rw [hn]⟩, q1⟩
end WbSet
/-! sorted of a text, of a tuple of texts; len(set(z)) of a text -/
namespace WbS
open PySem PySem.Spec PyProof.Rows L2
section
variable {X : Cx}
def sOne (c : Nat) : Str := ⟨#[c]⟩
/-- a new list of these texts, sorted -/
theorem sort_new {pins : List (Addr × Obj)} {σ : L2.St} {H : Hp} {s : Shared} {Q : VK} {us : List Value} {ks : List Str} (I : Inv X pins σ H s) (hS : StrsAre us ks) (h64 : ks.length < 64) (q : ∀ ys p, ys.Perm ks → sortedS ys = true → H p = none → Q (.ref p) (upd H p (.lst (ys.map V.str)))) :
    wpAny (model X.prog X.w) X.A.in1 (newList us >>= fun l => holding [l] (call (.builtin "list.sort") [l] []) >>= fun _ => ret l) (fun fin s' => ∃ v, fin = .done (.ret v) ∧ ∃ x H', Inv X pins σ H' s' ∧ RelV x v ∧ Q x H') X.xe s := by
  have hal : us.length = ks.length := hS.len_eq
  refine wpAny_bind (wpAny_newList ?_ (by rw [hal, sizeLine_eq]; omega))
  have hoL : (s.heap.push (seqObj "list" us.toArray 0)).get? s.heap.objs.size = some (seqObj "list" us.toArray 0) := Heap.get?_push_size _ rfl
  show wpAny _ _ _ _ _ { s with heap := s.heap.push (seqObj "list" us.toArray 0) }
  refine wpAny_bind (wpAny_holding (wpAny_call_entry PyProof.Rows.slot_list_sort ⟨_, hoL, rfl⟩ PyProof.Rows.entry_list_sort
    (list_sort_treeK strKind_oneLt (s := { s with heap := s.heap.push (seqObj "list" us.toArray 0) }) hoL hS.keysOf (fun v₁ v₂ rest e => keyKind_strs (by rw [← e]; exact hS)) (by rw [hal]; exact h64) fun st' hp hs => ⟨_, rfl, ?_⟩)
    (PyProof.Rows.args_list_sort _)))
  obtain ⟨ys, g1, g2, g3⟩ := sorted_out_str hS hp hs
  obtain ⟨e', he'⟩ := PyProof.Rows.sortedHeap_at (vs := us) (out := (arrOf st').map (·.2)) hoL
  have hlen : (ys.map V.str).length ≤ sizeLine := by
    rw [List.length_map, g2.length_eq]
    exact Nat.le_trans (Nat.le_of_lt h64) (by decide)
  refine wpAny_pure ⟨_, rfl, .ref s.heap.objs.size, upd H s.heap.objs.size (.lst (ys.map V.str)), I.laid (t' := s.toks) (fun b u e => ?_) (Nat.le_refl _)
    (show ObjOk X.prog X.w _ _ _ (.lst (ys.map V.str)) from ⟨hlen, ((arrOf st').map (·.2)).toList, e', vals_of_strs g1, by rw [Array.toArray_toList]; exact he'⟩), rfl, q ys _ g2 g3 (I.hok.fresh (Nat.le_refl _))⟩
  have hb : b < s.heap.objs.size := Heap.lt_size e
  rw [PyProof.Rows.sortedHeap_old (Nat.ne_of_lt hb) (by rw [size_push']; exact Nat.lt_succ_of_lt hb)]
  exact Heap.get?_push_of_some _ e
theorem call_sortedTx (hcalm : X.calm = true) : CallR X (.builtin "sorted") (fun xs H Q => ∃ z : Str, xs = [.str z] ∧ z.length < 64 ∧ ∀ ys p, ys.Perm (z.cps.toList.map sOne) → sortedS ys = true → H p = none → Q (.ref p) (upd H p (.lst (ys.map V.str)))) := by
  intro pins s σ H xs us Q I r q
  obtain ⟨z, rfl, h64, q⟩ := q
  obtain ⟨u, rfl, t, rfl⟩ := vals1 r
  have h16 : z.cps.size ≤ sizeLine := by
    have : z.cps.size < 64 := h64
    rw [sizeLine_eq]; omega
  refine Calls.call_function_entry PyProof.Rows.kind_sorted PyProof.Rows.plain_sorted PyProof.Rows.entry_sorted (PyProof.Rows.args_sorted1 _) ?_
  unfold Builtin.«sorted»
  refine wpAny_bind (m := checkCount "sorted" 1 1 _) (wpAny_pure ?_)
  refine wpAny_bind (wpAny_collect_str (A := X.A.in1) (I.ok.hd hcalm) z t (fun s' acc hk e1 e2 e3 hacc => ?_) h16)
  obtain ⟨h', g', d', tk, os'⟩ := s'
  obtain rfl : g' = s.gens := e1
  obtain rfl : d' = s.drawn := e2
  obtain rfl : os' = s.os := e3
  have hS : StrsAre acc.toList (z.cps.toList.map sOne) := strs_at (by rw [Array.length_toList, hacc.1, List.length_map, Array.length_toList]) fun j v e => by
    obtain ⟨c, u, a1, a2⟩ := hacc.2 j v (by rw [← Array.getElem?_toList]; exact e)
    exact ⟨sOne c, u, by rw [List.getElem?_map, Array.getElem?_toList, a1] <;> rfl, a2⟩
  have I1 : Inv X pins σ H { s with heap := h', toks := tk } := I.kept hk
  exact sort_new I1 hS (by rw [List.length_map, Array.length_toList]; exact h64) q
theorem call_sortedTup : CallR X (.builtin "sorted") (fun xs H Q => ∃ (a : Addr) (ks : List Str), xs = [.ref a] ∧ SqT X.K H a (ks.map V.str) ∧ ks.length < 64 ∧ ∀ ys p, ys.Perm ks → sortedS ys = true → H p = none → Q (.ref p) (upd H p (.lst (ys.map V.str)))) := by
  intro pins s σ H xs us Q I r q
  obtain ⟨a, ks, rfl, hq, h64, q⟩ := q
  rw [Vals.ref1 r]
  obtain ⟨its, rv, ⟨o, ho, hc, n, hd⟩, hz⟩ := I.tuple hq
  have hS : StrsAre its ks := rv.strs
  have hl : its.length = ks.length := hS.len_eq
  refine Calls.call_function_entry PyProof.Rows.kind_sorted PyProof.Rows.plain_sorted PyProof.Rows.entry_sorted (PyProof.Rows.args_sorted1 _) ?_
  unfold Builtin.«sorted»
  refine wpAny_bind (m := checkCount "sorted" 1 1 _) (wpAny_pure ?_)
  refine wpAny_bind (wpAny_collect_seq (A := X.A.in1) a (.inr rfl) ho hc hd (fun h' hk => ?_) (by rw [List.size_toArray, hl, sizeLine_eq]; omega))
  have I1 : Inv X pins σ H { s with heap := h' } := I.kept (t' := s.toks) hk
  exact sort_new I1 hS h64 q
end
end WbS
namespace WbSet
open PySem PySem.Spec PyProof.Rows
def signs (x : Str) : List Str := x.cps.toList.map fun c => ⟨#[c]⟩
theorem signs_told {x : Str} {i : Nat} {v : Value} (h : SignAt x i v) : ∃ y t, (signs x)[i]? = some y ∧ v = .str y t := by
  obtain ⟨c, u, e1, e2⟩ := h
  refine ⟨⟨#[c]⟩, u, ?_, e2⟩
  unfold signs
  rw [List.getElem?_map, Array.getElem?_toList, e1] <;> rfl
section
variable {prog : Program} {w : World} {A : Around} {E : Value → Shared → Prop} {s : Shared}
set_option maxHeartbeats 3200000 in
theorem call_setT {x : Str} {u : Tok} {Q : Value → Shared → Prop} (calm : A.handled = none) (few : x.cps.size + 1 < scanBound)
    (k : ∀ (h' : Heap) (tk : Nat), Has prog w h' s.heap.objs.size (differ (signs x)) → (∀ b o, b < s.heap.objs.size → s.heap.get? b = some o → h'.get? b = some o) → Q (.ref s.heap.objs.size) { s with heap := h', toks := tk }) :
    wpAny (model prog w) A (call (.type "set") [.str x u]) Q E s := by
  obtain ⟨c, tl, mro⟩ := PySem.F.called_set.mro
  have f1 := PySem.F.called_set.made
  have f2 := PySem.F.called_set.sub
  refine wpAny_call (codeAny_of_tree ?_) ; show wpAny _ _ (callAny (.type "set") _) _ _ _
  refine wpAny_pure ⟨Code.quiet_builtin _ (by decide +kernel), codeAny_builtin PySem.F.entry_type_call ?_⟩ ; rw [Around.under_plain (weight_type_call_type "set" [.str x u] []) rfl]
  have f3 := PySem.F.called_set.notType
  have f4 := PySem.F.called_set.canCreate
  have f5 := PySem.F.typeCall_set_1 (.str x u)
  repeat (any_goals (first | assumption | wp_step))
  refine codeAny_mono (code_set_new_1 (.str x u) (E := E) (Q₁ := fun v s1 => ∃ led : Bool, v = .ref s.heap.objs.size ∧ s1 = { s with heap := s.heap.push (setO led) }) fun led => ⟨led, rfl, rfl⟩) fun r s1 hr => ?_
  cases r with
  | error e => exact hr
  | ok fl =>
    cases fl with
    | ret v =>
      obtain ⟨led, rfl, rfl⟩ := hr
      have g1 : (s.heap.push (setO led)).get? s.heap.objs.size = some (setO led) := Heap.get?_push_size _ rfl
      have g2 : Shared.TypeIs { s with heap := s.heap.push (setO led) } (.ref s.heap.objs.size) "set" := ⟨_, g1, rfl⟩
      have f6 := PySem.F.called_set.init.lookup
      have f7 := PySem.F.called_set.init.bind (.ref s.heap.objs.size)
      repeat (any_goals (first | assumption | wp_step))
      refine codeAny_mono (codeAny_call_builtin (R := wants (fun r s2 => r = .none ∧ ∃ h' tk, s2 = { s with heap := h', toks := tk } ∧ Has prog w h' s.heap.objs.size (differ (signs x)) ∧ (∀ b o, b < s.heap.objs.size → s.heap.get? b = some o → h'.get? b = some o)) E) PySem.F.called_set.init.plain PySem.F.entry_set_init (check_set_init_1 g2 ?_)) fun r2 s2 hr2 => ?_
      · have f8 := PySem.F.sub_str_set
        have f9 := PySem.F.sub_str_frozenset
        have f10 : (Value.type "str" == Value.type "dict") = false := by decide
        unfold Builtin.«set.__init__» noKeywords Builtin.Frozenset.updateFrom
        generalize hit : pyIter = it
        wp_walk
        subst hit
        refine wpAny_pyIter_str fun o St W hst => (wpAny_bind (wpAny_runValue ?_))
        have calm3 : A.in1.in1.in1.handled = none := by simp [calm]
        have sz : (s.heap.push (setO led)).objs.size = s.heap.objs.size + 1 := Heap.size_push _ _
        have ne2 : s.heap.objs.size ∉ [(s.heap.push (setO led)).objs.size] := by
          intro q
          have q := List.mem_singleton.mp q
          rw [sz] at q; exact absurd q (Nat.ne_of_lt (Nat.lt_succ_self _))
        have lx : (signs x).length = x.cps.size := by unfold signs; rw [List.length_map, Array.length_toList]
        refine turns ((W _ calm3).toS) s.heap.objs.size ne2 (signs x) lx few (fun i v hv => signs_told hv) (x.cps.size - 0) 0 _ (by omega) (Nat.zero_le _) hst ?start ?fin
        case start =>
          have g4 : ((s.heap.push (setO led)).push o).get? s.heap.objs.size = some (setO led) := Heap.get?_push_of_some _ g1
          exact SetOf_congr ((setObjOf_fresh (knd := strKind prog w) led).setOf g4 (by unfold scanBound; omega)) (fun _ => rfl) rfl
        case fin =>
          intro s3 mv has
          obtain ⟨h3, g3', d3, tk3, os3⟩ := s3
          obtain rfl : g3' = s.gens := mv.gens
          obtain rfl : d3 = s.drawn := mv.drawn
          obtain rfl : os3 = s.os := mv.os
          show wpAny _ _ _ _ _ _ ; refine wpAny_pure ?_ ; show wpAny _ _ (ret Value.none) _ _ _
          refine wpAny_pure ⟨rfl, h3, tk3, rfl, has, fun b o hb e => mv.heap b o ?_ (Heap.get?_push_of_some _ (Heap.get?_push_of_some _ e))⟩
          intro q
          rcases List.mem_cons.mp q with q | q
          · exact absurd q (Nat.ne_of_lt hb)
          · have q2 := List.mem_singleton.mp q
            rw [sz] at q2
            exact absurd q2 (Nat.ne_of_lt (Nat.lt_succ_of_lt hb))
      · cases r2 with
        | error e => exact hr2
        | ok fl2 =>
          cases fl2 with
          | ret r =>
            obtain ⟨rfl, h', tk, rfl, has, kept⟩ := hr2
            repeat (any_goals (first | assumption | wp_step))
            exact k _ _ has kept
          | _ => exact hr2.elim
    | _ => exact hr.elim
end
end WbSet
namespace WbSet
open PySem PySem.Spec PyProof.Rows L2
variable {X : Cx}
/-- len(set(z)), z a text -/
def tLenSetT (ta : TE) : TE := fun σ H Q => ta σ H fun x H1 => ∃ z : Str, x = .str z ∧ z.length ≤ 4000 ∧ Q (.int (differ (signs z)).length) H1
theorem pe_lenSetT {a : Expr} {ta : TE} {p p2 q pos : Pos} (hc : X.calm = true) (hg : Gl X "len") (hm : X.mg "len" = none) (hg2 : Gl X "set") (hm2 : X.mg "set" = none) (ha : PE X a ta)
    (na : starEach [a] X.env = (false, eval a X.env) :: starEach [] X.env := by rfl) : PE X (.Call (.Name "len" p) [.Call (.Name "set" p2) [a] [] q] [] pos) (tLenSetT ta) := by
  refine ⟨fun pins s σ H Q I h => Call_ (ld_blt I hg hm boot_len ?_)⟩
  refine callWith_builtin1 (args_cons (Call_ (ld_blt I hg2 hm2 boot_set ?_)) rfl) rfl rfl
  refine callWith_type1 (args_cons (thn (ha.run pins s σ H _ I h) fun v s1 ⟨x, H1, I1, r1, q1⟩ => args_nil ?_) na) na rfl
  obtain ⟨z, rfl, few, q1⟩ := q1
  obtain ⟨u, rfl⟩ := r1
  have few' : z.cps.size ≤ 4000 := few
  refine call_setT (I1.ok.hd hc) (by unfold scanBound; omega) fun h' tk has kept => args_nil ?_
  obtain ⟨o, es, ep, t, ho, hex, hd, _, _, _, hf, hn⟩ := has
  have I2 : Inv X pins σ H1 { s1 with heap := h', toks := tk } := I1.kept fun b o e => kept b o (Heap.lt_size e) e
  have le := differ_le (signs z)
  have ll : (signs z).length = z.cps.size := by unfold signs; rw [List.length_map, Array.length_toList]
  exact call_len_set ho hex hd hf (by rw [hn]; omega) ⟨.int (differ (signs z)).length, H1, I2.tok _, ⟨_, by rw [hn]⟩, q1⟩
end WbSet
namespace Wb
open PySem L2 WbMin WbS
abbrev sIsInt : Stmt := top 5
abbrev sIsWord : Stmt := top 7
abbrev sIsSigns : Stmt := top 8
abbrev sSignOf : Stmt := top 9
/-- a word as it is passed -/
structure IsW (l : List Nat) : Prop where
  low : Low l
  pos : 0 < l.length
  few : l.length ≤ 600
theorem IsW.fits {l : List Nat} (h : IsW l) : (S l).length ≤ sizeLine := by
  rw [S_len, sizeLine_eq]
  have := h.few
  omega
def spIsWord : Sp := fun vs H Q _ => ∃ l : List Nat, vs = [.str (S l)] ∧ IsW l ∧ ∀ H', Same H H' → Q (.bl true) H'
/-- the built-ins that nobody has put another thing in the place of -/
structure Free (mg : Str → Option Value) : Prop where
  int : mg "int" = none
  len : mg "len" = none
  range : mg "range" = none
  divmod : mg "divmod" = none
  abs : mg "abs" = none
  isi : mg "isinstance" = none
  str : mg "str" = none
  all : mg "all" = none
  min : mg "min" = none
  max : mg "max" = none
  set : mg "set" = none
  bool : mg "bool" = none
theorem ifd {p A B : Prop} [Decidable p] (hp : p) (h : A) : if decide p = true then A else B := by
  rw [if_pos (decide_eq_true hp)]
  exact h
theorem ifn {p A B : Prop} [Decidable p] (hp : ¬ p) (h : B) : if decide p = true then A else B := by
  rw [if_neg (fun q => hp (of_decide_eq_true q))]
  exact h
theorem iteS {p A B : Prop} [Decidable p] (hp : ¬ p) (h : A) : if (!decide p) = true then A else B := by
  rw [decide_eq_false hp]
  exact h
theorem Same.new' {q : Addr} {o : HO} {H H' : Hp} (a : Same H H') (n : H q = none) : Same H (L2.upd H' q o) := fun c u h => by
  rw [upd_ne (ne_of_none h n)]
  exact a c u h
/-! ### lists without doubles -/
theorem few_of_sub {α : Type} [DecidableEq α] : ∀ (l xs : List α), xs.Nodup → (∀ x ∈ xs, x ∈ l) → xs.length ≤ l.length
  | [], xs, _, h => by
    cases xs with
    | nil => exact Nat.le_refl _
    | cons x r => exact absurd (h x List.mem_cons_self) (List.not_mem_nil)
  | a :: l, xs, nd, h => by
    have e : (xs.filter fun c => !decide (c = a)).length ≤ l.length := few_of_sub l _ (nd.filter _) fun x hx => by
      obtain ⟨h1, h2⟩ := List.mem_filter.mp hx
      rcases List.mem_cons.mp (h x h1) with q | q
      · simp [q] at h2
      · exact q
    have d : xs.length ≤ (xs.filter fun c => !decide (c = a)).length + 1 := by
      clear e h
      induction xs with
      | nil => exact Nat.zero_le _
      | cons y r ih =>
        obtain ⟨n1, n2⟩ := List.nodup_cons.mp nd
        by_cases q : y = a
        · have e1 : (r.filter fun c => !decide (c = a)) = r := List.filter_eq_self.mpr fun c hc => by
            have : c ≠ a := fun z => n1 (q ▸ z ▸ hc)
            simp [this]
          rw [List.filter_cons_of_neg (by simp [q]), e1] <;> exact Nat.le_refl _
        · rw [List.filter_cons_of_pos (by simp [q])]
          have := ih n2
          simp only [List.length_cons]
          omega
    simp only [List.length_cons]
    omega
theorem same_count {α : Type} [DecidableEq α] {xs ys : List α} (nx : xs.Nodup) (ny : ys.Nodup) (h : ∀ x, x ∈ xs ↔ x ∈ ys) : xs.length = ys.length :=
  Nat.le_antisymm (few_of_sub ys xs nx fun x q => (h x).mp q) (few_of_sub xs ys ny fun x q => (h x).mpr q)
theorem fold_mem (x : Str) : ∀ (xs acc : List Str), x ∈ xs.foldl WbSet.addNew acc ↔ x ∈ acc ∨ x ∈ xs
  | [], acc => by simp
  | y :: r, acc => by
    rw [List.foldl_cons, fold_mem x r, WbSet.addNew_mem, List.mem_cons, or_assoc]
theorem fold_nodup : ∀ (xs acc : List Str), acc.Nodup → (xs.foldl WbSet.addNew acc).Nodup
  | [], _, h => h
  | y :: r, acc, h => fold_nodup r _ (by
    unfold WbSet.addNew
    by_cases q : y ∈ acc
    · rw [if_pos q] <;> exact h
    · rw [if_neg q, List.nodup_append]
      exact ⟨h, by simp, fun a ha b hb e => q (by rw [← List.mem_singleton.mp hb, ← e]; exact ha)⟩)
theorem differ_mem (x : Str) (xs : List Str) : x ∈ WbSet.differ xs ↔ x ∈ xs := by
  unfold WbSet.differ
  rw [fold_mem]
  simp
theorem differ_nodup (xs : List Str) : (WbSet.differ xs).Nodup := fold_nodup xs [] List.nodup_nil
theorem S_inj {l m : List Nat} (h : S l = S m) : l = m := by rw [← S_cps l, h, S_cps]
theorem getD_at {l : List Nat} {i : Nat} (h : i < l.length) : l[i]? = some (l.getD i 0) := by
  rw [List.getD_eq_getElem?_getD, List.getElem?_eq_getElem h] <;> rfl
/-- the signs of a kind, in any order -/
structure Sgs (l : List Nat) : Prop where
  low : Low l
  nd : l.Nodup
  pos : 0 < l.length
  few : l.length ≤ 4
theorem Sgs.w {l : List Nat} (h : Sgs l) : IsW l := ⟨h.low, h.pos, by have := h.few; omega⟩
def spIsSigns : Sp := fun vs H Q _ => ∃ l, vs = [.str (S l)] ∧ Sgs l ∧ ∀ H', Same H H' → Q (.bl true) H'
def spSignOf : Sp := fun vs H Q _ => ∃ (c : Nat) (sg : List Nat), vs = [.str (S [c]), .str (S sg)] ∧ c ∈ sg ∧ Q (.bl true) H
theorem flat_strs (zs : List Str) : (zs.map V.str).all flatV = true := by rw [List.all_map]; exact List.all_eq_true.mpr fun _ _ => rfl
theorem inV_strs (z : Str) (zs : List Str) : inV (.str z) (zs.map V.str) = decide (z ∈ zs) := by
  unfold inV
  rw [List.any_map, Bool.eq_iff_iff, List.any_eq_true, decide_eq_true_iff]
  constructor
  · rintro ⟨y, hy, e⟩
    have e' : (y == z) = true := e
    rw [← beq_iff_eq.mp e']
    exact hy
  · intro h
    exact ⟨z, h, beq_self_eq_true z⟩
theorem take_nd {α : Type} [DecidableEq α] {l : List α} {i : Nat} {x : α} (nd : l.Nodup) (h : l[i]? = some x) : x ∉ l.take i := by
  intro m
  obtain ⟨j, hj, e⟩ := List.getElem_of_mem m
  rw [List.length_take] at hj
  rw [List.getElem_take] at e
  obtain ⟨hi, e2⟩ := List.getElem?_eq_some_iff.mp h
  exact (List.pairwise_iff_getElem.mp nd) j i (by omega) hi (by omega) (e.trans e2.symm)
section
variable {P : Program} {w : World} {K : PySem.W.Frag} {mg : Str → Option Value} {base : Heap} {f fD fS fW : Addr} {fd fdD fdS dW : FuncData}
theorem scIW : FnScope ["value", "sign"] ["value"] (defScope sIsWord) := ⟨rfl, rfl, rfl, by decide +kernel, rfl, by decide +kernel, by decide +kernel⟩
theorem ok_isword (F : Fun K "is_word" "is_word" sIsWord f fd) (Z : Free mg) (t6 : Tok) (g6 : mg "MOST_WORD" = some (.int 600 t6)) : FnOk P w K mg base CX0 1 f fd ["value"] spIsWord := by
  refine F.ok scIW (fun vs H Q E h => ?_) (fun cdv A outer s H vs Q E hr h => ?_)
  · obtain ⟨l, rfl, _⟩ := h
    rfl
  · obtain ⟨l, rfl, W, k⟩ := h
    refine ⟨_, pss_cons (ps_if (PW.pt (pw_or (pt_not (pt_val (pe_callB call_isi (by rfl) Z.isi (by decide +kernel) (pa_cons (pv 0) (pa_cons (pe_bltn (v := .ty "str") (u := .type "str") (by rfl) Z.str (by decide +kernel) rfl) pa_nil)))))
        (pw_or1 (pt_not (pt_chain op_le op_le pe_int (pe_callB call_len_str (by rfl) Z.len PySem.boot_len (pa_cons (pv 0) pa_nil)) (pe_glob (v := .int 600) (by rfl) g6 ⟨_, rfl⟩)))))) (pss_one (ps_never)) pss_nil)
      (pss_one (ps_ret (pe_callB (cr_all rfl) (by rfl) Z.all (by decide +kernel) (pa_cons
        (pe_lc (own := [("sign", 1)]) (g := gName 1) (tt := tYes) rfl scIW.nd (pi_str (pv 0)) (blkOk_by (N := ["value", "sign"]) (sc := defScope sIsWord) (by decide +kernel)) (fun _ _ _ _ _ => pg_name (i := 1) scIW.nd rfl (.inl rfl)) (fun _ _ _ _ _ => pts_nil)
          (fun _ _ _ _ _ => pe_chain op_le_str op_le_str pe_str (pv 1) pe_str)) pa_nil)))), ?_⟩
    have len1 : 1 ≤ ((S l).length : Int) := by rw [S_len]; have := W.pos; omega
    have len2 : ((S l).length : Int) ≤ 600 := by rw [S_len]; have := W.few; omega
    refine ⟨_, rfl, _, _, .type "str", .type "str", true, rfl, .ty "str", .base (.str _), kit_ty (by decide +kernel), true, rfl, ?_⟩
    refine ⟨_, rfl, _, rfl, W.fits, _, _, rfl, rfl, _, rfl, ifd len1 ⟨_, _, rfl, rfl, _, rfl, iteNS len2 ?_⟩⟩
    refine ⟨_, rfl, _, rfl, fun D hD => lc_it walk_str (fun i H3 => H3 D = some (.lst ((List.replicate i true).map V.bl)) ∧ Same H H3) ⟨upd_same, Same.put (Same.refl H) hD⟩ (fun _ _ _ _ => trivial) ?_ ?_⟩
    · rintro i x H3 H3' hi ⟨h1, h2⟩ ⟨rfl, c, hc, rfl⟩
      have mem : c ∈ l := by
        have q := Array.mem_of_getElem? hc
        simpa [S] using q
      have c12 := W.low c mem
      have la : ¬ (([c] : List Nat) < [97]) := by rw [List.cons_lt_cons_iff]; simp; omega
      have lz : ¬ (([122] : List Nat) < [c]) := by rw [List.cons_lt_cons_iff]; simp; omega
      have ea : ("a" : Str).cps.toList = [97] := by decide +kernel
      have ez : ("z" : Str).cps.toList = [122] := by decide +kernel
      refine ⟨rfl, _, rfl, _, _, rfl, rfl, _, rfl, iteS (by rw [ea]; exact la) ⟨_, _, rfl, rfl, ?_⟩⟩
      rw [ez, decide_eq_false (show ¬ (([122] : List Nat) < (⟨#[c]⟩ : Str).cps.toList) from lz)]
      refine ⟨_, h1, ?_, ?_, Same.new' h2 hD⟩
      · rw [List.length_map, List.length_replicate, sizeLine_eq]
        have := W.few
        rw [S_size] at hi
        omega
      · rw [upd_same, List.replicate_succ', List.map_append] <;> rfl
    · rintro H3 ⟨h1, h2⟩
      refine ⟨D, _, rfl, SqL.of h1, ?_⟩
      have e : (List.replicate (S l).cps.size true).all id = true := List.all_eq_true.mpr fun b hb => by rw [List.eq_of_mem_replicate hb] <;> rfl
      show Q (.bl ((List.replicate (S l).cps.size true).all id)) H3
      rw [e]
      exact k H3 h2
theorem scSg : FnScope ["value"] ["value"] (defScope sIsSigns) := ⟨rfl, rfl, rfl, by decide +kernel, rfl, by decide +kernel, by decide +kernel⟩
theorem ok_issigns (F : Fun K "is_signs" "is_signs" sIsSigns f fd) (Z : Free mg) (DW : Def K mg "is_word" sIsWord ["value"] fW dW) (t6 : Tok) (g6 : mg "MOST_WORD" = some (.int 600 t6)) (t4 : Tok) (g4 : mg "MOST_SIGNS" = some (.int 4 t4)) : FnOk P w K mg base CX0 2 f fd ["value"] spIsSigns := by
  have GW : FnOk P w K mg base CX0 1 fW dW ["value"] spIsWord := ok_isword DW.F Z t6 g6
  refine F.ok scSg (fun vs H Q E h => ?_) (fun cdv A outer s H vs Q E hr h => ?_)
  · obtain ⟨l, rfl, _⟩ := h
    rfl
  · obtain ⟨l, rfl, G, k⟩ := h
    refine ⟨_, pss_one (ps_ret (pe_and (pe_call GW hr rfl DW.g DW.kp DW.b .nil pass0 (pa_cons (pv 0) pa_nil)) (pe_and (pe_cmpR op_le (pe_callB call_len_str (by rfl) Z.len PySem.boot_len (pa_cons (pv 0) pa_nil)) (pe_glob (v := .int 4) (by rfl) g4 ⟨_, rfl⟩) (nomark _))
      (pe_one (pe_cmpR op_eq (WbSet.pe_lenSetT rfl (by rfl) Z.len (by rfl) Z.set (pv 0)) (pe_callB call_len_str (by rfl) Z.len PySem.boot_len (pa_cons (pv 0) pa_nil)) (nomark _)))))), ?_⟩
    have few := G.few
    refine ⟨_, rfl, l, rfl, G.w, fun H1 s1 => ⟨true, rfl, _, rfl, _, rfl, G.w.fits, _, _, rfl, rfl, _, rfl, ifd (by rw [S_len]; omega) ?_⟩⟩
    refine ⟨_, rfl, S l, rfl, by rw [S_len]; omega, _, rfl, _, rfl, G.w.fits, rfl, ?_⟩
    have e : (WbSet.differ (WbSet.signs (S l))).length = (S l).length := by
      have nd : (WbSet.signs (S l)).Nodup := by
        unfold WbSet.signs
        rw [S_cps]
        exact List.Pairwise.map _ (fun a b h q => h (by injection q with q; injection q with q; injection q)) G.nd
      rw [same_count (differ_nodup _) nd (fun x => differ_mem x _)]
      unfold WbSet.signs
      rw [List.length_map, S_cps, S_len]
    rw [e, decide_eq_true rfl]
    exact k H1 s1
theorem scSO : FnScope ["value", "signs"] ["value", "signs"] (defScope sSignOf) := ⟨rfl, rfl, rfl, by decide +kernel, rfl, by decide +kernel, by decide +kernel⟩
theorem ok_signof (F : Fun K "is_sign_of" "is_sign_of" sSignOf f fd) (Z : Free mg) : FnOk P w K mg base CX0 1 f fd ["value", "signs"] spSignOf := by
  refine F.ok scSO (fun vs H Q E h => ?_) (fun cdv A outer s H vs Q E hr h => ?_)
  · obtain ⟨c, sg, rfl, _⟩ := h
    rfl
  · obtain ⟨c, sg, rfl, m, k⟩ := h
    refine ⟨_, pss_one (ps_ret (pe_and (pe_callB call_isi (by rfl) Z.isi (by decide +kernel) (pa_cons (pv 0) (pa_cons (pe_bltn (v := .ty "str") (u := .type "str") (by rfl) Z.str (by decide +kernel) rfl) pa_nil)))
      (pe_and (pe_cmpR op_eq (pe_callB call_len_str (by rfl) Z.len PySem.boot_len (pa_cons (pv 0) pa_nil)) pe_int (nomark _)) (pe_one (pe_cmpR op_in_sign (pv 0) (pv 1) rfl))))), ?_⟩
    refine ⟨_, rfl, _, _, .type "str", .type "str", true, rfl, .ty "str", .base (.str _), kit_ty (by decide +kernel), true, rfl, ?_⟩
    refine ⟨_, rfl, _, rfl, (by rw [S_len, sizeLine_eq]; show 1 ≤ _; decide), rfl, _, rfl, ifd (by rw [S_len] <;> rfl) ?_⟩
    refine ⟨_, rfl, _, rfl, c, S sg, rfl, rfl, ?_⟩
    rw [S_cps, decide_eq_true m]
    exact k
end
end Wb
/-! the parts of a loop, asked whether they are right -/
namespace Wb
open PySem L2 WbMin WbS Lz
/-- a name -/
structure IsNm (l : List Nat) : Prop where
  pos : 0 < l.length
  few : l.length ≤ 8
  hd : 97 ≤ l.getD 0 0 ∧ l.getD 0 0 ≤ 122
  ok : ∀ c ∈ l, (97 ≤ c ∧ c ≤ 122) ∨ (48 ≤ c ∧ c ≤ 57)
theorem IsNm.fits {l : List Nat} (h : IsNm l) : (S l).length ≤ sizeLine := by
  rw [S_len, sizeLine_eq]
  have := h.few
  omega
def spIsIntT : Sp := fun vs H Q _ => ∃ i : Int, vs = [.int i] ∧ Q (.bl true) H
section
variable {P : Program} {w : World} {K : PySem.W.Frag} {mg : Str → Option Value} {base : Heap} {f fS fO fI : Addr} {fd dS dO dI : FuncData}
theorem scII : FnScope ["value"] ["value"] (defScope sIsInt) := ⟨rfl, rfl, rfl, by decide +kernel, rfl, by decide +kernel, by decide +kernel⟩
theorem ok_isintT (F : Fun K "is_integer" "is_integer" sIsInt f fd) (Z : Free mg) : FnOk P w K mg base CX0 1 f fd ["value"] spIsIntT := by
  refine F.ok scII (fun vs H Q E h => ?_) (fun cdv A outer s H vs Q E hr h => ?_)
  · obtain ⟨n, rfl, _⟩ := h
    rfl
  · obtain ⟨n, rfl, k⟩ := h
    refine ⟨_, pss_one (ps_ret (pe_and (pe_callB call_isi (by rfl) Z.isi (by decide +kernel) (pa_cons (pv 0) (pa_cons (pe_bltn (v := .ty "int") (u := .type "int") (by rfl) Z.int (by decide +kernel) rfl) pa_nil)))
      (pe_one (pe_not (pe_callB call_isi (by rfl) Z.isi (by decide +kernel) (pa_cons (pv 0) (pa_cons (pe_bltn (v := .ty "bool") (u := .type "bool") (by rfl) Z.bool (by decide +kernel) rfl) pa_nil))))))), ?_⟩
    exact ⟨_, rfl, _, _, .type "int", .type "int", true, rfl, .ty "int", .base (.int _), kit_ty (by decide +kernel), true, rfl, _, rfl, _, _, .type "int", .type "bool", false, rfl, .ty "bool", .base (.int _), kit_ty (by decide +kernel), _, rfl, k⟩
end
end Wb
/-! enumerate(t), t a tuple -/
namespace WbS
open PySem PySem.Spec PyProof.Rows
open AutoSeq1 (wpAny_loadPart')
set_option maxHeartbeats 1000000 in
theorem meets_enumT {v : Value} {o : Obj} {H : Heap → Prop} (B : Begins v o H) :
    Meets (Builtin.«enumerate.__new__» ⟨[.type "enumerate", v], []⟩) (fun _ R s => H s.heap ∧
      R (.ok (.ret (.ref (s.heap.push o).objs.size))) { s with heap := (s.heap.push o).push { cls := .type "enumerate", data := .fields #[.none, .bool false, .ref s.heap.objs.size, rawInt 0, .none, .none] } }) :=
  .of_wp fun prog w A R s h => by
    obtain ⟨hp, g, d, tk, os⟩ := s; obtain ⟨h1, h⟩ := h
    have hsub := sub_enumerate
    have q1 : ∀ {A' : Around} {E : Value → Shared → Prop} {Q : Value → Shared → Prop}, Q (.ref hp.objs.size) ⟨hp.push o, g, d, tk, os⟩ → wpAny (model prog w) A' (pyIter v) Q E ⟨hp, g, d, tk, os⟩ :=
      fun q => B.iter prog w _ _ ⟨hp, g, d, tk, os⟩ _ h1 q
    wp_walk using q1
    refine wpAny_stack_any fun st => wpAny_pure ?_
    split
    · rename_i c _ _ _ _ _
      cases (c == Value.type "enumerate")
      · wp_walk using q1
        exact ⟨_, rfl, h⟩
      · wp_walk using q1
        exact ⟨_, rfl, h⟩
    · wp_walk using q1
      exact ⟨_, rfl, h⟩
section
variable {prog : Program} {w : World} {A : Around} {E : Value → Shared → Prop} {s : Shared}
theorem enum1_begins {v : Value} {o : Obj} {H : Heap → Prop} {Q : Value → Shared → Prop} (B : Begins v o H) (h1 : H s.heap)
    (h : ∀ h', IsEnum h' (s.heap.objs.size + 1) s.heap.objs.size 0 .none → h'.get? s.heap.objs.size = some o → h'.objs.size = s.heap.objs.size + 2 →
      (∀ b o, s.heap.get? b = some o → h'.get? b = some o) → Q (.ref (s.heap.objs.size + 1)) { s with heap := h' }) :
    wpAny (model prog w) A (call (.type "enumerate") [v]) Q E s := by
  refine callType_new F.called_enumerate (by decide) (F.typeCall_enumerate_1 _) (F.newCall_enumerate_1 _) (fun obj => F.args_object_init_2 obj _) F.entry_enumerate_new
    (meets_enumT B) ⟨h1, ?_⟩
  have hz : (s.heap.push o).objs.size = s.heap.objs.size + 1 := Heap.size_push ..
  show _ ∧ _
  rw [hz]
  have he : IsEnum ((s.heap.push o).push { cls := .type "enumerate", data := .fields #[.none, .bool false, .ref s.heap.objs.size, rawInt 0, .none, .none] }) (s.heap.objs.size + 1) s.heap.objs.size 0 .none := by
    have := Heap.get?_push_size (s.heap.push o) (o := { cls := .type "enumerate", data := .fields #[.none, .bool false, .ref s.heap.objs.size, rawInt 0, .none, .none] }) rfl
    rw [hz] at this; exact this
  refine ⟨⟨_, he, rfl⟩, h _ he (Heap.get?_push_of_some _ (Heap.get?_push_size _ B.free)) (by rw [Heap.size_push, hz]) fun b o x => Heap.get?_push_of_some _ (Heap.get?_push_of_some _ x)⟩
end
end WbS
namespace WbS
open PySem PySem.Spec PyProof.Rows L2
/-- the tuple at a as it stands at each turn, each item in a new pair -/
def IteT (K : PySem.W.Frag) (a : Addr) : It :=
  ⟨fun i H => ∃ (xs : List V) (x : V), SqT K H a xs ∧ xs[i]? = some x, fun i H v H' => ∃ T x, v = .ref T ∧ H T = none ∧ H' = upd H T (.tup [.int (i : Nat), x]) ∧ ∀ xs, SqT K H a xs → xs[i]? = some x, fun i H => ∃ xs : List V, SqT K H a xs ∧ xs.length = i⟩
theorem turn_enumT {P : Program} {w : World} {K : PySem.W.Frag} {elts : List Expr} {kk : Nat} {tpos : Pos} (a e it : Addr) :
    Turn P w K (.Tuple elts kk tpos) (IteT K a) [e, it] e (fun i h => (∃ old, IsEnum h e it ((i : Nat) : Int) old) ∧ h.IsTupleIter it a i ∧ e ≠ it ∧ e ≠ a ∧ a ≠ it) where
  mem := by simp
  obj := fun i h st b hb => by
    obtain ⟨⟨old, he⟩, ⟨o, ho, hc, hd⟩, _⟩ := st
    have e' : b = e ∨ b = it := by simpa using hb
    rcases e' with z | z
    · rw [z]; exact ⟨_, he, fun v q => nomatch q⟩
    · rw [z]; exact ⟨o, ho, fun v q => by rw [hd] at q; cases q⟩
  keep := fun i h h' st k => let ⟨⟨old, he⟩, hi, hne⟩ := st; ⟨⟨old, k e (by simp) _ he⟩, hi.at fun o q => k it (by simp) o q, hne⟩
  item := by
    intro X hP hw hK hc i pins s σ H E I hf st hg
    subst hP hw hK
    obtain ⟨⟨old, he⟩, hit, hne, hea, hai⟩ := st
    obtain ⟨xs, x, hq, hx⟩ := hg
    obtain ⟨its, rv, p, hz⟩ := I.tuple hq
    obtain ⟨u, hu, ru⟩ := rv.get hx
    have hel : e < s.heap.objs.size := Heap.lt_size he
    have hil : it < s.heap.objs.size := by obtain ⟨_, q, _⟩ := hit; exact Heap.lt_size q
    have hlt : i < its.toArray.size := by
      have q := List.getElem?_eq_some_iff.mp hu
      obtain ⟨q, _⟩ := q
      simpa using q
    refine wpAny_pyNext_enum_itemD (Draws.tuple (A := X.A.in1) (I.ok.hd hc) it a hai its.toArray) he ⟨hit, p⟩ hlt hne (by simp [hne, hea]) fun x' h' tk hP ho hit' hT hsz hk => ?_
    obtain rfl : x' = u := by
      have q1 : its.toArray[i]? = some x' := hP
      have q2 : its.toArray[i]? = some u := by simpa using hu
      rw [q1] at q2
      exact Option.some.inj q2
    refine ⟨_, rfl, wpAny_letOwnedTupleGo_enum (s := { s with heap := h', toks := tk + 1 }) ho fun h'' he' sb => ?_⟩
    have hT2 : h''.get? s.heap.objs.size = some { cls := .type "tuple", data := .seq #[.int i tk, x'] } := (sb.2 _ (Nat.ne_of_gt hel)).trans hT
    have new : ObjOk X.prog X.w (upd H s.heap.objs.size (.tup [.int (i : Nat), x])) h'' s.heap.objs.size (.tup [.int (i : Nat), x]) :=
      ⟨by show 2 ≤ sizeLine; decide, [.int i tk, x'], .cons ⟨_, rfl⟩ (.cons ru .nil), ⟨_, hT2, rfl, _, rfl⟩⟩
    have I1 : Inv X pins σ (upd H s.heap.objs.size (.tup [.int (i : Nat), x])) { s with heap := h'', toks := tk + 1 } :=
      I.turnedNew (ch := [e, it]) (fun b ob hb q => (sb.2 b (fun z => hb (by simp [z]))).trans (hk b ob (fun z => hb (by simp [z])) (fun z => hb (by simp [z])) q)) hf (Nat.le_refl _) new
    refine ⟨.ref s.heap.objs.size, _, I1, rfl, ⟨_, x, rfl, I.hok.fresh (Nat.le_refl _), rfl, fun ys hy => by rw [I.tuple_inj hy hq]; exact hx⟩, ⟨⟨x', ?_⟩, hit'.1.at fun o q => (sb.2 it (Ne.symm hne)).trans q, hne, hea, hai⟩, fun b hb => ?_⟩
    · have e1 : ((i + 1 : Nat) : Int) = (i : Int) + 1 := by omega
      rw [e1]; exact he'
    · have hb' : b < s.heap.objs.size := by
        have e' : b = e ∨ b = it := by simpa using hb
        rcases e' with z | z
        · rw [z]; exact hel
        · rw [z]; exact hil
      rw [upd_ne (Nat.ne_of_lt hb')]
      exact (hf b hb).1
  done := by
    intro X hP hw hK hc i pins s σ H E I hf st hg
    subst hP hw hK
    obtain ⟨⟨old, he⟩, hit, hne, hea, hai⟩ := st
    obtain ⟨xs, hq, hx⟩ := hg
    obtain ⟨its, rv, p, hz⟩ := I.tuple hq
    obtain ⟨f0, f1, f2, f3, f4, f5⟩ := hf it (by simp)
    have hl := rv.length
    have en : its.toArray.size = i := by simp; omega
    refine wpAny_pyNext_enum_endD (n := its.toArray.size) (Draws.tuple (A := X.A.in1) (I.ok.hd hc) it a hai its.toArray) he ⟨by rw [en]; exact hit, p⟩ fun h' eb => ⟨rfl, I.turned (t' := s.toks) (fun b o hb q => eb b o hb q) f0 f1 f3 f4 f5⟩
  self := fun A i s Q E st h => let ⟨⟨_, he⟩, _⟩ := st; wpAny_pyIter_enum he h
def iEnumT (K : PySem.W.Frag) (ta : TA) : TI := fun σ H R => ta σ H fun vs H1 => ∃ a xs, vs = [.ref a] ∧ SqT K H1 a xs ∧ R (IteT K a) H1
theorem pi_enumT {X : Cx} {e : Expr} {ta : TA} {p pos tpos : Pos} {elts : List Expr} {kk : Nat} (hg : Gl X "enumerate") (hm : X.mg "enumerate" = none) (ha : PA X [e] ta) (hs : starEach [e] X.env = [(false, eval e X.env)] := by rfl) :
    PI X (.Tuple elts kk tpos) (.Call (.Name "enumerate" p) [e] [] pos) (iEnumT X.K ta) := by
  refine ⟨fun pins s σ H R I h => ?_⟩
  refine Call_ (ld_blt I hg hm boot_enumerate (PyProof.Rows.callWith_type1 (thn (ha.run pos pins s σ H _ I h) fun us s1 ⟨vs, H1, I1, r1, q1⟩ => ?_) hs rfl))
  obtain ⟨a, xs, ex, hq, q⟩ := q1
  subst ex
  cases r1 with
  | cons r rr =>
    cases rr
    cases r
    obtain ⟨its, rv, p', hz⟩ := I1.tuple hq
    have hal : a < s1.heap.objs.size := by obtain ⟨_, q, _⟩ := p'; exact Heap.lt_size q
    refine enum1_begins (begins_tuple a its.toArray) p' fun h' he hit hsz hk => wpAny_pyIter_enum he ?_
    have I2 : Inv X pins σ H1 { s1 with heap := h' } := I1.kept (t' := s1.toks) hk
    refine ⟨s1.heap.objs.size + 1, [s1.heap.objs.size + 1, s1.heap.objs.size], _, _, H1, rfl, I2, turn_enumT a (s1.heap.objs.size + 1) s1.heap.objs.size, ⟨⟨.none, he⟩, ⟨_, hit, rfl, rfl⟩, Nat.succ_ne_self _, Nat.ne_of_gt (Nat.lt_succ_of_lt hal), Nat.ne_of_lt hal⟩, fun b hb => ?_, q⟩
    have e' : b = s1.heap.objs.size + 1 ∨ b = s1.heap.objs.size := by simpa using hb
    have hle : s1.heap.objs.size ≤ b := by
      rcases e' with z | z
      · rw [z]; exact Nat.le_add_right _ _
      · rw [z]; exact Nat.le_refl _
    exact I1.fpOk hle (I1.hok.fresh hle)
theorem walk_enumT {K : PySem.W.Frag} {a : Addr} {xs : List V} : Walk (IteT K a) xs.length (fun H => SqT K H a xs) (YPair (fun i => some (.int (i : Nat))) (fun i => xs[i]?)) := by
  refine ⟨fun i _ hi q => ⟨xs, xs[i], q, by simp [hi]⟩, fun _ q => ⟨xs, q, rfl⟩, fun i H v H' _ q y => ?_⟩
  obtain ⟨T, x, h1, h2, h3, h4⟩ := y
  exact ⟨T, .int (i : Nat), x, h1, h2, h3, rfl, h4 xs q⟩
end WbS
/-! first_wrong of texts and of pairs -/
namespace Wb
open PySem L2 WbMin WbS Lz
abbrev sFirst : Stmt := top 10
/-- tuples that stand -/
def Tups (H : Hp) : List Addr → List (List V) → Prop
  | [], [] => True
  | a :: as, x :: xs => H a = some (.tup x) ∧ Tups H as xs
  | _, _ => False
theorem Tups.length {H : Hp} : ∀ {as : List Addr} {xs : List (List V)}, Tups H as xs → as.length = xs.length
  | [], [], _ => rfl
  | _ :: _, _ :: _, h => congrArg (· + 1) (Tups.length h.2)
  | [], _ :: _, h => h.elim
  | _ :: _, [], h => h.elim
theorem Tups.same {H H' : Hp} (s : Same H H') : ∀ {as : List Addr} {xs : List (List V)}, Tups H as xs → Tups H' as xs
  | [], [], _ => trivial
  | _ :: _, _ :: _, h => ⟨s _ _ h.1, Tups.same s h.2⟩
  | [], _ :: _, h => h.elim
  | _ :: _, [], h => h.elim
theorem Tups.get {H : Hp} : ∀ {as : List Addr} {xs : List (List V)} {i : Nat} {a : Addr} {x : List V}, Tups H as xs → as[i]? = some a → xs[i]? = some x → H a = some (.tup x)
  | [], _, _, _, _, _, h, _ => nomatch h
  | _ :: _, [], _, _, _, h, _, _ => h.elim
  | b :: as, y :: xs, 0, a, x, h, e, f => by
    cases e
    cases f
    exact h.1
  | b :: as, y :: xs, i + 1, a, x, h, e, f => Tups.get h.2 e f
theorem Tups.snoc {H : Hp} {a : Addr} {x : List V} (n : H a = some (.tup x)) : ∀ {as : List Addr} {xs : List (List V)}, Tups H as xs → Tups H (as ++ [a]) (xs ++ [x])
  | [], [], _ => ⟨n, trivial⟩
  | _ :: _, _ :: _, h => ⟨h.1, Tups.snoc n h.2⟩
  | [], _ :: _, h => h.elim
  | _ :: _, [], h => h.elim
theorem Tups.take {H : Hp} : ∀ {as : List Addr} {xs : List (List V)} (i : Nat), Tups H as xs → Tups H (as.take i) (xs.take i)
  | [], [], i, _ => by rw [List.take_nil, List.take_nil]; exact trivial
  | [], _ :: _, _, h => h.elim
  | _ :: _, [], _, h => h.elim
  | _ :: _, _ :: _, 0, _ => trivial
  | _ :: _, _ :: _, i + 1, h => ⟨h.1, Tups.take i h.2⟩
def spFirst : Sp := fun vs H Q _ => ∃ (t L : Addr) (ps : List Str), vs = [.ref t, .ref L] ∧ H t = some (.tup (ps.map V.str)) ∧ H L = some (.lst ((List.replicate ps.length true).map V.bl)) ∧ ps.Nodup ∧ ∀ H', Same H H' → Q .non H'
section
variable {P : Program} {w : World} {K : PySem.W.Frag} {mg : Str → Option Value} {base : Heap} {f : Addr} {fd : FuncData}
theorem scFw : FnScope ["values", "right", "index", "value"] ["values", "right"] (defScope sFirst) := ⟨rfl, rfl, rfl, by decide +kernel, rfl, by decide +kernel, by decide +kernel⟩
theorem ok_first (F : Fun K "first_wrong" "first_wrong" sFirst f fd) (mE : mg "enumerate" = none) : FnOk P w K mg base CX0 1 f fd ["values", "right"] spFirst := by
  refine F.ok scFw (fun vs H Q E h => ?_) (fun cdv A outer s H vs Q E hr h => ?_)
  · obtain ⟨t, L, ps, rfl, _⟩ := h
    rfl
  · obtain ⟨t, L, ps, rfl, ht, hL, nd, k⟩ := h
    refine ⟨_, pss_cons (ps_for PassesOwn.never rfl (pi_enumT (by rfl) mE (pa_cons (pv 0) pa_nil)) (pg_tup (by rfl) (pgs_cons (pg_name (i := 2) scFw.nd rfl (.inl rfl)) (pgs_cons (pg_name (i := 3) scFw.nd rfl (.inl rfl)) pgs_nil)))
        (pss_one (ps_if (PW.pt (pw_or (pt_not (pt_val (pe_ix ix_list (pv 1) (pv 2) (fun _ _ => rfl)))) (pw_or1 (pt_cmpR op_in_seq (pv 3) (pe_slice sl_tup (pv 0) po_none (po_some (pv 2))) (by rfl))))) (pss_one ps_never) pss_nil)))
      (pss_one (ps_ret pe_non)), ?_⟩
    refine ⟨_, rfl, t, _, rfl, SqT.of ht, for_it walk_enumT (fun i σ H' => ∃ v2 v3 : Option V, σ = [some (.ref t), some (.ref L), v2, v3] ∧ Same H H') ⟨none, none, rfl, Same.refl H⟩ (fun _ _ _ _ h => by obtain ⟨_, _, _, h⟩ := h; exact SqT.of (h _ _ ht)) ?_ ?_⟩
    · rintro i x σ H2 H3 hi ⟨v2, v3, rfl, s2⟩ ⟨T, a, b, rfl, hT, rfl, ea, eb⟩
      cases ea
      dsimp only at eb
      rw [List.getElem?_map] at eb
      obtain ⟨z, hz, rfl⟩ := Option.map_eq_some_iff.mp eb
      have hi' : i < ps.length := by rw [List.length_map] at hi; exact hi
      have sT := Same.put (o := .tup [.int (i : Nat), .str z]) s2 hT
      refine ⟨T, _, rfl, SqT.of upd_same, rfl, _, _, rfl, _, _, rfl, rfl, ?_⟩
      refine ⟨_, rfl, _, rfl, L, _, _, .bl true, rfl, rfl, SqL.of (sT _ _ hL), ?_, true, rfl, ?_⟩
      · refine atI_nat ?_
        rw [List.getElem?_map, List.getElem?_replicate, if_pos hi'] <;> rfl
      have ec : cutV (ps.map V.str) none (some ((i : Nat) : Int)) = (ps.take i).map V.str := by
        unfold cutV
        rw [HT.sIx_none, HT.sIx_nat, List.length_map, Nat.min_eq_left (Nat.le_of_lt hi')]
        show (ps.map V.str).take i = _
        rw [List.map_take]
      refine ⟨_, rfl, _, rfl, _, rfl, _, rfl, t, _, rfl, SqT.of (sT _ _ ht), ?_, fun u hu => ?_⟩
      · rintro ⟨_, q⟩
        rw [HT.sIx_nat, List.length_map] at q
        omega
      · rw [ec]
        refine ⟨u, _, rfl, .inr (SqT.of upd_same), rfl, flat_strs _, _, rfl, ?_⟩
        have no : inV (.str z) ((ps.take i).map V.str) = false := by
          rw [inV_strs]
          exact decide_eq_false (take_nd nd hz)
        show if inV (.str z) ((ps.take i).map V.str) = true then _ else _
        rw [no, if_neg Bool.false_ne_true]
        exact ⟨_, _, rfl, Same.put sT hu⟩
    · rintro σ H2 ⟨v2, v3, rfl, s2⟩
      exact k H2 s2
end
end Wb
/-! the parts of a loop, checked -/
namespace Wb
open PySem L2 WbMin WbS Lz
/-- the names of states -/
structure Sts (st : List Str) : Prop where
  of : ∀ z ∈ st, ∃ l, z = S l ∧ IsNm l
  nd : st.Nodup
  pos : 0 < st.length
  few : st.length ≤ 6
/-- a row of a loop: state, sign, next state, amount -/
structure Row where
  a : Str
  c : Nat
  b : Str
  m : Int
def Row.v (r : Row) : List V := [.str r.a, .str (S [r.c]), .str r.b, .int r.m]
def Row.k (r : Row) : Str × Str := (r.a, S [r.c])
/-- a turn: state, next state, amount -/
structure Trn where
  a : Str
  b : Str
  m : Int
def Trn.v (r : Trn) : List V := [.str r.a, .str r.b, .int r.m]
section
variable {P : Program} {w : World} {K : PySem.W.Frag} {mg : Str → Option Value} {base : Heap} {f fN fF fS fO fI fR : Addr} {fd dN dF dS dO dI dR : FuncData}
end
end Wb
/-! the rows of a loop, checked -/
namespace Wb
open PySem L2 WbMin WbS Lz
theorem Tups.upd {H : Hp} {D : Addr} {o : HO} : ∀ {as : List Addr} {xs : List (List V)}, (∀ c ∈ as, c ≠ D) → Tups H as xs → Tups (L2.upd H D o) as xs
  | [], [], _, _ => trivial
  | a :: as, _ :: _, n, h => ⟨(upd_ne (n a List.mem_cons_self)).trans h.1, Tups.upd (fun c q => n c (List.mem_cons_of_mem _ q)) h.2⟩
  | [], _ :: _, _, h => h.elim
  | _ :: _, [], _, h => h.elim
section
variable {P : Program} {w : World} {K : PySem.W.Frag} {mg : Str → Option Value} {base : Heap} {f fN fF fS fO fI fR : Addr} {fd dN dF dS dO dI dR : FuncData}
end
end Wb
/-! the parts of a loop, put in order -/
namespace Wb
open PySem L2 WbMin WbS Lz
section
variable {κ : Type} [DecidableEq κ]
end
theorem un2 {k : Nat} {A : Around} (r : Room k A) : A.units + 1 < cLine := by have := r.un; omega
/-- keys of a dict -/
def kk (p : Str × Str) : List Key := [.inr p.1, .inr p.2]
theorem kk_inj {p q : Str × Str} (h : kk p = kk q) : p = q := by
  cases p
  cases q
  injection h with h1 h2
  injection h2 with h2 _
  injection h1 with h1
  injection h2 with h2
  dsimp only at h1 h2
  subst h1
  subst h2
  rfl
theorem it_go {J : It} {n : Nat} {G : Hp → Prop} {Y : Nat → Hp → V → Hp → Prop} (w : Walk J n G Y) (Pv : Nat → Hp → Prop) {H0 : Hp} {Qd : Hp → Prop} {body : V → Hp → (Hp → Prop) → Prop} (h0 : Pv 0 H0) (hl : ∀ i H, i ≤ n → Pv i H → G H)
    (hs : ∀ i x H H', i < n → Pv i H → Y i H x H' → body x H' (Pv (i + 1))) (hd : ∀ H, Pv n H → Qd H) :
    ∃ W : Nat → Nat → Hp → Prop, (∃ m, W 0 m H0) ∧ ∀ i m H, W i m H → (J.stop i H ∧ Qd H) ∨ (J.go i H ∧ ∃ Nx : Hp → Prop, (∀ H', Nx H' → ∃ m', m' < m ∧ W (i + 1) m' H') ∧ ∀ x H', J.yld i H x H' → body x H' Nx) := by
  refine ⟨fun i m H => m = n - i ∧ i ≤ n ∧ Pv i H, ⟨n, by simp, Nat.zero_le _, h0⟩, ?_⟩
  rintro i m H ⟨rfl, hi, p⟩
  have q := hl i H hi p
  by_cases hlt : i < n
  · exact .inr ⟨w.goes i H hlt q, Pv (i + 1), fun H' p' => ⟨n - (i + 1), by omega, rfl, hlt, p'⟩, fun x H' y => hs i x H H' hlt p (w.yields i H x H' hlt q y)⟩
  · have e : i = n := by omega
    subst e
    exact .inl ⟨w.stops H q, hd H p⟩
section
variable {P : Program} {w : World} {K : PySem.W.Frag} {mg : Str → Option Value} {base : Heap} {f : Addr} {fd : FuncData}
end
end Wb
/-! turns and yes states, put in order -/
namespace Wb
open PySem L2 WbMin WbS Lz
/-- the key that a text is -/
def k1 (z : Str) : Key := .inr z
theorem k1_inj {p q : Str} (h : k1 p = k1 q) : p = q := by
  injection h
section
variable {P : Program} {w : World} {K : PySem.W.Frag} {mg : Str → Option Value} {base : Heap} {f : Addr} {fd : FuncData}
end
end Wb
/-! a loop in numbers -/
namespace Wb
open PySem L2 WbMin WbS Lz
/-- a loop: signs, names of states, next states, amounts, turns, their amounts, yes states -/
structure LD where
  sg : List Nat
  st : List Str
  nx : Nat → Nat → Nat
  am : Nat → Nat → Int
  tn : Nat → Nat
  ta : Nat → Int
  ys : Nat → Bool
def LD.n (L : LD) : Nat := L.st.length
def LD.nm (L : LD) (i : Nat) : Str := L.st.getD i (S [])
structure LD.Ok (L : LD) : Prop where
  sgs : Sgs L.sg
  sts : Sts L.st
  nxlt : ∀ i c, i < L.n → c ∈ L.sg → L.nx i c < L.n
  tnlt : ∀ i, i < L.n → L.tn i < L.n
def LD.row (L : LD) (i c : Nat) : Row := ⟨L.nm i, c, L.nm (L.nx i c), L.am i c⟩
def LD.rows (L : LD) : List Row := (List.range L.n).flatMap fun i => L.sg.map (L.row i)
def LD.turn (L : LD) (i : Nat) : Trn := ⟨L.nm i, L.nm (L.tn i), L.ta i⟩
def LD.turns (L : LD) : List Trn := (List.range L.n).map L.turn
def LD.yes (L : LD) : List Str := ((List.range L.n).filter L.ys).map L.nm
/-- what a row of a loop reads -/
def RowAt (H : Hp) (q : Addr) (L : LD) : Prop := ∃ (t r u y : Addr) (as bs : List Addr), H q = some (.tup [.str (S L.sg), .ref t, .ref r, .ref u, .ref y]) ∧ H t = some (.tup (L.st.map V.str)) ∧ H r = some (.tup (as.map V.ref)) ∧ Tups H as (L.rows.map Row.v) ∧ H u = some (.tup (bs.map V.ref)) ∧ Tups H bs (L.turns.map Trn.v) ∧ H y = some (.tup (L.yes.map V.str))
def tf (dN dX dA tX tA tY : Addr) : List (Str × V) := putF "says" (.ref tY) (putF "turn_amounts" (.ref tA) (putF "turn_nexts" (.ref tX) (putF "amounts" (.ref dA) (putF "nexts" (.ref dX) (putF "number" (.ref dN) [])))))
def kS (c : Nat) : Key := .inr (S [c])
/-- the table stands -/
def TableAt (C : Addr) (H : Hp) (r : Addr) (L : LD) : Prop := ∃ (dx dN dX dA tX tA tY : Addr) (xs as : List Addr), H r = some (.ins C dx (tf dN dX dA tX tA tY)) ∧
  H dX = some (.dK ((L.sg.map kS).zip (xs.map V.ref))) ∧ Tups H xs (L.sg.map fun c => (List.range L.n).map fun i => V.int (L.nx i c : Nat)) ∧
  H dA = some (.dK ((L.sg.map kS).zip (as.map V.ref))) ∧ Tups H as (L.sg.map fun c => (List.range L.n).map fun i => V.int (L.am i c)) ∧
  H tX = some (.tup ((List.range L.n).map fun i => V.int (L.tn i : Nat))) ∧ H tA = some (.tup ((List.range L.n).map fun i => V.int (L.ta i))) ∧ H tY = some (.tup ((List.range L.n).map fun i => V.bl (L.ys i)))
/-! ### the mathematics of rows -/
/-- the parts of a row stand -/
structure Prt (L : LD) (t rr u y : Addr) (as bs : List Addr) (H : Hp) : Prop where
  ht : H t = some (.tup (L.st.map V.str))
  hr : H rr = some (.tup (as.map V.ref))
  hT : Tups H as (L.rows.map Row.v)
  hu : H u = some (.tup (bs.map V.ref))
  hU : Tups H bs (L.turns.map Trn.v)
  hy : H y = some (.tup (L.yes.map V.str))
theorem Tups.but {H H' : Hp} {p : Addr} {o : HO} (no : ∀ x, o ≠ .tup x) (hp : H p = some o) (s : But p H H') : ∀ {as : List Addr} {xs : List (List V)}, Tups H as xs → Tups H' as xs
  | [], [], _ => trivial
  | a :: _, x :: _, h => ⟨s _ _ (ne_of h.1 hp fun e => no x e.symm) h.1, Tups.but no hp s h.2⟩
  | [], _ :: _, h => h.elim
  | _ :: _, [], h => h.elim
theorem Prt.but {L : LD} {t rr u y : Addr} {as bs : List Addr} {H H' : Hp} {p : Addr} {o : HO} (no : ∀ x, o ≠ .tup x) (hp : H p = some o) (s : But p H H') (h : Prt L t rr u y as bs H) : Prt L t rr u y as bs H' :=
  ⟨s _ _ (ne_of h.ht hp fun e => no _ e.symm) h.ht, s _ _ (ne_of h.hr hp fun e => no _ e.symm) h.hr, h.hT.but no hp s, s _ _ (ne_of h.hu hp fun e => no _ e.symm) h.hu, h.hU.but no hp s, s _ _ (ne_of h.hy hp fun e => no _ e.symm) h.hy⟩
theorem Prt.same {L : LD} {t rr u y : Addr} {as bs : List Addr} {H H' : Hp} (s : Same H H') (h : Prt L t rr u y as bs H) : Prt L t rr u y as bs H' :=
  ⟨s _ _ h.ht, s _ _ h.hr, h.hT.same s, s _ _ h.hu, h.hU.same s, s _ _ h.hy⟩
section
variable {P : Program} {w : World} {K : PySem.W.Frag} {mg : Str → Option Value} {base : Heap} {f C : Addr} {fd : FuncData}
end
end Wb
/-! one round by the table -/
namespace Wb
open PySem L2 WbMin WbS Lz
def LD.stp (L : LD) (p : Nat × Int) (c : Nat) : Nat × Int := (L.nx p.1 c, p.2 + L.am p.1 c)
def LD.wk (L : LD) (w : List Nat) (i : Nat) : Nat × Int := w.foldl L.stp (i, 0)
def LD.gone (L : LD) (w : List Nat) (i : Nat) : Nat × Int := (L.tn (L.wk w i).1, (L.wk w i).2 + L.ta (L.wk w i).1)
theorem wk_lt {L : LD} (O : L.Ok) {i : Nat} (hi : i < L.n) : ∀ {w : List Nat}, (∀ c ∈ w, c ∈ L.sg) → (L.wk w i).1 < L.n := by
  intro w
  unfold LD.wk
  have gen : ∀ (w : List Nat) (p : Nat × Int), p.1 < L.n → (∀ c ∈ w, c ∈ L.sg) → (w.foldl L.stp p).1 < L.n := by
    intro w
    induction w with
    | nil => exact fun p h _ => h
    | cons c w ih => exact fun p h hw => ih _ (O.nxlt _ _ h (hw c List.mem_cons_self)) fun d hd => hw d (List.mem_cons_of_mem _ hd)
  exact fun hw => gen w (i, 0) hi hw
theorem gone_lt {L : LD} (O : L.Ok) {i : Nat} (hi : i < L.n) {w : List Nat} (hw : ∀ c ∈ w, c ∈ L.sg) : (L.gone w i).1 < L.n := O.tnlt _ (wk_lt O hi hw)
theorem TableAt.same {C : Addr} {H H' : Hp} {r : Addr} {L : LD} (s : Same H H') (h : TableAt C H r L) : TableAt C H' r L := by
  obtain ⟨dx, dN, dX, dA, tX, tA, tY, xs, as, h0, hX, hx, hA, ha, hTX, hTA, hTY⟩ := h
  exact ⟨dx, dN, dX, dA, tX, tA, tY, xs, as, s _ _ h0, s _ _ hX, hx.same s, s _ _ hA, ha.same s, s _ _ hTX, s _ _ hTA, s _ _ hTY⟩
theorem TableAt.but {C D : Addr} {H H' : Hp} {r tb dx : Addr} {fs : List (Str × V)} {L : LD} (h : TableAt C H tb L) (n : tb ≠ r) (hr : H r = some (.ins D dx fs)) (s : But r H H') : TableAt C H' tb L := by
  obtain ⟨dx, dN, dX, dA, tX, tA, tY, xs, as, h0, hX, hx, hA, ha, hTX, hTA, hTY⟩ := h
  exact ⟨dx, dN, dX, dA, tX, tA, tY, xs, as, s _ _ n h0, s _ _ (ne_of hX hr (by intro q; cases q)) hX, hx.but (fun x => by intro q; cases q) hr s, s _ _ (ne_of hA hr (by intro q; cases q)) hA, ha.but (fun x => by intro q; cases q) hr s, s _ _ (ne_of hTX hr (by intro q; cases q)) hTX, s _ _ (ne_of hTA hr (by intro q; cases q)) hTA, s _ _ (ne_of hTY hr (by intro q; cases q)) hTY⟩
section
variable {P : Program} {w : World} {K : PySem.W.Frag} {mg : Str → Option Value} {base : Heap} {f C : Addr} {fd : FuncData}
end
end Wb
/-! where a map leads, again and again -/
namespace Wb
open PySem L2 WbMin WbS Lz
/-- the state behind m rounds -/
def it (g : Nat → Nat) : Nat → Nat
  | 0 => 0
  | m + 1 => g (it g m)
theorem it_lt {g : Nat → Nat} {n : Nat} (h0 : 0 < n) (h : ∀ i, i < n → g i < n) : ∀ m, it g m < n
  | 0 => h0
  | m + 1 => h _ (it_lt h0 h m)
theorem it_add {g : Nat → Nat} {a b : Nat} (h : it g a = it g b) : ∀ d, it g (a + d) = it g (b + d)
  | 0 => h
  | d + 1 => congrArg g (it_add h d)
/-- what a course knows: k states, those from h on come again -/
structure Crs (g : Nat → Nat) (n k h : Nat) : Prop where
  lt : h < k
  le : k ≤ n
  eq : it g k = it g h
  nd : ∀ i j, i < j → j < k → it g i ≠ it g j
theorem Crs.mul {g : Nat → Nat} {n k h : Nat} (c : Crs g n k h) : ∀ (q m : Nat), h ≤ m → it g (m + q * (k - h)) = it g m
  | 0, m, _ => by rw [Nat.zero_mul, Nat.add_zero]
  | q + 1, m, hm => by
    have e : m + (q + 1) * (k - h) = k + (m - h + q * (k - h)) := by
      have := c.lt
      rw [Nat.add_mul]
      omega
    rw [e, it_add c.eq, show h + (m - h + q * (k - h)) = m + q * (k - h) by omega, Crs.mul c q m hm]
theorem Crs.place {g : Nat → Nat} {n k h m : Nat} (c : Crs g n k h) (hm : k ≤ m) : h + (m - h) % (k - h) < k ∧ it g (h + (m - h) % (k - h)) = it g m := by
  have lt := c.lt
  have pos : 0 < k - h := by omega
  have := Nat.mod_lt (m - h) pos
  refine ⟨by omega, ?_⟩
  have e := c.mul ((m - h) / (k - h)) (h + (m - h) % (k - h)) (by omega)
  have d := Nat.mod_add_div (m - h) (k - h)
  rw [Nat.mul_comm] at d
  rw [← e]
  congr 1
  omega
def nat (g : Nat → Nat) (k : Nat) : List V := (List.range k).map fun m => V.int (it g m : Nat)
def cf (p : Addr) (h k : Nat) : List (Str × V) := putF "again" (.int ((k : Int) - (h : Int))) (putF "head" (.int (h : Nat)) (putF "path" (.ref p) []))
/-- the course stands -/
def CourseAt (C : Addr) (H : Hp) (r : Addr) (g : Nat → Nat) (k h : Nat) : Prop := ∃ dx p, H r = some (.ins C dx (cf p h k)) ∧ H p = some (.lst (nat g k))
theorem CourseAt.same {C : Addr} {H H' : Hp} {r : Addr} {g : Nat → Nat} {k h : Nat} (s : Same H H') : CourseAt C H r g k h → CourseAt C H' r g k h := fun ⟨dx, p, a, b⟩ => ⟨dx, p, s _ _ a, s _ _ b⟩
section
variable {X : Cx}
end
section
variable {P : Program} {w : World} {K : PySem.W.Frag} {mg : Str → Option Value} {base : Heap} {f fP C : Addr} {fd dP : FuncData}
end
end Wb
/-! sorted texts: one order alone -/
namespace Wb
open PySem L2 WbMin WbS
theorem not_lt_trans {a b c : List Nat} (h1 : ¬ b < a) (h2 : ¬ c < b) : ¬ c < a := fun q => by
  have h1' : a ≤ b := h1
  have h2' : b ≤ c := h2
  exact List.le_trans h1' h2' q
def leS (a b : Str) : Prop := ¬ b.cps.toList < a.cps.toList
theorem leS_trans {a b c : Str} (h1 : leS a b) (h2 : leS b c) : leS a c := not_lt_trans h1 h2
theorem lt_of_ltCps {a b : List Nat} : PySem.Spec.ltCps a b = false ↔ ¬ a < b := by
  rw [PyProof.Rows.ltCps_eq, decide_eq_false_iff_not]
theorem rising_pw : ∀ (l : List Str) (p : Str), PyProof.Rows.risingS p l = true → (p :: l).Pairwise leS
  | [], p, _ => List.pairwise_singleton _ _
  | x :: r, p, h => by
    have h' : (!PySem.Spec.ltCps x.cps.toList p.cps.toList && PyProof.Rows.risingS x r) = true := h
    rw [Bool.and_eq_true, Bool.not_eq_true'] at h'
    have px : leS p x := lt_of_ltCps.mp h'.1
    have ih := rising_pw r x h'.2
    refine List.pairwise_cons.mpr ⟨fun y hy => ?_, ih⟩
    rcases List.mem_cons.mp hy with rfl | hy
    · exact px
    · exact leS_trans px ((List.pairwise_cons.mp ih).1 y hy)
theorem sorted_pw : ∀ {l : List Str}, PyProof.Rows.sortedS l = true → l.Pairwise leS
  | [], _ => .nil
  | x :: r, h => rising_pw r x h
theorem pw_sorted {l : List Str} (h : l.Pairwise leS) : PyProof.Rows.sortedS l = true :=
  PyProof.Rows.sortedS_of_pairwise l (h.imp fun {a b} q => lt_of_ltCps.mpr q)
theorem leS_anti {a b : Str} (h1 : leS a b) (h2 : leS b a) : a = b := by
  have e : a.cps.toList = b.cps.toList := List.le_antisymm h1 h2
  rw [← S_of a, ← S_of b, e]
theorem sort_unique : ∀ {ys zs : List Str}, ys.Pairwise leS → zs.Pairwise leS → ys.Perm zs → ys = zs
  | [], zs, _, _, p => (List.Perm.nil_eq p)
  | y :: r, [], _, _, p => by cases List.Perm.eq_nil p
  | y :: r, z :: t, h1, h2, p => by
    have my : y ∈ z :: t := p.mem_iff.mp List.mem_cons_self
    have mz : z ∈ y :: r := p.mem_iff.mpr List.mem_cons_self
    have e : y = z := by
      rcases List.mem_cons.mp my with e | my
      · exact e
      · rcases List.mem_cons.mp mz with e | mz
        · exact e.symm
        · exact leS_anti ((List.pairwise_cons.mp h1).1 z mz) ((List.pairwise_cons.mp h2).1 y my)
    subst e
    rw [sort_unique (List.pairwise_cons.mp h1).2 (List.pairwise_cons.mp h2).2 (List.Perm.cons_inv p)]
/-- two sorted orders of the same texts -/
theorem sorted_same {ys zs : List Str} (h1 : PyProof.Rows.sortedS ys = true) (h2 : PyProof.Rows.sortedS zs = true) (p : ys.Perm zs) : ys = zs := sort_unique (sorted_pw h1) (sorted_pw h2) p
theorem perm_codes {ys : List Str} {l : List Nat} (h : ys.Perm (l.map sOne)) : ∃ m : List Nat, m.Perm l ∧ ys = m.map sOne := by
  have dec : ∀ c, (sOne c).cps.getD 0 0 = c := fun c => rfl
  refine ⟨ys.map fun z => z.cps.getD 0 0, ?_, ?_⟩
  · have q := h.map fun z => z.cps.getD 0 0
    rw [List.map_map, show (fun z : Str => z.cps.getD 0 0) ∘ sOne = id from funext dec, List.map_id] at q
    exact q
  · rw [List.map_map]
    have q : ∀ y ∈ ys, (sOne ∘ fun z : Str => z.cps.getD 0 0) y = y := fun y hy => by
      obtain ⟨c, _, rfl⟩ := List.mem_map.mp (h.mem_iff.mp hy)
      rfl
    exact (List.map_id' ys ▸ List.map_congr_left q).symm
theorem map_one {a b : List Nat} (h : a.map sOne = b.map sOne) : a = b := by
  have dec : ∀ l : List Nat, (l.map sOne).map (fun z : Str => z.cps.getD 0 0) = l := fun l => by
    rw [List.map_map, show (fun z : Str => z.cps.getD 0 0) ∘ sOne = id from funext fun _ => rfl, List.map_id]
  rw [← dec a, h, dec]
theorem sg_same {a b c : List Nat} (h1 : PyProof.Rows.sortedS (a.map sOne) = true) (h2 : PyProof.Rows.sortedS (b.map sOne) = true) (p1 : a.Perm c) (p2 : b.Perm c) : a = b :=
  map_one (sorted_same h1 h2 ((p1.trans p2.symm).map sOne))
theorem Sgs.perm {a b : List Nat} (h : Sgs b) (p : a.Perm b) : Sgs a := ⟨fun c hc => h.low c (p.mem_iff.mp hc), p.nodup_iff.mpr h.nd, by rw [p.length_eq]; exact h.pos, by rw [p.length_eq]; exact h.few⟩
end Wb
/-! a loop is made -/
namespace Wb
open PySem L2 WbMin WbS Lz
def lf (z : Str) (t rr u y tb : Addr) : List (Str × V) := putF "_table" (.ref tb) (putF "_yes" (.ref y) (putF "_turns" (.ref u) (putF "_rows" (.ref rr) (putF "_states" (.ref t) (putF "_signs" (.str z) [])))))
/-- a loop stands at r: its class C, its table's class T -/
def LoopAt (C T : Addr) (H : Hp) (r : Addr) (L : LD) : Prop := ∃ (dx t rr u y tb : Addr) (as bs : List Addr), H r = some (.ins C dx (lf (S L.sg) t rr u y tb)) ∧ Prt L t rr u y as bs H ∧ TableAt T H tb L
theorem LoopAt.same {C T : Addr} {H H' : Hp} {r : Addr} {L : LD} (s : Same H H') : LoopAt C T H r L → LoopAt C T H' r L := fun ⟨dx, t, rr, u, y, tb, as, bs, a, b, c⟩ => ⟨dx, t, rr, u, y, tb, as, bs, s _ _ a, b.same s, c.same s⟩
structure LA where
  (C T O fI fW fAn fSt fTx fGo fOf pW tI tG cI cP cB : Addr)
  (dI dW dAn dSt dTx dGo dOf etI etG ecI ecP ecB : FuncData)
  (signs signof first isword isname isint intfrom stateof rowof turnof chst chro chtu chye orro ortu orye : Addr)
  (dsigns dsignof dfirst disword disname disint dintfrom dstateof drowof dturnof dchst dchro dchtu dchye dorro dortu dorye : FuncData)
/-! ### the mathematics -/
end Wb
/-! a loop is made: the defs -/
namespace Wb
open PySem L2 WbMin WbS Lz
theorem Prt.row {L : LD} {t rr u y q : Addr} {as bs : List Addr} {H : Hp} (h : Prt L t rr u y as bs H) (e : H q = some (.tup [.str (S L.sg), .ref t, .ref rr, .ref u, .ref y])) : RowAt H q L :=
  ⟨t, rr, u, y, as, bs, e, h.ht, h.hr, h.hT, h.hu, h.hU, h.hy⟩
section
variable {P : Program} {w : World} {K : PySem.W.Frag} {mg : Str → Option Value} {base : Heap} {A : LA} {e : Addr}
end
end Wb
/-! a loop is asked -/
namespace Wb
open PySem L2 WbMin WbS Lz
abbrev sIsIntF : Stmt := top 6
/-- where a round leads, and its count -/
def LD.lead (L : LD) (w : List Nat) (i : Nat) : Nat := (L.gone w i).1
def LD.cnt (L : LD) (w : List Nat) (i : Nat) : Int := (L.gone w i).2
def spIntF : Sp := fun vs H Q _ => ∃ i j : Int, vs = [.int i, .int j] ∧ j ≤ i ∧ Q (.bl true) H
theorem lf_none (z : Str) (t rr u y tb : Addr) : (lf z t rr u y tb).lookup ("_check_text" : Str) = none ∧ (lf z t rr u y tb).lookup ("_gone" : Str) = none ∧ (lf z t rr u y tb).lookup ("_answer_of" : Str) = none ∧ (lf z t rr u y tb).lookup ("answer" : Str) = none ∧ (lf z t rr u y tb).lookup ("state" : Str) = none := by
  unfold lf
  refine ⟨?_, ?_, ?_, ?_, ?_⟩ <;> (repeat rw [lookup_putF, if_neg (by decide +kernel)]) <;> rfl
section
variable {P : Program} {w : World} {K : PySem.W.Frag} {mg : Str → Option Value} {base : Heap} {A : LA} {e : Addr} {f fI : Addr} {fd dI : FuncData}
theorem scIF : FnScope ["value", "least"] ["value", "least"] (defScope sIsIntF) := ⟨rfl, rfl, rfl, by decide +kernel, rfl, by decide +kernel, by decide +kernel⟩
theorem ok_intf (F : Fun K "is_integer_from" "is_integer_from" sIsIntF f fd) (Z : Free mg) (DI : Def K mg "is_integer" sIsInt ["value"] fI dI) : FnOk P w K mg base CX0 2 f fd ["value", "least"] spIntF := by
  have GI : FnOk P w K mg base CX0 1 fI dI ["value"] spIsIntT := ok_isintT DI.F Z
  refine F.ok scIF (fun vs H Q E h => ?_) (fun cdv A outer s H vs Q E hr h => ?_)
  · obtain ⟨i, j, rfl, _⟩ := h
    rfl
  · obtain ⟨i, j, rfl, le, k⟩ := h
    refine ⟨_, pss_one (ps_ret (pe_and (pe_call GI hr rfl DI.g DI.kp DI.b .nil pass0 (pa_cons (pv 0) pa_nil)) (pe_one (pe_cmpR op_ge (pv 0) (pv 1) (nomark _))))), ?_⟩
    refine ⟨_, rfl, i, rfl, true, rfl, _, rfl, _, rfl, _, _, rfl, rfl, ?_⟩
    have q : decide (j ≤ i) = true := decide_eq_true le
    show Q (.bl (decide (j ≤ i))) H
    rw [q]
    exact k
end
end Wb
/-! the ways of a statement, an expression and a test brought together -/
namespace Lz
open PySem PySem.Spec PyProof.Rows L2
section
variable {X : Cx}
def tJoin (t : TS) : TS := fun D σ H => ∃ T : L2.St → Hp → Prop, t { D with nx := T } σ H ∧ ∀ σ' H', T σ' H' → D.nx σ' H'
theorem ps_join {st : Stmt} {t : TS} (h : PS X st t) : PS X st (tJoin t) := by
  refine ⟨fun pins s σ H D I ⟨T, q, k⟩ => thn (h.run pins s σ H _ I q) fun f s' z => ?_⟩
  cases f with
  | next => obtain ⟨σ', H', I', w⟩ := z; exact ⟨σ', H', I', k _ _ w⟩
  | ret u => exact z
  | brk => exact z
  | cont => exact z
end
end Lz
namespace Wb
open PySem L2 WbMin WbS Lz
theorem pool_ne {H : Hp} {p F : Addr} {zs : List Str} (hp : PoolAt H p) (h : H F = some (.lst (zs.map V.str))) : F ≠ p := by
  obtain ⟨x, y, z, e3, _⟩ := hp
  intro q
  subst q
  rw [e3] at h
  injection h with q
  injection q with q
  cases zs with
  | nil => cases q
  | cons a zs => cases q
theorem nat_of {d : Int} (h : 0 ≤ d) : ∃ n : Nat, d = (n : Int) := ⟨d.toNat, (Int.toNat_of_nonneg h).symm⟩
def marks : List Nat := abc ++ (List.range 10).map (· + 48)
theorem cut_to {l : List Nat} {i : Nat} : cutS (S l) none (some (i : Int)) = S (l.take i) := by
  show S _ = S _
  rw [HT.sIx_none, HT.sIx_nat, S_len, S_cps, List.drop_zero, Nat.sub_zero]
  refine congrArg S ?_
  by_cases h : i ≤ l.length
  · rw [Nat.min_eq_left h]
  · rw [Nat.min_eq_right (by omega), List.take_length, List.take_of_length_le (by omega)]
theorem cut_from {l : List Nat} {i : Nat} : cutS (S l) (some (i : Int)) none = S (l.drop i) := by
  show S _ = S _
  rw [HT.sIx_none, HT.sIx_nat, S_len, S_cps]
  refine congrArg S ?_
  by_cases h : i ≤ l.length
  · rw [Nat.min_eq_left h]
    exact List.take_of_length_le (by rw [List.length_drop]; omega)
  · rw [Nat.min_eq_right (by omega), Nat.sub_self, List.take_zero, List.drop_eq_nil_of_le (by omega)]
theorem eqv_nil {α : Type} (f : α → PyData) : ∀ zs : List α, PyData.eqv (.list (zs.map f)) (.list []) = zs.isEmpty
  | [] => rfl
  | _ :: _ => rfl
theorem ok_codes {l : List Nat} (h : ∀ c ∈ l, c < 1000) : PyData.strOk (S l) = true := by
  unfold PyData.strOk
  rw [Array.all_eq_true]
  intro i hi
  have m : (S l).cps[i] ∈ l := by
    have q : (S l).cps[i] ∈ (S l).cps.toList := Array.mem_toList_iff.mpr (Array.getElem_mem hi)
    rwa [S_cps] at q
  have q := h _ m
  simp only [decide_eq_true_eq]
  omega
theorem IsNm.low {l : List Nat} (h : IsNm l) : ∀ c ∈ l, c < 1000 := fun c hc => by
  have := h.ok c hc
  omega
/-- the spare names -/
def spare : List Str := (marks.take 9).map fun c => S [122, c]
section
variable {P : Program} {w : World} {K : PySem.W.Frag} {mg : Str → Option Value} {base : Heap} {f fD fN : Addr} {fd fdD dN : FuncData}
end
end Wb
/-! drawn names and amounts -/
namespace Wb
open PySem L2 WbMin WbS Lz
section
variable {P : Program} {w : World} {K : PySem.W.Frag} {mg : Str → Option Value} {base : Heap} {f fD fN : Addr} {fd fdD dN : FuncData}
end
end Wb
/-! a model of a loop is drawn -/
namespace Wb
open PySem L2 WbMin WbS Lz
/-- what stands at a state and a sign, at a state -/
def Entry2 (H : Hp) (kvs : List (List Key × V)) (z : Str) (c : Nat) (y : Str) (m : Int) : Prop := ∃ t, valV kvs (kk (z, S [c])) = some (.ref t) ∧ H t = some (.tup [.str y, .int m])
def Entry1 (H : Hp) (kvs : List (Key × V)) (z y : Str) (m : Int) : Prop := ∃ t, valV kvs (k1 z) = some (.ref t) ∧ H t = some (.tup [.str y, .int m])
/-- tuples stay -/
def Tk (H H' : Hp) : Prop := ∀ b x, H b = some (.tup x) → H' b = some (.tup x)
theorem Tk.refl (H : Hp) : Tk H H := fun _ _ h => h
theorem Tk.trans {H H1 H2 : Hp} (a : Tk H H1) (b : Tk H1 H2) : Tk H H2 := fun c x h => b c x (a c x h)
theorem Tk.of {H H' : Hp} (s : Same H H') : Tk H H' := fun b _ h => s b _ h
theorem pool_other {H : Hp} {p b : Addr} {o : HO} (hp : PoolAt H p) (h : H b = some o) (n : ∀ x y z : Int, o ≠ .lst [.int x, .int y, .int z]) : b ≠ p := by
  obtain ⟨x, y, z, e, _⟩ := hp
  intro q
  subst q
  rw [e] at h
  exact n x y z (Option.some.inj h).symm
theorem Tk.but {H H' : Hp} {p : Addr} (hp : PoolAt H p) (s : But p H H') : Tk H H' := fun b x h => s b _ (pool_other hp h (fun _ _ _ q => by cases q)) h
theorem Tk.put {H : Hp} {S : Addr} {o o' : HO} (h : H S = some o) (n : ∀ x, o ≠ .tup x) : Tk H (L2.upd H S o') := fun b x e => by
  rw [upd_ne (ne_of e h (n x).symm)]
  exact e
theorem Tk.new {H : Hp} {S : Addr} {o' : HO} (h : H S = none) : Tk H (L2.upd H S o') := fun b x e => by
  rw [upd_ne (ne_of_none e h)]
  exact e
theorem Entry2.tk {H H' : Hp} {kvs : List (List Key × V)} {z y : Str} {c : Nat} {m : Int} (s : Tk H H') : Entry2 H kvs z c y m → Entry2 H' kvs z c y m := fun ⟨t, a, b⟩ => ⟨t, a, s _ _ b⟩
theorem Entry1.tk {H H' : Hp} {kvs : List (Key × V)} {z y : Str} {m : Int} (s : Tk H H') : Entry1 H kvs z y m → Entry1 H' kvs z y m := fun ⟨t, a, b⟩ => ⟨t, a, s _ _ b⟩
/-- a model of a loop stands: letters, states, steps, ends, yes states -/
def MdAt (H : Hp) (q : Addr) (L : LD) : Prop := ∃ (A Sd Ed O : Addr) (kvs : List (List Key × V)) (ws : List (Key × V)), H q = some (.lst [.str (S L.sg), .ref A, .ref Sd, .ref Ed, .ref O]) ∧ H A = some (.lst (L.st.map V.str)) ∧ H Sd = some (.dT kvs) ∧ H Ed = some (.dK ws) ∧
  (∀ i c, i < L.n → c ∈ L.sg → Entry2 H kvs (L.nm i) c (L.nm (L.nx i c)) (L.am i c)) ∧ (∀ i, i < L.n → Entry1 H ws (L.nm i) (L.nm (L.tn i)) (L.ta i)) ∧ H O = some (.lst (L.yes.map V.str))
theorem MdAt.but {H H' : Hp} {p q : Addr} {L : LD} (hp : PoolAt H p) (s : But p H H') : MdAt H q L → MdAt H' q L := fun ⟨A, Sd, Ed, O, kvs, ws, h0, hA, hS, hE, e2, e1, hO⟩ =>
  have tk := Tk.but hp s
  ⟨A, Sd, Ed, O, kvs, ws, s _ _ (pool_other hp h0 fun _ _ _ q => by cases q) h0, s _ _ (pool_ne hp hA) hA, s _ _ (pool_other hp hS fun _ _ _ q => by cases q) hS, s _ _ (pool_other hp hE fun _ _ _ q => by cases q) hE,
    fun i c hi hc => (e2 i c hi hc).tk tk, fun i hi => (e1 i hi).tk tk, s _ _ (pool_ne hp hO) hO⟩
theorem MdAt.same {H H' : Hp} {q : Addr} {L : LD} (s : Same H H') : MdAt H q L → MdAt H' q L := fun ⟨A, Sd, Ed, O, kvs, ws, h0, hA, hS, hE, e2, e1, hO⟩ =>
  ⟨A, Sd, Ed, O, kvs, ws, s _ _ h0, s _ _ hA, s _ _ hS, s _ _ hE, fun i c hi hc => (e2 i c hi hc).tk (Tk.of s), fun i hi => (e1 i hi).tk (Tk.of s), s _ _ hO⟩
/-- amounts that are not too great -/
structure LD.Small (L : LD) : Prop where
  am : ∀ i c, i < L.n → c ∈ L.sg → (L.am i c).natAbs < 2 ^ 110
  ta : ∀ i, i < L.n → (L.ta i).natAbs < 2 ^ 110
/-- drawn amounts are smaller yet: two of them together are small -/
structure LD.Tiny (L : LD) : Prop where
  am : ∀ i c, i < L.n → c ∈ L.sg → (L.am i c).natAbs < 2 ^ 100
  ta : ∀ i, i < L.n → (L.ta i).natAbs < 2 ^ 100
theorem LD.Tiny.small {L : LD} (t : L.Tiny) : L.Small := ⟨fun i c hi hc => Nat.lt_trans (t.am i c hi hc) (by decide), fun i hi => Nat.lt_trans (t.ta i hi) (by decide)⟩
/-- the entries of the pairs that are done -/
def E2s (H : Hp) (kvs : List (List Key × V)) (nm : Nat → Str) (n : Nat) (nx : Nat → Nat → Nat) (am : Nat → Nat → Int) (Dn : Nat → Nat → Prop) : Prop := ∀ i c, Dn i c → nx i c < n ∧ (am i c).natAbs < 2 ^ 100 ∧ Entry2 H kvs (nm i) c (nm (nx i c)) (am i c)
def E1s (H : Hp) (ws : List (Key × V)) (nm : Nat → Str) (n : Nat) (tn : Nat → Nat) (ta : Nat → Int) (k : Nat) : Prop := ∀ i, i < k → tn i < n ∧ (ta i).natAbs < 2 ^ 100 ∧ Entry1 H ws (nm i) (nm (tn i)) (ta i)
theorem E2s.tk {H H' : Hp} {kvs : List (List Key × V)} {nm : Nat → Str} {n : Nat} {nx : Nat → Nat → Nat} {am : Nat → Nat → Int} {Dn : Nat → Nat → Prop} (s : Tk H H') (h : E2s H kvs nm n nx am Dn) : E2s H' kvs nm n nx am Dn := fun i c d => ⟨(h i c d).1, (h i c d).2.1, (h i c d).2.2.tk s⟩
theorem E1s.tk {H H' : Hp} {ws : List (Key × V)} {nm : Nat → Str} {n : Nat} {tn : Nat → Nat} {ta : Nat → Int} {k : Nat} (s : Tk H H') (h : E1s H ws nm n tn ta k) : E1s H' ws nm n tn ta k := fun i d => ⟨(h i d).1, (h i d).2.1, (h i d).2.2.tk s⟩
theorem kk_eq {z y : Str} {a c : Nat} (h : kk (z, S [a]) = kk (y, S [c])) : z = y ∧ a = c := by
  have q := kk_inj h
  injection q with q1 q2
  refine ⟨q1, ?_⟩
  have := S_inj q2
  injection this
theorem E2s.put {H : Hp} {kvs : List (List Key × V)} {nm : Nat → Str} {n : Nat} {nx : Nat → Nat → Nat} {am : Nat → Nat → Int} {Dn Dn' : Nat → Nat → Prop} (h : E2s H kvs nm n nx am Dn) {i c e : Nat} {m : Int} {t : Addr} (ht : H t = some (.tup [.str (nm e), .int m])) (he : e < n) (hm : m.natAbs < 2 ^ 100) (hd : ∀ i' c', Dn' i' c' → Dn i' c' ∨ (nm i' = nm i ∧ c' = c)) :
    ∃ nx' am', E2s H (putK kvs (kk (nm i, S [c])) (.ref t)) nm n nx' am' Dn' := by
  refine ⟨fun i' c' => if nm i' = nm i ∧ c' = c then e else nx i' c', fun i' c' => if nm i' = nm i ∧ c' = c then m else am i' c', fun i' c' d => ?_⟩
  dsimp only
  by_cases q : nm i' = nm i ∧ c' = c
  · rw [if_pos q, if_pos q]
    refine ⟨he, hm, t, ?_, ht⟩
    rw [valV_put, if_pos (by rw [q.1, q.2])]
  · rw [if_neg q, if_neg q]
    have h0 := h i' c' ((hd i' c' d).resolve_right q)
    obtain ⟨t', a, b⟩ := h0.2.2
    refine ⟨h0.1, h0.2.1, t', ?_, b⟩
    rw [valV_put, if_neg fun z => q (kk_eq z)]
    exact a
theorem E1s.put {H : Hp} {ws : List (Key × V)} {nm : Nat → Str} {n : Nat} {tn : Nat → Nat} {ta : Nat → Int} {k : Nat} (h : E1s H ws nm n tn ta k) {e : Nat} {m : Int} {t : Addr} (ht : H t = some (.tup [.str (nm e), .int m])) (he : e < n) (hm : m.natAbs < 2 ^ 100) :
    ∃ tn' ta', E1s H (putK ws (k1 (nm k)) (.ref t)) nm n tn' ta' (k + 1) := by
  refine ⟨fun i' => if nm i' = nm k then e else tn i', fun i' => if nm i' = nm k then m else ta i', fun i' d => ?_⟩
  dsimp only
  by_cases q : nm i' = nm k
  · rw [if_pos q, if_pos q]
    refine ⟨he, hm, t, ?_, ht⟩
    rw [valV_put, if_pos (by rw [q])]
  · rw [if_neg q, if_neg q]
    have h0 := h i' (by
      have : i' ≠ k := fun z => q (by rw [z])
      omega)
    obtain ⟨t', a, b⟩ := h0.2.2
    refine ⟨h0.1, h0.2.1, t', ?_, b⟩
    rw [valV_put, if_neg fun z => q (k1_inj z)]
    exact a
/-- the same state once more -/
theorem E1s.over {H : Hp} {ws : List (Key × V)} {nm : Nat → Str} {n : Nat} {tn : Nat → Nat} {ta : Nat → Int} {k : Nat} (h : E1s H ws nm n tn ta (k + 1)) {e : Nat} {m : Int} {t : Addr} (ht : H t = some (.tup [.str (nm e), .int m])) (he : e < n) (hm : m.natAbs < 2 ^ 100) :
    ∃ tn' ta', E1s H (putK ws (k1 (nm k)) (.ref t)) nm n tn' ta' (k + 1) := E1s.put (k := k) (fun i d => h i (by omega)) ht he hm
def nmOf (st : List Str) (i : Nat) : Str := st.getD i (S [])
/-- a model while it is drawn -/
structure MSt (H H' : Hp) (p A Sd Ed : Addr) (st : List Str) (Dn : Nat → Nat → Prop) (k l1 l2 : Nat) : Prop where
  ex : ∃ (kvs : List (List Key × V)) (ws : List (Key × V)) (nx : Nat → Nat → Nat) (am : Nat → Nat → Int) (tn : Nat → Nat) (ta : Nat → Int), H' Sd = some (.dT kvs) ∧ H' Ed = some (.dK ws) ∧ kvs.length ≤ l1 ∧ ws.length ≤ l2 ∧ E2s H' kvs (nmOf st) st.length nx am Dn ∧ E1s H' ws (nmOf st) st.length tn ta k
  hA : H' A = some (.lst (st.map V.str))
  hp : PoolAt H' p
  b : But p H H'
  nS : H Sd = none
  nE : H Ed = none
section
variable {H H1 H2 : Hp} {p A Sd Ed : Addr} {st : List Str} {Dn Dn' : Nat → Nat → Prop} {k l1 l2 : Nat}
theorem MSt.but (q : MSt H H1 p A Sd Ed st Dn k l1 l2) (hp : PoolAt H2 p) (s : But p H1 H2) : MSt H H2 p A Sd Ed st Dn k l1 l2 := by
  obtain ⟨⟨kvs, ws, nx, am, tn, ta, hS, hE, c1, c2, e2, e1⟩, hA, hp1, b, nS, nE⟩ := q
  have tk := Tk.but hp1 s
  exact ⟨⟨kvs, ws, nx, am, tn, ta, s _ _ (pool_other hp1 hS fun _ _ _ q => by cases q) hS, s _ _ (pool_other hp1 hE fun _ _ _ q => by cases q) hE, c1, c2, e2.tk tk, e1.tk tk⟩, s _ _ (pool_ne hp1 hA) hA, hp, b.trans s, nS, nE⟩
theorem MSt.new (q : MSt H H1 p A Sd Ed st Dn k l1 l2) {t : Addr} {o : HO} (h : H1 t = none) : MSt H (L2.upd H1 t o) p A Sd Ed st Dn k l1 l2 := by
  obtain ⟨⟨kvs, ws, nx, am, tn, ta, hS, hE, c1, c2, e2, e1⟩, hA, hp1, b, nS, nE⟩ := q
  have tk : Tk H1 (L2.upd H1 t o) := Tk.new h
  have s : Same H1 (L2.upd H1 t o) := Same.put (Same.refl H1) h
  exact ⟨⟨kvs, ws, nx, am, tn, ta, s _ _ hS, s _ _ hE, c1, c2, e2.tk tk, e1.tk tk⟩, s _ _ hA, hp1.up h, b.upd h, nS, nE⟩
theorem MSt.up (q : MSt H H1 p A Sd Ed st Dn k l1 l2) {R : Addr} {o : HO} {xs : List V} (h : H1 R = some (.lst xs)) (nA : R ≠ A) (np : R ≠ p) (n0 : H R = none) : MSt H (L2.upd H1 R o) p A Sd Ed st Dn k l1 l2 := by
  obtain ⟨⟨kvs, ws, nx, am, tn, ta, hS, hE, c1, c2, e2, e1⟩, hA, hp1, b, nS, nE⟩ := q
  have tk : Tk H1 (L2.upd H1 R o) := Tk.put h (fun x => by intro z; cases z)
  exact ⟨⟨kvs, ws, nx, am, tn, ta, (upd_ne (ne_of hS h (by intro z; cases z))).trans hS, (upd_ne (ne_of hE h (by intro z; cases z))).trans hE, c1, c2, e2.tk tk, e1.tk tk⟩, (upd_ne nA.symm).trans hA, hp1.put np, b.new n0, nS, nE⟩
theorem MSt.put1 (q : MSt H H1 p A Sd Ed st Dn k l1 l2) {e : Nat} {m : Int} {t : Addr} (ht : H1 t = some (.tup [.str (nmOf st e), .int m])) (he : e < st.length) (hm : m.natAbs < 2 ^ 100) (hl : l2 < 100) :
    ∃ H4, DPut H1 Ed (.str (nmOf st k)) (.ref t) H4 ∧ MSt H H4 p A Sd Ed st Dn (k + 1) l1 (l2 + 1) := by
  obtain ⟨⟨kvs, ws, nx, am, tn, ta, hS, hE, c1, c2, e2, e1⟩, hA, hp1, b, nS, nE⟩ := q
  have nEp : Ed ≠ p := pool_other hp1 hE fun _ _ _ q => by cases q
  refine ⟨_, DPut.k (k := k1 (nmOf st k)) hE (by rw [sizeLine_eq]; omega), ?_⟩
  have tk : Tk H1 (L2.upd H1 Ed (.dK (putK ws (k1 (nmOf st k)) (.ref t)))) := Tk.put hE (fun x => by intro z; cases z)
  obtain ⟨tn', ta', e1'⟩ := e1.put ht he hm
  refine ⟨⟨kvs, _, nx, am, tn', ta', (upd_ne (ne_of hS hE (by intro z; cases z))).trans hS, upd_same, c1, ?_, e2.tk tk, e1'.tk tk⟩, (upd_ne (ne_of hA hE (by intro z; cases z))).trans hA, hp1.put nEp, b.new nE, nS, nE⟩
  exact Nat.le_trans (length_putK ws _ _) (by omega)
theorem MSt.over (q : MSt H H1 p A Sd Ed st Dn (k + 1) l1 l2) {e : Nat} {m : Int} {t : Addr} (ht : H1 t = some (.tup [.str (nmOf st e), .int m])) (he : e < st.length) (hm : m.natAbs < 2 ^ 100) (hl : l2 < 100) :
    ∃ H4, DPut H1 Ed (.str (nmOf st k)) (.ref t) H4 ∧ MSt H H4 p A Sd Ed st Dn (k + 1) l1 (l2 + 1) := by
  obtain ⟨⟨kvs, ws, nx, am, tn, ta, hS, hE, c1, c2, e2, e1⟩, hA, hp1, b, nS, nE⟩ := q
  exact MSt.put1 (k := k) ⟨⟨kvs, ws, nx, am, tn, ta, hS, hE, c1, c2, e2, fun i d => e1 i (by omega)⟩, hA, hp1, b, nS, nE⟩ ht he hm hl
end
section
variable {P : Program} {w : World} {K : PySem.W.Frag} {mg : Str → Option Value} {base : Heap} {f fD fN fNs fA : Addr} {fd fdD dN dNs dA : FuncData}
end
end Wb
/-! a list unpacked into names -/
namespace Lz
open PySem PySem.W PySem.Spec PyProof.Rows
section
variable {prog : Program} {w : World} {A : Around} {E : Value → Shared → Prop} {I l : Addr} {St : Nat → Shared → Prop} {items : Array Value} {s : Shared}
end
end Lz
namespace Lz
open PySem PySem.Spec PyProof.Rows L2
section
variable {X : Cx}
end
end Lz
/-! all that a loop is made of, in its one order; the program's loop -/
namespace Wb
open PySem L2 WbMin WbS Lz
def LD.srt (L : LD) (sg : List Nat) : LD := { L with sg := sg }
theorem LD.Ok.srt {L : LD} (O : L.Ok) {sg : List Nat} (p : sg.Perm L.sg) : (L.srt sg).Ok :=
  ⟨⟨fun c hc => O.sgs.low c (p.mem_iff.mp hc), p.nodup_iff.mpr O.sgs.nd, by show 0 < sg.length; rw [p.length_eq]; exact O.sgs.pos, by show sg.length ≤ 4; rw [p.length_eq]; exact O.sgs.few⟩, O.sts, fun i c hi hc => O.nxlt i c hi (p.mem_iff.mp hc), O.tnlt⟩
theorem Tups.append {H : Hp} : ∀ {as bs : List Addr} {xs ys : List (List V)}, Tups H as xs → Tups H bs ys → Tups H (as ++ bs) (xs ++ ys)
  | [], _, [], _, _, h => h
  | _ :: _, _, _ :: _, _, h, g => ⟨h.1, Tups.append h.2 g⟩
  | [], _, _ :: _, _, h, _ => h.elim
  | _ :: _, _, [], _, h, _ => h.elim
section
variable {P : Program} {w : World} {K : PySem.W.Frag} {mg : Str → Option Value} {base : Heap} {f fL : Addr} {fd dL : FuncData} {A : LA} {e : Addr}
end
end Wb
/-! what a loop's answers hang on: the map of a word alone -/
namespace Wb
open PySem L2 WbMin WbS Lz
theorem it_congr {g g' : Nat → Nat} {n : Nat} (h0 : 0 < n) (lt : ∀ i, i < n → g i < n) (h : ∀ i, i < n → g i = g' i) : ∀ m, it g m = it g' m
  | 0 => rfl
  | m + 1 => by
    show g (it g m) = g' (it g' m)
    rw [← it_congr h0 lt h m]
    exact h _ (it_lt h0 lt m)
theorem fold_fst (L : LD) : ∀ (w : List Nat) (p p' : Nat × Int), p.1 = p'.1 → (w.foldl L.stp p).1 = (w.foldl L.stp p').1
  | [], _, _, h => h
  | c :: w, p, p', h => fold_fst L w _ _ (by show L.nx p.1 c = L.nx p'.1 c; rw [h])
theorem wk_app (L : LD) (u v : List Nat) (i : Nat) : (L.wk (u ++ v) i).1 = (L.wk v (L.wk u i).1).1 := by
  unfold LD.wk
  rw [List.foldl_append]
  exact fold_fst L v _ _ rfl
theorem lead_of {L : LD} {u v : List Nat} {i : Nat} (h : (L.wk u i).1 = (L.wk v i).1) : L.lead u i = L.lead v i := congrArg L.tn h
/-- a word that leads from each state where the other one leads -/
def Alike (L : LD) (u v : List Nat) : Prop := ∀ i, i < L.n → (L.wk u i).1 = (L.wk v i).1
theorem Alike.left {L : LD} {u v w : List Nat} (h : Alike L u v) : Alike L (u ++ w) (v ++ w) := fun i hi => by rw [wk_app, wk_app, h i hi]
theorem Alike.right {L : LD} (O : L.Ok) {u v w : List Nat} (hw : ∀ c ∈ w, c ∈ L.sg) (h : Alike L u v) : Alike L (w ++ u) (w ++ v) := fun i hi => by rw [wk_app, wk_app, h _ (wk_lt O hi hw)]
theorem Alike.it {L : LD} (O : L.Ok) {u v : List Nat} (hu : ∀ c ∈ u, c ∈ L.sg) (h : Alike L u v) (m : Nat) : it (L.lead u) m = it (L.lead v) m :=
  it_congr O.sts.pos (fun i hi => gone_lt O hi hu) (fun i hi => lead_of (h i hi)) m
theorem LoopAt.but {C T : Addr} {H H' : Hp} {p r : Addr} {L : LD} (hp : PoolAt H p) (s : But p H H') : LoopAt C T H r L → LoopAt C T H' r L := by
  rintro ⟨dx, t, rr, u, y, tb, as, bs, h0, pr, dx', dN, dX, dA, tX, tA, tY, xs, as', g0, hX, hx, hA, ha, hTX, hTA, hTY⟩
  obtain ⟨a, b, c, e, _⟩ := id hp
  have no : ∀ x, HO.lst [V.int a, .int b, .int c] ≠ HO.tup x := fun x q => by cases q
  exact ⟨dx, t, rr, u, y, tb, as, bs, s _ _ (pool_other hp h0 fun _ _ _ q => by cases q) h0, pr.but no e s, dx', dN, dX, dA, tX, tA, tY, xs, as', s _ _ (pool_other hp g0 fun _ _ _ q => by cases q) g0, s _ _ (pool_other hp hX fun _ _ _ q => by cases q) hX, hx.but no e s,
    s _ _ (pool_other hp hA fun _ _ _ q => by cases q) hA, ha.but no e s, s _ _ (pool_other hp hTX fun _ _ _ q => by cases q) hTX, s _ _ (pool_other hp hTA fun _ _ _ q => by cases q) hTA, s _ _ (pool_other hp hTY fun _ _ _ q => by cases q) hTY⟩
theorem LoopAt.hd {C T : Addr} {H : Hp} {r : Addr} {L : LD} (h : LoopAt C T H r L) : ∃ (dx : Addr) (fs : List (Str × V)), H r = some (.ins C dx fs) ∧ fs.lookup ("answer" : Str) = none ∧ fs.lookup ("state" : Str) = none := by
  obtain ⟨dx, t, rr, u, y, tb, as, bs, h0, pr, TA⟩ := h
  obtain ⟨_, _, _, x4, x5⟩ := lf_none (S L.sg) t rr u y tb
  exact ⟨dx, _, h0, x4, x5⟩
theorem MdAt.hd {H : Hp} {q : Addr} {L : LD} (h : MdAt H q L) : ∃ A Sd Ed O : Addr, H q = some (.lst [.str (S L.sg), .ref A, .ref Sd, .ref Ed, .ref O]) ∧ H A = some (.lst (L.st.map V.str)) ∧ H O = some (.lst (L.yes.map V.str)) := by
  obtain ⟨A, Sd, Ed, O, kvs, ws, h0, hA, hS, hE, e2, e1, hO⟩ := h
  exact ⟨A, Sd, Ed, O, h0, hA, hO⟩
theorem PoolAt.same {H H' : Hp} {p : Addr} (h : PoolAt H p) (s : Same H H') : PoolAt H' p := by
  obtain ⟨a, b, c, e, r⟩ := h
  exact ⟨a, b, c, s _ _ e, r⟩
end Wb
/-! totals of a loop: the mathematics -/
namespace Wb
open PySem L2 WbMin WbS Lz
/-- the sum of the first ones -/
def tot (F : Nat → Int) : Nat → Int
  | 0 => 0
  | n + 1 => tot F n + F n
theorem tot_again {F : Nat → Int} {h p : Nat} (per : ∀ m, h ≤ m → F (m + p) = F m) : ∀ d, tot F (h + d + p) - tot F (h + d) = tot F (h + p) - tot F h
  | 0 => rfl
  | d + 1 => by
    have ih := tot_again per d
    have e1 : tot F (h + (d + 1) + p) = tot F (h + d + p) + F (h + d + p) := by
      rw [show h + (d + 1) + p = (h + d + p) + 1 by omega] <;> rfl
    have e2 : tot F (h + (d + 1)) = tot F (h + d) + F (h + d) := rfl
    have e3 := per (h + d) (by omega)
    omega
theorem tot_far {F : Nat → Int} {h p : Nat} (per : ∀ m, h ≤ m → F (m + p) = F m) (r : Nat) : ∀ t : Nat, tot F (h + r + t * p) = (t : Int) * (tot F (h + p) - tot F h) + tot F (h + r)
  | 0 => by rw [Nat.zero_mul, Nat.add_zero]; simp
  | t + 1 => by
    have ih := tot_far per r t
    have e := tot_again per (r + t * p)
    have e1 : h + r + (t + 1) * p = h + (r + t * p) + p := by rw [Nat.add_mul]; omega
    have e2 : h + r + t * p = h + (r + t * p) := by omega
    rw [e1]
    rw [e2] at ih
    have e3 : ((t + 1 : Nat) : Int) * (tot F (h + p) - tot F h) = (t : Int) * (tot F (h + p) - tot F h) + (tot F (h + p) - tot F h) := by
      rw [Int.natCast_add, Int.add_mul]
      simp
    rw [e3]
    omega
theorem LD.Small.srt {L : LD} (s : L.Small) {sg : List Nat} (p : sg.Perm L.sg) : (L.srt sg).Small := ⟨fun i c hi hc => s.am i c hi (p.mem_iff.mp hc), s.ta⟩
def LD.cf (L : LD) (w : List Nat) (m : Nat) : Int := L.cnt w (it (L.lead w) m)
end Wb
namespace Wb
open PySem L2 WbMin WbS Lz
abbrev sTurns : Stmt := top 24
abbrev sInit : Stmt := inClass (top 27) 0
/-! ### the mathematics: turnings as lists of codes -/
def rot (l : List Nat) (i : Nat) : List Nat := l.drop i ++ l.take i
def turnsS (l : List Nat) : List Str := (List.range l.length).map fun i => S (rot l i)
def leastOf : List Str → Str
  | [] => S []
  | x :: xs => minS x xs
def textS (l : List Nat) : Str := leastOf (turnsS l)
def perN (l : List Nat) : Nat := (WbSet.differ (turnsS l)).length
theorem rot_len (l : List Nat) (i : Nat) : (rot l i).length = l.length := by
  unfold rot
  rw [List.length_append, List.length_drop, List.length_take]
  omega
theorem turns_len (l : List Nat) : (turnsS l).length = l.length := by
  unfold turnsS
  rw [List.length_map, List.length_range]
theorem least_cons {xs : List Str} (h : 0 < xs.length) : ∃ x r, xs = x :: r ∧ leastOf xs = minS x r := by
  cases xs with
  | nil => cases h
  | cons x r => exact ⟨x, r, rfl, rfl⟩
/-! ### the object -/
def rf (t : Str) (n : Int) : List (Str × V) := putF "_period" (.int n) (putF "_text" (.str t) [])
theorem tp_ : ¬ (("_text" : Str) = "_period") := by decide +kernel
theorem rf_text (t : Str) (n : Int) : (rf t n).lookup ("_text" : Str) = some (.str t) := by
  unfold rf
  rw [lookup_putF, if_neg tp_, lookup_putF, if_pos rfl]
/-- the ring of the word l stands at r -/
def RingAt (C : Addr) (H : Hp) (r : Addr) (l : List Nat) : Prop := IsW l ∧ ∃ dx, H r = some (.ins C dx (rf (textS l) (perN l)))
theorem RingAt.same {C : Addr} {H H' : Hp} {r : Addr} {l : List Nat} (h : RingAt C H r l) (s : Same H H') : RingAt C H' r l := by
  obtain ⟨W, dx, e⟩ := h
  exact ⟨W, dx, s _ _ e⟩
theorem RingAt.but {C p : Addr} {H H' : Hp} {r : Addr} {l : List Nat} (h : RingAt C H r l) (s : But p H H') (n : r ≠ p) : RingAt C H' r l := by
  obtain ⟨W, dx, e⟩ := h
  exact ⟨W, dx, s _ _ n e⟩
def spTurns : Sp := fun vs H Q _ => ∃ l : List Nat, vs = [.str (S l)] ∧ IsW l ∧ ∀ (a : Addr) (H' : Hp), H a = none → Same H H' → H' a = some (.lst ((turnsS l).map V.str)) → Q (.ref a) H'
def spInit (C : Addr) : Sp := fun vs H Q _ => ∃ (H0 : Hp) (r dx : Addr) (l : List Nat), vs = [.ref r, .str (S l)] ∧ IsW l ∧ Same H0 H ∧ H0 r = none ∧ H r = some (.ins C dx []) ∧ ∀ H' : Hp, Same H0 H' → RingAt C H' r l → Q .non H'
/-- what the top has written of the class -/
structure Txt (K : PySem.W.Frag) (mg : Str → Option Value) (C : Addr) : Prop where
  cl : Cls K C
  nT : NoAttr K C "_text"
  nP : NoAttr K C "_period"
  gC : mg "Ring" = some (.ref C)
  hcl : PySem.W.findIn K (.ref C) "__class__" = some (some (.builtin "object.__class__"))
  hgt : PySem.W.specialIn K (.builtin "object.__class__") "__get__" = some (some (.builtin "getset_descriptor.__get__"))
  htk : PySem.W.takesIn K (.builtin "object.__class__") = some true
  hob : PySem.W.mroIn K C (.type "object") = some true
section
variable {P : Program} {w : World} {K : PySem.W.Frag} {mg : Str → Option Value} {base : Heap} {f fD fS fW : Addr} {fd fdD fdS fdW : FuncData}
theorem scT : FnScope ["word", "place"] ["word"] (defScope sTurns) := ⟨rfl, rfl, rfl, by decide +kernel, rfl, by decide +kernel, by decide +kernel⟩
theorem ok_turns (F : Fun K "_all_turnings" "_all_turnings" sTurns f fd) (Z : Free mg) : FnOk P w K mg base CX0 1 f fd ["word"] spTurns := by
  refine F.ok scT (fun vs H Q E h => ?_) (fun cdv A outer s H vs Q E hr h => ?_)
  · obtain ⟨l, rfl, _⟩ := h
    rfl
  · obtain ⟨l, rfl, W, k⟩ := h
    refine ⟨_, pss_one (ps_ret (pe_lc (own := [("place", 1)]) (g := gName 1) (tt := tYes) rfl scT.nd (pi_range1 rfl Z.range (pa_cons (pe_callB call_len_str (by rfl) Z.len PySem.boot_len (pa_cons (pv 0) pa_nil)) pa_nil))
      (blkOk_by (N := ["word", "place"]) (sc := defScope sTurns) (by decide +kernel)) (fun _ _ _ _ _ => pg_name (i := 1) scT.nd rfl (.inl rfl)) (fun _ _ _ _ _ => pts_nil)
      (fun _ _ _ _ _ => pe_op op_add_str (pe_slice sl_str (pv 0) (po_some (pv 1)) po_none) (pe_slice sl_str (pv 0) po_none (po_some (pv 1)))))), ?_⟩
    have few := W.few
    refine ⟨_, rfl, _, rfl, W.fits, _, rfl, (by rw [S_len]; omega), (by rw [S_len]; omega), fun D hD => lc_it walk_range (fun i H3 => H3 D = some (.lst ((((List.range i).map fun j => S (rot l j))).map V.str)) ∧ Same H H3) ⟨upd_same, Same.put (Same.refl H) hD⟩ (fun _ _ _ _ => trivial) ?_ ?_⟩
    · rintro i x H3 H3' hi ⟨h1, h2⟩ ⟨rfl, rfl⟩
      rw [S_len] at hi
      have hi' : i ≤ l.length := by omega
      have c1 : cutS (S l) (some (0 + (i : Int))) none = S (l.drop i) := by rw [Int.zero_add]; exact cut_from
      have c2 : cutS (S l) none (some (0 + (i : Int))) = S (l.take i) := by rw [Int.zero_add]; exact cut_to
      have s1 := rot_len l i
      unfold rot at s1
      rw [List.length_append] at s1
      refine ⟨rfl, _, rfl, _, rfl, _, rfl, _, rfl, W.fits, _, rfl, _, rfl, _, rfl, _, rfl, W.fits, _, _, rfl, rfl, ?_, _, h1, ?_, ?_, Same.new' h2 hD⟩
      · rw [c1, c2, S_len, S_len, sizeLine_eq]
        omega
      · rw [List.length_map, List.length_map, List.length_range, sizeLine_eq]
        omega
      · rw [upd_same, c1, c2, S_add, List.range_succ, List.map_append, List.map_append] <;> rfl
    · rintro H3 ⟨h1, h2⟩
      refine k D H3 hD h2 ?_
      rw [h1, S_len] <;> rfl
/-- of InvalidWord nothing is asked: the branch is not taken -/
theorem scI : FnScope ["self", "text", "turnings"] ["self", "text"] (defScope sInit) := ⟨rfl, rfl, rfl, by decide +kernel, rfl, by decide +kernel, by decide +kernel⟩
theorem ok_init {C : Addr} (F : Fun K "__init__" "Ring.__init__" sInit f fd) (T : Txt K mg C) (Z : Free mg) (t6 : Tok) (g6 : mg "MOST_WORD" = some (.int 600 t6)) (DW : Def K mg "is_word" sIsWord ["value"] fW fdW) (DT : Def K mg "_all_turnings" sTurns ["word"] fS fdS) :
    FnOk P w K mg base CX0 2 f fd ["self", "text"] (spInit C) := by
  have GW : FnOk P w K mg base CX0 1 fW fdW ["value"] spIsWord := ok_isword DW.F Z t6 g6
  have GT : FnOk P w K mg base CX0 1 fS fdS ["word"] spTurns := ok_turns DT.F Z
  refine F.ok scI (fun vs H Q E h => ?_) (fun cdv A outer s H vs Q E hr h => ?_)
  · obtain ⟨H0, r, dx, l, rfl, _⟩ := h
    rfl
  · obtain ⟨H0, r, dx, l, rfl, W, s0, r0, hp, k⟩ := h
    refine ⟨_, pss_cons (ps_if (pt_not (pt_val (pe_call GW hr rfl DW.g DW.kp DW.b .nil pass0 (pa_cons (pv 1) pa_nil)))) (pss_one ps_never) pss_nil)
      (pss_cons (ps_set (i := 2) scI.nd rfl (.inl rfl) (pe_call GT hr rfl DT.g DT.kp DT.b .nil pass0 (pa_cons (pv 1) pa_nil)))
      (pss_cons (ps_fld (pv 0) (pe_callB (cr_minS hr rfl) (by rfl) Z.min (by decide +kernel) (pa_cons (pv 2) pa_nil)) rfl)
      (pss_one (ps_fld (pv 0) (WbSet.pe_lenSet rfl (by rfl) Z.len (by rfl) Z.set (pv 2)) rfl)))), ?_⟩
    refine ⟨_, rfl, l, rfl, W, fun H1 s1 => ⟨true, rfl, _, rfl, l, rfl, W, fun a H2 a0 s2 h2 => ?_⟩⟩
    obtain ⟨x, xs, e1, e2⟩ := least_cons (xs := turnsS l) (by rw [turns_len]; exact W.pos)
    have hr2 : H2 r = some (.ins C dx []) := s2 _ _ (s1 _ _ hp)
    have nra : a ≠ r := ne_of h2 hr2 (by intro z; cases z)
    refine ⟨_, rfl, a, x, xs, rfl, SqL.of (by rw [h2, e1]), _, rfl, r, C, dx, _, rfl, hr2, T.cl, T.nT, (by show 0 < 1000; decide), ?_⟩
    refine ⟨_, rfl, a, turnsS l, rfl, SqL.of (by rw [upd_ne nra]; exact h2), (by rw [turns_len]; have := W.few; omega), _, rfl, r, C, dx, _, rfl, upd_same, T.cl, T.nP, (by show 1 < 1000; decide), ?_⟩
    refine k _ ?_ ⟨W, dx, ?_⟩
    · exact Same.new' (Same.new' ((s0.trans s1).trans s2) r0) r0
    · rw [upd_same]
      unfold rf textS perN
      rw [e2]
end
end Wb
/-! the mathematics of turnings: the least one, the number of different ones -/
namespace Wb
open PySem L2 WbMin WbS Lz
/-! ### lists without doubles -/
/-! ### the least text -/
theorem min_mem : ∀ (xs : List Str) (x : Str), minS x xs ∈ x :: xs
  | [], x => List.mem_cons_self
  | y :: r, x => by
    show minS (if y.cps.toList < x.cps.toList then y else x) r ∈ x :: y :: r
    split
    · exact List.mem_cons_of_mem _ (min_mem r y)
    · rcases List.mem_cons.mp (min_mem r x) with q | q
      · rw [q] <;> exact List.mem_cons_self
      · exact List.mem_cons_of_mem _ (List.mem_cons_of_mem _ q)
theorem min_le : ∀ (xs : List Str) (x y : Str), y ∈ x :: xs → ¬ y.cps.toList < (minS x xs).cps.toList
  | [], x, y, h => by
    rw [List.mem_singleton.mp h]
    exact List.lt_irrefl _
  | z :: r, x, y, h => by
    show ¬ y.cps.toList < (minS (if z.cps.toList < x.cps.toList then z else x) r).cps.toList
    by_cases q : z.cps.toList < x.cps.toList
    · rw [if_pos q]
      rcases List.mem_cons.mp h with e | e
      · subst e
        have h1 := min_le r z z List.mem_cons_self
        exact not_lt_trans h1 (fun w => List.lt_asymm w q)
      · exact min_le r z y e
    · rw [if_neg q]
      rcases List.mem_cons.mp h with e | e
      · subst e
        exact min_le r y y List.mem_cons_self
      · rcases List.mem_cons.mp e with e | e
        · subst e
          exact not_lt_trans (min_le r x x List.mem_cons_self) q
        · exact min_le r x y (List.mem_cons_of_mem _ e)
theorem least_mem {xs : List Str} (h : 0 < xs.length) : leastOf xs ∈ xs := by
  obtain ⟨x, r, e, q⟩ := least_cons h
  rw [q, e]
  exact min_mem r x
theorem least_le {xs : List Str} {y : Str} (h : y ∈ xs) : ¬ y.cps.toList < (leastOf xs).cps.toList := by
  cases xs with
  | nil => exact absurd h List.not_mem_nil
  | cons x r => exact min_le r x y h
theorem least_same {xs ys : List Str} (h0 : 0 < xs.length) (h1 : 0 < ys.length) (h : ∀ x, x ∈ xs ↔ x ∈ ys) : leastOf xs = leastOf ys := by
  have a := least_le ((h _).mpr (least_mem h1))
  have b := least_le ((h _).mp (least_mem h0))
  have e : (leastOf xs).cps.toList = (leastOf ys).cps.toList := List.le_antisymm a b
  rw [← S_of (leastOf xs), e, S_of]
/-! ### turnings -/
theorem rot_get {l : List Nat} {i j : Nat} (hi : i ≤ l.length) (hj : j < l.length) : (rot l i)[j]? = l[(i + j) % l.length]? := by
  unfold rot
  by_cases h : j < l.length - i
  · rw [List.getElem?_append_left (by rw [List.length_drop]; exact h), List.getElem?_drop, Nat.mod_eq_of_lt (by omega)]
  · have e : (i + j) % l.length = i + j - l.length := by
      rw [Nat.mod_eq_sub_mod (by omega), Nat.mod_eq_of_lt (by omega)]
    rw [List.getElem?_append_right (by rw [List.length_drop]; omega), List.length_drop, e, List.getElem?_take, if_pos (by omega)]
    congr 1
    omega
theorem rot_rot {l : List Nat} {i j : Nat} (hi : i ≤ l.length) (hj : j ≤ l.length) (h0 : 0 < l.length) : rot (rot l i) j = rot l ((i + j) % l.length) := by
  refine List.ext_getElem? fun k => ?_
  by_cases hk : k < l.length
  · rw [rot_get (by rw [rot_len]; exact hj) (by rw [rot_len]; exact hk), rot_len, rot_get hi (Nat.mod_lt _ h0), rot_get (Nat.le_of_lt (Nat.mod_lt _ h0)) hk]
    congr 1
    rw [Nat.add_mod_mod, Nat.mod_add_mod, Nat.add_assoc]
  · rw [List.getElem?_eq_none (by rw [rot_len, rot_len]; omega), List.getElem?_eq_none (by rw [rot_len]; omega)]
theorem rot_zero (l : List Nat) : rot l 0 = l := by simp [rot]
theorem turns_mem {l : List Nat} {z : Str} : z ∈ turnsS l ↔ ∃ i, i < l.length ∧ z = S (rot l i) := by
  unfold turnsS
  rw [List.mem_map]
  constructor
  · rintro ⟨i, h, e⟩
    exact ⟨i, List.mem_range.mp h, e.symm⟩
  · rintro ⟨i, h, e⟩
    exact ⟨i, List.mem_range.mpr h, e.symm⟩
theorem turns_rot {l : List Nat} {i : Nat} (h0 : 0 < l.length) (hi : i ≤ l.length) (z : Str) : z ∈ turnsS (rot l i) ↔ z ∈ turnsS l := by
  rw [turns_mem, turns_mem, rot_len]
  constructor
  · rintro ⟨j, hj, e⟩
    exact ⟨(i + j) % l.length, Nat.mod_lt _ h0, by rw [e, rot_rot hi (Nat.le_of_lt hj) h0]⟩
  · rintro ⟨j, hj, e⟩
    refine ⟨(l.length - i + j) % l.length, Nat.mod_lt _ h0, ?_⟩
    rw [e, rot_rot hi (Nat.le_of_lt (Nat.mod_lt _ h0)) h0, Nat.add_mod_mod, show i + (l.length - i + j) = l.length + j by omega, Nat.add_mod_left, Nat.mod_eq_of_lt hj]
theorem text_rot {l : List Nat} {i : Nat} (h0 : 0 < l.length) (hi : i ≤ l.length) : textS (rot l i) = textS l :=
  least_same (by rw [turns_len, rot_len]; exact h0) (by rw [turns_len]; exact h0) (turns_rot h0 hi)
/-- the text of a ring is one of its turnings -/
theorem text_is {l : List Nat} (h0 : 0 < l.length) : ∃ i, i < l.length ∧ textS l = S (rot l i) := turns_mem.mp (least_mem (by rw [turns_len]; exact h0))
theorem IsW.rot {l : List Nat} (W : IsW l) (i : Nat) : IsW (Wb.rot l i) := by
  refine ⟨fun c hc => W.low c ?_, by rw [rot_len]; exact W.pos, by rw [rot_len]; exact W.few⟩
  unfold Wb.rot at hc
  rcases List.mem_append.mp hc with q | q
  · exact List.mem_of_mem_drop q
  · exact List.mem_of_mem_take q
/-! ### the number of different turnings -/
theorem back {l : List Nat} {p : Nat} (h0 : 0 < l.length) (hp : 0 < p) (hpn : p ≤ l.length) (e : rot l p = l) : ∀ i, i < l.length → rot l i = rot l (i % p) := fun i => by
  induction i using Nat.strongRecOn with
  | ind i ih =>
    intro hi
    by_cases q : i < p
    · rw [Nat.mod_eq_of_lt q]
    · have h1 := rot_rot (l := l) (i := p) (j := i - p) hpn (by omega) h0
      rw [e, show p + (i - p) = i by omega, Nat.mod_eq_of_lt hi] at h1
      rw [← h1, ih (i - p) (by omega) (by omega), ← Nat.mod_eq_sub_mod (by omega)]
end Wb
/-! what an own class's special methods are worth: len(o), bool(o), str(o), o == p, o != p, o an instance of a class of the program's own -/
namespace WbO
open PySem PySem.W PySem.Spec PyProof.Rows
section
variable {prog : Program} {w : World} {A : Around} {E : Value → Shared → Prop} {s : Shared} {K : Frag} {x C f : Addr} {ox : Obj} {od : Option Obj}
/-- bool(o) by its truth -/
theorem call_bool {Q : Value → Shared → Prop} (h : wpAny (model prog w) A.in1.in1 (truthy (.ref x)) (fun b s' => Q (.bool b) s') E s) : wpAny (model prog w) A (call (.type "bool") [.ref x]) Q E s := by
  refine callType_codes (T := "bool") (Bi := Builtin.«object.__init__») (Q₁ := fun r s1 => ∃ b, r = .bool b ∧ Q r s1) F.called_bool (F.typeCall_bool_1 _) PySem.F.entry_object_init ?_ ?_
  · refine codeAny_of_tree ?_
    show wpAny _ A.in1.in1 (do checkBuiltinCall "bool.__new__" ⟨[.type "bool", .ref x], []⟩; again (.builtin "bool.__new__" ⟨[.type "bool", .ref x], []⟩)) _ _ s
    refine wpAny_bind (wpAny_of_eq (F.newCall_bool_1 _) (wpAny_pure ⟨plainId_quiet (by decide +kernel) _, codeAny_builtin F.entry_bool_new ?_⟩))
    rw [Around.under_plainId (by decide +kernel) _]
    unfold Builtin.«bool.__new__»
    obtain ⟨hp, g, d, tk, os⟩ := s
    have f1 := F.conv_sub_bool
    repeat (any_goals (first | assumption | (with_reducible refine wpAny_bind (m := truthy (.ref x)) (wpAny_mono h (fun b s1 q => ?_) fun _ _ e => e)) | wp_step))
    exact ⟨b, rfl, q⟩
  · rintro obj s1 ⟨b, rfl, q⟩
    exact ⟨PySem.typeIs_bool _ _, PySem.F.args_object_init_2 _ _, object_init_meets F.called_bool.init.lookup F.called_bool.made (by decide) prog w A.in1 _ s1 ⟨PySem.typeIs_bool _ _, rfl, q⟩⟩
end
end WbO
namespace WbO
open PySem PySem.Spec PyProof.Rows L2
section
variable {X : Cx} {CX : CXT} {k : Nat} {C g : Addr} {fd : FuncData} {ps : List Str} {sp : Sp} {E : XK}
/-- a def called at values, anywhere deeper -/
theorem run_at {pins : List (Addr × Obj)} {σ : L2.St} {H : Hp} {s : Shared} {Q : VK} {vs : List V} {us : List Value} {A' : Around} {E' : Value → Shared → Prop} (F : FnOk X.prog X.w X.K X.mg X.base CX k g fd ps sp) (hr : Room k A') (e0 : Env0 X.prog X.w X.K X.mg X.base A' X.stack s H)
    (hb : Binds X.K fd ps []) (hx : Passes CX X.nox E) (I : Inv X pins σ H s) (r : Vals vs us) (h : sp vs H Q E) : wpAny (model X.prog X.w) A' (call (.ref g) us) (EP X pins σ Q) E' s := by
  have hl : (us ++ ([] : List Value)).length = ps.length := by rw [List.append_nil, ← r.length]; exact F.len _ _ _ _ h
  have hB := hb s us I.kIn hl
  rw [List.append_nil] at hB
  refine wpAny_call (codeAny_mono (F.run A' X.stack s H ⟨us, []⟩ us vs Q E hr e0 hB r h) fun r s' hq => ?_)
  cases r with
  | error er => exact (hx pins σ H s er s' (I.wish _) hq).elim
  | ok fl =>
    cases fl with
    | ret u => exact I.after hq
    | next => exact hq.elim
    | brk => exact hq.elim
    | cont => exact hq.elim
end
end WbO
/-! reading round a ring: turned, [i], [i, n] -/
namespace WbT
open PySem PySem.Spec PyProof.Rows L2
section
variable {X : Cx} {CX : CXT} {k : Nat} {C g : Addr} {fd : FuncData} {ps ks : List Str} {sp : Sp} {E : XK} {o : Expr} {m : Str} {apos pos : Pos} {kws : List Keyword} {ta : TE} {tk : TA} {kg : List Value → List Value → List Value} {gV : List V → List V → List V}
theorem vals_signs : ∀ (l : List Nat) (us : List Value), us.length = l.length → (∀ (j : Nat) (v : Value), us[j]? = some v → ∃ c t, l[j]? = some c ∧ v = Value.str ⟨#[c]⟩ t) → Vals (l.map fun c => V.str ⟨#[c]⟩) us
  | [], [], _, _ => .nil
  | [], _ :: _, h, _ => by cases h
  | _ :: _, [], h, _ => by cases h
  | c :: l, u :: us, h, k => by
    obtain ⟨c', t, e1, e2⟩ := k 0 u rfl
    cases e1
    exact .cons ⟨t, e2⟩ (vals_signs l us (Nat.succ.inj h) fun j v q => k (j + 1) v q)
/-- list(z) of a text -/
theorem call_listS (hc : X.calm = true) : CallR X (.type "list") (fun xs H Q => ∃ z : Str, xs = [.str z] ∧ z.length ≤ sizeLine ∧ ∀ p, H p = none → Q (.ref p) (upd H p (.lst (z.cps.toList.map fun c => V.str ⟨#[c]⟩)))) := by
  intro pins s σ H xs us Q I r h
  obtain ⟨z, rfl, fits, q⟩ := h
  obtain ⟨u, rfl, t, rfl⟩ := vals1 r
  refine call_list_str (hn := fits) (I.ok.hd hc) z t fun h' tk acc c kept new items => ?_
  have rel : Vals (z.cps.toList.map fun c => V.str ⟨#[c]⟩) acc.toList := vals_signs _ _ (by rw [Array.length_toList, Array.length_toList]; exact items.1) fun j v e => by
    obtain ⟨c, u, e1, e2⟩ := items.2 j v (by rw [← Array.getElem?_toList]; exact e)
    exact ⟨c, u, by rw [Array.getElem?_toList]; exact e1, e2⟩
  have fits' : (z.cps.toList.map fun c => V.str ⟨#[c]⟩).length ≤ sizeLine := by rw [List.length_map, Array.length_toList]; exact fits
  exact ⟨.ref s.heap.objs.size, _, I.laid (t' := tk) kept (Nat.le_refl _) (show ObjOk X.prog X.w _ h' _ (.lst _) from ⟨fits', acc.toList, c, rel, new⟩), rfl, q _ (I.hok.fresh (Nat.le_refl _))⟩
end
end WbT
namespace Wb
open PySem L2 WbMin WbS Lz WbO WbT
/-! ### reading so many signs round a word -/
/-! ### the promises -/
section
variable {P : Program} {w : World} {K : PySem.W.Frag} {mg : Str → Option Value} {base : Heap} {f fI fP fR C : Addr} {fd dI dP dR : FuncData}
end
end Wb
/-! the mathematics of words so many times, joined, read from behind -/
namespace Wb
open PySem L2 WbMin
theorem IsW.join {l m : List Nat} (W : IsW l) (V : IsW m) (h : l.length + m.length ≤ 600) : IsW (l ++ m) := by
  refine ⟨fun c hc => ?_, by rw [List.length_append]; have := W.pos; omega, by rw [List.length_append]; exact h⟩
  rcases List.mem_append.mp hc with q | q
  · exact W.low c q
  · exact V.low c q
end Wb
/-! a ring so many times; its period -/
namespace WbX
open PySem PySem.Spec PyProof.Rows L2 WbO
section
variable {X : Cx} {CX : CXT} {k : Nat} {C g : Addr} {fd : FuncData} {ps : List Str} {sp : Sp} {E : XK}
end
end WbX
namespace Wb
open PySem L2 WbMin WbS Lz WbO WbT WbX
structure RgA where
  (C fI fU fM fP pP turns readr : Addr)
  (dI dU dM dP dturns dreadr : FuncData)
section
variable {P : Program} {w : World} {K : PySem.W.Frag} {mg : Str → Option Value} {base : Heap} {f C fI fW : Addr} {fd dI dW : FuncData} {R : RgA}
end
end Wb
/-! class Kind over the base of the loops (out of k10's and k08's texts): checks, pairs, the kind -/
namespace Wb
open PySem L2 WbMin WbO WbS WbT Lz
/-! ## k08 WbK1.lean -/
abbrev sIsPair : Stmt := top 29
abbrev sChPairs : Stmt := top 30
abbrev sAllP : Stmt := top 31
abbrev sGoes : Stmt := top 32
abbrev sHas : Stmt := top 33
/-- a pair of these signs -/
def PairOf (sg : List Nat) (z : Str) : Prop := ∃ a b, a ∈ sg ∧ b ∈ sg ∧ z = S [a, b]
structure Prs (sg : List Nat) (ps : List Str) : Prop where
  of : ∀ z ∈ ps, PairOf sg z
  nd : ps.Nodup
  few : ps.length ≤ 16
def spIsPair : Sp := fun vs H Q _ => ∃ (z : Str) (sg : List Nat), vs = [.str z, .str (S sg)] ∧ PairOf sg z ∧ Q (.bl true) H
def spChPairs : Sp := fun vs H Q _ => ∃ (t : Addr) (sg : List Nat) (ps : List Str), vs = [.ref t, .str (S sg)] ∧ H t = some (.tup (ps.map V.str)) ∧ Prs sg ps ∧ ∀ H', Same H H' → Q .non H'
/-- those behind which one of them may follow -/
def leftB (l : List Nat) (ps : List Str) : List Nat := l.filter fun c => l.any fun d => decide (S [c, d] ∈ ps)
def leftN (sg : List Nat) (ps : List Str) : Nat → List Nat
  | 0 => sg
  | k + 1 => leftB (leftN sg ps k) ps
def hasB (sg : List Nat) (ps : List Str) : Bool := decide (0 < (leftN sg ps sg.length).length)
theorem leftN_len (sg : List Nat) (ps : List Str) : ∀ k, (leftN sg ps k).length ≤ sg.length
  | 0 => Nat.le_refl _
  | k + 1 => Nat.le_trans (List.length_filter_le _ _) (leftN_len sg ps k)
def spHas : Sp := fun vs H Q _ => ∃ (t : Addr) (sg : List Nat) (ps : List Str), vs = [.str (S sg), .ref t] ∧ H t = some (.tup (ps.map V.str)) ∧ sg.length ≤ 4 ∧ ∀ (b : Bool) H', b = hasB sg ps → Same H H' → Q (.bl b) H'
section
variable {P : Program} {w : World} {K : PySem.W.Frag} {mg : Str → Option Value} {base : Heap} {f fW fD : Addr} {fd dW fdD : FuncData}
theorem scPr : FnScope ["value", "signs"] ["value", "signs"] (defScope sIsPair) := ⟨rfl, rfl, rfl, by decide +kernel, rfl, by decide +kernel, by decide +kernel⟩
theorem ok_ispair (F : Fun K "_is_pair" "_is_pair" sIsPair f fd) (Z : Free mg) (DO : Def K mg "is_sign_of" sSignOf ["value", "signs"] fW dW) : FnOk P w K mg base CX0 2 f fd ["value", "signs"] spIsPair := by
  have GO : FnOk P w K mg base CX0 1 fW dW ["value", "signs"] spSignOf := ok_signof DO.F Z
  refine F.ok scPr (fun vs H Q E h => ?_) (fun cdv A outer s H vs Q E hr h => ?_)
  · obtain ⟨z, sg, rfl, _⟩ := h
    rfl
  · obtain ⟨z, sg, rfl, ⟨a, b, ha, hb, rfl⟩, k⟩ := h
    refine ⟨_, pss_cons (ps_if (PW.pt (pw_or (pt_not (pt_val (pe_callB call_isi (by rfl) Z.isi (by decide +kernel) (pa_cons (pv 0) (pa_cons (pe_bltn (v := .ty "str") (u := .type "str") (by rfl) Z.str (by decide +kernel) rfl) pa_nil)))))
        (pw_or1 (pt_cmpR op_ne (pe_callB call_len_str (by rfl) Z.len PySem.boot_len (pa_cons (pv 0) pa_nil)) pe_int (nomark _))))) (pss_one ps_never) pss_nil)
      (pss_one (ps_ret (pe_and (pe_call GO hr rfl DO.g DO.kp DO.b .nil pass0 (pa_cons (pe_ix ix_str (pv 0) pe_int (fun _ _ => rfl)) (pa_cons (pv 1) pa_nil)))
        (pe_one (pe_call GO hr rfl DO.g DO.kp DO.b .nil pass0 (pa_cons (pe_ix ix_str (pv 0) pe_int (fun _ _ => rfl)) (pa_cons (pv 1) pa_nil))))))), ?_⟩
    have fit : (S [a, b]).length ≤ sizeLine := by rw [S_len, sizeLine_eq]; show 2 ≤ _; decide
    refine ⟨_, rfl, _, _, .type "str", .type "str", true, rfl, .ty "str", .base (.str _), kit_ty (by decide +kernel), true, rfl, ?_⟩
    refine ⟨_, rfl, _, rfl, fit, rfl, _, rfl, iteNS (by rw [S_len] <;> rfl) ?_⟩
    refine ⟨_, rfl, _, _, a, rfl, rfl, fit, by rw [S_cps]; exact atI_nat (j := 0) rfl, _, rfl, a, sg, rfl, ha, true, rfl, ?_⟩
    exact ⟨_, rfl, _, _, b, rfl, rfl, fit, by rw [S_cps]; exact atI_nat (j := 1) rfl, _, rfl, b, sg, rfl, hb, k⟩
end
/-! ## k08 WbK2.lean -/
section
variable {P : Program} {w : World} {K : PySem.W.Frag} {mg : Str → Option Value} {base : Heap} {f fP fF fS : Addr} {fd dP dF dS : FuncData}
theorem scCp : FnScope ["pairs", "signs", "wrong", "pair"] ["pairs", "signs"] (defScope sChPairs) := ⟨rfl, rfl, rfl, by decide +kernel, rfl, by decide +kernel, by decide +kernel⟩
theorem ok_chpairs (F : Fun K "_check_pairs" "_check_pairs" sChPairs f fd) (Z : Free mg) (mT : mg "tuple" = none) (mE : mg "enumerate" = none) (DP : Def K mg "_is_pair" sIsPair ["value", "signs"] fP dP) (DS : Def K mg "is_sign_of" sSignOf ["value", "signs"] fS dS) (DF : Def K mg "first_wrong" sFirst ["values", "right"] fF dF) : FnOk P w K mg base CX0 3 f fd ["pairs", "signs"] spChPairs := by
  have GP : FnOk P w K mg base CX0 2 fP dP ["value", "signs"] spIsPair := ok_ispair DP.F Z DS
  have GF : FnOk P w K mg base CX0 1 fF dF ["values", "right"] spFirst := ok_first DF.F mE
  refine F.ok scCp (fun vs H Q E h => ?_) (fun cdv A outer s H vs Q E hr h => ?_)
  · obtain ⟨t, sg, ps, rfl, _⟩ := h
    rfl
  · obtain ⟨t, sg, ps, rfl, ht, G, k⟩ := h
    have hr1 : Room 1 _ := hr.mono (by decide)
    refine ⟨_, pss_cons (ps_if (pt_not (pt_val (pe_callB call_isi (by rfl) Z.isi (by decide +kernel) (pa_cons (pv 0) (pa_cons (pe_bltn (v := .ty "tuple") (u := .type "tuple") (by rfl) mT (by decide +kernel) rfl) pa_nil))))) (pss_one ps_never) pss_nil)
      (pss_cons (ps_set (i := 2) scCp.nd rfl (.inl rfl) (pe_call GF hr1 rfl DF.g DF.kp DF.b .nil pass0 (pa_cons (pv 0) (pa_cons
          (pe_lc (own := [("pair", 3)]) (g := gName 3) (tt := tYes) rfl scCp.nd (pi_tup (pv 0)) (blkOk_by (N := ["pairs", "signs", "wrong", "pair"]) (sc := defScope sChPairs) (by decide +kernel)) (fun _ _ _ _ _ => pg_name (i := 3) scCp.nd rfl (.inl rfl)) (fun _ _ _ _ _ => pts_nil)
            (fun _ _ _ _ _ => pe_call GP hr rfl DP.g DP.kp DP.b .nil pass0 (pa_cons (pv 3) (pa_cons (pv 1) pa_nil)))) pa_nil))))
      (pss_one (ps_if (pt_cmpR op_notN (pv 2) pe_non (nomark _)) (pss_one ps_never) pss_nil))), ?_⟩
    have few := G.few
    refine ⟨_, rfl, _, _, .type "tuple", .type "tuple", true, rfl, .ty "tuple", .base (.tup ht), kit_ty (by decide +kernel), true, rfl, ?_⟩
    refine ⟨_, rfl, _, rfl, t, rfl, ⟨_, SqT.of ht⟩, fun D hD => lc_it (walk_tup (xs := ps.map V.str)) (fun i H3 => H3 D = some (.lst ((List.replicate i true).map V.bl)) ∧ Same H H3) ⟨upd_same, Same.put (Same.refl H) hD⟩ (fun _ _ _ h => SqT.of (h.2 _ _ ht)) ?_ ?_⟩
    · rintro i x H3 H3' hi ⟨h1, h2⟩ ⟨rfl, hx⟩
      rw [List.getElem?_map] at hx
      obtain ⟨z, hz, rfl⟩ := Option.map_eq_some_iff.mp hx
      rw [List.length_map] at hi
      refine ⟨rfl, _, rfl, _, rfl, z, sg, rfl, G.of z (List.mem_of_getElem? hz), _, h1, ?_, ?_, Same.new' h2 hD⟩
      · rw [List.length_map, List.length_replicate, sizeLine_eq]
        omega
      · rw [upd_same, List.replicate_succ', List.map_append] <;> rfl
    · rintro H3 ⟨h1, h2⟩
      rw [List.length_map] at h1
      refine ⟨t, D, ps, rfl, h2 _ _ ht, h1, G.nd, fun H4 s4 => ?_⟩
      refine ⟨_, rfl, rfl, _, rfl, ?_⟩
      show if (!decide (V.non = V.non)) = true then _ else _
      rw [decide_eq_true rfl]
      exact iteF (k H4 (h2.trans s4))
theorem vOne_inj {a b : Nat} (h : vOne a = vOne b) : a = b := by
  have e : one a = one b := V.str.inj h
  have e2 := congrArg (fun z : Str => z.cps.toList) e
  simpa [one] using e2
abbrev NH : List Str := ["signs", "pairs", "left", "_", "sign", "after"]
def scOut : Scope := { kind := .function, names := [(".0", .local), ("sign", .cell), ("any", .globalImplicit), ("left", .cell), ("pairs", .cell)], isGenerator := false, isCoroutine := false }
theorem scHs : FnScope NH ["signs", "pairs"] (defScope sHas) := ⟨rfl, rfl, rfl, by decide +kernel, rfl, by decide +kernel, by decide +kernel⟩
set_option maxHeartbeats 0 in
theorem ok_has (F : Fun K "_has_ring" "_has_ring" sHas f fd) (Z : Free mg) (mL : mg "list" = none) (mA : mg "any" = none) : FnOk P w K mg base CX0 1 f fd ["signs", "pairs"] spHas := by
  refine F.ok scHs (fun vs H Q E h => ?_) (fun cdv A outer s H vs Q E hr h => ?_)
  · obtain ⟨t, sg, ps, rfl, _⟩ := h
    rfl
  · obtain ⟨t, sg, ps, rfl, ht, few, k⟩ := h
    refine ⟨_, pss_cons (ps_set (i := 2) scHs.nd rfl (.inr rfl) (pe_callTy (call_listS rfl) (by rfl) mL (by decide +kernel) (pa_cons (pv 0) pa_nil)))
      (pss_cons (ps_for PassesOwn.never rfl (pi_str (pv 0)) (pg_name (i := 3) scHs.nd rfl (.inl rfl))
        (pss_one (ps_set (i := 2) scHs.nd rfl (.inr rfl) (pe_lc (own := [("sign", 4)]) (g := gName 4) rfl scHs.nd (pi_list (pv 2)) (blkOk_by (N := NH) (sc := defScope sHas) (by decide +kernel)) (fun _ _ _ _ _ => pg_name (i := 4) scHs.nd rfl (.inr rfl))
          (fun _ _ _ _ _ => pts_one (pt_val (pe_callB (show CallR _ _ (rAny K) from cr_any rfl) (by rfl) mA (by decide +kernel) (pa_cons
            (by
              refine pe_lc (wi := iList K (tVar 2)) (own := [("after", 5)]) (g := gName 5) (tt := tYes) rfl scHs.nd ?hi (blkOk_by (N := NH) (sc := scOut) (by decide +kernel)) (fun _ _ _ _ _ => pg_name (i := 5) scHs.nd rfl (.inl rfl)) (fun _ _ _ _ _ => pts_nil) (fun _ _ _ _ _ => pe_cmpR (show OpR _ _ (rIn K false) from op_in_seq) (pe_op op_add_str (pv 4) (pv 5)) (pv 1) (by rfl))
              case hi => exact pi_list (pv 2)) pa_nil))))
          (fun _ _ _ _ _ => pv 4)))))
      (pss_one (ps_ret (pe_cmpR op_gt (pe_callB call_len_seq (by rfl) Z.len PySem.boot_len (pa_cons (pv 2) pa_nil)) pe_int (nomark _))))), ?_⟩
    have fits : (S sg).length ≤ sizeLine := by rw [S_len, sizeLine_eq]; omega
    refine ⟨_, rfl, _, rfl, fits, fun L0 hL0 => ?_⟩
    refine ⟨_, rfl, _, rfl, for_it walk_str (fun i σ H' => ∃ (L : Addr) (l : List Nat) (v3 v4 v5 : Option V), σ = [some (.str (S sg)), some (.ref t), some (.ref L), v3, v4, v5] ∧ H' L = some (.lst (l.map vOne)) ∧ l = leftN sg ps i ∧ Same H H')
      ⟨L0, sg, none, none, none, rfl, ?_, rfl, Same.put (Same.refl H) hL0⟩ (fun _ _ _ _ _ => trivial) ?_ ?_⟩
    · rw [upd_same, S_cps] <;> rfl
    · rintro i x σ H2 H2' hi ⟨L, l, v3, v4, v5, rfl, h1, el, s2⟩ ⟨rfl, c0, hc0, rfl⟩
      have l4 : l.length ≤ 4 := by rw [el]; exact Nat.le_trans (leftN_len sg ps i) few
      have one_of : ∀ {y : V} {j : Nat}, (l.map vOne)[j]? = some y → ∃ c, y = vOne c := fun h => by
        obtain ⟨c, _, e⟩ := List.mem_map.mp (List.mem_of_getElem? h)
        exact ⟨c, e.symm⟩
      refine ⟨_, rfl, L, rfl, ⟨_, SqL.of h1⟩, fun D hD => lc_it (walk_list (xs := l.map vOne)) (fun j H3 => ∃ k : List Nat, H3 D = some (.lst (k.map vOne)) ∧ k = (l.take j).filter (fun c => l.any fun d => decide (S [c, d] ∈ ps)) ∧ Same H2' H3) ⟨[], upd_same, (by rw [List.take_zero]; rfl), Same.put (Same.refl _) hD⟩ (fun _ _ _ h => by obtain ⟨_, _, _, h⟩ := h; exact SqL.of (h _ _ h1)) ?_ ?_⟩
      · rintro j y H3 H3' hj ⟨k', g1, g2, g3⟩ ⟨rfl, hy⟩
        obtain ⟨c, rfl⟩ := one_of hy
        rw [List.length_map] at hj
        have hc : l[j]? = some c := by
          rw [List.getElem?_map] at hy
          obtain ⟨c', h', e'⟩ := Option.map_eq_some_iff.mp hy
          rw [vOne_inj e'] at h'
          exact h'
        have kl : k'.length ≤ l.length := by rw [g2]; exact Nat.le_trans (List.length_filter_le _ _) (by rw [List.length_take]; omega)
        refine ⟨rfl, _, rfl, L, rfl, ⟨_, SqL.of (g3 _ _ h1)⟩, fun D2 hD2 => lc_it (walk_list (xs := l.map vOne)) (fun m H4 => ∃ bs : List Bool, H4 D2 = some (.lst (bs.map V.bl)) ∧ bs = (l.take m).map (fun d => decide (S [c, d] ∈ ps)) ∧ Same H3' H4) ⟨[], upd_same, (by rw [List.take_zero]; rfl), Same.put (Same.refl _) hD2⟩ (fun _ _ _ h => by obtain ⟨_, _, _, h⟩ := h; exact SqL.of (h _ _ (g3 _ _ h1))) ?_ ?_⟩
        · rintro m z H4 H4' hm ⟨bs, e1, e2, e3⟩ ⟨rfl, hz⟩
          obtain ⟨d, rfl⟩ := one_of hz
          rw [List.length_map] at hm
          have hd : l[m]? = some d := by
            rw [List.getElem?_map] at hz
            obtain ⟨c', h', e'⟩ := Option.map_eq_some_iff.mp hz
            rw [vOne_inj e'] at h'
            exact h'
          have bl : bs.length = m := by rw [e2, List.length_map, List.length_take]; omega
          refine ⟨rfl, _, rfl, _, rfl, _, _, rfl, rfl, ?_, _, rfl, t, _, rfl, .inr (SqT.of (e3 _ _ (g3 _ _ (s2 _ _ ht)))), rfl, flat_strs ps, _, e1, ?_, bs ++ [inV (.str (one c ++ one d)) (ps.map V.str)], ?_, ?_, Same.new' e3 hD2⟩
          · show 1 + 1 ≤ sizeLine
            decide
          · rw [List.length_map, sizeLine_eq]
            omega
          · rw [upd_same, List.map_append] <;> rfl
          · have ein : inV (.str (one c ++ one d)) (ps.map V.str) = decide (S [c, d] ∈ ps) := by
              rw [show (one c ++ one d : Str) = S [c, d] from S_add [c] [d]]
              exact inV_strs _ _
            rw [List.take_add_one, hd, List.map_append, ← e2, ein] <;> rfl
        · rintro H4 ⟨bs, e1, e2, e3⟩
          rw [List.length_map, List.take_length] at e2
          refine ⟨D2, bs, rfl, SqL.of e1, _, rfl, ite2 (fun q => ?_) (fun q => ?_)⟩
          · refine ⟨_, rfl, _, e3 _ _ g1, ?_, k' ++ [c], ?_, ?_, Same.new' (g3.trans e3) hD⟩
            · rw [List.length_map, sizeLine_eq]
              omega
            · rw [upd_same, List.map_append] <;> rfl
            · have q : (bs.any fun b => b) = true := q
              rw [e2, List.any_map] at q
              rw [List.take_add_one, hc, List.filter_append, ← g2]; show k' ++ [c] = k' ++ List.filter _ [c]; rw [List.filter_cons_of_pos (by exact q)] <;> rfl
          · have q : ¬ (bs.any fun b => b) = true := q
            rw [e2, List.any_map] at q
            exact ⟨k', e3 _ _ g1, by rw [List.take_add_one, hc, List.filter_append, ← g2]; show k' = k' ++ List.filter _ [c]; rw [List.filter_cons_of_neg (by exact q), List.filter_nil, List.append_nil], g3.trans e3⟩
      · rintro H3 ⟨k', g1, g2, g3⟩
        rw [List.length_map, List.take_length] at g2
        exact ⟨D, k', _, _, _, rfl, g1, by rw [g2, el] <;> rfl, s2.trans g3⟩
    · rintro σ H2 ⟨L, l, v3, v4, v5, rfl, h1, el, s2⟩
      refine ⟨_, rfl, L, _, rfl, .inl (SqL.of h1), _, _, rfl, rfl, k _ H2 ?_ s2⟩
      rw [S_size] at el
      unfold hasB
      rw [← el, List.length_map]
      exact decide_eq_decide.mpr (by omega)
end
/-! ## k08 WbK3.lean -/
abbrev sKInit : Stmt := inClass (top 35) 0
def allP (sg : List Nat) : List Str := sg.flatMap fun a => sg.map fun b => S [a, b]
theorem allP_mem {sg : List Nat} {z : Str} : z ∈ allP sg ↔ PairOf sg z := by
  unfold allP PairOf
  rw [List.mem_flatMap]
  constructor
  · rintro ⟨a, ha, h⟩
    obtain ⟨b, hb, rfl⟩ := List.mem_map.mp h
    exact ⟨a, b, ha, hb, rfl⟩
  · rintro ⟨a, b, ha, hb, rfl⟩
    exact ⟨a, ha, List.mem_map.mpr ⟨b, hb, rfl⟩⟩
/-- are all neighbours pairs, going round -/
def goesB (l : List Nat) (ps : List Str) : Bool := (List.range l.length).all fun i => decide (S [l.getD ((i + l.length - 1) % l.length) 0, l.getD i 0] ∈ ps)
theorem goes_iff {l : List Nat} {ps : List Str} : goesB l ps = true ↔ ∀ i, i < l.length → S [l.getD ((i + l.length - 1) % l.length) 0, l.getD i 0] ∈ ps := by
  unfold goesB
  rw [List.all_eq_true]
  exact ⟨fun h i hi => of_decide_eq_true (h i (List.mem_range.mpr hi)), fun h i hi => decide_eq_true (h i (List.mem_range.mp hi))⟩
theorem goes_same {l : List Nat} {ps qs : List Str} (h : ∀ z, z ∈ ps ↔ z ∈ qs) : goesB l ps = goesB l qs := by
  rw [Bool.eq_iff_iff, goes_iff, goes_iff]
  exact ⟨fun a i hi => (h _).mp (a i hi), fun a i hi => (h _).mpr (a i hi)⟩
theorem rot_getD {l : List Nat} {j i : Nat} (hj : j ≤ l.length) (hi : i < l.length) : (rot l j).getD i 0 = l.getD ((j + i) % l.length) 0 := by
  rw [List.getD_eq_getElem?_getD, rot_get hj hi, ← List.getD_eq_getElem?_getD]
theorem goes_rot1 {l : List Nat} {ps : List Str} {j : Nat} (h0 : 0 < l.length) (hj : j ≤ l.length) (h : goesB l ps = true) : goesB (rot l j) ps = true := by
  rw [goes_iff] at h ⊢
  intro i hi
  rw [rot_len] at hi ⊢
  have q := h ((j + i) % l.length) (Nat.mod_lt _ h0)
  rw [rot_getD hj hi, rot_getD hj (Nat.mod_lt _ h0)]
  have e : (j + (i + l.length - 1) % l.length) % l.length = ((j + i) % l.length + l.length - 1) % l.length := by
    rw [Nat.add_mod_mod, show (j + i) % l.length + l.length - 1 = (j + i) % l.length + (l.length - 1) by omega, Nat.mod_add_mod, show j + (i + l.length - 1) = j + i + (l.length - 1) by omega]
  rw [e]
  exact q
theorem goes_rot {l : List Nat} {ps : List Str} {j : Nat} (h0 : 0 < l.length) (hj : j ≤ l.length) : goesB (rot l j) ps = goesB l ps := by
  rw [Bool.eq_iff_iff]
  refine ⟨fun h => ?_, goes_rot1 h0 hj⟩
  have q := goes_rot1 (l := rot l j) (j := l.length - j) (by rw [rot_len]; exact h0) (by rw [rot_len]; omega) h
  have b : rot (rot l j) (l.length - j) = l := by
    rw [rot_rot hj (by omega) h0, show j + (l.length - j) = l.length by omega, Nat.mod_self, rot_zero]
  rw [b] at q
  exact q
def kf (z : Str) (t : Addr) (b : Bool) : List (Str × V) := putF "_ringed" (.bl b) (putF "_pairs" (.ref t) (putF "_signs" (.str z) []))
theorem k12 : ¬ (("_signs" : Str) = "_pairs") := by decide +kernel
theorem k13 : ¬ (("_signs" : Str) = "_ringed") := by decide +kernel
theorem k23 : ¬ (("_pairs" : Str) = "_ringed") := by decide +kernel
theorem kf_signs (z : Str) (t : Addr) (b : Bool) : (kf z t b).lookup ("_signs" : Str) = some (.str z) := by
  unfold kf
  rw [lookup_putF, if_neg k13, lookup_putF, if_neg k12, lookup_putF, if_pos rfl]
theorem kf_pairs (z : Str) (t : Addr) (b : Bool) : (kf z t b).lookup ("_pairs" : Str) = some (.ref t) := by
  unfold kf
  rw [lookup_putF, if_neg k23, lookup_putF, if_pos rfl]
/-- the kind with these signs and pairs stands at r -/
def KindAt (C : Addr) (H : Hp) (r : Addr) (sg : List Nat) (ps : List Str) : Prop := ∃ dx t b, H r = some (.ins C dx (kf (S sg) t b)) ∧ H t = some (.tup (ps.map V.str))
theorem KindAt.same {C : Addr} {H H' : Hp} {r : Addr} {sg : List Nat} {ps : List Str} (h : KindAt C H r sg ps) (s : Same H H') : KindAt C H' r sg ps := by
  obtain ⟨dx, t, b, e1, e2⟩ := h
  exact ⟨dx, t, b, s _ _ e1, s _ _ e2⟩
theorem KindAt.but {C p : Addr} {H H' : Hp} {r : Addr} {sg : List Nat} {ps : List Str} (h : KindAt C H r sg ps) (s : But p H H') (n : r ≠ p) (hp : PoolAt H p) : KindAt C H' r sg ps := by
  obtain ⟨dx, t, b, e1, e2⟩ := h
  obtain ⟨x, y, z, e3, _⟩ := hp
  exact ⟨dx, t, b, s _ _ n e1, s _ _ (ne_of e2 e3 (by intro q; cases q)) e2⟩
structure KTxt (K : PySem.W.Frag) (mg : Str → Option Value) (C : Addr) : Prop where
  cl : Cls K C
  nS : NoAttr K C "_signs"
  nP : NoAttr K C "_pairs"
  nR : NoAttr K C "_ringed"
  gC : mg "Kind" = some (.ref C)
  hcl : PySem.W.findIn K (.ref C) "__class__" = some (some (.builtin "object.__class__"))
  hob : PySem.W.mroIn K C (.type "object") = some true
def spAllP : Sp := fun vs H Q _ => ∃ (sg : List Nat), vs = [.str (S sg)] ∧ sg.length ≤ 4 ∧ ∀ (t : Addr) H', H t = none → Same H H' → H' t = some (.tup ((allP sg).map V.str)) → Q (.ref t) H'
def spGoes : Sp := fun vs H Q _ => ∃ (l : List Nat) (t : Addr) (ps : List Str), vs = [.str (S l), .ref t] ∧ IsW l ∧ H t = some (.tup (ps.map V.str)) ∧ ∀ H', Same H H' → Q (.bl (goesB l ps)) H'
def spKInit (C : Addr) : Sp := fun vs H Q _ => ∃ (H0 : Hp) (r dx : Addr) (sg0 : List Nat) (x : V) (ps0 : List Str), vs = [.ref r, .str (S sg0), x] ∧ Sgs sg0 ∧ ((x = .non ∧ ps0 = allP sg0) ∨ ∃ t, x = .ref t ∧ H t = some (.tup (ps0.map V.str)) ∧ Prs sg0 ps0) ∧ Same H0 H ∧ H0 r = none ∧ H r = some (.ins C dx []) ∧
  ∀ (H' : Hp) (sg : List Nat) (ps : List Str), Same H0 H' → sg.Perm sg0 → PyProof.Rows.sortedS (sg.map sOne) = true → ps.Perm ps0 → PyProof.Rows.sortedS ps = true → KindAt C H' r sg ps → (∃ dx t, H' r = some (.ins C dx (kf (S sg) t (hasB sg ps)))) → Q .non H'
section
variable {P : Program} {w : World} {K : PySem.W.Frag} {mg : Str → Option Value} {base : Heap} {f : Addr} {fd : FuncData}
theorem scAP : FnScope ["signs", "sign", "after"] ["signs"] (defScope sAllP) := ⟨rfl, rfl, rfl, by decide +kernel, rfl, by decide +kernel, by decide +kernel⟩
set_option maxHeartbeats 0 in
theorem ok_allp (F : Fun K "_all_pairs" "_all_pairs" sAllP f fd) (Z : Free mg) (mT : mg "tuple" = none) : FnOk P w K mg base CX0 1 f fd ["signs"] spAllP := by
  refine F.ok scAP (fun vs H Q E h => ?_) (fun cdv A outer s H vs Q E hr h => ?_)
  · obtain ⟨sg, rfl, _⟩ := h
    rfl
  · obtain ⟨sg, rfl, few, k⟩ := h
    refine ⟨_, pss_one (ps_ret (pe_callTy call_tuple_of (by rfl) mT (by decide +kernel) (pa_cons
      (pe_lc2 (own := [("sign", 1), ("after", 2)]) (vs1 := [2]) (g := gName 1) (g1 := gName 2) (tt := tYes) (tt1 := tYes) rfl scAP.nd (pi_str (pv 0)) (blkOk_by (N := ["signs", "sign", "after"]) (sc := defScope sAllP) (by decide +kernel)) (by decide) (fun _ _ _ _ _ => pg_name (i := 1) scAP.nd rfl (.inl rfl)) (fun _ _ _ _ _ => pts_nil)
        (fun _ _ _ _ _ => pi_str (pv 0)) (fun _ _ _ _ _ => pg_name (i := 2) scAP.nd rfl (.inl rfl)) (fun _ _ _ _ _ => pts_nil) (fun _ _ _ _ _ => pe_op op_add_str (pv 1) (pv 2))) pa_nil))), ?_⟩
    refine ⟨_, rfl, _, rfl, fun D hD => it_go walk_str (fun i H3 => H3 D = some (.lst (((sg.take i).flatMap fun a => sg.map fun b => S [a, b]).map V.str)) ∧ Same H H3) ⟨upd_same, Same.put (Same.refl H) hD⟩ (fun _ _ _ _ => trivial) ?_ ?_⟩
    · rintro i x H3 H3' hi ⟨h1, h2⟩ ⟨rfl, c, hc, rfl⟩
      have hc' : sg[i]? = some c := by simpa [S] using hc
      rw [S_size] at hi
      have len : ((sg.take i).flatMap fun a => sg.map fun b => S [a, b]).length ≤ 16 := by
        have e : ((sg.take i).flatMap fun a => sg.map fun b => S [a, b]).length = (sg.take i).length * sg.length := by
          rw [List.length_flatMap, show ((sg.take i).map fun a => (sg.map fun b => S [a, b]).length) = List.replicate (sg.take i).length sg.length from List.map_eq_replicate_iff.mpr fun _ _ => List.length_map ..  , List.sum_replicate_nat]
        rw [e]
        exact Nat.le_trans (Nat.mul_le_mul (by rw [List.length_take]; omega : (sg.take i).length ≤ 4) few) (by decide)
      refine ⟨rfl, _, rfl, _, rfl, it_go walk_str (fun j H4 => H4 D = some (.lst ((((sg.take i).flatMap fun a => sg.map fun b => S [a, b]) ++ (sg.take j).map fun b => S [c, b]).map V.str)) ∧ Same H H4) ⟨by rw [h1]; simp, h2⟩ (fun _ _ _ _ => trivial) ?_ ?_⟩
      · rintro j y H4 H4' hj ⟨e1, e2⟩ ⟨rfl, d, hd, rfl⟩
        have hd' : sg[j]? = some d := by simpa [S] using hd
        refine ⟨rfl, _, rfl, _, rfl, _, _, rfl, rfl, (by show 1 + 1 ≤ sizeLine; decide), _, e1, ?_, ?_, Same.new' e2 hD⟩
        · rw [List.length_map, List.length_append, List.length_map, sizeLine_eq]
          have := List.length_take_le' j sg
          omega
        · rw [upd_same, take_more hd']
          refine congrArg (fun q => some (HO.lst q)) ?_
          simp only [List.map_append, List.map_cons, List.map_nil, List.append_assoc]
          rfl
      · rintro H4 ⟨e1, e2⟩
        rw [S_size, List.take_length] at e1
        refine ⟨?_, e2⟩
        rw [e1, take_more hc', List.flatMap_append]
        simp
    · rintro H3 ⟨h1, h2⟩
      rw [S_size, List.take_length] at h1
      exact ⟨D, _, rfl, .inl ⟨SqL.of h1, fun l hl => k l _ (by cases e : H l with | none => rfl | some o => rw [h2 _ _ e] at hl; cases hl) (Same.put h2 hl) upd_same⟩⟩
theorem scGoR : FnScope ["text", "pairs", "at"] ["text", "pairs"] (defScope sGoes) := ⟨rfl, rfl, rfl, by decide +kernel, rfl, by decide +kernel, by decide +kernel⟩
theorem at_before {l : List Nat} {i : Nat} (hi : i < l.length) : atI l ((0 + (i : Int)) - 1) = some (l.getD ((i + l.length - 1) % l.length) 0) := by
  cases i with
  | zero =>
    have e : (0 + l.length - 1) % l.length = l.length - 1 := by
      rw [Nat.zero_add, Nat.mod_eq_of_lt (by omega)]
    rw [e]
    unfold atI ixN
    rw [if_neg (by omega), if_pos (by omega)]
    have e2 : ((0 + ((0 : Nat) : Int) - 1 + (l.length : Int)).toNat) = l.length - 1 := by omega
    rw [e2]
    exact getD_at (by omega)
  | succ i =>
    have e : (i + 1 + l.length - 1) % l.length = i := by
      rw [show i + 1 + l.length - 1 = i + l.length by omega, Nat.add_mod_right, Nat.mod_eq_of_lt (by omega)]
    rw [e, show (0 + ((i + 1 : Nat) : Int)) - 1 = (i : Int) by omega]
    exact atI_nat (getD_at (by omega))
set_option maxHeartbeats 0 in
theorem ok_goes (F : Fun K "_goes_round" "_goes_round" sGoes f fd) (Z : Free mg) : FnOk P w K mg base CX0 1 f fd ["text", "pairs"] spGoes := by
  refine F.ok scGoR (fun vs H Q E h => ?_) (fun cdv A outer s H vs Q E hr h => ?_)
  · obtain ⟨l, t, ps, rfl, _⟩ := h
    rfl
  · obtain ⟨l, t, ps, rfl, W, ht, k⟩ := h
    refine ⟨_, pss_one (ps_ret (pe_callB (cr_all rfl) (by rfl) Z.all (by decide +kernel) (pa_cons
      (pe_lc (own := [("at", 2)]) (g := gName 2) (tt := tYes) rfl scGoR.nd (pi_range1 rfl Z.range (pa_cons (pe_callB call_len_str (by rfl) Z.len PySem.boot_len (pa_cons (pv 0) pa_nil)) pa_nil)) (blkOk_by (N := ["text", "pairs", "at"]) (sc := defScope sGoes) (by decide +kernel)) (fun _ _ _ _ _ => pg_name (i := 2) scGoR.nd rfl (.inl rfl)) (fun _ _ _ _ _ => pts_nil)
        (fun _ _ _ _ _ => pe_cmpR (show OpR _ _ (rIn K false) from op_in_seq) (pe_op op_add_str (pe_ix ix_str (pv 0) (pe_op op_sub (pv 2) pe_int) (fun _ _ => rfl)) (pe_ix ix_str (pv 0) (pv 2) (fun _ _ => rfl))) (pv 1) (by rfl))) pa_nil))), ?_⟩
    have l0 := W.pos
    have l1 := W.few
    refine ⟨_, rfl, _, rfl, W.fits, _, rfl, by rw [S_len]; omega, by rw [S_len]; omega, fun D hD => lc_it walk_range (fun i H3 => H3 D = some (.lst (((List.range i).map fun i => decide (S [l.getD ((i + l.length - 1) % l.length) 0, l.getD i 0] ∈ ps)).map V.bl)) ∧ Same H H3) ⟨upd_same, Same.put (Same.refl H) hD⟩ (fun _ _ _ _ => trivial) ?_ ?_⟩
    · rintro i x H3 H3' hi ⟨h1, h2⟩ ⟨rfl, rfl⟩
      rw [S_len] at hi
      have hi' : i < l.length := by omega
      refine ⟨rfl, _, rfl, _, rfl, _, _, rfl, rfl, _, _, _, rfl, rfl, W.fits, by rw [S_cps]; exact at_before hi', _, rfl, _, rfl, _, _, l.getD i 0, rfl, rfl, W.fits, ?_, _, _, rfl, rfl, (by show 1 + 1 ≤ sizeLine; decide), _, rfl, t, _, rfl, .inr (SqT.of (h2 _ _ ht)), rfl, flat_strs ps, _, h1, ?_, ?_, Same.new' h2 hD⟩
      · rw [S_cps, Int.zero_add]
        exact atI_nat (getD_at hi')
      · rw [List.length_map, List.length_map, List.length_range, sizeLine_eq]
        omega
      · have e : (if false = true then !inV (.str ((⟨#[l.getD ((i + l.length - 1) % l.length) 0]⟩ : Str) ++ ⟨#[l.getD i 0]⟩)) (ps.map V.str) else inV (.str ((⟨#[l.getD ((i + l.length - 1) % l.length) 0]⟩ : Str) ++ ⟨#[l.getD i 0]⟩)) (ps.map V.str)) = decide (S [l.getD ((i + l.length - 1) % l.length) 0, l.getD i 0] ∈ ps) := by
          rw [if_neg Bool.false_ne_true, inV_strs] <;> rfl
        rw [upd_same, e, List.range_succ, List.map_append, List.map_append] <;> rfl
    · rintro H3 ⟨h1, h2⟩
      rw [S_len, Int.toNat_natCast] at h1
      refine ⟨D, _, rfl, SqL.of h1, ?_⟩
      have q := k H3 h2
      unfold goesB at q
      rw [List.all_map]
      exact q
end
/-! ## k08 WbSo.lean -/
/-! ## k08 WbK5.lean -/
abbrev sKRow : Stmt := inClass (top 35) 3
abbrev sKEq : Stmt := inClass (top 35) 6
theorem FunD_ok {P : Program} {w : World} {K : PySem.W.Frag} {mg : Str → Option Value} {base : Heap} {x qual : Str} {params : Arguments} {body : List Stmt} {scope : Scope} {dvs : List V} {kws : List (Str × V)} {f : Addr} {fd : FuncData} {N ps : List Str} {k : Nat} {sp : Sp} (F : FunD K x qual params body scope dvs kws f fd) (S : FnScope N ps scope) (len : ∀ vs H Q E, sp vs H Q E → vs.length = ps.length)
    (hbody : ∀ (cdv : Value) (A : Around) (outer : List Env) (s : Shared) (H : Hp) (vs : List V) (Q : VK) (E : XK), Room k (A.deeper (PyProof.Rows.envOfC qual scope s.heap.objs.size f cdv)) → sp vs H Q E →
      ∃ t, PSs (cxOf CX0 P w K mg base N qual scope f cdv A outer s H E).nox body t ∧ t { nx := fun _ H' => Q .non H', rt := Q } (start N vs) H) : FnOk P w K mg base CX0 (k + 1) f fd ps sp :=
  F.ok S len fun cdv A outer s H vs Q E hr hsp => by
    obtain ⟨t, h, q⟩ := hbody cdv A outer s H vs Q E hr hsp
    exact ⟨t, h.nox, q⟩
def gB {α : Type} : List α → List α → List α → List α
  | [u], [d], [s] => [u, s, d]
  | _, _, _ => []
def gC {α : Type} : List α → List α → List α → List α
  | [u, s], _, [p] => [u, s, p]
  | _, _, _ => []
structure KA where
  (C fI fW fE pW : Addr)
  (dI dW dE : FuncData)
  (signs signof first ispair chpairs allp has isword : Addr)
  (dsigns dsignof dfirst dispair dchpairs dallp dhas disword : FuncData)
/-- what the top has written of Kind -/
structure KindF (K : PySem.W.Frag) (mg : Str → Option Value) (A : KA) : Prop where
  T : KTxt K mg A.C
  M : Mk K A.C A.fI
  FI : FunD K "__init__" "Kind.__init__" (defArgs sKInit) (defBody sKInit) (defScope sKInit) [.non] [] A.fI A.dI
  bI3 : Binds K A.dI ["self", "signs", "pairs"] []
  FW : Fun K "row" "Kind.row" sKRow A.fW A.dW
  bW : Binds K A.dW ["self"] []
  hW : PropOf K A.C "row" A.pW A.fW
  FE : Fun K "__eq__" "Kind.__eq__" sKEq A.fE A.dE
  bE : Binds K A.dE ["self", "other"] []
  mE : Meth K A.C "__eq__" A.fE
  nf : PySem.W.notFirst K A.C (.ref A.C) = true
  hgt : PySem.W.specialIn K (.builtin "object.__class__") "__get__" = some (some (.builtin "getset_descriptor.__get__"))
  htk : PySem.W.takesIn K (.builtin "object.__class__") = some true
  signs : Def K mg "is_signs" sIsSigns ["value"] A.signs A.dsigns
  signof : Def K mg "is_sign_of" sSignOf ["value", "signs"] A.signof A.dsignof
  first : Def K mg "first_wrong" sFirst ["values", "right"] A.first A.dfirst
  ispair : Def K mg "_is_pair" sIsPair ["value", "signs"] A.ispair A.dispair
  chpairs : Def K mg "_check_pairs" sChPairs ["pairs", "signs"] A.chpairs A.dchpairs
  allp : Def K mg "_all_pairs" sAllP ["signs"] A.allp A.dallp
  has : Def K mg "_has_ring" sHas ["signs", "pairs"] A.has A.dhas
  isword : Def K mg "is_word" sIsWord ["value"] A.isword A.disword
  w6 : ∃ t : Tok, mg "MOST_WORD" = some (.int 600 t)
  w4 : ∃ t : Tok, mg "MOST_SIGNS" = some (.int 4 t)
  tup : mg "tuple" = none
  lst : mg "list" = none
  any : mg "any" = none
  enum : mg "enumerate" = none
  sort : mg "sorted" = none
theorem pair_nd' {sg : List Nat} (nd : sg.Nodup) : ∀ as : List Nat, as.Nodup → (as.flatMap fun a => sg.map fun b => S [a, b]).Nodup
  | [], _ => List.nodup_nil
  | a :: as, h => by
    obtain ⟨h1, h2⟩ := List.nodup_cons.mp h
    rw [List.flatMap_cons, List.nodup_append]
    have n1 : (sg.map fun b => S [a, b]).Nodup := List.Pairwise.map _ (fun b c h q => h (by
      have := S_inj q
      injection this with _ h2
      injection h2)) nd
    have n2 : ∀ x ∈ sg.map (fun b => S [a, b]), ∀ y ∈ as.flatMap (fun a => sg.map fun b => S [a, b]), x ≠ y := by
      intro x hx y hy e
      subst e
      obtain ⟨c, _, rfl⟩ := List.mem_map.mp hx
      obtain ⟨b, hb, hy⟩ := List.mem_flatMap.mp hy
      obtain ⟨d, _, e⟩ := List.mem_map.mp hy
      have := S_inj e
      injection this with h3
      exact h1 (h3 ▸ hb)
    exact ⟨n1, pair_nd' nd as h2, n2⟩
theorem pair_nd {sg : List Nat} (nd : sg.Nodup) : (allP sg).Nodup := pair_nd' nd sg nd
theorem allP_perm {sg sg0 : List Nat} (h : sg.Perm sg0) (nd : sg0.Nodup) : (allP sg).Perm (allP sg0) := by
  refine (List.perm_ext_iff_of_nodup (pair_nd (h.nodup_iff.mpr nd)) (pair_nd nd)).mpr fun z => ?_
  rw [allP_mem, allP_mem]
  unfold PairOf
  exact ⟨fun ⟨a, b, h1, h2, h3⟩ => ⟨a, b, h.mem_iff.mp h1, h.mem_iff.mp h2, h3⟩, fun ⟨a, b, h1, h2, h3⟩ => ⟨a, b, h.mem_iff.mpr h1, h.mem_iff.mpr h2, h3⟩⟩
theorem leS_one {c d : Nat} : leS (sOne c) (sOne d) ↔ c ≤ d := by
  unfold leS sOne
  show ¬ ([d] : List Nat) < [c] ↔ _
  rw [List.cons_lt_cons_iff]
  simp
theorem leS_pair {a b c d : Nat} (h : a < c ∨ (a = c ∧ b ≤ d)) : leS (S [a, b]) (S [c, d]) := by
  unfold leS
  rw [S_cps, S_cps, List.cons_lt_cons_iff]
  rintro (q | ⟨q, r⟩)
  · omega
  · rw [List.cons_lt_cons_iff] at r
    rcases r with r | ⟨_, r⟩
    · omega
    · exact absurd r (List.lt_irrefl _)
theorem flat_pw {sg : List Nat} (h0 : sg.Pairwise (· ≤ ·)) : ∀ as : List Nat, as.Pairwise (· < ·) → (as.flatMap fun a => sg.map fun b => S [a, b]).Pairwise leS
  | [], _ => .nil
  | a :: as, h => by
    obtain ⟨h1, h2⟩ := List.pairwise_cons.mp h
    rw [List.flatMap_cons, List.pairwise_append]
    refine ⟨List.Pairwise.map _ (fun b c q => leS_pair (.inr ⟨rfl, q⟩)) h0, flat_pw h0 as h2, fun x hx y hy => ?_⟩
    obtain ⟨b, _, rfl⟩ := List.mem_map.mp hx
    obtain ⟨c, hc, hy⟩ := List.mem_flatMap.mp hy
    obtain ⟨d, _, rfl⟩ := List.mem_map.mp hy
    exact leS_pair (.inl (h1 c hc))
theorem allP_sorted {sg sg0 : List Nat} (h : sg.Perm sg0) (nd : sg0.Nodup) (s : PyProof.Rows.sortedS (sg.map sOne) = true) : PyProof.Rows.sortedS (allP sg) = true := by
  have nd' := h.nodup_iff.mpr nd
  have p1 : sg.Pairwise (· ≤ ·) := by
    have q := sorted_pw s
    rw [List.pairwise_map] at q
    exact q.imp fun {a b} r => leS_one.mp r
  have p2 : sg.Pairwise (· < ·) := by
    have q := List.Pairwise.and p1 nd'
    exact q.imp fun {a b} r => Nat.lt_of_le_of_ne r.1 r.2
  exact pw_sorted (flat_pw p1 sg p2)
section
variable {P : Program} {w : World} {K : PySem.W.Frag} {mg : Str → Option Value} {base : Heap} {A : KA}
theorem scKI : FnScope ["self", "signs", "pairs"] ["self", "signs", "pairs"] (defScope sKInit) := ⟨rfl, rfl, rfl, by decide +kernel, rfl, by decide +kernel, by decide +kernel⟩
set_option maxHeartbeats 0 in
theorem ok_kinit (D : KindF K mg A) (Z : Free mg) : FnOk P w K mg base CX0 4 A.fI A.dI ["self", "signs", "pairs"] (spKInit A.C) := by
  obtain ⟨t6, g6⟩ := D.w6
  obtain ⟨t4, g4⟩ := D.w4
  have GS : FnOk P w K mg base CX0 2 A.signs A.dsigns ["value"] spIsSigns := ok_issigns D.signs.F Z D.isword t6 g6 t4 g4
  have GC : FnOk P w K mg base CX0 3 A.chpairs A.dchpairs ["pairs", "signs"] spChPairs := ok_chpairs D.chpairs.F Z D.tup D.enum D.ispair D.signof D.first
  have GA : FnOk P w K mg base CX0 1 A.allp A.dallp ["signs"] spAllP := ok_allp D.allp.F Z D.tup
  have GH : FnOk P w K mg base CX0 1 A.has A.dhas ["signs", "pairs"] spHas := ok_has D.has.F Z D.lst D.any
  refine FunD_ok D.FI scKI (fun vs H Q E h => ?_) (fun cdv A' outer s H vs Q E hr h => ?_)
  · obtain ⟨H0, r, dx, sg0, x, ps0, rfl, _⟩ := h
    rfl
  · obtain ⟨H0, r, dx, sg0, x, ps0, rfl, G, hx, s0, r0, hp, k⟩ := h
    have hr1 : Room 1 _ := hr.mono (by decide)
    have hr2 : Room 2 _ := hr.mono (by decide)
    refine ⟨_, pss_cons (ps_if (pt_not (pt_val (pe_call GS hr2 rfl D.signs.g D.signs.kp D.signs.b .nil pass0 (pa_cons (pv 1) pa_nil)))) (pss_one ps_never) pss_nil)
      (pss_cons (ps_if (pt_cmpR op_notN (pv 2) pe_non (nomark _)) (pss_one (ps_expr (pe_call GC hr rfl D.chpairs.g D.chpairs.kp D.chpairs.b .nil pass0 (pa_cons (pv 2) (pa_cons (pv 1) pa_nil))))) pss_nil)
      (pss_cons (ps_fld (pv 0) (pe_join pe_str (pe_callB (call_sortedTx rfl) (by rfl) D.sort (by decide +kernel) (pa_cons (pv 1) pa_nil))) rfl)
      (pss_cons (ps_fld (pv 0) (pe_ifExp (pt_cmpR op_isN (pv 2) pe_non (nomark _)) (pe_call GA hr1 rfl D.allp.g D.allp.kp D.allp.b .nil pass0 (pa_cons (pe_fld (pv 0) rfl) pa_nil))
          (pe_callTy call_tuple_of (by rfl) D.tup (by decide +kernel) (pa_cons (pe_callB call_sortedTup (by rfl) D.sort (by decide +kernel) (pa_cons (pv 2) pa_nil)) pa_nil))) rfl)
      (pss_one (ps_fld (pv 0) (pe_call GH hr1 rfl D.has.g D.has.kp D.has.b .nil pass0 (pa_cons (pe_fld (pv 0) rfl) (pa_cons (pe_fld (pv 0) rfl) pa_nil))) rfl))))), ?_⟩
    have few := G.few
    have pos := G.pos
    refine ⟨_, rfl, sg0, rfl, G, fun H1 s1 => ⟨true, rfl, ?_⟩⟩
    have hr0 : H1 r = some (.ins A.C dx []) := s1 _ _ hp
    have fitS : ∀ {l : List Nat}, l.length ≤ 4 → (List.map (fun x : Str => x.length) (l.map sOne)).sum + (l.map sOne).length * (Str.ofString "").length ≤ 16777216 := fun {l} h => by
      have e1 : ((l.map sOne).map fun x => x.length) = List.replicate l.length 1 := by
        rw [List.map_map]
        exact List.map_eq_replicate_iff.mpr fun _ _ => rfl
      have e2 : (Str.ofString "").length = 0 := by decide +kernel
      rw [e1, e2, List.sum_replicate_nat]
      omega
    have s01 : Same H0 H1 := s0.trans s1
    rcases hx with ⟨rfl, rfl⟩ | ⟨t0, rfl, ht0, hpr⟩
    · refine ⟨_, rfl, rfl, _, rfl, ?_⟩
      show if (!decide (V.non = V.non)) = true then _ else _
      rw [decide_eq_true rfl]
      refine iteF ?_
      refine ⟨⟨_, rfl⟩, _, rfl, S sg0, rfl, by rw [S_len]; omega, fun ys p perm srt hp' => ?_⟩
      rw [S_cps] at perm
      obtain ⟨sg, hsg, rfl⟩ := perm_codes perm
      have sl : sg.length = sg0.length := hsg.length_eq
      have nrp : r ≠ p := ne_of_none hr0 hp'
      refine ⟨_, p, sg.map sOne, rfl, rfl, .inl (SqL.of upd_same), ?_, ?_⟩
      · exact fitS (l := sg) (by omega)
      have ej : Txt.join (Str.ofString "") (sg.map sOne) = S sg := join_one (by omega)
      rw [ej]
      refine ⟨_, rfl, r, A.C, dx, _, rfl, (upd_ne nrp).trans hr0, D.T.cl, D.T.nS, (by show 0 < 1000; decide), ?_⟩
      have s02 := Same.new' (o := .ins A.C dx (putF "_signs" (.str (S sg)) [])) (Same.put (o := .lst ((sg.map sOne).map V.str)) s01 hp') r0
      refine ⟨_, rfl, rfl, _, rfl, ?_⟩
      refine ifd rfl ?_
      refine ⟨_, rfl, r, A.C, dx, _, _, rfl, upd_same, D.T.cl, D.T.nS, by rw [lookup_putF, if_pos rfl], sg, rfl, by omega, fun t H3 ht s3 h3 => ?_⟩
      have h3r := s3 _ _ (upd_same (a := r))
      have ntr : t ≠ r := fun q => by rw [q, upd_same] at ht; cases ht
      refine ⟨_, rfl, r, A.C, dx, _, rfl, h3r, D.T.cl, D.T.nP, (by show 1 < 1000; decide), ?_⟩
      refine ⟨_, rfl, r, A.C, dx, _, _, rfl, upd_same, D.T.cl, D.T.nS, by rw [lookup_putF, if_neg k12, lookup_putF, if_pos rfl], _, rfl, r, A.C, dx, _, _, rfl, upd_same, D.T.cl, D.T.nP, by rw [lookup_putF, if_pos rfl], ?_⟩
      refine ⟨t, sg, allP sg, rfl, (upd_ne ntr).trans h3, by omega, fun b H5 eb s5 => ?_⟩
      refine ⟨_, rfl, r, A.C, dx, _, rfl, s5 _ _ upd_same, D.T.cl, D.T.nR, (by show 2 < 1000; decide), ?_⟩
      refine k _ sg (allP sg) ?_ hsg srt (allP_perm hsg G.nd) (allP_sorted hsg G.nd srt) ⟨dx, t, b, upd_same, (upd_ne ntr).trans (s5 _ _ ((upd_ne ntr).trans h3))⟩ ⟨dx, t, by rw [← eb]; exact upd_same⟩
      exact Same.new' ((Same.new' (s02.trans s3) r0).trans s5) r0
    · refine ⟨_, rfl, rfl, _, rfl, ?_⟩
      show if (!decide (V.ref t0 = V.non)) = true then _ else _
      rw [decide_eq_false (by intro q; cases q)]
      refine iteT ⟨_, rfl, _, rfl, t0, sg0, ps0, rfl, s1 _ _ ht0, hpr, fun H2 s2 => ?_⟩
      have hr2' := s2 _ _ hr0
      have ht2 := s2 _ _ (s1 _ _ ht0)
      refine ⟨⟨_, rfl⟩, _, rfl, S sg0, rfl, by rw [S_len]; omega, fun ys p perm srt hp' => ?_⟩
      rw [S_cps] at perm
      obtain ⟨sg, hsg, rfl⟩ := perm_codes perm
      have sl : sg.length = sg0.length := hsg.length_eq
      have nrp : r ≠ p := ne_of_none hr2' hp'
      refine ⟨_, p, sg.map sOne, rfl, rfl, .inl (SqL.of upd_same), ?_, ?_⟩
      · exact fitS (l := sg) (by omega)
      have ej : Txt.join (Str.ofString "") (sg.map sOne) = S sg := join_one (by omega)
      rw [ej]
      refine ⟨_, rfl, r, A.C, dx, _, rfl, (upd_ne nrp).trans hr2', D.T.cl, D.T.nS, (by show 0 < 1000; decide), ?_⟩
      have s03 := Same.new' (o := .ins A.C dx (putF "_signs" (.str (S sg)) [])) (Same.put (o := .lst ((sg.map sOne).map V.str)) (s01.trans s2) hp') r0
      have ntr0 : t0 ≠ r := ne_of ht2 hr2' (by intro q; cases q)
      have ht3 := (upd_ne (o := .ins A.C dx (putF "_signs" (.str (S sg)) [])) ntr0).trans ((upd_ne (o := .lst ((sg.map sOne).map V.str)) (ne_of_none ht2 hp')).trans ht2)
      refine ⟨_, rfl, rfl, _, rfl, ?_⟩
      refine ifn (by intro q; cases q) ?_
      have few0 := hpr.few
      refine ⟨_, rfl, t0, ps0, rfl, SqT.of ht3, by omega, fun ys p2 perm2 srt2 hp2 => ⟨p2, _, rfl, .inl ⟨SqL.of upd_same, fun t ht => ?_⟩⟩⟩
      have np2 : r ≠ p2 := ne_of_none upd_same hp2
      have nt : r ≠ t := ne_of_none ((upd_ne np2).trans upd_same) ht
      refine ⟨_, rfl, r, A.C, dx, _, rfl, (upd_ne nt).trans ((upd_ne np2).trans upd_same), D.T.cl, D.T.nP, (by show 1 < 1000; decide), ?_⟩
      refine ⟨_, rfl, r, A.C, dx, _, _, rfl, upd_same, D.T.cl, D.T.nS, by rw [lookup_putF, if_neg k12, lookup_putF, if_pos rfl], _, rfl, r, A.C, dx, _, _, rfl, upd_same, D.T.cl, D.T.nP, by rw [lookup_putF, if_pos rfl], ?_⟩
      refine ⟨t, sg, ys, rfl, (upd_ne nt.symm).trans upd_same, by omega, fun b H5 eb s5 => ?_⟩
      refine ⟨_, rfl, r, A.C, dx, _, rfl, s5 _ _ upd_same, D.T.cl, D.T.nR, (by show 2 < 1000; decide), ?_⟩
      refine k _ sg ys ?_ hsg srt perm2 srt2 ⟨dx, t, b, upd_same, (upd_ne nt.symm).trans (s5 _ _ ((upd_ne nt.symm).trans upd_same))⟩ ⟨dx, t, by rw [← eb]; exact upd_same⟩
      exact Same.new' ((Same.new' (Same.put (Same.put s03 hp2) ht) r0).trans s5) r0
end
end Wb
/-! as LyS, over the class Ring's texts -/
namespace Wb
open PySem L2 WbMin WbS Lz WbO WbT
abbrev sShuf : Stmt := top 40
theorem seq_nat {i n : Nat} (h : i < n) : seqIndex? (i : Int) n = some i := by
  unfold seqIndex?
  have h0 : ¬ ((i : Int) < 0) := by omega
  have h1 : ((i : Int) < (n : Int)) := by omega
  simp [h0, h1]
theorem perm_erase {α : Type} : ∀ {l : List α} {i : Nat} {x : α}, l[i]? = some x → (x :: l.eraseIdx i).Perm l
  | [], _, _, h => by cases h
  | y :: l, 0, x, h => by cases h; exact .refl _
  | y :: l, i + 1, x, h => by
    have ih := perm_erase (l := l) (i := i) h
    show (x :: y :: l.eraseIdx i).Perm (y :: l)
    exact (List.Perm.swap y x _).trans (ih.cons y)
/-- what stands at a text, a tuple, a list -/
inductive Its (H : Hp) : V → List V → Prop
  | str (l : List Nat) : Its H (.str (S l)) (l.map vOne)
  | tup {a : Addr} {xs : List V} (h : H a = some (.tup xs)) : Its H (.ref a) xs
  | lst {a : Addr} {xs : List V} (h : H a = some (.lst xs)) (n : ∀ x y z : Int, xs ≠ [.int x, .int y, .int z]) : Its H (.ref a) xs
theorem Its.but {H H' : Hp} {p : Addr} (hp : PoolAt H p) (b : But p H H') {v : V} {xs : List V} (h : Its H v xs) : Its H' v xs := by
  cases h with
  | str l => exact .str l
  | tup h => exact .tup (b _ _ (pool_other hp h fun _ _ _ q => by cases q) h)
  | lst h n => exact .lst (b _ _ (pool_other hp h fun x y z q => n x y z (by injection q)) h) n
def spShufA : Sp := fun vs H Q _ => ∃ (p : Addr) (v : V) (xs : List V), vs = [.ref p, v] ∧ Its H v xs ∧ xs.length ≤ 600 ∧ PoolAt H p ∧ ∀ (a : Addr) (ys : List V) (H' : Hp), H' a = some (.lst ys) → a ≠ p → ys.Perm xs → PoolAt H' p → But p H H' → Q (.ref a) H'
section
variable {P : Program} {w : World} {K : PySem.W.Frag} {mg : Str → Option Value} {base : Heap} {f fD : Addr} {fd fdD : FuncData}
theorem scSh : FnScope ["_law_pool_here", "_law_things", "_law_rest", "_law_found", "_law_turn"] ["_law_pool_here", "_law_things"] (defScope sShuf) := ⟨rfl, rfl, rfl, by decide +kernel, rfl, by decide +kernel, by decide +kernel⟩
/-- list(x), len(x) of such a thing -/
@[irreducible] def rLst (K : PySem.W.Frag) : List V → Hp → VK → Prop := fun xs H Q => (∃ p ys, xs = [.ref p] ∧ (SqL K H p ys ∨ SqT K H p ys) ∧ ∀ l, H l = none → Q (.ref l) (upd H l (.lst ys))) ∨ (∃ z : Str, xs = [.str z] ∧ z.length ≤ sizeLine ∧ ∀ p, H p = none → Q (.ref p) (upd H p (.lst (z.cps.toList.map fun c => V.str ⟨#[c]⟩))))
@[irreducible] def rLen (K : PySem.W.Frag) : List V → Hp → VK → Prop := fun xs H Q => (∃ p ys, xs = [.ref p] ∧ (SqL K H p ys ∨ SqT K H p ys) ∧ Q (.int ys.length) H) ∨ (∃ z, xs = [.str z] ∧ z.length ≤ sizeLine ∧ Q (.int z.length) H)
theorem its_lst {H : Hp} {v : V} {xs : List V} {Q : VK} (h : Its H v xs) (few : xs.length ≤ 600) (k : ∀ l, H l = none → Q (.ref l) (L2.upd H l (.lst xs))) : rLst K [v] H Q := by
  unfold rLst
  cases h with
  | str l =>
    refine .inr ⟨_, rfl, ?_, fun p hp => ?_⟩
    · rw [S_len, sizeLine_eq]
      rw [List.length_map] at few
      omega
    · rw [S_cps]
      exact k p hp
  | tup h => exact .inl ⟨_, _, rfl, .inr (SqT.of h), k⟩
  | lst h n => exact .inl ⟨_, _, rfl, .inl (SqL.of h), k⟩
theorem its_len {H : Hp} {v : V} {xs : List V} {Q : VK} (h : Its H v xs) (few : xs.length ≤ 600) (k : Q (.int xs.length) H) : rLen K [v] H Q := by
  unfold rLen
  cases h with
  | str l =>
    rw [List.length_map] at few k
    refine .inr ⟨_, rfl, ?_, ?_⟩
    · rw [S_len, sizeLine_eq]
      omega
    · rw [S_len]
      exact k
  | tup h => exact .inl ⟨_, _, rfl, .inr (SqT.of h), k⟩
  | lst h n => exact .inl ⟨_, _, rfl, .inl (SqL.of h), k⟩
theorem cr_lst {X : Cx} (hc : X.calm = true) : CallR X (.type "list") (rLst X.K) := by
  unfold rLst
  exact CallR.or call_list_of (call_listS hc)
theorem cr_len {X : Cx} : CallR X (.builtin "len") (rLen X.K) := by
  unfold rLen
  exact CallR.or call_len_seq call_len_str
set_option maxHeartbeats 0 in
theorem ok_shufA (F : Fun K "_law_shuffled" "_law_shuffled" sShuf f fd) (D : Def K mg "_law_draw" sDraw ["_law_pool_here", "_law_many"] fD fdD) (Z : Free mg) (mL : mg "list" = none) : FnOk P w K mg base CX0 2 f fd ["_law_pool_here", "_law_things"] spShufA := by
  have G : FnOk P w K mg base CX0 1 fD fdD ["_law_pool_here", "_law_many"] spDraw := ok_draw D.F Z.int Z.divmod
  refine F.ok scSh (fun vs H Q E h => ?_) (fun cdv A outer s H vs Q E hr h => ?_)
  · obtain ⟨p, v, xs, rfl, _⟩ := h
    rfl
  · obtain ⟨p, v, xs, rfl, hL, z1, hp, k⟩ := h
    refine ⟨_, pss_cons (ps_par (i := 2) (j := 3) (by rfl) scSh.nd rfl rfl (by decide) rfl rfl (pa_cons (pe_callTy (show CallR _ _ (rLst K) from cr_lst rfl) (by rfl) mL (by decide +kernel) (pa_cons (pv 1) pa_nil)) (pa_cons (pe_lst pa_nil) pa_nil)) (by rfl))
      (pss_cons (ps_for PassesOwn.never rfl (pi_range1 rfl Z.range (pa_cons (pe_callB (show CallR _ _ (rLen K) from cr_len) (by rfl) Z.len PySem.boot_len (pa_cons (pv 1) pa_nil)) pa_nil)) (pg_name (i := 4) scSh.nd rfl (.inl rfl))
        (pss_one (ps_expr (pe_bm PySem.F.plainAttrs_list PySem.F.slot_list_append PySem.F.type_list_append mt_append (pv 3) (pa_cons
          (pe_bm PySem.F.plainAttrs_list PySem.F.slot_list_pop PySem.F.type_list_pop mt_popAt (pv 2) (pa_cons (pe_call G hr rfl D.g D.kp D.b .nil pass0 (pa_cons (pv 0) (pa_cons (pe_callB call_len_seq (by rfl) Z.len PySem.boot_len (pa_cons (pv 2) pa_nil)) pa_nil))) pa_nil)) pa_nil)))))
      (pss_one (ps_ret (pv 3)))), ?_⟩
    refine ⟨_, rfl, its_lst hL z1 fun R hR => ?_⟩
    refine ⟨(by show 0 ≤ sizeLine; decide), fun F0 hF => ⟨_, _, rfl, ?_⟩⟩
    have nR := hp.ne hR
    have hF1 := hF
    have nFR : F0 ≠ R := fun z => by
      rw [z, upd_same] at hF
      cases hF
    rw [upd_ne nFR] at hF1
    have nF := hp.ne hF1
    have b0 : But p H (L2.upd (L2.upd H R (.lst xs)) F0 (.lst [])) := ((But.refl p H).upd (o := .lst xs) hR).upd (o := .lst []) hF
    refine ⟨_, rfl, its_len (hL.but hp b0) z1 ?_⟩
    refine ⟨_, rfl, by omega, by omega, for_it walk_range
      (fun i σ H' => ∃ (rest found : List V) (v4 : Option V), σ = [some (.ref p), some v, some (.ref R), some (.ref F0), v4] ∧ H' R = some (.lst rest) ∧ H' F0 = some (.lst found) ∧ (found ++ rest).Perm xs ∧ rest.length + i = xs.length ∧ found.length = i ∧ PoolAt H' p ∧ But p H H')
      ⟨xs, [], none, rfl, ?_, upd_same, .refl _, rfl, rfl, (hp.put nR).put nF, b0⟩ (fun _ _ _ _ _ => trivial) ?_ ?_⟩
    · rw [upd_ne nFR.symm, upd_same]
    · rintro i x σ H2 H2' hi ⟨rest, found, v4, rfl, h1, h2, pm, r1, r2, hp2, b2⟩ ⟨rfl, rfl⟩
      refine ⟨_, rfl, .inl ⟨rfl, _, SqL.of h2⟩, _, rfl, .inl ⟨rfl, _, SqL.of h1⟩, _, rfl, _, rfl, R, _, rfl, .inl (SqL.of h1), p, _, rfl, ?_, ?_, hp2, fun e H3 e0 e1 hp3 b3 => ?_⟩
      · omega
      · omega
      · obtain ⟨j, rfl⟩ := nat_of e0
        have hj : j < rest.length := by omega
        have g1 := b3 R _ nR h1
        have g2 := b3 F0 _ nF h2
        obtain ⟨z, hz⟩ : ∃ z, rest[j]? = some z := ⟨_, List.getElem?_eq_getElem hj⟩
        refine ⟨R, _, _, j, z, rfl, rfl, g1, by omega, by omega, seq_nat hj, hz, F0, _, _, rfl, rfl, (upd_ne nFR).trans g2, ?_, ?_⟩
        · rw [sizeLine_eq]; omega
        · refine ⟨rest.eraseIdx j, found ++ [z], _, rfl, ?_, upd_same, ?_, ?_, ?_, (hp3.put nR).put nF, ?_⟩
          · rw [upd_ne nFR.symm, upd_same]
          · rw [List.append_assoc]
            exact ((perm_erase hz).append_left found).trans pm
          · rw [List.length_eraseIdx, if_pos hj]; omega
          · rw [List.length_append, r2] <;> rfl
          · exact ((b2.trans b3).new hR).new hF1
    · rintro σ H2 ⟨rest, found, v4, rfl, h1, h2, pm, r1, r2, hp2, b2⟩
      have e0 : rest = [] := List.eq_nil_of_length_eq_zero (by omega)
      subst e0
      rw [List.append_nil] at pm
      exact ⟨_, rfl, k F0 found H2 h2 nF pm hp2 b2⟩
end
end Wb
set_option maxHeartbeats 1000000
/-! try: .. except X as n: .. except Y as n: .. and so on, the clauses behind the one that takes it unlooked at -/
namespace Le
open PySem PySem.Spec PyProof.Rows L2
/-- a suite's ways out, where the clause's name i goes -/
def offD (D : Ends) (i : Nat) : Ends where
  nx := fun τ G => D.nx (τ.set i none) G
  rt := D.rt
  bk := fun τ G => D.bk (τ.set i none) G
  ct := fun τ G => D.ct (τ.set i none) G
abbrev Suite := Addr → Value → Option Addr → TS
/-- the wish of the clauses, one by one -/
def wCls (K : PySem.W.Frag) (D : Ends) : List (Value × Nat × Suite) → WX
  | [] => fun _ _ _ _ => False
  | (c, i, t) :: more => fun cl dd τ G => ∃ yes, PySem.W.exmOne K cl c = some yes ∧ (yes = true → ∀ r, G r = none → t r cl dd (offD D i) (τ.set i (some (.ref r))) G) ∧ (yes = false → wCls K D more cl dd τ G)
inductive Clauses (X : Cx) : List ExceptHandler → List (Value × Nat × Suite) → Prop
  | rest (hds : List ExceptHandler) : Clauses X hds []
  | as_ {x n : Str} {c : Value} {i : Nat} {t : Suite} {b : Stmt} {bs : List Stmt} {p p' : Pos} {hds : List ExceptHandler} {more : List (Value × Nat × Suite)} (at_ : X.N[i]? = some n) (lo : X.env.kindOf n = some .local) (nm : Names X x c)
      (suite : ∀ (r : Addr) (o : Obj) (cl : Value) (dd : Option Addr) (pn : List (Addr × Obj)), L2N.Zn cl dd o → (∃ fs, o.data = .fields fs) → PSs (X.suite r ((r, o) :: pn)) (b :: bs) (t r cl dd)) (tl : Clauses X hds more) :
      Clauses X (.ExceptHandler (some (.Name x p)) (some n) (b :: bs) p' :: hds) ((c, i, t) :: more)
section
variable {X : Cx} {pins : List (Addr × Obj)} {τ : L2.St} {G : Hp} {D : Ends}
/-- the exception r is on the ground, the state without it is known: the clauses take it -/
theorem taken {r : Addr} {B : Heap} {cl : Value} {dd : Option Addr} {sI s : Shared} (hN : X.N.Nodup) (J : Inv X pins τ G sI) (far : ∀ b o, sI.heap.get? b = some o → b ∉ frs X.stack → B.get? b = some o) (hs : X.stack = X.env :: X.outer) (hf : X.env.frame = some X.env.locals)
    (up : sI.heap.UpToSlots s.heap) (sos : s.os = sI.os) (sb : AllBare s.gens) (nr : G r = none) (fly : HandSPX.FlyingZ B (X.env :: X.outer) r (L2N.Zn cl dd) s.heap) :
    ∀ {hds : List ExceptHandler} {l : List (Value × Nat × Suite)}, Clauses X hds l → wCls X.K D l cl dd τ G → wpAny (model X.prog X.w) X.A (handleBy (.ref r) X.env hds) (SP X pins D) X.xe s := by
  have okX := J.ok
  have grounded : ∀ {h : Heap}, HandSPX.FlyingZ B (X.env :: X.outer) r (L2N.Zn cl dd) h → sI.heap.UpToSlots h → Inv X pins τ G { s with heap := h } := fun {h} fl u =>
    J.landed (s' := { s with heap := h }) far fl.1 u sos sb
  obtain ⟨o1, fs1, g1, z1, d1⟩ := fly.there
  have out : r ∉ frs (X.env :: X.outer) := fun m => by
    obtain ⟨_, o2, g2, nof⟩ := fly.2.2.1.mem m
    rw [g1] at g2
    cases g2
    exact nof _ d1
  have offL : r ≠ X.env.locals := fun q => out (List.mem_filterMap.mpr ⟨X.env, List.mem_cons_self, by rw [hf, q]⟩)
  have offF : r ∉ X.fs := fun m => by
    obtain ⟨en, hen, q⟩ := List.mem_filterMap.mp m
    exact out (List.mem_filterMap.mpr ⟨en, List.mem_cons_of_mem _ hen, q⟩)
  have J1 : Inv X pins τ G s := grounded (h := s.heap) fly up
  intro hds l hk
  induction hk with
  | rest _ => exact fun no => no.elim
  | @as_ x n c i t b bs p p' hds more at_ lo nm suite tl ih =>
    rintro ⟨yes, hy, onYes, onNo⟩
    have inS := J1.suite g1 d1 nr offL offF
    have ty : PySem.W.Looks (model X.prog X.w) s.heap (typeOf (.ref r)) cl := fun A' Q' E' s' st q => wpAny_typeOf_ref (st _ _ g1) (by rw [z1.1]; exact q)
    have asked := PySem.W.exm_one (M := model X.prog X.w) J1.kIn ty hy
    have named : ∀ {Q' : Value → Shared → Prop} {E' : Value → Shared → Prop}, Q' c s → wpAny (model X.prog X.w) (X.A.mark (some (.ref r))) (eval (.Name x p) X.env) Q' E' s := fun {Q' E'} q => by
      obtain ⟨gl, nd, way⟩ := nm
      rcases way with m | ⟨m, bt, nn⟩
      · exact ld_glob (X := X.suite r ((r, o1) :: (X.pn ++ pins))) inS gl m q nd
      · exact ld_blt (X := X.suite r ((r, o1) :: (X.pn ++ pins))) inS gl m bt q nn nd
    refine wpAny_handleBy_cons (codeAny_handlers_test (named (asked.here ?_))) (by intro q; cases q)
    cases yes with
    | false => exact ih (onNo rfl)
    | true =>
      refine codeAny_handlers_suite_as (HandSPX.lands_againZ fly fun h' fly' u' => ?_)
      obtain ⟨o2, fs2, g2, z2, d2⟩ := fly'.there
      have J2 := grounded fly' (up.trans u')
      refine store_ok (X := X.suite r ((r, o2) :: (X.pn ++ pins))) (v := .ref r) (J2.suite g2 d2 nr offL offF) hN at_ (.inl lo) rfl (fun s3 I3 => ?_) (.inr lo)
      have leave : ∀ {τ' : L2.St} {G' : Hp} {s4 : Shared} {Q' : Shared → Prop}, Inv (X.suite r ((r, o2) :: (X.pn ++ pins))) [] τ' G' s4 → (∀ s5, Inv X pins (τ'.set i none) G' s5 → Q' s5) →
          wpAny (model X.prog X.w) X.A (do bindName X.env n .none; unbindBehindTheSuite X.env n p') (fun _ s5 => Q' s5) X.xe s4 := fun {τ' G' s4 Q'} I4 q => gone_ok (I4.unsuite okX) hN at_ lo q
      refine wpAny_mono ((suite r o2 cl dd (X.pn ++ pins) z2 ⟨_, d2⟩).run [] s3 _ G _ I3 (onYes rfl r nr)) (fun w s4 done => ?_) (fun _ _ no => no.elim)
      cases w with
      | next =>
        obtain ⟨_, _, I4, q⟩ := done
        exact leave I4 fun s5 I5 => ⟨_, _, I5, q⟩
      | brk =>
        obtain ⟨_, _, I4, q⟩ := done
        exact leave I4 fun s5 I5 => ⟨_, _, I5, q⟩
      | cont =>
        obtain ⟨_, _, I4, q⟩ := done
        exact leave I4 fun s5 I5 => ⟨_, _, I5, q⟩
      | ret u =>
        obtain ⟨_, _, _, I4, rel, q⟩ := done
        exact leave I4 fun s5 I5 => ⟨_, _, _, I5, rel, q⟩
/-- try: body, then the clauses -/
theorem ps_tryCls {body : List Stmt} {h0 : ExceptHandler} {hds : List ExceptHandler} {l : List (Value × Nat × Suite)} {pos : Pos} {tb : WX → TS} (hs : X.stack = X.env :: X.outer) (hf : X.env.frame = some X.env.locals) (hN : X.N.Nodup)
    (hb : ∀ (W : WX) (pn : List (Addr × Obj)) (xe : Value → Shared → Prop), L2N.Takes (X.tr pn xe) W → PassesOwn (model X.prog X.w) X.A X.env xe → PSs (X.tr pn xe) body (tb W)) (hc : Clauses X (h0 :: hds) l) :
    PS X (.Try body (h0 :: hds) [] [] pos) (fun D σ H => tb (wCls X.K D l) D σ H) := by
  refine ⟨fun pins s σ H D I start => wpAny_Try_except ?_⟩
  have okX := I.ok
  have frames : X.A.frames = some (X.env :: X.outer) := by rw [okX.frames, hs]
  refine wpAny_mono ((hb (wCls X.K D l) (X.pn ++ pins) _ (fun u s' air => ?capt) PassesOwn.looking).run [] s σ H D (I.toTry _) start) (fun w s' done => ?_) (fun _ _ q => q)
  case capt =>
    obtain ⟨r, B, sI, _, τ, G, cl, dd, rfl, J, far, up, sky, nr, sos, sb, w⟩ := air
    have sky : Sky B (X.env :: X.outer) r (L2N.Zn cl dd) X.env.locals s'.heap := by rw [← hs]; exact sky
    exact L2N.Sky.land L2N.Zn.steady frames hf sky fun h1 fly u1 => taken (s := { s' with heap := h1 }) hN (J.ofTry okX) far hs hf (up.trans u1) sos sb nr fly hc w
  cases w with
  | next =>
    obtain ⟨_, _, I', q⟩ := done
    exact wpAny_execs_nil ⟨_, _, I'.ofTry okX, q⟩
  | brk =>
    obtain ⟨_, _, I', q⟩ := done
    exact ⟨_, _, I'.ofTry okX, q⟩
  | cont =>
    obtain ⟨_, _, I', q⟩ := done
    exact ⟨_, _, I'.ofTry okX, q⟩
  | ret u =>
    obtain ⟨_, _, _, I', rel, q⟩ := done
    exact ⟨_, _, _, I'.ofTry okX, rel, q⟩
end
end Le
set_option maxHeartbeats 1000000
/-! a, b = x, y where an exception is being handled -/
namespace Le
open PySem PySem.Spec PyProof.Rows L2 HotX
section
variable {prog : Program} {w : World} {A : Around} {E : Value → Shared → Prop} {s : Shared}
end
end Le
set_option maxHeartbeats 1000000
/-! C(e, ..) of an own class of errors with an own __init__, nothing being handled: its context is None -/
namespace Le
open PySem PySem.Spec PyProof.Rows L2
section
variable {X : Cx} {CX : CXT} {x : Str} {e : Expr} {es : List Expr} {ta : TA} {p pos : Pos} {C fI : Addr} {k : Nat} {fd : FuncData} {ps : List Str} {sp : Sp}
theorem pmk_calm (T : OexC X.K C) (ini : PySem.W.findIn X.K (.ref C) "__init__" = some (some (.ref fI))) (fun_ : PySem.W.typeIn X.K (.ref fI) = some (.type "function")) (F1 : FnOk X.prog X.w X.K X.mg X.base CX k fI fd ps sp) (hr : Room (k + 1) X.A) (hb : Binds X.K fd ps [])
    (quiet : Passes CX X fun _ _ _ => False) (gl : Gl X x) (gv : X.mg x = some (.ref C)) (ha : PA X (e :: es) ta) (nd : (x == ("__debug__" : Str)) = false := by decide) (st : starEach (e :: es) X.env = (false, eval e X.env) :: starEach es X.env := by rfl)
    (pl : (backTo pos (starEach es X.env)).any (·.1) = false := by rfl) : L2N.PMk X (.Call (.Name x p) (e :: es) [] pos) (tMkO C sp [] ta) := by
  intro pins s σ H Q I h
  obtain ⟨_, _, _, _, bm, _, _, _, _, _, _, _, _, _, _, cls, has⟩ := T.cls
  refine wpAny_Call_Name_kw (ld_glob I gl gv (PySem.W.callWith_K (h₀ := X.base) I.ok.mod.kin T.kC (thn (ha.run pos pins s σ H _ I h) fun us s1 ⟨vs, H1, I1, rel, few, goal⟩ => ⟨I1.kIn, ?_⟩) st pl) nd)
  obtain ⟨hp, g, dr, tk, os⟩ := s1
  obtain ⟨n, en⟩ : ∃ n, n = hp.objs.size + 1 := ⟨_, rfl⟩
  obtain ⟨h1, eh1⟩ : ∃ h1, h1 = (hp.push (PySem.W.kdv_tup us)).push (PySem.HandSPX.excO C hp.objs.size) := ⟨_, rfl⟩
  have up1 : hp.objs.size ≤ n := by rw [en]; exact Nat.le_succ _
  have fresh : H1 n = none := I1.hok.fresh up1
  have asked := goal n fresh
  rw [List.append_nil] at asked
  have kept : ∀ b o, hp.get? b = some o → h1.get? b = some o := fun b o z => by rw [eh1]; exact Heap.get?_push_of_some _ (Heap.get?_push_of_some _ z)
  have there : h1.get? n = some (PySem.HandSPX.excO C hp.objs.size) := by rw [eh1, en]; heap_get
  have I2 : Inv X pins σ (upd H1 n (exo n C none)) ⟨h1, g, dr, tk, os⟩ := I1.laid (t' := tk) (a := n) (o := exo n C none) (h' := h1) kept up1 (exo_ok there)
  have rel2 : Vals (V.ref n :: vs) (Value.ref n :: us) := .cons rfl rel
  have cnt : (Value.ref n :: us ++ []).length = ps.length := by rw [List.append_nil, ← rel2.length]; exact F1.len _ _ _ _ asked
  have b2 := hb _ (Value.ref n :: us) I2.kIn cnt
  rw [List.append_nil] at b2
  have small : us.length ≤ sizeLine := by rw [← Paired.length rel, sizeLine_eq]; omega
  show wpAny _ _ (call (.ref C) us) _ _ _
  have run := F1.run (X.A.under (.builtin "type.__call__" ⟨.ref C :: us, []⟩)) X.stack _ _ ⟨Value.ref n :: us, []⟩ (Value.ref n :: us) _ _ (fun _ _ _ => False) (hr.make C us []) (I2.env0.make C us []) b2 rel2 asked
  subst en
  subst eh1
  refine wpAny_call (PySem.HandSPX.call_own F.excBase_ValueError (fun Y => PySem.HandSPX.refsVE_contains Y bm has) (I1.kIn _ _ cls) (PySem.W.looks_findIn I1.kIn ini) (fun self => PySem.W.bind_fn I1.kIn self fun_) small (codeAny_mono run fun r s' q => ?_))
  cases r with
  | error er => exact quiet pins σ _ _ er s' I2 q
  | ok fl =>
    cases fl with
    | next => exact q.elim
    | brk => exact q.elim
    | cont => exact q.elim
    | ret u =>
      obtain ⟨v, H2, os2, bare2, un2, hok2, rv, ev, d, fs, ea, ed, hd1, q2⟩ := q
      subst ev
      obtain ⟨h2, g2, d2, t2, os'⟩ := s'
      obtain ⟨t0, G, J, kG, ge, hoe, na⟩ := mk_end0 (d2 := d2) (t2 := t2) I1 up1 kept un2 hok2 os2 bare2 ea ed hd1
      exact ⟨rv, hp.objs.size + 1, _, _, ⟨G, g2, d2, t2, os'⟩, _, .ref C, some d, rfl, J, kG, ge, hoe, ⟨rfl, rfl, fun vs hv => by cases hv; rfl⟩, rfl, rfl, na, rfl, bare2, raises_own T.exC T.tyC, q2⟩
end
end Le
set_option maxHeartbeats 1000000
/-! a def called with a lambda that may raise; of the exception it is kept that its context is None -/
namespace Le
open PySem PySem.Spec PyProof.Rows L2 LamX
section
variable {X : Cx} {pins : List (Addr × Obj)} {σ : L2.St} {H HZ : Hp} {s s1 : Shared}
end
end Le
set_option maxHeartbeats 1000000
/-! heard(lambda: ..): what the def that hears makes of the lambda's reading -/
namespace Le
open PySem PySem.Spec PyProof.Rows L2 LamX
section
variable {X : Cx}
end
end Le
/-! the errors that the program raises itself: made, raised, asked for what they keep -/
namespace Wb
open PySem L2 PySem.Spec PyProof.Rows
section
variable {P : Program} {w : World} {K : PySem.W.Frag} {mg : Str → Option Value} {base : Heap}
/-- what never raises keeps its promise whatever is told of errors -/
theorem FnOk.calm {CX : CXT} {k : Nat} {f : Addr} {fd : FuncData} {ps : List Str} {sp : Sp} (F : FnOk P w K mg base CX0 k f fd ps sp) : FnOk P w K mg base CX k f fd ps sp :=
  ⟨F.len, fun A outer s H args us vs Q E hr e0 hb r h => codeAny_mono (F.run A outer s H args us vs Q E hr e0 hb r h) fun res s' q => by
    cases res with
    | error e => exact (show False from q).elim
    | ok fl => cases fl <;> exact q⟩
end
def spErr (C : Addr) (g : Str) : Sp := fun vs H Q _ => ∃ (a : Addr) (y : V), vs = [.ref a, y] ∧ H a = some (exo a C none) ∧ ∀ d, H d = none → d ≠ a → Q .non (upd (upd H d (exd d [(g, y)])) a (exo a C (some d)))
/-- what the top has written of an error x whose attribute is g -/
structure ErrF (K : PySem.W.Frag) (mg : Str → Option Value) (x g qual : Str) (st : Stmt) (C f : Addr) (fd : FuncData) : Prop where
  o : OexC K C
  xf : XfC K C
  no : PySem.W.findIn K (.ref C) g = some none
  ini : PySem.W.findIn K (.ref C) "__init__" = some (some (.ref f))
  fn : PySem.W.typeIn K (.ref f) = some (.type "function")
  F : Fun K "__init__" qual st f fd
  b : Binds K fd ["self", g] []
  g : mg x = some (.ref C)
/-- raise C(y), y in slot i -/
def tBad (C : Addr) (g : Str) (W : WX) (i : Nat) : TS := fun _ σ H => ∃ v, σ[i]? = some (some v) ∧ ∀ d, H d = none → W (.ref C) (some d) σ (upd H d (.xd [(g, v)]))
theorem dict_left {H : Hp} {a d : Addr} {u1 u2 u3 o : HO} (ha : H a = none) (_ : d ≠ a) : upd (del (upd (upd (upd H a u1) d u2) a u3) a) d o = upd H d o := by
  funext b
  by_cases e : b = d
  · rw [e, upd_same, upd_same]
  · rw [upd_ne e, upd_ne e]
    by_cases e2 : b = a
    · rw [e2, del_same, ha]
    · rw [del_ne e2, upd_ne e2, upd_ne e, upd_ne e2]
section
variable {X : Cx} {W : WX} {C f : Addr} {fd : FuncData} {x g qual y : Str} {st : Stmt} {k i : Nat} {p p0 pos pos2 : Pos}
theorem ps_bad (E : ErrF X.K X.mg x g qual st C f fd) (F1 : FnOk X.prog X.w X.K X.mg X.base CX0 k f fd ["self", g] (spErr C g)) (hr : Room (k + 1) X.A) (calm : X.calm = true) (tk : L2N.Takes X W) (gl : Gl X x) (ha : PE X (.Name y p0) (tVar i))
    (nd : (x == ("__debug__" : Str)) = false := by decide) : PS X (.Raise (some (.Call (.Name x p) [.Name y p0] [] pos)) none pos2) (tBad C g W i) := by
  refine ⟨fun pins s σ H D I h => (L2N.ps_raise calm tk (Le.pmk_calm (CX := CX0) E.o E.ini E.fn F1 hr E.b (fun _ _ _ _ _ _ _ z => z.elim) gl E.g (pa_cons ha pa_nil) nd rfl rfl)).run pins s σ H D I ?_⟩
  obtain ⟨v, hv, q⟩ := h
  refine ⟨v, hv, (by show 1 ≤ 1000; decide), fun a na => ⟨a, v, rfl, upd_same, fun d nd ne => ⟨rfl, d, [(g, v)], upd_same, ?_, ?_, ?_⟩⟩⟩
  · rw [upd_ne ne, upd_same]
  · rw [upd_ne ne] at nd
    exact nd
  · have nd' : H d = none := by
      rw [upd_ne ne] at nd
      exact nd
    rw [dict_left na ne]
    exact q d nd'
end
section
variable {P : Program} {w : World} {K : PySem.W.Frag} {mg : Str → Option Value} {base : Heap} {C f : Addr} {fd : FuncData}
abbrev sErrInvalidNumber : Stmt := inClass (top 15) 0
theorem scErrN : FnScope ["self", "given"] ["self", "given"] (defScope sErrInvalidNumber) := ⟨rfl, rfl, rfl, by decide +kernel, rfl, by decide +kernel, by decide +kernel⟩
theorem ok_errN (E : ErrF K mg "InvalidNumber" "given" "InvalidNumber.__init__" sErrInvalidNumber C f fd) : FnOk P w K mg base CX0 1 f fd ["self", "given"] (spErr C "given") := by
  refine E.F.ok scErrN (fun vs H Q E h => by obtain ⟨a, y, rfl, _⟩ := h; rfl) (fun cdv A outer s H vs Q E' hr h => ?_)
  obtain ⟨a, y, rfl, ha, k⟩ := h
  exact ⟨_, pss_one (ps_ost (pv 0) (pv 1)), _, rfl, _, rfl, a, C, rfl, E.o, E.no, .inl ⟨ha, k⟩⟩
end
end Wb
/-! the face of a thing: a def that calls itself, over things of any kind -/
namespace Wb
open PySem L2
abbrev sFace : Stmt := top 41
theorem Same.new2 {q : Addr} {o : HO} {H H' : Hp} (a : Same H H') (n : H q = none) : Same H (L2.upd H' q o) := fun c u h => by
  rw [upd_ne (ne_of_none h n)]
  exact a c u h
/-! ### data stay -/
theorem SqT.stay {K : PySem.W.Frag} {H H' : Hp} {a : Addr} {xs : List V} (s : Same H H') (h : SqT K H a xs) : SqT K H' a xs := by
  rcases h with (q | ⟨o, q⟩) | q
  · exact .inl (.inl (s _ _ q))
  · exact .inl (.inr ⟨o, s _ _ q⟩)
  · exact .inr q
mutual
theorem Dp.stay {K : PySem.W.Frag} {H H' : Hp} (s : Same H H') : ∀ {v : V} {d : PyData}, Dp K H v d → Dp K H' v d
  | _, _, .non => .non
  | _, _, .bl b => .bl b
  | _, _, .int i => .int i
  | _, _, .str x => .str x
  | _, _, .lst h r => .lst (s.seq h) (DpAll.stay s r)
  | _, _, .tup h r => .tup (SqT.stay s h) (DpAll.stay s r)
theorem DpAll.stay {K : PySem.W.Frag} {H H' : Hp} (s : Same H H') : ∀ {vs : List V} {ds : List PyData}, DpAll K H vs ds → DpAll K H' vs ds
  | _, _, .nil => .nil
  | _, _, .cons h r => .cons (Dp.stay s h) (DpAll.stay s r)
end
theorem DpAll.snoc {K : PySem.W.Frag} {H : Hp} {v : V} {d : PyData} : ∀ {vs : List V} {ds : List PyData}, DpAll K H vs ds → Dp K H v d → DpAll K H (vs ++ [v]) (ds ++ [d])
  | _, _, .nil, h => .cons h .nil
  | _, _, .cons h r, q => .cons h (DpAll.snoc r q)
/-! ### what a thing is, by the face that it has -/
def plainD (d : PyData) : PyData := .list [.str "plain", d]
/-- a thing without parts -/
inductive Leaf : V → PyData → Prop
  | non : Leaf .non (plainD .none)
  | bl (b : Bool) : Leaf (.bl b) (.list [.str "truth", .bool b])
  | int (i : Int) : Leaf (.int i) (plainD (.int i))
  | str (x : Str) : Leaf (.str x) (plainD (.str x))
inductive Both {α β : Type} (R : α → β → Prop) : List α → List β → Prop
  | nil : Both R [] []
  | cons {x : α} {y : β} {xs : List α} {ys : List β} (h : R x y) (r : Both R xs ys) : Both R (x :: xs) (y :: ys)
theorem Both.imp {α β : Type} {R R' : α → β → Prop} (f : ∀ x y, R x y → R' x y) : ∀ {xs : List α} {ys : List β}, Both R xs ys → Both R' xs ys
  | _, _, .nil => .nil
  | _, _, .cons h r => .cons (f _ _ h) (Both.imp f r)
theorem Both.len {α β : Type} {R : α → β → Prop} : ∀ {xs : List α} {ys : List β}, Both R xs ys → xs.length = ys.length
  | _, _, .nil => rfl
  | _, _, .cons _ r => congrArg (· + 1) (Both.len r)
theorem Both.get {α β : Type} {R : α → β → Prop} : ∀ {xs : List α} {ys : List β} {i : Nat} {x : α}, Both R xs ys → xs[i]? = some x → ∃ y, ys[i]? = some y ∧ R x y
  | _, _, _, _, .nil, h => by cases h
  | _, _, 0, _, .cons h _, e => by cases e; exact ⟨_, rfl, h⟩
  | _ :: _, _ :: _, i + 1, _, .cons _ r, e => Both.get (i := i) r e
def keyD (k : Str) (d : PyData) : PyData := .list [plainD (.str k), d]
def kvsOf (ks : List Str) (xs : List V) : List (Key × V) := List.zipWith (fun k x => (Sum.inr k, x)) ks xs
/-- all but what lies at a -/
def cut (H : Hp) (a : Addr) : Hp := fun b => if b = a then none else H b
theorem cut_same {H H' : Hp} {a : Addr} (s : Same H H') : Same (cut H a) (cut H' a) := fun b o h => by
  unfold cut at h ⊢
  by_cases e : b = a
  · rw [if_pos e] at h
    cases h
  · rw [if_neg e] at h ⊢
    exact s _ _ h
theorem cutH_to {H H' : Hp} {a : Addr} (s : ∀ b o, b ≠ a → H b = some o → H' b = some o) : Same (cut H a) H' := fun b o h => by
  unfold cut at h
  by_cases e : b = a
  · rw [if_pos e] at h
    cases h
  · rw [if_neg e] at h
    exact s _ _ e h
/-- at most n parts within parts; d the face -/
def Thing (H : Hp) : Nat → V → PyData → Prop
  | 0, _, _ => False
  | n + 1, v, d => Leaf v d ∨ (∃ (a : Addr) (xs : List V) (ds : List PyData), v = .ref a ∧ H a = some (.lst xs) ∧ xs.length ≤ 1000 ∧ Both (Thing H n) xs ds ∧ d = .list (.str "list" :: ds))
    ∨ (∃ (a : Addr) (xs : List V) (ds : List PyData), v = .ref a ∧ H a = some (.tup xs) ∧ xs.length ≤ 1000 ∧ Both (Thing H n) xs ds ∧ d = .list (.str "tuple" :: ds))
    ∨ (∃ (a : Addr) (ks : List Str) (xs : List V) (ds : List PyData), v = .ref a ∧ H a = some (.dK (kvsOf ks xs)) ∧ ks.Nodup ∧ ks.length = xs.length ∧ xs.length ≤ 1000 ∧ Both (Thing (cut H a) n) xs ds ∧ d = .list (.str "dict" :: List.zipWith keyD ks ds))
theorem Thing.same {H H' : Hp} (s : Same H H') : ∀ {n : Nat} {v : V} {d : PyData}, Thing H n v d → Thing H' n v d
  | 0, _, _, h => h.elim
  | _ + 1, _, _, .inl h => .inl h
  | _ + 1, _, _, .inr (.inl ⟨a, xs, ds, e, h, l, r, q⟩) => .inr (.inl ⟨a, xs, ds, e, s _ _ h, l, r.imp fun _ _ z => Thing.same s z, q⟩)
  | _ + 1, _, _, .inr (.inr (.inl ⟨a, xs, ds, e, h, l, r, q⟩)) => .inr (.inr (.inl ⟨a, xs, ds, e, s _ _ h, l, r.imp fun _ _ z => Thing.same s z, q⟩))
  | _ + 1, _, _, .inr (.inr (.inr ⟨a, ks, xs, ds, e, h, nd, l1, l, r, q⟩)) => .inr (.inr (.inr ⟨a, ks, xs, ds, e, s _ _ h, nd, l1, l, r.imp fun _ _ z => Thing.same (cut_same s) z, q⟩))
/-- what is new in H' -/
def New (H H' : Hp) : Hp := fun b => match H b with
  | none => H' b
  | some _ => none
theorem New.at {H H' : Hp} {b : Addr} (h : H b = none) : New H H' b = H' b := by
  unfold New
  rw [h]
theorem New.inv {H H' : Hp} {b : Addr} {o : HO} (h : New H H' b = some o) : H b = none ∧ H' b = some o := by
  unfold New at h
  cases e : H b with
  | none =>
    rw [e] at h
    exact ⟨rfl, h⟩
  | some u =>
    rw [e] at h
    cases h
theorem New.sub {H H' : Hp} : Same (New H H') H' := fun _ _ h => (New.inv h).2
theorem New.mono {A B A' B' : Hp} (f : ∀ b o, A b = none → B b = some o → A' b = none ∧ B' b = some o) : Same (New A B) (New A' B') := fun b o h => by
  obtain ⟨h1, h2⟩ := New.inv h
  obtain ⟨g1, g2⟩ := f b o h1 h2
  rw [New.at g1]
  exact g2
def spFace (K : PySem.W.Frag) (n : Nat) : Sp := fun vs H Q _ => ∃ (v : V) (d : PyData), vs = [v] ∧ Thing H n v d ∧ ∀ (a : Addr) (H' : Hp), H a = none → Same H H' → Dp K (New H H') (.ref a) d → Q (.ref a) H'
abbrev NF : List Str := ["_law_thing", "_law_part", "_law_key"]
theorem scFace : FnScope NF ["_law_thing"] (defScope sFace) := ⟨rfl, rfl, rfl, by decide +kernel, rfl, by decide +kernel, by decide +kernel⟩
structure FreeT (mg : Str → Option Value) : Prop where
  isi : mg "isinstance" = none
  tup : mg "tuple" = none
  lst : mg "list" = none
  dct : mg "dict" = none
  bool : mg "bool" = none
theorem leaf_ty {K : PySem.W.Frag} {H : Hp} {v : V} {d : PyData} (h : Leaf v d) : ∃ (t : String) (b : Bool) (d' : PyData), TyX K H v (.type t) ∧ PySem.W.kitOne K (.type t) (.type "tuple") = some false ∧ PySem.W.kitOne K (.type t) (.type "list") = some false ∧
    PySem.W.kitOne K (.type t) (.type "dict") = some false ∧ PySem.W.kitOne K (.type t) (.type "bool") = some b ∧ d = .list [.str (if b = true then "truth" else "plain"), d'] ∧ ∀ H', Dp K H' v d' := by
  cases h with
  | non => exact ⟨_, _, _, .base .non, kit_ty (by decide +kernel), kit_ty (by decide +kernel), kit_ty (by decide +kernel), kit_ty (r := false) (by decide +kernel), rfl, fun _ => .non⟩
  | bl b => exact ⟨_, _, _, .base (.bl b), kit_ty (by decide +kernel), kit_ty (by decide +kernel), kit_ty (by decide +kernel), kit_ty (r := true) (by decide +kernel), rfl, fun _ => .bl b⟩
  | int i => exact ⟨_, _, _, .base (.int i), kit_ty (by decide +kernel), kit_ty (by decide +kernel), kit_ty (by decide +kernel), kit_ty (r := false) (by decide +kernel), rfl, fun _ => .int i⟩
  | str x => exact ⟨_, _, _, .base (.str x), kit_ty (by decide +kernel), kit_ty (by decide +kernel), kit_ty (by decide +kernel), kit_ty (r := false) (by decide +kernel), rfl, fun _ => .str x⟩
theorem free_of {H H' : Hp} {q : Addr} (s : Same H H') (n : H' q = none) : H q = none := by
  cases e : H q with
  | none => rfl
  | some o =>
    rw [s _ _ e] at n
    cases n
/-- the list of faces grows in D -/
def FacePv (K : PySem.W.Frag) (B : Hp) (D : Addr) (ds : List PyData) (i : Nat) (H : Hp) : Prop := ∃ ys : List V, H D = some (.lst ys) ∧ ys.length = i ∧ DpAll K (New (upd B D (.lst [])) H) ys (ds.take i) ∧ Same B H
theorem FacePv.same {K : PySem.W.Frag} {B H : Hp} {D : Addr} {ds : List PyData} {i : Nat} (h : FacePv K B D ds i H) (_ : B D = none) : Same B H := h.choose_spec.2.2.2
theorem FacePv.start {K : PySem.W.Frag} {B : Hp} {D : Addr} {ds : List PyData} (hD : B D = none) : FacePv K B D ds 0 (upd B D (.lst [])) := ⟨[], upd_same, rfl, by rw [List.take_zero]; exact .nil, Same.new2 (Same.refl _) hD⟩
theorem FacePv.grow {K : PySem.W.Frag} {B H H5 : Hp} {D : Addr} {ds : List PyData} {i : Nat} {v : V} {y : PyData} (h : FacePv K B D ds i H) (hD : B D = none) (hy : ds[i]? = some y) (s5 : Same H H5)
    (d5 : ∀ ys, H D = some (.lst ys) → Dp K (New (upd B D (.lst [])) (upd H5 D (.lst (ys ++ [v])))) v y) (few : i < 16777216) : ∃ acc, H5 D = some (.lst acc) ∧ acc.length < sizeLine ∧ FacePv K B D ds (i + 1) (upd H5 D (.lst (acc ++ [v]))) := by
  obtain ⟨ys, e1, e2, e3, e4⟩ := h
  refine ⟨ys, s5 _ _ e1, by rw [sizeLine_eq]; omega, ys ++ [v], upd_same, by rw [List.length_append, e2] <;> rfl, ?_, Same.new2 (e4.trans s5) hD⟩
  rw [List.take_add_one, hy]
  refine DpAll.snoc (DpAll.stay (New.mono fun b o h1 h2 => ⟨h1, ?_⟩) e3) (d5 ys e1)
  have n : b ≠ D := fun z => by
    rw [z, upd_same] at h1
    cases h1
  rw [upd_ne n]
  exact s5 _ _ h2
/-- what is new since later is new since earlier -/
theorem new_in {B H H5 : Hp} {D : Addr} {o : HO} (hB : Same B H) {ys : List V} (hD : H D = some (.lst ys)) : Same (New H H5) (New (upd B D (.lst [])) (upd H5 D o)) := New.mono fun b u h1 h2 => by
  have n : b ≠ D := fun z => by
    rw [z, hD] at h1
    cases h1
  refine ⟨?_, ?_⟩
  · rw [upd_ne n]
    exact free_of hB h1
  · rw [upd_ne n]
    exact h2
theorem FacePv.step {K : PySem.W.Frag} {B H H5 : Hp} {D : Addr} {ds : List PyData} {i : Nat} {c : Addr} {y : PyData} (h : FacePv K B D ds i H) (hD : B D = none) (hy : ds[i]? = some y) (_ : H c = none) (s5 : Same H H5) (d5 : Dp K (New H H5) (.ref c) y) (few : i < 16777216) :
    ∃ acc, H5 D = some (.lst acc) ∧ acc.length < sizeLine ∧ FacePv K B D ds (i + 1) (upd H5 D (.lst (acc ++ [.ref c]))) :=
  h.grow hD hy s5 (fun ys e => Dp.stay (new_in (h.same hD) e) d5) few
theorem FacePv.done {K : PySem.W.Frag} {H H3 : Hp} {L D : Addr} {ds : List PyData} {w : Str} {n : Nat} {Q : VK} (h : FacePv K (upd H L (.lst [.str w])) D ds n H3) (hD : upd H L (.lst [.str w]) D = none) (hL : H L = none) (len : n = ds.length) (few : n ≤ 1000)
    (k : ∀ (a : Addr) (H' : Hp), H a = none → Same H H' → Dp K (New H H') (.ref a) (.list (.str w :: ds)) → Q (.ref a) H') : rCat (.ref L) (.ref D) H3 Q := by
  obtain ⟨ys, e1, e2, e3, e4⟩ := h
  have s0 : Same H H3 := (Same.new2 (Same.refl H) hL).trans e4
  refine ⟨L, D, _, ys, rfl, rfl, e4 _ _ upd_same, e1, by rw [sizeLine_eq, e2]; show 1 + n ≤ _; omega, fun M hM => ?_⟩
  have nM := free_of s0 hM
  refine k M _ nM (Same.new2 s0 nM) ?_
  refine .lst (SqL.of ((New.at nM).trans upd_same)) (.cons (.str _) ?_)
  rw [show ds.take n = ds by rw [len, List.take_length]] at e3
  refine DpAll.stay (New.mono fun b o h1 h2 => ?_) e3
  have n1 : b ≠ D := fun z => by
    rw [z, upd_same] at h1
    cases h1
  rw [upd_ne n1] at h1
  have n2 : b ≠ L := fun z => by
    rw [z, upd_same] at h1
    cases h1
  rw [upd_ne n2] at h1
  refine ⟨h1, ?_⟩
  rw [upd_ne (ne_of_none h2 hM)]
  exact h2
theorem FacePv.unlock {K : PySem.W.Frag} {B H3 : Hp} {a D : Addr} {ds : List PyData} {n : Nat} {u : HO} {od : Obj} (h : FacePv K (upd B a (.frz od u)) D ds n H3) (hD : upd B a (.frz od u) D = none) (ha : B a = some u) : FacePv K B D ds n (upd H3 a u) := by
  obtain ⟨ys, e1, e2, e3, e4⟩ := h
  have nD : D ≠ a := fun z => by
    rw [z, upd_same] at hD
    cases hD
  refine ⟨ys, (upd_ne nD).trans e1, e2, DpAll.stay (New.mono fun b o h1 h2 => ?_) e3, fun b o h => ?_⟩
  · have n1 : b ≠ D := fun z => by
      rw [z, upd_same] at h1
      cases h1
    rw [upd_ne n1] at h1
    have n2 : b ≠ a := fun z => by
      rw [z, upd_same] at h1
      cases h1
    rw [upd_ne n2] at h1
    rw [upd_ne n1, upd_ne n2]
    exact ⟨h1, h2⟩
  · by_cases e : b = a
    · rw [e, upd_same]
      rw [e, ha] at h
      exact h
    · rw [upd_ne e]
      exact e4 _ _ ((upd_ne e).trans h)
theorem kvs_at {ks : List Str} {xs : List V} {i : Nat} {kk : Key} {vv : V} (h : (kvsOf ks xs)[i]? = some (kk, vv)) : ∃ kt, kk = Sum.inr kt ∧ ks[i]? = some kt ∧ xs[i]? = some vv := by
  unfold kvsOf at h
  rw [List.getElem?_zipWith] at h
  cases h1 : ks[i]? with
  | none =>
    rw [h1] at h
    cases h
  | some kt =>
    cases h2 : xs[i]? with
    | none =>
      rw [h1, h2] at h
      cases h
    | some x =>
      rw [h1, h2] at h
      cases h
      exact ⟨kt, rfl, rfl, rfl⟩
theorem valV_at : ∀ {ks : List Str} {xs : List V} {i : Nat} {kt : Str} {vv : V}, ks.Nodup → ks.length = xs.length → ks[i]? = some kt → xs[i]? = some vv → valV (kvsOf ks xs) (Sum.inr kt) = some vv
  | [], _, _, _, _, _, _, h, _ => by cases h
  | _ :: _, [], _, _, _, _, h, _, _ => by cases h
  | k :: ks, x :: xs, 0, kt, vv, _, _, h1, h2 => by
    cases h1
    cases h2
    show ((List.find? _ ((Sum.inr k, x) :: kvsOf ks xs)).map (·.2)) = some x
    rw [List.find?_cons_of_pos (by simp)] <;> rfl
  | k :: ks, x :: xs, i + 1, kt, vv, nd, len, h1, h2 => by
    obtain ⟨n1, n2⟩ := List.nodup_cons.mp nd
    have h1' : ks[i]? = some kt := h1
    have ne : k ≠ kt := fun z => n1 (z ▸ List.mem_of_getElem? h1')
    have ih := valV_at (ks := ks) (xs := xs) (i := i) n2 (Nat.succ.inj len) h1' h2
    show ((List.find? _ ((Sum.inr k, x) :: kvsOf ks xs)).map (·.2)) = some vv
    rw [List.find?_cons_of_neg (by simpa using ne)]
    exact ih
section
variable {P : Program} {w : World} {K : PySem.W.Frag} {mg : Str → Option Value} {base : Heap} {f : Addr} {fd : FuncData}
theorem face_none : FnOk P w K mg base CX0 1 f fd ["_law_thing"] (spFace K 0) :=
  ⟨fun vs H Q E h => by obtain ⟨v, d, rfl, z, _⟩ := h; exact z.elim, fun A outer s H args us vs Q E hr e0 hb hv h => by obtain ⟨v, d, rfl, z, _⟩ := h; exact z.elim⟩
set_option maxHeartbeats 0 in
theorem face_more {n : Nat} (D : Fun K "_law_face" "_law_face" sFace f fd) (g : mg "_law_face" = some (.ref f)) (kp : PySem.W.keepIn K (.ref f) = true) (b : Binds K fd ["_law_thing"] []) (Z : FreeT mg)
    (G : FnOk P w K mg base CX0 (n + 1) f fd ["_law_thing"] (spFace K n)) : FnOk P w K mg base CX0 (n + 2) f fd ["_law_thing"] (spFace K (n + 1)) := by
  refine D.ok scFace (fun vs H Q E h => ?_) (fun cdv A outer s H vs Q E hr h => ?_)
  · obtain ⟨v, d, rfl, _⟩ := h
    rfl
  · obtain ⟨v, d, rfl, th, k⟩ := h
    refine ⟨_, pss_cons (ps_if (pt_val (pe_callB call_isi (by rfl) Z.isi (by decide +kernel) (pa_cons (pv 0) (pa_cons (pe_bltn (v := .ty "tuple") (u := .type "tuple") (by rfl) Z.tup (by decide +kernel) rfl) pa_nil))))
        (pss_one (ps_ret (pe_op op_cat (pe_lst (pa_cons pe_str pa_nil))
          (pe_lc (own := [("_law_part", 1)]) (g := gName 1) (tt := tYes) rfl scFace.nd (pi_tup (pv 0)) (blkOk_by (N := NF) (sc := defScope sFace) (by decide +kernel)) (fun _ _ _ _ _ => pg_name (i := 1) scFace.nd rfl (.inl rfl)) (fun _ _ _ _ _ => pts_nil)
            (fun _ _ _ _ _ => pe_call G hr rfl g kp b .nil pass0 (pa_cons (pv 1) pa_nil)))))) pss_nil)
      (pss_cons (ps_if (pt_val (pe_callB call_isi (by rfl) Z.isi (by decide +kernel) (pa_cons (pv 0) (pa_cons (pe_bltn (v := .ty "list") (u := .type "list") (by rfl) Z.lst (by decide +kernel) rfl) pa_nil))))
        (pss_one (ps_ret (pe_op op_cat (pe_lst (pa_cons pe_str pa_nil))
          (pe_lc (own := [("_law_part", 1)]) (g := gName 1) (tt := tYes) rfl scFace.nd (pi_list (pv 0)) (blkOk_by (N := NF) (sc := defScope sFace) (by decide +kernel)) (fun _ _ _ _ _ => pg_name (i := 1) scFace.nd rfl (.inl rfl)) (fun _ _ _ _ _ => pts_nil)
            (fun _ _ _ _ _ => pe_call G hr rfl g kp b .nil pass0 (pa_cons (pv 1) pa_nil)))))) pss_nil)
      (pss_cons (ps_if (pt_val (pe_callB call_isi (by rfl) Z.isi (by decide +kernel) (pa_cons (pv 0) (pa_cons (pe_bltn (v := .ty "dict") (u := .type "dict") (by rfl) Z.dct (by decide +kernel) rfl) pa_nil))))
        (pss_one (ps_ret (pe_op op_cat (pe_lst (pa_cons pe_str pa_nil))
          (pe_lock (pe_lc (own := [("_law_key", 2)]) (g := gName 2) (tt := tYes) rfl scFace.nd (pi_keys (pv 0)) (blkOk_by (N := NF) (sc := defScope sFace) (by decide +kernel)) (fun _ _ _ _ _ => pg_name (i := 2) scFace.nd rfl (.inl rfl)) (fun _ _ _ _ _ => pts_nil)
            (fun _ _ _ _ _ => pe_lst (pa_cons (pe_call G hr rfl g kp b .nil pass0 (pa_cons (pv 2) pa_nil)) (pa_cons (pe_call G hr rfl g kp b .nil pass0 (pa_cons (pe_dget (hu_of hr) (pv 0) (pv 2) (fun _ _ => rfl)) pa_nil)) pa_nil)))))))) pss_nil)
      (pss_one (ps_ret (pe_lst (pa_cons (pe_ifExp (pt_val (pe_callB call_isi (by rfl) Z.isi (by decide +kernel) (pa_cons (pv 0) (pa_cons (pe_bltn (v := .ty "bool") (u := .type "bool") (by rfl) Z.bool (by decide +kernel) rfl) pa_nil)))) pe_str pe_str) (pa_cons (pv 0) pa_nil))))))), ?_⟩
    rcases th with lf | ⟨a, xs, ds, rfl, ha, few, parts, rfl⟩ | ⟨a, xs, ds, rfl, ha, few, parts, rfl⟩ | ⟨a, ks, xs, ds, rfl, ha, nd, len, few, parts, rfl⟩
    · obtain ⟨t, c, d', ty, k1, k2, k3, k4, rfl, dp⟩ := leaf_ty (K := K) (H := H) lf
      refine ⟨_, rfl, _, _, .type t, .type "tuple", false, rfl, .ty "tuple", ty, k1, false, rfl, iteF ?_⟩
      refine ⟨_, rfl, _, _, .type t, .type "list", false, rfl, .ty "list", ty, k2, false, rfl, iteF ?_⟩
      refine ⟨_, rfl, _, _, .type t, .type "dict", false, rfl, .ty "dict", ty, k3, false, rfl, iteF ?_⟩
      refine ⟨_, rfl, _, _, .type t, .type "bool", c, rfl, .ty "bool", ty, k4, c, rfl, ?_⟩
      cases c with
      | true => exact iteT ⟨_, rfl, (by show 2 ≤ sizeLine; decide), fun q hq => k q _ hq (Same.new2 (Same.refl H) hq) (.lst (SqL.of ((New.at hq).trans upd_same)) (.cons (.str _) (.cons (dp _) .nil)))⟩
      | false => exact iteF ⟨_, rfl, (by show 2 ≤ sizeLine; decide), fun q hq => k q _ hq (Same.new2 (Same.refl H) hq) (.lst (SqL.of ((New.at hq).trans upd_same)) (.cons (.str _) (.cons (dp _) .nil)))⟩
    · refine ⟨_, rfl, _, _, .type "list", .type "tuple", false, rfl, .ty "tuple", .base (.lst ha), kit_ty (by decide +kernel), false, rfl, iteF ?_⟩
      refine ⟨_, rfl, _, _, .type "list", .type "list", true, rfl, .ty "list", .base (.lst ha), kit_ty (by decide +kernel), true, rfl, iteT ?_⟩
      have mk : ∀ L, H L = none → Same H (upd H L (.lst [.str "list"])) := fun L hL => Same.new2 (Same.refl H) hL
      refine ⟨(by show 1 ≤ sizeLine; decide), fun L hL => ⟨_, rfl, a, rfl, ⟨xs, SqL.of (mk L hL _ _ ha)⟩, fun D hD => ?_⟩⟩
      refine lc_it (walk_list (xs := xs)) (FacePv K (upd H L (.lst [.str "list"])) D ds) (FacePv.start hD) (fun i H3 _ q => SqL.of (q.same hD _ _ (mk L hL _ _ ha))) ?_ ?_
      · rintro i x H3 H3' hi q ⟨rfl, hx⟩
        obtain ⟨y, hy, th⟩ := parts.get hx
        refine ⟨rfl, _, rfl, x, y, rfl, th.same ((mk L hL).trans (q.same hD)), fun c H5 hc s5 d5 => q.step hD hy hc s5 d5 (by omega)⟩
      · rintro H3 q
        exact q.done hD hL parts.len few k
    · refine ⟨_, rfl, _, _, .type "tuple", .type "tuple", true, rfl, .ty "tuple", .base (.tup ha), kit_ty (by decide +kernel), true, rfl, iteT ?_⟩
      have mk : ∀ L, H L = none → Same H (upd H L (.lst [.str "tuple"])) := fun L hL => Same.new2 (Same.refl H) hL
      refine ⟨(by show 1 ≤ sizeLine; decide), fun L hL => ⟨_, rfl, a, rfl, ⟨xs, SqT.of (mk L hL _ _ ha)⟩, fun D hD => ?_⟩⟩
      refine lc_it (walk_tup (xs := xs)) (FacePv K (upd H L (.lst [.str "tuple"])) D ds) (FacePv.start hD) (fun i H3 _ q => SqT.of (q.same hD _ _ (mk L hL _ _ ha))) ?_ ?_
      · rintro i x H3 H3' hi q ⟨rfl, hx⟩
        obtain ⟨y, hy, th⟩ := parts.get hx
        refine ⟨rfl, _, rfl, x, y, rfl, th.same ((mk L hL).trans (q.same hD)), fun c H5 hc s5 d5 => q.step hD hy hc s5 d5 (by omega)⟩
      · rintro H3 q
        exact q.done hD hL parts.len few k
    · refine ⟨_, rfl, _, _, .type "dict", .type "tuple", false, rfl, .ty "tuple", .base (.dK ha), kit_ty (by decide +kernel), false, rfl, iteF ?_⟩
      refine ⟨_, rfl, _, _, .type "dict", .type "list", false, rfl, .ty "list", .base (.dK ha), kit_ty (by decide +kernel), false, rfl, iteF ?_⟩
      refine ⟨_, rfl, _, _, .type "dict", .type "dict", true, rfl, .ty "dict", .base (.dK ha), kit_ty (by decide +kernel), true, rfl, iteT ?_⟩
      have mk : ∀ L, H L = none → Same H (upd H L (.lst [.str "dict"])) := fun L hL => Same.new2 (Same.refl H) hL
      refine ⟨(by show 1 ≤ sizeLine; decide), fun L hL => ⟨a, .dK (kvsOf ks xs), mk L hL _ _ ha, trivial, fun od => ⟨_, rfl, a, od, rfl, .inl ⟨_, upd_same, fun D hD => ?_⟩⟩⟩⟩
      have klen : (kvsOf ks xs).length = xs.length := by unfold kvsOf; rw [List.length_zipWith]; omega
      have dlen : (List.zipWith keyD ks ds).length = xs.length := by have := parts.len; rw [List.length_zipWith]; omega
      refine lc_it (walk_keys (kvs := kvsOf ks xs)) (FacePv K (upd (upd H L (.lst [.str "dict"])) a (.frz od (.dK (kvsOf ks xs)))) D (List.zipWith keyD ks ds)) (FacePv.start hD) (fun i H3 _ q => q.same hD _ _ upd_same) ?_ ?_
      · rintro i x H3 H3' hi q ⟨rfl, kk, vv, hk, rfl⟩
        obtain ⟨kt, rfl, ek, ev⟩ := kvs_at hk
        obtain ⟨y, hy, th⟩ := parts.get ev
        have s3 := q.same hD
        have lo : Same (cut H a) H3' := cutH_to fun b o n h => s3 _ _ ((upd_ne n).trans (mk L hL _ _ h))
        refine ⟨rfl, _, rfl, .str kt, plainD (.str kt), rfl, ?_, fun c H5 hc s5 d5 => ⟨_, rfl, _, rfl, a, _, rfl, .inl ⟨kvsOf ks xs, Sum.inr kt, .inr ⟨od, s5 _ _ (s3 _ _ upd_same)⟩, rfl, (valV_at nd len ek ev).symm⟩, vv, y, rfl, th.same (lo.trans s5), fun c2 H6 hc2 s6 d6 => ?_⟩⟩
        · cases n with
          | zero => exact th.elim
          | succ m => exact .inl (.str kt)
        · refine ⟨(by show 2 ≤ sizeLine; decide), fun E hE => ?_⟩
          have s56 := s5.trans s6
          have nE3 := free_of s56 hE
          refine q.grow hD (y := keyD kt y) ?_ (s56.trans (Same.new2 (Same.refl _) hE)) (fun ys e => ?_) (by omega)
          · rw [List.getElem?_zipWith, ek, hy] <;> rfl
          · have nDE : E ≠ D := fun z => by
              rw [z, e] at nE3
              cases nE3
            have nB := free_of (q.same hD) nE3
            refine .lst (SqL.of (xs := [.ref c, .ref c2]) ((New.at (by rw [upd_ne nDE]; exact nB)).trans ?_)) (.cons (Dp.stay ?_ d5) (.cons (Dp.stay ?_ d6) .nil))
            · rw [upd_ne nDE, upd_same]
            · refine New.mono fun b o h1 h2 => ?_
              have n : b ≠ D := fun z => by
                rw [z, e] at h1
                cases h1
              have n2 : b ≠ E := ne_of_none (s6 _ _ h2) hE
              rw [upd_ne n, upd_ne n, upd_ne n2]
              exact ⟨free_of s3 h1, s6 _ _ h2⟩
            · refine New.mono fun b o h1 h2 => ?_
              have h1' := free_of s5 h1
              have n : b ≠ D := fun z => by
                rw [z, e] at h1'
                cases h1'
              have n2 : b ≠ E := ne_of_none h2 hE
              rw [upd_ne n, upd_ne n, upd_ne n2]
              exact ⟨free_of s3 h1', h2⟩
      · rintro H3 q
        refine ⟨q.same hD _ _ upd_same, (q.unlock hD (mk L hL _ _ ha)).done ?_ hL (klen.trans dlen.symm) (by omega) k⟩
        have nD : D ≠ a := fun z => by
          rw [z, upd_same] at hD
          cases hD
        exact (upd_ne nD).symm.trans hD
theorem ok_face (D' : Def K mg "_law_face" sFace ["_law_thing"] f fd) (Z : FreeT mg) : ∀ n, FnOk P w K mg base CX0 (n + 1) f fd ["_law_thing"] (spFace K n)
  | 0 => face_none
  | n + 1 => face_more D'.F D'.g D'.kp D'.b Z (ok_face D' Z n)
end
end Wb
/-! values of any sort, asked what they are -/
namespace Wb
open PySem L2 WbMin WbS
abbrev sLWhole : Stmt := top 42
/-- a text as it may be passed -/
structure Tx (l : List Nat) : Prop where
  few : l.length ≤ 2000
  cod : ∀ c ∈ l, c < 1000
theorem Tx.fits {l : List Nat} (h : Tx l) : (S l).length ≤ sizeLine := by
  rw [S_len, sizeLine_eq]
  have := h.few
  omega
/-- a value of any sort, the pool p no part of it; d its face -/
def Any (p : Addr) (H : Hp) (x : V) (d : PyData) : Prop := Thing (cut H p) 5 x d ∧ (∀ z, x = .str z → ∃ l, z = S l ∧ Tx l) ∧ (∀ i, x = .int i → i < 2 ^ 1000) ∧ d.canLay0 = true ∧ PyData.depth d ≤ 60
theorem cut_but {p : Addr} {H H' : Hp} (b : But p H H') : Same (cut H p) (cut H' p) := fun c o h => by
  unfold cut at h ⊢
  by_cases e : c = p
  · rw [if_pos e] at h
    cases h
  · rw [if_neg e] at h ⊢
    exact b _ _ e h
theorem Any.but {p : Addr} {H H' : Hp} {x : V} {d : PyData} (h : Any p H x d) (b : But p H H') : Any p H' x d := ⟨h.1.same (cut_but b), h.2⟩
theorem Any.same {p : Addr} {H H' : Hp} {x : V} {d : PyData} (h : Any p H x d) (s : Same H H') : Any p H' x d := ⟨h.1.same (cut_same s), h.2⟩
theorem Any.thing {p : Addr} {H : Hp} {x : V} {d : PyData} (h : Any p H x d) : Thing H 5 x d := h.1.same (cutH_to fun _ _ _ e => e)
/-- what is neither a text nor an integer -/
inductive Neither (H : Hp) : V → Prop where
  | non : Neither H .non
  | bl (b : Bool) : Neither H (.bl b)
  | lst {a : Addr} {xs : List V} (h : H a = some (.lst xs)) : Neither H (.ref a)
  | tup {a : Addr} {xs : List V} (h : H a = some (.tup xs)) : Neither H (.ref a)
  | dK {a : Addr} {xs : List (Key × V)} (h : H a = some (.dK xs)) : Neither H (.ref a)
theorem Neither.same {H H' : Hp} {x : V} (h : Neither H x) (s : Same H H') : Neither H' x := by
  cases h with
  | non => exact .non
  | bl b => exact .bl b
  | lst h => exact .lst (s _ _ h)
  | tup h => exact .tup (s _ _ h)
  | dK h => exact .dK (s _ _ h)
theorem Any.sort {p : Addr} {H : Hp} {x : V} {d : PyData} (h : Any p H x d) : (∃ l, x = .str (S l) ∧ Tx l) ∨ (∃ i, x = .int i) ∨ Neither H x := by
  have th := h.thing
  rcases th with lf | ⟨a, xs, ds, rfl, ha, _⟩ | ⟨a, xs, ds, rfl, ha, _⟩ | ⟨a, ks, xs, ds, rfl, ha, _⟩
  · cases lf with
    | non => exact .inr (.inr .non)
    | bl b => exact .inr (.inr (.bl b))
    | int i => exact .inr (.inl ⟨i, rfl⟩)
    | str z =>
      obtain ⟨l, rfl, t⟩ := h.2.1 z rfl
      exact .inl ⟨l, rfl, t⟩
  · exact .inr (.inr (.lst ha))
  · exact .inr (.inr (.tup ha))
  · exact .inr (.inr (.dK ha))
theorem Neither.str {H : Hp} {K : PySem.W.Frag} {x : V} (h : Neither H x) : ∃ t, TyX K H x t ∧ PySem.W.kitOne K t (.type "str") = some false := by
  cases h with
  | non => exact ⟨_, .base .non, kit_ty (by decide +kernel)⟩
  | bl b => exact ⟨_, .base (.bl b), kit_ty (by decide +kernel)⟩
  | lst h => exact ⟨_, .base (.lst h), kit_ty (by decide +kernel)⟩
  | tup h => exact ⟨_, .base (.tup h), kit_ty (by decide +kernel)⟩
  | dK h => exact ⟨_, .base (.dK h), kit_ty (by decide +kernel)⟩
theorem Neither.int {H : Hp} {K : PySem.W.Frag} {x : V} (h : Neither H x) : ∃ (t : Value) (b : Bool), TyX K H x t ∧ PySem.W.kitOne K t (.type "int") = some b ∧ (b = true → PySem.W.kitOne K t (.type "bool") = some true) := by
  cases h with
  | non => exact ⟨_, false, .base .non, kit_ty (by decide +kernel), fun z => by cases z⟩
  | bl b => exact ⟨_, true, .base (.bl b), kit_ty (by decide +kernel), fun _ => kit_ty (by decide +kernel)⟩
  | lst h => exact ⟨_, false, .base (.lst h), kit_ty (by decide +kernel), fun z => by cases z⟩
  | tup h => exact ⟨_, false, .base (.tup h), kit_ty (by decide +kernel), fun z => by cases z⟩
  | dK h => exact ⟨_, false, .base (.dK h), kit_ty (by decide +kernel), fun z => by cases z⟩
/-! ### the answers -/
def okc (c : Nat) : Bool := decide (97 ≤ c) && decide (c ≤ 122)
def isWB (l : List Nat) : Bool := decide (1 ≤ l.length) && decide (l.length ≤ 600) && l.all okc
/-- a word -/
def wordB : V → Bool
  | .str z => isWB z.cps.toList
  | _ => false
def intB : V → Bool
  | .int _ => true
  | _ => false
/-- an integer from lo on -/
def goodI (lo : Int) : V → Bool
  | .int i => decide (lo ≤ i)
  | _ => false
theorem Neither.word {H : Hp} {x : V} (h : Neither H x) : wordB x = false := by cases h <;> rfl
theorem Neither.intB {H : Hp} {x : V} (h : Neither H x) : intB x = false := by cases h <;> rfl
theorem Neither.goodI {H : Hp} {x : V} {lo : Int} (h : Neither H x) : goodI lo x = false := by cases h <;> rfl
def spIsIntA : Sp := fun vs H Q _ => ∃ (p : Addr) (x : V) (d : PyData), vs = [x] ∧ Any p H x d ∧ Q (.bl (intB x)) H
def spIntFA : Sp := fun vs H Q _ => ∃ (p : Addr) (x : V) (d : PyData) (lo : Int), vs = [x, .int lo] ∧ Any p H x d ∧ Q (.bl (goodI lo x)) H
section
variable {P : Program} {w : World} {K : PySem.W.Frag} {mg : Str → Option Value} {base : Heap} {f fI : Addr} {fd dI : FuncData}
theorem isint_body {Q : VK} {H : Hp} {p : Addr} {x : V} {d : PyData} (h : Any p H x d) (k : Q (.bl (intB x)) H) :
    ∃ (t : Value) (b : Bool), TyX K H x t ∧ PySem.W.kitOne K t (.type "int") = some b ∧ (b = false → Q (.bl false) H) ∧ (b = true → ∃ c, PySem.W.kitOne K t (.type "bool") = some c ∧ Q (.bl (!c)) H) := by
  rcases h.sort with ⟨l, rfl, _⟩ | ⟨i, rfl⟩ | n
  · exact ⟨_, false, .base (.str _), kit_ty (by decide +kernel), fun _ => k, fun z => by cases z⟩
  · exact ⟨_, true, .base (.int _), kit_ty (by decide +kernel), (fun z => by cases z), fun _ => ⟨false, kit_ty (by decide +kernel), k⟩⟩
  · obtain ⟨t, b, ty, ki, kb⟩ := n.int (K := K)
    rw [n.intB] at k
    exact ⟨t, b, ty, ki, fun _ => k, fun z => ⟨true, kb z, k⟩⟩
theorem ok_isintA (F : Fun K "is_integer" "is_integer" sIsInt f fd) (Z : Free mg) : FnOk P w K mg base CX0 1 f fd ["value"] spIsIntA := by
  refine F.ok scII (fun vs H Q E h => by obtain ⟨p, x, d, rfl, _⟩ := h; rfl) (fun cdv A outer s H vs Q E hr h => ?_)
  obtain ⟨p, x, d, rfl, ha, k⟩ := h
  refine ⟨_, pss_one (ps_ret (pe_and (pe_callB call_isi (by rfl) Z.isi (by decide +kernel) (pa_cons (pv 0) (pa_cons (pe_bltn (v := .ty "int") (u := .type "int") (by rfl) Z.int (by decide +kernel) rfl) pa_nil)))
      (pe_one (pe_not (pe_callB call_isi (by rfl) Z.isi (by decide +kernel) (pa_cons (pv 0) (pa_cons (pe_bltn (v := .ty "bool") (u := .type "bool") (by rfl) Z.bool (by decide +kernel) rfl) pa_nil))))))), ?_⟩
  obtain ⟨t, b, ty, ki, no, yes⟩ := isint_body (K := K) ha k
  cases b with
  | false => exact ⟨_, rfl, _, _, t, .type "int", false, rfl, .ty "int", ty, ki, false, rfl, no rfl⟩
  | true =>
    obtain ⟨c, kc, q⟩ := yes rfl
    exact ⟨_, rfl, _, _, t, .type "int", true, rfl, .ty "int", ty, ki, true, rfl, _, rfl, _, _, t, .type "bool", c, rfl, .ty "bool", ty, kc, _, rfl, q⟩
theorem scLW : FnScope ["_law_thing"] ["_law_thing"] (defScope sLWhole) := ⟨rfl, rfl, rfl, by decide +kernel, rfl, by decide +kernel, by decide +kernel⟩
theorem ok_lwhole (F : Fun K "_law_whole" "_law_whole" sLWhole f fd) (Z : Free mg) : FnOk P w K mg base CX0 1 f fd ["_law_thing"] spIsIntA := by
  refine F.ok scLW (fun vs H Q E h => by obtain ⟨p, x, d, rfl, _⟩ := h; rfl) (fun cdv A outer s H vs Q E hr h => ?_)
  obtain ⟨p, x, d, rfl, ha, k⟩ := h
  refine ⟨_, pss_one (ps_ret (pe_and (pe_callB call_isi (by rfl) Z.isi (by decide +kernel) (pa_cons (pv 0) (pa_cons (pe_bltn (v := .ty "int") (u := .type "int") (by rfl) Z.int (by decide +kernel) rfl) pa_nil)))
      (pe_one (pe_not (pe_callB call_isi (by rfl) Z.isi (by decide +kernel) (pa_cons (pv 0) (pa_cons (pe_bltn (v := .ty "bool") (u := .type "bool") (by rfl) Z.bool (by decide +kernel) rfl) pa_nil))))))), ?_⟩
  obtain ⟨t, b, ty, ki, no, yes⟩ := isint_body (K := K) ha k
  cases b with
  | false => exact ⟨_, rfl, _, _, t, .type "int", false, rfl, .ty "int", ty, ki, false, rfl, no rfl⟩
  | true =>
    obtain ⟨c, kc, q⟩ := yes rfl
    exact ⟨_, rfl, _, _, t, .type "int", true, rfl, .ty "int", ty, ki, true, rfl, _, rfl, _, _, t, .type "bool", c, rfl, .ty "bool", ty, kc, _, rfl, q⟩
theorem ok_intfA (F : Fun K "is_integer_from" "is_integer_from" sIsIntF f fd) (Z : Free mg) (DI : Def K mg "is_integer" sIsInt ["value"] fI dI) : FnOk P w K mg base CX0 2 f fd ["value", "least"] spIntFA := by
  have GI : FnOk P w K mg base CX0 1 fI dI ["value"] spIsIntA := ok_isintA DI.F Z
  refine F.ok scIF (fun vs H Q E h => by obtain ⟨p, x, d, lo, rfl, _⟩ := h; rfl) (fun cdv A outer s H vs Q E hr h => ?_)
  obtain ⟨p, x, d, lo, rfl, ha, k⟩ := h
  refine ⟨_, pss_one (ps_ret (pe_and (pe_call GI hr rfl DI.g DI.kp DI.b .nil pass0 (pa_cons (pv 0) pa_nil)) (pe_one (pe_cmpR op_ge (pv 0) (pv 1) (nomark _))))), ?_⟩
  refine ⟨_, rfl, p, x, d, rfl, ha, _, rfl, ?_⟩
  rcases ha.sort with ⟨l, rfl, _⟩ | ⟨i, rfl⟩ | n
  · exact k
  · exact ⟨_, rfl, _, rfl, _, _, rfl, rfl, k⟩
  · rw [n.goodI] at k
    rw [n.intB]
    exact k
end
end Wb
/-! an odd value: one of 27 -/
namespace Wb
open PySem L2 WbMin WbS
abbrev sLOdd : Stmt := top 43
def spOddA : Sp := fun vs H Q _ => ∃ p : Addr, vs = [.ref p] ∧ PoolAt H p ∧ ∀ (x : V) (d : PyData) (H' : Hp), Any p H' x d → PoolAt H' p → But p H H' → Q x H'
def Val (p : Addr) (H : Hp) (x : V) : Prop := ∃ d, Any p H x d
theorem cut_at {H : Hp} {a p : Addr} (n : a ≠ p) : cut H p a = H a := if_neg n
theorem Val.non {p : Addr} {H : Hp} : Val p H .non := ⟨_, .inl .non, (fun z e => by cases e), (fun i e => by cases e), by decide +kernel, by decide +kernel⟩
theorem Val.bl {p : Addr} {H : Hp} (b : Bool) : Val p H (.bl b) := ⟨_, .inl (.bl b), (fun z e => by cases e), (fun i e => by cases e), by cases b <;> decide +kernel, by cases b <;> decide +kernel⟩
theorem int_layH (c : Int) : (plainD (.int c)).canLay0 = true := by
  show ((PyData.strOk "plain") && (true && true)) = true
  have e : PyData.strOk "plain" = true := by decide +kernel
  rw [e] <;> rfl
theorem strF_layH {z : Str} (h : PyData.strOk z = true) : (plainD (.str z)).canLay0 = true := by
  show ((PyData.strOk "plain") && (PyData.strOk z && true)) = true
  have e : PyData.strOk "plain" = true := by decide +kernel
  rw [e, h] <;> rfl
theorem Val.int {p : Addr} {H : Hp} {i : Int} (h : i < 2 ^ 1000) : Val p H (.int i) := ⟨_, .inl (.int i), (fun z e => by cases e), (fun j e => by cases e; exact h), int_layH i, (by show 1 ≤ 60; decide)⟩
theorem Val.str {p : Addr} {H : Hp} {l : List Nat} (h : Tx l) : Val p H (.str (S l)) := ⟨_, .inl (.str _), (fun z e => by cases e; exact ⟨l, rfl, h⟩), (fun i e => by cases e), strF_layH (ok_codes fun c hc => by have := h.cod c hc; omega), (by show 1 ≤ 60; decide)⟩
theorem Val.lit {p : Addr} {H : Hp} {z : Str} (l : List Nat) (e : z.cps.toList = l) (h1 : l.length ≤ 2000) (h2 : ∀ c ∈ l, c < 1000) : Val p H (.str z) := by
  rw [S_eq e]
  exact .str ⟨h1, h2⟩
theorem Val.of {p a : Addr} {H : Hp} (h : ∃ d, Thing (cut H p) 5 (.ref a) d ∧ d.canLay0 = true ∧ PyData.depth d ≤ 60) : Val p H (.ref a) := ⟨h.choose, h.choose_spec.1, (fun z e => by cases e), (fun i e => by cases e), h.choose_spec.2⟩
theorem keepA {H : Hp} {a b : Addr} {o u : HO} (h : H a = some o) (n : H b = none) : upd H b u a = some o := (upd_ne (ne_of_none h n)).trans h
theorem keep5 {H : Hp} {e f g t L x : Addr} {o u1 u2 u3 u4 u5 u6 : HO} (h : H x = some o) (he : H e = none) (hf : upd H e u1 f = none) (hg : upd (upd H e u1) f u2 g = none) (ht : upd (upd (upd (upd H e u1) f u2) g u3) e u4 t = none)
    (hL : upd (upd (upd (upd (upd H e u1) f u2) g u3) e u4) t u5 L = none) : upd (upd (upd (upd (upd (upd H e u1) f u2) g u3) e u4) t u5) L u6 x = some o :=
  keepA (keepA ((upd_ne (ne_of_none h he)).trans (keepA (keepA (keepA h he) hf) hg)) ht) hL
theorem int_lt {d m : Int} (h0 : 0 ≤ d) (h1 : d < m) : ∃ j : Nat, d = (j : Int) ∧ (j : Int) < m := ⟨d.toNat, by omega, by omega⟩
section
variable {P : Program} {w : World} {K : PySem.W.Frag} {mg : Str → Option Value} {base : Heap} {f fD fW : Addr} {fd fdD dW : FuncData}
theorem scOdA : FnScope ["_law_pool_here", "_law_way"] ["_law_pool_here"] (defScope sLOdd) := ⟨rfl, rfl, rfl, by decide +kernel, rfl, by decide +kernel, by decide +kernel⟩
set_option maxHeartbeats 0 in
theorem ok_oddA (F : Fun K "_law_odd" "_law_odd" sLOdd f fd) (D : Def K mg "_law_draw" sDraw ["_law_pool_here", "_law_many"] fD fdD) (Z : Free mg) : FnOk P w K mg base CX0 2 f fd ["_law_pool_here"] spOddA := by
  have G : FnOk P w K mg base CX0 1 fD fdD ["_law_pool_here", "_law_many"] spDraw := ok_draw D.F Z.int Z.divmod
  refine F.ok scOdA (fun vs H Q E h => ?_) (fun cdv A outer s H vs Q E hr h => ?_)
  · obtain ⟨p, rfl, _⟩ := h
    rfl
  · obtain ⟨p, rfl, hp, k⟩ := h
    refine ⟨_, pss_cons (ps_set (i := 1) scOdA.nd rfl (.inl rfl) (pe_call G hr rfl D.g D.kp D.b .nil pass0 (pa_cons (pv 0) (pa_cons pe_int pa_nil))))
      (pss_cons (ps_if (pt_cmpR op_lt (pv 1) pe_int (nomark _)) (pss_one (ps_ret (pe_ix ix_list (pe_lst (pa_cons pe_non (pa_cons pe_bl (pa_cons pe_bl (pa_cons pe_int (pa_cons pe_int (pa_cons (pe_un un_neg pe_int) (pa_cons pe_int (pa_cons pe_int (pa_cons pe_int (pa_cons (pe_op op_pow pe_int pe_int) (pa_cons (pe_un un_neg (pe_op op_pow pe_int pe_int)) pa_nil)))))))))))) (pv 1) (fun _ _ => rfl)))) pss_nil)
      (pss_cons (ps_if (pt_cmpR op_lt (pv 1) pe_int (nomark _)) (pss_one (ps_ret (pe_ix ix_list (pe_lst (pa_cons pe_str (pa_cons pe_str (pa_cons pe_str (pa_cons pe_str (pa_cons pe_str (pa_cons pe_str (pa_cons pe_str (pa_cons pe_str pa_nil))))))))) (pe_op op_sub (pv 1) pe_int) (fun _ _ => rfl)))) pss_nil)
      (pss_cons (ps_if (pt_cmpR op_lt (pv 1) pe_int (nomark _)) (pss_one (ps_ret (pe_ix ix_list (pe_lst (pa_cons (pe_lst pa_nil) (pa_cons (pe_lst (pa_cons pe_str pa_nil)) (pa_cons pe_dnewK (pa_cons (pe_disp (pps_cons pe_str pe_int pps_nil) (by rfl) (by rfl) (fun z => by cases z) (by decide)) pa_nil))))) (pe_op op_sub (pv 1) pe_int) (fun _ _ => rfl)))) pss_nil)
      (pss_one (ps_ret (pe_ix ix_list (pe_lst (pa_cons (pe_tup pa_nil) (pa_cons (pe_tup (pa_cons pe_str pa_nil)) (pa_cons (pe_tup (pa_cons pe_int (pa_cons pe_int pa_nil))) (pa_cons (pe_tup (pa_cons (pe_lst pa_nil) (pa_cons (pe_disp (pps_cons pe_str (pe_tup (pa_cons pe_int (pa_cons (pe_lst pa_nil) pa_nil))) pps_nil) (by rfl) (by rfl) (fun z => by cases z) (by decide)) pa_nil))) pa_nil))))) (pe_op op_sub (pv 1) pe_int) (fun _ _ => rfl))))))), ?_⟩
    have pw : CPow 10 38 := by refine ⟨?_, ?_, ?_⟩ <;> decide
    refine ⟨_, rfl, p, _, rfl, by decide, by decide, hp, fun d H1 d0 d1 hp1 b1 => ?_⟩
    obtain ⟨j, rfl, j1⟩ := int_lt d0 d1
    have nil : ∀ {H' : Hp}, ∀ x ∈ ([] : List V), Val p H' x := fun x hx => nomatch hx
    have vc : ∀ {H' : Hp} {y : V} {ys : List V}, Val p H' y → (∀ x ∈ ys, Val p H' x) → ∀ x ∈ y :: ys, Val p H' x := fun h1 h2 x hx => by
      rcases List.mem_cons.mp hx with rfl | hx
      · exact h1
      · exact h2 x hx
    have fin : ∀ {H' : Hp} {L : Addr} {xs : List V} {i : Int} {n : Nat}, H' L = some (.lst xs) → i = (n : Int) → n < xs.length → (∀ x ∈ xs, Val p H' x) → PoolAt H' p → But p H H' → rIxL K (.ref L) (.int i) H' Q := fun {H' L xs i n} hL ei hn hv hp' hb' => by
      subst ei
      obtain ⟨x, hx⟩ : ∃ x, xs[n]? = some x := ⟨_, List.getElem?_eq_getElem hn⟩
      exact ⟨L, xs, _, x, rfl, rfl, SqL.of hL, atI_nat hx, let ⟨dd, hd⟩ := hv x (List.mem_of_getElem? hx)
      k x dd H' hd hp' hb'⟩
    refine ⟨_, rfl, _, _, rfl, rfl, _, rfl, ite2 (fun q => ?_) (fun q => ?_)⟩
    · have q' : j < 11 := by have := of_decide_eq_true q; omega
      refine ⟨_, rfl, _, _, rfl, rfl, pw, _, _, rfl, rfl, pw, _, rfl, (by show 11 ≤ sizeLine; decide), fun L hL => ⟨_, rfl, ?_⟩⟩
      have nL := hp1.ne hL
      refine fin upd_same rfl (by show j < 11; exact q') (vc .non (vc (.bl _) (vc (.bl _) (vc (.int ?_) (vc (.int ?_) (vc (.int ?_) (vc (.int ?_) (vc (.int ?_) (vc (.int ?_) (vc (.int ?_) (vc (.int ?_) nil))))))))))) (hp1.put nL) (b1.upd hL)
      all_goals decide +kernel
    have q1 : 11 ≤ j := by
      have z : ¬ ((j : Int) < 11) := fun z => q (decide_eq_true z)
      omega
    refine ⟨_, rfl, _, _, rfl, rfl, _, rfl, ite2 (fun r => ?_) (fun r => ?_)⟩
    · have r' : j < 19 := by have := of_decide_eq_true r; omega
      refine ⟨(by show 8 ≤ sizeLine; decide), fun L hL => ⟨_, rfl, _, _, rfl, rfl, ?_⟩⟩
      have nL := hp1.ne hL
      refine fin (n := j - 11) upd_same (by omega) (by show j - 11 < 8; omega) ?_ (hp1.put nL) (b1.upd hL)
      refine vc (Val.lit [] ?_ (by decide) (by decide)) (vc (Val.lit [97] ?_ (by decide) (by decide)) (vc (Val.lit [97, 98] ?_ (by decide) (by decide)) (vc (Val.lit [65] ?_ (by decide) (by decide)) (vc (Val.lit [97, 32, 98] ?_ (by decide) (by decide)) (vc (Val.lit [97, 97] ?_ (by decide) (by decide)) (vc (Val.lit [97, 10] ?_ (by decide) (by decide)) (vc (Val.lit [97, 98, 99, 100, 101] ?_ (by decide) (by decide)) nil))))))) <;> decide +kernel
    have r1 : 19 ≤ j := by
      have z : ¬ ((j : Int) < 19) := fun z => r (decide_eq_true z)
      omega
    refine ⟨_, rfl, _, _, rfl, rfl, _, rfl, ite2 (fun u => ?_) (fun u => ?_)⟩
    · have u' : j < 23 := by have := of_decide_eq_true u; omega
      refine ⟨(by show 0 ≤ sizeLine; decide), fun a ha => ⟨(by show 1 ≤ sizeLine; decide), fun b hb => fun c hc => fun d hd => ⟨upd_same, [(Sum.inr "a", .int 1)], rfl, by decide, (by show 4 ≤ sizeLine; decide), fun L hL => ⟨_, rfl, _, _, rfl, rfl, ?_⟩⟩⟩⟩
      have na := hp1.ne ha
      have p2 := hp1.put (o := .lst []) na
      have nb := p2.ne hb
      have p3 := p2.put (o := .lst [.str "a"]) nb
      have nc := p3.ne hc
      have p4 := p3.put (o := .dK []) nc
      have nd := p4.ne hd
      have p5 := (p4.put (o := .dK []) nd).put (o := .dK (mergeK [] [(Sum.inr "a", .int 1)])) nd
      have nL := p5.ne hL
      have d1 := ((((But.refl p _).upd (o := .lst []) ha).upd (o := .lst [.str "a"]) hb).upd (o := .dK []) hc).free hd nd
      have fa := keepA (u := .lst [.ref a, .ref b, .ref c, .ref d]) ((upd_ne (o := .dK (mergeK [] [(Sum.inr "a", .int 1)])) (ne_of_none (keepA (u := .dK []) (keepA (u := .lst [.str "a"]) upd_same hb) hc) hd)).trans (keepA (u := .dK []) (keepA (u := .dK []) (keepA (u := .lst [.str "a"]) (upd_same (o := .lst [])) hb) hc) hd)) hL
      have fb := keepA (u := .lst [.ref a, .ref b, .ref c, .ref d]) ((upd_ne (o := .dK (mergeK [] [(Sum.inr "a", .int 1)])) (ne_of_none (keepA (u := .dK []) upd_same hc) hd)).trans (keepA (u := .dK []) (keepA (u := .dK []) (upd_same (o := .lst [.str "a"])) hc) hd)) hL
      have fc := keepA (u := .lst [.ref a, .ref b, .ref c, .ref d]) ((upd_ne (o := .dK (mergeK [] [(Sum.inr "a", .int 1)])) (ne_of_none upd_same hd)).trans (keepA (u := .dK []) (upd_same (o := .dK [])) hd)) hL
      have fd' := keepA (u := .lst [.ref a, .ref b, .ref c, .ref d]) (upd_same (o := .dK (mergeK [] [(Sum.inr "a", .int 1)]))) hL
      have kH := ((((((b1.upd (o := .lst []) ha).upd (o := .lst [.str "a"]) hb).upd (o := .dK []) hc).upd (o := .dK []) hd).new (o := .dK (mergeK [] [(Sum.inr "a", .int 1)])) (b1.free d1 nd)).upd (o := .lst [.ref a, .ref b, .ref c, .ref d]) hL)
      refine fin (n := j - 19) upd_same (by omega) (by show j - 19 < 4; omega) (vc (.of ?_) (vc (.of ?_) (vc (.of ?_) (vc (.of ?_) nil)))) (p5.put nL) kH
      · exact ⟨_, .inr (.inl ⟨a, [], [], rfl, (cut_at na).trans fa, by decide, .nil, rfl⟩), by decide +kernel, by decide +kernel⟩
      · exact ⟨_, .inr (.inl ⟨b, [.str "a"], [_], rfl, (cut_at nb).trans fb, by decide, .cons (.inl (.str _)) .nil, rfl⟩), by decide +kernel, by decide +kernel⟩
      · exact ⟨_, .inr (.inr (.inr ⟨c, [], [], [], rfl, (cut_at nc).trans fc, .nil, rfl, by decide, .nil, rfl⟩)), by decide +kernel, by decide +kernel⟩
      · exact ⟨_, .inr (.inr (.inr ⟨d, ["a"], [.int 1], [_], rfl, (cut_at nd).trans fd', by decide, rfl, by decide, .cons (.inl (.int _)) .nil, rfl⟩)), by decide +kernel, by decide +kernel⟩
    · have u1 : 23 ≤ j := by
        have z : ¬ ((j : Int) < 23) := fun z => u (decide_eq_true z)
        omega
      refine ⟨(by show 0 ≤ sizeLine; decide), fun a ha => ⟨(by show 1 ≤ sizeLine; decide), fun b hb => ⟨(by show 2 ≤ sizeLine; decide), fun c hc => ⟨(by show 0 ≤ sizeLine; decide), fun d hd => fun e he => ⟨(by show 0 ≤ sizeLine; decide), fun f hf => ⟨(by show 2 ≤ sizeLine; decide), fun g hg => ?_⟩⟩⟩⟩⟩⟩
      have na := hp1.ne ha
      have p2 := hp1.put (o := .tup []) na
      have nb := p2.ne hb
      have p3 := p2.put (o := .tup [.str "a"]) nb
      have nc := p3.ne hc
      have p4 := p3.put (o := .tup [.int 0, .int 1]) nc
      have nd := p4.ne hd
      have p5 := p4.put (o := .lst []) nd
      have ne := p5.ne he
      have p6 := p5.put (o := .dK []) ne
      have nf := p6.ne hf
      have p7 := p6.put (o := .lst []) nf
      have ng := p7.ne hg
      have p8 := (p7.put (o := .tup [.int 1, .ref f]) ng).put (o := .dK (mergeK [] [(Sum.inr "a", .ref g)])) ne
      have eE : upd (upd (upd _ e (.dK [])) f (.lst [])) g (.tup [.int 1, .ref f]) e = some (.dK []) := keepA (keepA upd_same hf) hg
      refine ⟨eE, [(Sum.inr "a", .ref g)], rfl, (by show 1 ≤ 15; decide), (by show 2 ≤ sizeLine; decide), fun t ht => ⟨(by show 4 ≤ sizeLine; decide), fun L hL => ⟨_, rfl, _, _, rfl, rfl, ?_⟩⟩⟩
      have nt := p8.ne ht
      have p9 := p8.put (o := .tup [.ref d, .ref e]) nt
      have nL := p9.ne hL
      have e1 := (((((But.refl p _).upd (o := .tup []) ha).upd (o := .tup [.str "a"]) hb).upd (o := .tup [.int 0, .int 1]) hc).upd (o := .lst []) hd).free he ne
      have kH := ((((((((((b1.upd (o := .tup []) ha).upd (o := .tup [.str "a"]) hb).upd (o := .tup [.int 0, .int 1]) hc).upd (o := .lst []) hd).upd (o := .dK []) he).upd (o := .lst []) hf).upd (o := .tup [.int 1, .ref f]) hg).new (o := .dK (mergeK [] [(Sum.inr "a", .ref g)])) (b1.free e1 ne)).upd (o := .tup [.ref d, .ref e]) ht)).upd (o := .lst [.ref a, .ref b, .ref c, .ref t]) hL
      have ef := ne_of_none (upd_same (o := .dK [])) hf
      have eg := ne_of_none (keepA (u := .lst []) (upd_same (o := .dK [])) hf) hg
      have xa := keep5 (u6 := .lst [.ref a, .ref b, .ref c, .ref t]) (keepA (u := .lst []) (keepA (u := .tup [.int 0, .int 1]) (keepA (u := .tup [.str "a"]) (upd_same (o := .tup [])) hb) hc) hd) he hf hg ht hL
      have xb := keep5 (u6 := .lst [.ref a, .ref b, .ref c, .ref t]) (keepA (u := .lst []) (keepA (u := .tup [.int 0, .int 1]) (upd_same (o := .tup [.str "a"])) hc) hd) he hf hg ht hL
      have xc := keep5 (u6 := .lst [.ref a, .ref b, .ref c, .ref t]) (keepA (u := .lst []) (upd_same (o := .tup [.int 0, .int 1])) hd) he hf hg ht hL
      have xd := keep5 (u6 := .lst [.ref a, .ref b, .ref c, .ref t]) (upd_same (o := .lst [])) he hf hg ht hL
      have xe := keepA (u := .lst [.ref a, .ref b, .ref c, .ref t]) (keepA (u := .tup [.ref d, .ref e]) (upd_same (o := .dK (mergeK [] [(Sum.inr "a", .ref g)]))) ht) hL
      have xf := keepA (u := .lst [.ref a, .ref b, .ref c, .ref t]) (keepA (u := .tup [.ref d, .ref e]) ((upd_ne (o := .dK (mergeK [] [(Sum.inr "a", .ref g)])) ef.symm).trans (keepA (u := .tup [.int 1, .ref f]) (upd_same (o := .lst [])) hg)) ht) hL
      have xg := keepA (u := .lst [.ref a, .ref b, .ref c, .ref t]) (keepA (u := .tup [.ref d, .ref e]) ((upd_ne (o := .dK (mergeK [] [(Sum.inr "a", .ref g)])) eg.symm).trans (upd_same (o := .tup [.int 1, .ref f]))) ht) hL
      have xt := keepA (u := .lst [.ref a, .ref b, .ref c, .ref t]) (upd_same (o := .tup [.ref d, .ref e])) hL
      refine fin (n := j - 23) upd_same (by omega) (by show j - 23 < 4; omega) (vc (.of ?_) (vc (.of ?_) (vc (.of ?_) (vc (.of ?_) nil)))) (p9.put nL) kH
      · exact ⟨_, .inr (.inr (.inl ⟨a, [], [], rfl, (cut_at na).trans xa, by decide, .nil, rfl⟩)), by decide +kernel, by decide +kernel⟩
      · exact ⟨_, .inr (.inr (.inl ⟨b, [.str "a"], [_], rfl, (cut_at nb).trans xb, by decide, .cons (.inl (.str _)) .nil, rfl⟩)), by decide +kernel, by decide +kernel⟩
      · exact ⟨_, .inr (.inr (.inl ⟨c, [.int 0, .int 1], [_, _], rfl, (cut_at nc).trans xc, by decide, .cons (.inl (.int _)) (.cons (.inl (.int _)) .nil), rfl⟩)), by decide +kernel, by decide +kernel⟩
      · exact ⟨_, .inr (.inr (.inl ⟨t, [.ref d, .ref e], [_, _], rfl, (cut_at nt).trans xt, (by show 2 ≤ 1000; decide), .cons (.inr (.inl ⟨d, [], [], rfl, (cut_at nd).trans xd, by decide, .nil, rfl⟩)) (.cons (.inr (.inr (.inr ⟨e, ["a"], [.ref g], [_], rfl, (cut_at ne).trans xe, by decide, rfl, (by show 1 ≤ 1000; decide),
          .cons (.inr (.inr (.inl ⟨g, [.int 1, .ref f], [_, _], rfl, (cut_at eg.symm).trans ((cut_at ng).trans xg), (by show 2 ≤ 1000; decide), .cons (.inl (.int _)) (.cons (.inr (.inl ⟨f, [], [], rfl, (cut_at ef.symm).trans ((cut_at nf).trans xf), by decide, .nil, rfl⟩)) .nil), rfl⟩))) .nil, rfl⟩))) .nil), rfl⟩)), by decide +kernel, by decide +kernel⟩
end
end Wb
/-! laws of kinds over the base of the loops (out of k10's texts): _law_every, _law_couples, _law_along -/
namespace Wb
open PySem L2 WbMin WbO WbS WbT Lz
theorem perm_map {α β : Type} (f : α → β) : ∀ {xs ys : List β}, xs.Perm ys → ∀ l : List α, xs = l.map f → ∃ l', l.Perm l' ∧ ys = l'.map f
  | _, _, .nil, l, e => ⟨l, .refl _, e⟩
  | _, _, .cons x p, l, e => by
    cases l with
    | nil => cases e
    | cons a l =>
      injection e with e1 e2
      obtain ⟨l', q, e'⟩ := perm_map f p l e2
      exact ⟨a :: l', q.cons a, by rw [e', e1] <;> rfl⟩
  | _, _, .swap x y r, l, e => by
    cases l with
    | nil => cases e
    | cons a l =>
      injection e with e1 e2
      cases l with
      | nil => cases e2
      | cons b l =>
        injection e2 with e2 e3
        exact ⟨b :: a :: l, .swap _ _ _, by rw [e1, e2, e3] <;> rfl⟩
  | _, _, .trans p q, l, e => by
    obtain ⟨l1, p1, e1⟩ := perm_map f p l e
    obtain ⟨l2, p2, e2⟩ := perm_map f q l1 e1
    exact ⟨l2, p1.trans p2, e2⟩
theorem strs_no_ints {q : List Str} : ∀ x y z : Int, q.map V.str ≠ [.int x, .int y, .int z] := fun x y z e => by
  cases q with
  | nil => cases e
  | cons a q =>
    injection e with e _
    cases e
/-! ## k10 WbL1.lean -/
abbrev sEvery : Stmt := top 46
abbrev sCouples : Stmt := top 47
theorem allP_len (sg : List Nat) : (allP sg).length = sg.length * sg.length := by
  unfold allP
  rw [List.length_flatMap, show (sg.map fun a => (sg.map fun b => S [a, b]).length) = List.replicate sg.length sg.length from List.map_eq_replicate_iff.mpr fun _ _ => List.length_map .., List.sum_replicate_nat]
theorem prs_of {sg : List Nat} {ps : List Str} (G : Sgs sg) (nd : ps.Nodup) (sub : ∀ z ∈ ps, z ∈ allP sg) : Prs sg ps := by
  refine ⟨fun z hz => allP_mem.mp (sub z hz), nd, ?_⟩
  have h1 := few_of_sub (allP sg) ps nd sub
  rw [allP_len] at h1
  exact Nat.le_trans h1 (Nat.le_trans (Nat.mul_le_mul G.few G.few) (by decide))
def spEvery : Sp := fun vs H Q _ => ∃ (sg : List Nat), vs = [.str (S sg)] ∧ sg.length ≤ 4 ∧ ∀ (a : Addr) (H' : Hp), H' a = some (.lst ((allP sg).map V.str)) → H a = none → Same H H' → Q (.ref a) H'
def spCouples : Sp := fun vs H Q _ => ∃ (p : Addr) (sg : List Nat), vs = [.ref p, .str (S sg)] ∧ Sgs sg ∧ PoolAt H p ∧ ∀ (a : Addr) (ps : List Str) (H' : Hp), H' a = some (.lst (ps.map V.str)) → a ≠ p → Prs sg ps → PoolAt H' p → But p H H' → Q (.ref a) H'
section
variable {P : Program} {w : World} {K : PySem.W.Frag} {mg : Str → Option Value} {base : Heap} {f fD fE fS : Addr} {fd fdD dE dS : FuncData}
theorem scEv : FnScope ["_law_abc", "_law_found", "_law_near", "_law_far"] ["_law_abc"] (defScope sEvery) := ⟨rfl, rfl, rfl, by decide +kernel, rfl, by decide +kernel, by decide +kernel⟩
set_option maxHeartbeats 0 in
theorem ok_every (F : Fun K "_law_every" "_law_every" sEvery f fd) : FnOk P w K mg base CX0 1 f fd ["_law_abc"] spEvery := by
  refine F.ok scEv (fun vs H Q E h => ?_) (fun cdv A outer s H vs Q E hr h => ?_)
  · obtain ⟨sg, rfl, _⟩ := h
    rfl
  · obtain ⟨sg, rfl, few, k⟩ := h
    refine ⟨_, pss_cons (ps_set (i := 1) scEv.nd rfl (.inl rfl) (pe_lst pa_nil))
      (pss_cons (ps_for PassesOwn.never rfl (pi_str (pv 0)) (pg_name (i := 2) scEv.nd rfl (.inr rfl))
        (pss_one (ps_set (i := 1) scEv.nd rfl (.inl rfl) (pe_op op_cat (pv 1) (pe_lc (own := [("_law_far", 3)]) (g := gName 3) (tt := tYes) rfl scEv.nd (pi_str (pv 0)) (blkOk_by (N := ["_law_abc", "_law_found", "_law_near", "_law_far"]) (sc := defScope sEvery) (by decide +kernel)) (fun _ _ _ _ _ => pg_name (i := 3) scEv.nd rfl (.inl rfl)) (fun _ _ _ _ _ => pts_nil)
          (fun _ _ _ _ _ => pe_op op_add_str (pv 2) (pv 3)))))))
      (pss_one (ps_ret (pv 1)))), ?_⟩
    refine ⟨(by show 0 ≤ sizeLine; decide), fun L0 hL0 => ?_⟩
    refine ⟨_, rfl, _, rfl, for_it walk_str (fun i σ H' => ∃ (L : Addr) (v2 v3 : Option V), σ = [some (.str (S sg)), some (.ref L), v2, v3] ∧ H' L = some (.lst (((sg.take i).flatMap fun a => sg.map fun b => S [a, b]).map V.str)) ∧ H L = none ∧ Same H H')
      ⟨L0, none, none, rfl, upd_same, hL0, Same.put (Same.refl H) hL0⟩ (fun _ _ _ _ _ => trivial) ?_ ?_⟩
    · rintro i x σ H2 H2' hi ⟨L, v2, v3, rfl, h1, hL, s2⟩ ⟨rfl, c, hc, rfl⟩
      have hc' : sg[i]? = some c := by simpa [S] using hc
      rw [S_size] at hi
      have len : ((sg.take i).flatMap fun a => sg.map fun b => S [a, b]).length ≤ 16 := by
        have e : ((sg.take i).flatMap fun a => sg.map fun b => S [a, b]).length = (sg.take i).length * sg.length := by
          rw [List.length_flatMap, show ((sg.take i).map fun a => (sg.map fun b => S [a, b]).length) = List.replicate (sg.take i).length sg.length from List.map_eq_replicate_iff.mpr fun _ _ => List.length_map ..  , List.sum_replicate_nat]
        rw [e]
        exact Nat.le_trans (Nat.mul_le_mul (by rw [List.length_take]; omega : (sg.take i).length ≤ 4) few) (by decide)
      refine ⟨_, rfl, _, rfl, _, rfl, fun D hD => lc_it walk_str (fun j H3 => H3 D = some (.lst (((sg.take j).map fun b => S [c, b]).map V.str)) ∧ Same H2' H3) ⟨upd_same, Same.put (Same.refl _) hD⟩ (fun _ _ _ _ => trivial) ?_ ?_⟩
      · rintro j y H3 H3' hj ⟨e1, e2⟩ ⟨rfl, d, hd, rfl⟩
        have hd' : sg[j]? = some d := by simpa [S] using hd
        refine ⟨rfl, _, rfl, _, rfl, _, _, rfl, rfl, (by show 1 + 1 ≤ sizeLine; decide), _, e1, ?_, ?_, Same.new' e2 hD⟩
        · rw [List.length_map, List.length_map, sizeLine_eq]
          have := List.length_take_le' j sg
          omega
        · rw [upd_same, take_more hd']
          refine congrArg (fun q => some (HO.lst q)) ?_
          simp only [List.map_append, List.map_cons, List.map_nil]
          rfl
      · rintro H3 ⟨e1, e2⟩
        rw [S_size, List.take_length] at e1
        refine ⟨L, D, _, _, rfl, rfl, e2 _ _ h1, e1, ?_, fun M hM => ⟨M, _, _, rfl, ?_, ?_, Same.put (s2.trans e2) hM⟩⟩
        · rw [List.length_map, List.length_map, List.length_map, sizeLine_eq]
          omega
        · rw [upd_same, take_more hc', List.flatMap_append, List.map_append]
          simp
        · cases e : H M with
          | none => rfl
          | some o =>
            rw [e2 _ _ (s2 _ _ e)] at hM
            cases hM
    · rintro σ H2 ⟨L, v2, v3, rfl, h1, hL, s2⟩
      rw [S_size, List.take_length] at h1
      exact ⟨_, rfl, k L H2 h1 hL s2⟩
end
/-! ## k10 WbL2.lean -/
theorem dp_ints {K : PySem.W.Frag} {H : Hp} : ∀ zs : List Int, DpAll K H (zs.map V.int) (zs.map PyData.int)
  | [] => .nil
  | z :: r => .cons (.int z) (dp_ints r)
theorem can_ints : ∀ zs : List Int, PyData.canLayAll0 (zs.map PyData.int) = true
  | [] => rfl
  | z :: r => by
    show (true && PyData.canLayAll0 (r.map PyData.int)) = true
    rw [can_ints r] <;> rfl
theorem depth_ints : ∀ zs : List Int, PyData.depthAll (zs.map PyData.int) = 0
  | [] => rfl
  | z :: r => by
    show max (PyData.depth (.int z)) (PyData.depthAll (r.map PyData.int)) = 0
    rw [depth_ints r] <;> rfl
theorem shaped_ints (zs : List Int) : SeqAt.shaped (.list (zs.map PyData.int)) = true := by
  have d : PyData.depth (.list (zs.map PyData.int)) = 1 := by
    show PyData.depthAll (zs.map PyData.int) + 1 = 1
    rw [depth_ints]
  unfold SeqAt.shaped
  rw [d]
  show (PyData.canLayAll0 (zs.map PyData.int) && decide (1 ≤ 64)) = true
  rw [can_ints] <;> rfl
theorem filter_none {α : Type} (f : α → Bool) : ∀ l : List α, (l.filter fun c => !f c).isEmpty = l.all f
  | [] => rfl
  | c :: l => by
    cases h : f c with
    | true =>
      rw [List.filter_cons_of_neg (by simp [h]), List.all_cons, h, Bool.true_and]
      exact filter_none f l
    | false =>
      rw [List.filter_cons_of_pos (by simp [h]), List.all_cons, h] <;> rfl
theorem at_last {l : List Nat} (h : 0 < l.length) : atI l (-1) = some (l.getD (l.length - 1) 0) := by
  have q := at_before (l := l) (i := 0) h
  rw [Nat.zero_add, Nat.mod_eq_of_lt (by omega)] at q
  exact q
section
variable {P : Program} {w : World} {K : PySem.W.Frag} {mg : Str → Option Value} {base : Heap} {f fD fE fS : Addr} {fd fdD dE dS : FuncData}
abbrev NCo : List Str := ["_law_pool_here", "_law_abc", "_law_every_here", "_law_way", "_law_some", "_law_mate"]
theorem scCo : FnScope NCo ["_law_pool_here", "_law_abc"] (defScope sCouples) := ⟨rfl, rfl, rfl, by decide +kernel, rfl, by decide +kernel, by decide +kernel⟩
set_option maxHeartbeats 0 in
theorem ok_couples (F : Fun K "_law_couples" "_law_couples" sCouples f fd) (D : Def K mg "_law_draw" sDraw ["_law_pool_here", "_law_many"] fD fdD) (DE : Def K mg "_law_every" sEvery ["_law_abc"] fE dE) (DS : Def K mg "_law_shuffled" sShuf ["_law_pool_here", "_law_things"] fS dS) (Z : Free mg) (mL : mg "list" = none) : FnOk P w K mg base CX0 3 f fd ["_law_pool_here", "_law_abc"] spCouples := by
  have G : FnOk P w K mg base CX0 1 fD fdD ["_law_pool_here", "_law_many"] spDraw := ok_draw D.F Z.int Z.divmod
  have GE : FnOk P w K mg base CX0 1 fE dE ["_law_abc"] spEvery := ok_every DE.F
  have GS : FnOk P w K mg base CX0 2 fS dS ["_law_pool_here", "_law_things"] spShufA := ok_shufA DS.F D Z mL
  refine F.ok scCo (fun vs H Q E h => ?_) (fun cdv A outer s H vs Q E hr h => ?_)
  · obtain ⟨p, sg, rfl, _⟩ := h
    rfl
  · obtain ⟨p, sg, rfl, Gs, hp, k⟩ := h
    have hr1 : Room 1 _ := hr.mono (by decide)
    refine ⟨_, pss_cons (ps_asg (pe_tup (pa_cons (pe_call GE hr1 rfl DE.g DE.kp DE.b .nil pass0 (pa_cons (pv 1) pa_nil)) (pa_cons (pe_call G hr1 rfl D.g D.kp D.b .nil pass0 (pa_cons (pv 0) (pa_cons pe_int pa_nil))) pa_nil))) (pg_tup (by rfl) (pgs_cons (pg_name (i := 2) scCo.nd rfl (.inl rfl)) (pgs_cons (pg_name (i := 3) scCo.nd rfl (.inr rfl)) pgs_nil))))
      (pss_cons (ps_if (pt_cmpR op_lt (pv 3) pe_int (nomark _)) (pss_one (ps_ret (pe_ix ix_list (pe_lst (pa_cons (pv 2) (pa_cons (pe_lst pa_nil) pa_nil))) (pv 3) (fun _ _ => rfl)))) pss_nil)
      (pss_cons (ps_setLc (i := 4) (own := [("_law_mate", 5)]) (g := gName 5) rfl scCo.nd rfl rfl (sw_true rfl rfl rfl (by decide +kernel)) (pi_list (pv 2)) (blkOk_by (N := NCo) (sc := defScope sCouples) (by decide +kernel)) (fun _ _ _ _ _ => pg_name (i := 5) scCo.nd rfl (.inl rfl))
          (fun _ _ _ _ _ => pts_one (pt_cmpR op_lt (pe_call G hr1 rfl D.g D.kp D.b .nil pass0 (pa_cons (pv 0) (pa_cons pe_int pa_nil))) (pe_ix (show IxR _ (rIxL K) from ix_list) (pe_lst (pa_cons pe_int (pa_cons pe_int pa_nil))) (pe_callTy call_int1 (by rfl) Z.int (by decide +kernel) (pa_cons (pe_cmpR op_lt (pv 3) pe_int (nomark _)) pa_nil)) (fun _ _ => rfl)) (nomark _))) (fun _ _ _ _ _ => pv 5))
      (pss_one (ps_ret (pe_call GS hr rfl DS.g DS.kp DS.b .nil pass0 (pa_cons (pv 0) (pa_cons (pv 4) pa_nil))))))), ?_⟩
    have lenE : (allP sg).length ≤ 16 := by
      rw [allP_len]
      exact Nat.le_trans (Nat.mul_le_mul Gs.few Gs.few) (by decide)
    refine ⟨_, rfl, sg, rfl, Gs.few, fun E0 H1 hE hE0 s1 => ?_⟩
    have nE := hp.ne hE0
    have hp1 := hp.same s1
    refine ⟨_, rfl, p, _, rfl, by decide, by decide, hp1, fun d H2 d0 d1 hp2 b2 => ?_⟩
    refine ⟨(by show 2 ≤ sizeLine; decide), fun t ht => ?_⟩
    have nt := hp2.ne ht
    have hE3 : (L2.upd H2 t (.tup [.ref E0, .int d])) E0 = some (.lst ((allP sg).map V.str)) := ((But.refl p H2).upd ht) _ _ nE (b2 _ _ nE hE)
    have hp3 := hp2.put (o := .tup [.ref E0, .int d]) nt
    have b3 := ((But.of s1).trans b2).upd (o := .tup [.ref E0, .int d]) ht
    refine ⟨t, _, rfl, SqT.of upd_same, rfl, _, _, rfl, _, _, rfl, rfl, ?_⟩
    generalize (L2.upd H2 t (.tup [.ref E0, .int d])) = H3 at hE3 hp3 b3 ⊢
    refine ⟨_, rfl, _, _, rfl, rfl, _, rfl, ite2 (fun q => ?_) (fun q => ?_)⟩
    · have q' := of_decide_eq_true q
      refine ⟨_, rfl, (by show 0 ≤ sizeLine; decide), fun a0 ha0 => ⟨(by show 2 ≤ sizeLine; decide), fun L hL => ⟨_, rfl, ?_⟩⟩⟩
      have na0 := hp3.ne ha0
      have hp4 := hp3.put (o := .lst []) na0
      have nL := hp4.ne hL
      have b5 := (b3.upd (o := .lst []) ha0).upd (o := .lst [.ref E0, .ref a0]) hL
      have bE := ((But.refl p H3).upd (o := .lst []) ha0).upd (o := .lst [.ref E0, .ref a0]) hL
      have bA := (But.refl p (L2.upd H3 a0 (.lst []))).upd (o := .lst [.ref E0, .ref a0]) hL
      obtain ⟨j, rfl, j1⟩ := int_lt d0 q'
      rcases j with _ | _ | j
      · exact ⟨L, _, _, _, rfl, rfl, SqL.of upd_same, atI_nat (j := 0) rfl, k E0 (allP sg) _ (bE _ _ nE hE3) nE (prs_of Gs (pair_nd Gs.nd) fun _ h => h) (hp4.put nL) b5⟩
      · exact ⟨L, _, _, _, rfl, rfl, SqL.of upd_same, atI_nat (j := 1) rfl, k a0 [] _ (bA _ _ na0 upd_same) na0 ⟨(fun z hz => nomatch hz), List.nodup_nil, Nat.zero_le _⟩ (hp4.put nL) b5⟩
      · omega
    · refine ⟨_, rfl, E0, rfl, ⟨_, SqL.of hE3⟩, fun D0 hD => lc_it (walk_list (xs := (allP sg).map V.str)) (fun i H4 => ∃ q : List Str, H4 D0 = some (.lst (q.map V.str)) ∧ q.Sublist ((allP sg).take i) ∧ PoolAt H4 p ∧ But p H3 H4) ⟨[], upd_same, List.nil_sublist _, hp3.put (hp3.ne hD), (But.refl p H3).upd hD⟩ (fun _ _ _ h => by obtain ⟨_, _, _, _, h⟩ := h; exact SqL.of (h _ _ nE hE3)) ?_ ?_⟩
      · rintro i x H4 H4' hi ⟨q2, g1, g2, g3, g4⟩ ⟨rfl, hx⟩
        have nD := hp3.ne hD
        rw [List.getElem?_map] at hx
        obtain ⟨z, hz, rfl⟩ := Option.map_eq_some_iff.mp hx
        rw [List.length_map] at hi
        refine ⟨rfl, _, rfl, p, _, rfl, by decide, by decide, g3, fun e H5 e0 e1 hp5 b5 => ?_⟩
        refine ⟨(by show 2 ≤ sizeLine; decide), fun M hM => ?_⟩
        refine ⟨_, rfl, _, _, rfl, rfl, .inr ⟨_, rfl, ?_⟩⟩
        have nM := hp5.ne hM
        obtain ⟨y, hy⟩ : ∃ y : Int, atI [V.int 2, V.int 3] (if decide (d < 5) = true then (1 : Int) else 0) = some (.int y) := by
          split
          · exact ⟨3, atI_nat (j := 1) rfl⟩
          · exact ⟨2, atI_nat (j := 0) rfl⟩
        refine ⟨M, _, _, _, rfl, rfl, SqL.of upd_same, hy, _, _, rfl, rfl, _, rfl, ite2 (fun _ => ?_) (fun _ => ?_)⟩
        · have ql : q2.length ≤ 16 := Nat.le_trans g2.length_le (by rw [List.length_take]; omega)
          refine ⟨_, rfl, _, ((But.refl p H5).upd hM) _ _ nD (b5 _ _ nD g1), ?_, q2 ++ [z], ?_, ?_, (hp5.put nM).put nD, ((g4.trans b5).upd hM).new hD⟩
          · rw [List.length_map, sizeLine_eq]
            omega
          · rw [upd_same, List.map_append] <;> rfl
          · rw [take_more hz]
            exact g2.append (List.Sublist.refl _)
        · refine ⟨q2, ((But.refl p H5).upd hM) _ _ nD (b5 _ _ nD g1), ?_, hp5.put nM, (g4.trans b5).upd hM⟩
          rw [take_more hz]
          exact g2.trans (List.sublist_append_left _ _)
      · rintro H4 ⟨q2, g1, g2, g3, g4⟩
        rw [List.length_map, List.take_length] at g2
        have ql : q2.length ≤ 16 := Nat.le_trans g2.length_le lenE
        refine ⟨_, rfl, _, rfl, p, .ref D0, q2.map V.str, rfl, .lst g1 strs_no_ints, by rw [List.length_map]; omega, g3, fun a ys0 H6 h6 na pm0 hp6 b6 => ?_⟩
        obtain ⟨ys, pm, rfl⟩ := perm_map V.str pm0.symm q2 rfl
        have pm := pm.symm
        exact k a ys H6 h6 na (prs_of Gs (pm.nodup_iff.mpr (g2.nodup (pair_nd Gs.nd))) fun z hz => g2.subset (pm.mem_iff.mp hz)) hp6 ((b3.trans g4).trans b6)
end
end Wb
set_option linter.all false
/-! _least_turnings: a generator of words -/
namespace Wb
open PySem PySem.Spec PyProof.Rows L2 WbMin Gx GenW
abbrev sLeast : Stmt := top 34
abbrev NL : List Str := ["signs", "length", "word"]
theorem scLst : GScope NL ["signs", "length"] (defScope sLeast) := ⟨rfl, rfl, rfl, by decide +kernel, rfl, by decide +kernel, by decide +kernel⟩
theorem owLst : Own (defScope sLeast) := ⟨rfl, fun n => by rfl, fun y => by
  have all : ∀ p ∈ (defScope sLeast).names, p.2 ≠ .cell ∧ p.2 ≠ .free := by decide +kernel
  exact ⟨fun h => (all _ (PySem.mem_of_lookup h)).1 rfl, fun h => (all _ (PySem.mem_of_lookup h)).2 rfl⟩⟩
/-- the word itself -/
def itS : List Nat → V → Hp → Prop := fun x v _ => v = .str (S x)
def whTest (s : Stmt) : Expr := match s with | .While t _ _ _ => t | _ => .Constant .none 0 default
def whBody (s : Stmt) : List Stmt := match s with | .While _ b _ _ => b | _ => []
abbrev lW : Stmt := (defBody sLeast).getD 1 (.Pass default)
abbrev leEnv (L f : Addr) (cd : Value) : Env := envOfC "_least_turnings" (defScope sLeast) L f cd
abbrev leW (L f : Addr) (cd : Value) : Code := .whileLoop (whTest lW) (whBody lW) [] (leEnv L f cd)
section
variable {P : Program} {w : World} {K : PySem.W.Frag} {mg : Str → Option Value} {base : Heap} {f : Addr} {fd : FuncData} {cd : Value} {A : Around} {outer : List Env} {L a : Addr} {g lo : Nat} {go : Obj}
def spLeast : SpGn (List Nat) := fun vs H cont => ∃ (sg : List Nat) (n : Nat) (ws : List (List Nat)), vs = [.str (S sg), .int n] ∧ sg.Nodup ∧ 0 < sg.length ∧ sg.length ≤ 4 ∧ 0 < n ∧ n ≤ 9 ∧ outs 400 sg.length n [0] = some ws ∧ cont (ws.map (fm sg)) H
abbrev HereL (P : Program) (w : World) (K : PySem.W.Frag) (mg : Str → Option Value) (base : Heap) (f : Addr) (cd : Value) (A : Around) (outer : List Env) (L a : Addr) (go : Obj) := Here P w K mg base NL "_least_turnings" (defScope sLeast) f cd A outer L a go
theorem le_over {c0 : Code} {k : Result → Sem PySem.Fin} {p : Pos} (h0 : A.over c0 [] = A.deeper (leEnv L f cd)) : A.over (leW L f cd) [.ret k none false [] c0 p []] = A.deeper (leEnv L f cd) := (over_loop rfl rfl).trans h0
theorem nextI_lt {m n : Nat} {u : List Nat} (hm : 0 < m) (hu : ∀ x ∈ u, x < m) : (∀ x ∈ nextI m n u, x < m) ∧ (nextI m n u).length ≤ n := by
  have hr : ∀ x ∈ (List.replicate n u).flatten.take n, x < m := fun x hx => by
    obtain ⟨l, hl, hx⟩ := List.mem_flatten.mp (List.mem_of_mem_take hx)
    rw [List.eq_of_mem_replicate hl] at hx
    exact hu x hx
  unfold nextI
  cases e : (rdrop (m - 1) ((List.replicate n u).flatten.take n)).reverse with
  | nil => exact ⟨fun x hx => (nomatch hx), Nat.zero_le _⟩
  | cons z r =>
    have hz := rdrop_last e
    have hl : (rdrop (m - 1) ((List.replicate n u).flatten.take n)).length ≤ n := by
      rw [rdrop_take, List.length_take]
      exact Nat.le_trans (Nat.min_le_right _ _) (List.length_take_le _ _)
    have hl2 : r.length + 1 ≤ n := by
      rw [← List.length_reverse, e, List.length_cons] at hl
      exact hl
    have sub : ∀ x ∈ z :: r, x < m := fun x hx => hr x (rdrop_sub _ _ x (List.mem_reverse.mp (by rw [e]; exact hx)))
    refine ⟨fun x hx => ?_, by rw [List.length_append, List.length_reverse, List.length_singleton]; exact hl2⟩
    rcases List.mem_append.mp hx with hx | hx
    · exact sub x (List.mem_cons_of_mem _ (List.mem_reverse.mp hx))
    · rw [List.mem_singleton.mp hx]
      have := sub z List.mem_cons_self
      omega
set_option maxHeartbeats 4000000 in
theorem least_loop (Z0 : Free mg) {sg : List Nat} {n : Nat} (nd : sg.Nodup) (s0 : 0 < sg.length) (s4 : sg.length ≤ 4) (n0 : 0 < n) (n9 : n ≤ 9) (hr : Room 2 A) (hLa : L < a) (hfa : a ∉ frs outer) (hgo : GenObj go g) (hlo : lo ≤ g) {c0 : Code} {K' : Flow → Sem PySem.Fin} {J' : Value → Sem PySem.Fin} {p : Pos}
    (h0 : A.in1.over c0 [] = A.in1.deeper (leEnv L f cd)) (hK : K' .next = .pure (.done (.ret .none))) : ∀ (k : Nat) (u : List Nat) (ws : List (List Nat)), outs k sg.length n u = some ws → (∀ x ∈ u, x < sg.length) → u.length ≤ n →
    ∀ H0 s0 req Z H s, HereL P w K mg base f cd A.in1 outer L a go H0 s0 req [some (.str (S sg)), some (.int n), some (.str (S (fm sg u)))] H s → Ok1 P w K mg base A outer L a g lo (fun _ => True) itS (ws.map (fm sg)) H0 s0 req Z →
      Go (model P w) A.in1 Z (leW L f cd) ((model P w).den (leW L f cd)) [.ret (fun r => match r with | .ok f => K' f | .error e => J' e) none false [] c0 p []] s := by
  intro k
  induction k with
  | zero => intro u ws h; cases h
  | succ k ih =>
    intro u ws ho hu hl H0 s0' req Z H s h ok
    refine go_whileLoop ?_
    rw [le_over h0]
    have fitu : (S (fm sg u)).length ≤ sizeLine := by rw [S_len, fm_len, sizeLine_eq]; omega
    have tst : PT (gX P w K mg base NL "_least_turnings" (defScope sLeast) f cd A.in1 outer L (rt s0' L) (cutHp H0 L)) (whTest lW) _ := pt_truth (pe_var (i := 2) rfl (.inl rfl)) (by intro _; rfl)
    refine thn (tst.run _ s _ H (fun b H' => b = decide (u ≠ []) ∧ H' = H) h.inv ⟨_, rfl, _, ⟨fitu, rfl⟩, ?_, rfl⟩) fun b s1 ⟨H1, I1, eb, eH⟩ => ?_
    · rw [S_len, fm_len]
      cases u with
      | nil => rfl
      | cons x u => rw [decide_eq_true (by simp)]; rfl
    subst eH
    have h1 := h.on I1 (Same.refl _)
    by_cases hu0 : u = []
    · subst hu0
      have e2 : ws = [] := by
        have q : some ([] : List (List Nat)) = some ws := ho
        exact (Option.some.inj q).symm
      subst e2
      rw [eb, decide_eq_false (by simp), if_neg Bool.false_ne_true]
      refine go_leaf (.ok .next) ?_
      show Go (model P w) A.in1 Z c0 (K' .next) [] s1
      rw [hK]
      exact go_end (.ok (.ret .none)) (ok.fin rfl _ _ h1.after)
    · rw [eb, decide_eq_true hu0, if_pos rfl]
      obtain ⟨r, hr1, hws⟩ : ∃ r, outs k sg.length n (nextI sg.length n u) = some r ∧ ws = if n % u.length = 0 then (List.replicate (n / u.length) u).flatten :: r else r := by
        have q : (if u = [] then some [] else match outs k sg.length n (nextI sg.length n u) with | none => none | some r => some (if n % u.length = 0 then (List.replicate (n / u.length) u).flatten :: r else r)) = some ws := ho
        rw [if_neg hu0] at q
        cases e : outs k sg.length n (nextI sg.length n u) with
        | none => rw [e] at q; cases q
        | some r => rw [e] at q; exact ⟨r, rfl, (Option.some.inj q).symm⟩
      obtain ⟨nx1, nx2⟩ := nextI_lt (n := n) s0 hu
      have upos : 0 < u.length := List.length_pos_iff.mpr hu0
      have rest : ∀ {H0 : Hp} {s0' : Shared} {req : List (Addr × Obj)} {Z : End → Shared → Prop} {H : Hp} {s : Shared}, HereL P w K mg base f cd A.in1 outer L a go H0 s0' req [some (.str (S sg)), some (.int n), some (.str (S (fm sg u)))] H s →
          Ok1 P w K mg base A outer L a g lo (fun _ => True) itS (r.map (fm sg)) H0 s0' req Z → ∀ J, Go (model P w) A.in1 Z (leW L f cd) ((execs ((whBody lW).drop 1) (leEnv L f cd)).wrap (turnK (leW L f cd)) J id id) [.ret (fun r => match r with | .ok f => K' f | .error e => J' e) none false [] c0 p []] s := by
        intro H0 s0' req Z H s h ok J
        have fitS : (S sg).length ≤ sizeLine := by rw [S_len, sizeLine_eq]; omega
        have emul : Txt.mul (S (fm sg u)) (n : Int) = S (fm sg (List.replicate n u).flatten) := by
          rw [← fm_rp]
          refine S_eq ?_
          rw [mul_cps (by omega), S_cps, Int.toNat_natCast]
        have rl : (List.replicate n u).flatten.length ≤ 81 := by
          rw [List.length_flatten, List.map_replicate, List.sum_replicate_nat]
          exact Nat.le_trans (Nat.mul_le_mul n9 (Nat.le_trans hl n9)) (by decide)
        have fitm : (Txt.mul (S (fm sg u)) (n : Int)).length ≤ sizeLine := by rw [emul, S_len, fm_len, sizeLine_eq]; omega
        have fitc : (cutS (Txt.mul (S (fm sg u)) (n : Int)) none (some (n : Int))).length ≤ sizeLine := by
          rw [emul, cut_to, S_len, List.length_take, fm_len, sizeLine_eq]; omega
        have hrl : ∀ x ∈ (List.replicate n u).flatten.take n, x < sg.length := fun x hx => by
          obtain ⟨l, hl', hx⟩ := List.mem_flatten.mp (List.mem_of_mem_take hx)
          rw [List.eq_of_mem_replicate hl'] at hx
          exact hu x hx
        refine go_ps (X := gX P w K mg base NL "_least_turnings" (defScope sLeast) f cd A.in1 outer L (rt s0' L) (cutHp H0 L)) (fun _ _ z => z) (le_over h0)
          (Nx := fun σ' H' => σ' = [some (.str (S sg)), some (.int n), some (.str (S (fm sg (rdrop (sg.length - 1) ((List.replicate n u).flatten.take n)))))] ∧ H' = H)
          (ps_set (i := 2) scLst.nd rfl (.inl rfl) (pe_m1 PySem.F.slot_str_rstrip PySem.F.type_str_rstrip mt_rstripChars (pe_slice sl_str (pe_op op_mulS (pe_var (i := 2) rfl (.inl rfl)) (pe_var (i := 1) rfl (.inl rfl))) po_none (po_some (pe_var (i := 1) rfl (.inl rfl)))) (pe_ix ix_str (pe_var (i := 0) rfl (.inl rfl)) (pe_un un_neg pe_int) (fun _ _ => rfl)))) h.inv ?_ ?_
        · refine ⟨_, rfl, _, rfl, _, _, rfl, rfl, mulOk (by omega) (by rw [S_len, fm_len, Int.toNat_natCast]; exact Nat.le_trans (Nat.mul_le_mul hl (Nat.le_refl n)) (Nat.le_trans (Nat.mul_le_mul n9 n9) (by decide))) (by omega), _, rfl, _, rfl, _, rfl, fitm, ⟨_, rfl⟩, _, rfl, 1, rfl, _, _, sg.getD (sg.length - 1) 0, rfl, rfl, fitS, (by rw [S_cps]; exact at_last s0), _, _, rfl, rfl, fitc, ?_, rfl⟩
          show [some (V.str (S sg)), some (V.int n), some (V.str (Txt.rstripChars (cutS (Txt.mul (S (fm sg u)) (n : Int)) none (some (n : Int))) (S [sg.getD (sg.length - 1) 0])))] = _
          rw [emul, cut_to, fm_take, rstrip_S, fm_rdrop nd hrl (Nat.sub_lt s0 Nat.one_pos)]
        generalize hv : rdrop (sg.length - 1) ((List.replicate n u).flatten.take n) = v
        have vl : v.length ≤ n := by
          rw [← hv, rdrop_take, List.length_take]
          exact Nat.le_trans (Nat.min_le_right _ _) (List.length_take_le _ _)
        have fitv : (S (fm sg v)).length ≤ sizeLine := by rw [S_len, fm_len, sizeLine_eq]; omega
        rintro σ2 H2 s2 I2 ⟨rfl, rfl⟩
        refine go_ps (X := gX P w K mg base NL "_least_turnings" (defScope sLeast) f cd A.in1 outer L (rt s0' L) (cutHp H0 L)) (fun _ _ z => z) (le_over h0)
          (Nx := fun σ' H' => σ' = [some (.str (S sg)), some (.int n), some (.str (S (fm sg (nextI sg.length n u))))] ∧ H' = H2)
          (ps_if (pt_truth (pe_var (i := 2) rfl (.inl rfl)) (by intro _; rfl)) (pss_one (ps_set (i := 2) scLst.nd rfl (.inl rfl) (pe_op op_add_str (pe_slice sl_str (pe_var (i := 2) rfl (.inl rfl)) po_none (po_some (pe_un un_neg pe_int)))
            (pe_ix ix_str (pe_var (i := 0) rfl (.inl rfl)) (pe_op op_add (pe_m1 PySem.F.slot_str_index PySem.F.type_str_index mt_sindex (pe_var (i := 0) rfl (.inl rfl)) (pe_ix ix_str (pe_var (i := 2) rfl (.inl rfl)) (pe_un un_neg pe_int) (fun _ _ => rfl))) pe_int) (fun _ _ => rfl))))) pss_nil) I2 ?_ ?_
        · refine ⟨_, rfl, _, ⟨fitv, rfl⟩, ?_⟩
          rw [S_len, fm_len]
          cases e : v.reverse with
          | nil =>
            have ev : v = [] := List.reverse_eq_nil_iff.mp e
            subst ev
            refine iteF ?_
            refine ⟨?_, rfl⟩
            unfold nextI
            rw [hv]
            rfl
          | cons z r' =>
            have ev : v = r'.reverse ++ [z] := by rw [← List.reverse_reverse v, e, List.reverse_cons]
            have hz1 := rdrop_last (by rw [hv]; exact e)
            have hz : z < sg.length := hrl z (rdrop_sub _ _ z (by rw [hv, ev]; simp))
            have evl : fm sg v = fm sg r'.reverse ++ [sg.getD z 0] := by rw [ev]; unfold fm; rw [List.map_append]; rfl
            have hlast : atI (fm sg v) (-1) = some (sg.getD z 0) := by
              rw [at_last (by rw [evl]; simp), evl]
              simp [List.getD]
            obtain ⟨oc, hoc⟩ := occ_S (sg := sg) (i := z) (getD_at hz) nd
            have hz2 : z + 1 < sg.length := by omega
            have ecut : cutS (S (fm sg v)) none (some (-1)) = S (fm sg r'.reverse) := by
              rw [evl, C8.cutS_slice]
              exact SX.butlast_snoc _ _
            have nz : (((v.length : Nat) : Int) != 0) = true := bne_iff_ne.mpr (by rw [ev, List.length_append, List.length_singleton]; omega)
            rw [nz]
            refine iteT ?_
            refine ⟨_, rfl, 1, rfl, _, rfl, _, rfl, fitv, _, rfl, _, rfl, ⟨_, rfl⟩, _, rfl, 1, rfl, _, _, sg.getD z 0, rfl, rfl, fitv, (by rw [S_cps]; exact hlast), _, _, z, oc, rfl, rfl, hoc, ?_⟩
            refine ⟨_, _, rfl, rfl, _, _, sg.getD (z + 1) 0, rfl, rfl, fitS, (by rw [S_cps, show ((z : Nat) : Int) + 1 = ((z + 1 : Nat) : Int) by omega]; exact atI_nat (getD_at hz2)), _, _, rfl, rfl, (by rw [ecut, S_len, fm_len]; show _ + 1 ≤ _; rw [sizeLine_eq, List.length_reverse]; have q := congrArg List.length ev; rw [List.length_append, List.length_reverse] at q; omega), ?_, rfl⟩
            show [some (V.str (S sg)), some (V.int n), some (V.str (cutS (S (fm sg v)) none (some (-1)) ++ S [sg.getD (z + 1) 0]))] = _
            rw [ecut, S_add]
            unfold nextI
            rw [hv, e]
            show _ = [some (V.str (S sg)), some (V.int n), some (V.str (S (fm sg (r'.reverse ++ [z + 1]))))]
            unfold fm
            rw [List.map_append] <;> rfl
        · rintro σ3 H3 s3 I3 ⟨rfl, rfl⟩
          refine go_execs_nil ?_
          exact go_again rfl (ih (nextI sg.length n u) r hr1 nx1 nx2 H0 s0' req Z _ s3 (h.on I3 (Same.refl _)) ok)
      intro J
      refine go_execs_cons (go_If ?_)
      rw [le_over h0]
      have fitn : ((n : Int) % ((S (fm sg u)).length : Int) = 0) ↔ n % u.length = 0 := by rw [S_len, fm_len]; omega
      refine thn ((pt_cmpR op_eq (pe_op op_mod (pe_var (X := gX P w K mg base NL "_least_turnings" (defScope sLeast) f cd A.in1 outer L (rt s0' L) (cutHp H0 L)) (i := 1) rfl (.inl rfl)) (pe_callB call_len_str (by rfl) Z0.len PySem.boot_len (pa_cons (pe_var (i := 2) rfl (.inl rfl)) pa_nil))) pe_int (nomark _)).run _ s1 _ H1 (fun b H' => b = decide (n % u.length = 0) ∧ H' = H1) I1 ?_) fun b s2 ⟨H2, I2, eb2, eH2⟩ => ?_
      · refine ⟨_, rfl, _, rfl, _, rfl, fitu, _, _, rfl, rfl, (by rw [S_len, fm_len]; omega), ?_⟩
        refine ⟨rfl, _, rfl, ?_, rfl⟩
        exact decide_eq_decide.mpr (by rw [V.int.injEq]; exact fitn)
      subst eH2
      have h2 := h1.on I2 (Same.refl _)
      by_cases hn : n % u.length = 0
      · rw [eb2, decide_eq_true hn, if_pos rfl]
        rw [if_pos hn] at hws
        refine go_execs_cons (go_Yield rfl rfl rfl ?_)
        rw [le_over h0]
        have ediv : (n : Int) / ((S (fm sg u)).length : Int) = ((n / u.length : Nat) : Int) := by rw [S_len, fm_len]; rfl
        have fits : n / u.length * u.length ≤ 9 := Nat.le_trans (Nat.div_mul_le_self n u.length) n9
        refine thn ((pe_op op_mulS (pe_var (X := gX P w K mg base NL "_least_turnings" (defScope sLeast) f cd A.in1 outer L (rt s0' L) (cutHp H0 L)) (i := 2) rfl (.inl rfl)) (pe_op op_fdiv (pe_var (i := 1) rfl (.inl rfl)) (pe_callB call_len_str (by rfl) Z0.len PySem.boot_len (pa_cons (pe_var (i := 2) rfl (.inl rfl)) pa_nil)))).run _ s2 _ H2
          (fun v H' => v = .str (S (fm sg (List.replicate (n / u.length) u).flatten)) ∧ H' = H2) I2 ?_) fun v s3 ⟨vv, H3, I3, rv, ev, eH3⟩ => ?_
        · refine ⟨_, rfl, _, rfl, _, rfl, _, rfl, fitu, _, _, rfl, rfl, ⟨by rw [S_len, fm_len]; omega, by rw [S_len, fm_len]; omega⟩, _, _, rfl, rfl, ?_, ?_, rfl⟩
          · rw [ediv]
            have q9 : n / u.length ≤ 9 := Nat.le_trans (Nat.div_le_self n u.length) n9
            refine mulOk (Int.natCast_nonneg _) ?_ (Int.le_trans (Int.ofNat_le.mpr q9) (by decide))
            rw [S_len, fm_len, Int.toNat_natCast, Nat.mul_comm]
            exact Nat.le_trans fits (by decide)
          · rw [ediv, ← fm_rp]
            refine congrArg V.str (S_eq ?_)
            rw [mul_cps (Int.natCast_nonneg _), S_cps, Int.toNat_natCast]
        subst ev; subst eH3
        have h3 := h2.on I3 (Same.refl _)
        intro e' qt rs sl wk
        obtain ⟨oL, g1, g2, g3, g4⟩ := h3.frame
        obtain ⟨a1, a2, a3⟩ := h3.go_at
        have fo : FootOk L [(L, oL), (a, go)] H3 s3 := fun p hp => by
          rcases List.mem_cons.mp hp with rfl | hp
          · exact ⟨Nat.le_refl _, g1, g3, g2⟩
          · rw [List.mem_singleton.mp hp]
            exact ⟨Nat.le_of_lt hLa, a1, a2, a3⟩
        have ap : Apart2 [(L, oL), (a, go)] req := fun p hp q hq => by
          rcases List.mem_cons.mp hp with rfl | hp
          · exact (h3.pin q hq).2.2.1
          · rw [List.mem_singleton.mp hp]
            exact h3.apart q hq
        obtain ⟨nm, qn, hdat⟩ := hgo.dat
        refine ok.out (fm sg (List.replicate (n / u.length) u).flatten) (r.map (fm sg)) (by rw [hws]; rfl) e' v _ H3 s3 [(L, oL), (a, go)] [] h3.after qt rs sl rv rfl fo ap (fun q hq => nomatch hq) ?_
        refine alive_of (go := go) hr.hd hr.depth (List.mem_cons_of_mem _ (List.mem_singleton.mpr rfl)) hgo.cls hdat hgo.slots (List.mem_singleton.mpr rfl) hlo fun H5 s5 req5 Z5 e5 _ f5 _ _ r5 ok5 => ?_
        have fL := f5 _ List.mem_cons_self
        have fa := f5 _ (List.mem_cons_of_mem _ (List.mem_singleton.mpr rfl))
        have h5 : HereL P w K mg base f cd A.in1 outer L a go H5 s5 req5 [some (.str (S sg)), some (.int n), some (.str (S (fm sg u)))] H5 s5 :=
          Here.new owLst hr.hd (g4 H5 s5 e5 fL.2.1 fL.2.2.1 owLst) fa.2.1 fa.2.2.1 hLa hfa a3 List.mem_cons_self (List.mem_cons_of_mem _ (List.mem_singleton.mpr rfl)) r5
        exact wk A.in1 Z5 s5 (rest h5 ok5 J)
      · rw [eb2, decide_eq_false hn, if_neg Bool.false_ne_true]
        rw [if_neg hn] at hws
        refine go_execs_nil ?_
        exact rest h2 (by rw [← hws]; exact ok) J
set_option maxHeartbeats 4000000 in
theorem ok_least (F : Fun K "_least_turnings" "_least_turnings" sLeast f fd) (Z0 : Free mg) : GDef P w K mg base (fun _ _ => True) itS 2 f fd ["signs", "length"] spLeast := by
  obtain ⟨oc, od, kV, doc, pm, an, cdv, ct, osl, rfl, lk, hcd⟩ := F.ex
  refine gdef_of lk hcd scLst owLst (fun vs H cont h => ?_) fun A outer L H vs cont a g lo go hr hfr hLa hgo hlo hsp => ?_
  · obtain ⟨sg, n, ws, rfl, _⟩ := h
    rfl
  obtain ⟨sg, n, ws, rfl, nd, s0, s4, n0, n9, ho, hc⟩ := hsp
  refine ⟨ws.map (fm sg), fun _ => True, hc, fun _ _ => trivial, fun H2 s2 req Z oL li _ ha hHa _ rq ok => ?_⟩
  obtain ⟨nm, qn, hdat⟩ := hgo.dat
  have hfa : a ∉ frs outer := fun z => absurd (Nat.lt_trans (li.lt a z) hLa) (Nat.lt_irrefl _)
  have h0 : HereL P w K mg base f cdv A.in1 outer L a go H2 s2 req (start NL [.str (S sg), .int n]) H2 s2 :=
    Here.new owLst hr.hd li ha hHa hLa hfa (fun v q => by rw [hdat] at q; cases q) List.mem_cons_self (List.mem_cons_of_mem _ (List.mem_singleton.mpr rfl)) rq
  have fitS : (S sg).length ≤ sizeLine := by rw [S_len, sizeLine_eq]; omega
  refine go_func fun J => ?_
  refine go_ps (X := gX P w K mg base NL "_least_turnings" (defScope sLeast) f cdv A.in1 outer L (rt s2 L) (cutHp H2 L)) (fun _ _ z => z) over_func
    (Nx := fun σ' H' => σ' = [some (.str (S sg)), some (.int n), some (.str (S (fm sg [0])))] ∧ H' = H2)
    (ps_set (i := 2) scLst.nd rfl (.inl rfl) (pe_ix ix_str (pe_var (i := 0) rfl (.inl rfl)) pe_int (fun _ _ => rfl))) h0.inv ?_ ?_
  · exact ⟨_, rfl, _, _, sg.getD 0 0, rfl, rfl, fitS, (by rw [S_cps]; exact atI_nat (j := 0) (getD_at s0)), rfl, rfl⟩
  rintro σ3 H3 s3 I3 ⟨rfl, rfl⟩
  refine go_execs_cons (go_While fun p J' => ?_)
  exact least_loop Z0 nd s0 s4 n0 n9 hr hLa hfa hgo hlo (c0 := .func (defBody sLeast) (leEnv L f cdv)) over_func rfl 400 [0] ws ho (fun x hx => by rw [List.mem_singleton.mp hx]; exact s0) n0 H3 s2 req Z _ s3 (h0.on I3 (Same.refl _)) ok
end
end Wb
set_option linter.all false
/-! Kind.rings: a generator over a generator -/
namespace Wb
open PySem PySem.Spec PyProof.Rows L2 WbMin WbO WbS WbT Gx GenW Lz Le
abbrev sKRings : Stmt := inClass (top 35) 5
abbrev NR : List Str := ["self", "length", "text"]
theorem scRgs : GScope NR ["self", "length"] (defScope sKRings) := ⟨rfl, rfl, rfl, by decide +kernel, rfl, by decide +kernel, by decide +kernel⟩
theorem owRgs : Own (defScope sKRings) := ⟨rfl, fun n => by rfl, fun y => by
  have all : ∀ p ∈ (defScope sKRings).names, p.2 ≠ .cell ∧ p.2 ≠ .free := by decide +kernel
  exact ⟨fun h => (all _ (PySem.mem_of_lookup h)).1 rfl, fun h => (all _ (PySem.mem_of_lookup h)).2 rfl⟩⟩
/-- a ring of the word -/
def itR (CR : Addr) : List Nat → V → Hp → Prop := fun x v H => ∃ r, v = .ref r ∧ RingAt CR H r x
theorem itR_stays (CR : Addr) : Stays (itR CR) := by
  refine ⟨fun x v H H' h s => ?_, fun x v H D acc acc' h hD => ?_⟩
  · obtain ⟨r, e, h⟩ := h
    exact ⟨r, e, h.same s⟩
  · obtain ⟨r, e, W, dx, h⟩ := h
    refine ⟨r, e, W, dx, ?_⟩
    rw [upd_ne (fun z => by rw [z, hD] at h; cases h)]
    exact h
abbrev sTextG : Stmt := inClass (top 27) 1
structure GkA where
  (C fI fR least goes intf int turns fT pT : Addr)
  (dI dR dleast dgoes dintf dint dturns dT : FuncData)
structure GkF (K : PySem.W.Frag) (mg : Str → Option Value) (A : KA) (B : GkA) : Prop where
  FR : Fun K "rings" "Kind.rings" sKRings B.fR B.dR
  bR : Binds K B.dR ["self", "length"] []
  mR : Meth K A.C "rings" B.fR
  least : Def K mg "_least_turnings" sLeast ["signs", "length"] B.least B.dleast
  goes : Def K mg "_goes_round" sGoes ["text", "pairs"] B.goes B.dgoes
  intf : Def K mg "is_integer_from" sIsIntF ["value", "least"] B.intf B.dintf
  int : Def K mg "is_integer" sIsInt ["value"] B.int B.dint
  w9 : ∃ t : Tok, mg "MOST_LENGTH" = some (.int 9 t)
  TR : Txt K mg B.C
  MR : Mk K B.C B.fI
  FI : Fun K "__init__" "Ring.__init__" sInit B.fI B.dI
  bI : Binds K B.dI ["self", "text"] []
  turns : Def K mg "_all_turnings" sTurns ["word"] B.turns B.dturns
  FT : Fun K "text" "Ring.text" sTextG B.fT B.dT
  bT : Binds K B.dT ["self"] []
  hT : PropOf K B.C "text" B.pT B.fT
/-- f(e, ..) of a generator def -/
def tCallGn {ι : Type} (sp : SpGn ι) (t : TA) : TGn ι := fun σ H cont => t σ H fun vs H1 => sp vs H1 cont
theorem pgn_call {ι : Type} {X : Cx} {Rq : Hp → Hp → Prop} {item : ι → V → Hp → Prop} {k : Nat} {f : Addr} {fd : FuncData} {ps : List Str} {sp : SpGn ι} {x : Str} {p pos' : Pos} {e : Expr} {es : List Expr} {t : TA} (F : GDef X.prog X.w X.K X.mg X.base Rq item k f fd ps sp) (hr : Room k X.A) (hg : Gl X x) (hm : X.mg x = some (.ref f)) (hk : PySem.W.keepIn X.K (.ref f) = true) (hb : Binds X.K fd ps [])
    (ha : PA X (e :: es) t) (hdb : (x == ("__debug__" : Str)) = false := by decide) (he : starEach (e :: es) X.env = (false, eval e X.env) :: starEach es X.env := by rfl) (hpl : (backTo pos' (starEach es X.env)).any (·.1) = false := by rfl) :
    PGn X Rq item (.Call (.Name x p) (e :: es) [] pos') (tCallGn sp t) := by
  refine ⟨fun pins s σ H cont I h => ?_⟩
  refine wpAny_Call_Name_kw (ld_glob I hg hm ?_ hdb)
  refine PySem.W.callWith_K (h₀ := X.base) I.ok.mod.kin hk (thn (wpAny_gsz (Q := fun us s1 => s.gens.size ≤ s1.gens.size ∧ AP X pins σ _ us s1) (Nat.le_refl s.gens.size) (wpAny_mono (ha.run pos' pins s σ H _ I h) (fun us s1 q hz => ⟨hz, q⟩) fun e s' q _ => q)) fun us s1 ⟨hz, vs, H1, I1, r, q⟩ => ⟨I1.kIn, ?_⟩) he hpl
  have hl := F.len _ _ _ q
  have hb' : BindsTo s1 fd ⟨us, []⟩ (ps.zip us) := by
    have z := hb s1 us I1.kIn (by rw [List.append_nil, ← r.length]; exact hl)
    rw [List.append_nil] at z
    exact z
  refine wpAny_call (codeAny_mono (run_gdef (E1 := NoX) F hr I1 hb' r q) fun r s' hq => ?_)
  cases r with
  | error e => exact hq.elim
  | ok fl =>
    cases fl with
    | ret u =>
      obtain ⟨a, g, s2, xs, objs, gl, H2, Inn, lo, q1, q2, q3⟩ := hq
      exact ⟨a, g, s2, xs, objs, gl, H2, Inn, lo, q1, Nat.le_trans hz q2, q3⟩
    | next => exact hq.elim
    | brk => exact hq.elim
    | cont => exact hq.elim

def foTarget (s : Stmt) : Expr := match s with | .For t _ _ _ _ => t | _ => .Constant .none 0 default
def foBody (s : Stmt) : List Stmt := match s with | .For _ _ b _ _ => b | _ => []
abbrev rFor : Stmt := (defBody sKRings).getD 1 (.Pass default)
abbrev rgEnv (L f : Addr) (cd : Value) : Env := envOfC "Kind.rings" (defScope sKRings) L f cd
abbrev rgLoop (a2 L f : Addr) (cd : Value) : Code := .forLoop (foTarget rFor) (.ref a2) (foBody rFor) [] (rgEnv L f cd)
section
variable {P : Program} {w : World} {K : PySem.W.Frag} {mg : Str → Option Value} {base : Heap} {f : Addr} {fd : FuncData} {cd : Value} {A : Around} {outer : List Env} {L a : Addr} {g lo : Nat} {go : Obj} {AK : KA} {B : GkA}
abbrev HereR (P : Program) (w : World) (K : PySem.W.Frag) (mg : Str → Option Value) (base : Heap) (f : Addr) (cd : Value) (A : Around) (outer : List Env) (L a : Addr) (go : Obj) := Here P w K mg base NR "Kind.rings" (defScope sKRings) f cd A outer L a go
abbrev rX (P : Program) (w : World) (K : PySem.W.Frag) (mg : Str → Option Value) (base : Heap) (f : Addr) (cd : Value) (A : Around) (outer : List Env) (L : Addr) (H0 : Hp) (s0 : Shared) : Cx := gX P w K mg base NR "Kind.rings" (defScope sKRings) f cd A outer L (rt s0 L) (cutHp H0 L)
theorem rg_over {a2 : Addr} {c0 : Code} {k : Result → Sem PySem.Fin} {p : Pos} (h0 : A.over c0 [] = A.deeper (rgEnv L f cd)) : A.over (rgLoop a2 L f cd) [.ret k none false [] c0 p []] = A.deeper (rgEnv L f cd) := (over_loop rfl rfl).trans h0
theorem hereR_req {a2 M2 : Addr} {objs : List (Addr × Obj)} {H0 H : Hp} {s0 s : Shared} {req : List (Addr × Obj)} {σ : L2.St} (hL2 : a < M2) (h : HereR P w K mg base f cd A outer L a go H0 s0 req σ H s) (fo : FootOk M2 objs H s) (ap : Apart2 objs req) : ReqOk (rgEnv L f cd :: outer) objs (req ++ [(a, go)]) H s := fun p hp => by
  obtain ⟨z1, z2, z3, z4, z5⟩ := h.inv.pin p (List.mem_append_right _ hp)
  refine ⟨z1, z2, fun z => ?_, z5, fun q hq z => ?_⟩
  · rcases List.mem_cons.mp (h.inv.stkSub p.1 z) with y | y
    · exact z3 y
    · exact z4 y
  · rcases List.mem_append.mp hp with hp | hp
    · exact ap q hq p hp z.symm
    · rw [List.mem_singleton.mp hp] at z
      have := (fo q hq).1
      rw [z] at this
      exact absurd (Nat.lt_of_lt_of_le hL2 this) (Nat.lt_irrefl _)
theorem hereR_back {M2 : Addr} {H0 H H1 : Hp} {s0 s s1 : Shared} {req : List (Addr × Obj)} {σ : L2.St} (hLa : L < a) (hL2 : a < M2) (h : HereR P w K mg base f cd A outer L a go H0 s0 req σ H s) (af : After P w (rgEnv L f cd :: outer) M2 (req ++ [(a, go)]) H s H1 s1) :
    HereR P w K mg base f cd A outer L a go H0 s0 req σ H1 s1 := by
  refine h.on (afterI (X := rX P w K mg base f cd A outer L H0 s0) h.inv af fun b h1 _ _ h4 => ?_) af.same
  have hb : L < b := Nat.lt_of_lt_of_le (Nat.lt_trans hLa hL2) h1
  refine ⟨.inr (Nat.le_trans h.inv.ok.above (Nat.le_of_lt hb)), Nat.ne_of_gt hb, fun x c hc => ?_, fun p hp z => h4 ?_⟩
  · have hc : (cellsFrom (L + 1) (defScope sKRings).names []).lookup x = some c := hc
    rw [owRgs.nocell] at hc
    cases hc
  · rw [← z]
    exact List.mem_map.mpr ⟨p, (by simpa [gX] using hp), rfl⟩
/-- others' objects pinned too -/
theorem hereR_pins {M2 : Addr} {objs : List (Addr × Obj)} {H0 H : Hp} {s0 s : Shared} {req : List (Addr × Obj)} {σ : L2.St} (hLa : L < a) (hL2 : a < M2) (h : HereR P w K mg base f cd A outer L a go H0 s0 req σ H s) (fo : FootOk M2 objs H s) :
    Inv (rX P w K mg base f cd A outer L H0 s0) ((req ++ [(a, go)]) ++ objs) σ H s := h.inv.pins_of fun p hp => by
  rcases List.mem_append.mp hp with hp | hp
  · exact h.inv.pin p (List.mem_append_right _ hp)
  · obtain ⟨q1, q2, q3, q4⟩ := fo p hp
    have hlt : L < p.1 := Nat.lt_of_lt_of_le (Nat.lt_trans hLa hL2) q1
    exact ⟨q2, q3, Nat.ne_of_gt hlt, fun z => absurd (Nat.lt_trans (h.lies.lt _ z) hlt) (Nat.lt_irrefl _), q4⟩
theorem foot_of {M2 : Addr} {objs : List (Addr × Obj)} {X : Cx} {pins : List (Addr × Obj)} {H H1 : Hp} {s s1 : Shared} {σ : L2.St} (fo : FootOk M2 objs H s) (I : Inv X (pins ++ objs) σ H1 s1) : FootOk M2 objs H1 s1 := fun p hp => by
  obtain ⟨z1, z2, _, _, z5⟩ := I.pin p (List.mem_append_right _ (List.mem_append_right _ hp))
  exact ⟨(fo p hp).1, z1, z2, z5⟩
set_option maxHeartbeats 4000000 in
theorem rings_loop (D : KindF K mg AK) (G : GkF K mg AK B) (Z0 : Free mg) {r : Addr} {sg : List Nat} {ps : List Str} {n : Nat} {Inn : Hp → Prop} (hInn : ∀ H, Inn H → KindAt AK.C H r sg ps) (hr : Room 5 A) (hLa : L < a) (hfa : a ∉ frs outer) (hgo : GenObj go g) (hlo : lo ≤ g)
    {c0 : Code} {K' : Flow → Sem PySem.Fin} {J' : Value → Sem PySem.Fin} {p : Pos} {a2 M2 : Addr} {lo2 : Nat} {Inn2 : Hp → Prop} (hInn2 : ∀ H, Inn2 H) (hlo2 : g < lo2) (hL2 : a < M2)
    (h0 : A.in1.over c0 [] = A.in1.deeper (rgEnv L f cd)) (hK : K' .next = .pure (.done (.ret .none))) : ∀ (xs : List (List Nat)), (∀ x ∈ xs, IsW x) → ∀ objs2 gl2, Alive P w K mg base (A.in1.deeper (rgEnv L f cd)) (rgEnv L f cd :: outer) M2 a2 lo2 Inn2 itS xs objs2 gl2 → (∀ q ∈ gl2, lo2 ≤ q.1) →
    ∀ H0 s0 req Z H s v2, HereR P w K mg base f cd A.in1 outer L a go H0 s0 req [some (.ref r), some (.int n), v2] H s → KindAt AK.C H r sg ps → FootOk M2 objs2 H s → Apart2 objs2 req → GensAt gl2 s →
      Ok1 P w K mg base A outer L a g lo Inn (itR B.C) (xs.filter fun x => goesB x ps) H0 s0 req Z →
      Go (model P w) A.in1 Z (rgLoop a2 L f cd) ((model P w).den (rgLoop a2 L f cd)) [.ret (fun r => match r with | .ok f => K' f | .error e => J' e) none false [] c0 p []] s := by
  intro xs
  induction xs with
  | nil =>
    intro _ objs2 gl2 al _ H0 s0 req Z H s v2 h hk fo ap ga ok
    refine go_forLoop ?_
    rw [rg_over h0]
    have e0 : Env0 P w K mg base (A.in1.deeper (rgEnv L f cd)) (rgEnv L f cd :: outer) s H := h.inv.env0
    refine al H s (req ++ [(a, go)]) _ _ e0 (hInn2 H) fo ga ?_ fun H1 s1 af => ?_
    · exact hereR_req (a2 := a2) hL2 h fo ap
    · refine go_leaf (.ok .next) ?_
      show Go (model P w) A.in1 Z c0 (K' .next) [] s1
      rw [hK]
      exact go_end (.ok (.ret .none)) (ok.fin rfl _ _ (hereR_back hLa hL2 h af).after)
  | cons x xs ih =>
    intro hw objs2 gl2 al hg2 H0 s0 req Z H s v2 h hk fo ap ga ok
    have GG : FnOk P w K mg base CX0 1 B.goes B.dgoes ["text", "pairs"] spGoes := ok_goes G.goes.F Z0
    obtain ⟨t6, g6⟩ := D.w6
    have GI : FnOk P w K mg base CX0 2 B.fI B.dI ["self", "text"] (spInit B.C) := ok_init G.FI G.TR Z0 t6 g6 D.isword G.turns
    have wx : IsW x := hw x List.mem_cons_self
    have hrX : Room 3 (A.in1.deeper (rgEnv L f cd)) := Room.deeper (Room.in1 hr) _
    refine go_forLoop ?_
    rw [rg_over h0]
    have e0 : Env0 P w K mg base (A.in1.deeper (rgEnv L f cd)) (rgEnv L f cd :: outer) s H := h.inv.env0
    refine al H s (req ++ [(a, go)]) _ _ e0 (hInn2 H) fo ga (hereR_req (a2 := a2) hL2 h fo ap) fun v vv H1 s1 objs3 gl3 af rv it fo3 ga3 sl3 lo3 ap3 al3 => ?_
    have h1 := hereR_back hLa hL2 h af
    have it : vv = .str (S x) := it
    subst it
    have ap3' : Apart2 objs3 req := fun p hp q hq => ap3 p hp q (List.mem_append_left _ hq)
    refine wpAny_pure ?_
    refine wpAny_mono (calmI (X := rX P w K mg base f cd A.in1 outer L H0 s0) (hereR_pins hLa hL2 h1 fo3) fun t It => (pg_name (i := 2) scRgs.nd rfl (.inl rfl)).run _ t _ H1 _ v (fun σ' H' => σ' = [some (.ref r), some (.int n), some (.str (S x))] ∧ H' = H1) It rv ⟨rfl, rfl⟩) (fun _ s2 ⟨D2, ⟨σ2, H2, I2, e2, e2'⟩, c2, b2⟩ => ?_) fun _ _ ⟨_, z, _⟩ => z.elim
    subst e2; subst e2'
    have I2 := invB I2 b2
    intro J
    refine go_execs_cons (go_If ?_)
    rw [rg_over h0]
    have hk2 : KindAt AK.C H2 r sg ps := hk.same af.same
    refine wpAny_mono (calmI (X := rX P w K mg base f cd A.in1 outer L H0 s0) (Q := TP (rX P w K mg base f cd A.in1 outer L H0 s0) ((req ++ [(a, go)]) ++ objs3) [some (.ref r), some (.int n), some (.str (S x))] (fun b H' => b = goesB x ps ∧ Same H2 H')) (E := NoX) I2 ?hh) (fun b s3 ⟨D3, ⟨H3, I3, e3, sm3⟩, c3, b3⟩ => ?_) fun _ _ ⟨_, z, _⟩ => z.elim
    case hh =>
      intro t It
      refine PT.run (X := rX P w K mg base f cd A.in1 outer L H0 s0) (pt_val (pe_call GG (hrX.mono (by decide)) (by rfl) G.goes.g G.goes.kp G.goes.b .nil pass0 (pa_cons (pe_var (i := 2) rfl (.inl rfl)) (pa_cons (pe_fld (pe_var (i := 0) rfl (.inl rfl)) rfl) pa_nil)))) _ t _ H2 _ It ?_
      obtain ⟨dx, tp, bb, k1, k2⟩ := hk2
      exact ⟨_, rfl, _, rfl, r, AK.C, dx, _, _, rfl, k1, D.T.cl, D.T.nP, kf_pairs _ _ _, x, tp, ps, rfl, wx, k2, fun H' s' => ⟨_, rfl, rfl, s'⟩⟩
    have I3 := invB I3 b3
    have h3 : HereR P w K mg base f cd A.in1 outer L a go H0 s0 req [some (.ref r), some (.int n), some (.str (S x))] H3 s3 := h1.on (I3.unpinned) sm3
    have fo3' : FootOk M2 objs3 H3 s3 := foot_of fo3 I3
    have ga3' : GensAt gl3 s3 := fun q hq => (c2.trans c3) q.1 q.2 (ga3 q hq) (sl3 q hq)
    by_cases hg : goesB x ps = true
    · rw [e3, if_pos hg]
      rw [List.filter_cons_of_pos (by exact hg)] at ok
      refine go_execs_cons (go_Yield rfl rfl rfl ?_)
      rw [rg_over h0]
      refine wpAny_mono (calmI (X := rX P w K mg base f cd A.in1 outer L H0 s0) (Q := EP (rX P w K mg base f cd A.in1 outer L H0 s0) ((req ++ [(a, go)]) ++ objs3) [some (.ref r), some (.int n), some (.str (S x))] (fun v H' => itR B.C x v H' ∧ Same H3 H')) (E := NoX) I3 ?hy) (fun u s4 ⟨D4, ⟨v4, H4, I4, r4, it4, sm4⟩, c4, b4⟩ => ?_) fun _ _ ⟨_, z, _⟩ => z.elim
      case hy =>
        intro t It
        refine PE.run (X := rX P w K mg base f cd A.in1 outer L H0 s0) (pe_make G.MR GI hrX (by rfl) G.TR.gC G.bI .nil pass0 (pa_cons (pe_var (i := 2) rfl (.inl rfl)) pa_nil)) _ t _ H3 _ It ?_
        refine ⟨_, rfl, fun q dx hq hdx ne => ?_⟩
        have sm : Same H3 (L2.upd (L2.upd H3 dx (.own q)) q (.ins B.C dx [])) := Same.new' (Same.put (Same.refl H3) hdx) hq
        exact ⟨H3, q, dx, x, rfl, wx, sm, hq, upd_same, fun H' s' RA => ⟨rfl, ⟨q, rfl, RA⟩, s'⟩⟩
      have I4 := invB I4 b4
      have h4 : HereR P w K mg base f cd A.in1 outer L a go H0 s0 req [some (.ref r), some (.int n), some (.str (S x))] H4 s4 := h3.on (I4.unpinned) sm4
      have fo4 : FootOk M2 objs3 H4 s4 := foot_of fo3' I4
      have ga4 : GensAt gl3 s4 := fun q hq => c4 q.1 q.2 (ga3' q hq) (sl3 q hq)
      intro e' qt rs sl wk
      obtain ⟨oL, g1, g2, g3, g4⟩ := h4.frame
      obtain ⟨a1, a2', a3⟩ := h4.go_at
      have hLM : L < M2 := Nat.lt_trans hLa hL2
      have foA : FootOk L ((L, oL) :: (a, go) :: objs3) H4 s4 := fun p hp => by
        rcases List.mem_cons.mp hp with rfl | hp
        · exact ⟨Nat.le_refl _, g1, g3, g2⟩
        · rcases List.mem_cons.mp hp with rfl | hp
          · exact ⟨Nat.le_of_lt hLa, a1, a2', a3⟩
          · obtain ⟨z1, z2⟩ := fo4 p hp
            exact ⟨Nat.le_trans (Nat.le_of_lt hLM) z1, z2⟩
      have apA : Apart2 ((L, oL) :: (a, go) :: objs3) req := fun p hp q hq => by
        rcases List.mem_cons.mp hp with rfl | hp
        · exact (h4.pin q hq).2.2.1
        · rcases List.mem_cons.mp hp with rfl | hp
          · exact h4.apart q hq
          · exact ap3' p hp q hq
      obtain ⟨nm, qn, hdat⟩ := hgo.dat
      refine ok.out x _ rfl e' u _ H4 s4 ((L, oL) :: (a, go) :: objs3) gl3 h4.after qt rs sl r4 it4 foA apA (fun q hq => ⟨fun z => ?_, ?_, sl3 q hq, ga4 q hq⟩) ?_
      · have := lo3 q hq
        rw [z] at this
        exact absurd (Nat.lt_of_lt_of_le hlo2 this) (Nat.lt_irrefl _)
      · exact Nat.le_trans hlo (Nat.le_trans (Nat.le_of_lt hlo2) (lo3 q hq))
      refine alive_of (go := go) hr.hd hr.depth (List.mem_cons_of_mem _ List.mem_cons_self) hgo.cls hdat hgo.slots List.mem_cons_self hlo fun H5 s5 req5 Z5 e5 i5 f5 g5 _ r5 ok5 => ?_
      have fL := f5 _ List.mem_cons_self
      have fa := f5 _ (List.mem_cons_of_mem _ List.mem_cons_self)
      have h5 : HereR P w K mg base f cd A.in1 outer L a go H5 s5 req5 [some (.ref r), some (.int n), some (.str (S x))] H5 s5 :=
        Here.new owRgs hr.hd (g4 H5 s5 e5 fL.2.1 fL.2.2.1 owRgs) fa.2.1 fa.2.2.1 hLa hfa a3 List.mem_cons_self (List.mem_cons_of_mem _ List.mem_cons_self) r5
      refine wk A.in1 Z5 s5 (go_execs_nil (go_execs_nil ?_))
      refine go_again rfl (ih (fun y hy => hw y (List.mem_cons_of_mem _ hy)) objs3 gl3 al3 lo3 H5 s5 req5 Z5 H5 s5 _ h5 (hInn H5 i5) (fun p hp => ?_) (fun p hp q hq z => ?_) (fun q hq => ?_) ok5)
      · obtain ⟨_, z2⟩ := f5 p (List.mem_cons_of_mem _ (List.mem_cons_of_mem _ hp))
        exact ⟨(fo3 p hp).1, z2⟩
      · exact (r5 q hq).2.2.2.2 p (List.mem_cons_of_mem _ (List.mem_cons_of_mem _ hp)) z.symm
      · refine g5 q (List.mem_cons_of_mem _ hq) fun z => ?_
        have := lo3 q hq
        rw [z] at this
        exact absurd (Nat.lt_of_lt_of_le hlo2 this) (Nat.lt_irrefl _)
    · rw [e3, if_neg hg]
      refine go_execs_nil (go_execs_nil ?_)
      refine go_again rfl (ih (fun y hy => hw y (List.mem_cons_of_mem _ hy)) objs3 gl3 al3 lo3 H0 s0 req Z H3 s3 _ h3 (hk2.same sm3) fo3' ap3' ga3' ?_)
      rw [List.filter_cons_of_neg (by exact hg)] at ok
      exact ok
def spRings (CK CR : Addr) : SpGn (List Nat) := fun vs H cont => ∃ (r : Addr) (sg : List Nat) (ps : List Str) (n : Nat) (ws : List (List Nat)), vs = [.ref r, .int n] ∧ KindAt CK H r sg ps ∧ Sgs sg ∧ 0 < n ∧ n ≤ 9 ∧ outs 400 sg.length n [0] = some ws ∧ (∀ u ∈ ws, u.length = n ∧ ∀ i ∈ u, i < sg.length) ∧
  cont ((ws.map (fm sg)).filter fun x => goesB x ps) H
theorem fm_w {sg u : List Nat} (G : Sgs sg) (h0 : 0 < u.length) (h9 : u.length ≤ 600) (h : ∀ i ∈ u, i < sg.length) : IsW (fm sg u) := by
  refine ⟨fun c hc => ?_, by rw [fm_len]; exact h0, by rw [fm_len]; exact h9⟩
  obtain ⟨i, hi, rfl⟩ := List.mem_map.mp hc
  exact G.low _ (List.mem_of_getElem? (getD_at (h i hi)))
set_option maxHeartbeats 4000000 in
theorem ok_rings (D : KindF K mg AK) (G : GkF K mg AK B) (Z0 : Free mg) : GDef P w K mg base Same (itR B.C) 5 B.fR B.dR ["self", "length"] (spRings AK.C B.C) := by
  obtain ⟨oc, od, kV, doc, pm, an, cdv, ct, osl, e, lk, hcd⟩ := G.FR.ex
  rw [e] at lk ⊢
  refine gdef_of lk hcd scRgs owRgs (fun vs H cont h => ?_) fun A outer L H vs cont a g lo go hr hfr hLa hgo hlo hsp => ?_
  · obtain ⟨r, sg, ps, n, ws, rfl, _⟩ := h
    rfl
  obtain ⟨r, sg, ps, n, ws, rfl, hk, SG, n0, n9, ho, hws, hc⟩ := hsp
  refine ⟨_, fun H' => KindAt AK.C H' r sg ps, hc, fun H' s' => hk.same s', fun H2 s2 req Z oL li inn ha hHa hgs rq ok => ?_⟩
  obtain ⟨nm, qn, hdat⟩ := hgo.dat
  have hfa : a ∉ frs outer := fun z => absurd (Nat.lt_trans (li.lt a z) hLa) (Nat.lt_irrefl _)
  have h0 : HereR P w K mg base B.fR cdv A.in1 outer L a go H2 s2 req (start NR [.ref r, .int n]) H2 s2 :=
    Here.new owRgs hr.hd li ha hHa hLa hfa (fun v q => by rw [hdat] at q; cases q) List.mem_cons_self (List.mem_cons_of_mem _ (List.mem_singleton.mpr rfl)) rq
  have hrX : Room 3 (A.in1.deeper (rgEnv L B.fR cdv)) := Room.deeper (Room.in1 hr) _
  have GF : FnOk P w K mg base CX0 2 B.intf B.dintf ["value", "least"] spIntF := ok_intf G.intf.F Z0 G.int
  obtain ⟨t9, g9⟩ := G.w9
  refine go_func fun J => ?_
  refine go_psZ (X := rX P w K mg base B.fR cdv A.in1 outer L H2 s2) (fun _ _ z => z) over_func (Nx := fun σ' H' => σ' = [some (.ref r), some (.int n), none] ∧ H' = H2)
    (ps_if (PW.pt (pw_or (pt_not (pt_val (pe_call GF (hrX.mono (by decide)) (by rfl) G.intf.g G.intf.kp G.intf.b .nil pass0 (pa_cons (pe_var (i := 1) rfl (.inl rfl)) (pa_cons pe_int pa_nil)))))
      (pw_or1 (pt_cmpR op_gt (pe_var (i := 1) rfl (.inl rfl)) (pe_glob (v := .int 9) (by rfl) g9 ⟨t9, rfl⟩) (nomark _))))) (pss_one ps_never) pss_nil) h0.inv ?_ ?_
  · refine ⟨_, rfl, (n : Int), 1, rfl, (by omega), true, rfl, _, rfl, _, _, rfl, rfl, _, rfl, ?_⟩
    rw [decide_eq_false (by omega)]
    exact ⟨rfl, rfl⟩
  rintro σ3 H3 s3 I3 hz ⟨rfl, rfl⟩
  have h3 := h0.on I3 (Same.refl _)
  refine go_execs_cons (go_For ?_ (by intro _; rfl))
  rw [over_func]
  refine wpAny_mono (PGn.run (X := rX P w K mg base B.fR cdv A.in1 outer L H3 s2) (pgn_call (ok_least G.least.F Z0) (hrX.mono (by decide)) (by rfl) G.least.g G.least.kp G.least.b (pa_cons (pe_fld (pe_var (i := 0) rfl (.inl rfl)) rfl) (pa_cons (pe_var (i := 1) rfl (.inl rfl)) pa_nil))) _ s3 _ H3 (fun xs H' => xs = ws.map (fm sg) ∧ H' = H3) I3 ?_) (fun u s4 hu => ?_) fun _ _ z => z
  · obtain ⟨dx, tp, bb, k1, k2⟩ := inn
    exact ⟨_, rfl, r, AK.C, dx, _, _, rfl, k1, D.T.cl, D.T.nS, kf_signs _ _ _, _, rfl, sg, n, ws, rfl, SG.nd, SG.pos, SG.few, n0, n9, ho, rfl, rfl⟩
  · obtain ⟨a2, g2, s5, xs, objs2, gl2, H5, Inn2, lo2, hInn2, hlo2, hgl2, rfl, I5, I4, hga, al, fo, ga, hsz, rfl, rfl⟩ := hu
    have h4 := h3.on I4 (Same.refl _)
    have haM : a < s5.heap.objs.size := Heap.lt_size (I5.pin (a, go) (List.mem_append_right _ (List.mem_append_right _ (List.mem_singleton.mpr rfl)))).1
    refine wpAny_pyIter_gen hga fun p J' => ?_
    refine rings_loop D G Z0 (Inn := fun H' => KindAt AK.C H' r sg ps) (fun _ z => z) hr hLa hfa hgo hlo (c0 := .func (defBody sKRings) (rgEnv L B.fR cdv)) (fun H => hInn2 H trivial) (Nat.lt_of_lt_of_le hgs (Nat.le_trans hz hlo2)) haM over_func rfl _ (fun x hx => ?_) objs2 gl2 al hgl2 H5 s2 req Z H5 s4 none h4 inn fo (fun p hp q hq z => ?_) ga ok
    · obtain ⟨u, hu, rfl⟩ := List.mem_map.mp hx
      obtain ⟨l1, l2⟩ := hws u hu
      exact fm_w SG (by omega) (by omega) l2
    · have q1 := (fo p hp).1
      have q2 := Heap.lt_size (I5.pin q (List.mem_append_right _ (List.mem_append_left _ hq))).1
      rw [z] at q2
      exact absurd (Nat.lt_of_lt_of_le q2 q1) (Nat.lt_irrefl _)
end
end Wb
set_option maxHeartbeats 1000000
/-! a list comprehension where an exception is being handled -/
namespace Le
open PySem PySem.Spec PyProof.Rows L2 L2H
/-- the block's context, the handled exception p pinned -/
abbrev blkH (X : Cx) (s : Shared) (H : Hp) (scope : Scope) (inner : Env) (its : List Addr) (p : Addr × Obj) : Cx := { X.blk s H scope inner its with calm := false, pn := [p] }
theorem blkH_hot {X : Cx} {s : Shared} {H : Hp} {scope : Scope} {inner : Env} {its : List Addr} {p : Addr × Obj} (hot : Hot1 X.A p) : HotC (blkH X s H scope inner its p) := ⟨p, hot, List.mem_cons_self⟩
/-- a block's invariant, the exception pinned beside -/
theorem pin_in {X : Cx} {s s1 : Shared} {H G : Hp} {scope : Scope} {inner : Env} {its : List Addr} {p : Addr × Obj} {τ : L2.St} (I : Inv (X.blk s H scope inner its) [] τ G s1)
    (at_ : s1.heap.get? p.1 = some p.2 ∧ G p.1 = none ∧ p.1 ≠ inner.locals ∧ p.1 ∉ frs X.stack ∧ ∀ v, p.2.data ≠ .cell v) : Inv (blkH X s H scope inner its p) [] τ G s1 :=
  have o := I.ok
  ⟨⟨o.mod, o.kind, o.glob, o.blt, o.above, o.inj, o.has, o.cab, (fun z => Bool.noConfusion (show false = true from z)), o.frames, o.stk, o.exf, o.bs, o.bsz, o.noex, o.exfs, o.funs, o.frf⟩, I.os, I.bare, I.base, I.loc, I.cell, I.free, I.freeC, fun q hq => by
    rw [List.mem_singleton.mp (show q ∈ [p] from by rw [List.append_nil] at hq; exact hq)]
    exact at_, I.hok, I.len⟩
/-- what the tests and the element of a block are in such a context -/
def InBlk (X : Cx) (scope : Scope) (f : Cx → Prop) : Prop := ∀ (s : Shared) (H : Hp) (C : Addr) (cl : List (Str × Addr)) (its : List Addr) (p : Addr × Obj), Hot1 X.A p → f (blkH X s H scope (compEnvC scope cl C X.env) its p)
section
/-- [elt for tg in iter if ..] while p is being handled -/
theorem pe_lcH {X : Cx} {elt tg iter : Expr} {ifs : List Expr} {scope : Scope} {own : List (Str × Nat)} {pos : Pos} {wi : TI} {g : TG} {tt : TT} {te : TE} (hc : HotC X) (hN : X.N.Nodup) (hi : PIH X tg iter wi) (ok : BlkOk X.N X.env.scope scope own)
    (hg : InBlk X scope fun Y => PG Y tg g) (ht : InBlk X scope fun Y => PTs Y ifs tt) (he : InBlk X scope fun Y => PE Y elt te) (hs : ∀ x, foldedSetIterable iter X.env x = pure x := by intro _; rfl) : PE X (.ListComp elt [⟨tg, iter, ifs, 0⟩] scope pos) (tLc wi g tt te (own.map (·.2))) := by
  refine ⟨fun pins s σ H Q I start => ?_⟩
  obtain ⟨p, hot, inP⟩ := hc
  rw [eval_ListComp]
  have free : ∀ y ∈ scope.names, y.2 = .free → ∃ c, X.env.cells.lookup y.1 = some c := fun y hy e => (ok.free y hy e).elim (fun k => I.ok.has _ (.inl k)) fun k => I.ok.has _ (.inr k)
  refine wpAny_comprehension_free (use := none) rfl hs (closure_ok free) ok.kind (fun y hy e => by rw [ok.uniq y hy, e]) (thn (hi.run pins s σ H _ I start) fun _ _ walk => thn walk fun itv s2 begun => ?_)
  obtain ⟨it, its, tn, J, G, rfl, I2, T, st2, far, rest⟩ := begun
  refine wpAny_newObj_type (newEnv_comp ?_) (by show 0 ≤ sizeLine; decide)
  obtain ⟨D, eD⟩ : ∃ D, s2.heap.objs.size = D := ⟨_, rfl⟩
  rw [eD]
  have nD : G D = none := I2.hok.fresh (Nat.le_of_eq eD)
  obtain ⟨W, ⟨m0, w0⟩, turn⟩ := rest D nD
  obtain ⟨s3, e3⟩ : ∃ s3 : Shared, ({ s2 with heap := s2.heap.push { cls := .type "list", data := .seq ([] : List Value).toArray } } : Shared) = s3 := ⟨_, rfl⟩
  rw [e3]
  have heap3 : s3.heap = s2.heap.push { cls := .type "list", data := .seq ([] : List Value).toArray } := by rw [← e3]
  have there3 : s3.heap.get? D = some { cls := .type "list", data := .seq ([] : List Value).toArray } := by
    rw [heap3, ← eD]
    exact Heap.get?_push_size _ rfl
  have I3 : Inv X pins σ (upd G D (.lst [])) s3 := by
    have z := I2.laid (t' := s2.toks) (a := D) (o := .lst []) (h' := s3.heap) (fun b o e => by rw [heap3]; exact Heap.get?_push_of_some _ e) (Nat.le_of_eq eD) ⟨Nat.zero_le _, [], 0, .nil, there3⟩
    rw [← e3] at z ⊢
    exact z
  obtain ⟨G3, eG⟩ : ∃ G3, upd G D (.lst []) = G3 := ⟨_, rfl⟩
  rw [eG] at w0 I3
  have old : ∀ b ∈ its, b < s2.heap.objs.size := fun b hb => Heap.lt_size (T.obj _ _ st2 b hb).choose_spec.1
  have far3 : ∀ b ∈ its, FpOk X pins G3 b ∧ b < s3.heap.objs.size := fun b hb => by
    have lt := old b hb
    refine ⟨⟨?_, (far b hb).2⟩, ?_⟩
    · rw [← eG, upd_ne (by rw [← eD]; exact Nat.ne_of_lt lt)]
      exact (far b hb).1
    · rw [heap3, Heap.size_push]
      exact Nat.lt_succ_of_lt lt
  have st3 : tn 0 s3.heap := T.keep _ _ _ st2 fun b _ o e => by rw [heap3]; exact Heap.get?_push_of_some _ e
  have I4 := block_start I3 ok hN far3
  have pg := hg s3 G3 s3.heap.objs.size (cellsFrom (s3.heap.objs.size + 1) scope.names (cloFrom X.env.cells scope.names [])) its p hot
  have pt := ht s3 G3 s3.heap.objs.size (cellsFrom (s3.heap.objs.size + 1) scope.names (cloFrom X.env.cells scope.names [])) its p hot
  have pe := he s3 G3 s3.heap.objs.size (cellsFrom (s3.heap.objs.size + 1) scope.names (cloFrom X.env.cells scope.names [])) its p hot
  obtain ⟨inner, eI⟩ : ∃ inner, compEnvC scope (cellsFrom (s3.heap.objs.size + 1) scope.names (cloFrom X.env.cells scope.names [])) s3.heap.objs.size X.env = inner := ⟨_, rfl⟩
  have place : inner.locals = s3.heap.objs.size := by
    rw [← eI] <;> rfl
  obtain ⟨s4, e4⟩ : ∃ s4 : Shared, ({ s3 with heap := pushCells (s3.heap.push { cls := .type "dict", data := .dict #[] }) scope.names } : Shared) = s4 := ⟨_, rfl⟩
  show codeAny (model X.prog X.w) X.A (.compStart (.ListComp elt [⟨tg, iter, ifs, 0⟩] scope pos) 0 (.ref it) (.ref D) (compEnvC scope (cellsFrom (s3.heap.objs.size + 1) scope.names (cloFrom X.env.cells scope.names [])) s3.heap.objs.size X.env)) (compPost (model X.prog X.w) X.A X.xe none (EP X pins σ Q) (.ref D) s3.heap.objs.size) { s3 with heap := pushCells (s3.heap.push { cls := .type "dict", data := .dict #[] }) scope.names }
  rw [eI, e4]
  rw [eI, e4] at I4
  rw [eI] at pg pt pe
  have kept4 : ∀ b o, s3.heap.get? b = some o → s4.heap.get? b = some o := fun b o e => by
    rw [← e4]
    exact pushCells_keeps _ _ _ _ (Heap.get?_push_of_some _ e)
  have st4 : tn 0 s4.heap := T.keep _ _ _ st3 fun b _ o e => kept4 b o e
  obtain ⟨p1, p2, p3, p4, p5⟩ := I3.pin p (List.mem_append_left _ inP)
  have offS : p.1 ∉ frs X.stack := fun z => (List.mem_cons.mp (I3.stkSub _ z)).elim p3 p4
  have I5 : Inv (blkH X s3 G3 scope inner its p) [] (wipe σ (own.map (·.2))) G3 s4 := pin_in I4 ⟨kept4 _ _ p1, p2, by rw [place]; exact Nat.ne_of_lt (Heap.lt_size p1), offS, p5⟩
  have apartP : ∀ b ∈ its, p.1 ≠ b := fun b hb => (far3 b hb).1.2.2.2.2.2 p (List.mem_append_left _ inP)
  have noIts : ∀ b ∈ its, G3 b = none := fun b hb => (far3 b hb).1.1
  have stand : ∀ {τ : L2.St} {G' : Hp} {s' : Shared}, Inv (blkH X s3 G3 scope inner its p) [] τ G' s' → (∀ b ∈ its, G' b = none) → ∀ b ∈ its, FpOk (blkH X s3 G3 scope inner its p) [] G' b := fun {τ G' s'} I' n b hb =>
    ⟨n b hb, (I'.ok.exf b hb).1, I'.ok.exfs b hb, .inl hb, fun x c e => (I'.ok.exf b hb).2 x c e, fun q hq => by
      rw [List.mem_singleton.mp (show q ∈ [p] from by rw [List.append_nil] at hq; exact hq)]
      exact apartP b hb⟩
  have hotB : HotC (blkH X s3 G3 scope inner its p) := blkH_hot hot
  have loop : codeAny (model X.prog X.w) X.A (.compLoop (.ListComp elt [⟨tg, iter, ifs, 0⟩] scope pos) 0 (.ref it) (.ref D) inner) (compPost (model X.prog X.w) X.A X.xe none (EP X pins σ Q) (.ref D) s3.heap.objs.size) s4 := by
    refine compLoop_any (fun n s' => ∃ i G', Inv (blkH X s3 G3 scope inner its p) [] (wipe σ (own.map (·.2))) G' s' ∧ tn i s'.heap ∧ (∀ b ∈ its, G' b = none) ∧ W i n G') ?_ m0 ⟨0, G3, I5, st4, noIts, w0⟩
    rintro n s5 ⟨i, G5, I6, st5, n5, w5⟩
    rcases turn i n G5 w5 with ⟨stop, goal⟩ | ⟨go, Nx, next, step⟩
    · refine thnF (T.done (blkH X s3 G3 scope inner its p) rfl rfl rfl hotB i [] s5 _ G5 (fun _ _ => False) I6 (stand I6 n5) st5 stop) fun r s6 ⟨hr, I7⟩ => ?_
      subst hr
      have I8 : Inv X pins σ G5 s6 := I3.call' (ch := its) I7.os I7.base I7.hok I7.bare fun b hb => ⟨(far3 b hb).1.2.2.2.1, (far3 b hb).1.2.1, (far3 b hb).1.2.2.2.2.1, (far3 b hb).1.2.2.2.2.2⟩
      have nC : G5 s3.heap.objs.size = none := by
        rw [← place]
        exact I7.free
      obtain ⟨m, ns, _⟩ := I7.loc
      have ns' : s6.heap.Ns s3.heap.objs.size m := by
        rw [← place]
        exact ns
      obtain ⟨f0, f1, f2, f3, f4, f5⟩ := I3.fpOk (H' := G5) (Nat.le_refl _) nC
      exact ⟨m, ns', fun h'' sb => ⟨.ref D, G5, I8.turned (t' := s6.toks) (fun b o hb e => (sb.2 b hb).trans e) f0 f1 f3 f4 f5, rfl, goal⟩⟩
    · refine thnF (T.item (blkH X s3 G3 scope inner its p) rfl rfl rfl hotB i [] s5 _ G5 (fun _ _ => False) I6 (stand I6 n5) st5 go) fun r s6 ⟨u, hr, drawn⟩ => ?_
      subst hr
      refine thnF drawn fun _ s7 ⟨x, G7, I7, r7, y7, st7, n7⟩ => ?_
      have I7p := I7.pinned (stand I7 n7) (T.obj _ _ st7)
      refine thnF (pg.run _ s7 _ G7 x u _ I7p r7 (step x G7 y7)) fun _ s8 ⟨σ8, G8, I8, same8, q8⟩ => ?_
      refine thnF (pt.run _ s8 σ8 G8 _ I8 q8) fun b s9 ⟨G9, I9, q9⟩ => ?_
      have done : ∀ {s' : Shared} {G' : Hp}, Inv (blkH X s3 G3 scope inner its p) ([] ++ pinsAt its s7.heap) σ8 G' s' → Nx G' → ∃ m, m < n ∧ ∃ i G', Inv (blkH X s3 G3 scope inner its p) [] (wipe σ (own.map (·.2))) G' s' ∧ tn i s'.heap ∧ (∀ b ∈ its, G' b = none) ∧ W i m G' := fun {s' G'} I' nx => by
        obtain ⟨m', lt, w'⟩ := next G' nx
        have pinned : ∀ b ∈ its, ∀ o, s7.heap.get? b = some o → s'.heap.get? b = some o ∧ G' b = none := fun b hb o e =>
          have z := I'.pin (b, o) (List.mem_append_right _ (List.mem_append_right _ (mem_pinsAt hb e)))
          ⟨z.1, z.2.1⟩
        have len : (wipe σ (own.map (·.2))).length = σ8.length := by rw [← same8, wipe_length]
        refine ⟨m', lt, i + 1, G', (I'.unpinned (pins := [])).weak len (fun j v e => ?_), T.keep _ _ _ st7 fun b hb o e => (pinned b hb o e).1, fun b hb => ?_, w'⟩
        · rw [← same8] at e
          exact (wipe_some e).1
        · obtain ⟨o, e, _⟩ := T.obj _ _ st7 b hb
          exact (pinned b hb o e).2
      cases b with
      | false =>
        rw [if_neg Bool.false_ne_true] at q9 ⊢
        exact done I9 q9
      | true =>
        rw [if_pos rfl] at q9 ⊢
        refine thnF (pe.run _ s9 σ8 G9 _ I9 q9) fun z s10 ⟨yv, G10, I10, r10, acc, at10, few10, nx⟩ => ?_
        exact app_ok (X := (blkH X s3 G3 scope inner its p)) I10 at10 few10 r10 fun s11 I11 => done I11 nx
  exact codeAny_compStart_list loop (T.self X.A 0 _ _ _ st4 loop)
end
end Le
set_option maxHeartbeats 1000000
/-! walks over lists, tuples and a dict's keys while an exception is handled -/
namespace Le
open PySem PySem.Spec PyProof.Rows L2 L2H HotX
section
variable {prog : Program} {w : World} {A : Around} {E : Value → Shared → Prop} {s : Shared}
/-- a list's walk is over, an exception r being handled -/
theorem over_list {it t r : Addr} {i : Nat} {items : Array Value} {Q : Option Value → Shared → Prop} (hot : HotAt A r s.heap) (nit : r ≠ it) (a : s.heap.IsListIter it t i) (b : s.heap.IsList t items) (e : items[i]? = none)
    (q : ∀ h', Heap.ExtBut it s.heap h' → Q none { s with heap := h' }) : wpAny (model prog w) A (pyNext (.ref it)) Q E s := by
  obtain ⟨ob, g, _, dd⟩ := id a
  obtain ⟨_, gt, _, _, dt⟩ := b
  obtain ⟨hh, o1, vs1, g1, d1, c1⟩ := hot
  unfold pyNext
  refine wpAny_bind (wpAny_attempt (wpAny_callSpecial?_slot (name := Str.ofString "__next__") a.typeIs slot_listiter_next (wpAny_call_entry slot_listiter_next a.typeIs entry_listiter_next ?_ (args_listiter_next _))))
  show wpAny _ _ (field (.ref it) 0 >>= _) _ _ s ; refine wpAny_bind (wpAny_field g dd (x := .ref t) rfl ?_)
  show wpAny _ _ (if (Value.ref t == Value.none) = true then _ else _) _ _ s ; rw [if_neg (by simp)]
  show wpAny _ _ (field (.ref it) 1 >>= _) _ _ s ; refine wpAny_bind (wpAny_field g dd (x := .int i 0) rfl ?_)
  show wpAny _ _ (seqItems? (.ref t) >>= _) _ _ s ; refine wpAny_bind (wpAny_seqItems gt dt ?_)
  simp only [Int.toNat_natCast, e]
  refine wpAny_bind (wpAny_rule (wpAny_bind (wpAny_setField g dd (by simp) ?_)))
  show wpAny _ _ (newExc (.type "StopIteration") [] >>= _) _ _ _ ; refine wpAny_bind ?_ ; simp only [newExc, newTuple]
  refine wpAny_bind (wpAny_newObj_type (wpAny_bind (m := firstArgMember _ _) (wpAny_of_eq (a := Value.none) (by first | rfl | (simp only [firstArgMember]; rfl)) (wpAny_newObj_type ?_ (by size_fits)))) (by size_fits))
  have kept : ∀ {u : Obj}, s.heap.get? r = some u → (s.heap.update it (Obj.mapFields (·.setIfInBounds 0 .none))).get? r = some u := fun z => (Heap.get?_update_other _ _ (Ne.symm nit)).trans z
  have g2 := Heap.get?_push_of_some { cls := .type "tuple", data := .seq #[] } (kept g1)
  refine raiseNew_hot ⟨hh, o1, vs1, Heap.get?_push_of_some _ g2, d1, c1⟩ (Nat.ne_of_lt (Heap.lt_size g2)) (Heap.get?_push_size _ rfl) rfl (by first | (simp; done) | (simp; omega) | (simp only [Array.size_append]; simp; omega)) ?_
  refine wpAny_bind (wpAny_isInstance (T := "StopIteration") (b := true) ⟨_, Heap.get?_update_self _ (Heap.get?_push_size _ rfl) rfl, rfl⟩ isSubtype_stop (wpAny_pure (q _ fun c u nc z => ?_)))
  have z1 : (s.heap.update it (Obj.mapFields (·.setIfInBounds 0 .none))).get? c = some u := (Heap.get?_update_other _ _ (Ne.symm nc)).trans z
  have z2 := Heap.get?_push_of_some { cls := .type "tuple", data := .seq #[] } z1
  rw [Heap.get?_update_other _ _ (Nat.ne_of_gt (Heap.lt_size z2))]
  exact Heap.get?_push_of_some _ z2
/-- a tuple's walk is over, an exception r being handled -/
theorem over_tuple {it t r : Addr} {i : Nat} {items : Array Value} {Q : Option Value → Shared → Prop} (hot : HotAt A r s.heap) (nit : r ≠ it) (a : s.heap.IsTupleIter it t i) (b : s.heap.IsTuple t items) (e : items[i]? = none)
    (q : ∀ h', Heap.ExtBut it s.heap h' → Q none { s with heap := h' }) : wpAny (model prog w) A (pyNext (.ref it)) Q E s := by
  obtain ⟨ob, g, _, dd⟩ := id a
  obtain ⟨_, gt, _, _, dt⟩ := b
  obtain ⟨hh, o1, vs1, g1, d1, c1⟩ := hot
  unfold pyNext
  refine wpAny_bind (wpAny_attempt (wpAny_callSpecial?_slot (name := Str.ofString "__next__") a.typeIs F.slot_tuple_iterator_next (wpAny_call_entry F.slot_tuple_iterator_next a.typeIs F.entry_tuple_iterator_next ?_ (F.args_tuple_iterator_next_1 _))))
  show wpAny _ _ (field (.ref it) 0 >>= _) _ _ s ; refine wpAny_bind (wpAny_field g dd (x := .ref t) rfl ?_)
  show wpAny _ _ (if (Value.ref t == Value.none) = true then _ else _) _ _ s ; rw [if_neg (by simp)]
  show wpAny _ _ (field (.ref it) 1 >>= _) _ _ s ; refine wpAny_bind (wpAny_field g dd (x := .int i 0) rfl ?_)
  show wpAny _ _ (seqItems? (.ref t) >>= _) _ _ s ; refine wpAny_bind (wpAny_seqItems gt dt ?_)
  simp only [Int.toNat_natCast, e]
  refine wpAny_bind (wpAny_rule (wpAny_bind (wpAny_setField g dd (by simp) ?_)))
  show wpAny _ _ (newExc (.type "StopIteration") [] >>= _) _ _ _ ; refine wpAny_bind ?_ ; simp only [newExc, newTuple]
  refine wpAny_bind (wpAny_newObj_type (wpAny_bind (m := firstArgMember _ _) (wpAny_of_eq (a := Value.none) (by first | rfl | (simp only [firstArgMember]; rfl)) (wpAny_newObj_type ?_ (by size_fits)))) (by size_fits))
  have kept : ∀ {u : Obj}, s.heap.get? r = some u → (s.heap.update it (Obj.mapFields (·.setIfInBounds 0 .none))).get? r = some u := fun z => (Heap.get?_update_other _ _ (Ne.symm nit)).trans z
  have g2 := Heap.get?_push_of_some { cls := .type "tuple", data := .seq #[] } (kept g1)
  refine raiseNew_hot ⟨hh, o1, vs1, Heap.get?_push_of_some _ g2, d1, c1⟩ (Nat.ne_of_lt (Heap.lt_size g2)) (Heap.get?_push_size _ rfl) rfl (by first | (simp; done) | (simp; omega) | (simp only [Array.size_append]; simp; omega)) ?_
  refine wpAny_bind (wpAny_isInstance (T := "StopIteration") (b := true) ⟨_, Heap.get?_update_self _ (Heap.get?_push_size _ rfl) rfl, rfl⟩ isSubtype_stop (wpAny_pure (q _ fun c u nc z => ?_)))
  have z1 : (s.heap.update it (Obj.mapFields (·.setIfInBounds 0 .none))).get? c = some u := (Heap.get?_update_other _ _ (Ne.symm nc)).trans z
  have z2 := Heap.get?_push_of_some { cls := .type "tuple", data := .seq #[] } z1
  rw [Heap.get?_update_other _ _ (Nat.ne_of_gt (Heap.lt_size z2))]
  exact Heap.get?_push_of_some _ z2
/-- a walk over a dict's keys is over, an exception r being handled -/
theorem over_keys {it d r : Addr} {i n ep : Nat} {od : Obj} {es : Array DictEntry} {Q : Option Value → Shared → Prop} (hot : HotAt A r s.heap) (nit : r ≠ it) (a : s.heap.IsKeyIter it d i n ep) (god : s.heap.get? d = some od) (dod : od.data = .dict es ep) (many : es.size = n) (le : n ≤ i)
    (q : ∀ h', Heap.ExtBut it s.heap h' → Q none { s with heap := h' }) : wpAny (model prog w) A (pyNext (.ref it)) Q E s := by
  obtain ⟨ob, g, _, dd⟩ := id a
  obtain ⟨hh, o1, vs1, g1, d1, c1⟩ := hot
  have past : es.size ≤ i := by omega
  unfold pyNext
  refine wpAny_bind (wpAny_attempt (wpAny_callSpecial?_slot (name := Str.ofString "__next__") a.typeIs F.slot_dict_keyiterator_next (wpAny_call_entry F.slot_dict_keyiterator_next a.typeIs F.entry_dict_keyiterator_next ?_ (F.args_dict_keyiterator_next_1 _))))
  refine wpAny_bind (wpAny_pure ?_) ; refine wpAny_bind ?_ ; refine wpAny_bind ?_
  first | refine wpAny_bind (wpAny_typeNameOfWhole_keyiter a.typeIs (wpAny_pure ?_)) | refine wpAny_bind (wpAny_typeNameOf_keyiter a.typeIs (wpAny_pure ?_))
  refine wpAny_bind (wpAny_fieldsOf g dd ?_)
  simp only [show Builtin.Dict_items.ownsTuple "dict_keyiterator" = false by decide, Bool.false_eq_true, if_false]
  show wpAny _ _ (if (Value.ref d == Value.none) = true then _ else _) _ _ s ; rw [if_neg (by simp)]
  refine wpAny_bind (wpAny_pure (wpAny_bind (wpAny_dictEntries god dod ?_)))
  rw [if_neg (by rw [many] <;> simp)]
  refine wpAny_bind (wpAny_pure (wpAny_bind (wpAny_dictEpoch god dod ?_)))
  rw [if_neg (by simp)]
  refine wpAny_pure ?_ ; simp only [show ¬ ((i : Int) < 0) from by omega, if_false, Int.toNat_natCast, Array.getElem?_eq_none past] ; refine wpAny_bind ?_
  first | refine wpAny_bind (wpAny_typeNameOfWhole_keyiter a.typeIs (wpAny_pure ?_)) | refine wpAny_bind (wpAny_typeNameOf_keyiter a.typeIs (wpAny_pure ?_))
  show wpAny _ _ (setField (.ref it) 0 .none >>= _) _ _ s ; refine wpAny_bind (wpAny_setField g dd (by simp) ?_)
  show wpAny _ _ (newExc (.type "StopIteration") [] >>= _) _ _ _ ; refine wpAny_bind ?_ ; simp only [newExc, newTuple]
  refine wpAny_bind (wpAny_newObj_type (wpAny_bind (m := firstArgMember _ _) (wpAny_of_eq (a := Value.none) (by first | rfl | (simp only [firstArgMember]; rfl)) (wpAny_newObj_type ?_ (by size_fits)))) (by size_fits))
  have kept : ∀ {u : Obj}, s.heap.get? r = some u → (s.heap.update it (Obj.mapFields (·.setIfInBounds 0 .none))).get? r = some u := fun z => (Heap.get?_update_other _ _ (Ne.symm nit)).trans z
  have g2 := Heap.get?_push_of_some { cls := .type "tuple", data := .seq #[] } (kept g1)
  refine raiseNew_hot ⟨hh, o1, vs1, Heap.get?_push_of_some _ g2, d1, c1⟩ (Nat.ne_of_lt (Heap.lt_size g2)) (Heap.get?_push_size _ rfl) rfl (by first | (simp; done) | (simp; omega) | (simp only [Array.size_append]; simp; omega)) ?_
  refine wpAny_bind (wpAny_isInstance (T := "StopIteration") (b := true) ⟨_, Heap.get?_update_self _ (Heap.get?_push_size _ rfl) rfl, rfl⟩ isSubtype_stop (wpAny_pure (q _ fun c u nc z => ?_)))
  have z1 : (s.heap.update it (Obj.mapFields (·.setIfInBounds 0 .none))).get? c = some u := (Heap.get?_update_other _ _ (Ne.symm nc)).trans z
  have z2 := Heap.get?_push_of_some { cls := .type "tuple", data := .seq #[] } z1
  rw [Heap.get?_update_other _ _ (Nat.ne_of_gt (Heap.lt_size z2))]
  exact Heap.get?_push_of_some _ z2
end
theorem turn_listH {P : Program} {w : World} {K : PySem.W.Frag} {tg : Expr} (a it : Addr) : TurnH P w K tg (Itl K a) [it] it (fun i h => h.IsListIter it a i) where
  mem := List.mem_cons_self
  obj := fun i h st b hb => by
    rw [List.mem_singleton.mp hb]
    exact ⟨_, st.choose_spec.1, fun v z => by rw [st.choose_spec.2.2] at z; cases z⟩
  keep := fun i h h' st k => st.at fun o e => k it List.mem_cons_self o e
  item := by
    rintro X rfl rfl rfl _ i pins s σ H E I far st ⟨xs, x, hq, hx⟩
    obtain ⟨its, rel, place, _⟩ := I.list hq
    obtain ⟨u, hu, ru⟩ := rel.get hx
    obtain ⟨f0, f1, f2, f3, f4, f5⟩ := far it List.mem_cons_self
    refine wpAny_pyNext_list_item st (show s.heap.IsList a its.toArray from place.isList) (x := u) (by simpa using hu) fun h' st' sb => ?_
    have I1 : Inv X pins σ H { s with heap := h' } := I.turned (t' := s.toks) (fun b o hb e => (sb.2 b hb).trans e) f0 f1 f3 f4 f5
    obtain ⟨o, e, c, d⟩ := id st'
    exact ⟨u, rfl, go_of (s := { s with heap := h' }) e c d (by decide) ⟨x, H, I1, ru, ⟨rfl, fun ys hy => by rw [I.list_inj hy hq]; exact hx⟩, st', fun b hb => (far b hb).1⟩⟩
  done := by
    rintro X rfl rfl rfl ⟨p, ⟨hh, v1, e1, c1⟩, inP⟩ i pins s σ H E I far st ⟨xs, hq, hx⟩
    obtain ⟨its, rel, place, _⟩ := I.list hq
    obtain ⟨f0, f1, f2, f3, f4, f5⟩ := far it List.mem_cons_self
    have len := rel.length
    exact over_list (r := p.1) ⟨hh, p.2, v1, (I.pin p (List.mem_append_left _ inP)).1, e1, c1⟩ (f5 p (List.mem_append_left _ inP)) st (show s.heap.IsList a its.toArray from place.isList) (by simp; omega) fun h' eb => ⟨rfl, I.turned (t' := s.toks) (fun b o hb e => eb b o hb e) f0 f1 f3 f4 f5⟩
  self := fun _ _ _ _ _ st h => wpAny_pyIter_listiter st h
theorem turn_tupleH {P : Program} {w : World} {K : PySem.W.Frag} {tg : Expr} (a it : Addr) : TurnH P w K tg (Itt K a) [it] it (fun i h => h.IsTupleIter it a i) where
  mem := List.mem_cons_self
  obj := fun i h st b hb => by
    rw [List.mem_singleton.mp hb]
    exact ⟨_, st.choose_spec.1, fun v z => by rw [st.choose_spec.2.2] at z; cases z⟩
  keep := fun i h h' st k => st.at fun o e => k it List.mem_cons_self o e
  item := by
    rintro X rfl rfl rfl _ i pins s σ H E I far st ⟨xs, x, hq, hx⟩
    obtain ⟨its, rel, place, _⟩ := I.tuple hq
    obtain ⟨u, hu, ru⟩ := rel.get hx
    obtain ⟨f0, f1, f2, f3, f4, f5⟩ := far it List.mem_cons_self
    refine wpAny_pyNext_tuple_item st (show s.heap.IsTuple a its.toArray from place) (x := u) (by simpa using hu) fun h' st' sb => ?_
    have I1 : Inv X pins σ H { s with heap := h' } := I.turned (t' := s.toks) (fun b o hb e => (sb.2 b hb).trans e) f0 f1 f3 f4 f5
    obtain ⟨o, e, c, d⟩ := id st'
    exact ⟨u, rfl, go_of (s := { s with heap := h' }) e c d (by decide) ⟨x, H, I1, ru, ⟨rfl, fun ys hy => by rw [I.tuple_inj hy hq]; exact hx⟩, st', fun b hb => (far b hb).1⟩⟩
  done := by
    rintro X rfl rfl rfl ⟨p, ⟨hh, v1, e1, c1⟩, inP⟩ i pins s σ H E I far st ⟨xs, hq, hx⟩
    obtain ⟨its, rel, place, _⟩ := I.tuple hq
    obtain ⟨f0, f1, f2, f3, f4, f5⟩ := far it List.mem_cons_self
    have len := rel.length
    exact over_tuple (r := p.1) ⟨hh, p.2, v1, (I.pin p (List.mem_append_left _ inP)).1, e1, c1⟩ (f5 p (List.mem_append_left _ inP)) st (show s.heap.IsTuple a its.toArray from place) (by simp; omega) fun h' eb => ⟨rfl, I.turned (t' := s.toks) (fun b o hb e => eb b o hb e) f0 f1 f3 f4 f5⟩
  self := fun _ _ _ _ _ st h => wpAny_pyIter_tupleiter st h
theorem pi_listH {X : Cx} {tg l : Expr} {tl : TE} (hl : PE X l tl) : PIH X tg l (iList X.K tl) := by
  refine ⟨fun pins s σ H R I start => thn (hl.run pins s σ H _ I start) fun v s1 ⟨x, H1, I1, r1, a, ex, ⟨xs, hq⟩, q⟩ => ?_⟩
  subst ex
  cases r1
  obtain ⟨its, _, place, _⟩ := I1.list hq
  refine wpAny_pyIter_list (show s1.heap.IsList a its.toArray from place.isList) ⟨s1.heap.objs.size, [s1.heap.objs.size], _, _, H1, rfl, I1.kept (t' := s1.toks) fun b o e => Heap.get?_push_of_some _ e, turn_listH a _, ⟨_, Heap.get?_push_size _ rfl, rfl, rfl⟩, fun b hb => ?_, q⟩
  rw [List.mem_singleton.mp hb]
  exact I1.fpOk (Nat.le_refl _) (I1.hok.fresh (Nat.le_refl _))
theorem pi_tupleH {X : Cx} {tg l : Expr} {tl : TE} (hl : PE X l tl) : PIH X tg l (iTup X.K tl) := by
  refine ⟨fun pins s σ H R I start => thn (hl.run pins s σ H _ I start) fun v s1 ⟨x, H1, I1, r1, a, ex, ⟨xs, hq⟩, q⟩ => ?_⟩
  subst ex
  cases r1
  obtain ⟨its, _, place, _⟩ := I1.tuple hq
  refine wpAny_pyIter_tuple (show s1.heap.IsTuple a its.toArray from place) ⟨s1.heap.objs.size, [s1.heap.objs.size], _, _, H1, rfl, I1.kept (t' := s1.toks) fun b o e => Heap.get?_push_of_some _ e, turn_tupleH a _, ⟨_, Heap.get?_push_size _ rfl, rfl, rfl⟩, fun b hb => ?_, q⟩
  rw [List.mem_singleton.mp hb]
  exact I1.fpOk (Nat.le_refl _) (I1.hok.fresh (Nat.le_refl _))
end Le
/-! the face of a thing, asked where an exception is being handled -/
namespace Le
open PySem PySem.Spec PyProof.Rows L2 L2H HotX
section
variable {P : Program} {w : World} {K : PySem.W.Frag} {tg : Expr} {d : Addr} {o : Obj} {es : Array DictEntry} {ep : Nat}
theorem turn_keysH {kvs : List (Key × V)} (it : Addr) (hod : o.data = .dict es ep) : TurnH P w K tg (Itk d o kvs) [it] it (fun i h => h.IsKeyIter it d i kvs.length ep) where
  mem := List.mem_cons_self
  obj := fun i h st b hb => by
    rw [List.mem_singleton.mp hb]
    exact ⟨_, st.choose_spec.1, fun v z => by rw [st.choose_spec.2.2] at z; cases z⟩
  keep := fun i h h' st k => st.at fun oi e => k it List.mem_cons_self oi e
  item := by
    rintro X rfl rfl rfl _ i pins s σ H E I far st ⟨hd, hi⟩
    obtain ⟨f0, f1, f2, f3, f4, f5⟩ := far it List.mem_cons_self
    obtain ⟨hs, hgd, hx, es', ep', vs, hdt, hsz, kv, hm⟩ := I.frzK hd
    obtain ⟨rfl, rfl⟩ := dict_ep hod hdt
    obtain ⟨⟨k, v⟩, hkv⟩ : ∃ p, kvs[i]? = some p := ⟨kvs[i], List.getElem?_eq_getElem hi⟩
    obtain ⟨u, hu, ru⟩ := kv_get kv hkv
    have many : kvs.length = vs.length := Paired.length kv
    rw [many] at st
    refine wpAny_pyNext_dict_item st hm hu fun key h' hkey st' sb => ?_
    have I1 : Inv X pins σ H { s with heap := h' } := I.turned (t' := s.toks) (fun b ob hb e => (sb.2 b hb).trans e) f0 f1 f3 f4 f5
    obtain ⟨oi, e, c, dd⟩ := id st'
    refine ⟨key, rfl, go_of (s := { s with heap := h' }) e c dd (by decide) ⟨kV k, H, I1, relV_key (show keyIs k key = true from hkey), ⟨rfl, k, v, hkv, rfl⟩, ?_, fun b hb => (far b hb).1⟩⟩
    show h'.IsKeyIter it d (i + 1) kvs.length _ ; rw [many]
    exact st'
  done := by
    rintro X rfl rfl rfl ⟨p, ⟨hh, v1, e1, c1⟩, inP⟩ i pins s σ H E I far st ⟨hd, hi⟩
    obtain ⟨f0, f1, f2, f3, f4, f5⟩ := far it List.mem_cons_self
    obtain ⟨hs, hgd, hx, es', ep', vs, hdt, hsz, kv, hm⟩ := I.frzK hd
    obtain ⟨rfl, rfl⟩ := dict_ep hod hdt
    exact over_keys (r := p.1) ⟨hh, p.2, v1, (I.pin p (List.mem_append_left _ inP)).1, e1, c1⟩ (f5 p (List.mem_append_left _ inP)) st hgd hdt hsz hi fun h' eb => ⟨rfl, I.turned (t' := s.toks) (fun b ob hb e => eb b ob hb e) f0 f1 f3 f4 f5⟩
  self := fun A i s Q E st h => wpAny_pyIter_keyiter st h
end
theorem pi_keysH {X : Cx} {tg e : Expr} {td : TE} (he : PE X e td) : PIH X tg e (iKeysM td) := by
  refine ⟨fun pins s σ H R I start => thn (he.run pins s σ H _ I start) fun u s1 ⟨x, H1, I1, rx, d, o, kvs, ex, hd, q⟩ => ?_⟩
  subst ex
  obtain rfl : u = Value.ref d := rx
  obtain ⟨hs, hgd, hx, es, ep, vs, hdt, hsz, kv, hm⟩ := I1.frzK hd
  refine iter_keys hs hgd hx hdt ⟨s1.heap.objs.size, [s1.heap.objs.size], _, _, H1, rfl, I1.kept (t' := s1.toks) fun b o e => Heap.get?_push_of_some _ e, turn_keysH _ hdt, ⟨_, Heap.get?_push_size _ rfl, rfl, ?_⟩, fun b hb => ?_, q⟩
  · rw [hsz] <;> rfl
  · rw [List.mem_singleton.mp hb]
    exact I1.fpOk (Nat.le_refl _) (I1.hok.fresh (Nat.le_refl _))
section
variable {P : Program} {w : World} {K : PySem.W.Frag} {mg : Str → Option Value} {base : Heap}
/-- as Fun.ok, for a def that is called where an exception is being handled -/
theorem okHot {CX : CXT} {x qual : Str} {st : Stmt} {f : Addr} {fd : FuncData} {N ps : List Str} {k : Nat} {sp : Sp} (F : Fun K x qual st f fd) (S : FnScope N ps (defScope st)) (len : ∀ vs H Q E, sp vs H Q E → vs.length = ps.length)
    (body : ∀ (cdv : Value) (A : Around) (outer : List Env) (s : Shared) (H : Hp) (vs : List V) (Q : VK) (E : XK) (p : Addr × Obj), Hot1 A p → RoomH k (A.deeper (envOfC qual (defScope st) s.heap.objs.size f cdv)) → sp vs H Q E →
      ∃ t, PSs (cxH CX P w K mg base N qual (defScope st) f cdv A outer s H E p) (defBody st) t ∧ t { nx := fun _ H' => Q .non H', rt := Q } (L2.start N vs) H) : FnH P w K mg base CX (k + 1) f fd ps sp := by
  obtain ⟨_, _, _, _, _, _, _, _, _, rfl, at_, code⟩ := F.ex
  exact fn_ofH at_ code S len (body _)
end
end Le
namespace Wb
open PySem L2 L2H Le
section
variable {P : Program} {w : World} {K : PySem.W.Frag} {mg : Str → Option Value} {base : Heap} {f : Addr} {fd : FuncData}
theorem passH0 {X : Cx} {E : L2.St → XK} : ∀ σ, PassesAt CX0 X σ (E σ) := fun _ _ _ _ _ _ _ z => (show False from z).elim
theorem faceH_none : FnH P w K mg base CX0 1 f fd ["_law_thing"] (spFace K 0) :=
  ⟨fun vs H Q E h => by obtain ⟨v, d, rfl, z, _⟩ := h; exact z.elim, fun A outer s H args us vs Q E p hr hot pin e0 hb hv h => by obtain ⟨v, d, rfl, z, _⟩ := h; exact z.elim⟩
set_option maxHeartbeats 0 in
theorem faceH_more {n : Nat} (D : Fun K "_law_face" "_law_face" sFace f fd) (g : mg "_law_face" = some (.ref f)) (kp : PySem.W.keepIn K (.ref f) = true) (b : Binds K fd ["_law_thing"] []) (Z : FreeT mg)
    (G : FnH P w K mg base CX0 (n + 1) f fd ["_law_thing"] (spFace K n)) : FnH P w K mg base CX0 (n + 2) f fd ["_law_thing"] (spFace K (n + 1)) := by
  refine okHot D scFace (fun vs H Q E h => ?_) (fun cdv A outer s H vs Q E p hot hr h => ?_)
  · obtain ⟨v, d, rfl, _⟩ := h
    rfl
  · obtain ⟨v, d, rfl, th, k⟩ := h
    have units : (A.deeper (PyProof.Rows.envOfC "_law_face" (defScope sFace) s.heap.objs.size f cdv)).units + 1 < cLine := by have := hr.un; omega
    refine ⟨_, pss_cons (ps_if (pt_val (pe_callB call_isi (by rfl) Z.isi (by decide +kernel) (pa_cons (pv 0) (pa_cons (pe_bltn (v := .ty "tuple") (u := .type "tuple") (by rfl) Z.tup (by decide +kernel) rfl) pa_nil))))
        (pss_one (ps_ret (pe_op op_cat (pe_lst (pa_cons pe_str pa_nil))
          (pe_lcH (own := [("_law_part", 1)]) (g := gName 1) (tt := tYes) ⟨p, hot, List.mem_cons_self⟩ scFace.nd (pi_tupleH (pv 0)) (blkOk_by (N := NF) (sc := defScope sFace) (by decide +kernel)) (fun _ _ _ _ _ _ _ => pg_name (i := 1) scFace.nd rfl (.inl rfl)) (fun _ _ _ _ _ _ _ => pts_nil)
            (fun _ _ _ _ _ _ hb => (pe_callH (E := fun _ => E0) G hr (blkH_hot hb) rfl g kp b passH0 (pa_cons (pv 1) pa_nil))))))) pss_nil)
      (pss_cons (ps_if (pt_val (pe_callB call_isi (by rfl) Z.isi (by decide +kernel) (pa_cons (pv 0) (pa_cons (pe_bltn (v := .ty "list") (u := .type "list") (by rfl) Z.lst (by decide +kernel) rfl) pa_nil))))
        (pss_one (ps_ret (pe_op op_cat (pe_lst (pa_cons pe_str pa_nil))
          (pe_lcH (own := [("_law_part", 1)]) (g := gName 1) (tt := tYes) ⟨p, hot, List.mem_cons_self⟩ scFace.nd (pi_listH (pv 0)) (blkOk_by (N := NF) (sc := defScope sFace) (by decide +kernel)) (fun _ _ _ _ _ _ _ => pg_name (i := 1) scFace.nd rfl (.inl rfl)) (fun _ _ _ _ _ _ _ => pts_nil)
            (fun _ _ _ _ _ _ hb => (pe_callH (E := fun _ => E0) G hr (blkH_hot hb) rfl g kp b passH0 (pa_cons (pv 1) pa_nil))))))) pss_nil)
      (pss_cons (ps_if (pt_val (pe_callB call_isi (by rfl) Z.isi (by decide +kernel) (pa_cons (pv 0) (pa_cons (pe_bltn (v := .ty "dict") (u := .type "dict") (by rfl) Z.dct (by decide +kernel) rfl) pa_nil))))
        (pss_one (ps_ret (pe_op op_cat (pe_lst (pa_cons pe_str pa_nil))
          (pe_lock (pe_lcH (own := [("_law_key", 2)]) (g := gName 2) (tt := tYes) ⟨p, hot, List.mem_cons_self⟩ scFace.nd (pi_keysH (pv 0)) (blkOk_by (N := NF) (sc := defScope sFace) (by decide +kernel)) (fun _ _ _ _ _ _ _ => pg_name (i := 2) scFace.nd rfl (.inl rfl)) (fun _ _ _ _ _ _ _ => pts_nil)
            (fun _ _ _ _ _ _ hb => pe_lst (pa_cons (pe_callH (E := fun _ => E0) G hr (blkH_hot hb) rfl g kp b passH0 (pa_cons (pv 2) pa_nil)) (pa_cons (pe_callH (E := fun _ => E0) G hr (blkH_hot hb) rfl g kp b passH0 (pa_cons (pe_dget units (pv 0) (pv 2) (fun _ _ => rfl)) pa_nil)) pa_nil)))))))) pss_nil)
      (pss_one (ps_ret (pe_lst (pa_cons (pe_ifExp (pt_val (pe_callB call_isi (by rfl) Z.isi (by decide +kernel) (pa_cons (pv 0) (pa_cons (pe_bltn (v := .ty "bool") (u := .type "bool") (by rfl) Z.bool (by decide +kernel) rfl) pa_nil)))) pe_str pe_str) (pa_cons (pv 0) pa_nil))))))), ?_⟩
    rcases th with lf | ⟨a, xs, ds, rfl, ha, few, parts, rfl⟩ | ⟨a, xs, ds, rfl, ha, few, parts, rfl⟩ | ⟨a, ks, xs, ds, rfl, ha, nd, len, few, parts, rfl⟩
    · obtain ⟨t, c, d', ty, k1, k2, k3, k4, rfl, dp⟩ := leaf_ty (K := K) (H := H) lf
      refine ⟨_, rfl, _, _, .type t, .type "tuple", false, rfl, .ty "tuple", ty, k1, false, rfl, iteF ?_⟩
      refine ⟨_, rfl, _, _, .type t, .type "list", false, rfl, .ty "list", ty, k2, false, rfl, iteF ?_⟩
      refine ⟨_, rfl, _, _, .type t, .type "dict", false, rfl, .ty "dict", ty, k3, false, rfl, iteF ?_⟩
      refine ⟨_, rfl, _, _, .type t, .type "bool", c, rfl, .ty "bool", ty, k4, c, rfl, ?_⟩
      cases c with
      | true => exact iteT ⟨_, rfl, (by show 2 ≤ sizeLine; decide), fun q hq => k q _ hq (Same.new2 (Same.refl H) hq) (.lst (SqL.of ((New.at hq).trans upd_same)) (.cons (.str _) (.cons (dp _) .nil)))⟩
      | false => exact iteF ⟨_, rfl, (by show 2 ≤ sizeLine; decide), fun q hq => k q _ hq (Same.new2 (Same.refl H) hq) (.lst (SqL.of ((New.at hq).trans upd_same)) (.cons (.str _) (.cons (dp _) .nil)))⟩
    · refine ⟨_, rfl, _, _, .type "list", .type "tuple", false, rfl, .ty "tuple", .base (.lst ha), kit_ty (by decide +kernel), false, rfl, iteF ?_⟩
      refine ⟨_, rfl, _, _, .type "list", .type "list", true, rfl, .ty "list", .base (.lst ha), kit_ty (by decide +kernel), true, rfl, iteT ?_⟩
      have mk : ∀ L, H L = none → Same H (upd H L (.lst [.str "list"])) := fun L hL => Same.new2 (Same.refl H) hL
      refine ⟨(by show 1 ≤ sizeLine; decide), fun L hL => ⟨_, rfl, a, rfl, ⟨xs, SqL.of (mk L hL _ _ ha)⟩, fun D hD => ?_⟩⟩
      refine lc_it (walk_list (xs := xs)) (FacePv K (upd H L (.lst [.str "list"])) D ds) (FacePv.start hD) (fun i H3 _ q => SqL.of (q.same hD _ _ (mk L hL _ _ ha))) ?_ ?_
      · rintro i x H3 H3' hi q ⟨rfl, hx⟩
        obtain ⟨y, hy, th⟩ := parts.get hx
        refine ⟨rfl, _, rfl, x, y, rfl, th.same ((mk L hL).trans (q.same hD)), fun c H5 hc s5 d5 => q.step hD hy hc s5 d5 (by omega)⟩
      · rintro H3 q
        exact q.done hD hL parts.len few k
    · refine ⟨_, rfl, _, _, .type "tuple", .type "tuple", true, rfl, .ty "tuple", .base (.tup ha), kit_ty (by decide +kernel), true, rfl, iteT ?_⟩
      have mk : ∀ L, H L = none → Same H (upd H L (.lst [.str "tuple"])) := fun L hL => Same.new2 (Same.refl H) hL
      refine ⟨(by show 1 ≤ sizeLine; decide), fun L hL => ⟨_, rfl, a, rfl, ⟨xs, SqT.of (mk L hL _ _ ha)⟩, fun D hD => ?_⟩⟩
      refine lc_it (walk_tup (xs := xs)) (FacePv K (upd H L (.lst [.str "tuple"])) D ds) (FacePv.start hD) (fun i H3 _ q => SqT.of (q.same hD _ _ (mk L hL _ _ ha))) ?_ ?_
      · rintro i x H3 H3' hi q ⟨rfl, hx⟩
        obtain ⟨y, hy, th⟩ := parts.get hx
        refine ⟨rfl, _, rfl, x, y, rfl, th.same ((mk L hL).trans (q.same hD)), fun c H5 hc s5 d5 => q.step hD hy hc s5 d5 (by omega)⟩
      · rintro H3 q
        exact q.done hD hL parts.len few k
    · refine ⟨_, rfl, _, _, .type "dict", .type "tuple", false, rfl, .ty "tuple", .base (.dK ha), kit_ty (by decide +kernel), false, rfl, iteF ?_⟩
      refine ⟨_, rfl, _, _, .type "dict", .type "list", false, rfl, .ty "list", .base (.dK ha), kit_ty (by decide +kernel), false, rfl, iteF ?_⟩
      refine ⟨_, rfl, _, _, .type "dict", .type "dict", true, rfl, .ty "dict", .base (.dK ha), kit_ty (by decide +kernel), true, rfl, iteT ?_⟩
      have mk : ∀ L, H L = none → Same H (upd H L (.lst [.str "dict"])) := fun L hL => Same.new2 (Same.refl H) hL
      refine ⟨(by show 1 ≤ sizeLine; decide), fun L hL => ⟨a, .dK (kvsOf ks xs), mk L hL _ _ ha, trivial, fun od => ⟨_, rfl, a, od, _, rfl, upd_same, fun D hD => ?_⟩⟩⟩
      have klen : (kvsOf ks xs).length = xs.length := by unfold kvsOf; rw [List.length_zipWith]; omega
      have dlen : (List.zipWith keyD ks ds).length = xs.length := by have := parts.len; rw [List.length_zipWith]; omega
      refine lc_it (walk_keys (kvs := kvsOf ks xs)) (FacePv K (upd (upd H L (.lst [.str "dict"])) a (.frz od (.dK (kvsOf ks xs)))) D (List.zipWith keyD ks ds)) (FacePv.start hD) (fun i H3 _ q => q.same hD _ _ upd_same) ?_ ?_
      · rintro i x H3 H3' hi q ⟨rfl, kk, vv, hk, rfl⟩
        obtain ⟨kt, rfl, ek, ev⟩ := kvs_at hk
        obtain ⟨y, hy, th⟩ := parts.get ev
        have s3 := q.same hD
        have lo : Same (cut H a) H3' := cutH_to fun b o n h => s3 _ _ ((upd_ne n).trans (mk L hL _ _ h))
        refine ⟨rfl, _, rfl, .str kt, plainD (.str kt), rfl, ?_, fun c H5 hc s5 d5 => ⟨_, rfl, _, rfl, a, _, rfl, .inl ⟨kvsOf ks xs, Sum.inr kt, .inr ⟨od, s5 _ _ (s3 _ _ upd_same)⟩, rfl, (valV_at nd len ek ev).symm⟩, vv, y, rfl, th.same (lo.trans s5), fun c2 H6 hc2 s6 d6 => ?_⟩⟩
        · cases n with
          | zero => exact th.elim
          | succ m => exact .inl (.str kt)
        · refine ⟨(by show 2 ≤ sizeLine; decide), fun E hE => ?_⟩
          have s56 := s5.trans s6
          have nE3 := free_of s56 hE
          refine q.grow hD (y := keyD kt y) ?_ (s56.trans (Same.new2 (Same.refl _) hE)) (fun ys e => ?_) (by omega)
          · rw [List.getElem?_zipWith, ek, hy] <;> rfl
          · have nDE : E ≠ D := fun z => by
              rw [z, e] at nE3
              cases nE3
            have nB := free_of (q.same hD) nE3
            refine .lst (SqL.of (xs := [.ref c, .ref c2]) ((New.at (by rw [upd_ne nDE]; exact nB)).trans ?_)) (.cons (Dp.stay ?_ d5) (.cons (Dp.stay ?_ d6) .nil))
            · rw [upd_ne nDE, upd_same]
            · refine New.mono fun b o h1 h2 => ?_
              have n : b ≠ D := fun z => by
                rw [z, e] at h1
                cases h1
              have n2 : b ≠ E := ne_of_none (s6 _ _ h2) hE
              rw [upd_ne n, upd_ne n, upd_ne n2]
              exact ⟨free_of s3 h1, s6 _ _ h2⟩
            · refine New.mono fun b o h1 h2 => ?_
              have h1' := free_of s5 h1
              have n : b ≠ D := fun z => by
                rw [z, e] at h1'
                cases h1'
              have n2 : b ≠ E := ne_of_none h2 hE
              rw [upd_ne n, upd_ne n, upd_ne n2]
              exact ⟨free_of s3 h1', h2⟩
      · rintro H3 q
        refine ⟨q.same hD _ _ upd_same, (q.unlock hD (mk L hL _ _ ha)).done ?_ hL (klen.trans dlen.symm) (by omega) k⟩
        have nD : D ≠ a := fun z => by
          rw [z, upd_same] at hD
          cases hD
        exact (upd_ne nD).symm.trans hD
theorem ok_faceH (D' : Def K mg "_law_face" sFace ["_law_thing"] f fd) (Z : FreeT mg) : ∀ n, FnH P w K mg base CX0 (n + 1) f fd ["_law_thing"] (spFace K n)
  | 0 => faceH_none
  | n + 1 => faceH_more D'.F D'.g D'.kp D'.b Z (ok_faceH D' Z n)
end
end Wb
/-! faces of own instances; lists that hold such faces compared -/
namespace Wb
open PySem L2 L2H WbMin WbS Lz Le
section
variable {P : Program} {w : World} {K : PySem.W.Frag} {mg : Str → Option Value} {base : Heap} {f C : Addr} {fd : FuncData}
end
/-! ### a word and the face of one instance, twice -/
section
variable {X : Cx}
end
end Wb
set_option linter.all false
/-! what the law makes of words: turnings, closed words, all of a length -/
namespace Wb
open PySem PySem.Spec PyProof.Rows L2 WbMin WbO WbS WbT Lz Le
abbrev sGLT : Stmt := top 45
abbrev sGCl : Stmt := top 48
abbrev sGAll : Stmt := top 49
def spGCl : Sp := fun vs H Q _ => ∃ (l : List Nat) (t : Addr) (ps : List Str), vs = [.str (S l), .ref t] ∧ IsW l ∧ H t = some (.lst (ps.map V.str)) ∧ ∀ H', Same H H' → Q (.bl (goesB l ps)) H'
section
variable {P : Program} {w : World} {K : PySem.W.Frag} {mg : Str → Option Value} {base : Heap} {f fD : Addr} {fd dD : FuncData}
theorem scGLT : FnScope ["_law_word", "_law_at"] ["_law_word"] (defScope sGLT) := ⟨rfl, rfl, rfl, by decide +kernel, rfl, by decide +kernel, by decide +kernel⟩
theorem ok_glt (F : Fun K "_law_turnings" "_law_turnings" sGLT f fd) (Z : Free mg) : FnOk P w K mg base CX0 1 f fd ["_law_word"] spTurns := by
  refine F.ok scGLT (fun vs H Q E h => ?_) (fun cdv A outer s H vs Q E hr h => ?_)
  · obtain ⟨l, rfl, _⟩ := h
    rfl
  · obtain ⟨l, rfl, W, k⟩ := h
    refine ⟨_, pss_one (ps_ret (pe_lc (own := [("_law_at", 1)]) (g := gName 1) (tt := tYes) rfl scGLT.nd (pi_range1 rfl Z.range (pa_cons (pe_callB call_len_str (by rfl) Z.len PySem.boot_len (pa_cons (pv 0) pa_nil)) pa_nil))
      (blkOk_by (N := ["_law_word", "_law_at"]) (sc := defScope sGLT) (by decide +kernel)) (fun _ _ _ _ _ => pg_name (i := 1) scGLT.nd rfl (.inl rfl)) (fun _ _ _ _ _ => pts_nil)
      (fun _ _ _ _ _ => pe_op op_add_str (pe_slice sl_str (pv 0) (po_some (pv 1)) po_none) (pe_slice sl_str (pv 0) po_none (po_some (pv 1)))))), ?_⟩
    have few := W.few
    refine ⟨_, rfl, _, rfl, W.fits, _, rfl, (by rw [S_len]; omega), (by rw [S_len]; omega), fun D hD => lc_it walk_range (fun i H3 => H3 D = some (.lst ((((List.range i).map fun j => S (rot l j))).map V.str)) ∧ Same H H3) ⟨upd_same, Same.put (Same.refl H) hD⟩ (fun _ _ _ _ => trivial) ?_ ?_⟩
    · rintro i x H3 H3' hi ⟨h1, h2⟩ ⟨rfl, rfl⟩
      rw [S_len] at hi
      have c1 : cutS (S l) (some (0 + (i : Int))) none = S (l.drop i) := by rw [Int.zero_add]; exact cut_from
      have c2 : cutS (S l) none (some (0 + (i : Int))) = S (l.take i) := by rw [Int.zero_add]; exact cut_to
      have s1 := rot_len l i
      unfold rot at s1
      rw [List.length_append] at s1
      refine ⟨rfl, _, rfl, _, rfl, _, rfl, _, rfl, W.fits, _, rfl, _, rfl, _, rfl, _, rfl, W.fits, _, _, rfl, rfl, ?_, _, h1, ?_, ?_, Same.new' h2 hD⟩
      · rw [c1, c2, S_len, S_len, sizeLine_eq]
        omega
      · rw [List.length_map, List.length_map, List.length_range, sizeLine_eq]
        omega
      · rw [upd_same, c1, c2, S_add, List.range_succ, List.map_append, List.map_append] <;> rfl
    · rintro H3 ⟨h1, h2⟩
      refine k D H3 hD h2 ?_
      rw [h1, S_len] <;> rfl
theorem scGCl : FnScope ["_law_word", "_law_some", "_law_at"] ["_law_word", "_law_some"] (defScope sGCl) := ⟨rfl, rfl, rfl, by decide +kernel, rfl, by decide +kernel, by decide +kernel⟩
set_option maxHeartbeats 0 in
theorem ok_gcl (F : Fun K "_law_closes" "_law_closes" sGCl f fd) (Z : Free mg) : FnOk P w K mg base CX0 1 f fd ["_law_word", "_law_some"] spGCl := by
  refine F.ok scGCl (fun vs H Q E h => ?_) (fun cdv A outer s H vs Q E hr h => ?_)
  · obtain ⟨l, a, ps, rfl, _⟩ := h
    rfl
  · obtain ⟨l, a, ps, rfl, W, ha, k⟩ := h
    refine ⟨_, pss_one (ps_ret (pe_cmpR (op_eqD hr.units) (pe_lc (own := [("_law_at", 2)]) (g := gName 2) rfl scGCl.nd (pi_range1 rfl Z.range (pa_cons (pe_callB call_len_str (by rfl) Z.len PySem.boot_len (pa_cons (pv 0) pa_nil)) pa_nil)) (blkOk_by (N := ["_law_word", "_law_some", "_law_at"]) (sc := defScope sGCl) (by decide +kernel)) (fun _ _ _ _ _ => pg_name (i := 2) scGCl.nd rfl (.inl rfl))
        (fun _ _ _ _ _ => pts_one (pt_cmpR (show OpR _ _ (rIn K true) from op_notIn_seq) (pe_op op_add_str (pe_ix ix_str (pv 0) (pe_op op_sub (pv 2) pe_int) (fun _ _ => rfl)) (pe_ix ix_str (pv 0) (pv 2) (fun _ _ => rfl))) (pv 1) (by rfl))) (fun _ _ _ _ _ => pv 2)) (pe_lst pa_nil) (nomark _))), ?_⟩
    have l0 := W.pos
    have l1 := W.few
    refine ⟨_, rfl, _, rfl, W.fits, _, rfl, by rw [S_len]; omega, by rw [S_len]; omega, fun D hD => lc_it walk_range (fun i H3 => H3 D = some (.lst ((((List.range i).filter fun i => !decide (S [l.getD ((i + l.length - 1) % l.length) 0, l.getD i 0] ∈ ps)).map fun j : Nat => (0 + (j : Int))).map V.int)) ∧ Same H H3) ⟨upd_same, Same.put (Same.refl H) hD⟩ (fun _ _ _ _ => trivial) ?_ ?_⟩
    · rintro i x H3 H3' hi ⟨h1, h2⟩ ⟨rfl, rfl⟩
      rw [S_len] at hi
      have hi' : i < l.length := by omega
      refine ⟨rfl, _, rfl, _, rfl, _, _, rfl, rfl, _, _, _, rfl, rfl, W.fits, by rw [S_cps]; exact at_before hi', _, rfl, _, rfl, _, _, l.getD i 0, rfl, rfl, W.fits, ?_, _, _, rfl, rfl, (by show 1 + 1 ≤ sizeLine; decide), _, rfl, a, _, rfl, .inl (SqL.of (h2 _ _ ha)), rfl, flat_strs ps, _, rfl, ?_⟩
      · rw [S_cps, Int.zero_add]
        exact atI_nat (getD_at hi')
      · have e : (if true = true then !inV (.str ((⟨#[l.getD ((i + l.length - 1) % l.length) 0]⟩ : Str) ++ ⟨#[l.getD i 0]⟩)) (ps.map V.str) else inV (.str ((⟨#[l.getD ((i + l.length - 1) % l.length) 0]⟩ : Str) ++ ⟨#[l.getD i 0]⟩)) (ps.map V.str)) = !decide (S [l.getD ((i + l.length - 1) % l.length) 0, l.getD i 0] ∈ ps) := by
          rw [if_pos rfl, inV_strs] <;> rfl
        rw [e]
        refine ite2 (fun q => ?_) (fun q => ?_)
        · refine ⟨_, rfl, _, h1, ?_, ?_, Same.new' h2 hD⟩
          · rw [List.length_map, List.length_map, sizeLine_eq]
            have := List.length_filter_le (fun i => !decide (S [l.getD ((i + l.length - 1) % l.length) 0, l.getD i 0] ∈ ps)) (List.range i)
            rw [List.length_range] at this
            omega
          · rw [upd_same, List.range_succ, List.filter_append, List.map_append, List.map_append, show ([i].filter fun i => !decide (S [l.getD ((i + l.length - 1) % l.length) 0, l.getD i 0] ∈ ps)) = [i] from List.filter_cons_of_pos q] <;> rfl
        · refine ⟨?_, h2⟩
          rw [h1, List.range_succ, List.filter_append, show ([i].filter fun i => !decide (S [l.getD ((i + l.length - 1) % l.length) 0, l.getD i 0] ∈ ps)) = [] from List.filter_cons_of_neg q, List.append_nil]
    · rintro H3 ⟨h1, h2⟩
      rw [S_len, Int.toNat_natCast] at h1
      refine ⟨(by show 0 ≤ sizeLine; decide), fun M hM => ?_⟩
      have nD : D ≠ M := ne_of_none h1 hM
      refine ⟨_, _, .lst (SqL.of (by rw [upd_ne nD, h1])) (dp_ints _), .lst (SqL.of upd_same) .nil, shaped_ints _, rfl, ?_⟩
      have q := k _ (Same.put (o := .lst []) h2 hM)
      have e : goesB l ps = PyData.eqv (.list ((((List.range l.length).filter fun i => !decide (S [l.getD ((i + l.length - 1) % l.length) 0, l.getD i 0] ∈ ps)).map fun j : Nat => (0 + (j : Int))).map PyData.int)) (.list []) := by
        rw [eqv_nil]
        have e1 : ∀ xs : List Nat, (xs.map fun j : Nat => (0 + (j : Int))).isEmpty = xs.isEmpty := fun xs => by cases xs <;> rfl
        rw [e1, filter_none]
        rfl
      rw [e] at q
      exact q
abbrev NGA : List Str := ["_law_abc", "_law_some", "_law_size", "_law_words", "_law_turn", "_law_longer", "_law_word", "_law_mark"]
/-- all words of so many letters, ascending -/
def wordsL (srt : List Nat) : Nat → List (List Nat)
  | 0 => [[]]
  | k + 1 => (wordsL srt k).flatMap fun u => srt.map fun c => u ++ [c]
theorem wordsL_len (srt : List Nat) : ∀ k, (wordsL srt k).length = srt.length ^ k
  | 0 => rfl
  | k + 1 => by
    show ((wordsL srt k).flatMap fun u => srt.map fun c => u ++ [c]).length = _
    rw [List.length_flatMap, show ((wordsL srt k).map fun u => (srt.map fun c => u ++ [c]).length) = List.replicate (wordsL srt k).length srt.length from List.map_eq_replicate_iff.mpr fun _ _ => List.length_map .., List.sum_replicate_nat, wordsL_len srt k, Nat.pow_succ]
theorem wordsL_of (srt : List Nat) : ∀ k, ∀ u ∈ wordsL srt k, u.length = k ∧ ∀ c ∈ u, c ∈ srt
  | 0, u, h => by
    rw [List.mem_singleton.mp h]
    exact ⟨rfl, fun _ z => nomatch z⟩
  | k + 1, u, h => by
    obtain ⟨v, hv, h⟩ := List.mem_flatMap.mp h
    obtain ⟨c, hc, rfl⟩ := List.mem_map.mp h
    obtain ⟨l, m⟩ := wordsL_of srt k v hv
    refine ⟨by rw [List.length_append, l]; rfl, fun d hd => ?_⟩
    rcases List.mem_append.mp hd with hd | hd
    · exact m d hd
    · rw [List.mem_singleton.mp hd]; exact hc
/-- those of them that close and are their least turning -/
def dueL (srt : List Nat) (ps : List Str) (n : Nat) : List (List Nat) := (wordsL srt n).filter fun u => goesB u ps && decide (S u = textS u)
def spGAll : Sp := fun vs H Q _ => ∃ (sg srt : List Nat) (t : Addr) (ps : List Str) (n : Nat), vs = [.str (S sg), .ref t, .int n] ∧ Sgs sg ∧ srt.Perm sg ∧ PyProof.Rows.sortedS (srt.map sOne) = true ∧ 0 < n ∧ n ≤ 9 ∧ H t = some (.lst (ps.map V.str)) ∧
  ∀ (a : Addr) (H' : Hp), H a = none → Same H H' → H' a = some (.lst ((dueL srt ps n).map fun u => V.str (S u))) → Q (.ref a) H'
theorem scGA : FnScope NGA ["_law_abc", "_law_some", "_law_size"] (defScope sGAll) := ⟨rfl, rfl, rfl, by decide +kernel, rfl, by decide +kernel, by decide +kernel⟩
theorem pow_few {m n : Nat} (hm : m ≤ 4) (hn : n ≤ 9) : m ^ n ≤ 262144 := by
  calc m ^ n ≤ 4 ^ n := Nat.pow_le_pow_left hm n
    _ ≤ 4 ^ 9 := Nat.pow_le_pow_right (by decide) hn
    _ = 262144 := by decide
set_option maxHeartbeats 4000000 in
theorem ok_gall {fC fT : Addr} {dC dT : FuncData} (F : Fun K "_law_all" "_law_all" sGAll f fd) (Z : Free mg) (mS : mg "sorted" = none) (DC : Def K mg "_law_closes" sGCl ["_law_word", "_law_some"] fC dC) (DT : Def K mg "_law_turnings" sGLT ["_law_word"] fT dT) :
    FnOk P w K mg base CX0 2 f fd ["_law_abc", "_law_some", "_law_size"] spGAll := by
  have GC : FnOk P w K mg base CX0 1 fC dC ["_law_word", "_law_some"] spGCl := ok_gcl DC.F Z
  have GT : FnOk P w K mg base CX0 1 fT dT ["_law_word"] spTurns := ok_glt DT.F Z
  refine F.ok scGA (fun vs H Q E h => by obtain ⟨sg, srt, t, ps, n, rfl, _⟩ := h; rfl) (fun cdv A outer s H vs Q E hr h => ?_)
  obtain ⟨sg, srt, t, ps, n, rfl, SG, psg, so, n0, n9, ht, k⟩ := h
  have hr1 : Room 1 _ := hr
  have few := SG.few
  have sl : srt.length = sg.length := psg.length_eq
  refine ⟨_, pss_cons (ps_set (i := 3) scGA.nd rfl (.inl rfl) (pe_lst (pa_cons pe_str pa_nil)))
    (pss_cons (ps_for PassesOwn.never rfl (pi_range1 rfl Z.range (pa_cons (pv 2) pa_nil)) (pg_name (i := 4) scGA.nd rfl (.inl rfl))
      (pss_cons (ps_set (i := 5) scGA.nd rfl (.inl rfl) (pe_lst pa_nil))
      (pss_cons (ps_for PassesOwn.never rfl (pi_list (pv 3)) (pg_name (i := 6) scGA.nd rfl (.inr rfl))
        (pss_one (ps_set (i := 5) scGA.nd rfl (.inl rfl) (pe_op op_cat (pv 5) (pe_lc (own := [("_law_mark", 7)]) (g := gName 7) (tt := tYes) rfl scGA.nd (pi_list (pe_callB (call_sortedTx rfl) (by rfl) mS (by decide +kernel) (pa_cons (pv 0) pa_nil))) (blkOk_by (N := NGA) (sc := defScope sGAll) (by decide +kernel))
          (fun _ _ _ _ _ => pg_name (i := 7) scGA.nd rfl (.inl rfl)) (fun _ _ _ _ _ => pts_nil) (fun _ _ _ _ _ => pe_op op_add_str (pv 6) (pv 7)))))))
      (pss_one (ps_set (i := 3) scGA.nd rfl (.inl rfl) (pv 5))))))
    (pss_one (ps_ret (pe_lc (own := [("_law_word", 6)]) (g := gName 6) rfl scGA.nd (pi_list (pv 3)) (blkOk_by (N := NGA) (sc := defScope sGAll) (by decide +kernel)) (fun _ _ _ _ _ => pg_name (i := 6) scGA.nd rfl (.inl rfl))
      (fun _ _ _ _ _ => pts_one (PW.pt (pw_and (pt_val (pe_call GC hr1 rfl DC.g DC.kp DC.b .nil pass0 (pa_cons (pv 6) (pa_cons (pv 1) pa_nil))))
        (pw_and1 (pt_cmpR op_eq (pv 6) (pe_callB (show CallR _ _ (rMinS K) from cr_minS (k := 1) hr1 rfl) (by rfl) Z.min (by decide +kernel) (pa_cons (pe_call GT hr1 rfl DT.g DT.kp DT.b .nil pass0 (pa_cons (pv 6) pa_nil)) pa_nil)) (nomark _))))))
      (fun _ _ _ _ _ => pv 6))))), ?_⟩
  refine ⟨(by show 1 ≤ sizeLine; decide), fun L0 hL0 => ⟨_, rfl, _, rfl, (by omega), (by omega), for_it walk_range (fun i σ H' => ∃ (L : Addr) (v4 v5 v6 v7 : Option V), σ = [some (.str (S sg)), some (.ref t), some (.int n), some (.ref L), v4, v5, v6, v7] ∧ H' L = some (.lst ((wordsL srt i).map fun u => V.str (S u))) ∧ Same H H')
    ⟨L0, none, none, none, none, rfl, ?_, Same.put (Same.refl H) hL0⟩ (fun _ _ _ _ _ => trivial) ?_ ?_⟩⟩
  · rw [upd_same] <;> rfl
  · rintro i x σ H2 H2' hi ⟨L, v4, v5, v6, v7, rfl, h1, s2⟩ ⟨rfl, rfl⟩
    rw [Int.toNat_natCast] at hi
    have wl : (wordsL srt i).length ≤ 262144 := by rw [wordsL_len]; exact pow_few (by omega) (by omega)
    refine ⟨(by show 0 ≤ sizeLine; decide), fun M0 hM0 => ?_⟩
    have h1' := Same.put (o := .lst []) (Same.refl _) hM0 _ _ h1
    refine ⟨_, rfl, L, rfl, ⟨_, SqL.of h1'⟩, for_it (walk_list (xs := (wordsL srt i).map fun u => V.str (S u))) (fun j σ H' => ∃ (M : Addr) (v6 v7 : Option V), σ = [some (.str (S sg)), some (.ref t), some (.int n), some (.ref L), some (.int (0 + (i : Int))), some (.ref M), v6, v7] ∧ H' M = some (.lst (((wordsL srt i).take j).flatMap fun u => srt.map fun c => V.str (S (u ++ [c])))) ∧ Same H2' H')
      ⟨M0, v6, v7, rfl, upd_same, Same.put (Same.refl _) hM0⟩ (fun _ _ _ _ hh => by obtain ⟨_, _, _, _, _, z⟩ := hh; exact SqL.of (z _ _ h1)) ?_ ?_⟩
    · rintro j y σ H3 H3' hj ⟨M, w6, w7, rfl, m1, s3⟩ ⟨rfl, hy⟩
      rw [List.getElem?_map] at hy
      obtain ⟨u, hu, rfl⟩ := Option.map_eq_some_iff.mp hy
      obtain ⟨ul, um⟩ := wordsL_of srt i u (List.mem_of_getElem? hu)
      have fl : (((wordsL srt i).take j).flatMap fun u => srt.map fun c => V.str (S (u ++ [c]))).length ≤ 262144 * 4 := by
        rw [List.length_flatMap, show (((wordsL srt i).take j).map fun u => (srt.map fun c => V.str (S (u ++ [c]))).length) = List.replicate ((wordsL srt i).take j).length srt.length from List.map_eq_replicate_iff.mpr fun _ _ => List.length_map .., List.sum_replicate_nat]
        exact Nat.mul_le_mul (Nat.le_trans (List.length_take_le' j _) wl) (by omega)
      refine ⟨_, rfl, _, rfl, S sg, rfl, (by rw [S_len]; omega), fun ys p perm so' hp => ?_⟩
      rw [S_cps] at perm
      obtain ⟨sg', hsg, rfl⟩ := perm_codes perm
      obtain rfl : sg' = srt := sg_same so' so hsg psg
      have s4 : Same H3' (L2.upd H3' p (.lst ((sg'.map sOne).map V.str))) := Same.put (Same.refl _) hp
      have h4 := upd_same (H := H3') (a := p) (o := .lst ((sg'.map sOne).map V.str))
      generalize L2.upd H3' p (.lst ((sg'.map sOne).map V.str)) = H4 at s4 h4 ⊢
      refine ⟨p, rfl, ⟨_, SqL.of h4⟩, fun D hD => lc_it (walk_list (xs := (sg'.map sOne).map V.str)) (fun m H5 => H5 D = some (.lst ((sg'.take m).map fun c => V.str (S (u ++ [c])))) ∧ Same H4 H5) ⟨upd_same, Same.put (Same.refl _) hD⟩ (fun _ _ _ h => SqL.of (h.2 _ _ h4)) ?_ ?_⟩
      · rintro m z H5 H5' hm ⟨e1, e2⟩ ⟨rfl, hz⟩
        have hz : ((sg'.map sOne).map V.str)[m]? = some z := hz
        simp only [List.getElem?_map, Option.map_map] at hz
        obtain ⟨c, hc, rfl⟩ := Option.map_eq_some_iff.mp hz
        refine ⟨rfl, _, rfl, _, rfl, _, _, rfl, rfl, (by rw [S_len, ul]; show i + 1 ≤ _; rw [sizeLine_eq]; omega), _, e1, ?_, ?_, Same.new' e2 hD⟩
        · rw [List.length_map, sizeLine_eq]
          have := List.length_take_le' m sg'
          omega
        · rw [upd_same, List.take_add_one, hc, List.map_append]
          refine congrArg (fun q => some (HO.lst (_ ++ [V.str q]))) ?_
          exact S_add u [c]
      · rintro H5 ⟨e1, e2⟩
        rw [List.length_map, List.length_map, List.take_length] at e1
        refine ⟨M, D, _, _, rfl, rfl, e2 _ _ (s4 _ _ m1), e1, ?_, fun M2 hM => ⟨M2, _, _, rfl, ?_, Same.put (s3.trans (s4.trans e2)) hM⟩⟩
        · rw [List.length_map, sizeLine_eq]
          omega
        · rw [upd_same, List.take_add_one, hu, List.flatMap_append]
          simp
    · rintro σ H3 ⟨M, w6, w7, rfl, m1, s3⟩
      rw [List.length_map, List.take_length] at m1
      refine ⟨_, rfl, M, _, _, _, _, rfl, ?_, s2.trans s3⟩
      rw [m1]
      show _ = some (HO.lst (((wordsL srt i).flatMap fun u => srt.map fun c => u ++ [c]).map fun u => V.str (S u)))
      rw [List.map_flatMap]
      simp only [List.map_map]
      rfl
  · rintro σ H2 ⟨L, v4, v5, v6, v7, rfl, h1, s2⟩
    rw [Int.toNat_natCast] at h1
    refine ⟨_, rfl, L, rfl, ⟨_, SqL.of h1⟩, fun D hD => lc_it (walk_list (xs := (wordsL srt n).map fun u => V.str (S u))) (fun j H3 => H3 D = some (.lst ((((wordsL srt n).take j).filter fun u => goesB u ps && decide (S u = textS u)).map fun u => V.str (S u))) ∧ Same H2 H3) ⟨upd_same, Same.put (Same.refl _) hD⟩ (fun _ _ _ h => SqL.of (h.2 _ _ h1)) ?_ ?_⟩
    · rintro j y H3 H3' hj ⟨e1, e2⟩ ⟨rfl, hy⟩
      rw [List.getElem?_map] at hy
      obtain ⟨u, hu, rfl⟩ := Option.map_eq_some_iff.mp hy
      obtain ⟨ul, um⟩ := wordsL_of srt n u (List.mem_of_getElem? hu)
      have W : IsW u := ⟨fun c hc => SG.low c (psg.mem_iff.mp (um c hc)), by omega, by omega⟩
      have fl : ((((wordsL srt n).take j).filter fun u => goesB u ps && decide (S u = textS u)).map fun u => V.str (S u)).length < sizeLine := by
        rw [List.length_map, sizeLine_eq]
        have a1 := List.length_filter_le (fun u => goesB u ps && decide (S u = textS u)) ((wordsL srt n).take j)
        have a2 := List.length_take_le' j (wordsL srt n)
        have a3 : (wordsL srt n).length ≤ 262144 := by rw [wordsL_len]; exact pow_few (by omega) n9
        omega
      have nx : ∀ (H7 : Hp) (b : Bool), b = (goesB u ps && decide (S u = textS u)) → Same H3' H7 → (if b = true then (∃ acc, H7 D = some (.lst acc) ∧ acc.length < sizeLine ∧ (L2.upd H7 D (.lst (acc ++ [V.str (S u)]))) D = some (.lst ((((wordsL srt n).take (j + 1)).filter fun u => goesB u ps && decide (S u = textS u)).map fun u => V.str (S u))) ∧ Same H2 (L2.upd H7 D (.lst (acc ++ [V.str (S u)])))) else
          (H7 D = some (.lst ((((wordsL srt n).take (j + 1)).filter fun u => goesB u ps && decide (S u = textS u)).map fun u => V.str (S u))) ∧ Same H2 H7)) := fun H7 b eb s7 => by
        cases b with
        | true =>
          rw [if_pos rfl]
          refine ⟨_, s7 _ _ e1, fl, ?_, Same.new' (e2.trans s7) hD⟩
          rw [upd_same, List.take_add_one, hu, List.filter_append]
          show _ = some (HO.lst ((_ ++ List.filter _ [u]).map _))
          rw [List.filter_cons_of_pos (p := fun u => goesB u ps && decide (S u = textS u)) (by exact eb.symm), List.filter_nil, List.map_append] <;> rfl
        | false =>
          rw [if_neg Bool.false_ne_true]
          refine ⟨?_, e2.trans s7⟩
          rw [s7 _ _ e1, List.take_add_one, hu, List.filter_append]
          show _ = some (HO.lst ((_ ++ List.filter _ [u]).map _))
          rw [List.filter_cons_of_neg (p := fun u => goesB u ps && decide (S u = textS u)) (by rw [← eb]; exact Bool.false_ne_true), List.filter_nil, List.append_nil]
      refine ⟨rfl, _, rfl, _, rfl, u, t, ps, rfl, W, e2 _ _ (s2 _ _ ht), fun H4 s4 => ⟨_, rfl, ?_⟩⟩
      have nx' : ∀ (H7 : Hp) (b : Bool), b = (goesB u ps && decide (S u = textS u)) → Same H3' H7 → if b = true then tVar 6 (List.set (wipe [some (V.str (S sg)), some (V.ref t), some (V.int ↑n), some (V.ref L), v4, v5, v6, v7] (List.map (fun x => x.snd) [(("_law_word" : Str), 6)])) 6 (some (V.str (S u)))) H7 (fun y H4 => ∃ acc, H4 D = some (.lst acc) ∧ acc.length < sizeLine ∧ (L2.upd H4 D (.lst (acc ++ [y]))) D = some (.lst ((((wordsL srt n).take (j + 1)).filter fun u => goesB u ps && decide (S u = textS u)).map fun u => V.str (S u))) ∧ Same H2 (L2.upd H4 D (.lst (acc ++ [y])))) else
          (H7 D = some (.lst ((((wordsL srt n).take (j + 1)).filter fun u => goesB u ps && decide (S u = textS u)).map fun u => V.str (S u))) ∧ Same H2 H7) := fun H7 b eb s7 => by
        have q := nx H7 b eb s7
        cases b with
        | true => rw [if_pos rfl] at q ⊢; exact ⟨_, rfl, q⟩
        | false => rw [if_neg Bool.false_ne_true] at q ⊢; exact q
      refine ite2 (fun q => ?_) (fun q => ?_)
      · refine ⟨_, rfl, _, rfl, u, rfl, W, fun a H5 a0 s5 h5 => ?_⟩
        obtain ⟨x, xs, ex, em⟩ := least_cons (xs := turnsS u) (by rw [turns_len]; exact W.pos)
        refine ⟨a, x, xs, rfl, SqL.of (by rw [h5, ex]), rfl, _, rfl, ?_⟩
        refine nx' H5 _ ?_ (s4.trans s5)
        rw [show goesB u ps = true from q, Bool.true_and]
        unfold textS
        rw [em]
        exact decide_eq_decide.mpr (by rw [V.str.injEq])
      · refine nx' H4 false ?_ s4
        rw [show goesB u ps = false by simpa using q]
        rfl
    · rintro H3 ⟨e1, e2⟩
      rw [List.length_map, List.take_length] at e1
      exact k D H3 (s2.free hD) (s2.trans e2) e1
end
end Wb
set_option linter.all false
set_option maxHeartbeats 2000000
/-! o.m(..) of a generator method -/
namespace Gx
open PySem PySem.Spec PyProof.Rows L2 GenW
section
variable {ι : Type} {X : Cx} {Rq : Hp → Hp → Prop} {item : ι → V → Hp → Prop} {k : Nat} {f C : Addr} {fd : FuncData} {ps ks : List Str} {sp : SpGn ι} {m : Str} {apos pos : Pos} {o e : Expr} {es : List Expr} {kws : List Keyword} {ta : TE} {t tk : TA} {kg : List Value → List Value → List Value} {gV : List V → List V → List V}
theorem born_of {pins : List (Addr × Obj)} {σ : L2.St} {H : Hp} {s s0 : Shared} {us us2 : List Value} {kw : List (Str × Value)} {vs : List V} {cont : List ι → Hp → Prop} (F : GDef X.prog X.w X.K X.mg X.base Rq item k f fd ps sp) (hr : Room k X.A) (I : Inv X pins σ H s) (hz : s0.gens.size ≤ s.gens.size)
    (hb : BindsTo s fd ⟨us, kw⟩ (ps.zip us2)) (r : Vals vs us2) (h : sp vs H cont) : wpAny (model X.prog X.w) X.A (call (.ref f) us kw) (fun u s' => ∃ (a : Addr) (g : Nat) (s1 : Shared) (xs : List ι) (objs : List (Addr × Obj)) (gl : List (Nat × GenState)) (H1 : Hp) (Inn : Hp → Prop) (lo : Nat),
    (∀ H', Rq H1 H' → Inn H') ∧ s0.gens.size ≤ lo ∧ (∀ q ∈ gl, lo ≤ q.1) ∧ u = .ref a ∧ Inv X pins σ H1 s1 ∧ Inv X pins σ H1 s' ∧ s'.heap.IsGen a g ∧ Alive X.prog X.w X.K X.mg X.base X.A X.stack s1.heap.objs.size a lo Inn item xs objs gl ∧ FootOk s1.heap.objs.size objs H1 s' ∧ GensAt gl s' ∧
    s1.heap.objs.size ≤ s'.heap.objs.size ∧ cont xs H1) X.xe s := by
  refine wpAny_call (codeAny_mono (run_gdef (E1 := NoX) F hr I hb r h) fun r s' hq => ?_)
  cases r with
  | error e => exact hq.elim
  | ok fl =>
    cases fl with
    | ret u =>
      obtain ⟨a, g, s2, xs, objs, gl, H2, Inn, lo, q1, q2, q3⟩ := hq
      exact ⟨a, g, s2, xs, objs, gl, H2, Inn, lo, q1, Nat.le_trans hz q2, q3⟩
    | next => exact hq.elim
    | brk => exact hq.elim
    | cont => exact hq.elim
def tMethGn (C : Addr) (m : Str) (sp : SpGn ι) (ta : TE) (t : TA) : TGn ι := fun σ H cont => ta σ H fun x H1 => ∃ (a dx : Addr) (fs : List (Str × V)), x = .ref a ∧ H1 a = some (.ins C dx fs) ∧ fs.lookup m = none ∧ t σ H1 fun vs H2 => sp (x :: vs) H2 cont
theorem pgn_meth {pl : Sem Bool} (he : PE X o ta) (c : Cls X.K C) (hm : Meth X.K C m f) (F : GDef X.prog X.w X.K X.mg X.base Rq item k f fd ps sp) (hr : Room k X.A) (hb : Binds X.K fd ps []) (ha : PA X (e :: es) t)
    (hst : starEach (e :: es) X.env = (false, eval e X.env) :: starEach es X.env := by rfl) (hpl : (backTo pos (starEach es X.env)).any (·.1) = false := by rfl)
    (ht : eval (.Call (.Attribute o m apos) (e :: es) [] pos) X.env = (do
      let ov ← eval o X.env
      standAt apos.atName
      let (f, first) ← holding [ov] (getMethod ov m pl)
      callWith pos f first (backTo pos (starEach (e :: es) X.env)) (backToKw pos (keywordEach [] X.env))) := by rfl) :
    PGn X Rq item (.Call (.Attribute o m apos) (e :: es) [] pos) (tMethGn C m sp ta t) := by
  refine ⟨fun pins s σ H cont I h => ?_⟩
  refine PySem.W.methodCall_KW (pl := pl) (thn (wpAny_gsz (Q := fun u s1 => s.gens.size ≤ s1.gens.size ∧ EP X pins σ _ u s1) (Nat.le_refl s.gens.size) (wpAny_mono (he.run pins s σ H _ I h) (fun us s1 q hz => ⟨hz, q⟩) fun e s' q _ => q)) fun u s1 ⟨hz1, x, H1, I1, rx, a, dx, fs, ex, ea, l, q⟩ => ?_) ht
  subst ex
  obtain rfl : u = Value.ref a := rx
  refine getmeth_ok I1 ea c hm l ?_
  refine PySem.W.callWith_K (first := [.ref a]) (h₀ := X.base) I.ok.mod.kin hm.kp (thn (wpAny_gsz (Q := fun us s2 => s1.gens.size ≤ s2.gens.size ∧ AP X pins σ _ us s2) (Nat.le_refl s1.gens.size) (wpAny_mono (ha.run pos pins s1 σ H1 _ I1 q) (fun us s1 q hz => ⟨hz, q⟩) fun e s' q _ => q)) fun us s2 ⟨hz2, vs, H2, I2, r, q2⟩ => ⟨I2.kIn, ?_⟩) hst hpl
  have hl := F.len _ _ _ q2
  have hb' : BindsTo s2 fd ⟨.ref a :: us, []⟩ (ps.zip (.ref a :: us)) := by
    have z := hb s2 (.ref a :: us) I2.kIn (by rw [List.append_nil, List.length_cons, ← r.length]; exact hl)
    rw [List.append_nil] at z
    exact z
  exact born_of (vs := .ref a :: vs) F hr I2 (Nat.le_trans hz1 hz2) hb' (.cons rfl r) q2
def tMethGnK (C : Addr) (m : Str) (sp : SpGn ι) (gV : List V → List V → List V) (ta : TE) (tk : TA) : TGn ι := fun σ H cont => ta σ H fun x H1 => ∃ (a dx : Addr) (fs : List (Str × V)), x = .ref a ∧ H1 a = some (.ins C dx fs) ∧ fs.lookup m = none ∧ tk σ H1 fun zs H2 => sp (gV [x] zs) H2 cont
theorem pgn_methK {pl : Sem Bool} (he : PE X o ta) (c : Cls X.K C) (hm : Meth X.K C m f) (F : GDef X.prog X.w X.K X.mg X.base Rq item k f fd ps sp) (hr : Room k X.A) (hb : KBinds X.K fd ps ks kg gV) (hkw : PK X kws tk)
    (hall : (backToKw pos (keywordEach kws X.env)).all (·.1.isSome) = true := by rfl) (hks : (backToKw pos (keywordEach kws X.env)).filterMap (·.1) = ks := by rfl)
    (hpl : ((backTo pos (starEach [] X.env)).any (·.1) || (backToKw pos (keywordEach kws X.env)).any (·.1.isNone)) = false := by rfl)
    (ht : eval (.Call (.Attribute o m apos) [] kws pos) X.env = (do
      let ov ← eval o X.env
      standAt apos.atName
      let (f, first) ← holding [ov] (getMethod ov m pl)
      callWith pos f first (backTo pos (starEach [] X.env)) (backToKw pos (keywordEach kws X.env))) := by rfl) :
    PGn X Rq item (.Call (.Attribute o m apos) [] kws pos) (tMethGnK C m sp gV ta tk) := by
  refine ⟨fun pins s σ H cont I h => ?_⟩
  refine PySem.W.methodCall_KW (pl := pl) (thn (wpAny_gsz (Q := fun u s1 => s.gens.size ≤ s1.gens.size ∧ EP X pins σ _ u s1) (Nat.le_refl s.gens.size) (wpAny_mono (he.run pins s σ H _ I h) (fun us s1 q hz => ⟨hz, q⟩) fun e s' q _ => q)) fun u s1 ⟨hz1, x, H1, I1, rx, a, dx, fs, ex, ea, l, q⟩ => ?_) ht
  subst ex
  obtain rfl : u = Value.ref a := rx
  refine getmeth_ok I1 ea c hm l ?_
  refine PySem.W.callWith_KW0 (first := [.ref a]) (h₀ := X.base) I1.ok.mod.kin hm.kp hall (thn (wpAny_gsz (Q := fun us s2 => s1.gens.size ≤ s2.gens.size ∧ AP X pins σ _ us s2) (Nat.le_refl s1.gens.size) (wpAny_mono (hkw.run pos pins s1 σ H1 _ I1 q) (fun us s1 q hz => ⟨hz, q⟩) fun e s' q _ => q)) fun ws s2 ⟨hz2, zs, H2, I2, rz, q2⟩ => ⟨I2.kIn, ?_⟩) hpl
  rw [hks]
  have r2 : Vals (gV [.ref a] zs) (kg [.ref a] ws) := hb.rel (.cons rfl .nil) rz
  exact born_of F hr I2 (Nat.le_trans hz1 hz2) (hb.to s2 [.ref a] ws I2.kIn (by rw [← r2.length]; exact F.len _ _ _ q2)) r2 q2
end
end Gx
set_option linter.all false
/-! the rings that a kind tells, as the law lists them -/
namespace Wb
open PySem PySem.Spec PyProof.Rows L2 WbMin WbO WbS WbT Gx GenW Lz Le
abbrev sGLi : Stmt := top 50
abbrev NGLi : List Str := ["_law_kind", "_law_size", "_law_told", "_law_ring"]
/-- the words of the rings -/
def ringsL (sg : List Nat) (ps : List Str) (ws : List (List Nat)) : List (List Nat) := (ws.map (fm sg)).filter fun x => goesB x ps
/-- what is known of the words: Duval's way tells them, each its least turning -/
structure Way (sg : List Nat) (n : Nat) (ws : List (List Nat)) : Prop where
  outs : outs 400 sg.length n [0] = some ws
  of : ∀ u ∈ ws, u.length = n ∧ ∀ i ∈ u, i < sg.length
  few : ws.length ≤ 1000
  self : ∀ u ∈ ws, textS (fm sg u) = S (fm sg u)
theorem ringsL_len (sg : List Nat) (ps : List Str) (ws : List (List Nat)) : (ringsL sg ps ws).length ≤ ws.length := by
  unfold ringsL
  exact Nat.le_trans (List.length_filter_le _ _) (by rw [List.length_map]; exact Nat.le_refl _)
def spGLi (CK : Addr) : Sp := fun vs H Q _ => ∃ (r : Addr) (sg : List Nat) (ps : List Str) (n : Nat) (ws : List (List Nat)), vs = [.ref r, .int n] ∧ KindAt CK H r sg ps ∧ Sgs sg ∧ 0 < n ∧ n ≤ 9 ∧ Way sg n ws ∧
  ∀ (a : Addr) (H' : Hp), H a = none → Same H H' → H' a = some (.lst ((ringsL sg ps ws).map fun u => V.str (S u))) → Q (.ref a) H'
section
variable {P : Program} {w : World} {K : PySem.W.Frag} {mg : Str → Option Value} {base : Heap} {f : Addr} {fd : FuncData} {AK : KA} {B : GkA}
theorem scGTx : FnScope ["self"] ["self"] (defScope sTextG) := ⟨rfl, rfl, rfl, by decide +kernel, rfl, by decide +kernel, by decide +kernel⟩
def spTextG (C : Addr) : Sp := fun vs H Q _ => ∃ (r : Addr) (l : List Nat), vs = [.ref r] ∧ RingAt C H r l ∧ Q (.str (textS l)) H
theorem ok_textG {C : Addr} (F : Fun K "text" "Ring.text" sTextG f fd) (T : Txt K mg C) : FnOk P w K mg base CX0 1 f fd ["self"] (spTextG C) := by
  refine F.ok scGTx (fun vs H Q E h => by obtain ⟨r, l, rfl, _⟩ := h; rfl) (fun cdv A outer s H vs Q E hr h => ?_)
  obtain ⟨r, l, rfl, ⟨W, dx, hR⟩, k⟩ := h
  exact ⟨_, pss_one (ps_ret (pe_fld (pv 0) rfl)), _, rfl, r, C, dx, _, _, rfl, hR, T.cl, T.nT, rf_text _ _, k⟩
theorem kit_meG {K : PySem.W.Frag} {C : Addr} : PySem.W.kitOne K (.ref C) (.ref C) = some true := by
  unfold PySem.W.kitOne
  rw [if_pos (beq_self_eq_true _)]
theorem kf_rings (a : Str) (t : Addr) (b : Bool) : (kf a t b).lookup ("rings" : Str) = none := by
  unfold kf
  (repeat rw [lookup_putF, if_neg (by decide +kernel)]) <;> rfl
theorem scGLi : FnScope NGLi ["_law_kind", "_law_size"] (defScope sGLi) := ⟨rfl, rfl, rfl, by decide +kernel, rfl, by decide +kernel, by decide +kernel⟩
set_option maxHeartbeats 4000000 in
theorem ok_glisted (D : KindF K mg AK) (G : GkF K mg AK B) (Z0 : Free mg) (F : Fun K "_law_listed" "_law_listed" sGLi f fd) : FnOk P w K mg base CX0 6 f fd ["_law_kind", "_law_size"] (spGLi AK.C) := by
  have GR := ok_rings (P := P) (w := w) (base := base) D G Z0
  have GT : FnOk P w K mg base CX0 1 B.fT B.dT ["self"] (spTextG B.C) := ok_textG G.FT G.TR
  refine F.ok scGLi (fun vs H Q E h => by obtain ⟨r, sg, ps, n, ws, rfl, _⟩ := h; rfl) (fun cdv A outer s H vs Q E hr h => ?_)
  obtain ⟨r, sg, ps, n, ws, rfl, hk, SG, n0, n9, Y, k⟩ := h
  have hr2 : Room 2 _ := hr.mono (by decide)
  refine ⟨_, pss_cons (ps_setLcG (j := 2) (i := 3) (own := [("_law_ring", 3)]) (item2 := itR B.C) (itR_stays B.C) rfl scGLi.nd rfl rfl (sw_true rfl rfl rfl (by decide +kernel)) (pgn_meth (pv 0) D.T.cl G.mR GR hr G.bR (pa_cons (pv 1) pa_nil)) (blkOk_by (N := NGLi) (sc := defScope sGLi) (by decide +kernel)) (by decide) (by show 3 < NGLi.length; decide) (fun _ => rfl)
      (fun _ _ _ _ _ => pg_name (i := 3) scGLi.nd rfl (.inl rfl)) (fun _ _ _ _ _ => pv 3) (fun τ G' R x vv h1 h2 h3 => ⟨vv, h1, h3 vv G' (Same.refl _) h2⟩))
    (pss_cons (ps_if (pt_not (pt_val (pe_callB (cr_all rfl) (by rfl) Z0.all (by decide +kernel) (pa_cons
        (pe_lc (own := [("_law_ring", 3)]) (g := gName 3) (tt := tYes) rfl scGLi.nd (pi_list (pv 2)) (blkOk_by (N := NGLi) (sc := defScope sGLi) (by decide +kernel)) (fun _ _ _ _ _ => pg_name (i := 3) scGLi.nd rfl (.inl rfl)) (fun _ _ _ _ _ => pts_nil)
          (fun _ _ _ _ _ => pe_callB (show CallR _ _ (rIsi K) from call_isi) (by rfl) Z0.isi (by decide +kernel) (pa_cons (pv 3) (pa_cons (pe_glob (v := .ref B.C) (by rfl) G.TR.gC rfl) pa_nil)))) pa_nil)))) (pss_one ps_never) pss_nil)
    (pss_one (ps_ret (pe_lc (own := [("_law_ring", 3)]) (g := gName 3) (tt := tYes) rfl scGLi.nd (pi_list (pv 2)) (blkOk_by (N := NGLi) (sc := defScope sGLi) (by decide +kernel)) (fun _ _ _ _ _ => pg_name (i := 3) scGLi.nd rfl (.inl rfl)) (fun _ _ _ _ _ => pts_nil)
          (fun _ _ _ _ _ => pe_prop (pv 3) G.TR.cl G.hT GT hr2 G.bT .nil pass0 rfl))))), ?_⟩
  have xl : (ringsL sg ps ws).length ≤ 1000 := Nat.le_trans (ringsL_len sg ps ws) Y.few
  have tself : ∀ x ∈ ringsL sg ps ws, textS x = S x := fun x hx => by
    obtain ⟨u, hu, rfl⟩ := List.mem_map.mp (List.mem_filter.mp hx).1
    exact Y.self u hu
  obtain ⟨dx, tp, b, k1, k2⟩ := id hk
  refine ⟨_, rfl, r, dx, _, rfl, k1, kf_rings _ _ _, _, rfl, r, sg, ps, n, ws, rfl, hk, SG, n0, n9, Y.outs, Y.of, (by rw [sizeLine_eq]; exact Nat.le_trans xl (by decide)), fun D1 ys H1 hD1 s1 h1 told => ?_⟩
  have told : Told (itR B.C) (ringsL sg ps ws) ys H1 := told
  have yl : ys.length = (ringsL sg ps ws).length := told.1
  have ring : ∀ {i : Nat} {y : V}, ys[i]? = some y → ∃ x q, (ringsL sg ps ws)[i]? = some x ∧ y = .ref q ∧ RingAt B.C H1 q x := fun {i y} hy => by
    have hi : i < (ringsL sg ps ws).length := by rw [← yl]; exact (List.getElem?_eq_some_iff.mp hy).1
    obtain ⟨q, e, RA⟩ := told.2 i _ y (List.getElem?_eq_getElem hi) hy
    exact ⟨_, q, List.getElem?_eq_getElem hi, e, RA⟩
  refine ⟨_, rfl, D1, rfl, ⟨_, SqL.of h1⟩, fun D2 hD2 => lc_it (walk_list (xs := ys)) (fun i H3 => H3 D2 = some (.lst ((List.replicate i true).map V.bl)) ∧ Same H1 H3) ⟨upd_same, Same.put (Same.refl _) hD2⟩ (fun _ _ _ h => SqL.of (h.2 _ _ h1)) ?_ ?_⟩
  · rintro i y H3 H3' hi ⟨e1, e2⟩ ⟨rfl, hy⟩
    obtain ⟨x, q, hx, rfl, RA⟩ := ring hy
    obtain ⟨W, dq, hR⟩ := RA.same e2
    refine ⟨rfl, _, rfl, _, _, .ref B.C, .ref B.C, true, rfl, .own B.C, .base (.ins hR G.TR.cl G.TR.hcl G.TR.hgt G.TR.htk G.TR.hob), kit_meG, _, e1, ?_, ?_, Same.new' e2 hD2⟩
    · rw [List.length_map, List.length_replicate, sizeLine_eq]
      omega
    · rw [upd_same, List.replicate_succ', List.map_append] <;> rfl
  · rintro H3 ⟨e1, e2⟩
    refine ⟨D2, _, rfl, SqL.of e1, true, ?_, ?_⟩
    · rw [List.all_replicate]
      simp
    refine iteF ?_
    have h3 := e2 _ _ h1
    refine ⟨_, rfl, D1, rfl, ⟨_, SqL.of h3⟩, fun D3 hD3 => lc_it (walk_list (xs := ys)) (fun i H4 => H4 D3 = some (.lst (((ringsL sg ps ws).take i).map fun u => V.str (S u))) ∧ Same H3 H4) ⟨upd_same, Same.put (Same.refl _) hD3⟩ (fun _ _ _ h => SqL.of (h.2 _ _ h3)) ?_ ?_⟩
    · rintro i y H4 H4' hi ⟨f1, f2⟩ ⟨rfl, hy⟩
      obtain ⟨x, q, hx, rfl, RA⟩ := ring hy
      have RA4 := (RA.same e2).same f2
      obtain ⟨W, dq, hR⟩ := id RA4
      refine ⟨rfl, _, rfl, q, dq, _, rfl, hR, q, x, rfl, RA4, _, f1, ?_, ?_, Same.new' f2 hD3⟩
      · rw [List.length_map, sizeLine_eq]
        have := List.length_take_le' i (ringsL sg ps ws)
        omega
      · rw [upd_same, tself x (List.mem_of_getElem? hx), List.take_add_one, hx, List.map_append] <;> rfl
    · rintro H4 ⟨f1, f2⟩
      rw [yl, List.take_length] at f1
      exact k D3 H4 ((s1.trans e2).free hD3) ((s1.trans e2).trans f2) f1
end
end Wb
set_option linter.all false
set_option maxHeartbeats 2000000
/-! a comprehension over a generator that raises at once -/
namespace Gx
open PySem PySem.Spec PyProof.Rows L2 GenW
open Sem (wp)

section
variable {M : Model} {A : Around} {E : Value → Shared → Prop} {s : Shared} {env : Env}
/-- the block's error, for the comprehension -/
def CompX (M : Model) (A : Around) (E : Value → Shared → Prop) (cenv : Env) (r : Result) (s' : Shared) : Prop :=
  match r with
  | .error x => ∃ m, s'.heap.Ns cenv.locals m ∧ ∀ h', Heap.SameBut cenv.locals s'.heap h' → wpAny M A (passOn "comprehension.variables-let-go" x cenv : Sem Value) (fun _ _ => False) E { s' with heap := h' }
  | .ok _ => False
theorem comp_raises {e : Expr} {scope : Scope} {pos : Pos} {newAcc first : Sem Value} {g : Comprehension} {gs : List Comprehension} {cl : List (Str × Addr)} {use : Option (Value → Sem Unit)} {Q : Value → Shared → Prop}
    (hcl : clausesOf e = g :: gs) (hs : ∀ x, foldedSetIterable g.iter env x = pure x) (hclos : closureFor scope env = pure cl) (hkind : scope.kind = .function) (hnames : ∀ x ∈ scope.names, x.2 = .local → scope.names.lookup x.1 = some .local)
    (h : wpAny M A first (fun x s1 => wpAny M A (pyIter x) (fun it s2 => wpAny M A newAcc (fun acc s3 => wpAny M A (newFunctionEnv scope env.globals cl [] env.qual none .none (some env)) (fun cenv s4 =>
        codeAny M A (.compStart e 0 it acc { cenv with scope := relabel scope env }) (CompX M A E { cenv with scope := relabel scope env }) s4) E s3) E s2) E s1) E s) :
    wpAny M A (comprehension e scope env pos newAcc false first use) Q E s := by
  unfold comprehension
  rw [hclos, hcl]
  refine wpAny_bind (wpAny_mono h (fun x s1 q1 => wpAny_bind (wpAny_standAt (wpAny_bind (wpAny_of_eq (hs x) (wpAny_bind (wpAny_holding (wpAny_mono q1 (fun it s2 q2 => wpAny_standIf (wpAny_bind (wpAny_mono q2 (fun acc s3 q3 => wpAny_bind (wpAny_pure (wpAny_bind (wpAny_mono q3 (fun cenv s4 q4 => ?_) fun _ _ z => z)))) fun _ _ z => z))) fun _ _ z => z))))))) fun _ _ z => z)
  dsimp only
  have hv : ∀ x ∈ (scope.names.filter fun x => (x.2 == .local || x.2 == .cell) && x.1 != (".0" : Str)).reverse, x.2 = .local → Env.kindOf { cenv with scope := relabel scope env } x.1 = some .local :=
    fun x hx hl => lookup_relabel_local (hnames x (List.mem_filter.mp (List.mem_reverse.mp hx)).1 hl)
  refine wpAny_holding (wpAny_bind (wpAny_attempt (wpAny_holding (wpAny_run (codeAny_mono q4 fun r s' hr => ?_)))))
  cases r with
  | ok f => exact hr.elim
  | error x =>
    obtain ⟨m, hn, k⟩ := hr
    refine wpAny_bind (wpAny_holding (wpAny_comp_letGo (cenv := { cenv with scope := relabel scope env }) hkind _ s' m hv hn fun h' m' _ sb => ?_))
    exact wpAny_mono (k h' sb) (fun _ _ f => f.elim) fun _ _ y => y
end

section
variable {X : Cx} {pins : List (Addr × Obj)} {σ : L2.St} {H : Hp} {s : Shared} {W : WX}
/-- an exception that this frame holds, over the state ahead of what raised it -/
theorem xe_held {a : Addr} {B : Heap} {H' : Hp} {cls : Value} {d : Option Addr} {s' : Shared} (I : Inv X pins σ H s) (fl : HandSPX.HeldZ B X.stack a (L2N.Zn cls d) X.env.locals s'.heap) (hok : HOk X.prog X.w H' B) (ub : UB (frs X.stack) H H' s.heap B s'.heap) (na : H' a = none) (os : s'.os = s.os) (ag : AllBare s'.gens) (w : W cls d σ H') :
    L2N.XE X W (.ref a) s' := by
  obtain ⟨G, g1, g2⟩ := restrict s'.heap fun b => (B.get? b).isSome || decide (b ∈ frs X.stack)
  have st : B.StaysIn s'.heap := fl.1
  have gB : ∀ b o, B.get? b = some o → G.get? b = some o := fun b o e => (g1 b (by simp [e])).trans (st b o e)
  have gF : ∀ b, b ∈ frs X.stack → G.get? b = s'.heap.get? b := fun b hb => g1 b (by simp [hb])
  have og : ∀ b o, G.get? b = some o → s'.heap.get? b = some o ∧ ((B.get? b).isSome = true ∨ b ∈ frs X.stack) := fun b o e => by
    cases q : ((B.get? b).isSome || decide (b ∈ frs X.stack)) with
    | false => have z := g2 b q; rw [e] at z; cases z
    | true =>
      have z := g1 b q
      rw [e] at z
      exact ⟨z.symm, by simpa [Bool.or_eq_true] using q⟩
  refine ⟨a, B, { s with heap := G, gens := s'.gens, drawn := s'.drawn, toks := s'.toks }, pins, σ, H', cls, d, rfl, ?_, fun b o e hb => ?_, Heap.UpToSlots.of_keeps fun b o e => (og b o e).1, .inr (.inr fl), na, os, ag, w⟩
  · refine I.call (ch := []) ⟨fun b o e n hb _ => gB b o (ub.keep b o e n hb), fun b o e n hb _ => ?_, fun b o e n _ => ub.free b o e n, fun b o e _ => ?_, ub.tups, ub.frzs, ub.tbls⟩ (hok.kept gB) ag (fun _ z => nomatch z)
    · obtain ⟨sl, q⟩ := ub.slot b o e hb
      exact ⟨sl, (gF b hb).trans q⟩
    · by_cases hb : b ∈ frs X.stack
      · obtain ⟨sl, q⟩ := ub.slot b o e hb
        exact ⟨_, (gF b hb).trans q⟩
      · obtain ⟨o', q⟩ := ub.there b o e hb
        exact ⟨o', gB b o' q⟩
  · obtain ⟨e', z⟩ := og b o e
    rcases z with z | z
    · obtain ⟨o', q⟩ := Option.isSome_iff_exists.mp z
      have y := st b o' q
      rw [e'] at y; cases y
      exact q
    · exact absurd z hb
end
end Gx
set_option linter.all false
set_option maxHeartbeats 2000000
/-! [v for v in g], g raising at once -/
namespace Gx
open PySem PySem.Spec PyProof.Rows L2 GenW
open Sem (wp)

/-- a generator that raises when it is first woken: told over the state at its call -/
def Dies (P : Program) (w : World) (A : Around) (outer : List Env) (a : Addr) (s' : Shared) (H1 : Hp) (s1 : Shared) (EK : XK) : Prop :=
  ∀ (s2 : Shared) (C : Addr) (oC : Obj) (Q : Option Value → Shared → Prop) (E : Value → Shared → Prop), (∀ b o, s'.heap.get? b = some o → s2.heap.get? b = some o) → s2.os = s'.os → s2.gens = s'.gens → s'.heap.objs.size ≤ C → s2.heap.get? C = some oC → (∀ v, oC.data ≠ .cell v) →
    (∀ (x : Addr) (B : Heap) (H' : Hp) (cls : Value) (d : Option Addr) (s3 : Shared), HandSPX.FlyingZ B outer x (L2N.Zn cls d) s3.heap → HOk P w H' B → UB (frs outer) H1 H' s1.heap B s3.heap → H' x = none → H' C = none → s3.os = s1.os → AllBare s3.gens → EK cls d H' → s3.heap.get? C = some oC → E (.ref x) s3) → wpAny (model P w) A (pyNext (.ref a)) Q E s2
structure PGd (X : Cx) (e : Expr) (tg : L2.St → Hp → XK → Prop) : Prop where
  run : ∀ (pins : List (Addr × Obj)) (s : Shared) (σ : L2.St) (H : Hp) (EK : XK), Inv X pins σ H s → tg σ H EK → wpAny (model X.prog X.w) X.A (eval e X.env) (fun u s' => ∃ (a : Addr) (g : Nat) (s1 : Shared) (H1 : Hp), u = .ref a ∧ Inv X pins σ H1 s1 ∧ Inv X pins σ H1 s' ∧ s'.heap.IsGen a g ∧ s1.heap.objs.size ≤ s'.heap.objs.size ∧ Dies X.prog X.w X.A X.stack a s' H1 s1 EK) X.xe s
theorem held_less {B h1 h2 : Heap} {l : List Env} {a C L : Addr} {Z : Obj → Prop} {o : Obj} (x : HandSPX.HeldZ B l a Z L h1) (hC : ∀ vs, o.data ≠ .fields vs) (eC : h1.get? C = some o) (nf : C ∉ frs l) (sb : Heap.SameBut C h1 h2) (G : Heap) (g1 : ∀ b, b ≠ C → G.get? b = B.get? b) (g2 : G.get? C = none) :
    HandSPX.HeldZ G l a Z L h2 := by
  obtain ⟨st, na, fu, oe, vs, T, oT, ts, he, hz, hd, h1', hnT, hTe, hT, hdT, h3⟩ := x
  have ot : ∀ b, b ≠ C → h2.get? b = h1.get? b := fun b hb => sb.2 b hb
  have aC : a ≠ C := fun z => by rw [z, eC] at he; cases he; exact hC _ hd
  have TC : T ≠ C := fun z => by rw [z, eC] at hT; cases hT; exact hC _ hdT
  have sub : ∀ b, B.get? b = none → G.get? b = none := fun b e => by
    by_cases hb : b = C
    · rw [hb]; exact g2
    · rw [g1 b hb]; exact e
  refine ⟨fun b o e => ?_, sub a na, ?_, oe, vs, T, oT, ts, (ot a aC).trans he, hz, hd, h1', sub T hnT, hTe, (ot T TC).trans hT, hdT, h3⟩
  · by_cases hb : b = C
    · rw [hb, g2] at e; cases e
    · rw [g1 b hb] at e
      exact (ot b hb).trans (st b o e)
  · have all : ∀ (l : List Env), C ∉ frs l → h1.FunFrames B l → h2.FunFrames G l := by
      intro l
      induction l with
      | nil => intro _ _; trivial
      | cons env r ih =>
        intro hn hl
        obtain ⟨hk, ⟨b, ob, hf, hbn, ho, hod⟩, hr⟩ := hl
        have hbC : b ≠ C := fun z => hn (by unfold frs; rw [List.filterMap_cons, hf, z]; exact List.mem_cons_self)
        exact ⟨hk, ⟨b, ob, hf, sub b hbn, (ot b hbC).trans ho, hod⟩, ih (fun hm => hn (by unfold frs; rw [List.filterMap_cons, hf]; exact List.mem_cons_of_mem _ hm)) hr⟩
    exact all l nf fu
theorem lcG_raises {X : Cx} {EK : XK} {W : WX} {e elt : Expr} {tg : L2.St → Hp → XK → Prop} {v : Str} {vp : Pos} {scope : Scope} {own : List (Str × Nat)} {pos pos' : Pos} {pins : List (Addr × Obj)} {s : Shared} {σ : L2.St} {H : Hp} {use : Option (Value → Sem Unit)} {Qf : Value → Shared → Prop}
    (hst : X.stack = X.env :: X.outer) (hfr : X.env.frame = some X.env.locals) (tk : L2N.Takes X W) (hW : ∀ cls d H', EK cls d H' → W cls d σ H') (hi : PGd X e tg) (ok : BlkOk X.N X.env.scope scope own)
    (hs : ∀ x, foldedSetIterable e X.env x = pure x) (I : Inv X pins σ H s) (h : tg σ H EK) :
    wpAny (model X.prog X.w) X.A (comprehension (.ListComp elt [⟨.Name v vp, e, [], 0⟩] scope pos) scope X.env pos' (newList []) false (eval e X.env) use) Qf X.xe s := by
  have hfree : ∀ y ∈ scope.names, y.2 = .free → ∃ c, X.env.cells.lookup y.1 = some c := fun y hy e => by
    rcases ok.free y hy e with k | k
    · exact I.ok.has _ (.inl k)
    · exact I.ok.has _ (.inr k)
  refine comp_raises (use := use) rfl hs (closure_ok hfree) ok.kind (fun y hy e => by rw [ok.uniq y hy, e]) (thn (hi.run pins s σ H EK I h) fun u s2 hu => ?_)
  obtain ⟨a, g, s1, H1, rfl, I1, I2, hga, hsz, dies⟩ := hu
  refine wpAny_pyIter_gen hga ?_
  refine wpAny_newObj_type (newEnv_comp ?_) (by show 0 ≤ sizeLine; decide)
  generalize hs3 : ({ s2 with heap := s2.heap.push { cls := .type "list", data := .seq ([] : List Value).toArray } } : Shared) = s3
  have h3 : s3.heap = s2.heap.push { cls := .type "list", data := .seq ([] : List Value).toArray } := by rw [← hs3]
  have k3 : ∀ b o, s2.heap.get? b = some o → s3.heap.get? b = some o := fun b o e => by rw [h3]; exact Heap.get?_push_of_some _ e
  show codeAny _ _ (.compStart _ 0 (.ref a) (.ref s2.heap.objs.size) (compEnvC scope (cellsFrom (s3.heap.objs.size + 1) scope.names (cloFrom X.env.cells scope.names [])) s3.heap.objs.size X.env)) (CompX (model X.prog X.w) X.A X.xe (compEnvC scope (cellsFrom (s3.heap.objs.size + 1) scope.names (cloFrom X.env.cells scope.names [])) s3.heap.objs.size X.env)) { s3 with heap := pushCells (s3.heap.push { cls := .type "dict", data := .dict #[] }) scope.names }
  generalize hC : s3.heap.objs.size = C
  have k4 : ∀ b o, s3.heap.get? b = some o → (pushCells (s3.heap.push { cls := .type "dict", data := .dict #[] }) scope.names).get? b = some o := fun b o e => pushCells_keeps _ _ _ _ (Heap.get?_push_of_some _ e)
  have gC : (pushCells (s3.heap.push { cls := .type "dict", data := .dict #[] }) scope.names).get? C = some { cls := .type "dict", data := .dict #[] } := by
    rw [← hC]
    exact pushCells_keeps _ _ _ _ (Heap.get?_push_size _ rfl)
  have zC : s2.heap.objs.size ≤ C := by rw [← hC, h3, Heap.size_push]; exact Nat.le_succ _
  generalize hce : compEnvC scope (cellsFrom (C + 1) scope.names (cloFrom X.env.cells scope.names [])) C X.env = ce
  have cL : ce.locals = C := by subst hce; rfl
  have cF : ce.frame = X.env.frame := by subst hce; rfl
  generalize hs4 : ({ s3 with heap := pushCells (s3.heap.push { cls := .type "dict", data := .dict #[] }) scope.names } : Shared) = s4
  have nfC : C ∉ frs X.stack := fun z => by
    obtain ⟨_, o, ho, _⟩ := I2.stack.mem z
    exact absurd (Nat.lt_of_lt_of_le (Heap.lt_size ho) zC) (Nat.lt_irrefl _)
  have hnote : ∀ u, noteFrame u ce = noteFrame u X.env := fun u => by
    unfold noteFrame PySem.frameOf
    rw [cF]
  have frames : X.A.frames = some (X.env :: X.outer) := by rw [I2.ok.frames, hst]
  have loop : codeAny (model X.prog X.w) X.A (.compLoop (.ListComp elt [⟨.Name v vp, e, [], 0⟩] scope pos) 0 (.ref a) (.ref s2.heap.objs.size) ce) (CompX (model X.prog X.w) X.A X.xe ce) s4 := by
    refine compLoop_any (fun _ s' => s' = s4) ?_ 0 rfl
    rintro n s5 rfl
    refine dies s5 C { cls := .type "dict", data := .dict #[] } _ _ (fun b o e => by rw [← hs4]; exact k4 b o (k3 b o e)) (by rw [← hs4, ← hs3]) (by rw [← hs4, ← hs3]) zC (by rw [← hs4]; exact gC) (fun v q => by cases q) fun x B H' cls d s6 fl hok ub na nC os ag hE kC => ?_
    show wpAny _ _ (noteFrame (.ref x) ce) _ _ s6
    rw [hnote]
    rw [hst] at fl
    refine PXN.looks_onZ L2N.Zn.steady frames hfr fl fun h7 held up => ?_
    obtain ⟨sl, e7⟩ := up C _ kC (fun vs q => by cases q)
    refine ⟨fun _ => none, ?_, fun h8 sb => ?_⟩
    · rw [cL]
      exact ⟨_, #[], _, e7, rfl, ⟨fun y hy => by simp at hy, fun _ => rfl⟩⟩
    rw [cL] at sb
    obtain ⟨G, g1, g2⟩ := restrict B fun b => decide (b ≠ C)
    have held8 := held_less held (fun vs q => by cases q) e7 (by rw [← hst]; exact nfC) sb G (fun b hb => g1 b (by simpa using hb)) (g2 C (by simp))
    have held8' := held8
    obtain ⟨_, _, _, oe, vs, T, oT, ts, he, hz, hd, h1', hnT, hTe, hT, hdT, h3'⟩ := held8'
    unfold PySem.passOn
    refine wpAny_bind (wpAny_field he hd h1' ?_)
    rw [if_neg (show ¬ ((Value.ref T == Value.none) = true) from Bool.false_ne_true)]
    rw [cF, hfr]
    refine wpAny_bind (HandSPX.setFlight_onZ held8 fun h9 held9 up9 => ?_)
    refine wpAny_throw ?_
    refine tk _ _ (xe_held (B := G) I1 (by rw [hst]; exact held9) ?_ ?_ na os ag (hW _ _ _ hE))
    · intro b o q
      have hbC : b ≠ C := fun z => by rw [z, nC] at q; cases q
      exact (hok b o q).stay (fun c u hc y => (g1 c (by
        simp only [decide_eq_true_eq]
        intro z
        rcases hc with hc | hc
        · exact hbC (hc.symm.trans z)
        · rw [z, nC] at hc; cases hc)).trans y) (fun _ y => y) fun _ _ y => y
    · have ltC : ∀ b o, s1.heap.get? b = some o → b ≠ C := fun b o e => Nat.ne_of_lt (Nat.lt_of_lt_of_le (Nat.lt_of_lt_of_le (Heap.lt_size e) hsz) zC)
      have gl : ∀ b, b ≠ C → G.get? b = B.get? b := fun b hb => g1 b (by simpa using hb)
      refine ⟨fun b o e n hb => (gl b (ltC b o e)).trans (ub.keep b o e n hb), fun b o e hb => ?_, ub.free, fun b o e hb => ?_, ub.tups, ub.frzs, ub.tbls⟩
      · obtain ⟨_, o1, e1, hnf⟩ := I1.stack.mem hb
        rw [e] at e1; cases e1
        obtain ⟨sl1, q1⟩ := ub.slot b o e hb
        obtain ⟨sl2, q2⟩ := up b _ q1 hnf
        have q3 := (sb.2 b (ltC b o e)).trans q2
        obtain ⟨sl3, q4⟩ := up9 b _ q3 hnf
        exact ⟨sl3, q4⟩
      · obtain ⟨o', q⟩ := ub.there b o e hb
        exact ⟨o', (gl b (ltC b o e)).trans q⟩
  have hga4 : s4.heap.IsGen a g := by
    obtain ⟨o, nm, qn, ho, r⟩ := hga
    exact ⟨o, nm, qn, by rw [← hs4]; exact k4 _ _ (k3 _ _ ho), r⟩
  exact codeAny_compStart_list loop (wpAny_pyIter_gen hga4 loop)
/-- name = [..] on one line, that raises -/
theorem ps_setLcX {X : Cx} {W : WX} {j : Nat} {y : Str} {py spos : Pos} {e elt : Expr} {tg : L2.St → Hp → XK → Prop} {v : Str} {vp : Pos} {scope : Scope} {own : List (Str × Nat)} {pos : Pos} (hst : X.stack = X.env :: X.outer) (hfr : X.env.frame = some X.env.locals) (tk : L2N.Takes X W)
    (hsw : swapsWith (.ListComp elt [⟨.Name v vp, e, [], 0⟩] scope pos) (some (.Name y py)) spos.line X.env = pure true) (hi : PGd X e tg) (ok : BlkOk X.N X.env.scope scope own) (hs : ∀ x, foldedSetIterable e X.env x = pure x := by intro _; rfl) :
    PS X (.Assign [.Name y py] (.ListComp elt [⟨.Name v vp, e, [], 0⟩] scope pos) spos) (fun _ σ H => tg σ H fun cls d H' => W cls d σ H') := by
  refine ⟨fun pins s σ H D I h => ?_⟩
  rw [exec_Assign_Name_used _ _ _ _ hsw]
  refine wpAny_bind (wpAny_standAt (wpAny_bind ?_))
  show wpAny _ X.A (do let _ ← comprehension (.ListComp elt [⟨.Name v vp, e, [], 0⟩] scope pos) scope X.env (firstIterPos [⟨.Name v vp, e, [], 0⟩] pos) (newList []) false (eval e X.env) (some (assign (.Name y py) X.env))) _ _ s
  exact wpAny_bind (wpAny_mono (lcG_raises (Qf := fun _ _ => False) hst hfr tk (fun _ _ _ z => z) hi ok hs I h) (fun _ _ z => z.elim) fun _ _ z => z)
end Gx
set_option linter.all false
set_option maxHeartbeats 2000000
/-! a generator def whose first run raises -/
namespace Gx
open PySem PySem.Spec PyProof.Rows L2 GenW
open Sem (wp)

section
variable (P : Program) (w : World) (K : PySem.W.Frag) (mg : Str → Option Value) (base : Heap) (N : List Str) (qual : Str) (scope : Scope) (f : Addr) (cd : Value) (A : Around) (outer : List Env) (s : Shared) (H : Hp) (EK : XK) (a C : Addr) (go oC : Obj)
/-- in flight behind the generator's frame -/
def Fly (e : Value) (s' : Shared) : Prop := ∃ (x : Addr) (B : Heap) (H' : Hp) (cls : Value) (d : Option Addr), e = .ref x ∧ HandSPX.FlyingZ B outer x (L2N.Zn cls d) s'.heap ∧ HOk P w H' B ∧ UB (frs outer) H H' s.heap B s'.heap ∧ H' x = none ∧ H' C = none ∧ s'.os = s.os ∧ AllBare s'.gens ∧ EK cls d H' ∧
  s'.heap.get? C = some oC ∧ s'.heap.get? a = some go
def dX : Cx := { cxOf (L2N.CX P w) P w K mg base N qual scope f cd A outer s H EK with
  pn := [(a, go), (C, oC)]
  xe := fun e s' => wpAny (model P w) (A.deeper (envOfC qual scope s.heap.objs.size f cd)) (leaving (envOfC qual scope s.heap.objs.size f cd) e) (fun _ s'' => Fly P w outer s H EK a C go oC e s'') (fun _ _ => False) s' }
end
section
variable {P : Program} {w : World} {K : PySem.W.Frag} {mg : Str → Option Value} {base : Heap} {N : List Str} {qual : Str} {scope : Scope} {f : Addr} {cd : Value} {A : Around} {outer : List Env} {s : Shared} {H : Hp} {EK : XK} {a C : Addr} {go oC : Obj}
theorem takes_dX : L2N.Takes (dX P w K mg base N qual scope f cd A outer s H EK a C go oC) (fun cls d _ H' => EK cls d H') := fun u s' x => by
  obtain ⟨e, B, sI, pins, σ, H', cls, d, rfl, I, nb, up, sky, na, os, ag, wi⟩ := x
  have hs : (dX P w K mg base N qual scope f cd A outer s H EK a C go oC).stack = (dX P w K mg base N qual scope f cd A outer s H EK a C go oC).env :: (dX P w K mg base N qual scope f cd A outer s H EK a C go oC).outer := rfl
  have hf : (dX P w K mg base N qual scope f cd A outer s H EK a C go oC).env.frame = some (dX P w K mg base N qual scope f cd A outer s H EK a C go oC).env.locals := rfl
  generalize hX : dX P w K mg base N qual scope f cd A outer s H EK a C go oC = X at *
  have hfr : X.A.frames = some (X.env :: X.outer) := by rw [I.ok.frames, hs]
  have nst : ∀ b o, X.s_0.heap.get? b = some o → b ∉ X.fs → b ∉ frs X.stack := fun b o e hb hm => by
    rcases List.mem_cons.mp (I.stkSub b hm) with z | z
    · have h1 := Heap.lt_size e
      have h2 := I.ok.above
      rw [z] at h1
      exact absurd (Nat.lt_of_lt_of_le h1 h2) (Nat.lt_irrefl _)
    · exact hb z
  have hex' : ∀ b, b ∉ X.ex := fun b hb => by rw [← hX] at hb; exact absurd (show b ∈ ([] : List Addr) from hb) (by simp)
  have hokB := I.inGround nb
  have pinB : ∀ p ∈ X.pn, B.get? p.1 = some p.2 ∧ H' p.1 = none := fun p hp => by
    obtain ⟨h1, h2, h3, h4, _⟩ := I.pin p (List.mem_append_left _ hp)
    refine ⟨nb p.1 p.2 h1 fun hm => ?_, h2⟩
    rcases List.mem_cons.mp (I.stkSub p.1 hm) with z | z
    · exact h3 z
    · exact h4 z
  have pa : (a, go) ∈ X.pn := by rw [← hX]; exact List.mem_cons_self
  have pC : (C, oC) ∈ X.pn := by rw [← hX]; exact List.mem_cons_of_mem _ (List.mem_singleton.mpr rfl)
  have eo : X.outer = outer := by rw [← hX]; rfl
  have e0 : X.H_0 = H := by rw [← hX]; rfl
  have es0 : X.s_0 = s := by rw [← hX]; rfl
  have efs : X.fs = frs outer := by rw [← eo]
  have fin : ∀ h', HandSPX.FlyingZ B X.outer e (L2N.Zn cls d) h' → s'.heap.UpToSlots h' → Fly P w outer s H EK a C go oC (.ref e) { s' with heap := h' } := fun h' fl up' => by
    refine ⟨e, B, H', cls, d, rfl, by rw [← eo]; exact fl, ?_, ?_, na, (pinB _ pC).2, os.trans (by rw [← es0]; exact I.os), ag, wi, fl.1 _ _ (pinB _ pC).1, fl.1 _ _ (pinB _ pa).1⟩
    · have q := hokB
      rw [← hX] at q
      exact q
    · rw [← e0, ← es0, ← efs]
      refine ⟨fun b o e n hb => nb b o (I.base.keep b o e n hb (hex' b)) (nst b o e hb), fun b o e hb => ?_, fun b o e n => I.base.free b o e n (hex' b), fun b o e hb => ?_, I.base.tups, I.base.frzs, I.base.tbls⟩
      · obtain ⟨_, o₀, e₀, hnf⟩ := I.ok.funs.mem hb
        rw [e] at e₀; cases e₀
        obtain ⟨sl, e1⟩ := I.base.slot b o e (I.ok.frf b hb) hb (hex' b)
        obtain ⟨sl2, e2⟩ := up b _ e1 hnf
        obtain ⟨sl3, e3⟩ := up' b _ e2 hnf
        exact ⟨sl3, e3⟩
      · obtain ⟨o', e1⟩ := I.base.there b o e (hex' b)
        exact ⟨o', nb b o' e1 (nst b o e hb)⟩
  have goal : wpAny (model P w) X.A (leaving X.env (.ref e)) (fun _ s'' => Fly P w outer s H EK a C go oC (.ref e) s'') (fun _ _ => False) s' := by
    rw [hs] at sky
    rcases sky with ⟨hB, hn, hl, oe, vs, he, hz, hd, h1⟩ | fl | hd
    · exact PXN.leaving_firstZ L2N.Zn.steady hfr hl hf he hB hn hd h1 hz fin
    · exact PXN.leaves_onZ L2N.Zn.steady hfr hf fl fin
    · exact HandSPX.leaves_heldZ hf hd fin
  rw [← hX] at goal ⊢
  exact goal
theorem inv_dX {σ : L2.St} {H' : Hp} {s1 : Shared} {E2 : XK} (I : Inv (gcxOf P w K mg base N qual scope f cd A outer s H E2 []) [] σ H' s1)
    (h : ∀ p ∈ [(a, go), (C, oC)], s1.heap.get? p.1 = some p.2 ∧ H' p.1 = none ∧ p.1 ≠ (envOfC qual scope s.heap.objs.size f cd).locals ∧ p.1 ∉ frs outer ∧ ∀ v, p.2.data ≠ .cell v) : Inv (dX P w K mg base N qual scope f cd A outer s H EK a C go oC) [] σ H' s1 :=
  ⟨⟨I.ok.mod, I.ok.kind, I.ok.glob, I.ok.blt, I.ok.above, I.ok.inj, I.ok.has, I.ok.cab, I.ok.hd, I.ok.frames, I.ok.stk, I.ok.exf, I.ok.bs, I.ok.bsz, I.ok.noex, I.ok.exfs, I.ok.funs, I.ok.frf⟩, I.os, I.bare, I.base, I.loc, I.cell, I.free, I.freeC, fun p hp => h p (by simpa [dX] using hp), I.hok, I.len⟩
/-- a def whose generator raises c0 at once -/
structure GDie (P : Program) (w : World) (K : PySem.W.Frag) (mg : Str → Option Value) (base : Heap) (k : Nat) (f : Addr) (fd : FuncData) (ps : List Str) (sp : List V → Hp → XK → Prop) : Prop where
  len : ∀ vs H EK, sp vs H EK → vs.length = ps.length
  run : ∀ (A : Around) (outer : List Env) (s : Shared) (H : Hp) (args : Args) (us : List Value) (vs : List V) (EK : XK), Room k A → Env0 P w K mg base A outer s H → BindsTo s fd args (ps.zip us) → Vals vs us → sp vs H EK →
    codeAny (model P w) A (.call (.ref f) args) (fun r s' => match r with
      | .ok (.ret u) => ∃ (a : Addr) (g : Nat), u = .ref a ∧ s'.os = s.os ∧ AllBare s'.gens ∧ (∀ b o, s.heap.get? b = some o → s'.heap.get? b = some o) ∧ s.heap.objs.size ≤ s'.heap.objs.size ∧ s'.heap.IsGen a g ∧ Dies P w A outer a s' H s EK
      | _ => False) s
theorem gdie_of {k : Nat} {f : Addr} {name qual : Str} {params : Arguments} {body : List Stmt} {scope : Scope} {dV kV doc pm cdv ct oc : Value} {an od : Option Addr} {osl : Array (Option Value)} {N ps : List Str} {sp : List V → Hp → XK → Prop} {c0 : Addr}
    (lk : K.lookup f = some ⟨oc, od, .func (PySem.W.fnOf name qual params body scope dV kV doc pm an cdv ct), osl⟩) (hcd : PySem.W.codeIn K cdv qual = true) (S : GScope N ps scope) (W : Own scope) (hc0 : PySem.W.subIn K (.ref c0) (.type "StopIteration") = some false) (len : ∀ vs H EK, sp vs H EK → vs.length = ps.length)
    (hbody : ∀ (A : Around) (outer : List Env) (s : Shared) (H : Hp) (vs : List V) (EK : XK) (a C : Addr) (go oC : Obj), Room k A → sp vs H EK →
      ∃ t, PSs (dX P w K mg base N qual scope f cdv A.in1 outer s H (fun cls d H' => cls = .ref c0 ∧ EK cls d H') a C go oC) body t ∧ t { nx := fun _ _ => False, rt := fun _ _ => False } (start N vs) H) :
    GDie P w K mg base k f (PySem.W.fnOf name qual params body scope dV kV doc pm an cdv ct) ps sp := by
  refine ⟨len, fun A outer s H args us vs EK hr e0 hb r hsp => ?_⟩
  have hl := len _ _ _ hsp
  have KX : K.In s.heap := e0.mod.kin.keeps fun b o e => (e0.bs b o e).1
  have lim : s.heap.NoLimit := e0.mod.nolimit.keeps fun b o e => (e0.bs b o e).1
  have hkind : ∀ y ∈ ps.zip us, scope.names.lookup y.1 = some .local ∨ (scope.names.lookup y.1 = some .cell ∧ ((cellsFrom (s.heap.objs.size + 1) scope.names []).lookup y.1).isSome = true) := fun ⟨n, v⟩ hy => by
    rcases S.par n (List.of_mem_zip hy).1 with q | q
    · exact .inl q
    · exact absurd q (W.noc n).1
  refine codeAny_call_generator hr.depth (KX _ _ lk) rfl S.co S.gen rfl (PySem.W.codeRec_of KX hcd) (hb _ _ _ _ ?_)
  refine wpAny_newFunctionEnv_cells S.kind hkind fun env he s1 x => ?_
  subst he
  refine ⟨lim.keeps x.toInCall.keep, ?_⟩
  obtain ⟨h1, tk, es1, hk1⟩ := x.done
  have os1 : s1.os = s.os := by rw [es1]
  have gen1 : s1.gens = s.gens := by rw [es1]
  have lt1 : s.heap.objs.size < s1.heap.objs.size := x.toInCall.ns.lt
  have I1 : Inv (gcxOf P w K mg base N qual scope f cdv A.in1 outer s H (fun _ _ _ => False) []) [] (start N vs) H s1 := inv_startG S hr.hd e0.in1 hl r x
  have main : ∀ (go : Obj) (tk2 : Nat), GenObj go s1.gens.size → (∀ h : Heap, (h.push go).get? h.objs.size = some go) →
      ∃ (a : Addr) (g : Nat), Value.ref s1.heap.objs.size = .ref a ∧ s1.os = s.os ∧ AllBare (s1.gens.push (.fresh (.func body (envOfC qual scope s.heap.objs.size f cdv)))) ∧ (∀ b o, s.heap.get? b = some o → (s1.heap.push go).get? b = some o) ∧ s.heap.objs.size ≤ (s1.heap.push go).objs.size ∧ (s1.heap.push go).IsGen a g ∧
        Dies P w A outer a { s1 with gens := s1.gens.push (.fresh (.func body (envOfC qual scope s.heap.objs.size f cdv))), toks := tk2, heap := s1.heap.push go } H s EK := by
    intro go tk2 hgo hgp
    obtain ⟨hgc, ⟨nm, qn, hgd⟩, hgs⟩ := hgo
    have k2 : ∀ b o, s1.heap.get? b = some o → (s1.heap.push go).get? b = some o := fun b o e => Heap.get?_push_of_some _ e
    have hbare : AllBare (s1.gens.push (.fresh (.func body (envOfC qual scope s.heap.objs.size f cdv)))) := AllBare.push (by rw [gen1]; exact e0.bare) rfl
    refine ⟨s1.heap.objs.size, s1.gens.size, rfl, os1, hbare, fun b o e => k2 b o (x.toInCall.keep b o e), by rw [Heap.size_push]; omega, ⟨go, nm, qn, hgp _, hgc, hgd, hgs⟩, fun s2 C oC Q E kp hos hgens hCs eC ncell hE => ?_⟩
    obtain ⟨t, ht, hq⟩ := hbody A outer s H vs EK s1.heap.objs.size C go oC hr hsp
    have hgs2 : s2.gens[s1.gens.size]? = some (.fresh (.func body (envOfC qual scope s.heap.objs.size f cdv))) := by
      rw [hgens]
      exact Array.getElem?_push_size ..
    have kp2 : ∀ b o, s1.heap.get? b = some o → s2.heap.get? b = some o := fun b o e => kp b o (k2 b o e)
    have ego : s2.heap.get? s1.heap.objs.size = some go := kp _ _ (hgp _)
    have lim2 : s2.heap.NoLimit := lim.keeps fun b o e => kp2 b o (x.toInCall.keep b o e)
    have hsC : s1.heap.objs.size < C := by
      have z : (s1.heap.push go).objs.size ≤ C := hCs
      rw [Heap.size_push] at z
      exact z
    have young : ∀ b, s1.heap.objs.size ≤ b → H b = none ∧ b ≠ s.heap.objs.size ∧ b ∉ frs outer := fun b hb => by
      refine ⟨e0.hok.fresh (Nat.le_trans (Nat.le_of_lt lt1) hb), Nat.ne_of_gt (Nat.lt_of_lt_of_le lt1 hb), fun z => ?_⟩
      obtain ⟨_, o, ho, _⟩ := e0.funs.mem z
      exact absurd (Nat.lt_of_lt_of_le (Heap.lt_size ho) (Nat.le_trans (Nat.le_of_lt lt1) hb)) (Nat.lt_irrefl _)
    have I2 : Inv (gcxOf P w K mg base N qual scope f cdv A.in1 outer s H (fun _ _ _ => False) []) [] (start N vs) H (s2.setGen s1.gens.size .running) :=
      I1.call' (ch := []) (hos : s2.os = s1.os) (Un.kept kp2) (I1.hok.kept kp2) (allBare_setGen (s := s2) (by rw [hgens]; exact hbare) rfl) fun b z => by simp at z
    have I3 := inv_dX (EK := fun cls d H' => cls = .ref c0 ∧ EK cls d H') (a := s1.heap.objs.size) (C := C) (go := go) (oC := oC) I2 fun p hp => by
      rcases List.mem_cons.mp hp with rfl | hp
      · obtain ⟨y1, y2, y3⟩ := young s1.heap.objs.size (Nat.le_refl _)
        exact ⟨ego, y1, y2, y3, fun v q => by rw [show go.data = _ from hgd] at q; cases q⟩
      · rw [List.mem_singleton.mp hp]
        obtain ⟨y1, y2, y3⟩ := young C (Nat.le_of_lt hsC)
        exact ⟨eC, y1, y2, y3, ncell⟩
    refine next_genG (F := fun _ _ _ => False) (Er := fun e s1' => Fly P w outer s H (fun cls d H' => cls = .ref c0 ∧ EK cls d H') s1.heap.objs.size C go oC e s1') (Y := fun _ _ _ _ _ => False) (n := 0) hr.hd lim2 hr.depth ⟨go, nm, qn, ego, hgc, hgd, hgs⟩ hgs2 ⟨rfl, ?_⟩ (fun _ _ _ _ z => z.elim) (fun _ z => z.elim) fun e s3 fl => ?_
    · refine seg_func (seg_wrap ?_)
      rw [over_func]
      refine wpAny_mono (ht.run [] _ _ H _ I3 hq) (fun fl s' q => ?_) fun e s' he => ?_
      · cases fl with
        | next => obtain ⟨_, _, _, z⟩ := q; exact z.elim
        | brk => obtain ⟨_, _, _, z⟩ := q; exact z.elim
        | cont => obtain ⟨_, _, _, z⟩ := q; exact z.elim
        | ret u => obtain ⟨_, _, _, _, _, z⟩ := q; exact z.elim
      · refine seg_wrap ?_
        rw [over_func]
        refine wpAny_mono (show wpAny (model P w) (A.in1.deeper (envOfC qual scope s.heap.objs.size f cdv)) (leaving (envOfC qual scope s.heap.objs.size f cdv) e) (fun _ s'' => Fly P w outer s H (fun cls d H' => cls = .ref c0 ∧ EK cls d H') s1.heap.objs.size C go oC e s'') (fun _ _ => False) s' from he) (fun _ s'' q => ?_) fun _ _ z => z.elim
        exact seg_end (.error e) (.inr ⟨e, rfl, q⟩)
    · obtain ⟨y, B, H', cls, d, rfl, fly, hok, ub, na, nC, os, ag, ⟨rfl, hE'⟩, kC, ka⟩ := fl
      refine ⟨⟨go, nm, qn, ka, hgc, hgd, hgs⟩, ?_, ?_⟩
      · obtain ⟨oe, vs', he, hz, hd⟩ := fly.there
        have kin : K.In s3.heap := e0.mod.kin.keeps fun b o eb => fly.1 b o (ub.keep b o (e0.bs b o eb).1 (e0.bs b o eb).2 fun hm => by
          obtain ⟨z, _⟩ := e0.funs.mem hm
          rw [eb] at z; cases z)
        have lk0 := PySem.W.looks_subIn (M := model P w) kin hc0
        intro A' Q' E' s4 hs4 hq'
        simp only [isInstance]
        refine wpAny_bind (wpAny_typeOf_ref (o := oe) (by rw [hs4]; exact he) ?_)
        rw [hz.1]
        exact lk0 A' Q' E' s4 (fun b o z => by rw [hs4]; exact z) hq'
      · exact hE y B H' _ d (s3.setGen s1.gens.size .finished) fly hok ub na nC os (allBare_setGen (s := s3) ag rfl) hE' kC
  exact main _ _ ⟨rfl, ⟨_, _, rfl⟩, rfl⟩ fun h => Heap.get?_push_size _ rfl
section
variable {X : Cx} {k : Nat} {f C : Addr} {fd : FuncData} {ps : List Str} {sp : List V → Hp → XK → Prop} {m : Str} {apos pos : Pos} {o e : Expr} {es : List Expr} {ta : TE} {t : TA}
def tMethGd (C : Addr) (m : Str) (sp : List V → Hp → XK → Prop) (ta : TE) (t : TA) : L2.St → Hp → XK → Prop := fun σ H EK => ta σ H fun x H1 => ∃ (a dx : Addr) (fs : List (Str × V)), x = .ref a ∧ H1 a = some (.ins C dx fs) ∧ fs.lookup m = none ∧ t σ H1 fun vs H2 => sp (x :: vs) H2 EK
theorem pgd_meth {pl : Sem Bool} (he : PE X o ta) (c : Cls X.K C) (hm : Meth X.K C m f) (F : GDie X.prog X.w X.K X.mg X.base k f fd ps sp) (hr : Room k X.A) (hb : Binds X.K fd ps []) (ha : PA X (e :: es) t)
    (hst : starEach (e :: es) X.env = (false, eval e X.env) :: starEach es X.env := by rfl) (hpl : (backTo pos (starEach es X.env)).any (·.1) = false := by rfl)
    (ht : eval (.Call (.Attribute o m apos) (e :: es) [] pos) X.env = (do
      let ov ← eval o X.env
      standAt apos.atName
      let (f, first) ← holding [ov] (getMethod ov m pl)
      callWith pos f first (backTo pos (starEach (e :: es) X.env)) (backToKw pos (keywordEach [] X.env))) := by rfl) :
    PGd X (.Call (.Attribute o m apos) (e :: es) [] pos) (tMethGd C m sp ta t) := by
  refine ⟨fun pins s σ H EK I h => ?_⟩
  refine PySem.W.methodCall_KW (pl := pl) (thn (he.run pins s σ H _ I h) fun u s1 ⟨x, H1, I1, rx, a, dx, fs, ex, ea, l, q⟩ => ?_) ht
  subst ex
  obtain rfl : u = Value.ref a := rx
  refine getmeth_ok I1 ea c hm l ?_
  refine PySem.W.callWith_K (first := [.ref a]) (h₀ := X.base) I.ok.mod.kin hm.kp (thn (ha.run pos pins s1 σ H1 _ I1 q) fun us s2 ⟨vs, H2, I2, r, q2⟩ => ⟨I2.kIn, ?_⟩) hst hpl
  have hl := F.len _ _ _ q2
  have hb' : BindsTo s2 fd ⟨.ref a :: us, []⟩ (ps.zip (.ref a :: us)) := by
    have z := hb s2 (.ref a :: us) I2.kIn (by rw [List.append_nil, List.length_cons, ← r.length]; exact hl)
    rw [List.append_nil] at z
    exact z
  refine wpAny_call (codeAny_mono (F.run X.A X.stack s2 H2 ⟨.ref a :: us, []⟩ (.ref a :: us) (.ref a :: vs) EK hr I2.env0 hb' (.cons rfl r) q2) fun r s' hq => ?_)
  cases r with
  | error e => exact hq.elim
  | ok fl =>
    cases fl with
    | ret u =>
      obtain ⟨b, g, h1, os, bare, keep, size, ig, di⟩ := hq
      exact ⟨b, g, s2, H2, h1, I2, I2.call' (ch := []) os (Un.kept keep) (I2.hok.kept keep) bare (fun b z => absurd z (by simp)), ig, size, di⟩
    | next => exact hq.elim
    | brk => exact hq.elim
    | cont => exact hq.elim
end
end
end Gx
/-! o.m(k = v, ..) of an own method -/
namespace Lz
open PySem PySem.Spec PyProof.Rows L2
section
variable {X : Cx} {CX : CXT} {k : Nat} {C g : Addr} {fd : FuncData} {ps ks : List Str} {sp : Sp} {E : XK} {o : Expr} {m : Str} {apos pos : Pos} {kws : List Keyword} {ta : TE} {tk : TA} {kg : List Value → List Value → List Value} {gV : List V → List V → List V}
/-- self; one by name -/
def g11 {α : Type} : List α → List α → List α
  | [r], [a] => [r, a]
  | _, _ => []
theorem g11_rel {vs zs : List V} {us ws : List Value} (a : Vals vs us) (b : Vals zs ws) : Vals (g11 vs zs) (g11 us ws) := by
  cases a with
  | nil => exact .nil
  | cons p a => cases a with
    | cons _ _ => exact .nil
    | nil => cases b with
      | nil => exact .nil
      | cons q b => cases b with
        | cons _ _ => exact .nil
        | nil => exact .cons p (.cons q .nil)
theorem kb11 {K : PySem.W.Frag} (hp : ps.length = 2) (h : ∀ (s : Shared) (a b : Value), BindsTo s fd ⟨[a], ks.zip [b]⟩ (ps.zip [a, b])) : KBinds K fd ps ks g11 g11 :=
  ⟨fun s us ws _ hl => (match us, ws, hl with
    | [a], [b], _ => h s a b
    | [], _, hl => by rw [hp] at hl; cases hl
    | _ :: _ :: _, _, hl => by rw [hp] at hl; cases hl
    | [_], [], hl => by rw [hp] at hl; cases hl
    | [_], _ :: _ :: _, hl => by rw [hp] at hl; cases hl), g11_rel⟩
end
end Lz
namespace Wb
open PySem L2 WbMin WbS Lz
/-! ### rounds that come again -/
/-! ### faces of answers -/
theorem shaped_of {d : PyData} (h : d.canLay0 = true) (n : PyData.depth d ≤ 64) : SeqAt.shaped d = true := by
  unfold SeqAt.shaped
  rw [h, decide_eq_true n] <;> rfl
end Wb
/-! an instance called; a loop called -/
namespace Lz
open PySem PySem.Spec PyProof.Rows L2 StX
section
variable {X : Cx} {CX : CXT} {k : Nat} {C g : Addr} {fd : FuncData} {ps ks : List Str} {sp : Sp} {E : XK} {fe e : Expr} {es : List Expr} {pos : Pos} {kws : List Keyword} {tf : TE} {t tk : TA} {kg : List Value → List Value → List Value} {gV : List V → List V → List V}
end
end Lz
namespace Wb
open PySem L2 WbMin WbS Lz
structure CalA where
  (fCa : Addr)
  (dCa : FuncData)
/-- the answers of the first rounds -/
def LD.answers (L : LD) (w : List Nat) (m : Nat) : List (List V) := (List.range m).map fun j => [V.int (L.cf w j), .bl (L.ys (it (L.lead w) (j + 1)))]
section
variable {P : Program} {w : World} {K : PySem.W.Frag} {mg : Str → Option Value} {base : Heap} {A : LA} {B : CalA} {e : Addr}
end
end Wb
/-! the total of the first rounds -/
namespace Wb
open PySem L2 WbMin WbS Lz
structure TotA where
  (fTo : Addr)
  (dTo : FuncData)
section
variable {P : Program} {w : World} {K : PySem.W.Frag} {mg : Str → Option Value} {base : Heap} {A : LA} {B : TotA} {e : Addr}
end
end Wb
/-! the pace -/
namespace Wb
open PySem L2 WbMin WbS Lz
structure PacA where
  (fPa : Addr)
  (dPa : FuncData)
/-- the pace: a sum over so many rounds, in lowest terms -/
structure Pace (L : LD) (w : List Nat) (a : Int) (b : Nat) : Prop where
  pos : 0 < b
  le : b ≤ L.n
  low : Nat.gcd a.natAbs b = 1
  eq : ∃ (k h : Nat) (c : Nat), Crs (L.lead w) L.n k h ∧ tot (L.cf w) k - tot (L.cf w) h = (c : Int) * a ∧ k - h = c * b
theorem Pace.sixty {L : LD} (O : L.Ok) {w : List Nat} (hw : ∀ c ∈ w, c ∈ L.sg) {a : Int} {b : Nat} (p : Pace L w a b) {m : Nat} (hm : 5 ≤ m) : a * 60 = (b : Int) * (tot (L.cf w) (m + 60) - tot (L.cf w) m) := by
  obtain ⟨k, h, c, cr, e1, e2⟩ := p.eq
  have lt := cr.lt
  have le := cr.le
  have n6 : L.n ≤ 6 := O.sts.few
  obtain ⟨q, hq⟩ : ∃ q, q * (k - h) = 60 := by
    have : k - h = 1 ∨ k - h = 2 ∨ k - h = 3 ∨ k - h = 4 ∨ k - h = 5 ∨ k - h = 6 := by omega
    rcases this with e | e | e | e | e | e <;> rw [e]
    · exact ⟨60, rfl⟩
    · exact ⟨30, rfl⟩
    · exact ⟨20, rfl⟩
    · exact ⟨15, rfl⟩
    · exact ⟨12, rfl⟩
    · exact ⟨10, rfl⟩
  have per : ∀ m, h ≤ m → L.cf w (m + (k - h)) = L.cf w m := fun m' hm' => by
    have q := cr.mul 1 m' hm'
    rw [Nat.one_mul] at q
    show L.cnt w (it (L.lead w) (m' + (k - h))) = L.cnt w (it (L.lead w) m')
    rw [q]
  have f1 := tot_far (F := L.cf w) (h := m) (p := k - h) (fun m' hm' => per m' (by omega)) 0 q
  have f2 := tot_again per (m - h)
  rw [show h + (m - h) = m by omega, show h + (k - h) = k by omega, e1] at f2
  rw [Nat.add_zero, hq, f2] at f1
  rw [f1]
  have e3 : (60 : Int) = (q : Int) * ((c : Int) * (b : Int)) := by
    rw [← Int.natCast_mul, ← e2, ← Int.natCast_mul, hq] <;> rfl
  rw [e3]
  have e4 : (q : Int) * ((c : Int) * a) + tot (L.cf w) m - tot (L.cf w) m = (q : Int) * ((c : Int) * a) := by omega
  rw [e4]
  ac_rfl
theorem Pace.same {L : LD} (O : L.Ok) {w : List Nat} (hw : ∀ c ∈ w, c ∈ L.sg) {a a' : Int} {b b' : Nat} (p : Pace L w a b) (p' : Pace L w a' b') : a = a' ∧ b = b' := by
  have h := p.sixty O hw (m := 5) (Nat.le_refl _)
  have h' := p'.sixty O hw (m := 5) (Nat.le_refl _)
  generalize tot (L.cf w) (5 + 60) - tot (L.cf w) 5 = X at h h'
  have e : a * (b' : Int) = a' * (b : Int) := by
    have e1 : (a * 60) * (b' : Int) = (a' * 60) * (b : Int) := by
      rw [h, h']
      ac_rfl
    have e2 : 60 * (a * (b' : Int)) = 60 * (a' * (b : Int)) := by
      rw [← Int.mul_assoc, ← Int.mul_assoc, Int.mul_comm 60 a, Int.mul_comm 60 a']
      exact e1
    omega
  have en : a.natAbs * b' = a'.natAbs * b := by
    have := congrArg Int.natAbs e
    rwa [Int.natAbs_mul, Int.natAbs_mul, Int.natAbs_natCast, Int.natAbs_natCast] at this
  have d1 : b ∣ b' := (Nat.Coprime.dvd_of_dvd_mul_left (show Nat.Coprime b a.natAbs from Nat.Coprime.symm p.low) ⟨a'.natAbs, by rw [en, Nat.mul_comm]⟩)
  have d2 : b' ∣ b := (Nat.Coprime.dvd_of_dvd_mul_left (show Nat.Coprime b' a'.natAbs from Nat.Coprime.symm p'.low) ⟨a.natAbs, by rw [← en, Nat.mul_comm]⟩)
  have eb := Nat.dvd_antisymm d1 d2
  subst eb
  exact ⟨Int.eq_of_mul_eq_mul_right (by have := p.pos; omega) e, rfl⟩
section
variable {P : Program} {w : World} {K : PySem.W.Frag} {mg : Str → Option Value} {base : Heap} {A : LA} {B : PacA} {e : Addr}
end
end Wb
/-! answers -/
namespace Wb
open PySem L2 WbMin WbS Lz
section
variable {P : Program} {w : World} {K : PySem.W.Frag} {mg : Str → Option Value} {base : Heap} {A : LA} {e : Addr} {f fI : Addr} {fd dI : FuncData}
end
end Wb
/-! states -/
namespace Wb
open PySem L2 WbMin WbS Lz
section
variable {P : Program} {w : World} {K : PySem.W.Frag} {mg : Str → Option Value} {base : Heap} {A : LA} {e : Addr} {f fI : Addr} {fd dI : FuncData}
end
end Wb
/-! a loop asked with values of any sort -/
namespace Wb
open PySem L2 WbMin WbS Lz
/-- the errors' classes and their __init__ -/
structure EA where
  (cW fW cN fN cR fR : Addr)
  (dW dN dR : FuncData)
/-- an error that keeps x -/
def Fails (E : XK) (C : Addr) (x : V) (H : Hp) : Prop := ∀ (dx : Addr) (H' : Hp), Same H H' → H' dx = none → E (.ref C) (some dx) (upd H' dx (.xd [("given", x)]))
theorem Fails.same {E : XK} {C : Addr} {x : V} {H H' : Hp} (h : Fails E C x H) (s : Same H H') : Fails E C x H' := fun dx H2 s2 n => h dx H2 (s.trans s2) n
section
variable {P : Program} {w : World} {K : PySem.W.Frag} {mg : Str → Option Value} {base : Heap} {A : LA} {B : EA} {e : Addr}
end
end Wb
set_option linter.all false
/-! Kind.rings of a length that is none -/
namespace Wb
open PySem PySem.Spec PyProof.Rows L2 WbMin WbO WbS WbT Gx GenW Lz Le
/-- no integer from 1 to 9 -/
def badN : V → Bool
  | .int i => !(decide (1 ≤ i) && decide (i ≤ 9))
  | _ => true
structure GkE (K : PySem.W.Frag) (mg : Str → Option Value) (cN fN : Addr) (dN : FuncData) : Prop where
  E : ErrF K mg "InvalidNumber" "given" "InvalidNumber.__init__" sErrInvalidNumber cN fN dN
  st : PySem.W.subIn K (.ref cN) (.type "StopIteration") = some false
def spRingsX (cN : Addr) : List V → Hp → XK → Prop := fun vs H EK => ∃ (p r : Addr) (x : V) (d : PyData), vs = [.ref r, x] ∧ Any p H x d ∧ badN x = true ∧ Fails EK cN x H
section
variable {P : Program} {w : World} {K : PySem.W.Frag} {mg : Str → Option Value} {base : Heap} {AK : KA} {B : GkA} {cN fN : Addr} {dN : FuncData}
theorem ps_no {X : Cx} {st : Stmt} : PS X st (fun _ _ _ => False) := ⟨fun _ _ _ _ _ _ h => h.elim⟩
set_option maxHeartbeats 4000000 in
theorem ok_rings_bad (G : GkF K mg AK B) (EN : GkE K mg cN fN dN) (Z0 : Free mg) : GDie P w K mg base 5 B.fR B.dR ["self", "length"] (spRingsX cN) := by
  obtain ⟨oc, od, kV, doc, pm, an, cdv, ct, osl, e, lk, hcd⟩ := G.FR.ex
  rw [e] at lk ⊢
  refine gdie_of (c0 := cN) lk hcd scRgs owRgs EN.st (fun vs H EK h => by obtain ⟨p, r, x, d, rfl, _⟩ := h; rfl) fun A outer s H vs EK a C go oC hr h => ?_
  obtain ⟨p, r, x, d, rfl, hx, hb, hf⟩ := h
  have GF : FnOk P w K mg base CX0 2 B.intf B.dintf ["value", "least"] spIntFA := ok_intfA G.intf.F Z0 G.int
  have GE : FnOk P w K mg base CX0 1 fN dN ["self", "given"] (spErr cN "given") := ok_errN EN.E
  obtain ⟨t9, g9⟩ := G.w9
  have hrX : Room 3 (A.in1.deeper (rgEnv s.heap.objs.size B.fR cdv)) := Room.deeper (Room.in1 hr) _
  refine ⟨_, pss_cons (ps_if (PW.pt (pw_or (pt_not (pt_val (pe_call GF (hrX.mono (by decide)) (by rfl) G.intf.g G.intf.kp G.intf.b .nil pass0 (pa_cons (pe_var (i := 1) rfl (.inl rfl)) (pa_cons pe_int pa_nil)))))
      (pw_or1 (pt_cmpR op_gt (pe_var (i := 1) rfl (.inl rfl)) (pe_glob (v := .int 9) (by rfl) g9 ⟨t9, rfl⟩) (nomark _)))))
      (pss_one (ps_bad EN.E GE (hrX.mono (by decide)) rfl takes_dX (by rfl) (pe_var (i := 1) rfl (.inl rfl)))) pss_nil) (pss_one ps_no), ?_⟩
  have fin : ∃ v, (start NR [V.ref r, x])[1]? = some (some v) ∧ ∀ d, H d = none → ((Value.ref cN : Value) = .ref cN ∧ EK (.ref cN) (some d) (upd H d (.xd [("given", v)]))) := ⟨x, rfl, fun d hd => ⟨rfl, hf d H (Same.refl H) hd⟩⟩
  refine ⟨_, rfl, p, x, d, 1, rfl, hx, ?_⟩
  rcases hx.sort with ⟨l, rfl, _⟩ | ⟨i, rfl⟩ | n
  · exact ⟨_, rfl, fin⟩
  · have gi : goodI 1 (.int i) = decide (1 ≤ i) := rfl
    by_cases h1 : 1 ≤ i
    · have h9 : 9 < i := by
        have q : (!(decide (1 ≤ i) && decide (i ≤ 9))) = true := hb
        simp [h1] at q
        omega
      rw [gi, decide_eq_true h1]
      refine ⟨_, rfl, _, rfl, _, _, rfl, rfl, _, rfl, ?_⟩
      rw [decide_eq_true h9]
      exact fin
    · rw [gi, decide_eq_false h1]
      exact ⟨_, rfl, fin⟩
  · rw [n.goodI]
    exact ⟨_, rfl, fin⟩
end
end Wb
/-! what stays while lambdas are made: all but the pool and the tables of code objects -/
namespace Wb
open PySem L2 WbMin WbS Lz Le LamX
/-- the heap without its tables -/
def noT (H : Hp) : Hp := fun b => match H b with
  | some (.tbl _) => none
  | o => o
theorem noT_at {H : Hp} {b : Addr} {o : HO} (h : H b = some o) (n : ∀ ps, o ≠ .tbl ps) : noT H b = some o := by
  unfold noT
  rw [h]
  cases o with
  | tbl ps => exact (n ps rfl).elim
  | _ => rfl
theorem noT_inv {H : Hp} {b : Addr} {o : HO} (h : noT H b = some o) : H b = some o ∧ ∀ ps, o ≠ .tbl ps := by
  unfold noT at h
  cases e : H b with
  | none =>
    rw [e] at h
    cases h
  | some u =>
    rw [e] at h
    cases u with
    | tbl ps => cases h
    | _ =>
      cases h
      exact ⟨rfl, fun ps z => by cases z⟩
def Bt (p : Addr) (H H' : Hp) : Prop := But p (noT H) H'
theorem Bt.of {p : Addr} {H H' : Hp} (b : But p H H') : Bt p H H' := fun c o n h => b c o n (noT_inv h).1
theorem Bt.same {p : Addr} {H H' : Hp} (s : Same H H') : Bt p H H' := fun c o _ h => s c o (noT_inv h).1
theorem Bt.ext {p : Addr} {H H' : Hp} (e : ExtN H H') : Bt p H H' := fun c o _ h => e c o (noT_inv h).1 (noT_inv h).2
theorem Bt.trans {p : Addr} {H H1 H2 : Hp} (a : Bt p H H1) (b : Bt p H1 H2) : Bt p H H2 := fun c o n h => b c o n (noT_at (a c o n h) (noT_inv h).2)
theorem PoolAt.noT {H : Hp} {p : Addr} (h : PoolAt H p) : PoolAt (noT H) p := by
  obtain ⟨a, b, c, e, r⟩ := h
  exact ⟨a, b, c, noT_at e (fun _ z => by cases z), r⟩
theorem PoolAt.ext {H H' : Hp} {p : Addr} (h : PoolAt H p) (s : ExtN H H') : PoolAt H' p := by
  obtain ⟨a, b, c, e, r⟩ := h
  exact ⟨a, b, c, s _ _ e (fun _ z => by cases z), r⟩
theorem Tups.noT {H : Hp} : ∀ {as : List Addr} {xs : List (List V)}, Tups H as xs → Tups (noT H) as xs
  | [], [], _ => trivial
  | _ :: _, _ :: _, h => ⟨noT_at h.1 (fun _ z => by cases z), Tups.noT h.2⟩
  | [], _ :: _, h => h.elim
  | _ :: _, [], h => h.elim
theorem Prt.noT {L : LD} {t rr u y : Addr} {as bs : List Addr} {H : Hp} (h : Prt L t rr u y as bs H) : Prt L t rr u y as bs (noT H) :=
  ⟨noT_at h.ht (fun _ z => by cases z), noT_at h.hr (fun _ z => by cases z), h.hT.noT, noT_at h.hu (fun _ z => by cases z), h.hU.noT, noT_at h.hy (fun _ z => by cases z)⟩
theorem LoopAt.noT {C T : Addr} {H : Hp} {r : Addr} {L : LD} : LoopAt C T H r L → LoopAt C T (noT H) r L := by
  rintro ⟨dx, t, rr, u, y, tb, as, bs, h0, pr, dx', dN, dX, dA, tX, tA, tY, xs, as', g0, hX, hx, hA, ha, hTX, hTA, hTY⟩
  have nt : ∀ {a : Addr} {o : HO}, H a = some o → (∀ ps, o ≠ .tbl ps) → Wb.noT H a = some o := noT_at
  exact ⟨dx, t, rr, u, y, tb, as, bs, nt h0 (fun _ z => by cases z), pr.noT, dx', dN, dX, dA, tX, tA, tY, xs, as', nt g0 (fun _ z => by cases z), nt hX (fun _ z => by cases z), hx.noT, nt hA (fun _ z => by cases z), ha.noT, nt hTX (fun _ z => by cases z), nt hTA (fun _ z => by cases z), nt hTY (fun _ z => by cases z)⟩
theorem MdAt.noT {H : Hp} {q : Addr} {L : LD} : MdAt H q L → MdAt (noT H) q L := fun ⟨A, Sd, Ed, O, kvs, ws, h0, hA, hS, hE, e2, e1, hO⟩ =>
  have tk : Tk H (Wb.noT H) := fun _ _ h => noT_at h (fun _ z => by cases z)
  ⟨A, Sd, Ed, O, kvs, ws, noT_at h0 (fun _ z => by cases z), noT_at hA (fun _ z => by cases z), noT_at hS (fun _ z => by cases z), noT_at hE (fun _ z => by cases z), fun i c hi hc => (e2 i c hi hc).tk tk, fun i hi => (e1 i hi).tk tk, by
    first
    | exact noT_at hO (fun _ z => by cases z)
    | exact (let ⟨os, h, g⟩ := hO ; ⟨os, noT_at h (fun _ z => by cases z), g⟩)⟩
theorem noT_cut {H : Hp} {a : Addr} : Same (noT (cut H a)) (cut (noT H) a) := fun b o h => by
  obtain ⟨h1, h2⟩ := noT_inv h
  unfold cut at h1 ⊢
  by_cases e : b = a
  · rw [if_pos e] at h1
    cases h1
  · rw [if_neg e] at h1 ⊢
    exact noT_at h1 h2
theorem Thing.noT : ∀ {n : Nat} {H : Hp} {v : V} {d : PyData}, Thing H n v d → Thing (noT H) n v d
  | 0, _, _, _, h => h.elim
  | _ + 1, _, _, _, .inl h => .inl h
  | _ + 1, _, _, _, .inr (.inl ⟨a, xs, ds, e, h, l, r, q⟩) => .inr (.inl ⟨a, xs, ds, e, noT_at h (fun _ z => by cases z), l, r.imp fun _ _ z => Thing.noT z, q⟩)
  | _ + 1, _, _, _, .inr (.inr (.inl ⟨a, xs, ds, e, h, l, r, q⟩)) => .inr (.inr (.inl ⟨a, xs, ds, e, noT_at h (fun _ z => by cases z), l, r.imp fun _ _ z => Thing.noT z, q⟩))
  | _ + 1, _, _, _, .inr (.inr (.inr ⟨a, ks, xs, ds, e, h, nd, l1, l, r, q⟩)) => .inr (.inr (.inr ⟨a, ks, xs, ds, e, noT_at h (fun _ z => by cases z), nd, l1, l, r.imp fun _ _ z => (Thing.noT z).same noT_cut, q⟩))
theorem Any.noT {p : Addr} {H : Hp} {x : V} {d : PyData} (h : Any p H x d) : Any p (noT H) x d := ⟨(Thing.noT h.1).same noT_cut, h.2⟩
theorem Any.bt {p : Addr} {H H' : Hp} {x : V} {d : PyData} (h : Any p H x d) (b : Bt p H H') : Any p H' x d := h.noT.but b
theorem LoopAt.bt {C T : Addr} {H H' : Hp} {p r : Addr} {L : LD} (h : LoopAt C T H r L) (hp : PoolAt H p) (b : Bt p H H') : LoopAt C T H' r L := h.noT.but hp.noT b
theorem MdAt.bt {H H' : Hp} {p q : Addr} {L : LD} (h : MdAt H q L) (hp : PoolAt H p) (b : Bt p H H') : MdAt H' q L := h.noT.but hp.noT b
/-- the tables stay while the pool changes -/
theorem Tabs.but {T : List (Addr × Str)} {H H' : Hp} {p : Addr} (t : Tabs T H) (hp : PoolAt H p) (b : But p H H') : Tabs T H' := fun y hy => by
  obtain ⟨ps, h1, h2, h3⟩ := t y hy
  refine ⟨ps, b _ _ (pool_other hp h1 fun _ _ _ q => by cases q) h1, h2, fun pos cv hc => ?_⟩
  obtain ⟨c, e1, e2⟩ := h3 pos cv hc
  exact ⟨c, e1, b _ _ (pool_other hp e2 fun _ _ _ q => by cases q) e2⟩
theorem heard_due {K : PySem.W.Frag} {H : Hp} {Q : VK} {a b : Addr} {d : PyData} (h1 : Dp K H (.ref a) d) (h2 : Dp K H (.ref b) d) (ok : d.canLay0 = true ∧ PyData.depth d ≤ 64) (k : Q (.bl false) H) : rNeD K (.ref a) (.ref b) H Q := by
  refine ⟨d, d, h1, h2, shaped_of ok.1 ok.2, shaped_of ok.1 ok.2, ?_⟩
  rw [SeqAt.eqv_refl _ ok.1]
  exact k
mutual
theorem Dp.noT {K : PySem.W.Frag} {H : Hp} : ∀ {v : V} {d : PyData}, Dp K H v d → Dp K (noT H) v d
  | _, _, .non => .non
  | _, _, .bl b => .bl b
  | _, _, .int i => .int i
  | _, _, .str x => .str x
  | _, _, .lst h r => .lst (by
      rcases h with (q | ⟨o, q⟩) | q
      · exact .inl (.inl (noT_at q (fun _ z => by cases z)))
      · exact .inl (.inr ⟨o, noT_at q (fun _ z => by cases z)⟩)
      · exact .inr q) (DpAll.noT r)
  | _, _, .tup h r => .tup (by
      rcases h with (q | ⟨o, q⟩) | q
      · exact .inl (.inl (noT_at q (fun _ z => by cases z)))
      · exact .inl (.inr ⟨o, noT_at q (fun _ z => by cases z)⟩)
      · exact .inr q) (DpAll.noT r)
theorem DpAll.noT {K : PySem.W.Frag} {H : Hp} : ∀ {vs : List V} {ds : List PyData}, DpAll K H vs ds → DpAll K (noT H) vs ds
  | _, _, .nil => .nil
  | _, _, .cons h r => .cons (Dp.noT h) (DpAll.noT r)
end
/-- all but tables stay -/
def Xt (H H' : Hp) : Prop := Same (noT H) H'
theorem Xt.of {H H' : Hp} (s : Same H H') : Xt H H' := fun b o h => s b o (noT_inv h).1
theorem Xt.ext {H H' : Hp} (e : ExtN H H') : Xt H H' := fun b o h => e b o (noT_inv h).1 (noT_inv h).2
theorem Xt.trans {H H1 H2 : Hp} (a : Xt H H1) (b : Xt H1 H2) : Xt H H2 := fun c o h => b c o (noT_at (a c o h) (noT_inv h).2)
theorem Xt.bt {p : Addr} {H H' : Hp} (x : Xt H H') : Bt p H H' := fun c o _ h => x c o h
theorem Any.xt {p : Addr} {H H' : Hp} {x : V} {d : PyData} (h : Any p H x d) (s : Xt H H') : Any p H' x d := h.noT.same s
theorem LoopAt.xt {C T : Addr} {H H' : Hp} {r : Addr} {L : LD} (h : LoopAt C T H r L) (s : Xt H H') : LoopAt C T H' r L := h.noT.same s
theorem PoolAt.xt {H H' : Hp} {p : Addr} (h : PoolAt H p) (s : Xt H H') : PoolAt H' p := h.noT.same s
theorem Dp.xt {K : PySem.W.Frag} {H H' : Hp} {v : V} {d : PyData} (h : Dp K H v d) (s : Xt H H') : Dp K H' v d := Dp.stay s (Dp.noT h)
end Wb
set_option linter.all false
/-! a length refused, as the law hears it -/
namespace Wb
open PySem PySem.Spec PyProof.Rows L2 L2H WbMin WbO WbS WbT Gx GenW Lz Le
abbrev sGRf : Stmt := top 51
abbrev NGRf : List Str := ["_law_kind", "_law_size", "_law_told", "_law_kept", "e", "_law_ring"]
theorem scGRf : FnScope NGRf ["_law_kind", "_law_size"] (defScope sGRf) := ⟨rfl, rfl, rfl, by decide +kernel, rfl, by decide +kernel, by decide +kernel⟩
theorem hot9 {X : Cx} {r : Addr} {o : Obj} {cl : Value} {dd : Option Addr} {pn : List (Addr × Obj)} (z : L2N.Zn cl dd o) (hf : ∃ fs, o.data = .fields fs) : HotC (X.suite r ((r, o) :: pn)) := by
  obtain ⟨vs, hd⟩ := hf
  exact ⟨(r, o), ⟨rfl, vs, hd, z.2.2 vs hd⟩, List.mem_cons_self⟩
def spGRf (CK : Addr) : Sp := fun vs H Q _ => ∃ (p r dx : Addr) (fs : List (Str × V)) (x : V) (d : PyData), vs = [.ref r, x] ∧ H r = some (.ins CK dx fs) ∧ fs.lookup ("rings" : Str) = none ∧ Any p H x d ∧ badN x = true ∧ ∀ H', Same H H' → Q (.bl true) H'
def tSuiteG (K : PySem.W.Frag) (C : Addr) : Suite := fun r cl dd => tSeq (tAsg (tLst (tCons (tC (.str "number")) (tCons (tCallS (spFace K 5) (fun _ => E0) (tCons (tXf r cl dd C "given" (tVar 4)) tNil)) tNil))) (gName 3)) tNext
section
variable {P : Program} {w : World} {K : PySem.W.Frag} {mg : Str → Option Value} {base : Heap} {f : Addr} {fd : FuncData} {AK : KA} {B : GkA} {cN fN fF : Addr} {dN dF : FuncData}
set_option maxHeartbeats 4000000 in
theorem ok_grefused (D : KindF K mg AK) (G : GkF K mg AK B) (EN : GkE K mg cN fN dN) (nn : PySem.W.exmOne K (.ref cN) (.ref cN) = some true) (DF : Def K mg "_law_face" sFace ["_law_thing"] fF dF) (Z0 : Free mg) (ZT : FreeT mg) (F : Fun K "_law_refused" "_law_refused" sGRf f fd) :
    FnOk P w K mg base CX0 8 f fd ["_law_kind", "_law_size"] (spGRf AK.C) := by
  have GX : GDie P w K mg base 5 B.fR B.dR ["self", "length"] (spRingsX cN) := ok_rings_bad G EN Z0
  have GH : FnH P w K mg base CX0 6 fF dF ["_law_thing"] (spFace K 5) := ok_faceH DF ZT 5
  have GF : FnOk P w K mg base CX0 6 fF dF ["_law_thing"] (spFace K 5) := ok_face DF ZT 5
  refine F.ok scGRf (fun vs H Q E h => by obtain ⟨p, r, dx, fs, x, d, rfl, _⟩ := h; rfl) (fun cdv A outer s H vs Q E hr h => ?_)
  obtain ⟨p, r, dx, fs, x, d, rfl, hr0, hl, hx, hb, k⟩ := h
  have hr6 : Room 6 _ := hr.mono (by decide)
  have hrH := roomH_of hr6
  refine ⟨_, pss_cons (ps_tryCls (l := [(.ref cN, 4, tSuiteG K cN)]) rfl rfl scGRf.nd
        (fun W pn xe tk own => pss_cons (ps_setLcX (j := 2) rfl rfl tk (sw_true rfl rfl rfl (by decide +kernel)) (pgd_meth (pv 0) D.T.cl G.mR GX (hr.mono (by decide)) G.bR (pa_cons (pv 1) pa_nil)) (blkOk_by (N := NGRf) (sc := defScope sGRf) (own := [("_law_ring", 5)]) (by decide +kernel))) (pss_one ps_no))
        (.as_ (n := "e") (i := 4) rfl rfl ⟨rfl, by decide, .inl EN.E.g⟩ (fun r o cl dd pn z hf => pss_one (ps_set (i := 3) scGRf.nd rfl (.inl rfl) (pe_lst (pa_cons pe_str (pa_cons (pe_callH (E := fun _ => E0) GH ⟨hrH.dp, hrH.un⟩ (hot9 z hf) rfl DF.g DF.kp DF.b passH0 (pa_cons (pe_xf EN.E.xf EN.E.no z.zc hf (pv 4)) pa_nil)) pa_nil)))))
        (.rest _)))
    (pss_one (ps_ret (pe_cmpR (op_eqD hr.units) (pv 3) (pe_lst (pa_cons pe_str (pa_cons (pe_call GF (hr.mono (by decide)) rfl DF.g DF.kp DF.b .nil pass0 (pa_cons (pv 1) pa_nil)) pa_nil))) (nomark _)))), ?_⟩
  refine ⟨_, rfl, r, dx, fs, rfl, hr0, hl, _, rfl, p, r, x, d, rfl, hx, hb, fun de H1 s1 n1 => ?_⟩
  refine ⟨true, nn, fun _ q hq => ?_, fun z => by cases z⟩
  have s2 : Same H (upd H1 de (.xd [("given", x)])) := Same.new2 s1 (free_of s1 n1)
  have th := hx.thing
  refine ⟨_, rfl, rfl, rfl, de, _, x, rfl, upd_same, List.lookup_cons_self, x, d, rfl, th.same s2, fun b G1 hb1 s3 d3 => ⟨(by show 2 ≤ sizeLine; decide), fun a ha => ⟨_, rfl, ?_⟩⟩⟩
  have s4 := s2.trans s3
  have s5 : Same H (upd G1 a (.lst [.str "number", .ref b])) := Same.new2 s4 (free_of s4 ha)
  have D1 : Dp K (upd G1 a (.lst [.str "number", .ref b])) (.ref a) (.list [.str "number", d]) := .lst (SqL.of upd_same) (.cons (.str _) (.cons (Dp.stay (fun c u hc => by rw [upd_ne (ne_of_none (New.sub c u hc) ha)]; exact New.sub c u hc) d3) .nil))
  refine ⟨_, rfl, x, d, rfl, th.same s5, fun b2 G2 hb2 s6 d6 => ⟨(by show 2 ≤ sizeLine; decide), fun a2 ha2 => ?_⟩⟩
  have s7 : Same G2 (upd G2 a2 (.lst [.str "number", .ref b2])) := Same.put (Same.refl G2) ha2
  have D2 : Dp K (upd G2 a2 (.lst [.str "number", .ref b2])) (.ref a2) (.list [.str "number", d]) := .lst (SqL.of upd_same) (.cons (.str _) (.cons (Dp.stay (fun c u hc => s7 _ _ (New.sub c u hc)) d6) .nil))
  have hd1 := hx.2.2.2.1
  have hd2 := hx.2.2.2.2
  have cl : PyData.canLay0 (.list [.str "number", d]) = true := by
    show (PyData.strOk ("number" : Str) && (d.canLay0 && true)) = true
    rw [hd1]
    decide +kernel
  have dp : PyData.depth (.list [.str "number", d]) ≤ 64 := by
    show max 0 (max (PyData.depth d) 0) + 1 ≤ 64
    omega
  refine ⟨_, _, Dp.stay (s6.trans s7) D1, D2, shaped_of cl dp, shaped_of cl dp, ?_⟩
  rw [SeqAt.eqv_refl _ cl]
  exact k _ (s5.trans (s6.trans s7))
end
end Wb
set_option linter.all false
/-! bool(o) by an own __bool__; Kind.__bool__ -/
namespace WbO
open PySem PySem.Spec PyProof.Rows L2
section
variable {X : Cx} {CX : CXT} {k : Nat} {C g : Addr} {fd : FuncData} {ps : List Str} {sp : Sp} {E : XK}
def rBoolB (C : Addr) (sp : Sp) (E : XK) : List V → Hp → VK → Prop := fun xs H Q => ∃ (a dx : Addr) (fs : List (Str × V)), xs = [.ref a] ∧ H a = some (.ins C dx fs) ∧ sp [.ref a] H (fun v H' => ∃ b : Bool, v = .bl b ∧ Q (.bl b) H') E
theorem call_boolB (M : Meth X.K C "__bool__" g) (F : FnOk X.prog X.w X.K X.mg X.base CX k g fd ps sp) (hr : Room (k + 2) X.A) (hb : Binds X.K fd ps []) (hx : Passes CX X.nox E) : CallR X (.type "bool") (rBoolB C sp E) := by
  intro pins s σ H xs us Q I r h
  obtain ⟨a, dx, fs, rfl, ha, q⟩ := h
  rw [Vals.ref1 r]
  obtain ⟨mA, O, _⟩ := ins_get I.hok ha
  obtain ⟨od, J, _⟩ := O.look
  obtain ⟨m, hF⟩ := I.fr
  refine call_bool (PySem.W.truthy_K hF I.ok.mod.kin J M.at_ M.fn (wpAny_mono (run_at (vs := [.ref a]) (us := [.ref a]) F hr.in1.in1 I.env0.in1.in1 hb hx I (.cons rfl .nil) q) (fun v s' z => ?_) fun _ _ e => e))
  obtain ⟨y, H', I', ry, b, rfl, qq⟩ := z
  obtain rfl : v = .bool b := ry
  exact ⟨.bl b, H', I', rfl, qq⟩
end
end WbO
namespace Wb
open PySem L2 WbMin WbO WbS
abbrev sKBool : Stmt := inClass (top 35) 8
theorem kf_ringed (z : Str) (t : Addr) (b : Bool) : (kf z t b).lookup ("_ringed" : Str) = some (.bl b) := by
  unfold kf
  rw [lookup_putF, if_pos rfl]
theorem scKBo : FnScope ["self"] ["self"] (defScope sKBool) := ⟨rfl, rfl, rfl, by decide +kernel, rfl, by decide +kernel, by decide +kernel⟩
def spKBool (C : Addr) : Sp := fun vs H Q _ => ∃ (r dx t : Addr) (z : Str) (b : Bool), vs = [.ref r] ∧ H r = some (.ins C dx (kf z t b)) ∧ Q (.bl b) H
section
variable {P : Program} {w : World} {K : PySem.W.Frag} {mg : Str → Option Value} {base : Heap} {f : Addr} {fd : FuncData}
theorem ok_kbool {A : KA} (D : KindF K mg A) (mb : mg "bool" = none) (F : Fun K "__bool__" "Kind.__bool__" sKBool f fd) : FnOk P w K mg base CX0 1 f fd ["self"] (spKBool A.C) := by
  refine F.ok scKBo (fun vs H Q E h => by obtain ⟨r, dx, t, z, b, rfl, _⟩ := h; rfl) (fun cdv A outer s H vs Q E hr h => ?_)
  obtain ⟨r, dx, t, z, b, rfl, h, k⟩ := h
  refine ⟨_, pss_one (ps_ret (pe_callTy call_bool1 (by rfl) mb (by decide +kernel) (pa_cons (pe_fld (pv 0) rfl) pa_nil))), ?_⟩
  exact ⟨_, rfl, r, _, dx, _, _, rfl, h, D.T.cl, D.T.nR, kf_ringed _ _ _, .inr ⟨b, rfl, k⟩⟩
end
end Wb
set_option linter.all false
/-! the words that are their least turnings: by the places of their letters -/
namespace Wb
open PySem L2 WbMin WbS
/-- u stands before v -/
def ltB : List Nat → List Nat → Bool
  | _, [] => false
  | [], _ :: _ => true
  | a :: as, b :: bs => Nat.blt a b || (Nat.beq a b && ltB as bs)
theorem ltB_iff : ∀ u v : List Nat, ltB u v = true ↔ u < v
  | [], [] => by simp [ltB]
  | _ :: _, [] => by simp [ltB]
  | [], _ :: _ => by simp [ltB]
  | a :: as, b :: bs => by
    rw [List.cons_lt_cons_iff]
    show (Nat.blt a b || (Nat.beq a b && ltB as bs)) = true ↔ _
    rw [Bool.or_eq_true, Bool.and_eq_true, ltB_iff as bs, Nat.blt_eq, Nat.beq_eq]
/-- no turning of the word stands before it -/
def leastB (u : List Nat) : Bool := (List.range u.length).all fun i => !ltB (rot u i) u
theorem leastB_iff {u : List Nat} : leastB u = true ↔ ∀ i, i < u.length → ¬ rot u i < u := by
  unfold leastB
  rw [List.all_eq_true]
  constructor
  · intro h i hi q
    have := h i (List.mem_range.mpr hi)
    rw [(ltB_iff _ _).mpr q] at this
    cases this
  · intro h i hi
    have := h i (List.mem_range.mp hi)
    cases e : ltB (rot u i) u with
    | false => rfl
    | true => exact absurd ((ltB_iff _ _).mp e) this
theorem text_self {l : List Nat} (h0 : 0 < l.length) : S l = textS l ↔ leastB l = true := by
  rw [leastB_iff]
  constructor
  · intro e i hi
    have q := least_le (turns_mem.mpr ⟨i, hi, rfl⟩ : S (rot l i) ∈ turnsS l)
    have e2 : leastOf (turnsS l) = S l := e.symm
    rw [e2, S_cps, S_cps] at q
    exact q
  · intro h
    obtain ⟨i, hi, e⟩ := text_is h0
    have q := least_le (turns_mem.mpr ⟨0, h0, by rw [rot_zero]⟩ : S l ∈ turnsS l)
    have e2 : leastOf (turnsS l) = S (rot l i) := e
    rw [e2, S_cps, S_cps] at q
    rw [e]
    exact congrArg S (List.le_antisymm (h i hi) q)
/-! ### letters in order -/
theorem asc_of {sg sg0 : List Nat} (h : sg.Perm sg0) (nd : sg0.Nodup) (s : PyProof.Rows.sortedS (sg.map sOne) = true) : sg.Pairwise (· < ·) := by
  have nd' := h.nodup_iff.mpr nd
  have p1 : sg.Pairwise (· ≤ ·) := by
    have q := sorted_pw s
    rw [List.pairwise_map] at q
    exact q.imp fun {a b} r => leS_one.mp r
  have q := List.Pairwise.and p1 nd'
  exact q.imp fun {a b} r => Nat.lt_of_le_of_ne r.1 r.2
theorem asc_lt {sg : List Nat} (h : sg.Pairwise (· < ·)) {i j : Nat} (hi : i < sg.length) (hj : j < sg.length) : sg.getD i 0 < sg.getD j 0 ↔ i < j := by
  have up : ∀ a b, (ha : a < sg.length) → (hb : b < sg.length) → a < b → sg.getD a 0 < sg.getD b 0 := fun a b ha hb q => by
    have e := List.pairwise_iff_getElem.mp h a b ha hb q
    rw [List.getD_eq_getElem?_getD, List.getD_eq_getElem?_getD, List.getElem?_eq_getElem ha, List.getElem?_eq_getElem hb]
    exact e
  constructor
  · intro q
    rcases Nat.lt_trichotomy i j with r | r | r
    · exact r
    · subst r
      exact absurd q (Nat.lt_irrefl _)
    · exact absurd (up j i hj hi r) (Nat.lt_asymm q)
  · exact up i j hi hj
theorem asc_inj {sg : List Nat} (h : sg.Pairwise (· < ·)) {i j : Nat} (hi : i < sg.length) (hj : j < sg.length) (e : sg.getD i 0 = sg.getD j 0) : i = j := by
  rcases Nat.lt_trichotomy i j with r | r | r
  · have := (asc_lt h hi hj).mpr r
    omega
  · exact r
  · have := (asc_lt h hj hi).mpr r
    omega
theorem fm_lt {sg : List Nat} (h : sg.Pairwise (· < ·)) : ∀ {u v : List Nat}, (∀ i ∈ u, i < sg.length) → (∀ i ∈ v, i < sg.length) → (fm sg u < fm sg v ↔ u < v)
  | [], [], _, _ => Iff.rfl
  | _ :: _, [], _, _ => by simp [fm]
  | [], _ :: _, _, _ => by simp [fm]
  | a :: as, b :: bs, hu, hv => by
    have ha := hu a List.mem_cons_self
    have hb := hv b List.mem_cons_self
    have ih := fm_lt h (u := as) (v := bs) (fun i q => hu i (List.mem_cons_of_mem _ q)) (fun i q => hv i (List.mem_cons_of_mem _ q))
    show sg.getD a 0 :: fm sg as < sg.getD b 0 :: fm sg bs ↔ _
    rw [List.cons_lt_cons_iff, List.cons_lt_cons_iff, asc_lt h ha hb, ih]
    constructor
    · rintro (q | ⟨q, r⟩)
      · exact .inl q
      · exact .inr ⟨asc_inj h ha hb q, r⟩
    · rintro (q | ⟨q, r⟩)
      · exact .inl q
      · exact .inr ⟨by rw [q], r⟩
theorem fm_rot (sg u : List Nat) (i : Nat) : rot (fm sg u) i = fm sg (rot u i) := by
  unfold rot fm
  rw [List.map_append, List.map_drop, List.map_take]
theorem rot_mem {u : List Nat} {i c : Nat} (h : c ∈ rot u i) : c ∈ u := by
  rcases List.mem_append.mp h with h | h
  · exact List.mem_of_mem_drop h
  · exact List.mem_of_mem_take h
theorem fm_least {sg : List Nat} (h : sg.Pairwise (· < ·)) {u : List Nat} (hu : ∀ i ∈ u, i < sg.length) : leastB (fm sg u) = leastB u := by
  rw [Bool.eq_iff_iff, leastB_iff, leastB_iff, fm_len]
  constructor
  · intro q i hi r
    refine q i hi ?_
    rw [fm_rot]
    exact (fm_lt h (fun c hc => hu c (rot_mem hc)) hu).mpr r
  · intro q i hi r
    refine q i hi ?_
    rw [fm_rot] at r
    exact (fm_lt h (fun c hc => hu c (rot_mem hc)) hu).mp r
theorem words_fm (sg : List Nat) : ∀ n, wordsL sg n = (wordsL (List.range sg.length) n).map (fm sg)
  | 0 => rfl
  | n + 1 => by
    have e : sg = (List.range sg.length).map fun i => sg.getD i 0 := by
      refine List.ext_getElem? fun i => ?_
      rw [List.getElem?_map]
      by_cases h : i < sg.length
      · rw [List.getElem?_range h, List.getElem?_eq_getElem h]
        show _ = some (sg.getD i 0)
        rw [List.getD_eq_getElem?_getD, List.getElem?_eq_getElem h] <;> rfl
      · rw [List.getElem?_eq_none (by omega), List.getElem?_eq_none (by rw [List.length_range]; omega)] <;> rfl
    show ((wordsL sg n).flatMap fun u => sg.map fun c => u ++ [c]) = ((wordsL (List.range sg.length) n).flatMap fun u => (List.range sg.length).map fun c => u ++ [c]).map (fm sg)
    rw [words_fm sg n, List.flatMap_map, List.map_flatMap]
    congr 1
    funext u
    rw [List.map_map]
    refine (congrArg (List.map fun c => fm sg u ++ [c]) e).trans ?_
    rw [List.map_map]
    refine List.map_congr_left fun i _ => ?_
    show fm sg u ++ [_] = fm sg (u ++ [i])
    unfold fm
    rw [List.map_append] <;> rfl
theorem words_range {m n : Nat} : ∀ u ∈ wordsL (List.range m) n, u.length = n ∧ ∀ i ∈ u, i < m := fun u hu => by
  obtain ⟨h1, h2⟩ := wordsL_of _ n u hu
  exact ⟨h1, fun i hi => List.mem_range.mp (h2 i hi)⟩
/-! ### the words of the sizes asked for, by the kernel -/
def wayB (m n : Nat) : Bool := decide (outs 400 m n [0] = some ((wordsL (List.range m) n).filter leastB))
def sizesOf (m : Nat) : List Nat := match m with
  | 1 => [1, 2, 3, 4, 5, 6, 7, 8, 9]
  | 2 => [1, 2, 3, 4, 5, 6, 7, 8, 9]
  | 3 => [1, 2, 3, 4, 5]
  | 4 => [1, 2, 3, 4]
  | _ => []
set_option maxHeartbeats 0 in
theorem ways : ([1, 2, 3, 4].all fun m => (sizesOf m).all fun n => wayB m n && Nat.ble ((wordsL (List.range m) n).filter leastB).length 1000) = true := by decide +kernel
theorem way_of {sg : List Nat} {n : Nat} (h0 : 0 < sg.length) (h4 : sg.length ≤ 4) (hn : n ∈ sizesOf sg.length) (asc : sg.Pairwise (· < ·)) : ∃ ws, Way sg n ws ∧ ∀ ps qs : List Str, (∀ z, z ∈ ps ↔ z ∈ qs) → ringsL sg ps ws = dueL sg qs n := by
  have key := ways
  rw [List.all_eq_true] at key
  have k1 := key sg.length (by
    rcases Nat.lt_or_ge sg.length 2 with r | r
    · have : sg.length = 1 := by omega
      rw [this]; decide
    · rcases Nat.lt_or_ge sg.length 3 with r | r
      · have : sg.length = 2 := by omega
        rw [this]; decide
      · rcases Nat.lt_or_ge sg.length 4 with r | r
        · have : sg.length = 3 := by omega
          rw [this]; decide
        · have : sg.length = 4 := by omega
          rw [this]; decide)
  rw [List.all_eq_true] at k1
  have k2 := k1 n hn
  rw [Bool.and_eq_true] at k2
  obtain ⟨k2, k3⟩ := k2
  have k2 := of_decide_eq_true k2
  have k3 := Nat.le_of_ble_eq_true k3
  have n0 : 0 < n := by
    have : ∀ m ∈ [1, 2, 3, 4], ∀ n ∈ sizesOf m, 0 < n := by decide
    refine this sg.length ?_ n hn
    have : sg.length = 1 ∨ sg.length = 2 ∨ sg.length = 3 ∨ sg.length = 4 := by omega
    rcases this with r | r | r | r <;> rw [r] <;> decide
  refine ⟨_, ⟨k2, fun u hu => words_range u (List.mem_filter.mp hu).1, k3, fun u hu => ?_⟩, fun ps qs same => ?_⟩
  · obtain ⟨hu, hl⟩ := List.mem_filter.mp hu
    obtain ⟨h1, h2⟩ := words_range u hu
    refine ((text_self (by rw [fm_len]; omega)).mpr ?_).symm
    rw [fm_least asc h2]
    exact hl
  · unfold ringsL dueL
    rw [words_fm sg n, List.filter_map, List.filter_map, List.filter_filter]
    refine congrArg (List.map (fm sg)) (List.filter_congr fun u hu => ?_)
    obtain ⟨h1, h2⟩ := words_range u hu
    show (goesB (fm sg u) ps && leastB u) = (goesB (fm sg u) qs && decide (S (fm sg u) = textS (fm sg u)))
    rw [goes_same same]
    congr 1
    rw [Bool.eq_iff_iff, decide_eq_true_iff, text_self (by rw [fm_len]; omega), fm_least asc h2]
end Wb
set_option linter.all false
/-! a kind has a ring just when it has one of at most four letters -/
namespace Wb
open PySem L2 WbMin WbS
theorem nodup_le : ∀ {xs ys : List Nat}, xs.Nodup → (∀ x ∈ xs, x ∈ ys) → xs.length ≤ ys.length
  | [], _, _, _ => Nat.zero_le _
  | x :: xs, ys, nd, h => by
    obtain ⟨n1, n2⟩ := List.nodup_cons.mp nd
    have hx := h x List.mem_cons_self
    have q := nodup_le (ys := ys.erase x) n2 fun y hy => (List.mem_erase_of_ne (fun z => n1 (by rw [← z]; exact hy))).mpr (h y (List.mem_cons_of_mem _ hy))
    rw [List.length_erase_of_mem hx] at q
    have := List.length_pos_of_mem hx
    rw [List.length_cons]
    omega
theorem twice {x : Nat → Nat} {L : List Nat} (hL : L.length ≤ 4) (h : ∀ i, x i ∈ L) : ∃ i j, i < j ∧ j < 5 ∧ x i = x j := by
  refine Classical.byContradiction fun no => ?_
  have nd : ((List.range 5).map x).Nodup := by
    refine List.pairwise_iff_getElem.mpr fun i j hi hj q => ?_
    rw [List.length_map, List.length_range] at hi hj
    rw [List.getElem_map, List.getElem_map, List.getElem_range, List.getElem_range]
    exact fun e => no ⟨i, j, q, hj, e⟩
  have q := nodup_le nd fun y hy => by
    obtain ⟨i, _, rfl⟩ := List.mem_map.mp hy
    exact h i
  rw [List.length_map, List.length_range] at q
  omega
theorem left_sub (sg : List Nat) (ps : List Str) (k : Nat) : (leftN sg ps (k + 1)).Sublist (leftN sg ps k) := List.filter_sublist
theorem left_subs (sg : List Nat) (ps : List Str) (k : Nat) : ∀ t, (leftN sg ps (k + t)).Sublist (leftN sg ps k)
  | 0 => List.Sublist.refl _
  | t + 1 => (left_sub sg ps (k + t)).trans (left_subs sg ps k t)
theorem left_still (sg : List Nat) (ps : List Str) : ∀ j, (leftN sg ps j).length + j ≤ sg.length ∨ ∃ i, i < j ∧ leftN sg ps (i + 1) = leftN sg ps i
  | 0 => .inl (Nat.le_refl _)
  | j + 1 => by
    rcases left_still sg ps j with h | ⟨i, hi, e⟩
    · by_cases q : (leftN sg ps (j + 1)).length = (leftN sg ps j).length
      · exact .inr ⟨j, Nat.lt_succ_self j, (left_sub sg ps j).eq_of_length q⟩
      · have := (left_sub sg ps j).length_le
        refine .inl ?_
        omega
    · exact .inr ⟨i, Nat.lt_succ_of_lt hi, e⟩
theorem words_mem {srt : List Nat} : ∀ {k : Nat} {u : List Nat}, u.length = k → (∀ c ∈ u, c ∈ srt) → u ∈ wordsL srt k
  | 0, u, h, _ => by
    rw [List.length_eq_zero_iff.mp h]
    exact List.mem_singleton.mpr rfl
  | k + 1, u, h, m => by
    have hu : u ≠ [] := fun z => by rw [z] at h; cases h
    have e := List.dropLast_concat_getLast hu
    refine List.mem_flatMap.mpr ⟨u.dropLast, words_mem (by rw [List.length_dropLast]; omega) fun c hc => m c ((List.dropLast_sublist u).subset hc), List.mem_map.mpr ⟨u.getLast hu, m _ (List.getLast_mem hu), e⟩⟩
theorem has_goes {sg : List Nat} {ps : List Str} {u : List Nat} (h0 : 0 < u.length) (hu : ∀ c ∈ u, c ∈ sg) (h : goesB u ps = true) : hasB sg ps = true := by
  have all : ∀ j, ∀ c ∈ u, c ∈ leftN sg ps j := by
    intro j
    induction j with
    | zero => exact hu
    | succ j ih =>
      intro c hc
      obtain ⟨i, hi, e⟩ := List.getElem_of_mem hc
      refine List.mem_filter.mpr ⟨ih c hc, List.any_eq_true.mpr ?_⟩
      have hi' : (i + 1) % u.length < u.length := Nat.mod_lt _ h0
      have q := goes_iff.mp h _ hi'
      have e1 : ((i + 1) % u.length + u.length - 1) % u.length = i := by
        by_cases w : i + 1 < u.length
        · rw [Nat.mod_eq_of_lt w, show i + 1 + u.length - 1 = i + u.length by omega, Nat.add_mod_right, Nat.mod_eq_of_lt hi]
        · have : i + 1 = u.length := by omega
          rw [this, Nat.mod_self, show 0 + u.length - 1 = i by omega, Nat.mod_eq_of_lt hi]
      rw [e1] at q
      have e2 : u.getD i 0 = c := by
        rw [List.getD_eq_getElem?_getD, List.getElem?_eq_getElem hi, ← e] <;> rfl
      rw [e2] at q
      refine ⟨_, ih (u.getD ((i + 1) % u.length) 0) ?_, decide_eq_true q⟩
      rw [List.getD_eq_getElem?_getD, List.getElem?_eq_getElem hi']
      exact List.getElem_mem hi'
  refine decide_eq_true ?_
  cases u with
  | nil => exact absurd h0 (Nat.lt_irrefl _)
  | cons c r => exact List.length_pos_of_mem (all sg.length c List.mem_cons_self)
theorem goes_has {sg : List Nat} {ps : List Str} (h4 : sg.length ≤ 4) (h : hasB sg ps = true) : ∃ u : List Nat, 1 ≤ u.length ∧ u.length ≤ 4 ∧ (∀ c ∈ u, c ∈ sg) ∧ goesB u ps = true := by
  have h := of_decide_eq_true h
  obtain ⟨i, hi, e⟩ : ∃ i, i < sg.length ∧ leftN sg ps (i + 1) = leftN sg ps i := by
    rcases left_still sg ps sg.length with q | q
    · omega
    · exact q
  have sub := left_subs sg ps i (sg.length - i)
  rw [show i + (sg.length - i) = sg.length by omega] at sub
  have l0 : 0 < (leftN sg ps i).length := Nat.lt_of_lt_of_le h sub.length_le
  have l4 : (leftN sg ps i).length ≤ 4 := Nat.le_trans (leftN_len sg ps i) h4
  have ins : ∀ c ∈ leftN sg ps i, c ∈ sg := fun c hc => by
    have q := left_subs sg ps 0 i
    rw [Nat.zero_add] at q
    exact q.subset hc
  have nxt : ∀ c : Nat, ∃ d : Nat, c ∈ leftN sg ps i → d ∈ leftN sg ps i ∧ S [c, d] ∈ ps := fun c => by
    by_cases hc : c ∈ leftN sg ps i
    · have hc2 := hc
      rw [← e] at hc2
      obtain ⟨_, q⟩ := List.mem_filter.mp hc2
      obtain ⟨d, hd, q⟩ := List.any_eq_true.mp q
      exact ⟨d, fun _ => ⟨hd, of_decide_eq_true q⟩⟩
    · exact ⟨0, fun z => absurd z hc⟩
  obtain ⟨f, hf⟩ := Classical.axiomOfChoice nxt
  obtain ⟨c0, hc0⟩ := List.exists_mem_of_length_pos l0
  let x : Nat → Nat := fun t => Nat.rec c0 (fun _ c => f c) t
  have x0 : x 0 = c0 := rfl
  have xs : ∀ t, x (t + 1) = f (x t) := fun _ => rfl
  clear_value x
  have inL : ∀ t, x t ∈ leftN sg ps i := by
    intro t
    induction t with
    | zero => rw [x0]; exact hc0
    | succ t ih => rw [xs]; exact (hf _ ih).1
  have step : ∀ t, S [x t, x (t + 1)] ∈ ps := fun t => by
    rw [xs]
    exact (hf _ (inL t)).2
  obtain ⟨a, b, hab, hb, eab⟩ := twice l4 inL
  have at_ : ∀ t, t < b - a → ((List.range (b - a)).map fun t => x (a + t)).getD t 0 = x (a + t) := fun t ht => by
    rw [List.getD_eq_getElem?_getD, List.getElem?_map, List.getElem?_range ht] <;> rfl
  refine ⟨(List.range (b - a)).map fun t => x (a + t), by rw [List.length_map, List.length_range]; omega, by rw [List.length_map, List.length_range]; omega, fun c hc => ?_, goes_iff.mpr fun t ht => ?_⟩
  · obtain ⟨t, _, rfl⟩ := List.mem_map.mp hc
    exact ins _ (inL _)
  · rw [List.length_map, List.length_range] at ht ⊢
    rw [at_ t ht]
    rcases t with _ | t
    · rw [show (0 + (b - a) - 1) % (b - a) = b - a - 1 by rw [Nat.zero_add]; exact Nat.mod_eq_of_lt (by omega), at_ _ (by omega)]
      have q := step (a + (b - a - 1))
      rw [show a + (b - a - 1) + 1 = b by omega, ← eab] at q
      exact q
    · rw [show (t + 1 + (b - a) - 1) % (b - a) = t by rw [show t + 1 + (b - a) - 1 = t + (b - a) by omega, Nat.add_mod_right]; exact Nat.mod_eq_of_lt (by omega), at_ _ (by omega)]
      exact step (a + t)
theorem has_same {sg : List Nat} {ps qs : List Str} (h : ∀ z, z ∈ ps ↔ z ∈ qs) : hasB sg ps = hasB sg qs := by
  have e : ∀ k, leftN sg ps k = leftN sg qs k := by
    intro k
    induction k with
    | zero => rfl
    | succ k ih =>
      show leftB (leftN sg ps k) ps = leftB (leftN sg qs k) qs
      rw [ih]
      unfold leftB
      refine List.filter_congr fun c _ => ?_
      refine congrArg (fun f => (leftN sg qs k).any f) (funext fun d => ?_)
      rw [decide_eq_decide]
      exact h _
  unfold hasB
  rw [e]
/-- a kind has a ring just when one of the four lists isn't empty -/
theorem has_due {sg : List Nat} {ps qs : List Str} (h : ∀ z, z ∈ ps ↔ z ∈ qs) (h4 : sg.length ≤ 4) : hasB sg ps = !((dueL sg qs 1).isEmpty && ((dueL sg qs 2).isEmpty && ((dueL sg qs 3).isEmpty && (dueL sg qs 4).isEmpty))) := by
  rw [has_same h]
  rw [Bool.eq_iff_iff, Bool.not_eq_true', Bool.and_eq_false_iff, Bool.and_eq_false_iff, Bool.and_eq_false_iff]
  have out : ∀ k, 1 ≤ k → (dueL sg qs k).isEmpty = false → hasB sg qs = true := fun k k1 e => by
    cases d : dueL sg qs k with
    | nil => rw [d] at e; cases e
    | cons u r =>
      have hu : u ∈ dueL sg qs k := by rw [d]; exact List.mem_cons_self
      obtain ⟨hw, hg⟩ := List.mem_filter.mp hu
      rw [Bool.and_eq_true] at hg
      obtain ⟨w1, w2⟩ := wordsL_of sg k u hw
      exact has_goes (by omega) w2 hg.1
  have into : ∀ u : List Nat, 1 ≤ u.length → (∀ c ∈ u, c ∈ sg) → goesB u qs = true → (dueL sg qs u.length).isEmpty = false := fun u h1 hu hg => by
    obtain ⟨t, ht, e⟩ := text_is (l := u) (by omega)
    have hm : rot u t ∈ dueL sg qs u.length := by
      refine List.mem_filter.mpr ⟨words_mem (rot_len u t) fun c hc => hu c (rot_mem hc), ?_⟩
      rw [goes_rot (by omega) (Nat.le_of_lt ht), hg, text_rot (by omega) (Nat.le_of_lt ht), e]
      exact decide_eq_true rfl
    cases d : dueL sg qs u.length with
    | nil => rw [d] at hm; exact nomatch hm
    | cons _ _ => rfl
  constructor
  · intro q
    obtain ⟨u, h1, h2, h3, h5⟩ := goes_has h4 q
    have z := into u h1 h3 h5
    have : u.length = 1 ∨ u.length = 2 ∨ u.length = 3 ∨ u.length = 4 := by omega
    rcases this with r | r | r | r <;> rw [r] at z
    · exact .inl z
    · exact .inr (.inl z)
    · exact .inr (.inr (.inl z))
    · exact .inr (.inr (.inr z))
  · rintro (z | z | z | z)
    · exact out 1 (by decide) z
    · exact out 2 (by decide) z
    · exact out 3 (by decide) z
    · exact out 4 (by decide) z
end Wb
set_option linter.all false
/-! the law's own: a kind, its rings of a length -/
namespace Wb
open PySem L2 WbMin WbO WbS WbT Lz Le Gx
abbrev sGRight : Stmt := top 52
abbrev sGLaw : Stmt := top 53
structure DA where
  (cell pool draw shuf face whole odd signs turn every couples closes all listed refused right : Addr)
  (dcell dpool ddraw dshuf dface dwhole dodd dsigns dturn devery dcouples dcloses dall dlisted drefused dright : FuncData)
structure Defs (K : PySem.W.Frag) (mg : Str → Option Value) (D : DA) : Prop where
  cell : Def K mg "_law_cell" sCell ["_law_script", "_law_k"] D.cell D.dcell
  pool : Def K mg "_law_pool" sPool ["_law_cell_here"] D.pool D.dpool
  draw : Def K mg "_law_draw" sDraw ["_law_pool_here", "_law_many"] D.draw D.ddraw
  shuf : Def K mg "_law_shuffled" sShuf ["_law_pool_here", "_law_things"] D.shuf D.dshuf
  face : Def K mg "_law_face" sFace ["_law_thing"] D.face D.dface
  whole : Def K mg "_law_whole" sLWhole ["_law_thing"] D.whole D.dwhole
  odd : Def K mg "_law_odd" sLOdd ["_law_pool_here"] D.odd D.dodd
  signs : Def K mg "_law_signs" sSigns ["_law_pool_here", "_law_most"] D.signs D.dsigns
  turn : Def K mg "_law_turnings" sGLT ["_law_word"] D.turn D.dturn
  every : Def K mg "_law_every" sEvery ["_law_abc"] D.every D.devery
  couples : Def K mg "_law_couples" sCouples ["_law_pool_here", "_law_abc"] D.couples D.dcouples
  closes : Def K mg "_law_closes" sGCl ["_law_word", "_law_some"] D.closes D.dcloses
  all : Def K mg "_law_all" sGAll ["_law_abc", "_law_some", "_law_size"] D.all D.dall
  listed : Def K mg "_law_listed" sGLi ["_law_kind", "_law_size"] D.listed D.dlisted
  refused : Def K mg "_law_refused" sGRf ["_law_kind", "_law_size"] D.refused D.drefused
  right : Def K mg "_law_right" sGRight ["_law_pool_here"] D.right D.dright
/-- a kind stands here, what its __bool__ tells is known -/
def KindR (C : Addr) (H : Hp) (r : Addr) (sg : List Nat) (ps : List Str) : Prop := ∃ dx t, H r = some (.ins C dx (kf (S sg) t (hasB sg ps))) ∧ H t = some (.tup (ps.map V.str))
theorem KindR.at {C : Addr} {H : Hp} {r : Addr} {sg : List Nat} {ps : List Str} (h : KindR C H r sg ps) : KindAt C H r sg ps := by
  obtain ⟨dx, t, h1, h2⟩ := h
  exact ⟨dx, t, _, h1, h2⟩
theorem KindR.of {C : Addr} {H : Hp} {r : Addr} {sg : List Nat} {ps : List Str} (h : KindAt C H r sg ps) (h2 : ∃ dx t, H r = some (.ins C dx (kf (S sg) t (hasB sg ps)))) : KindR C H r sg ps := by
  obtain ⟨dx, t, b, e1, e2⟩ := h
  obtain ⟨dx', t', e3⟩ := h2
  have e := e1.symm.trans e3
  have ef : kf (S sg) t b = kf (S sg) t' (hasB sg ps) := by
    injection e with e
    injection e
  have el : (kf (S sg) t b).lookup ("_ringed" : Str) = (kf (S sg) t' (hasB sg ps)).lookup ("_ringed" : Str) := by rw [ef]
  rw [kf_ringed, kf_ringed] at el
  have eb : b = hasB sg ps := by
    injection el with el
    injection el
  subst eb
  exact ⟨dx, t, e1, e2⟩
theorem KindR.same {C : Addr} {H H' : Hp} {r : Addr} {sg : List Nat} {ps : List Str} (h : KindR C H r sg ps) (s : Same H H') : KindR C H' r sg ps := by
  obtain ⟨dx, t, h1, h2⟩ := h
  exact ⟨dx, t, s _ _ h1, s _ _ h2⟩
theorem KindR.but {C p : Addr} {H H' : Hp} {r : Addr} {sg : List Nat} {ps : List Str} (h : KindR C H r sg ps) (b : But p H H') (hp : PoolAt H p) : KindR C H' r sg ps := by
  obtain ⟨dx, t, h1, h2⟩ := h
  exact ⟨dx, t, b _ _ (pool_other hp h1 fun _ _ _ z => by cases z) h1, b _ _ (pool_other hp h2 fun _ _ _ z => by cases z) h2⟩
/-! ### lists of words, one as the other -/
theorem dp_words {K : PySem.W.Frag} {H : Hp} : ∀ l : List (List Nat), DpAll K H (l.map fun u => V.str (S u)) (l.map fun u => PyData.str (S u))
  | [] => .nil
  | _ :: r => .cons (.str _) (dp_words r)
theorem lay_words : ∀ {l : List (List Nat)}, (∀ u ∈ l, ∀ c ∈ u, c < 1000) → PyData.canLayAll0 (l.map fun u => PyData.str (S u)) = true
  | [], _ => rfl
  | u :: r, h => by
    show (PyData.strOk (S u) && PyData.canLayAll0 (r.map fun u => PyData.str (S u))) = true
    rw [lay_words fun v hv => h v (List.mem_cons_of_mem _ hv), ok_codes fun c hc => by have := h u List.mem_cons_self c hc; omega] <;> rfl
theorem depth_words : ∀ l : List (List Nat), PyData.depthAll (l.map fun u => PyData.str (S u)) = 0
  | [] => rfl
  | u :: r => by
    show max 0 (PyData.depthAll (r.map fun u => PyData.str (S u))) = 0
    rw [depth_words r] <;> rfl
theorem words_ok {l : List (List Nat)} (h : ∀ u ∈ l, ∀ c ∈ u, c < 1000) : (PyData.list (l.map fun u => PyData.str (S u))).canLay0 = true ∧ PyData.depth (PyData.list (l.map fun u => PyData.str (S u))) ≤ 64 := by
  refine ⟨lay_words h, ?_⟩
  show PyData.depthAll (l.map fun u => PyData.str (S u)) + 1 ≤ 64
  rw [depth_words] <;> decide
theorem ne_words {K : PySem.W.Frag} {H : Hp} {Q : VK} {a b : Addr} {l : List (List Nat)} (h1 : H a = some (.lst (l.map fun u => V.str (S u)))) (h2 : H b = some (.lst (l.map fun u => V.str (S u)))) (h : ∀ u ∈ l, ∀ c ∈ u, c < 1000) (k : Q (.bl false) H) : rNeD K (.ref a) (.ref b) H Q :=
  heard_due (.lst (SqL.of h1) (dp_words l)) (.lst (SqL.of h2) (dp_words l)) (words_ok h) k
theorem eq_words {K : PySem.W.Frag} {H : Hp} {Q : VK} {a b : Addr} {l : List (List Nat)} (h1 : H a = some (.lst (l.map fun u => V.str (S u)))) (h2 : H b = some (.lst (l.map fun u => V.str (S u)))) (h : ∀ u ∈ l, ∀ c ∈ u, c < 1000) (k : Q (.bl true) H) : rEqD K (.ref a) (.ref b) H Q := by
  obtain ⟨c, d⟩ := words_ok h
  refine ⟨_, _, .lst (SqL.of h1) (dp_words l), .lst (SqL.of h2) (dp_words l), shaped_of c d, shaped_of c d, ?_⟩
  rw [SeqAt.eqv_refl _ c]
  exact k
theorem due_low {srt : List Nat} {ps : List Str} {n : Nat} (h : Sgs srt) : ∀ u ∈ dueL srt ps n, ∀ c ∈ u, c < 1000 := fun u hu c hc => by
  have := h.low c ((wordsL_of srt n u (List.mem_filter.mp hu).1).2 c hc)
  omega
theorem told_words {xs : List (List Nat)} {ys : List V} {H : Hp} (h : Told (fun x v _ => v = .str (textS x)) xs ys H) (self : ∀ x ∈ xs, textS x = S x) : ys = xs.map fun u => V.str (S u) := by
  refine List.ext_getElem (by rw [h.1, List.length_map]) fun i h1 h2 => ?_
  rw [List.length_map] at h2
  have q := h.2 i _ _ (List.getElem?_eq_getElem h2) (List.getElem?_eq_getElem h1)
  rw [List.getElem_map]
  exact q.trans (congrArg V.str (self _ (List.getElem_mem h2)))
theorem eqv_few (a b c d : List (List Nat)) : PyData.eqv (.list [.list (a.map fun u => PyData.str (S u)), .list (b.map fun u => PyData.str (S u)), .list (c.map fun u => PyData.str (S u)), .list (d.map fun u => PyData.str (S u))]) (.list [.list [], .list [], .list [], .list []]) = (a.isEmpty && (b.isEmpty && (c.isEmpty && d.isEmpty))) := by
  cases a <;> cases b <;> cases c <;> cases d <;> rfl
theorem few_ok {a b c d : List (List Nat)} (ha : ∀ u ∈ a, ∀ c ∈ u, c < 1000) (hb : ∀ u ∈ b, ∀ c ∈ u, c < 1000) (hc : ∀ u ∈ c, ∀ c ∈ u, c < 1000) (hd : ∀ u ∈ d, ∀ c ∈ u, c < 1000) :
    SeqAt.shaped (.list [.list (a.map fun u => PyData.str (S u)), .list (b.map fun u => PyData.str (S u)), .list (c.map fun u => PyData.str (S u)), .list (d.map fun u => PyData.str (S u))]) = true := by
  refine shaped_of ?_ ?_
  · show (PyData.canLayAll0 _ && (PyData.canLayAll0 _ && (PyData.canLayAll0 _ && (PyData.canLayAll0 _ && true)))) = true
    rw [lay_words ha, lay_words hb, lay_words hc, lay_words hd] <;> rfl
  · show max (PyData.depthAll _ + 1) (max (PyData.depthAll _ + 1) (max (PyData.depthAll _ + 1) (max (PyData.depthAll _ + 1) 0))) + 1 ≤ 64
    rw [depth_words, depth_words, depth_words, depth_words] <;> decide
abbrev NGR : List Str := ["_law_pool_here", "_law_abc", "_law_some", "_law_kind", "_law_size", "_law_due", "_law_few", "_law_odd_here", "_law_ring", "_law_k"]
theorem scGR : FnScope NGR ["_law_pool_here"] (defScope sGRight) := ⟨rfl, rfl, rfl, by decide +kernel, rfl, by decide +kernel, by decide +kernel⟩
theorem estGR (p : Addr) : L2.start NGR [V.ref p] = [some (V.ref p), none, none, none, none, none, none, none, none, none] := rfl
def spRight : Sp := fun vs H Q _ => ∃ p : Addr, vs = [.ref p] ∧ PoolAt H p ∧ ∀ H', But p H H' → Q (.bl true) H'
section
variable {P : Program} {w : World} {K : PySem.W.Frag} {mg : Str → Option Value} {base : Heap} {f : Addr} {fd : FuncData} {A : KA} {B : GkA} {D : DA} {cN fN fB : Addr} {dN dB : FuncData}
set_option maxHeartbeats 4000000 in
theorem ok_right (F : Fun K "_law_right" "_law_right" sGRight f fd) (Z : Free mg) (ZT : FreeT mg) (R : KindF K mg A) (G : GkF K mg A B) (kR : KBinds K B.dR ["self", "length"] ["length"] g11 g11) (EN : GkE K mg cN fN dN) (nn : PySem.W.exmOne K (.ref cN) (.ref cN) = some true)
    (FB : Fun K "__bool__" "Kind.__bool__" sKBool fB dB) (bB : Binds K dB ["self"] []) (mB : Meth K A.C "__bool__" fB) (D' : Defs K mg D) : FnOk P w K mg base CX0 10 f fd ["_law_pool_here"] spRight := by
  have GD : FnOk P w K mg base CX0 1 D.draw D.ddraw ["_law_pool_here", "_law_many"] spDraw := ok_draw D'.draw.F Z.int Z.divmod
  have GS : FnOk P w K mg base CX0 2 D.signs D.dsigns ["_law_pool_here", "_law_most"] spSigns := ok_signs D'.signs.F D'.draw Z.int Z.divmod Z.len Z.range
  have GC : FnOk P w K mg base CX0 3 D.couples D.dcouples ["_law_pool_here", "_law_abc"] spCouples := ok_couples D'.couples.F D'.draw D'.every D'.shuf Z R.lst
  have GK : FnOk P w K mg base CX0 4 A.fI A.dI ["self", "signs", "pairs"] (spKInit A.C) := ok_kinit R Z
  have GA : FnOk P w K mg base CX0 2 D.all D.dall ["_law_abc", "_law_some", "_law_size"] spGAll := ok_gall D'.all.F Z R.sort D'.closes D'.turn
  have GL : FnOk P w K mg base CX0 6 D.listed D.dlisted ["_law_kind", "_law_size"] (spGLi A.C) := ok_glisted R G Z D'.listed.F
  have GG := ok_rings (P := P) (w := w) (base := base) R G Z
  have GT : FnOk P w K mg base CX0 1 B.fT B.dT ["self"] (spTextG B.C) := ok_textG G.FT G.TR
  have GB : FnOk P w K mg base CX0 1 fB dB ["self"] (spKBool A.C) := ok_kbool R ZT.bool FB
  have GO : FnOk P w K mg base CX0 2 D.odd D.dodd ["_law_pool_here"] spOddA := ok_oddA D'.odd.F D'.draw Z
  have GW : FnOk P w K mg base CX0 1 D.whole D.dwhole ["_law_thing"] spIsIntA := ok_lwhole D'.whole.F Z
  have GRf : FnOk P w K mg base CX0 8 D.refused D.drefused ["_law_kind", "_law_size"] (spGRf A.C) := ok_grefused R G EN nn D'.face Z ZT D'.refused.F
  refine F.ok scGR (fun vs H Q E h => by obtain ⟨p, rfl, _⟩ := h; rfl) (fun cdv A' outer s H vs Q E hr h => ?_)
  obtain ⟨p, rfl, hp, k⟩ := h
  have hr1 : Room 1 _ := hr.mono (by decide)
  have hr2 : Room 2 _ := hr.mono (by decide)
  have hr3 : Room 3 _ := hr.mono (by decide)
  have hr5 : Room 5 _ := hr.mono (by decide)
  have hr6 : Room 6 _ := hr.mono (by decide)
  have hr8 : Room 8 _ := hr.mono (by decide)
  refine ⟨_, pss_cons (ps_set (i := 1) scGR.nd rfl (.inr rfl) (pe_call GS hr2 rfl D'.signs.g D'.signs.kp D'.signs.b .nil pass0 (pa_cons (pv 0) (pa_cons pe_int pa_nil))))
    (pss_cons (ps_set (i := 2) scGR.nd rfl (.inr rfl) (pe_call GC hr3 rfl D'.couples.g D'.couples.kp D'.couples.b .nil pass0 (pa_cons (pv 0) (pa_cons (pv 1) pa_nil))))
    (pss_cons (ps_set (i := 3) scGR.nd rfl (.inl rfl) (pe_make R.M GK hr5 rfl R.T.gC R.bI3 .nil pass0 (pa_cons (pv 1) (pa_cons (pe_callTy call_tuple_of (by rfl) R.tup (by decide +kernel) (pa_cons (pv 2) pa_nil)) pa_nil))))
    (pss_cons (ps_set (i := 4) scGR.nd rfl (.inl rfl) (pe_op op_add pe_int (pe_call GD hr1 rfl D'.draw.g D'.draw.kp D'.draw.b .nil pass0 (pa_cons (pv 0) (pa_cons (pe_ix (show IxR _ (rIxL K) from ix_list) (pe_lst (pa_cons pe_int (pa_cons pe_int (pa_cons pe_int (pa_cons pe_int pa_nil))))) (pe_op op_sub (pe_callB call_len_str (by rfl) Z.len PySem.boot_len (pa_cons (pv 1) pa_nil)) pe_int) (fun _ _ => rfl)) pa_nil)))))
    (pss_cons (ps_set (i := 5) scGR.nd rfl (.inl rfl) (pe_call GA hr2 rfl D'.all.g D'.all.kp D'.all.b .nil pass0 (pa_cons (pv 1) (pa_cons (pv 2) (pa_cons (pv 4) pa_nil)))))
    (pss_cons (ps_if (PW.pt (pw_or (pt_cmpR (op_neD hr.units) (pe_call GL hr6 rfl D'.listed.g D'.listed.kp D'.listed.b .nil pass0 (pa_cons (pv 3) (pa_cons (pv 4) pa_nil))) (pv 5) (nomark _))
        (pw_or1 (pt_cmpR (op_neD hr.units) (pe_lcG (i := 8) (own := [("_law_ring", 8)]) (item2 := fun x v _ => v = .str (textS x)) ⟨fun _ _ _ _ h _ => h, fun _ _ _ _ _ _ h _ => h⟩ rfl scGR.nd (pgn_methK (pv 3) R.T.cl G.mR GG hr5 kR (pk_cons (pv 4) pk_nil)) (blkOk_by (N := NGR) (sc := defScope sGRight) (by decide +kernel)) (by decide) (by show 8 < NGR.length; decide) (fun _ => rfl)
            (fun _ _ _ _ _ => pg_name (i := 8) scGR.nd rfl (.inl rfl)) (fun _ _ _ _ _ => pe_prop (pv 8) G.TR.cl G.hT GT hr2 G.bT .nil pass0 rfl) (fun τ G' R' x vv h1 h2 h3 => ?hte)) (pv 5) (nomark _))))) (pss_one ps_never) pss_nil)
    (pss_cons (ps_setLc (i := 6) (own := [("_law_k", 9)]) (g := gName 9) (tt := tYes) rfl scGR.nd rfl rfl (sw_true rfl rfl rfl (by decide +kernel)) (pi_range2 rfl Z.range (pa_cons pe_int (pa_cons pe_int pa_nil))) (blkOk_by (N := NGR) (sc := defScope sGRight) (by decide +kernel)) (fun _ _ _ _ _ => pg_name (i := 9) scGR.nd rfl (.inl rfl)) (fun _ _ _ _ _ => pts_nil)
        (fun _ _ _ _ _ => pe_call GA hr2 rfl D'.all.g D'.all.kp D'.all.b .nil pass0 (pa_cons (pv 1) (pa_cons (pv 2) (pa_cons (pv 9) pa_nil)))))
    (pss_cons (ps_if (PW.pt (pw_or (pt_cmpR op_ne (pe_callTy (call_boolB mB GB hr3 bB pass0) (by rfl) ZT.bool (by decide +kernel) (pa_cons (pv 3) pa_nil)) (pe_cmpR (op_neD hr.units) (pv 6) (pe_lst (pa_cons (pe_lst pa_nil) (pa_cons (pe_lst pa_nil) (pa_cons (pe_lst pa_nil) (pa_cons (pe_lst pa_nil) pa_nil))))) (nomark _)) (nomark _))
        (pw_or (pt_cmpR (op_neD hr.units) (pe_call GL hr6 rfl D'.listed.g D'.listed.kp D'.listed.b .nil pass0 (pa_cons (pv 3) (pa_cons pe_int pa_nil))) (pe_ix ix_list (pv 6) pe_int (fun _ _ => rfl)) (nomark _))
        (pw_or1 (pt_cmpR (op_neD hr.units) (pe_call GL hr6 rfl D'.listed.g D'.listed.kp D'.listed.b .nil pass0 (pa_cons (pv 3) (pa_cons pe_int pa_nil))) (pe_ix ix_list (pv 6) pe_int (fun _ _ => rfl)) (nomark _)))))) (pss_one ps_never) pss_nil)
    (pss_cons (ps_set (i := 7) scGR.nd rfl (.inl rfl) (pe_ix ix_list (pe_lst (pa_cons pe_int (pa_cons pe_int (pa_cons (pe_un un_neg pe_int) (pa_cons pe_bl (pa_cons pe_non (pa_cons pe_str (pa_cons (pe_tup (pa_cons pe_int pa_nil)) (pa_cons (pe_op op_pow pe_int pe_int) (pa_cons (pe_call GO hr2 rfl D'.odd.g D'.odd.kp D'.odd.b .nil pass0 (pa_cons (pv 0) pa_nil)) pa_nil)))))))))) (pe_call GD hr1 rfl D'.draw.g D'.draw.kp D'.draw.b .nil pass0 (pa_cons (pv 0) (pa_cons pe_int pa_nil))) (fun _ _ => rfl)))
    (pss_cons (ps_join (ps_if (PW.pt (pw_and (pt_not (PW.pt (pw_and (pt_val (pe_call GW hr1 rfl D'.whole.g D'.whole.kp D'.whole.b .nil pass0 (pa_cons (pv 7) pa_nil))) (pw_and1 (pt_chain op_le op_le pe_int (pv 7) pe_int)))))
        (pw_and1 (pt_not (pt_val (pe_call GRf hr8 rfl D'.refused.g D'.refused.kp D'.refused.b .nil pass0 (pa_cons (pv 3) (pa_cons (pv 7) pa_nil)))))))) (pss_one ps_never) pss_nil))
    (pss_one (ps_ret (pe_cmpR (op_eqD hr.units) (pe_call GL hr6 rfl D'.listed.g D'.listed.kp D'.listed.b .nil pass0 (pa_cons (pv 3) (pa_cons (pv 4) pa_nil))) (pv 5) (nomark _))))))))))))), ?_⟩
  case hte =>
    obtain ⟨q, rfl, RA⟩ := h2
    obtain ⟨W, dq, hR⟩ := id RA
    exact ⟨_, h1, q, dq, _, rfl, hR, q, x, rfl, RA, h3 _ _ (Same.refl _) rfl⟩
  refine ⟨_, rfl, p, 4, rfl, by decide, by decide, hp, fun a H1 low nd a0 a1 hp1 b1 => ?_⟩
  have sgs : Sgs a := ⟨low, nd, a0, by omega⟩
  dsimp only [estGR, List.set]
  refine ⟨_, rfl, _, rfl, p, a, rfl, sgs, hp1, fun la ps H2 hA na PR hp2 b2 => ?_⟩
  dsimp only [List.set]
  refine ⟨_, rfl, _, rfl, la, _, rfl, .inl ⟨SqL.of hA, fun t ht => ?_⟩⟩
  have s2t : Same H2 (L2.upd H2 t (.tup (ps.map V.str))) := Same.put (Same.refl H2) ht
  have htt : (L2.upd H2 t (.tup (ps.map V.str))) t = some (.tup (ps.map V.str)) := upd_same
  generalize L2.upd H2 t (.tup (ps.map V.str)) = Ht at s2t htt ⊢
  refine fun kd dxk hx hdx ne => ⟨Ht, kd, dxk, a, .ref t, ps, rfl, sgs, .inr ⟨t, rfl, (Same.new' (Same.new' (Same.refl Ht) hdx) hx) _ _ htt, PR⟩, Same.new' (Same.new' (Same.refl Ht) hdx) hx, hx, upd_same, fun H3 srt psK s3 p1 so1 p2 so2 KA3 KB3 => ⟨rfl, ?_⟩⟩
  have KR3 := KindR.of KA3 KB3
  have s23 := s2t.trans s3
  have asc := asc_of p1 sgs.nd so1
  have SG : Sgs srt := ⟨fun c hc => sgs.low c (p1.mem_iff.mp hc), p1.nodup_iff.mpr sgs.nd, by rw [p1.length_eq]; exact sgs.pos, by rw [p1.length_eq]; exact sgs.few⟩
  have mem : ∀ z, z ∈ psK ↔ z ∈ ps := fun z => p2.mem_iff
  have hA3 := s23 _ _ hA
  have hp3 := hp2.same s23
  have b3 := (b1.trans b2).trans (But.of s23)
  clear hp1 b1 b2 hp2 hA s2t htt hx hdx ne KA3 KB3 s3 ht s23 so2
  dsimp only [List.set]
  obtain ⟨m, hm, m0, m9, hsz⟩ : ∃ m : Nat, atI [V.int 9, V.int 9, V.int 5, V.int 4] (((S a).length : Int) - 1) = some (.int (m : Int)) ∧ 0 < m ∧ m ≤ 9 ∧ ∀ d, d < m → 1 + d ∈ sizesOf srt.length := by
    rw [S_len, ← p1.length_eq]
    have l0 := SG.pos
    have l4 := SG.few
    have : srt.length = 1 ∨ srt.length = 2 ∨ srt.length = 3 ∨ srt.length = 4 := by omega
    rcases this with e | e | e | e <;> rw [e]
    · exact ⟨9, rfl, by decide, by decide, by decide⟩
    · exact ⟨9, rfl, by decide, by decide, by decide⟩
    · exact ⟨5, rfl, by decide, by decide, by decide⟩
    · exact ⟨4, rfl, by decide, by decide, by decide⟩
  refine ⟨_, rfl, (by show 4 ≤ sizeLine; decide), fun L hL => ⟨_, rfl, _, rfl, sgs.w.fits, _, _, rfl, rfl, ?_⟩⟩
  have s3L := Same.put (o := .lst [V.int 9, V.int 9, V.int 5, V.int 4]) (Same.refl H3) hL
  have hLL : (L2.upd H3 L (.lst [V.int 9, V.int 9, V.int 5, V.int 4])) L = some (.lst [V.int 9, V.int 9, V.int 5, V.int 4]) := upd_same
  generalize L2.upd H3 L (.lst [V.int 9, V.int 9, V.int 5, V.int 4]) = H3' at s3L hLL ⊢
  refine ⟨L, _, _, _, rfl, rfl, SqL.of hLL, hm, p, _, rfl, by omega, by omega, hp3.same s3L, fun d H4 d0 d1 hp4 b4 => ⟨_, _, rfl, rfl, ?_⟩⟩
  obtain ⟨n, hn⟩ : ∃ n : Nat, (1 : Int) + d = (n : Int) := ⟨(1 + d).toNat, by omega⟩
  have hnz : n ∈ sizesOf srt.length := by
    have q := hsz d.toNat (by omega)
    rw [show 1 + d.toNat = n by omega] at q
    exact q
  have n0 : 0 < n := by omega
  have n9 : n ≤ 9 := by omega
  dsimp only [List.set]
  rw [hn]
  have K4 := (KR3.same s3L).but b4 (hp3.same s3L)
  have hA4 := b4 _ _ na (s3L _ _ hA3)
  have b04 := (b3.trans (But.of s3L)).trans b4
  clear hm hsz hL s3L hLL hp3 b4 KR3 hA3 b3 d0 d1 hn m0 m9
  refine ⟨_, rfl, _, rfl, _, rfl, a, srt, la, ps, n, rfl, sgs, p1, so1, n0, n9, hA4, fun due H5 nd5 s5 hd5 => ?_⟩
  dsimp only [List.set]
  have K5 := K4.same s5
  have hA5 := s5 _ _ hA4
  have hp5 := hp4.same s5
  have b5 := b04.trans (But.of s5)
  clear K4 hA4 hp4 b04 s5 nd5
  obtain ⟨ws, Y, same⟩ := way_of SG.pos SG.few hnz asc
  have same := same psK ps mem
  have low5 : ∀ u ∈ dueL srt ps n, ∀ c ∈ u, c < 1000 := due_low SG
  have xself : ∀ x ∈ ringsL srt psK ws, textS x = S x := fun x hx => by
    obtain ⟨u, hu, rfl⟩ := List.mem_map.mp (List.mem_filter.mp hx).1
    exact Y.self u hu
  refine ⟨_, rfl, _, rfl, kd, srt, psK, n, ws, rfl, K5.at, SG, n0, n9, Y, fun a6 H6 n6 s6 h6 => ⟨_, rfl, ?_⟩⟩
  rw [same] at h6
  refine ne_words h6 (s6 _ _ hd5) low5 ⟨_, rfl, iteF ?_⟩
  have K6 := K5.same s6
  obtain ⟨dx6, t6, e6, f6⟩ := id K6
  refine ⟨_, rfl, kd, dx6, _, rfl, e6, kf_rings _ _ _, _, rfl, kd, srt, psK, n, ws, rfl, K6.at, SG, n0, n9, Y.outs, Y.of, (by rw [sizeLine_eq]; have := ringsL_len srt psK ws; have := Y.few; show (ringsL srt psK ws).length ≤ _; omega), fun D7 ys H7 n7 s7 h7 told7 => ⟨_, rfl, ?_⟩⟩
  have ys7 := told_words (xs := ringsL srt psK ws) told7 xself
  rw [same] at ys7
  subst ys7
  refine ne_words h7 (s7 _ _ (s6 _ _ hd5)) low5 ⟨_, rfl, iteF ?_⟩
  have s57 := s6.trans s7
  have K7 := K5.same s57
  have hA7 := s57 _ _ hA5
  have hp7 := hp5.same s57
  have hd7 := s57 _ _ hd5
  have b7 := b5.trans (But.of s57)
  clear K5 hA5 hp5 hd5 b5 K6 e6 f6 h6 h7 told7 s57 s6 s7 n6 n7
  dsimp only [List.set]
  refine ⟨1, 5, rfl, by decide, fun D hD => lc_it (walk_range (lo := 1) (n := 4)) (fun i H' => ∃ as : List Addr, H' D = some (.lst (as.map V.ref)) ∧ as.length = i ∧ (∀ j q, as[j]? = some q → q ≠ D ∧ H' q = some (.lst ((dueL srt ps (j + 1)).map fun u => V.str (S u)))) ∧ Same H7 H') ⟨[], upd_same, rfl, (fun j q z => by cases z), Same.put (Same.refl H7) hD⟩ (fun _ _ _ _ => trivial) ?_ ?_⟩
  · rintro i x H3 H3' hi ⟨as, e1, e2, e3, e4⟩ ⟨rfl, rfl⟩
    have ei : (1 : Int) + (i : Int) = ((i + 1 : Nat) : Int) := by omega
    show gName 9 (V.int (1 + (i : Int))) _ _ _
    rw [ei]
    refine ⟨rfl, _, rfl, _, rfl, _, rfl, a, srt, la, ps, i + 1, rfl, sgs, p1, so1, Nat.succ_pos i, by omega, e4 _ _ hA7, fun q H4 nq s4 hq => ⟨_, s4 _ _ e1, ?_, ?_⟩⟩
    · rw [List.length_map, e2, sizeLine_eq]
      omega
    · have nD : q ≠ D := fun z => by rw [z, e1] at nq; cases nq
      refine ⟨as ++ [q], by rw [upd_same, List.map_append] <;> rfl, by rw [List.length_append, e2] <;> rfl, fun j y hy => ?_, Same.new' (e4.trans s4) hD⟩
      rw [List.getElem?_append] at hy
      split at hy
      · obtain ⟨g1, g2⟩ := e3 j y hy
        exact ⟨g1, (upd_ne g1).trans (s4 _ _ g2)⟩
      · have ej : j = i := by
          have := (List.getElem?_eq_some_iff.mp hy).1
          rw [List.length_singleton] at this
          omega
        rw [ej, e2, Nat.sub_self] at hy
        obtain rfl : q = y := by injection hy
        rw [ej]
        exact ⟨nD, (upd_ne nD).trans hq⟩
  rintro H8 ⟨as, e1, e2, e3, s78⟩
  obtain ⟨q1, q2, q3, q4, rfl⟩ : ∃ q1 q2 q3 q4, as = [q1, q2, q3, q4] := by
    match as, e2 with
    | [q1, q2, q3, q4], _ => exact ⟨q1, q2, q3, q4, rfl⟩
  have g1 := (e3 0 q1 rfl).2
  have g2 := (e3 1 q2 rfl).2
  have g3 := (e3 2 q3 rfl).2
  have g4 := (e3 3 q4 rfl).2
  have K8 := K7.same s78
  have hp8 := hp7.same s78
  have hd8 := s78 _ _ hd7
  have b8 := b7.trans (But.of s78)
  clear e2 e3 K7 hA7 hp7 hd7 b7 s78 hD
  obtain ⟨dx8, t8, e8, f8⟩ := id K8
  refine ⟨_, rfl, kd, dx8, _, rfl, e8, kd, dx8, t8, _, _, rfl, e8, _, rfl, ?_⟩
  refine ⟨_, rfl, (by show 0 ≤ sizeLine; decide), fun x1 h1 => ⟨(by show 0 ≤ sizeLine; decide), fun x2 h2 => ⟨(by show 0 ≤ sizeLine; decide), fun x3 h3 => ⟨(by show 0 ≤ sizeLine; decide), fun x4 h4 => ⟨(by show 4 ≤ sizeLine; decide), fun x5 h5 => ?_⟩⟩⟩⟩⟩
  have t1 := Same.put (o := .lst []) (Same.refl H8) h1
  have t2 := Same.put (o := .lst []) (Same.refl _) h2
  have t3 := Same.put (o := .lst []) (Same.refl _) h3
  have t4 := Same.put (o := .lst []) (Same.refl _) h4
  have t5 := Same.put (o := .lst [V.ref x1, .ref x2, .ref x3, .ref x4]) (Same.refl _) h5
  have k1 := t5 _ _ (t4 _ _ (t3 _ _ (t2 _ _ upd_same)))
  have k2 := t5 _ _ (t4 _ _ (t3 _ _ upd_same))
  have k3 := t5 _ _ (t4 _ _ upd_same)
  have k4 := t5 _ _ upd_same
  have k5 : (upd (upd (upd (upd (upd H8 x1 (HO.lst [])) x2 (HO.lst [])) x3 (HO.lst [])) x4 (HO.lst [])) x5 (.lst [V.ref x1, .ref x2, .ref x3, .ref x4])) x5 = some (.lst [V.ref x1, .ref x2, .ref x3, .ref x4]) := upd_same
  have s89 := (((t1.trans t2).trans t3).trans t4).trans t5
  clear t1 t2 t3 t4 t5 h1 h2 h3 h4 h5
  generalize upd (upd (upd (upd (upd H8 x1 (HO.lst [])) x2 (HO.lst [])) x3 (HO.lst [])) x4 (HO.lst [])) x5 (.lst [V.ref x1, .ref x2, .ref x3, .ref x4]) = H9 at k1 k2 k3 k4 k5 s89 ⊢
  refine ⟨.list [.list ((dueL srt ps 1).map fun u => PyData.str (S u)), .list ((dueL srt ps 2).map fun u => PyData.str (S u)), .list ((dueL srt ps 3).map fun u => PyData.str (S u)), .list ((dueL srt ps 4).map fun u => PyData.str (S u))], .list [.list [], .list [], .list [], .list []],
    .lst (SqL.of (s89 _ _ e1)) (.cons (.lst (SqL.of (s89 _ _ g1)) (dp_words _)) (.cons (.lst (SqL.of (s89 _ _ g2)) (dp_words _)) (.cons (.lst (SqL.of (s89 _ _ g3)) (dp_words _)) (.cons (.lst (SqL.of (s89 _ _ g4)) (dp_words _)) .nil)))),
    .lst (SqL.of k5) (.cons (.lst (SqL.of k1) .nil) (.cons (.lst (SqL.of k2) .nil) (.cons (.lst (SqL.of k3) .nil) (.cons (.lst (SqL.of k4) .nil) .nil)))),
    few_ok (due_low SG) (due_low SG) (due_low SG) (due_low SG), by decide +kernel, ?_⟩
  rw [eqv_few, ← has_due mem SG.few]
  refine ⟨rfl, ?_⟩
  rw [decide_eq_true rfl]
  refine ⟨_, rfl, iteF ?_⟩
  have K9 := K8.same s89
  have hp9 := hp8.same s89
  have hd9 := s89 _ _ hd8
  have b9 := b8.trans (But.of s89)
  have e1 := s89 _ _ e1
  have g1 := s89 _ _ g1
  have g3 := s89 _ _ g3
  clear K8 hp8 hd8 b8 e8 f8 k1 k2 k3 k4 k5 s89
  dsimp only [List.set]
  obtain ⟨z1, z3⟩ : 1 ∈ sizesOf srt.length ∧ 3 ∈ sizesOf srt.length := by
    have l0 := SG.pos
    have l4 := SG.few
    have : srt.length = 1 ∨ srt.length = 2 ∨ srt.length = 3 ∨ srt.length = 4 := by omega
    rcases this with e | e | e | e <;> rw [e] <;> exact ⟨by decide, by decide⟩
  obtain ⟨w1, Y1, same1⟩ := way_of SG.pos SG.few z1 asc
  obtain ⟨w3, Y3, same3⟩ := way_of SG.pos SG.few z3 asc
  have same1 := same1 psK ps mem
  have same3 := same3 psK ps mem
  refine ⟨_, rfl, kd, srt, psK, 1, w1, rfl, K9.at, SG, by decide, by decide, Y1, fun a10 H10 n10 s10 h10 => ⟨_, rfl, D, _, _, _, rfl, rfl, SqL.of (s10 _ _ e1), atI_nat (j := 0) rfl, ?_⟩⟩
  rw [same1] at h10
  refine ne_words h10 (s10 _ _ g1) (due_low SG) ⟨_, rfl, iteF ?_⟩
  refine ⟨_, rfl, kd, srt, psK, 3, w3, rfl, (K9.same s10).at, SG, by decide, by decide, Y3, fun a11 H11 n11 s11 h11 => ⟨_, rfl, D, _, _, _, rfl, rfl, SqL.of (s11 _ _ (s10 _ _ e1)), atI_nat (j := 2) rfl, ?_⟩⟩
  rw [same3] at h11
  refine ne_words h11 (s11 _ _ (s10 _ _ g3)) (due_low SG) ⟨_, rfl, iteF ?_⟩
  have s911 := s10.trans s11
  have K11 := K9.same s911
  have hp11 := hp9.same s911
  have hd11 := s911 _ _ hd9
  have b11 := b9.trans (But.of s911)
  clear K9 hp9 hd9 b9 e1 g1 g3 s911 s10 s11 h10 h11 n10 n11 z1 z3 Y1 Y3 same1 same3
  have pw : CPow 10 30 := by refine ⟨?_, ?_, ?_⟩ <;> decide
  refine ⟨_, rfl, (by show 1 ≤ sizeLine; decide), fun t ht => ⟨_, _, rfl, rfl, pw, ?_⟩⟩
  have st := Same.put (o := .tup [.int 1]) (Same.refl H11) ht
  have htt : (upd H11 t (.tup [V.int 1])) t = some (.tup [.int 1]) := upd_same
  have nt := hp11.ne ht
  generalize upd H11 t (.tup [V.int 1]) = H12 at st htt ⊢
  have K12 := K11.same st
  have hp12 := hp11.same st
  have hd12 := st _ _ hd11
  have b12 := b11.trans (But.of st)
  clear K11 hp11 hd11 b11 st ht
  refine ⟨_, rfl, p, rfl, hp12, fun x d H13 hx hp13 b1213 => ⟨(by show 9 ≤ sizeLine; decide), fun L hL => ?_⟩⟩
  have K13 := K12.but b1213 hp12
  have nd12 : due ≠ p := pool_ne (zs := (dueL srt ps n).map S) hp12 (by rw [List.map_map]; exact hd12)
  have hd13 := b1213 _ _ nd12 hd12
  have ht13 := b1213 _ _ nt htt
  have b13 := b12.trans b1213
  clear K12 hp12 hd12 b12 htt b1213
  have sL := Same.put (o := .lst [.int 0, .int 10, .int (-1), .bl true, .non, .str "3", .ref t, .int (10 ^ (30 : Int).toNat), x]) (Same.refl H13) hL
  have hLL : (upd H13 L (.lst [V.int 0, .int 10, .int (-1), .bl true, .non, .str "3", .ref t, .int (10 ^ (30 : Int).toNat), x])) L = some (.lst [V.int 0, .int 10, .int (-1), .bl true, .non, .str "3", .ref t, .int (10 ^ (30 : Int).toNat), x]) := upd_same
  have nL := hp13.ne hL
  refine ⟨_, rfl, p, _, rfl, by decide, by decide, hp13.same sL, fun j H15 j0 j1 hp15 b1415 => ?_⟩
  have b1415 : But p (upd H13 L (.lst [V.int 0, .int 10, .int (-1), .bl true, .non, .str "3", .ref t, .int (10 ^ (30 : Int).toNat), x])) H15 := b1415
  have hL15 := b1415 _ _ nL hLL
  have ht15 := b1415 _ _ nt (sL _ _ ht13)
  have hx15 := (hx.same sL).but b1415
  have K15 := (K13.same sL).but b1415 (hp13.same sL)
  have hd15 := b1415 _ _ nd12 (sL _ _ hd13)
  have b15 := (b13.trans (But.of sL)).trans b1415
  obtain ⟨u, rfl, u1⟩ := int_lt j0 j1
  clear K13 hd13 ht13 b13 sL hLL nL hL b1415 hp13 hx j0 j1
  have vc : ∀ {H' : Hp} {y : V} {ys : List V}, Val p H' y → (∀ x ∈ ys, Val p H' x) → ∀ x ∈ y :: ys, Val p H' x := fun h1 h2 x hx => by
    rcases List.mem_cons.mp hx with rfl | hx
    · exact h1
    · exact h2 x hx
  have vals : ∀ y ∈ [V.int 0, .int 10, .int (-1), .bl true, .non, .str "3", .ref t, .int (10 ^ (30 : Int).toNat), x], Val p H15 y := by
    refine vc (.int ?_) (vc (.int ?_) (vc (.int ?_) (vc (.bl _) (vc .non (vc (Val.lit [51] ?_ (by decide) (by decide)) (vc (.of ?_) (vc (.int ?_) (vc ⟨d, hx15⟩ (fun x hx => nomatch hx)))))))))
    · decide +kernel
    · decide +kernel
    · decide +kernel
    · decide +kernel
    · exact ⟨_, .inr (.inr (.inl ⟨t, [.int 1], [_], rfl, (cut_at nt).trans ht15, by decide, .cons (.inl (.int _)) .nil, rfl⟩)), by decide +kernel, by decide +kernel⟩
    · decide +kernel
  obtain ⟨y, hy⟩ : ∃ y, [V.int 0, .int 10, .int (-1), .bl true, .non, .str "3", .ref t, .int (10 ^ (30 : Int).toNat), x][u]? = some y := ⟨_, List.getElem?_eq_getElem (by show u < 9; omega)⟩
  refine ⟨L, _, _, y, rfl, rfl, SqL.of hL15, atI_nat hy, ?_⟩
  obtain ⟨dv, hv⟩ := vals y (List.mem_of_getElem? hy)
  dsimp only [List.set]
  clear vals vc hL15 ht15 hx15 u1 hy nt
  refine ⟨fun σ' H' => σ' = [some (V.ref p), some (V.str (S a)), some (V.ref la), some (V.ref kd), some (V.int ↑n), some (V.ref due), some (V.ref D), some y, none, none] ∧ Same H15 H', ?_, ?_⟩
  · obtain ⟨dxk, tk, ek1, ek2⟩ := id K15
    refine ⟨_, rfl, p, y, dv, rfl, hv, _, rfl, ?_⟩
    rcases hv.sort with ⟨l, rfl, _⟩ | ⟨i, rfl⟩ | nn
    · refine iteF (iteT ⟨_, rfl, _, rfl, p, kd, dxk, _, _, dv, rfl, ek1, kf_rings _ _ _, hv, rfl, fun H' s' => ⟨_, rfl, iteF ⟨rfl, s'⟩⟩⟩)
    · refine iteT ⟨_, rfl, _, _, rfl, rfl, _, rfl, ?_⟩
      by_cases h1 : (1 : Int) ≤ i
      · rw [if_pos (decide_eq_true h1)]
        refine ⟨_, _, rfl, rfl, _, rfl, ?_⟩
        by_cases h9 : i ≤ 9
        · rw [decide_eq_true h9]
          exact iteF (iteF ⟨rfl, Same.refl _⟩)
        · rw [decide_eq_false h9]
          refine iteT ⟨_, rfl, _, rfl, p, kd, dxk, _, _, dv, rfl, ek1, kf_rings _ _ _, hv, ?_, fun H' s' => ⟨_, rfl, iteF ⟨rfl, s'⟩⟩⟩
          show (!(decide (1 ≤ i) && decide (i ≤ 9))) = true
          rw [decide_eq_false h9, Bool.and_false] <;> rfl
      · rw [if_neg (fun z => h1 (of_decide_eq_true z))]
        refine ⟨_, rfl, iteT ⟨_, rfl, _, rfl, p, kd, dxk, _, _, dv, rfl, ek1, kf_rings _ _ _, hv, ?_, fun H' s' => ⟨_, rfl, iteF ⟨rfl, s'⟩⟩⟩⟩
        show (!(decide (1 ≤ i) && decide (i ≤ 9))) = true
        rw [decide_eq_false h1] <;> rfl
    · rw [nn.intB]
      refine iteF (iteT ⟨_, rfl, _, rfl, p, kd, dxk, _, _, dv, rfl, ek1, kf_rings _ _ _, hv, ?_, fun H' s' => ⟨_, rfl, iteF ⟨rfl, s'⟩⟩⟩)
      cases nn <;> rfl
  · rintro σ H16 ⟨rfl, s16⟩
    refine ⟨_, rfl, _, rfl, kd, srt, psK, n, ws, rfl, (K15.same s16).at, SG, n0, n9, Y, fun a17 H17 n17 s17 h17 => ⟨_, rfl, ?_⟩⟩
    rw [same] at h17
    have s := s16.trans s17
    exact eq_words h17 (s _ _ hd15) low5 (k _ (b15.trans (But.of s)))
end
end Wb
namespace Wb
open PySem L2 WbMin WbO WbS WbT Lz Le Gx
def spLaw (K : PySem.W.Frag) : Sp := fun vs H Q _ => ∃ (a : Addr) (ns : List Int), vs = [.ref a] ∧ SqL K H a (ns.map V.int) ∧ ns.length ≤ 63 ∧ ∀ H', Q (.bl true) H'
section
variable {P : Program} {w : World} {K : PySem.W.Frag} {mg : Str → Option Value} {base : Heap} {f : Addr} {fd : FuncData} {A : KA} {D : DA} {B : GkA} {cN fN fB : Addr} {dN dB : FuncData}
theorem scLa : FnScope ["_law_script", "_law_k"] ["_law_script"] (defScope sGLaw) := ⟨rfl, rfl, rfl, by decide +kernel, rfl, by decide +kernel, by decide +kernel⟩
theorem ok_law (F : Fun K "law" "law" sGLaw f fd) (Z : Free mg) (ZT : FreeT mg) (R : KindF K mg A) (G : GkF K mg A B) (kR : KBinds K B.dR ["self", "length"] ["length"] g11 g11) (EN : GkE K mg cN fN dN) (nn : PySem.W.exmOne K (.ref cN) (.ref cN) = some true) (FB : Fun K "__bool__" "Kind.__bool__" sKBool fB dB) (bB : Binds K dB ["self"] []) (mB : Meth K A.C "__bool__" fB) (D' : Defs K mg D) : FnOk P w K mg base CX0 11 f fd ["_law_script"] (spLaw K) := by
  have GC : FnOk P w K mg base CX0 1 D.cell D.dcell ["_law_script", "_law_k"] (spCell K) := ok_cell D'.cell.F Z.int Z.len
  have GP : FnOk P w K mg base CX0 1 D.pool D.dpool ["_law_cell_here"] spPool := ok_pool D'.pool.F Z.abs Z.int
  have GR : FnOk P w K mg base CX0 10 D.right D.dright ["_law_pool_here"] spRight := ok_right D'.right.F Z ZT R G kR EN nn FB bB mB D'
  refine F.ok scLa (fun vs H Q E h => ?_) (fun cdv A' outer s H vs Q E hr h => ?_)
  · obtain ⟨a, ns, rfl, _⟩ := h
    rfl
  · obtain ⟨a, ns, rfl, hS, hlen, k⟩ := h
    have hr1 : Room 1 _ := hr.mono (by decide)
    refine ⟨_, pss_one (ps_ret (pe_callB (cr_all rfl) (by rfl) Z.all (by decide +kernel) (pa_cons
      (pe_lc (own := [("_law_k", 1)]) (g := gName 1) (tt := tYes) rfl scLa.nd (pi_range1 rfl Z.range (pa_cons (pe_callB (call_max2 rfl) (by rfl) Z.max (by decide +kernel) (pa_cons pe_int (pa_cons
            (pe_callB (call_min2 rfl) (by rfl) Z.min (by decide +kernel) (pa_cons (pe_callB call_len_seq (by rfl) Z.len PySem.boot_len (pa_cons (pv 0) pa_nil)) (pa_cons pe_int pa_nil))) pa_nil))) pa_nil))
        (blkOk_by (N := ["_law_script", "_law_k"]) (sc := defScope sGLaw) (by decide +kernel)) (fun _ _ _ _ _ => pg_name (i := 1) scLa.nd rfl (.inl rfl)) (fun _ _ _ _ _ => pts_nil)
        (fun _ _ _ _ _ => pe_call GR hr rfl D'.right.g D'.right.kp D'.right.b .nil pass0 (pa_cons (pe_call GP hr1 rfl D'.pool.g D'.pool.kp D'.pool.b .nil pass0 (pa_cons (pe_call GC hr1 rfl D'.cell.g D'.cell.kp D'.cell.b .nil pass0 (pa_cons (pv 0) (pa_cons (pv 1) pa_nil))) pa_nil)) pa_nil))) pa_nil))), ?_⟩
    have few : (ns.map V.int).length ≤ 63 := by rw [List.length_map]; exact hlen
    have all2 : ∀ n : Nat, (List.replicate n true).all id = true := fun n => List.all_eq_true.mpr fun b hb => by rw [List.eq_of_mem_replicate hb] <;> rfl
    refine ⟨_, rfl, a, _, rfl, .inl hS, _, _, rfl, _, _, rfl, _, rfl, ?_, ?_, fun L hL => lc_it walk_range (fun i H3 => H3 L = some (.lst ((List.replicate i true).map V.bl)) ∧ Same H H3) ⟨upd_same, Same.put (Same.refl H) hL⟩ (fun _ _ _ _ => trivial) ?_ ?_⟩
    · split <;> split <;> omega
    · split <;> split <;> omega
    · rintro i x H3 H3' hi ⟨h1, h2⟩ ⟨rfl, rfl⟩
      have hi' : i < 8 := by
        have q := hi
        split at q <;> (try split at q) <;> omega
      refine ⟨rfl, _, rfl, _, rfl, a, ns, _, rfl, Same.seq h2 hS, hlen, by omega, by omega, fun n H4 s4 => ⟨_, rfl, fun p H5 np s5 hp => ⟨p, rfl, hp, fun H6 b6 => ?_⟩⟩⟩
      have h4 := s4 _ _ h1
      have s6 : Same H H6 := fun b o e => by
        have q := s4 _ _ (h2 _ _ e)
        exact b6 b o (ne_of_none q np) (s5 _ _ q)
      refine ⟨_, b6 L _ (ne_of_none h4 np) (s5 _ _ h4), ?_, ?_, Same.new' s6 hL⟩
      · rw [List.length_map, List.length_replicate, sizeLine_eq]
        omega
      · rw [upd_same, List.replicate_succ', List.map_append] <;> rfl
    · rintro H3 ⟨h1, h2⟩
      refine ⟨L, _, rfl, SqL.of h1, ?_⟩
      rw [all2]
      exact k H3
end
end Wb
namespace Wb
open PySem L2 WbMin WbO WbT WbS Lz Le Gx
theorem binds_nil {K : PySem.W.Frag} {fd : FuncData} {ps : List Str} (h : ∃ ds, Vals [] ds ∧ Binds K fd ps ds) : Binds K fd ps [] := by
  obtain ⟨ds, hv, hb⟩ := h
  cases hv
  exact hb
set_option maxHeartbeats 0 in
theorem all_mk {l : PySem.W.OpenLaw} {w : World} {K : PySem.W.Frag} {h : Heap} {mg : Str → Option Value} {fa C CK pT pKW tD : Addr} {t6 t4 t9 : Tok} {rT rKW : List Value} {oc_tD : Value} {od_tD : Option Addr} {n_tD : Nat} {sl_tD : Array (Option Value)} (X : K.In h) (G : h.Ns mainGlobals mg) (hfa : mg "law" = some (.ref fa))
    {f_cell f_pool f_draw f_shuf f_face f_whole f_odd f_signs f_turn f_every f_couples f_closes f_all f_listed f_refused f_right f_ksigns f_ksignof f_kfirst f_kispair f_kchpairs f_kallp f_khas f_kisword f_kgoes f_kturns f_kleast f_kintf f_kint f_law f_mI f_mT f_mKI f_mKR f_mKB f_mKW f_mKE : Addr} {od_cell an_cell od_pool an_pool od_draw an_draw od_shuf an_shuf od_face an_face od_whole an_whole od_odd an_odd od_signs an_signs od_turn an_turn od_every an_every od_couples an_couples od_closes an_closes od_all an_all od_listed an_listed od_refused an_refused od_right an_right od_ksigns an_ksigns od_ksignof an_ksignof od_kfirst an_kfirst od_kispair an_kispair od_kchpairs an_kchpairs od_kallp an_kallp od_khas an_khas od_kisword an_kisword od_kgoes an_kgoes od_kturns an_kturns od_kleast an_kleast od_kintf an_kintf od_kint an_kint od_law an_law od_mI an_mI od_mT an_mT od_mKI an_mKI od_mKR an_mKR od_mKB an_mKB od_mKW an_mKW od_mKE an_mKE : Option Addr} {sl_cell sl_pool sl_draw sl_shuf sl_face sl_whole sl_odd sl_signs sl_turn sl_every sl_couples sl_closes sl_all sl_listed sl_refused sl_right sl_ksigns sl_ksignof sl_kfirst sl_kispair sl_kchpairs sl_kallp sl_khas sl_kisword sl_kgoes sl_kturns sl_kleast sl_kintf sl_kint sl_law sl_mI sl_mT sl_mKI sl_mKR sl_mKB sl_mKW sl_mKE : Array (Option Value)}
    {oc_cell kv_cell dc_cell pm_cell cd_cell ct_cell oc_pool kv_pool dc_pool pm_pool cd_pool ct_pool oc_draw kv_draw dc_draw pm_draw cd_draw ct_draw oc_shuf kv_shuf dc_shuf pm_shuf cd_shuf ct_shuf oc_face kv_face dc_face pm_face cd_face ct_face oc_whole kv_whole dc_whole pm_whole cd_whole ct_whole oc_odd kv_odd dc_odd pm_odd cd_odd ct_odd oc_signs kv_signs dc_signs pm_signs cd_signs ct_signs oc_turn kv_turn dc_turn pm_turn cd_turn ct_turn oc_every kv_every dc_every pm_every cd_every ct_every oc_couples kv_couples dc_couples pm_couples cd_couples ct_couples oc_closes kv_closes dc_closes pm_closes cd_closes ct_closes oc_all kv_all dc_all pm_all cd_all ct_all oc_listed kv_listed dc_listed pm_listed cd_listed ct_listed oc_refused kv_refused dc_refused pm_refused cd_refused ct_refused oc_right kv_right dc_right pm_right cd_right ct_right oc_ksigns kv_ksigns dc_ksigns pm_ksigns cd_ksigns ct_ksigns oc_ksignof kv_ksignof dc_ksignof pm_ksignof cd_ksignof ct_ksignof oc_kfirst kv_kfirst dc_kfirst pm_kfirst cd_kfirst ct_kfirst oc_kispair kv_kispair dc_kispair pm_kispair cd_kispair ct_kispair oc_kchpairs kv_kchpairs dc_kchpairs pm_kchpairs cd_kchpairs ct_kchpairs oc_kallp kv_kallp dc_kallp pm_kallp cd_kallp ct_kallp oc_khas kv_khas dc_khas pm_khas cd_khas ct_khas oc_kisword kv_kisword dc_kisword pm_kisword cd_kisword ct_kisword oc_kgoes kv_kgoes dc_kgoes pm_kgoes cd_kgoes ct_kgoes oc_kturns kv_kturns dc_kturns pm_kturns cd_kturns ct_kturns oc_kleast kv_kleast dc_kleast pm_kleast cd_kleast ct_kleast oc_kintf kv_kintf dc_kintf pm_kintf cd_kintf ct_kintf oc_kint kv_kint dc_kint pm_kint cd_kint ct_kint oc_law kv_law dc_law pm_law cd_law ct_law oc_mI kv_mI dc_mI pm_mI cd_mI ct_mI oc_mT kv_mT dc_mT pm_mT cd_mT ct_mT oc_mKI kv_mKI dc_mKI pm_mKI cd_mKI ct_mKI oc_mKR kv_mKR dc_mKR pm_mKR cd_mKR ct_mKR oc_mKB kv_mKB dc_mKB pm_mKB cd_mKB ct_mKB oc_mKW kv_mKW dc_mKW pm_mKW cd_mKW ct_mKW oc_mKE kv_mKE dc_mKE pm_mKE cd_mKE ct_mKE : Value}
    {w0 cN NN f_eN : Addr}
    {nmN qN : Str}
    {bsN suN : List Value}
    {snN : List Str}
    {abN : Bool}
    {coN : Option Bool}
    {ddN : Option Addr}
    {xN_0 xN_1 xN_2 xN_3 xN_5 : Option Value}
    {od_eN an_eN : Option Addr}
    {sl_eN : Array (Option Value)}
    {oc_eN kv_eN dc_eN pm_eN cd_eN ct_eN : Value}
    (a_cell : PySem.W.nsIn K mainGlobals "_law_cell" = some (some (.ref f_cell)))
    (l_cell : K.lookup f_cell = some ⟨oc_cell, od_cell, .func (PySem.W.fnOf "_law_cell" "_law_cell" (defArgs sCell) (defBody sCell) (defScope sCell) .none kv_cell dc_cell pm_cell an_cell cd_cell ct_cell), sl_cell⟩)
    (c_cell : PySem.W.codeIn K cd_cell "_law_cell" = true)
    (k_cell : PySem.W.keepIn K (.ref f_cell) = true)
    (a_pool : PySem.W.nsIn K mainGlobals "_law_pool" = some (some (.ref f_pool)))
    (l_pool : K.lookup f_pool = some ⟨oc_pool, od_pool, .func (PySem.W.fnOf "_law_pool" "_law_pool" (defArgs sPool) (defBody sPool) (defScope sPool) .none kv_pool dc_pool pm_pool an_pool cd_pool ct_pool), sl_pool⟩)
    (c_pool : PySem.W.codeIn K cd_pool "_law_pool" = true)
    (k_pool : PySem.W.keepIn K (.ref f_pool) = true)
    (a_draw : PySem.W.nsIn K mainGlobals "_law_draw" = some (some (.ref f_draw)))
    (l_draw : K.lookup f_draw = some ⟨oc_draw, od_draw, .func (PySem.W.fnOf "_law_draw" "_law_draw" (defArgs sDraw) (defBody sDraw) (defScope sDraw) .none kv_draw dc_draw pm_draw an_draw cd_draw ct_draw), sl_draw⟩)
    (c_draw : PySem.W.codeIn K cd_draw "_law_draw" = true)
    (k_draw : PySem.W.keepIn K (.ref f_draw) = true)
    (a_shuf : PySem.W.nsIn K mainGlobals "_law_shuffled" = some (some (.ref f_shuf)))
    (l_shuf : K.lookup f_shuf = some ⟨oc_shuf, od_shuf, .func (PySem.W.fnOf "_law_shuffled" "_law_shuffled" (defArgs sShuf) (defBody sShuf) (defScope sShuf) .none kv_shuf dc_shuf pm_shuf an_shuf cd_shuf ct_shuf), sl_shuf⟩)
    (c_shuf : PySem.W.codeIn K cd_shuf "_law_shuffled" = true)
    (k_shuf : PySem.W.keepIn K (.ref f_shuf) = true)
    (a_face : PySem.W.nsIn K mainGlobals "_law_face" = some (some (.ref f_face)))
    (l_face : K.lookup f_face = some ⟨oc_face, od_face, .func (PySem.W.fnOf "_law_face" "_law_face" (defArgs sFace) (defBody sFace) (defScope sFace) .none kv_face dc_face pm_face an_face cd_face ct_face), sl_face⟩)
    (c_face : PySem.W.codeIn K cd_face "_law_face" = true)
    (k_face : PySem.W.keepIn K (.ref f_face) = true)
    (a_whole : PySem.W.nsIn K mainGlobals "_law_whole" = some (some (.ref f_whole)))
    (l_whole : K.lookup f_whole = some ⟨oc_whole, od_whole, .func (PySem.W.fnOf "_law_whole" "_law_whole" (defArgs sLWhole) (defBody sLWhole) (defScope sLWhole) .none kv_whole dc_whole pm_whole an_whole cd_whole ct_whole), sl_whole⟩)
    (c_whole : PySem.W.codeIn K cd_whole "_law_whole" = true)
    (k_whole : PySem.W.keepIn K (.ref f_whole) = true)
    (a_odd : PySem.W.nsIn K mainGlobals "_law_odd" = some (some (.ref f_odd)))
    (l_odd : K.lookup f_odd = some ⟨oc_odd, od_odd, .func (PySem.W.fnOf "_law_odd" "_law_odd" (defArgs sLOdd) (defBody sLOdd) (defScope sLOdd) .none kv_odd dc_odd pm_odd an_odd cd_odd ct_odd), sl_odd⟩)
    (c_odd : PySem.W.codeIn K cd_odd "_law_odd" = true)
    (k_odd : PySem.W.keepIn K (.ref f_odd) = true)
    (a_signs : PySem.W.nsIn K mainGlobals "_law_signs" = some (some (.ref f_signs)))
    (l_signs : K.lookup f_signs = some ⟨oc_signs, od_signs, .func (PySem.W.fnOf "_law_signs" "_law_signs" (defArgs sSigns) (defBody sSigns) (defScope sSigns) .none kv_signs dc_signs pm_signs an_signs cd_signs ct_signs), sl_signs⟩)
    (c_signs : PySem.W.codeIn K cd_signs "_law_signs" = true)
    (k_signs : PySem.W.keepIn K (.ref f_signs) = true)
    (a_turn : PySem.W.nsIn K mainGlobals "_law_turnings" = some (some (.ref f_turn)))
    (l_turn : K.lookup f_turn = some ⟨oc_turn, od_turn, .func (PySem.W.fnOf "_law_turnings" "_law_turnings" (defArgs sGLT) (defBody sGLT) (defScope sGLT) .none kv_turn dc_turn pm_turn an_turn cd_turn ct_turn), sl_turn⟩)
    (c_turn : PySem.W.codeIn K cd_turn "_law_turnings" = true)
    (k_turn : PySem.W.keepIn K (.ref f_turn) = true)
    (a_every : PySem.W.nsIn K mainGlobals "_law_every" = some (some (.ref f_every)))
    (l_every : K.lookup f_every = some ⟨oc_every, od_every, .func (PySem.W.fnOf "_law_every" "_law_every" (defArgs sEvery) (defBody sEvery) (defScope sEvery) .none kv_every dc_every pm_every an_every cd_every ct_every), sl_every⟩)
    (c_every : PySem.W.codeIn K cd_every "_law_every" = true)
    (k_every : PySem.W.keepIn K (.ref f_every) = true)
    (a_couples : PySem.W.nsIn K mainGlobals "_law_couples" = some (some (.ref f_couples)))
    (l_couples : K.lookup f_couples = some ⟨oc_couples, od_couples, .func (PySem.W.fnOf "_law_couples" "_law_couples" (defArgs sCouples) (defBody sCouples) (defScope sCouples) .none kv_couples dc_couples pm_couples an_couples cd_couples ct_couples), sl_couples⟩)
    (c_couples : PySem.W.codeIn K cd_couples "_law_couples" = true)
    (k_couples : PySem.W.keepIn K (.ref f_couples) = true)
    (a_closes : PySem.W.nsIn K mainGlobals "_law_closes" = some (some (.ref f_closes)))
    (l_closes : K.lookup f_closes = some ⟨oc_closes, od_closes, .func (PySem.W.fnOf "_law_closes" "_law_closes" (defArgs sGCl) (defBody sGCl) (defScope sGCl) .none kv_closes dc_closes pm_closes an_closes cd_closes ct_closes), sl_closes⟩)
    (c_closes : PySem.W.codeIn K cd_closes "_law_closes" = true)
    (k_closes : PySem.W.keepIn K (.ref f_closes) = true)
    (a_all : PySem.W.nsIn K mainGlobals "_law_all" = some (some (.ref f_all)))
    (l_all : K.lookup f_all = some ⟨oc_all, od_all, .func (PySem.W.fnOf "_law_all" "_law_all" (defArgs sGAll) (defBody sGAll) (defScope sGAll) .none kv_all dc_all pm_all an_all cd_all ct_all), sl_all⟩)
    (c_all : PySem.W.codeIn K cd_all "_law_all" = true)
    (k_all : PySem.W.keepIn K (.ref f_all) = true)
    (a_listed : PySem.W.nsIn K mainGlobals "_law_listed" = some (some (.ref f_listed)))
    (l_listed : K.lookup f_listed = some ⟨oc_listed, od_listed, .func (PySem.W.fnOf "_law_listed" "_law_listed" (defArgs sGLi) (defBody sGLi) (defScope sGLi) .none kv_listed dc_listed pm_listed an_listed cd_listed ct_listed), sl_listed⟩)
    (c_listed : PySem.W.codeIn K cd_listed "_law_listed" = true)
    (k_listed : PySem.W.keepIn K (.ref f_listed) = true)
    (a_refused : PySem.W.nsIn K mainGlobals "_law_refused" = some (some (.ref f_refused)))
    (l_refused : K.lookup f_refused = some ⟨oc_refused, od_refused, .func (PySem.W.fnOf "_law_refused" "_law_refused" (defArgs sGRf) (defBody sGRf) (defScope sGRf) .none kv_refused dc_refused pm_refused an_refused cd_refused ct_refused), sl_refused⟩)
    (c_refused : PySem.W.codeIn K cd_refused "_law_refused" = true)
    (k_refused : PySem.W.keepIn K (.ref f_refused) = true)
    (a_right : PySem.W.nsIn K mainGlobals "_law_right" = some (some (.ref f_right)))
    (l_right : K.lookup f_right = some ⟨oc_right, od_right, .func (PySem.W.fnOf "_law_right" "_law_right" (defArgs sGRight) (defBody sGRight) (defScope sGRight) .none kv_right dc_right pm_right an_right cd_right ct_right), sl_right⟩)
    (c_right : PySem.W.codeIn K cd_right "_law_right" = true)
    (k_right : PySem.W.keepIn K (.ref f_right) = true)
    (a_ksigns : PySem.W.nsIn K mainGlobals "is_signs" = some (some (.ref f_ksigns)))
    (l_ksigns : K.lookup f_ksigns = some ⟨oc_ksigns, od_ksigns, .func (PySem.W.fnOf "is_signs" "is_signs" (defArgs sIsSigns) (defBody sIsSigns) (defScope sIsSigns) .none kv_ksigns dc_ksigns pm_ksigns an_ksigns cd_ksigns ct_ksigns), sl_ksigns⟩)
    (c_ksigns : PySem.W.codeIn K cd_ksigns "is_signs" = true)
    (k_ksigns : PySem.W.keepIn K (.ref f_ksigns) = true)
    (a_ksignof : PySem.W.nsIn K mainGlobals "is_sign_of" = some (some (.ref f_ksignof)))
    (l_ksignof : K.lookup f_ksignof = some ⟨oc_ksignof, od_ksignof, .func (PySem.W.fnOf "is_sign_of" "is_sign_of" (defArgs sSignOf) (defBody sSignOf) (defScope sSignOf) .none kv_ksignof dc_ksignof pm_ksignof an_ksignof cd_ksignof ct_ksignof), sl_ksignof⟩)
    (c_ksignof : PySem.W.codeIn K cd_ksignof "is_sign_of" = true)
    (k_ksignof : PySem.W.keepIn K (.ref f_ksignof) = true)
    (a_kfirst : PySem.W.nsIn K mainGlobals "first_wrong" = some (some (.ref f_kfirst)))
    (l_kfirst : K.lookup f_kfirst = some ⟨oc_kfirst, od_kfirst, .func (PySem.W.fnOf "first_wrong" "first_wrong" (defArgs sFirst) (defBody sFirst) (defScope sFirst) .none kv_kfirst dc_kfirst pm_kfirst an_kfirst cd_kfirst ct_kfirst), sl_kfirst⟩)
    (c_kfirst : PySem.W.codeIn K cd_kfirst "first_wrong" = true)
    (k_kfirst : PySem.W.keepIn K (.ref f_kfirst) = true)
    (a_kispair : PySem.W.nsIn K mainGlobals "_is_pair" = some (some (.ref f_kispair)))
    (l_kispair : K.lookup f_kispair = some ⟨oc_kispair, od_kispair, .func (PySem.W.fnOf "_is_pair" "_is_pair" (defArgs sIsPair) (defBody sIsPair) (defScope sIsPair) .none kv_kispair dc_kispair pm_kispair an_kispair cd_kispair ct_kispair), sl_kispair⟩)
    (c_kispair : PySem.W.codeIn K cd_kispair "_is_pair" = true)
    (k_kispair : PySem.W.keepIn K (.ref f_kispair) = true)
    (a_kchpairs : PySem.W.nsIn K mainGlobals "_check_pairs" = some (some (.ref f_kchpairs)))
    (l_kchpairs : K.lookup f_kchpairs = some ⟨oc_kchpairs, od_kchpairs, .func (PySem.W.fnOf "_check_pairs" "_check_pairs" (defArgs sChPairs) (defBody sChPairs) (defScope sChPairs) .none kv_kchpairs dc_kchpairs pm_kchpairs an_kchpairs cd_kchpairs ct_kchpairs), sl_kchpairs⟩)
    (c_kchpairs : PySem.W.codeIn K cd_kchpairs "_check_pairs" = true)
    (k_kchpairs : PySem.W.keepIn K (.ref f_kchpairs) = true)
    (a_kallp : PySem.W.nsIn K mainGlobals "_all_pairs" = some (some (.ref f_kallp)))
    (l_kallp : K.lookup f_kallp = some ⟨oc_kallp, od_kallp, .func (PySem.W.fnOf "_all_pairs" "_all_pairs" (defArgs sAllP) (defBody sAllP) (defScope sAllP) .none kv_kallp dc_kallp pm_kallp an_kallp cd_kallp ct_kallp), sl_kallp⟩)
    (c_kallp : PySem.W.codeIn K cd_kallp "_all_pairs" = true)
    (k_kallp : PySem.W.keepIn K (.ref f_kallp) = true)
    (a_khas : PySem.W.nsIn K mainGlobals "_has_ring" = some (some (.ref f_khas)))
    (l_khas : K.lookup f_khas = some ⟨oc_khas, od_khas, .func (PySem.W.fnOf "_has_ring" "_has_ring" (defArgs sHas) (defBody sHas) (defScope sHas) .none kv_khas dc_khas pm_khas an_khas cd_khas ct_khas), sl_khas⟩)
    (c_khas : PySem.W.codeIn K cd_khas "_has_ring" = true)
    (k_khas : PySem.W.keepIn K (.ref f_khas) = true)
    (a_kisword : PySem.W.nsIn K mainGlobals "is_word" = some (some (.ref f_kisword)))
    (l_kisword : K.lookup f_kisword = some ⟨oc_kisword, od_kisword, .func (PySem.W.fnOf "is_word" "is_word" (defArgs sIsWord) (defBody sIsWord) (defScope sIsWord) .none kv_kisword dc_kisword pm_kisword an_kisword cd_kisword ct_kisword), sl_kisword⟩)
    (c_kisword : PySem.W.codeIn K cd_kisword "is_word" = true)
    (k_kisword : PySem.W.keepIn K (.ref f_kisword) = true)
    (a_kgoes : PySem.W.nsIn K mainGlobals "_goes_round" = some (some (.ref f_kgoes)))
    (l_kgoes : K.lookup f_kgoes = some ⟨oc_kgoes, od_kgoes, .func (PySem.W.fnOf "_goes_round" "_goes_round" (defArgs sGoes) (defBody sGoes) (defScope sGoes) .none kv_kgoes dc_kgoes pm_kgoes an_kgoes cd_kgoes ct_kgoes), sl_kgoes⟩)
    (c_kgoes : PySem.W.codeIn K cd_kgoes "_goes_round" = true)
    (k_kgoes : PySem.W.keepIn K (.ref f_kgoes) = true)
    (a_kturns : PySem.W.nsIn K mainGlobals "_all_turnings" = some (some (.ref f_kturns)))
    (l_kturns : K.lookup f_kturns = some ⟨oc_kturns, od_kturns, .func (PySem.W.fnOf "_all_turnings" "_all_turnings" (defArgs sTurns) (defBody sTurns) (defScope sTurns) .none kv_kturns dc_kturns pm_kturns an_kturns cd_kturns ct_kturns), sl_kturns⟩)
    (c_kturns : PySem.W.codeIn K cd_kturns "_all_turnings" = true)
    (k_kturns : PySem.W.keepIn K (.ref f_kturns) = true)
    (a_kleast : PySem.W.nsIn K mainGlobals "_least_turnings" = some (some (.ref f_kleast)))
    (l_kleast : K.lookup f_kleast = some ⟨oc_kleast, od_kleast, .func (PySem.W.fnOf "_least_turnings" "_least_turnings" (defArgs sLeast) (defBody sLeast) (defScope sLeast) .none kv_kleast dc_kleast pm_kleast an_kleast cd_kleast ct_kleast), sl_kleast⟩)
    (c_kleast : PySem.W.codeIn K cd_kleast "_least_turnings" = true)
    (k_kleast : PySem.W.keepIn K (.ref f_kleast) = true)
    (a_kintf : PySem.W.nsIn K mainGlobals "is_integer_from" = some (some (.ref f_kintf)))
    (l_kintf : K.lookup f_kintf = some ⟨oc_kintf, od_kintf, .func (PySem.W.fnOf "is_integer_from" "is_integer_from" (defArgs sIsIntF) (defBody sIsIntF) (defScope sIsIntF) .none kv_kintf dc_kintf pm_kintf an_kintf cd_kintf ct_kintf), sl_kintf⟩)
    (c_kintf : PySem.W.codeIn K cd_kintf "is_integer_from" = true)
    (k_kintf : PySem.W.keepIn K (.ref f_kintf) = true)
    (a_kint : PySem.W.nsIn K mainGlobals "is_integer" = some (some (.ref f_kint)))
    (l_kint : K.lookup f_kint = some ⟨oc_kint, od_kint, .func (PySem.W.fnOf "is_integer" "is_integer" (defArgs sIsInt) (defBody sIsInt) (defScope sIsInt) .none kv_kint dc_kint pm_kint an_kint cd_kint ct_kint), sl_kint⟩)
    (c_kint : PySem.W.codeIn K cd_kint "is_integer" = true)
    (k_kint : PySem.W.keepIn K (.ref f_kint) = true)
    (a_law : PySem.W.nsIn K mainGlobals "law" = some (some (.ref f_law)))
    (l_law : K.lookup f_law = some ⟨oc_law, od_law, .func (PySem.W.fnOf "law" "law" (defArgs sGLaw) (defBody sGLaw) (defScope sGLaw) .none kv_law dc_law pm_law an_law cd_law ct_law), sl_law⟩)
    (c_law : PySem.W.codeIn K cd_law "law" = true)
    (k_law : PySem.W.keepIn K (.ref f_law) = true)
    (aC : PySem.W.nsIn K mainGlobals "Ring" = some (some (.ref C)))
    (aCK : PySem.W.nsIn K mainGlobals "Kind" = some (some (.ref CK)))
    (a_mI : PySem.W.findIn K (.ref C) "__init__" = some (some (.ref f_mI)))
    (i_mI : PySem.W.isFn K (.ref f_mI) = true)
    (l_mI : K.lookup f_mI = some ⟨oc_mI, od_mI, .func (PySem.W.fnOf "__init__" "Ring.__init__" (defArgs sInit) (defBody sInit) (defScope sInit) .none kv_mI dc_mI pm_mI an_mI cd_mI ct_mI), sl_mI⟩)
    (c_mI : PySem.W.codeIn K cd_mI "Ring.__init__" = true)
    (k_mI : PySem.W.keepIn K (.ref f_mI) = true)
    (p_atT : PySem.W.findIn K (.ref C) "text" = some (some (.ref pT)))
    (p_getT : PySem.W.specialIn K (.ref pT) "__get__" = some (some (.builtin "property.__get__")))
    (p_takT : PySem.W.takesIn K (.ref pT) = some true)
    (p_recT : PySem.W.recIn K pT "property" = some (.ref f_mT :: rT))
    (l_mT : K.lookup f_mT = some ⟨oc_mT, od_mT, .func (PySem.W.fnOf "text" "Ring.text" (defArgs sTextG) (defBody sTextG) (defScope sTextG) .none kv_mT dc_mT pm_mT an_mT cd_mT ct_mT), sl_mT⟩)
    (c_mT : PySem.W.codeIn K cd_mT "Ring.text" = true)
    (k_mT : PySem.W.keepIn K (.ref f_mT) = true)
    (a_mKI : PySem.W.findIn K (.ref CK) "__init__" = some (some (.ref f_mKI)))
    (i_mKI : PySem.W.isFn K (.ref f_mKI) = true)
    (l_mKI : K.lookup f_mKI = some ⟨oc_mKI, od_mKI, .func (PySem.W.fnOf "__init__" "Kind.__init__" (defArgs sKInit) (defBody sKInit) (defScope sKInit) (.ref tD) kv_mKI dc_mKI pm_mKI an_mKI cd_mKI ct_mKI), sl_mKI⟩)
    (c_mKI : PySem.W.codeIn K cd_mKI "Kind.__init__" = true)
    (k_mKI : PySem.W.keepIn K (.ref f_mKI) = true)
    (a_mKR : PySem.W.findIn K (.ref CK) "rings" = some (some (.ref f_mKR)))
    (i_mKR : PySem.W.isFn K (.ref f_mKR) = true)
    (l_mKR : K.lookup f_mKR = some ⟨oc_mKR, od_mKR, .func (PySem.W.fnOf "rings" "Kind.rings" (defArgs sKRings) (defBody sKRings) (defScope sKRings) .none kv_mKR dc_mKR pm_mKR an_mKR cd_mKR ct_mKR), sl_mKR⟩)
    (c_mKR : PySem.W.codeIn K cd_mKR "Kind.rings" = true)
    (k_mKR : PySem.W.keepIn K (.ref f_mKR) = true)
    (a_mKB : PySem.W.findIn K (.ref CK) "__bool__" = some (some (.ref f_mKB)))
    (i_mKB : PySem.W.isFn K (.ref f_mKB) = true)
    (l_mKB : K.lookup f_mKB = some ⟨oc_mKB, od_mKB, .func (PySem.W.fnOf "__bool__" "Kind.__bool__" (defArgs sKBool) (defBody sKBool) (defScope sKBool) .none kv_mKB dc_mKB pm_mKB an_mKB cd_mKB ct_mKB), sl_mKB⟩)
    (c_mKB : PySem.W.codeIn K cd_mKB "Kind.__bool__" = true)
    (k_mKB : PySem.W.keepIn K (.ref f_mKB) = true)
    (p_atKW : PySem.W.findIn K (.ref CK) "row" = some (some (.ref pKW)))
    (p_getKW : PySem.W.specialIn K (.ref pKW) "__get__" = some (some (.builtin "property.__get__")))
    (p_takKW : PySem.W.takesIn K (.ref pKW) = some true)
    (p_recKW : PySem.W.recIn K pKW "property" = some (.ref f_mKW :: rKW))
    (l_mKW : K.lookup f_mKW = some ⟨oc_mKW, od_mKW, .func (PySem.W.fnOf "row" "Kind.row" (defArgs sKRow) (defBody sKRow) (defScope sKRow) .none kv_mKW dc_mKW pm_mKW an_mKW cd_mKW ct_mKW), sl_mKW⟩)
    (c_mKW : PySem.W.codeIn K cd_mKW "Kind.row" = true)
    (k_mKW : PySem.W.keepIn K (.ref f_mKW) = true)
    (a_mKE : PySem.W.findIn K (.ref CK) "__eq__" = some (some (.ref f_mKE)))
    (i_mKE : PySem.W.isFn K (.ref f_mKE) = true)
    (l_mKE : K.lookup f_mKE = some ⟨oc_mKE, od_mKE, .func (PySem.W.fnOf "__eq__" "Kind.__eq__" (defArgs sKEq) (defBody sKEq) (defScope sKEq) .none kv_mKE dc_mKE pm_mKE an_mKE cd_mKE ct_mKE), sl_mKE⟩)
    (c_mKE : PySem.W.codeIn K cd_mKE "Kind.__eq__" = true)
    (k_mKE : PySem.W.keepIn K (.ref f_mKE) = true)
    (l_tD : K.lookup tD = some ⟨oc_tD, od_tD, .seq #[.none] n_tD, sl_tD⟩)
    (pg : PySem.W.plainGet K C Str.empty = true)
    (hd : PySem.W.hasDictIn K C = true)
    (po : PySem.W.plainOver K C = true)
    (sa : PySem.W.findIn K (.ref C) "__setattr__" = some (some (.builtin "object.__setattr__")))
    (mk : PySem.W.makesIn K C = true)
    (kc : PySem.W.keepIn K (.ref C) = true)
    (cc : PySem.W.findIn K (.ref C) "__class__" = some (some (.builtin "object.__class__")))
    (co : PySem.W.mroIn K C (.type "object") = some true)
    (pgKd : PySem.W.plainGet K CK Str.empty = true)
    (hdKd : PySem.W.hasDictIn K CK = true)
    (poKd : PySem.W.plainOver K CK = true)
    (saKd : PySem.W.findIn K (.ref CK) "__setattr__" = some (some (.builtin "object.__setattr__")))
    (mkKd : PySem.W.makesIn K CK = true)
    (kcKd : PySem.W.keepIn K (.ref CK) = true)
    (ccKd : PySem.W.findIn K (.ref CK) "__class__" = some (some (.builtin "object.__class__")))
    (coKd : PySem.W.mroIn K CK (.type "object") = some true)
    (nT : PySem.W.findIn K (.ref C) "_text" = some none)
    (nP_ : PySem.W.findIn K (.ref C) "_period" = some none)
    (nSK : PySem.W.findIn K (.ref CK) "_signs" = some none)
    (nPK : PySem.W.findIn K (.ref CK) "_pairs" = some none)
    (nRK : PySem.W.findIn K (.ref CK) "_ringed" = some none)
    (cg : PySem.W.specialIn K (.builtin "object.__class__") "__get__" = some (some (.builtin "getset_descriptor.__get__")))
    (ct : PySem.W.takesIn K (.builtin "object.__class__") = some true)
    (g6 : PySem.W.nsIn K mainGlobals "MOST_WORD" = some (some (.int 600 t6)))
    (g4 : PySem.W.nsIn K mainGlobals "MOST_SIGNS" = some (some (.int 4 t4)))
    (g9 : PySem.W.nsIn K mainGlobals "MOST_LENGTH" = some (some (.int 9 t9)))
    (aXN : PySem.W.nsIn K mainGlobals "InvalidNumber" = some (some (.ref cN)))
    (exN : PySem.W.subIn K (.ref cN) (.type "BaseException") = some true)
    (tyN : PySem.W.typeIn K (.ref cN) = some (.type "type"))
    (hdNx : PySem.W.hasDictIn K cN = true)
    (kcNx : PySem.W.keepIn K (.ref cN) = true)
    (gaN : PySem.W.findIn K (.ref cN) "__getattribute__" = some (some (.builtin "BaseException.__getattribute__")))
    (ggN : PySem.W.findIn K (.ref cN) "__getattr__" = some none)
    (noN : PySem.W.findIn K (.ref cN) "given" = some none)
    (sNN : PySem.W.subIn K (.ref cN) (.ref cN) = some true)
    (sNS : PySem.W.subIn K (.ref cN) (.type "StopIteration") = some false)
    (xLN : K.lookup cN = some (excClassObj nmN qN cN NN bsN (.ref w0 :: [.type "ValueError", .type "Exception", .type "BaseException", .type "object"]) true snN suN abN coN ddN xN_0 xN_1 xN_2 xN_3 xN_5 "ValueError.__new__"))
    (saNx : PySem.W.findIn K (.ref cN) "__setattr__" = some (some (.builtin "object.__setattr__")))
    (iniN : PySem.W.findIn K (.ref cN) "__init__" = some (some (.ref f_eN)))
    (fnN : PySem.W.typeIn K (.ref f_eN) = some (.type "function"))
    (l_eN : K.lookup f_eN = some ⟨oc_eN, od_eN, .func (PySem.W.fnOf "__init__" "InvalidNumber.__init__" (defArgs sErrInvalidNumber) (defBody sErrInvalidNumber) (defScope sErrInvalidNumber) .none kv_eN dc_eN pm_eN an_eN cd_eN ct_eN), sl_eN⟩)
    (c_eN : PySem.W.codeIn K cd_eN "InvalidNumber.__init__" = true)
    (k_eN : PySem.W.keepIn K (.ref f_eN) = true)
    (nf : PySem.W.notFirst K CK (.ref CK) = true)
    (z_int : PySem.W.nsIn K mainGlobals "int" = some none)
    (z_len : PySem.W.nsIn K mainGlobals "len" = some none)
    (z_range : PySem.W.nsIn K mainGlobals "range" = some none)
    (z_divmod : PySem.W.nsIn K mainGlobals "divmod" = some none)
    (z_abs : PySem.W.nsIn K mainGlobals "abs" = some none)
    (z_isinstance : PySem.W.nsIn K mainGlobals "isinstance" = some none)
    (z_str : PySem.W.nsIn K mainGlobals "str" = some none)
    (z_all : PySem.W.nsIn K mainGlobals "all" = some none)
    (z_min : PySem.W.nsIn K mainGlobals "min" = some none)
    (z_max : PySem.W.nsIn K mainGlobals "max" = some none)
    (z_set : PySem.W.nsIn K mainGlobals "set" = some none)
    (z_bool : PySem.W.nsIn K mainGlobals "bool" = some none)
    (z_tuple : PySem.W.nsIn K mainGlobals "tuple" = some none)
    (z_list : PySem.W.nsIn K mainGlobals "list" = some none)
    (z_any : PySem.W.nsIn K mainGlobals "any" = some none)
    (z_enumerate : PySem.W.nsIn K mainGlobals "enumerate" = some none)
    (z_sorted : PySem.W.nsIn K mainGlobals "sorted" = some none)
    (z_dict : PySem.W.nsIn K mainGlobals "dict" = some none) :
    ∃ fd : FuncData, (∀ (s : Shared) (v : Value), BindsTo s fd ⟨[v], []⟩ [("_law_script", v)]) ∧ ∀ base : Heap, K.In base → base.Ns mainGlobals mg → FnOk l.prog w K mg base CX0 11 fa fd ["_law_script"] (spLaw K) := by
  have e := hfa.symm.trans (PySem.W.mg_of X G a_law)
  cases e
  have T : Txt K mg C := ⟨⟨pg, hd, po, sa⟩, nT, nP_, PySem.W.mg_of X G aC, cc, cg, ct, co⟩
  have TK : KTxt K mg CK := ⟨⟨pgKd, hdKd, poKd, saKd⟩, nSK, nPK, nRK, PySem.W.mg_of X G aCK, ccKd, coKd⟩
  have Z_int := PySem.W.mg_none_of X G z_int
  have Z_len := PySem.W.mg_none_of X G z_len
  have Z_range := PySem.W.mg_none_of X G z_range
  have Z_divmod := PySem.W.mg_none_of X G z_divmod
  have Z_abs := PySem.W.mg_none_of X G z_abs
  have Z_isinstance := PySem.W.mg_none_of X G z_isinstance
  have Z_str := PySem.W.mg_none_of X G z_str
  have Z_all := PySem.W.mg_none_of X G z_all
  have Z_min := PySem.W.mg_none_of X G z_min
  have Z_max := PySem.W.mg_none_of X G z_max
  have Z_set := PySem.W.mg_none_of X G z_set
  have Z_bool := PySem.W.mg_none_of X G z_bool
  have Z_tuple := PySem.W.mg_none_of X G z_tuple
  have Z_list := PySem.W.mg_none_of X G z_list
  have Z_any := PySem.W.mg_none_of X G z_any
  have Z_enumerate := PySem.W.mg_none_of X G z_enumerate
  have Z_sorted := PySem.W.mg_none_of X G z_sorted
  have Z_dict := PySem.W.mg_none_of X G z_dict
  have Z : Free mg := ⟨Z_int, Z_len, Z_range, Z_divmod, Z_abs, Z_isinstance, Z_str, Z_all, Z_min, Z_max, Z_set, Z_bool⟩
  have F_cell := fun_mk (st := sCell) l_cell c_cell k_cell
  have b_cell := F_cell.binds (ps := ["_law_script", "_law_k"]) fun _ _ _ _ _ _ us hl => match us, hl with | [_, _], _ => rfl
  have D_cell : Def K mg "_law_cell" sCell ["_law_script", "_law_k"] f_cell _ := ⟨F_cell, PySem.W.mg_of X G a_cell, k_cell, b_cell⟩
  have F_pool := fun_mk (st := sPool) l_pool c_pool k_pool
  have b_pool := F_pool.binds (ps := ["_law_cell_here"]) fun _ _ _ _ _ _ us hl => match us, hl with | [_], _ => rfl
  have D_pool : Def K mg "_law_pool" sPool ["_law_cell_here"] f_pool _ := ⟨F_pool, PySem.W.mg_of X G a_pool, k_pool, b_pool⟩
  have F_draw := fun_mk (st := sDraw) l_draw c_draw k_draw
  have b_draw := F_draw.binds (ps := ["_law_pool_here", "_law_many"]) fun _ _ _ _ _ _ us hl => match us, hl with | [_, _], _ => rfl
  have D_draw : Def K mg "_law_draw" sDraw ["_law_pool_here", "_law_many"] f_draw _ := ⟨F_draw, PySem.W.mg_of X G a_draw, k_draw, b_draw⟩
  have F_shuf := fun_mk (st := sShuf) l_shuf c_shuf k_shuf
  have b_shuf := F_shuf.binds (ps := ["_law_pool_here", "_law_things"]) fun _ _ _ _ _ _ us hl => match us, hl with | [_, _], _ => rfl
  have D_shuf : Def K mg "_law_shuffled" sShuf ["_law_pool_here", "_law_things"] f_shuf _ := ⟨F_shuf, PySem.W.mg_of X G a_shuf, k_shuf, b_shuf⟩
  have F_face := fun_mk (st := sFace) l_face c_face k_face
  have b_face := F_face.binds (ps := ["_law_thing"]) fun _ _ _ _ _ _ us hl => match us, hl with | [_], _ => rfl
  have D_face : Def K mg "_law_face" sFace ["_law_thing"] f_face _ := ⟨F_face, PySem.W.mg_of X G a_face, k_face, b_face⟩
  have F_whole := fun_mk (st := sLWhole) l_whole c_whole k_whole
  have b_whole := F_whole.binds (ps := ["_law_thing"]) fun _ _ _ _ _ _ us hl => match us, hl with | [_], _ => rfl
  have D_whole : Def K mg "_law_whole" sLWhole ["_law_thing"] f_whole _ := ⟨F_whole, PySem.W.mg_of X G a_whole, k_whole, b_whole⟩
  have F_odd := fun_mk (st := sLOdd) l_odd c_odd k_odd
  have b_odd := F_odd.binds (ps := ["_law_pool_here"]) fun _ _ _ _ _ _ us hl => match us, hl with | [_], _ => rfl
  have D_odd : Def K mg "_law_odd" sLOdd ["_law_pool_here"] f_odd _ := ⟨F_odd, PySem.W.mg_of X G a_odd, k_odd, b_odd⟩
  have F_signs := fun_mk (st := sSigns) l_signs c_signs k_signs
  have b_signs := F_signs.binds (ps := ["_law_pool_here", "_law_most"]) fun _ _ _ _ _ _ us hl => match us, hl with | [_, _], _ => rfl
  have D_signs : Def K mg "_law_signs" sSigns ["_law_pool_here", "_law_most"] f_signs _ := ⟨F_signs, PySem.W.mg_of X G a_signs, k_signs, b_signs⟩
  have F_turn := fun_mk (st := sGLT) l_turn c_turn k_turn
  have b_turn := F_turn.binds (ps := ["_law_word"]) fun _ _ _ _ _ _ us hl => match us, hl with | [_], _ => rfl
  have D_turn : Def K mg "_law_turnings" sGLT ["_law_word"] f_turn _ := ⟨F_turn, PySem.W.mg_of X G a_turn, k_turn, b_turn⟩
  have F_every := fun_mk (st := sEvery) l_every c_every k_every
  have b_every := F_every.binds (ps := ["_law_abc"]) fun _ _ _ _ _ _ us hl => match us, hl with | [_], _ => rfl
  have D_every : Def K mg "_law_every" sEvery ["_law_abc"] f_every _ := ⟨F_every, PySem.W.mg_of X G a_every, k_every, b_every⟩
  have F_couples := fun_mk (st := sCouples) l_couples c_couples k_couples
  have b_couples := F_couples.binds (ps := ["_law_pool_here", "_law_abc"]) fun _ _ _ _ _ _ us hl => match us, hl with | [_, _], _ => rfl
  have D_couples : Def K mg "_law_couples" sCouples ["_law_pool_here", "_law_abc"] f_couples _ := ⟨F_couples, PySem.W.mg_of X G a_couples, k_couples, b_couples⟩
  have F_closes := fun_mk (st := sGCl) l_closes c_closes k_closes
  have b_closes := F_closes.binds (ps := ["_law_word", "_law_some"]) fun _ _ _ _ _ _ us hl => match us, hl with | [_, _], _ => rfl
  have D_closes : Def K mg "_law_closes" sGCl ["_law_word", "_law_some"] f_closes _ := ⟨F_closes, PySem.W.mg_of X G a_closes, k_closes, b_closes⟩
  have F_all := fun_mk (st := sGAll) l_all c_all k_all
  have b_all := F_all.binds (ps := ["_law_abc", "_law_some", "_law_size"]) fun _ _ _ _ _ _ us hl => match us, hl with | [_, _, _], _ => rfl
  have D_all : Def K mg "_law_all" sGAll ["_law_abc", "_law_some", "_law_size"] f_all _ := ⟨F_all, PySem.W.mg_of X G a_all, k_all, b_all⟩
  have F_listed := fun_mk (st := sGLi) l_listed c_listed k_listed
  have b_listed := F_listed.binds (ps := ["_law_kind", "_law_size"]) fun _ _ _ _ _ _ us hl => match us, hl with | [_, _], _ => rfl
  have D_listed : Def K mg "_law_listed" sGLi ["_law_kind", "_law_size"] f_listed _ := ⟨F_listed, PySem.W.mg_of X G a_listed, k_listed, b_listed⟩
  have F_refused := fun_mk (st := sGRf) l_refused c_refused k_refused
  have b_refused := F_refused.binds (ps := ["_law_kind", "_law_size"]) fun _ _ _ _ _ _ us hl => match us, hl with | [_, _], _ => rfl
  have D_refused : Def K mg "_law_refused" sGRf ["_law_kind", "_law_size"] f_refused _ := ⟨F_refused, PySem.W.mg_of X G a_refused, k_refused, b_refused⟩
  have F_right := fun_mk (st := sGRight) l_right c_right k_right
  have b_right := F_right.binds (ps := ["_law_pool_here"]) fun _ _ _ _ _ _ us hl => match us, hl with | [_], _ => rfl
  have D_right : Def K mg "_law_right" sGRight ["_law_pool_here"] f_right _ := ⟨F_right, PySem.W.mg_of X G a_right, k_right, b_right⟩
  have F_ksigns := fun_mk (st := sIsSigns) l_ksigns c_ksigns k_ksigns
  have b_ksigns := F_ksigns.binds (ps := ["value"]) fun _ _ _ _ _ _ us hl => match us, hl with | [_], _ => rfl
  have D_ksigns : Def K mg "is_signs" sIsSigns ["value"] f_ksigns _ := ⟨F_ksigns, PySem.W.mg_of X G a_ksigns, k_ksigns, b_ksigns⟩
  have F_ksignof := fun_mk (st := sSignOf) l_ksignof c_ksignof k_ksignof
  have b_ksignof := F_ksignof.binds (ps := ["value", "signs"]) fun _ _ _ _ _ _ us hl => match us, hl with | [_, _], _ => rfl
  have D_ksignof : Def K mg "is_sign_of" sSignOf ["value", "signs"] f_ksignof _ := ⟨F_ksignof, PySem.W.mg_of X G a_ksignof, k_ksignof, b_ksignof⟩
  have F_kfirst := fun_mk (st := sFirst) l_kfirst c_kfirst k_kfirst
  have b_kfirst := F_kfirst.binds (ps := ["values", "right"]) fun _ _ _ _ _ _ us hl => match us, hl with | [_, _], _ => rfl
  have D_kfirst : Def K mg "first_wrong" sFirst ["values", "right"] f_kfirst _ := ⟨F_kfirst, PySem.W.mg_of X G a_kfirst, k_kfirst, b_kfirst⟩
  have F_kispair := fun_mk (st := sIsPair) l_kispair c_kispair k_kispair
  have b_kispair := F_kispair.binds (ps := ["value", "signs"]) fun _ _ _ _ _ _ us hl => match us, hl with | [_, _], _ => rfl
  have D_kispair : Def K mg "_is_pair" sIsPair ["value", "signs"] f_kispair _ := ⟨F_kispair, PySem.W.mg_of X G a_kispair, k_kispair, b_kispair⟩
  have F_kchpairs := fun_mk (st := sChPairs) l_kchpairs c_kchpairs k_kchpairs
  have b_kchpairs := F_kchpairs.binds (ps := ["pairs", "signs"]) fun _ _ _ _ _ _ us hl => match us, hl with | [_, _], _ => rfl
  have D_kchpairs : Def K mg "_check_pairs" sChPairs ["pairs", "signs"] f_kchpairs _ := ⟨F_kchpairs, PySem.W.mg_of X G a_kchpairs, k_kchpairs, b_kchpairs⟩
  have F_kallp := fun_mk (st := sAllP) l_kallp c_kallp k_kallp
  have b_kallp := F_kallp.binds (ps := ["signs"]) fun _ _ _ _ _ _ us hl => match us, hl with | [_], _ => rfl
  have D_kallp : Def K mg "_all_pairs" sAllP ["signs"] f_kallp _ := ⟨F_kallp, PySem.W.mg_of X G a_kallp, k_kallp, b_kallp⟩
  have F_khas := fun_mk (st := sHas) l_khas c_khas k_khas
  have b_khas := F_khas.binds (ps := ["signs", "pairs"]) fun _ _ _ _ _ _ us hl => match us, hl with | [_, _], _ => rfl
  have D_khas : Def K mg "_has_ring" sHas ["signs", "pairs"] f_khas _ := ⟨F_khas, PySem.W.mg_of X G a_khas, k_khas, b_khas⟩
  have F_kisword := fun_mk (st := sIsWord) l_kisword c_kisword k_kisword
  have b_kisword := F_kisword.binds (ps := ["value"]) fun _ _ _ _ _ _ us hl => match us, hl with | [_], _ => rfl
  have D_kisword : Def K mg "is_word" sIsWord ["value"] f_kisword _ := ⟨F_kisword, PySem.W.mg_of X G a_kisword, k_kisword, b_kisword⟩
  have F_kgoes := fun_mk (st := sGoes) l_kgoes c_kgoes k_kgoes
  have b_kgoes := F_kgoes.binds (ps := ["text", "pairs"]) fun _ _ _ _ _ _ us hl => match us, hl with | [_, _], _ => rfl
  have D_kgoes : Def K mg "_goes_round" sGoes ["text", "pairs"] f_kgoes _ := ⟨F_kgoes, PySem.W.mg_of X G a_kgoes, k_kgoes, b_kgoes⟩
  have F_kturns := fun_mk (st := sTurns) l_kturns c_kturns k_kturns
  have b_kturns := F_kturns.binds (ps := ["word"]) fun _ _ _ _ _ _ us hl => match us, hl with | [_], _ => rfl
  have D_kturns : Def K mg "_all_turnings" sTurns ["word"] f_kturns _ := ⟨F_kturns, PySem.W.mg_of X G a_kturns, k_kturns, b_kturns⟩
  have F_kleast := fun_mk (st := sLeast) l_kleast c_kleast k_kleast
  have b_kleast := F_kleast.binds (ps := ["signs", "length"]) fun _ _ _ _ _ _ us hl => match us, hl with | [_, _], _ => rfl
  have D_kleast : Def K mg "_least_turnings" sLeast ["signs", "length"] f_kleast _ := ⟨F_kleast, PySem.W.mg_of X G a_kleast, k_kleast, b_kleast⟩
  have F_kintf := fun_mk (st := sIsIntF) l_kintf c_kintf k_kintf
  have b_kintf := F_kintf.binds (ps := ["value", "least"]) fun _ _ _ _ _ _ us hl => match us, hl with | [_, _], _ => rfl
  have D_kintf : Def K mg "is_integer_from" sIsIntF ["value", "least"] f_kintf _ := ⟨F_kintf, PySem.W.mg_of X G a_kintf, k_kintf, b_kintf⟩
  have F_kint := fun_mk (st := sIsInt) l_kint c_kint k_kint
  have b_kint := F_kint.binds (ps := ["value"]) fun _ _ _ _ _ _ us hl => match us, hl with | [_], _ => rfl
  have D_kint : Def K mg "is_integer" sIsInt ["value"] f_kint _ := ⟨F_kint, PySem.W.mg_of X G a_kint, k_kint, b_kint⟩
  have F_mI := fun_mk (st := sInit) l_mI c_mI k_mI
  have b_mI := F_mI.binds (ps := ["self", "text"]) fun _ _ _ _ _ _ us hl => match us, hl with | [_, _], _ => rfl
  have F_mT := fun_mk (st := sTextG) l_mT c_mT k_mT
  have b_mT := F_mT.binds (ps := ["self"]) fun _ _ _ _ _ _ us hl => match us, hl with | [_], _ => rfl
  have P_mT : PropOf K C "text" pT f_mT := ⟨p_atT, p_getT, p_takT, ⟨_, p_recT⟩⟩
  have F_mKI : FunD K "__init__" "Kind.__init__" (defArgs sKInit) (defBody sKInit) (defScope sKInit) [.non] [] f_mKI _ := ⟨⟨_, _, .ref tD, _, _, _, _, _, _, _, rfl, l_mKI, c_mKI, .inr ⟨by simp, tD, _, [.none], _, rfl, l_tD, rfl, .cons rfl .nil⟩, .inl rfl⟩, k_mKI⟩
  have b3_mKI := binds_nil (F_mKI.binds1 (ps := ["self", "signs", "pairs"]) 3 1 (by simp) rfl fun T kV doc pm an cdv ct us its hu hi => match us, hu, its, hi with | [_, _, _], _, [_], _ => ⟨_, rfl, rfl⟩)
  have F_mKR := fun_mk (st := sKRings) l_mKR c_mKR k_mKR
  have b_mKR := F_mKR.binds (ps := ["self", "length"]) fun _ _ _ _ _ _ us hl => match us, hl with | [_, _], _ => rfl
  have F_mKB := fun_mk (st := sKBool) l_mKB c_mKB k_mKB
  have b_mKB := F_mKB.binds (ps := ["self"]) fun _ _ _ _ _ _ us hl => match us, hl with | [_], _ => rfl
  have F_mKW := fun_mk (st := sKRow) l_mKW c_mKW k_mKW
  have b_mKW := F_mKW.binds (ps := ["self"]) fun _ _ _ _ _ _ us hl => match us, hl with | [_], _ => rfl
  have P_mKW : PropOf K CK "row" pKW f_mKW := ⟨p_atKW, p_getKW, p_takKW, ⟨_, p_recKW⟩⟩
  have F_mKE := fun_mk (st := sKEq) l_mKE c_mKE k_mKE
  have b_mKE := F_mKE.binds (ps := ["self", "other"]) fun _ _ _ _ _ _ us hl => match us, hl with | [_, _], _ => rfl
  have ZT : FreeT mg := ⟨Z_isinstance, Z_tuple, Z_list, Z_dict, Z_bool⟩
  have F_eN := fun_mk (st := sErrInvalidNumber) l_eN c_eN k_eN
  have b_eN := F_eN.binds (ps := ["self", "given"]) fun _ _ _ _ _ _ us hl => match us, hl with | [_, _], _ => rfl
  have EN : ErrF K mg "InvalidNumber" "given" "InvalidNumber.__init__" sErrInvalidNumber cN f_eN _ := ⟨⟨⟨_, _, _, _, _, _, _, _, _, _, _, _, _, _, _, xLN, (show PySem.HandSPX.refsVE [.type "ValueError", .type "Exception", .type "BaseException", .type "object"] = true by decide +kernel)⟩, saNx, exN, tyN, kcNx⟩, ⟨gaN, ggN, exN, hdNx⟩, noN, iniN, fnN, F_eN, b_eN, PySem.W.mg_of X G aXN⟩
  have EG : GkE K mg cN f_eN _ := ⟨EN, sNS⟩
  have R' : KindF K mg ⟨CK, f_mKI, f_mKW, f_mKE, pKW, PySem.W.fnOf "__init__" "Kind.__init__" (defArgs sKInit) (defBody sKInit) (defScope sKInit) (.ref tD) kv_mKI dc_mKI pm_mKI an_mKI cd_mKI ct_mKI, PySem.W.fnOf "row" "Kind.row" (defArgs sKRow) (defBody sKRow) (defScope sKRow) .none kv_mKW dc_mKW pm_mKW an_mKW cd_mKW ct_mKW, PySem.W.fnOf "__eq__" "Kind.__eq__" (defArgs sKEq) (defBody sKEq) (defScope sKEq) .none kv_mKE dc_mKE pm_mKE an_mKE cd_mKE ct_mKE, f_ksigns, f_ksignof, f_kfirst, f_kispair, f_kchpairs, f_kallp, f_khas, f_kisword, PySem.W.fnOf "is_signs" "is_signs" (defArgs sIsSigns) (defBody sIsSigns) (defScope sIsSigns) .none kv_ksigns dc_ksigns pm_ksigns an_ksigns cd_ksigns ct_ksigns, PySem.W.fnOf "is_sign_of" "is_sign_of" (defArgs sSignOf) (defBody sSignOf) (defScope sSignOf) .none kv_ksignof dc_ksignof pm_ksignof an_ksignof cd_ksignof ct_ksignof, PySem.W.fnOf "first_wrong" "first_wrong" (defArgs sFirst) (defBody sFirst) (defScope sFirst) .none kv_kfirst dc_kfirst pm_kfirst an_kfirst cd_kfirst ct_kfirst, PySem.W.fnOf "_is_pair" "_is_pair" (defArgs sIsPair) (defBody sIsPair) (defScope sIsPair) .none kv_kispair dc_kispair pm_kispair an_kispair cd_kispair ct_kispair, PySem.W.fnOf "_check_pairs" "_check_pairs" (defArgs sChPairs) (defBody sChPairs) (defScope sChPairs) .none kv_kchpairs dc_kchpairs pm_kchpairs an_kchpairs cd_kchpairs ct_kchpairs, PySem.W.fnOf "_all_pairs" "_all_pairs" (defArgs sAllP) (defBody sAllP) (defScope sAllP) .none kv_kallp dc_kallp pm_kallp an_kallp cd_kallp ct_kallp, PySem.W.fnOf "_has_ring" "_has_ring" (defArgs sHas) (defBody sHas) (defScope sHas) .none kv_khas dc_khas pm_khas an_khas cd_khas ct_khas, PySem.W.fnOf "is_word" "is_word" (defArgs sIsWord) (defBody sIsWord) (defScope sIsWord) .none kv_kisword dc_kisword pm_kisword an_kisword cd_kisword ct_kisword⟩ := ⟨TK, ⟨mkKd, a_mKI, i_mKI, kcKd⟩, F_mKI, b3_mKI, F_mKW, b_mKW, P_mKW, F_mKE, b_mKE, ⟨a_mKE, i_mKE, k_mKE⟩, nf, cg, ct, D_ksigns, D_ksignof, D_kfirst, D_kispair, D_kchpairs, D_kallp, D_khas, D_kisword, ⟨t6, PySem.W.mg_of X G g6⟩, ⟨t4, PySem.W.mg_of X G g4⟩, Z_tuple, Z_list, Z_any, Z_enumerate, Z_sorted⟩
  have G' : GkF K mg ⟨CK, f_mKI, f_mKW, f_mKE, pKW, PySem.W.fnOf "__init__" "Kind.__init__" (defArgs sKInit) (defBody sKInit) (defScope sKInit) (.ref tD) kv_mKI dc_mKI pm_mKI an_mKI cd_mKI ct_mKI, PySem.W.fnOf "row" "Kind.row" (defArgs sKRow) (defBody sKRow) (defScope sKRow) .none kv_mKW dc_mKW pm_mKW an_mKW cd_mKW ct_mKW, PySem.W.fnOf "__eq__" "Kind.__eq__" (defArgs sKEq) (defBody sKEq) (defScope sKEq) .none kv_mKE dc_mKE pm_mKE an_mKE cd_mKE ct_mKE, f_ksigns, f_ksignof, f_kfirst, f_kispair, f_kchpairs, f_kallp, f_khas, f_kisword, PySem.W.fnOf "is_signs" "is_signs" (defArgs sIsSigns) (defBody sIsSigns) (defScope sIsSigns) .none kv_ksigns dc_ksigns pm_ksigns an_ksigns cd_ksigns ct_ksigns, PySem.W.fnOf "is_sign_of" "is_sign_of" (defArgs sSignOf) (defBody sSignOf) (defScope sSignOf) .none kv_ksignof dc_ksignof pm_ksignof an_ksignof cd_ksignof ct_ksignof, PySem.W.fnOf "first_wrong" "first_wrong" (defArgs sFirst) (defBody sFirst) (defScope sFirst) .none kv_kfirst dc_kfirst pm_kfirst an_kfirst cd_kfirst ct_kfirst, PySem.W.fnOf "_is_pair" "_is_pair" (defArgs sIsPair) (defBody sIsPair) (defScope sIsPair) .none kv_kispair dc_kispair pm_kispair an_kispair cd_kispair ct_kispair, PySem.W.fnOf "_check_pairs" "_check_pairs" (defArgs sChPairs) (defBody sChPairs) (defScope sChPairs) .none kv_kchpairs dc_kchpairs pm_kchpairs an_kchpairs cd_kchpairs ct_kchpairs, PySem.W.fnOf "_all_pairs" "_all_pairs" (defArgs sAllP) (defBody sAllP) (defScope sAllP) .none kv_kallp dc_kallp pm_kallp an_kallp cd_kallp ct_kallp, PySem.W.fnOf "_has_ring" "_has_ring" (defArgs sHas) (defBody sHas) (defScope sHas) .none kv_khas dc_khas pm_khas an_khas cd_khas ct_khas, PySem.W.fnOf "is_word" "is_word" (defArgs sIsWord) (defBody sIsWord) (defScope sIsWord) .none kv_kisword dc_kisword pm_kisword an_kisword cd_kisword ct_kisword⟩ ⟨C, f_mI, f_mKR, f_kleast, f_kgoes, f_kintf, f_kint, f_kturns, f_mT, pT, _, _, _, _, _, _, _, _⟩ := ⟨F_mKR, b_mKR, ⟨a_mKR, i_mKR, k_mKR⟩, D_kleast, D_kgoes, D_kintf, D_kint, ⟨t9, PySem.W.mg_of X G g9⟩, T, ⟨mk, a_mI, i_mI, kc⟩, F_mI, b_mI, D_kturns, F_mT, b_mT, P_mT⟩
  have D' : Defs K mg ⟨f_cell, f_pool, f_draw, f_shuf, f_face, f_whole, f_odd, f_signs, f_turn, f_every, f_couples, f_closes, f_all, f_listed, f_refused, f_right, _, _, _, _, _, _, _, _, _, _, _, _, _, _, _, _⟩ := ⟨D_cell, D_pool, D_draw, D_shuf, D_face, D_whole, D_odd, D_signs, D_turn, D_every, D_couples, D_closes, D_all, D_listed, D_refused, D_right⟩
  exact ⟨PySem.W.fnOf "law" "law" (defArgs sGLaw) (defBody sGLaw) (defScope sGLaw) .none kv_law dc_law pm_law an_law cd_law ct_law, fun s v => .of_eq rfl, fun base _ _ => ok_law (fun_mk (st := sGLaw) l_law c_law k_law) Z ZT R' G' (kb11 rfl fun s a b => .of_eq rfl) EG (PySem.W.exm_ref exN hdNx tyN sNN) F_mKB b_mKB ⟨a_mKB, i_mKB, k_mKB⟩ D'⟩
theorem walk {l : PySem.W.OpenLaw} {q : Program} {loose : List Str} {XP : (Str → Option Value) → Heap → Prop} {YP : World → Heap → Prop} {d : DefRec} {K : Params → PySem.W.Frag} (hn : l.most = some 63) (hdf : d.params.defaults = []) (hY : ∀ (w : World) (h : Heap), YP w h → (K w.params).In h)
    (F : ∀ (w : World) (mg : Str → Option Value) (fa : Addr) (h : Heap), (K w.params).In h → h.Ns mainGlobals mg → mg d.name = some (.ref fa) → ∃ fd : FuncData, (∀ (s : Shared) (u : Value), BindsTo s fd ⟨[u], []⟩ [("_law_script", u)]) ∧ ∀ base : Heap, (K w.params).In base → base.Ns mainGlobals mg → FnOk l.prog w (K w.params) mg base CX0 11 fa fd ["_law_script"] (spLaw (K w.params))) :
    PySem.W.WalkO q loose XP YP l.row.toRowW d [] (fun f vs => PySem.call f vs) :=
  L2.walk_of (n := 63) (k := 11) (x := "_law_script") (CX := fun _ => CX0) (sp := fun w => spLaw (K w.params)) hn (by decide) hdf ⟨rfl, by decide, by decide⟩ hY F (fun _ _ a ns hl _ hS => ⟨a, ns, rfl, hS, hl, fun _ => rfl⟩) fun _ _ _ _ _ z => z
end Wb
open PySem PySem.W PyProof.Rows in
set_option maxRecDepth 100000 in
set_option maxHeartbeats 0 in
theorem PySem.Challenge.cw_wherebegun_k11_whole_all_rings_of_a_leng_holds : PySem.Challenge.rw_wherebegun_k11_whole_all_rings_of_a_leng.Holds := by
  w_on; o_law; k_head; (case hw => w_witness2)
  k_fill
  refine Wb.walk (l := PySem.Challenge.rw_wherebegun_k11_whole_all_rings_of_a_leng) rfl rfl (fun w h Y => PySem.W.kIn_of Y) ?F
  case F =>
    intro w mg fa h KX G hmg
    refine' Wb.all_mk KX G hmg ?a_cell ?l_cell ?c_cell ?k_cell ?a_pool ?l_pool ?c_pool ?k_pool ?a_draw ?l_draw ?c_draw ?k_draw ?a_shuf ?l_shuf ?c_shuf ?k_shuf ?a_face ?l_face ?c_face ?k_face ?a_whole ?l_whole ?c_whole ?k_whole ?a_odd ?l_odd ?c_odd ?k_odd ?a_signs ?l_signs ?c_signs ?k_signs ?a_turn ?l_turn ?c_turn ?k_turn ?a_every ?l_every ?c_every ?k_every ?a_couples ?l_couples ?c_couples ?k_couples ?a_closes ?l_closes ?c_closes ?k_closes ?a_all ?l_all ?c_all ?k_all ?a_listed ?l_listed ?c_listed ?k_listed ?a_refused ?l_refused ?c_refused ?k_refused ?a_right ?l_right ?c_right ?k_right ?a_ksigns ?l_ksigns ?c_ksigns ?k_ksigns ?a_ksignof ?l_ksignof ?c_ksignof ?k_ksignof ?a_kfirst ?l_kfirst ?c_kfirst ?k_kfirst ?a_kispair ?l_kispair ?c_kispair ?k_kispair ?a_kchpairs ?l_kchpairs ?c_kchpairs ?k_kchpairs ?a_kallp ?l_kallp ?c_kallp ?k_kallp ?a_khas ?l_khas ?c_khas ?k_khas ?a_kisword ?l_kisword ?c_kisword ?k_kisword ?a_kgoes ?l_kgoes ?c_kgoes ?k_kgoes ?a_kturns ?l_kturns ?c_kturns ?k_kturns ?a_kleast ?l_kleast ?c_kleast ?k_kleast ?a_kintf ?l_kintf ?c_kintf ?k_kintf ?a_kint ?l_kint ?c_kint ?k_kint ?a_law ?l_law ?c_law ?k_law ?aC ?aCK ?a_mI ?i_mI ?l_mI ?c_mI ?k_mI ?p_atT ?p_getT ?p_takT ?p_recT ?l_mT ?c_mT ?k_mT ?a_mKI ?i_mKI ?l_mKI ?c_mKI ?k_mKI ?a_mKR ?i_mKR ?l_mKR ?c_mKR ?k_mKR ?a_mKB ?i_mKB ?l_mKB ?c_mKB ?k_mKB ?p_atKW ?p_getKW ?p_takKW ?p_recKW ?l_mKW ?c_mKW ?k_mKW ?a_mKE ?i_mKE ?l_mKE ?c_mKE ?k_mKE ?l_tD ?pg ?hd ?po ?sa ?mk ?kc ?cc ?co ?pgKd ?hdKd ?poKd ?saKd ?mkKd ?kcKd ?ccKd ?coKd ?nT ?nP_ ?nSK ?nPK ?nRK ?cg ?ct ?g6 ?g4 ?g9 ?aXN ?exN ?tyN ?hdNx ?kcNx ?gaN ?ggN ?noN ?sNN ?sNS ?xLN ?saNx ?iniN ?fnN ?l_eN ?c_eN ?k_eN ?nf ?z_int ?z_len ?z_range ?z_divmod ?z_abs ?z_isinstance ?z_str ?z_all ?z_min ?z_max ?z_set ?z_bool ?z_tuple ?z_list ?z_any ?z_enumerate ?z_sorted ?z_dict
    (case a_cell => k_is)
    (case l_cell => k_is)
    (case c_cell => k_is)
    (case k_cell => k_is)
    (case a_pool => k_is)
    (case l_pool => k_is)
    (case c_pool => k_is)
    (case k_pool => k_is)
    (case a_draw => k_is)
    (case l_draw => k_is)
    (case c_draw => k_is)
    (case k_draw => k_is)
    (case a_shuf => k_is)
    (case l_shuf => k_is)
    (case c_shuf => k_is)
    (case k_shuf => k_is)
    (case a_face => k_is)
    (case l_face => k_is)
    (case c_face => k_is)
    (case k_face => k_is)
    (case a_whole => k_is)
    (case l_whole => k_is)
    (case c_whole => k_is)
    (case k_whole => k_is)
    (case a_odd => k_is)
    (case l_odd => k_is)
    (case c_odd => k_is)
    (case k_odd => k_is)
    (case a_signs => k_is)
    (case l_signs => k_is)
    (case c_signs => k_is)
    (case k_signs => k_is)
    (case a_turn => k_is)
    (case l_turn => k_is)
    (case c_turn => k_is)
    (case k_turn => k_is)
    (case a_every => k_is)
    (case l_every => k_is)
    (case c_every => k_is)
    (case k_every => k_is)
    (case a_couples => k_is)
    (case l_couples => k_is)
    (case c_couples => k_is)
    (case k_couples => k_is)
    (case a_closes => k_is)
    (case l_closes => k_is)
    (case c_closes => k_is)
    (case k_closes => k_is)
    (case a_all => k_is)
    (case l_all => k_is)
    (case c_all => k_is)
    (case k_all => k_is)
    (case a_listed => k_is)
    (case l_listed => k_is)
    (case c_listed => k_is)
    (case k_listed => k_is)
    (case a_refused => k_is)
    (case l_refused => k_is)
    (case c_refused => k_is)
    (case k_refused => k_is)
    (case a_right => k_is)
    (case l_right => k_is)
    (case c_right => k_is)
    (case k_right => k_is)
    (case a_ksigns => k_is)
    (case l_ksigns => k_is)
    (case c_ksigns => k_is)
    (case k_ksigns => k_is)
    (case a_ksignof => k_is)
    (case l_ksignof => k_is)
    (case c_ksignof => k_is)
    (case k_ksignof => k_is)
    (case a_kfirst => k_is)
    (case l_kfirst => k_is)
    (case c_kfirst => k_is)
    (case k_kfirst => k_is)
    (case a_kispair => k_is)
    (case l_kispair => k_is)
    (case c_kispair => k_is)
    (case k_kispair => k_is)
    (case a_kchpairs => k_is)
    (case l_kchpairs => k_is)
    (case c_kchpairs => k_is)
    (case k_kchpairs => k_is)
    (case a_kallp => k_is)
    (case l_kallp => k_is)
    (case c_kallp => k_is)
    (case k_kallp => k_is)
    (case a_khas => k_is)
    (case l_khas => k_is)
    (case c_khas => k_is)
    (case k_khas => k_is)
    (case a_kisword => k_is)
    (case l_kisword => k_is)
    (case c_kisword => k_is)
    (case k_kisword => k_is)
    (case a_kgoes => k_is)
    (case l_kgoes => k_is)
    (case c_kgoes => k_is)
    (case k_kgoes => k_is)
    (case a_kturns => k_is)
    (case l_kturns => k_is)
    (case c_kturns => k_is)
    (case k_kturns => k_is)
    (case a_kleast => k_is)
    (case l_kleast => k_is)
    (case c_kleast => k_is)
    (case k_kleast => k_is)
    (case a_kintf => k_is)
    (case l_kintf => k_is)
    (case c_kintf => k_is)
    (case k_kintf => k_is)
    (case a_kint => k_is)
    (case l_kint => k_is)
    (case c_kint => k_is)
    (case k_kint => k_is)
    (case a_law => k_is)
    (case l_law => k_is)
    (case c_law => k_is)
    (case k_law => k_is)
    (case aC => k_is)
    (case aCK => k_is)
    (case a_mI => k_is)
    (case i_mI => k_is)
    (case l_mI => k_is)
    (case c_mI => k_is)
    (case k_mI => k_is)
    (case p_atT => k_is)
    (case p_getT => k_is)
    (case p_takT => k_is)
    (case p_recT => k_is)
    (case l_mT => k_is)
    (case c_mT => k_is)
    (case k_mT => k_is)
    (case a_mKI => k_is)
    (case i_mKI => k_is)
    (case l_mKI => k_is)
    (case c_mKI => k_is)
    (case k_mKI => k_is)
    (case a_mKR => k_is)
    (case i_mKR => k_is)
    (case l_mKR => k_is)
    (case c_mKR => k_is)
    (case k_mKR => k_is)
    (case a_mKB => k_is)
    (case i_mKB => k_is)
    (case l_mKB => k_is)
    (case c_mKB => k_is)
    (case k_mKB => k_is)
    (case p_atKW => k_is)
    (case p_getKW => k_is)
    (case p_takKW => k_is)
    (case p_recKW => k_is)
    (case l_mKW => k_is)
    (case c_mKW => k_is)
    (case k_mKW => k_is)
    (case a_mKE => k_is)
    (case i_mKE => k_is)
    (case l_mKE => k_is)
    (case c_mKE => k_is)
    (case k_mKE => k_is)
    (case l_tD => k_is)
    (case pg => k_is)
    (case hd => k_is)
    (case po => k_is)
    (case sa => k_is)
    (case mk => k_is)
    (case kc => k_is)
    (case cc => k_is)
    (case co => k_is)
    (case pgKd => k_is)
    (case hdKd => k_is)
    (case poKd => k_is)
    (case saKd => k_is)
    (case mkKd => k_is)
    (case kcKd => k_is)
    (case ccKd => k_is)
    (case coKd => k_is)
    (case nT => k_is)
    (case nP_ => k_is)
    (case nSK => k_is)
    (case nPK => k_is)
    (case nRK => k_is)
    (case cg => k_is)
    (case ct => k_is)
    (case g6 => k_is)
    (case g4 => k_is)
    (case g9 => k_is)
    (case aXN => k_is)
    (case exN => k_is)
    (case tyN => k_is)
    (case hdNx => k_is)
    (case kcNx => k_is)
    (case gaN => k_is)
    (case ggN => k_is)
    (case noN => k_is)
    (case sNN => k_is)
    (case sNS => k_is)
    (case xLN => k_is)
    (case saNx => k_is)
    (case iniN => k_is)
    (case fnN => k_is)
    (case l_eN => k_is)
    (case c_eN => k_is)
    (case k_eN => k_is)
    (case nf => k_is)
    (case z_int => k_is)
    (case z_len => k_is)
    (case z_range => k_is)
    (case z_divmod => k_is)
    (case z_abs => k_is)
    (case z_isinstance => k_is)
    (case z_str => k_is)
    (case z_all => k_is)
    (case z_min => k_is)
    (case z_max => k_is)
    (case z_set => k_is)
    (case z_bool => k_is)
    (case z_tuple => k_is)
    (case z_list => k_is)
    (case z_any => k_is)
    (case z_enumerate => k_is)
    (case z_sorted => k_is)
    (case z_dict => k_is)
