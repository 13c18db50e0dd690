import PyProof.Rows.All
import Wide.All
import OpenK.AllK
import Wide.FinOn
import HandS.ForMost
import HandS.IsInst
import HandS.Property
import HandS.Wide
import HandS.MakeKw
import HandS.Strs
import KE.DataMinMax
import PyProof.StrBlock2
import HandS.Walk
import KE.KCallOwn
import PyProof.Conv_bool
import PyProof.InstNe
import HandS.SlotsOwn
import HandS.RaiseMore
import HandS.MakeKwOnly
import PyProof.ListStr
import PyProof.StrLawsIn
import HandS.Dict
import PyProof.CollectStr
import PyProof.TupleOfSeq
import HandS.More
import KE.GoesMore
import KE.GoesEnum
import HandS.Comp
import PyProof.Rows.StrMeet
import PyProof.Rows.SortStr
import HandS.Defaults
import HandS.ClsMeth
import PyProof.Rows.CallKw2
import PyProof.P3Eq
import PyProof.SliceStr
import PyProof.Rows.StrRev
import PySem.Challenge.RW_wherebegun_k08_kinds_and_their_rows
set_option Elab.async false
set_option maxRecDepth 100000
namespace Wb
open PySem L2
def top (i : Nat) : Stmt := PySem.Challenge.pw_wherebegun_k08_kinds_and_their_rows.main.body.getD i (.Pass ⟨0, 0, 0, 0⟩)
abbrev sCell : Stmt := top 37
abbrev sPool : Stmt := top 38
abbrev sDraw : Stmt := top 39
/-- all but what lies at p stays -/
def But (p : Addr) (H H' : Hp) : Prop := ∀ b o, b ≠ p → H b = some o → H' b = some o
theorem But.refl (p : Addr) (H : Hp) : But p H H := fun _ _ _ h => h
theorem But.trans {p : Addr} {H H1 H2 : Hp} (a : But p H H1) (b : But p H1 H2) : But p H H2 := fun c o n h => b c o n (a c o n h)
theorem But.of {p : Addr} {H H' : Hp} (a : Same H H') : But p H H' := fun c o _ h => a c o h
theorem But.upd {p q : Addr} {o : HO} {H H' : Hp} (a : But p H H') (n : H' q = none) : But p H (L2.upd H' q o) := fun c u k h => by
  rw [upd_ne (ne_of_none (a c u k h) n)]
  exact a c u k h
theorem But.here {p : Addr} {o : HO} {H H' : Hp} (a : But p H H') : But p H (L2.upd H' p o) := fun c u k h => by
  rw [upd_ne k]
  exact a c u k h
theorem Same.put {q : Addr} {o : HO} {H H' : Hp} (a : Same H H') (n : H' q = none) : Same H (L2.upd H' q o) := fun c u h => by
  rw [upd_ne (ne_of_none (a c u h) n)]
  exact a c u h
/-- a pool stands at p: three ints -/
def PoolAt (H : Hp) (p : Addr) : Prop := ∃ a b c : Int, H p = some (.lst [.int a, .int b, .int c]) ∧ 0 ≤ a ∧ a < 2147483648 ∧ 0 ≤ b
def spDraw : Sp := fun vs H Q _ => ∃ (p : Addr) (m : Int), vs = [.ref p, .int m] ∧ 0 < m ∧ m < 1073741824 ∧ PoolAt H p ∧
  ∀ (d : Int) (H' : Hp), 0 ≤ d → d < m → PoolAt H' p → But p H H' → Q (.int d) H'
def spPool : Sp := fun vs H Q _ => ∃ c : Int, vs = [.int c] ∧ ∀ (p : Addr) (H' : Hp), H p = none → Same H H' → PoolAt H' p → Q (.ref p) H'
def spCell (K : PySem.W.Frag) : Sp := fun vs H Q _ => ∃ (a : Addr) (ns : List Int) (k : Int), vs = [.ref a, .int k] ∧ SqL K H a (ns.map V.int) ∧ ns.length ≤ 63 ∧ 0 ≤ k ∧ k < 64 ∧
  ∀ (n : Int) (H' : Hp), Same H H' → Q (.int n) H'
theorem cut_int {ns : List Int} {lo hi : Option Int} {i : Nat} {y : V} (h : (cutV (ns.map V.int) lo hi)[i]? = some y) : ∃ u, y = V.int u := by
  have q := List.mem_of_getElem? h
  unfold cutV at q
  obtain ⟨u, _, e⟩ := List.mem_map.mp (List.mem_of_mem_drop (List.mem_of_mem_take q))
  exact ⟨u, e.symm⟩
section
variable {P : Program} {w : World} {K : PySem.W.Frag} {mg : Str → Option Value} {base : Heap}
theorem scP : FnScope ["_law_cell_here", "_law_digits"] ["_law_cell_here"] (defScope sPool) := ⟨rfl, rfl, rfl, by decide +kernel, rfl, by decide +kernel, by decide +kernel⟩
theorem ok_pool {f : Addr} {fd : FuncData} (F : Fun K "_law_pool" "_law_pool" sPool f fd) (mAbs : mg "abs" = none) (mInt : mg "int" = none) : FnOk P w K mg base CX0 1 f fd ["_law_cell_here"] spPool := by
  refine F.ok scP (fun vs H Q E h => ?_) (fun cdv A outer s H vs Q E hr h => ?_)
  · obtain ⟨c, rfl, _⟩ := h
    rfl
  · obtain ⟨c, rfl, k⟩ := h
    refine ⟨_, pss_cons (ps_set (i := 1) scP.nd rfl (.inl rfl) (pe_ifExp (PW.pt (pw_or (pt_cmpR op_lt (pv 0) pe_int (nomark _)) (pw_or1 (pt_cmpR op_ge (pv 0) (pe_op op_pow pe_int pe_int) (nomark _)))))
        (pe_callB call_abs (by rfl) mAbs (by decide +kernel) (pa_cons (pv 0) pa_nil)) pe_int))
      (pss_one (ps_ret (pe_lst (pa_cons (pe_op op_mod (pe_callTy call_int1 (by rfl) mInt (by decide +kernel) (pa_cons (pv 0) pa_nil)) pe_int) (pa_cons (pv 1) (pa_cons pe_int pa_nil)))))), ?_⟩
    have fin : ∀ d : Int, 0 ≤ d → (tRet (tLst (tCons (tOp (rI (fun x j => 0 < j) fun i j => V.int (i % j)) (tCB (fun xs H Q => (∃ i, xs = [V.int i] ∧ Q (V.int i) H) ∨ ∃ k, xs = [V.bl k] ∧ Q (V.int (if k = true then 1 else 0)) H) (tCons (tVar 0) tNil)) (tC (V.int 2147483587))) (tCons (tVar 1) (tCons (tC (V.int 0)) tNil)))))
        { nx := fun x H' => Q V.non H', rt := Q } [some (V.int c), some (V.int d)] H := fun d h0 => by
      refine ⟨_, rfl, .inl ⟨_, rfl, _, _, rfl, rfl, (by show (0 : Int) < 2147483587; decide), _, rfl, (by show 3 ≤ sizeLine; decide), fun p hp => ?_⟩⟩
      refine k p _ hp (Same.put (Same.refl H) hp) ⟨_, _, _, upd_same, ?_⟩
      omega
    refine ⟨_, rfl, _, _, rfl, rfl, _, rfl, ite2 (fun h1 => iteT ?_) (fun h1 => ?_)⟩
    · refine ⟨_, rfl, _, rfl, ?_⟩
      exact fin _ (by split <;> omega)
    · refine ⟨_, rfl, _, _, rfl, rfl, (by refine ⟨?_, ?_, ?_⟩ <;> decide), _, _, rfl, rfl, _, rfl, ?_⟩
      refine ite2 (fun h2 => ?_) (fun h2 => ?_)
      · refine ⟨_, rfl, _, rfl, ?_⟩
        exact fin _ (by split <;> omega)
      · exact fin 0 (by omega)
theorem scD : FnScope ["_law_pool_here", "_law_many", "_law_mixed", "_law_digit"] ["_law_pool_here", "_law_many"] (defScope sDraw) := ⟨rfl, rfl, rfl, by decide +kernel, rfl, by decide +kernel, by decide +kernel⟩
theorem ok_draw {f : Addr} {fd : FuncData} (F : Fun K "_law_draw" "_law_draw" sDraw f fd) (mInt : mg "int" = none) (mDm : mg "divmod" = none) : FnOk P w K mg base CX0 1 f fd ["_law_pool_here", "_law_many"] spDraw := by
  refine F.ok scD (fun vs H Q E h => ?_) (fun cdv A outer s H vs Q E hr h => ?_)
  · obtain ⟨p, m, rfl, _⟩ := h
    rfl
  · obtain ⟨p, m, rfl, m0, m1, ⟨a, b, c, hp, a0, a1, b0⟩, k⟩ := h
    refine ⟨_, pss_cons (ps_asg (pe_op op_add (pe_ix ix_list (pv 0) pe_int (fun _ _ => rfl)) pe_int) (pg_sub (pv 0) pe_int set_list))
      (pss_cons (ps_set (i := 2) scD.nd rfl (.inl rfl) (pe_op op_mod (pe_callTy call_int1 (by rfl) mInt (by decide +kernel) (pa_cons (pe_op op_add (pe_op op_add (pe_op op_mul (pe_ix ix_list (pv 0) pe_int (fun _ _ => rfl)) pe_int) (pe_op op_mul (pe_ix ix_list (pv 0) pe_int (fun _ _ => rfl)) pe_int)) pe_int) pa_nil)) pe_int))
      (pss_cons (ps_asg (pe_op op_mod (pe_callTy call_int1 (by rfl) mInt (by decide +kernel) (pa_cons (pe_op op_mul (pv 2) (pe_op op_add (pe_op op_fdiv (pv 2) pe_int) pe_int)) pa_nil)) pe_int) (pg_sub (pv 0) pe_int set_list))
      (pss_cons (ps_if (pt_cmpR op_gt (pe_ix ix_list (pv 0) pe_int (fun _ _ => rfl)) pe_int (nomark _))
          (pss_cons (ps_asg (pe_callB call_divmod (by rfl) mDm (by decide +kernel) (pa_cons (pe_ix ix_list (pv 0) pe_int (fun _ _ => rfl)) (pa_cons (pv 1) pa_nil))) (pg_tup (by rfl) (pgs_cons (pg_sub (pv 0) pe_int set_list) (pgs_cons (pg_name (i := 3) scD.nd rfl (.inl rfl)) pgs_nil))))
            (pss_one (ps_ret (pv 3)))) pss_nil)
      (pss_one (ps_ret (pe_op op_mod (pe_callTy call_int1 (by rfl) mInt (by decide +kernel) (pa_cons (pe_op op_fdiv (pe_ix ix_list (pv 0) pe_int (fun _ _ => rfl)) pe_int) pa_nil)) (pv 1))))))), ?_⟩
    refine ⟨_, rfl, p, _, _, _, rfl, rfl, SqL.of hp, rfl, _, _, rfl, rfl, _, rfl, p, _, _, 2, rfl, rfl, hp, rfl, ?_⟩
    have hp1 : (L2.upd H p (.lst [.int a, .int b, .int (c + 1)])) p = some (.lst [.int a, .int b, .int (c + 1)]) := upd_same
    refine ⟨_, rfl, p, _, _, _, rfl, rfl, SqL.of hp1, rfl, _, _, rfl, rfl, .inl ⟨by omega, by omega⟩, _, rfl, p, _, _, _, rfl, rfl, SqL.of hp1, rfl, _, _, rfl, rfl, .inr ⟨by decide, by decide⟩, _, _, rfl, rfl, _, _, rfl, rfl, .inl ⟨_, rfl, _, _, rfl, rfl, (by show (0 : Int) < 2147483587; decide), ?_⟩⟩
    have x0 : ∀ z : Int, 0 ≤ z % 2147483587 ∧ z % 2147483587 < 2147483587 := fun z => ⟨Int.emod_nonneg _ (by decide), Int.emod_lt_of_pos _ (by decide)⟩
    generalize hx : ((a * 50021 + (c + 1) * 69067 + 31) % 2147483587 : Int) = x
    have ⟨x1, x2⟩ : 0 ≤ x ∧ x < 2147483587 := by rw [← hx]; exact x0 _
    refine ⟨_, rfl, _, rfl, _, _, rfl, rfl, ⟨by decide, by decide⟩, _, _, rfl, rfl, _, _, rfl, rfl, .inl ⟨by omega, by omega⟩, .inl ⟨_, rfl, _, _, rfl, rfl, (by show (0 : Int) < 2147483629; decide), ?_⟩⟩
    have y0 : ∀ z : Int, 0 ≤ z % 2147483629 ∧ z % 2147483629 < 2147483629 := fun z => ⟨Int.emod_nonneg _ (by decide), Int.emod_lt_of_pos _ (by decide)⟩
    refine ⟨_, rfl, p, _, _, 0, rfl, rfl, hp1, rfl, ?_⟩
    refine ⟨_, rfl, p, _, _, _, rfl, rfl, SqL.of upd_same, rfl, _, _, rfl, rfl, _, rfl, ite2 (fun h1 => ?_) (fun h1 => ?_)⟩
    · refine ⟨_, rfl, p, _, _, _, rfl, rfl, SqL.of upd_same, rfl, _, rfl, _, _, rfl, ⟨m0, m1⟩, fun t ht => ?_⟩
      have npt : p ≠ t := ne_of_none upd_same ht
      refine ⟨t, _, rfl, SqT.of upd_same, rfl, _, _, rfl, _, rfl, p, _, _, 1, rfl, rfl, (upd_ne npt).trans upd_same, rfl, _, _, rfl, ?_⟩
      refine ⟨rfl, _, rfl, k _ _ (Int.emod_nonneg _ (by omega)) (Int.emod_lt_of_pos _ m0) ⟨_, _, _, upd_same, ?_⟩ (But.here (But.upd (But.here (But.here (But.refl p H))) ht))⟩
      refine ⟨(y0 _).1, Int.lt_trans (y0 _).2 (by decide), ?_⟩
      exact Int.ediv_nonneg b0 (Int.le_of_lt m0)
    · refine ⟨_, rfl, p, _, _, _, rfl, rfl, SqL.of upd_same, rfl, _, _, rfl, rfl, ⟨by decide, by decide⟩, .inl ⟨_, rfl, _, rfl, _, _, rfl, rfl, m0, ?_⟩⟩
      exact k _ _ (Int.emod_nonneg _ (by omega)) (Int.emod_lt_of_pos _ m0) ⟨_, _, _, upd_same, (y0 _).1, Int.lt_trans (y0 _).2 (by decide), b0⟩ (But.here (But.here (But.refl p H)))
theorem scC : FnScope ["_law_script", "_law_k", "_law_mixed", "_law_cell_here"] ["_law_script", "_law_k"] (defScope sCell) := ⟨rfl, rfl, rfl, by decide +kernel, rfl, by decide +kernel, by decide +kernel⟩
theorem ok_cell {f : Addr} {fd : FuncData} (F : Fun K "_law_cell" "_law_cell" sCell f fd) (mInt : mg "int" = none) (mLen : mg "len" = none) : FnOk P w K mg base CX0 1 f fd ["_law_script", "_law_k"] (spCell K) := by
  refine F.ok scC (fun vs H Q E h => ?_) (fun cdv A outer s H vs Q E hr h => ?_)
  · obtain ⟨a, ns, j, rfl, _⟩ := h
    rfl
  · obtain ⟨a, ns, j, rfl, hS, hlen, j0, j1, k⟩ := h
    refine ⟨_, pss_cons (ps_if (pt_cmpR op_lt (pv 1) (pe_callB call_len_seq (by rfl) mLen PySem.boot_len (pa_cons (pv 0) pa_nil)) (nomark _)) (pss_one (ps_ret (pe_ix ix_list (pv 0) (pv 1) (fun _ _ => rfl)))) pss_nil)
      (pss_cons (ps_set (i := 2) scC.nd rfl (.inl rfl) (pe_op op_add pe_int (pe_op op_mul (pe_op op_mul pe_int (pv 1)) (pv 1))))
      (pss_cons (ps_for PassesOwn.never rfl (pi_list (pe_slice sl_list (pv 0) po_none (po_some pe_int))) (pg_name (i := 3) scC.nd rfl (.inl rfl))
        (pss_one (ps_set (i := 2) scC.nd rfl (.inl rfl) (pe_op op_mod (pe_callTy call_int1 (by rfl) mInt (by decide +kernel) (pa_cons (pe_op op_add (pe_op op_mul (pv 2) pe_int) (pv 3)) pa_nil)) pe_int))))
      (pss_one (ps_ret (pv 2))))), ?_⟩
    refine ⟨_, rfl, _, rfl, a, _, rfl, .inl hS, _, _, rfl, rfl, _, rfl, ite2 (fun h1 => ?_) (fun h1 => ?_)⟩
    · have h2 : j < (ns.length : Int) := by
        have q := of_decide_eq_true h1
        rw [List.length_map] at q
        exact q
      have h3 : (ns.map V.int)[j.toNat]? = some (V.int (ns[j.toNat]'(by omega))) := by
        rw [List.getElem?_map, List.getElem?_eq_getElem (by omega)] <;> rfl
      have h4 : atI (ns.map V.int) j = some (V.int (ns[j.toNat]'(by omega))) := by
        have q := atI_nat h3
        rw [Int.toNat_of_nonneg j0] at q
        exact q
      exact ⟨_, rfl, _, rfl, a, _, _, _, rfl, rfl, hS, h4, k _ _ (Same.refl H)⟩
    · have b1 : (-(2 ^ 64) < (4093 : Int) ∧ (4093 : Int) < 2 ^ 64) := by decide
      refine ⟨_, rfl, _, _, rfl, rfl, .inl b1, _, rfl, _, _, rfl, rfl, .inr ⟨by omega, by omega⟩, _, _, rfl, rfl, ?_⟩
      refine ⟨_, rfl, _, rfl, a, _, rfl, hS, fun q hq => ?_⟩
      have sq : SqL K (L2.upd H q (.lst (cutV (ns.map V.int) none (some 4)))) q (cutV (ns.map V.int) none (some 4)) := SqL.of upd_same
      refine ⟨q, rfl, ⟨_, sq⟩, for_list (K := K) (a := q) (xs := cutV (ns.map V.int) none (some 4)) (fun i σ H' => ∃ (z : Int) (v : Option V), σ = [some (.ref a), some (.int j), some (.int z), v] ∧ Same H H' ∧ SqL K H' q (cutV (ns.map V.int) none (some 4)))
        ⟨_, none, rfl, Same.put (Same.refl H) hq, sq⟩ (fun i σ H' _ ⟨_, _, _, _, s⟩ => s) ?_ ?_⟩
      · rintro i y σ H' hi ⟨z, v, rfl, s1, s2⟩
        obtain ⟨u, rfl⟩ := cut_int hi
        exact ⟨_, rfl, _, _, rfl, rfl, .inr ⟨by decide, by decide⟩, _, rfl, _, _, rfl, rfl, .inl ⟨_, rfl, _, _, rfl, rfl, (by show (0 : Int) < 2147483629; decide), _, _, rfl, s1, s2⟩⟩
      · rintro σ H' ⟨z, v, rfl, s1, s2⟩
        exact ⟨_, rfl, k _ _ s1⟩
end
end Wb
/-! set(xs) and len(set(xs)) of a list of texts, any of them, below the scanned bound -/
namespace WbSet
open PySem PySem.Spec PyProof.Rows
/-- the different ones, by their first places -/
def addNew (acc : List Str) (x : Str) : List Str := if x ∈ acc then acc else acc ++ [x]
def differ (xs : List Str) : List Str := xs.foldl addNew []
theorem addNew_mem (acc : List Str) (x k : Str) : k ∈ addNew acc x ↔ k ∈ acc ∨ k = x := by
  unfold addNew
  by_cases h : x ∈ acc
  · rw [if_pos h]
    exact ⟨.inl, fun q => q.elim id fun e => e ▸ h⟩
  · rw [if_neg h, List.mem_append, List.mem_singleton]
theorem addNew_len (acc : List Str) (x : Str) : (addNew acc x).length = if x ∈ acc then acc.length else acc.length + 1 := by
  unfold addNew
  by_cases h : x ∈ acc
  · rw [if_pos h, if_pos h]
  · rw [if_neg h, if_neg h, List.length_append] <;> rfl
theorem differ_more (xs : List Str) (x : Str) : differ (xs ++ [x]) = addNew (differ xs) x := by
  unfold differ
  rw [List.foldl_append] <;> rfl
theorem fold_le : ∀ (xs acc : List Str), (xs.foldl addNew acc).length ≤ acc.length + xs.length
  | [], acc => Nat.le_refl _
  | x :: r, acc => by
    have h1 := fold_le r (addNew acc x)
    have h2 : (addNew acc x).length ≤ acc.length + 1 := by rw [addNew_len]; split <;> omega
    show (r.foldl addNew (addNew acc x)).length ≤ acc.length + (r.length + 1)
    omega
theorem differ_le (xs : List Str) : (differ xs).length ≤ xs.length := by
  have h := fold_le xs []
  show (xs.foldl addNew []).length ≤ xs.length
  simpa using h
/-- what the set at a holds behind the first i -/
def Has (P : Program) (w : World) (h : Heap) (a : Addr) (ys : List Str) : Prop := h.SetOf (strKind P w) a (fun k => decide (k ∈ ys)) ys.length
section
variable {prog : Program} {w : World} {A : Around} {R : Result → Shared → Prop} {I : Addr} {fp wr : List Addr} {G : Array GenState → Array GenState → Prop} {n : Nat} {P : Nat → Value → Prop} {St : Nat → Shared → Prop}
theorem Has.keep {h h' : Heap} {a : Addr} {ys : List Str} (q : Has prog w h a ys) (k : ∀ o, h.get? a = some o → h'.get? a = some o) : Has prog w h' a ys := by
  obtain ⟨o, es, ep, t, ho, r⟩ := q
  exact ⟨o, es, ep, t, k o ho, r⟩
theorem Has.more {h : Heap} {a : Addr} {ys : List Str} {x : Str} (q : h.SetOf (strKind prog w) a (fun j => decide (j ∈ ys) || decide (j = x)) (if decide (x ∈ ys) = true then ys.length else ys.length + 1)) : Has prog w h a (addNew ys x) := by
  refine SetOf_congr q (fun k => ?_) ?_
  · rw [← Bool.decide_or]
    exact decide_eq_decide.mpr (addNew_mem ys x k).symm
  · rw [addNew_len]
    by_cases e : x ∈ ys
    · rw [if_pos e, if_pos (decide_eq_true e)]
    · rw [if_neg e, if_neg (fun z => e (of_decide_eq_true z))]
theorem turns (W : WalksS prog w A.in1 I fp wr G n P St) (T : Addr) (nT : T ∉ fp) (xs : List Str) (lx : xs.length = n) (few : n + 1 < scanBound) (told : ∀ i v, P i v → ∃ x t, xs[i]? = some x ∧ v = .str x t) :
    ∀ (left i : Nat) (s : Shared), n - i = left → i ≤ n → St i s → Has prog w s.heap T (differ (xs.take i)) →
      (∀ s', Moved (T :: wr) G s s' → Has prog w s'.heap T (differ xs) → R (.ok (.ret .none)) s') → codeAny (model prog w) A (.builtin "set.update.loop" ⟨[.ref T, .ref I], []⟩) R s := by
  have nTw : T ∉ wr := fun q => nT (W.sub _ q)
  have wider : ∀ b ∈ wr, b ∈ T :: wr := fun _ q => List.mem_cons_of_mem _ q
  intro left
  induction left with
  | zero =>
    intro i s e1 e2 hst has fin
    obtain rfl : i = n := by omega
    refine codeAny_builtin PyProof.Rows.F.entry_set_update_loop ?_ ; rw [Around.under_plainId PyProof.Rows.F.plain_set_update_loop _]
    show wpAny _ A.in1 (pyNext (.ref I) >>= _) _ _ s ; refine wpAny_bind (W.done s _ _ hst fun s1 mv => ?_)
    show wpAny _ A.in1 (ret Value.none) _ _ s1
    refine wpAny_pure (fin s1 (mv.mono wider) ?_)
    rw [← lx, List.take_length] at has
    exact has.keep fun o e => mv.heap T o nTw e
  | succ left ih =>
    intro i s e1 e2 hst has fin
    have lt : i < n := by omega
    refine codeAny_builtin PyProof.Rows.F.entry_set_update_loop ?_ ; rw [Around.under_plainId PyProof.Rows.F.plain_set_update_loop _]
    show wpAny _ A.in1 (pyNext (.ref I) >>= _) _ _ s ; refine wpAny_bind (W.item i s _ _ lt hst fun v s1 hP hst1 mv => ?_)
    obtain ⟨x, t, hx, rfl⟩ := told i v hP
    have has1 : Has prog w s1.heap T (differ (xs.take i)) := has.keep fun o e => mv.heap T o nTw e
    have room : (differ (xs.take i)).length + 1 < scanBound := by
      have := differ_le (xs.take i)
      rw [List.length_take] at this
      omega
    have step : differ (xs.take (i + 1)) = addNew (differ (xs.take i)) x := by
      rw [← differ_more, List.take_add_one, hx] <;> rfl
    show wpAny _ A.in1 (holding [Value.str x t] (setAdd T (.str x t)) >>= _) _ _ s1 ; refine wpAny_bind (wpAny_holding ?_)
    unfold setAdd ; refine wpAny_holding (wpAny_bind ((strKind prog w).pyHash (k := x) (strKind_is _ _ _ _) ?_))
    refine wpAny_setAddHashed_of (knd := strKind prog w) (s := { s1 with toks := s1.toks + 1 }) (strKind_is _ _ _ _) rfl has1 room fun h2 but new => ?_
    have has2 : Has prog w h2 T (differ (xs.take (i + 1))) := by rw [step]; exact Has.more new
    refine wpAny_pure ⟨plainId_quiet PyProof.Rows.F.plain_set_update_loop _, ih (i + 1) _ (by omega) lt (W.frame _ s1 _ _ hst1 (Nat.le_succ _) fun b hb o e => ?_) has2 fun s2 mv2 has3 => fin s2 (Moved.trans W.gtrans ((mv.mono wider).then_heap (Nat.le_succ _) fun b o hb e => ?_) mv2) has3⟩
    · rw [but.2 b fun q => nT (q ▸ hb)] ; exact e
    · rw [but.2 b fun q => hb (q ▸ List.mem_cons_self)] ; exact e
end
section
variable {prog : Program} {w : World} {A : Around} {E : Value → Shared → Prop} {s : Shared}
theorem strs_told : ∀ {vs : List Value} {xs : List Str}, StrsAre vs xs → ∀ (i : Nat) (v : Value), vs[i]? = some v → ∃ x t, xs[i]? = some x ∧ v = .str x t
  | _, _, .nil, i, v, h => by simp at h
  | _, _, .cons x t r, 0, v, h => ⟨x, t, rfl, by simp at h; exact h.symm⟩
  | _, _, .cons x t r, i + 1, v, h => by
    simp only [List.getElem?_cons_succ] at h ⊢
    exact strs_told r i v h
/-- the set object that set() makes first -/
abbrev setO (led : Bool) : Obj := { cls := .type "set", dict := none, data := .set #[] 0 (.fresh 0 0 led) }
set_option maxHeartbeats 3200000 in
theorem call_set {l : Addr} {items : Array Value} {xs : List Str} {Q : Value → Shared → Prop} (calm : A.handled = none) (il : s.heap.IsList l items) (told : StrsAre items.toList xs) (few : xs.length + 1 < scanBound)
    (k : ∀ (h' : Heap) (tk : Nat), Has prog w h' s.heap.objs.size (differ xs) → (∀ b o, b < s.heap.objs.size → s.heap.get? b = some o → h'.get? b = some o) → Q (.ref s.heap.objs.size) { s with heap := h', toks := tk }) :
    wpAny (model prog w) A (call (.type "set") [.ref l]) Q E s := by
  obtain ⟨c, tl, mro⟩ := PySem.F.called_set.mro
  have f1 := PySem.F.called_set.made
  have f2 := PySem.F.called_set.sub
  refine wpAny_call (codeAny_of_tree ?_) ; show wpAny _ _ (callAny (.type "set") _) _ _ _
  refine wpAny_pure ⟨Code.quiet_builtin _ (by decide +kernel), codeAny_builtin PySem.F.entry_type_call ?_⟩ ; rw [Around.under_plain (weight_type_call_type "set" [.ref l] []) rfl]
  have f3 := PySem.F.called_set.notType
  have f4 := PySem.F.called_set.canCreate
  have f5 := PySem.F.typeCall_set_1 (.ref l)
  repeat (any_goals (first | assumption | wp_step))
  refine codeAny_mono (code_set_new_1 (.ref l) (E := E) (Q₁ := fun v s1 => ∃ led : Bool, v = .ref s.heap.objs.size ∧ s1 = { s with heap := s.heap.push (setO led) }) fun led => ⟨led, rfl, rfl⟩) fun r s1 hr => ?_
  cases r with
  | error e => exact hr
  | ok fl =>
    cases fl with
    | ret v =>
      obtain ⟨led, rfl, rfl⟩ := hr
      have g1 : (s.heap.push (setO led)).get? s.heap.objs.size = some (setO led) := Heap.get?_push_size _ rfl
      have g2 : Shared.TypeIs { s with heap := s.heap.push (setO led) } (.ref s.heap.objs.size) "set" := ⟨_, g1, rfl⟩
      have f6 := PySem.F.called_set.init.lookup
      have f7 := PySem.F.called_set.init.bind (.ref s.heap.objs.size)
      repeat (any_goals (first | assumption | wp_step))
      refine codeAny_mono (codeAny_call_builtin (R := wants (fun r s2 => r = .none ∧ ∃ h' tk, s2 = { s with heap := h', toks := tk } ∧ Has prog w h' s.heap.objs.size (differ xs) ∧ (∀ b o, b < s.heap.objs.size → s.heap.get? b = some o → h'.get? b = some o)) E) PySem.F.called_set.init.plain PySem.F.entry_set_init (check_set_init_1 g2 ?_)) fun r2 s2 hr2 => ?_
      · obtain ⟨⟨oc, od, dt, sl⟩, ho, hc, nl, hd⟩ := il
        simp only at hc hd
        subst hc hd
        have g3 : (s.heap.push (setO led)).get? l = some { cls := .type "list", dict := od, data := .seq items nl, slots := sl } := Heap.get?_push_of_some _ ho
        have f8 := PySem.F.sub_list_set
        have f9 := PySem.F.sub_list_frozenset
        have f10 : (Value.type "list" == Value.type "dict") = false := by decide
        have il1 : (s.heap.push (setO led)).IsList l items := ⟨_, g3, rfl, nl, rfl⟩
        unfold Builtin.«set.__init__» noKeywords Builtin.Frozenset.updateFrom
        generalize hit : pyIter = it
        wp_walk
        subst hit
        refine wpAny_pyIter_list il1 (wpAny_bind (wpAny_runValue ?_))
        have lt : l < s.heap.objs.size := Heap.lt_size ho
        have calm3 : A.in1.in1.in1.handled = none := by simp [calm]
        have sz : (s.heap.push (setO led)).objs.size = s.heap.objs.size + 1 := Heap.size_push _ _
        have ne1 : l ≠ (s.heap.push (setO led)).objs.size := by rw [sz]; exact Nat.ne_of_lt (Nat.lt_succ_of_lt lt)
        have ne2 : s.heap.objs.size ∉ [(s.heap.push (setO led)).objs.size, l] := by
          intro q
          rcases List.mem_cons.mp q with q | q
          · rw [sz] at q; exact absurd q (Nat.ne_of_lt (Nat.lt_succ_self _))
          · exact absurd (List.mem_singleton.mp q) (Nat.ne_of_gt lt)
        have lx : xs.length = items.size := by rw [← StrsAre.len_eq told, Array.length_toList]
        refine turns ((Walks.list calm3 _ l ne1 items).toS) s.heap.objs.size ne2 xs lx (by rw [← lx]; exact few) (fun i v hv => strs_told told i v (by rw [Array.getElem?_toList]; exact hv)) (items.size - 0) 0 _ (by omega) (Nat.zero_le _) ⟨⟨_, Heap.get?_push_size _ rfl, rfl, rfl⟩, (il1.push _)⟩ ?start ?fin
        case start =>
          have g4 : ((s.heap.push (setO led)).push { cls := .type "list_iterator", data := .fields #[.ref l, .int 0 0] }).get? s.heap.objs.size = some (setO led) := Heap.get?_push_of_some _ g1
          exact SetOf_congr ((setObjOf_fresh (knd := strKind prog w) led).setOf g4 (by unfold scanBound; omega)) (fun _ => rfl) rfl
        case fin =>
          intro s3 mv has
          obtain ⟨h3, g3', d3, tk3, os3⟩ := s3
          obtain rfl : g3' = s.gens := mv.gens
          obtain rfl : d3 = s.drawn := mv.drawn
          obtain rfl : os3 = s.os := mv.os
          show wpAny _ _ _ _ _ _ ; refine wpAny_pure ?_ ; show wpAny _ _ (ret Value.none) _ _ _
          refine wpAny_pure ⟨rfl, h3, tk3, rfl, has, fun b o hb e => mv.heap b o ?_ (Heap.get?_push_of_some _ (Heap.get?_push_of_some _ e))⟩
          intro q
          rcases List.mem_cons.mp q with q | q
          · exact absurd q (Nat.ne_of_lt hb)
          · have q2 := List.mem_singleton.mp q
            rw [sz] at q2
            exact absurd q2 (Nat.ne_of_lt (Nat.lt_succ_of_lt hb))
      · cases r2 with
        | error e => exact hr2
        | ok fl2 =>
          cases fl2 with
          | ret r =>
            obtain ⟨rfl, h', tk, rfl, has, kept⟩ := hr2
            repeat (any_goals (first | assumption | wp_step))
            exact k _ _ has kept
          | _ => exact hr2.elim
    | _ => exact hr.elim
end
end WbSet
namespace WbSet
open PySem PySem.Spec PyProof.Rows L2
variable {X : Cx}
/-- len(set(xs)), xs a list of texts -/
def tLenSet (K : PySem.W.Frag) (ta : TE) : TE := fun σ H Q => ta σ H fun x H1 => ∃ l, ∃ xs : List Str, x = .ref l ∧ SqL K H1 l (xs.map V.str) ∧ xs.length ≤ 4000 ∧ Q (.int (differ xs).length) H1
theorem pe_lenSet {a : Expr} {ta : TE} {p p2 q pos : Pos} (hc : X.calm = true) (hg : Gl X "len") (hm : X.mg "len" = none) (hg2 : Gl X "set") (hm2 : X.mg "set" = none) (ha : PE X a ta)
    (na : starEach [a] X.env = (false, eval a X.env) :: starEach [] X.env := by rfl) : PE X (.Call (.Name "len" p) [.Call (.Name "set" p2) [a] [] q] [] pos) (tLenSet X.K ta) := by
  refine ⟨fun pins s σ H Q I h => Call_ (ld_blt I hg hm boot_len ?_)⟩
  refine callWith_builtin1 (args_cons (Call_ (ld_blt I hg2 hm2 boot_set ?_)) rfl) rfl rfl
  refine callWith_type1 (args_cons (thn (ha.run pins s σ H _ I h) fun v s1 ⟨x, H1, I1, r1, q1⟩ => args_nil ?_) na) na rfl
  obtain ⟨l, xs, rfl, hq, few, q1⟩ := q1
  cases r1
  obtain ⟨its, r, pl, hz⟩ := I1.list hq
  refine call_set (I1.ok.hd hc) pl.isList (by simpa using strsAre_of r) (by unfold scanBound; omega) fun h' tk has kept => args_nil ?_
  obtain ⟨o, es, ep, t, ho, hex, hd, _, _, _, hf, hn⟩ := has
  have I2 : Inv X pins σ H1 { s1 with heap := h', toks := tk } := I1.kept fun b o e => kept b o (Heap.lt_size e) e
  have le := differ_le xs
  exact call_len_set ho hex hd hf (by rw [hn]; omega) ⟨.int (differ xs).length, H1, I2.tok _, ⟨_, by rw [hn]⟩, q1⟩
end WbSet
/-! min(xs) of a list of texts; a text so many times -/
namespace WbMin
open PySem PySem.W PySem.Spec PyProof.Rows L2
/-- the least text, the first of them -/
def minS (x : Str) (xs : List Str) : Str := xs.foldl (fun a y => if y.cps.toList < a.cps.toList then y else a) x
theorem minD_minS (x : Str) : ∀ xs : List Str, minD (.str x) (xs.map PyData.str) = .str (minS x xs) := by
  intro xs
  unfold minD minS
  induction xs generalizing x with
  | nil => rfl
  | cons y r ih =>
    simp only [List.map_cons, List.foldl_cons, dataLt_str]
    by_cases q : y.cps.toList < x.cps.toList
    · simp only [q, decide_true, if_true]
      exact ih y
    · simp only [q, decide_false, if_false, Bool.false_eq_true]
      exact ih x
theorem depthAll_strs : ∀ xs : List Str, PyData.depthAll (xs.map PyData.str) = 0
  | [] => rfl
  | x :: r => by
    show max (PyData.depth (.str x)) (PyData.depthAll (r.map PyData.str)) = 0
    rw [depthAll_strs r] <;> rfl
theorem alike_strs (xs : List Str) : AlikeAll (xs.map PyData.str) := by
  refine ⟨fun d hd e he => ?_, fun d hd => ?_⟩
  · obtain ⟨x, _, rfl⟩ := List.mem_map.mp hd
    obtain ⟨y, _, rfl⟩ := List.mem_map.mp he
    rfl
  · obtain ⟨x, _, rfl⟩ := List.mem_map.mp hd
    exact fun z => nomatch z
theorem reads_strs {h : Heap} : ∀ {xs : List Str} {us : List Value}, Vals (xs.map V.str) us → ReadsAll h us (xs.map PyData.str) []
  | [], _, .nil => .nil
  | x :: r, _, .cons q t => by
    obtain ⟨k, rfl⟩ := q
    exact ReadsAll.cons (as := []) (bs := []) (.str x k) (reads_strs t)
theorem reads_str {h : Heap} {v : Value} {x : Str} {bs : List Addr} (r : Reads h v (.str x) bs) : ∃ t, v = .str x t := by
  cases r with
  | str _ t => exact ⟨t, rfl⟩
section
variable {X : Cx}
/-- min(xs), xs a list of one text or more -/
def rMinS (K : PySem.W.Frag) : List V → Hp → VK → Prop := fun vs H Q => ∃ (a : Addr) (x : Str) (xs : List Str), vs = [V.ref a] ∧ SqL K H a ((x :: xs).map V.str) ∧ Q (.str (minS x xs)) H
theorem cr_minS {k : Nat} (hr : Room k X.A) (hc : X.calm = true) : CallR X (.builtin "min") (rMinS X.K) := by
  intro pins s σ H vs us Q I r h
  obtain ⟨a, x, xs, rfl, hs, q⟩ := h
  obtain ⟨its, rv, hl, _⟩ := I.list hs
  rw [Vals.ref1 r]
  have rd : ReadsAll s.heap its.toArray.toList (PyData.str x :: xs.map PyData.str) [] := by simpa using reads_strs (h := s.heap) rv
  have un := hr.units
  have al : AlikeAll (PyData.str x :: xs.map PyData.str) := alike_strs (x :: xs)
  have dp : PyData.depthAll (PyData.str x :: xs.map PyData.str) = 0 := depthAll_strs (x :: xs)
  refine min_list_data (I.ok.hd hc) hl.isList rd al (by rw [dp]; omega) fun i v h' tk bs hv hm kept => ?_
  rw [minD_minS] at hm
  obtain ⟨t, rfl⟩ := reads_str hm
  exact ⟨.str (minS x xs), H, I.kept kept, ⟨t, rfl⟩, q⟩
/-- z * k, z a text -/
def rMulS : R2 := fun x y H Q => ∃ (z : Str) (k : Int), x = .str z ∧ y = .int k ∧ MulOk z k ∧ Q (.str (Txt.mul z k)) H
theorem op_mulS : OpR X (binaryOp .Mult) rMulS := by
  intro pins s σ H x y v u Q I rx ry h
  obtain ⟨z, k, rfl, rfl, ok, q⟩ := h
  obtain ⟨t, rfl⟩ := rx
  obtain ⟨t2, rfl⟩ := ry
  exact SB.mul ok fun t' n => ⟨.str (Txt.mul z k), H, I.tok n, ⟨t', rfl⟩, q⟩
end
/-- so many times, by the signs -/
theorem mulOk {z : Str} {k : Int} (h0 : 0 ≤ k) (h : z.length * k.toNat ≤ 16777216) (hk : k ≤ 16777216) : MulOk z k := by
  refine ⟨?_, fun h1 _ => ?_, fun h1 _ => ?_⟩
  · rw [decide_eq_false (show ¬ k < -(2 ^ 63) by omega), decide_eq_false (show ¬ k ≥ 2 ^ 63 by omega)] <;> rfl
  · intro q
    have k1 : 0 < k := by omega
    have h2 : (z.length : Int) * k ≤ 16777216 := by
      have e : ((z.length * k.toNat : Nat) : Int) = (z.length : Int) * k := by
        rw [Int.natCast_mul, Int.toNat_of_nonneg h0]
      rw [← e]
      exact Int.ofNat_le.mpr h
    have h3 : (2 ^ 63 - 1) / k < (z.length : Int) := q
    have h4 : (2 ^ 63 - 1 : Int) < (z.length : Int) * k := (Int.ediv_lt_iff_lt_mul k1).mp h3
    omega
  · show decide (z.length * k.toNat > sizeLine) = false
    exact decide_eq_false (by rw [sizeLine_eq]; omega)
theorem fold_cat : ∀ (n : Nat) (c acc : Array Nat), ((List.replicate n c).foldl (· ++ ·) acc).toList = acc.toList ++ (List.replicate n c.toList).flatten
  | 0, c, acc => by simp
  | n + 1, c, acc => by
    rw [List.replicate_succ, List.foldl_cons, fold_cat n c (acc ++ c), List.replicate_succ, List.flatten_cons, Array.toList_append, List.append_assoc]
theorem mul_cps {z : Str} {k : Int} (h0 : 0 ≤ k) : (Txt.mul z k).cps.toList = (List.replicate k.toNat z.cps.toList).flatten := by
  unfold Txt.mul
  by_cases h1 : k < 1
  · obtain rfl : k = 0 := by omega
    rw [if_pos h1] <;> rfl
  · rw [if_neg h1]
    by_cases h2 : (k == 1 || z.length == 0) = true
    · rw [if_pos h2]
      rcases Bool.or_eq_true _ _ ▸ h2 with e | e
      · have e1 : k = 1 := by simpa using e
        subst e1
        simp
      · have e1 : z.cps.size = 0 := by
          have q : z.length = 0 := by simpa using e
          exact q
        have e2 : z.cps.toList = [] := List.eq_nil_of_length_eq_zero (by rw [Array.length_toList]; exact e1)
        rw [e2]
        simp
    · rw [if_neg h2]
      show ((List.replicate k.toNat z.cps).foldl (· ++ ·) #[]).toList = _
      rw [fold_cat]
      simp
end WbMin
namespace Wb
open PySem L2 WbMin
abbrev sSigns : Stmt := top 41
/-- the text of these codes -/
def S (l : List Nat) : Str := ⟨l.toArray⟩
theorem S_cps (l : List Nat) : (S l).cps.toList = l := by simp [S]
theorem S_size (l : List Nat) : (S l).cps.size = l.length := by simp [S]
theorem S_len (l : List Nat) : (S l).length = l.length := S_size l
theorem S_of (z : Str) : S z.cps.toList = z := by cases z; simp [S]
theorem S_eq {z : Str} {l : List Nat} (h : z.cps.toList = l) : z = S l := by rw [← h, S_of]
theorem S_add (l m : List Nat) : S l ++ S m = S (l ++ m) := by
  show Str.append (S l) (S m) = S (l ++ m)
  simp [S, Str.append]
def one (c : Nat) : Str := ⟨#[c]⟩
theorem S_one (c : Nat) : one c = S [c] := rfl
def abc : List Nat := (List.range 26).map (· + 97)
theorem abc_is : ("abcdefghijklmnopqrstuvwxyz" : Str) = S abc := by decide +kernel
/-- small letters -/
def Low (l : List Nat) : Prop := ∀ c ∈ l, 97 ≤ c ∧ c ≤ 122
theorem abc_low : Low abc := by unfold Low abc; decide
theorem abc_len : abc.length = 26 := rfl
/-- a def of the top -/
structure Def (K : PySem.W.Frag) (mg : Str → Option Value) (x : Str) (st : Stmt) (ps : List Str) (f : Addr) (fd : FuncData) : Prop where
  F : Fun K x x st f fd
  g : mg x = some (.ref f)
  kp : PySem.W.keepIn K (.ref f) = true
  b : Binds K fd ps []
def spSigns : Sp := fun vs H Q _ => ∃ (p : Addr) (m : Int), vs = [.ref p, .int m] ∧ 0 < m ∧ m ≤ 26 ∧ PoolAt H p ∧
  ∀ (l : List Nat) (H' : Hp), Low l → l.Nodup → 0 < l.length → (l.length : Int) ≤ m → PoolAt H' p → But p H H' → Q (.str (S l)) H'
theorem drop_one (a : Nat) : ∀ ys : List Nat, ys.Nodup → ys.length ≤ (ys.filter fun c => !decide (c = a)).length + 1
  | [], _ => Nat.zero_le _
  | y :: r, nd => by
    obtain ⟨n1, n2⟩ := List.nodup_cons.mp nd
    by_cases e : y = a
    · have e1 : (r.filter fun c => !decide (c = a)) = r := List.filter_eq_self.mpr fun c hc => by
        have : c ≠ a := fun z => n1 (e ▸ z ▸ hc)
        simp [this]
      rw [List.filter_cons_of_neg (by simp [e]), e1] <;> exact Nat.le_refl _
    · rw [List.filter_cons_of_pos (by simp [e])]
      have := drop_one a r n2
      simp only [List.length_cons]
      omega
theorem left_len : ∀ (l xs : List Nat), xs.Nodup → xs.length ≤ (xs.filter fun c => !decide (c ∈ l)).length + l.length
  | [], xs, _ => by
    have e : (xs.filter fun c => !decide (c ∈ ([] : List Nat))) = xs := List.filter_eq_self.mpr (by simp)
    rw [e] <;> exact Nat.le_refl _
  | a :: l, xs, nd => by
    have ih := left_len l xs nd
    have e : (xs.filter fun c => !decide (c ∈ a :: l)) = ((xs.filter fun c => !decide (c ∈ l)).filter fun c => !decide (c = a)) := by
      rw [List.filter_filter]
      refine List.filter_congr fun c _ => ?_
      by_cases h1 : c = a <;> by_cases h2 : c ∈ l <;> simp [h1, h2]
    have := drop_one a _ (nd.filter fun c => !decide (c ∈ l))
    rw [e]
    simp only [List.length_cons]
    omega
theorem rest_pos {l : List Nat} (h : l.length < 26) : 0 < (abc.filter fun c => !decide (c ∈ l)).length := by
  have := left_len l abc (by unfold abc; decide)
  rw [abc_len] at this
  omega
theorem PoolAt.up {H : Hp} {p q : Addr} {o : HO} (h : PoolAt H p) (n : H q = none) : PoolAt (L2.upd H q o) p := by
  obtain ⟨a, b, c, e, r⟩ := h
  exact ⟨a, b, c, by rw [upd_ne (ne_of_none e n)]; exact e, r⟩
theorem PoolAt.ne {H : Hp} {p q : Addr} (h : PoolAt H p) (n : H q = none) : q ≠ p := by
  obtain ⟨a, b, c, e, r⟩ := h
  exact (ne_of_none e n).symm
theorem PoolAt.put {H : Hp} {p q : Addr} {o : HO} (h : PoolAt H p) (n : q ≠ p) : PoolAt (L2.upd H q o) p := by
  obtain ⟨a, b, c, e, r⟩ := h
  exact ⟨a, b, c, by rw [upd_ne n.symm]; exact e, r⟩
/-- a store at a thing that was not there at first -/
theorem But.new {p q : Addr} {o : HO} {H H' : Hp} (a : But p H H') (n : H q = none) : But p H (L2.upd H' q o) := fun c u k h => by
  rw [upd_ne (ne_of_none h n)]
  exact a c u k h
theorem But.free {p q : Addr} {H H' : Hp} (a : But p H H') (n : H' q = none) (ne : q ≠ p) : H q = none := by
  cases e : H q with
  | none => rfl
  | some o =>
    rw [a q o ne e] at n
    cases n
theorem take_more {α : Type} : ∀ {l : List α} {i : Nat} {x : α}, l[i]? = some x → l.take (i + 1) = l.take i ++ [x] := fun {l i x} h => by
  rw [List.take_add_one, h] <;> rfl
def vOne (c : Nat) : V := .str (one c)
section
variable {P : Program} {w : World} {K : PySem.W.Frag} {mg : Str → Option Value} {base : Heap} {f fD : Addr} {fd fdD : FuncData}
theorem scS : FnScope ["_law_pool_here", "_law_most", "_law_found", "_law_turn", "_law_rest", "_law_mark"] ["_law_pool_here", "_law_most"] (defScope sSigns) := ⟨rfl, rfl, rfl, by decide +kernel, rfl, by decide +kernel, by decide +kernel⟩
theorem ok_signs (F : Fun K "_law_signs" "_law_signs" sSigns f fd) (D : Def K mg "_law_draw" sDraw ["_law_pool_here", "_law_many"] fD fdD) (mInt : mg "int" = none) (mDm : mg "divmod" = none) (mLen : mg "len" = none) (mRange : mg "range" = none) :
    FnOk P w K mg base CX0 2 f fd ["_law_pool_here", "_law_most"] spSigns := by
  have G : FnOk P w K mg base CX0 1 fD fdD ["_law_pool_here", "_law_many"] spDraw := ok_draw D.F mInt mDm
  refine F.ok scS (fun vs H Q E h => ?_) (fun cdv A outer s H vs Q E hr h => ?_)
  · obtain ⟨p, m, rfl, _⟩ := h
    rfl
  · obtain ⟨p, m, rfl, m0, m1, hp, k⟩ := h
    refine ⟨_, pss_cons (ps_set (i := 2) scS.nd rfl (.inr rfl) pe_str)
      (pss_cons (ps_for PassesOwn.never rfl (pi_range1 rfl mRange (pa_cons (pe_op op_add pe_int (pe_call G hr rfl D.g D.kp D.b .nil pass0 (pa_cons (pv 0) (pa_cons (pv 1) pa_nil)))) pa_nil)) (pg_name (i := 3) scS.nd rfl (.inl rfl))
        (pss_cons (ps_setLc (i := 4) (own := [("_law_mark", 5)]) (g := gName 5) rfl scS.nd rfl rfl (sw_true rfl rfl rfl (by decide +kernel)) (pi_str pe_str) (blkOk_by (N := ["_law_pool_here", "_law_most", "_law_found", "_law_turn", "_law_rest", "_law_mark"]) (sc := defScope sSigns) (by decide +kernel))
            (fun _ _ _ _ _ => pg_name (i := 5) scS.nd rfl (.inl rfl)) (fun _ _ _ _ _ => pts_one (pt_cmpR op_notIn_sign (pv 5) (pv 2) rfl)) (fun _ _ _ _ _ => pv 5))
          (pss_one (ps_set (i := 2) scS.nd rfl (.inr rfl) (pe_op op_add_str (pv 2) (pe_ix ix_list (pv 4) (pe_call G hr rfl D.g D.kp D.b .nil pass0 (pa_cons (pv 0) (pa_cons (pe_callB call_len_seq (by rfl) mLen PySem.boot_len (pa_cons (pv 4) pa_nil)) pa_nil))) (fun _ _ => rfl)))))))
      (pss_one (ps_ret (pv 2)))), ?_⟩
    have e0 : (Str.ofString "" : Str) = S [] := by decide +kernel
    refine ⟨_, rfl, _, rfl, p, m, rfl, m0, by omega, hp, fun d H1 d0 d1 hp1 b1 => ⟨_, _, rfl, rfl, _, rfl, by omega, by omega, for_it walk_range
      (fun i σ H' => ∃ (l : List Nat) (v3 v4 v5 : Option V), σ = [some (.ref p), some (.int m), some (.str (S l)), v3, v4, v5] ∧ Low l ∧ l.Nodup ∧ l.length = i ∧ PoolAt H' p ∧ But p H H')
      ⟨[], none, none, none, by rw [← e0]; rfl, (fun c hc => nomatch hc), List.nodup_nil, rfl, hp1, b1⟩ (fun _ _ _ _ _ => trivial) ?_ ?_⟩⟩
    · rintro i x σ H2 H2' hi ⟨l, v3, v4, v5, rfl, lo, nd, ll, hp2, b2⟩ ⟨rfl, rfl⟩
      refine ⟨_, rfl, fun D hD => lc_it walk_str (fun j H3 => H3 D = some (.lst (((abc.take j).filter fun c => !decide (c ∈ l)).map vOne)) ∧ PoolAt H3 p ∧ But p H H3) ?_ (fun _ _ _ _ => trivial) ?_ ?_⟩
      · exact ⟨upd_same, hp2.up hD, b2.upd hD⟩
      · rintro j y H3 H3' hj ⟨h1, h2, h3⟩ ⟨rfl, c, hc, rfl⟩
        have hc' : abc[j]? = some c := by
          rw [abc_is] at hc
          simpa [S] using hc
        have hD0 : H D = none := b2.free hD (hp2.ne hD)
        refine ⟨rfl, _, rfl, _, rfl, c, S l, rfl, rfl, _, rfl, ite2 (fun q => ?_) (fun q => ?_)⟩
        · refine ⟨_, rfl, _, h1, ?_, ?_, h2.put (hp2.ne hD), h3.new hD0⟩
          · rw [List.length_map, sizeLine_eq]
            have := List.length_filter_le (fun c => !decide (c ∈ l)) (abc.take j)
            have := List.length_take_le' j abc
            rw [abc_len] at this
            omega
          · rw [upd_same, take_more hc', List.filter_append, List.map_append]
            rw [S_cps] at q
            rw [show ([c].filter fun c => !decide (c ∈ l)) = [c] from List.filter_cons_of_pos q] <;> rfl
        · refine ⟨?_, h2, h3⟩
          rw [S_cps] at q
          rw [h1, take_more hc', List.filter_append, show ([c].filter fun c => !decide (c ∈ l)) = [] from List.filter_cons_of_neg q, List.append_nil]
      · rintro H3 ⟨h1, h2, h3⟩
        have full : abc.take ("abcdefghijklmnopqrstuvwxyz" : Str).cps.size = abc := by rw [abc_is, S_size, List.take_length]
        rw [full] at h1
        have ne : 0 < (abc.filter fun c => !decide (c ∈ l)).length := rest_pos (by omega)
        refine ⟨_, rfl, _, rfl, _, rfl, _, rfl, D, _, rfl, .inl (SqL.of h1), p, _, rfl, ?_, ?_, h2, fun e H4 e0 e1 hp4 b4 => ?_⟩
        · rw [List.length_map]
          omega
        · rw [List.length_map]
          have := List.length_filter_le (fun c => !decide (c ∈ l)) abc
          rw [abc_len] at this
          omega
        · have e1' : e.toNat < (abc.filter fun c => !decide (c ∈ l)).length := by
            rw [List.length_map] at e1
            omega
          obtain ⟨c, hc⟩ : ∃ c, (abc.filter fun c => !decide (c ∈ l))[e.toNat]? = some c := ⟨_, List.getElem?_eq_getElem e1'⟩
          obtain ⟨c1, c2⟩ := List.mem_filter.mp (List.mem_of_getElem? hc)
          have c3 : c ∉ l := by simpa using c2
          have hat : atI ((abc.filter fun c => !decide (c ∈ l)).map vOne) e = some (vOne c) := by
            have q := atI_nat (xs := (abc.filter fun c => !decide (c ∈ l)).map vOne) (j := e.toNat) (v := vOne c) (by rw [List.getElem?_map, hc] <;> rfl)
            rwa [Int.toNat_of_nonneg e0] at q
          have h4 := b4 D _ (hp2.ne hD) h1
          refine ⟨D, _, _, _, rfl, rfl, SqL.of h4, hat, _, _, rfl, rfl, ?_, l ++ [c], some (.int (0 + (i : Nat))), some (.ref D), v5, ?_, fun z hz => ?_, ?_, ?_, hp4, h3.trans b4⟩
          · rw [S_len, sizeLine_eq]
            show l.length + 1 ≤ 16777216
            omega
          · rw [← S_add]
            rfl
          · rcases List.mem_append.mp hz with hz | hz
            · exact lo z hz
            · rw [List.mem_singleton.mp hz]
              exact abc_low c c1
          · rw [List.nodup_append]
            exact ⟨nd, by simp, fun a ha b hb q => c3 (by rw [← List.mem_singleton.mp hb, ← q]; exact ha)⟩
          · rw [List.length_append, ll] <;> rfl
    · rintro σ H2 ⟨l, v3, v4, v5, rfl, lo, nd, ll, hp2, b2⟩
      exact ⟨_, rfl, k l _ lo nd (by omega) (by omega) hp2 b2⟩
end
end Wb
namespace Wb
open PySem L2 WbMin
theorem one_cat : ∀ (l : List Nat) (c : Nat), Str.join (S []) ((c :: l).map one) = S (c :: l)
  | [], c => rfl
  | d :: l, c => by
    have ih := one_cat l d
    show one c ++ S [] ++ Str.join (S []) ((d :: l).map one) = S (c :: d :: l)
    rw [ih, S_one, S_add, S_add]
    rfl
theorem join_one {l : List Nat} (h : 0 < l.length) : Txt.join (Str.ofString "") (l.map one) = S l := by
  have e0 : (Str.ofString "" : Str) = S [] := by decide +kernel
  cases l with
  | nil => cases h
  | cons c l =>
    rw [e0]
    show Builtin.Str.glued (S []) ((c :: l).map one) = S (c :: l)
    rw [StrLaws.glued_eq_join]
    exact one_cat l c
end Wb
namespace Wb
open PySem L2 WbMin
abbrev sIsInt : Stmt := top 5
abbrev sIsWord : Stmt := top 7
abbrev sTurns : Stmt := top 24
abbrev sInit : Stmt := inClass (top 27) 0
/-! ### the mathematics: turnings as lists of codes -/
def rot (l : List Nat) (i : Nat) : List Nat := l.drop i ++ l.take i
def turnsS (l : List Nat) : List Str := (List.range l.length).map fun i => S (rot l i)
def leastOf : List Str → Str
  | [] => S []
  | x :: xs => minS x xs
def textS (l : List Nat) : Str := leastOf (turnsS l)
def perN (l : List Nat) : Nat := (WbSet.differ (turnsS l)).length
/-- a word as it is passed -/
structure IsW (l : List Nat) : Prop where
  low : Low l
  pos : 0 < l.length
  few : l.length ≤ 600
theorem IsW.fits {l : List Nat} (h : IsW l) : (S l).length ≤ sizeLine := by
  rw [S_len, sizeLine_eq]
  have := h.few
  omega
theorem cut_from {l : List Nat} {i : Nat} (h : i ≤ l.length) : cutS (S l) (some (i : Int)) none = S (l.drop i) := by
  show S _ = S _
  rw [HT.sIx_none, HT.sIx_nat, S_len, S_cps, Nat.min_eq_left h]
  congr 1
  exact List.take_of_length_le (by rw [List.length_drop] <;> exact Nat.le_refl _)
theorem cut_to {l : List Nat} {i : Nat} (h : i ≤ l.length) : cutS (S l) none (some (i : Int)) = S (l.take i) := by
  show S _ = S _
  rw [HT.sIx_none, HT.sIx_nat, S_len, S_cps, Nat.min_eq_left h] <;> rfl
theorem rot_len (l : List Nat) (i : Nat) : (rot l i).length = l.length := by
  unfold rot
  rw [List.length_append, List.length_drop, List.length_take]
  omega
theorem turns_len (l : List Nat) : (turnsS l).length = l.length := by
  unfold turnsS
  rw [List.length_map, List.length_range]
theorem least_cons {xs : List Str} (h : 0 < xs.length) : ∃ x r, xs = x :: r ∧ leastOf xs = minS x r := by
  cases xs with
  | nil => cases h
  | cons x r => exact ⟨x, r, rfl, rfl⟩
/-! ### the object -/
def rf (t : Str) (n : Int) : List (Str × V) := putF "_period" (.int n) (putF "_text" (.str t) [])
theorem tp_ : ¬ (("_text" : Str) = "_period") := by decide +kernel
theorem rf_text (t : Str) (n : Int) : (rf t n).lookup ("_text" : Str) = some (.str t) := by
  unfold rf
  rw [lookup_putF, if_neg tp_, lookup_putF, if_pos rfl]
theorem rf_period (t : Str) (n : Int) : (rf t n).lookup ("_period" : Str) = some (.int n) := by
  unfold rf
  rw [lookup_putF, if_pos rfl]
theorem rf_no (t : Str) (n : Int) {m : Str} (h1 : ¬ m = "_period") (h2 : ¬ m = "_text") : (rf t n).lookup m = none := by
  unfold rf
  rw [lookup_putF, if_neg h1, lookup_putF, if_neg h2] <;> rfl
/-- the ring of the word l stands at r -/
def RingAt (C : Addr) (H : Hp) (r : Addr) (l : List Nat) : Prop := IsW l ∧ ∃ dx, H r = some (.ins C dx (rf (textS l) (perN l)))
theorem RingAt.same {C : Addr} {H H' : Hp} {r : Addr} {l : List Nat} (h : RingAt C H r l) (s : Same H H') : RingAt C H' r l := by
  obtain ⟨W, dx, e⟩ := h
  exact ⟨W, dx, s _ _ e⟩
theorem RingAt.but {C p : Addr} {H H' : Hp} {r : Addr} {l : List Nat} (h : RingAt C H r l) (s : But p H H') (n : r ≠ p) : RingAt C H' r l := by
  obtain ⟨W, dx, e⟩ := h
  exact ⟨W, dx, s _ _ n e⟩
def spIsWord : Sp := fun vs H Q _ => ∃ l : List Nat, vs = [.str (S l)] ∧ IsW l ∧ ∀ H', Same H H' → Q (.bl true) H'
def spTurns : Sp := fun vs H Q _ => ∃ l : List Nat, vs = [.str (S l)] ∧ IsW l ∧ ∀ (a : Addr) (H' : Hp), H a = none → Same H H' → H' a = some (.lst ((turnsS l).map V.str)) → Q (.ref a) H'
def spInit (C : Addr) : Sp := fun vs H Q _ => ∃ (H0 : Hp) (r dx : Addr) (l : List Nat), vs = [.ref r, .str (S l)] ∧ IsW l ∧ Same H0 H ∧ H0 r = none ∧ H r = some (.ins C dx []) ∧ ∀ H' : Hp, Same H0 H' → RingAt C H' r l → Q .non H'
/-- what the top has written of the class -/
structure Txt (K : PySem.W.Frag) (mg : Str → Option Value) (C : Addr) : Prop where
  cl : Cls K C
  nT : NoAttr K C "_text"
  nP : NoAttr K C "_period"
  gC : mg "Ring" = some (.ref C)
  hcl : PySem.W.findIn K (.ref C) "__class__" = some (some (.builtin "object.__class__"))
  hgt : PySem.W.specialIn K (.builtin "object.__class__") "__get__" = some (some (.builtin "getset_descriptor.__get__"))
  htk : PySem.W.takesIn K (.builtin "object.__class__") = some true
  hob : PySem.W.mroIn K C (.type "object") = some true
/-- the built-ins that nobody has put another thing in the place of -/
structure Free (mg : Str → Option Value) : Prop where
  int : mg "int" = none
  len : mg "len" = none
  range : mg "range" = none
  divmod : mg "divmod" = none
  abs : mg "abs" = none
  isi : mg "isinstance" = none
  str : mg "str" = none
  all : mg "all" = none
  min : mg "min" = none
  max : mg "max" = none
  set : mg "set" = none
  bool : mg "bool" = none
theorem ifd {p A B : Prop} [Decidable p] (hp : p) (h : A) : if decide p = true then A else B := by
  rw [if_pos (decide_eq_true hp)]
  exact h
theorem ifn {p A B : Prop} [Decidable p] (hp : ¬ p) (h : B) : if decide p = true then A else B := by
  rw [if_neg (fun q => hp (of_decide_eq_true q))]
  exact h
theorem iteS {p A B : Prop} [Decidable p] (hp : ¬ p) (h : A) : if (!decide p) = true then A else B := by
  rw [decide_eq_false hp]
  exact h
theorem Same.new' {q : Addr} {o : HO} {H H' : Hp} (a : Same H H') (n : H q = none) : Same H (L2.upd H' q o) := fun c u h => by
  rw [upd_ne (ne_of_none h n)]
  exact a c u h
section
variable {P : Program} {w : World} {K : PySem.W.Frag} {mg : Str → Option Value} {base : Heap} {f fD fS fW : Addr} {fd fdD fdS fdW : FuncData}
theorem scIW : FnScope ["value", "sign"] ["value"] (defScope sIsWord) := ⟨rfl, rfl, rfl, by decide +kernel, rfl, by decide +kernel, by decide +kernel⟩
theorem ok_isword (F : Fun K "is_word" "is_word" sIsWord f fd) (Z : Free mg) (t6 : Tok) (g6 : mg "MOST_WORD" = some (.int 600 t6)) : FnOk P w K mg base CX0 1 f fd ["value"] spIsWord := by
  refine F.ok scIW (fun vs H Q E h => ?_) (fun cdv A outer s H vs Q E hr h => ?_)
  · obtain ⟨l, rfl, _⟩ := h
    rfl
  · obtain ⟨l, rfl, W, k⟩ := h
    refine ⟨_, pss_cons (ps_if (PW.pt (pw_or (pt_not (pt_val (pe_callB call_isi (by rfl) Z.isi (by decide +kernel) (pa_cons (pv 0) (pa_cons (pe_bltn (v := .ty "str") (u := .type "str") (by rfl) Z.str (by decide +kernel) rfl) pa_nil)))))
        (pw_or1 (pt_not (pt_chain op_le op_le pe_int (pe_callB call_len_str (by rfl) Z.len PySem.boot_len (pa_cons (pv 0) pa_nil)) (pe_glob (v := .int 600) (by rfl) g6 ⟨_, rfl⟩)))))) (pss_one (ps_never)) pss_nil)
      (pss_one (ps_ret (pe_callB (cr_all rfl) (by rfl) Z.all (by decide +kernel) (pa_cons
        (pe_lc (own := [("sign", 1)]) (g := gName 1) (tt := tYes) rfl scIW.nd (pi_str (pv 0)) (blkOk_by (N := ["value", "sign"]) (sc := defScope sIsWord) (by decide +kernel)) (fun _ _ _ _ _ => pg_name (i := 1) scIW.nd rfl (.inl rfl)) (fun _ _ _ _ _ => pts_nil)
          (fun _ _ _ _ _ => pe_chain op_le_str op_le_str pe_str (pv 1) pe_str)) pa_nil)))), ?_⟩
    have len1 : 1 ≤ ((S l).length : Int) := by rw [S_len]; have := W.pos; omega
    have len2 : ((S l).length : Int) ≤ 600 := by rw [S_len]; have := W.few; omega
    refine ⟨_, rfl, _, _, .type "str", .type "str", true, rfl, .ty "str", .base (.str _), kit_ty (by decide +kernel), true, rfl, ?_⟩
    refine ⟨_, rfl, _, rfl, W.fits, _, _, rfl, rfl, _, rfl, ifd len1 ⟨_, _, rfl, rfl, _, rfl, iteNS len2 ?_⟩⟩
    refine ⟨_, rfl, _, rfl, fun D hD => lc_it walk_str (fun i H3 => H3 D = some (.lst ((List.replicate i true).map V.bl)) ∧ Same H H3) ⟨upd_same, Same.put (Same.refl H) hD⟩ (fun _ _ _ _ => trivial) ?_ ?_⟩
    · rintro i x H3 H3' hi ⟨h1, h2⟩ ⟨rfl, c, hc, rfl⟩
      have mem : c ∈ l := by
        have q := Array.mem_of_getElem? hc
        simpa [S] using q
      have c12 := W.low c mem
      have la : ¬ (([c] : List Nat) < [97]) := by rw [List.cons_lt_cons_iff]; simp; omega
      have lz : ¬ (([122] : List Nat) < [c]) := by rw [List.cons_lt_cons_iff]; simp; omega
      have ea : ("a" : Str).cps.toList = [97] := by decide +kernel
      have ez : ("z" : Str).cps.toList = [122] := by decide +kernel
      refine ⟨rfl, _, rfl, _, _, rfl, rfl, _, rfl, iteS (by rw [ea]; exact la) ⟨_, _, rfl, rfl, ?_⟩⟩
      rw [ez, decide_eq_false (show ¬ (([122] : List Nat) < (⟨#[c]⟩ : Str).cps.toList) from lz)]
      refine ⟨_, h1, ?_, ?_, Same.new' h2 hD⟩
      · rw [List.length_map, List.length_replicate, sizeLine_eq]
        have := W.few
        rw [S_size] at hi
        omega
      · rw [upd_same, List.replicate_succ', List.map_append] <;> rfl
    · rintro H3 ⟨h1, h2⟩
      refine ⟨D, _, rfl, SqL.of h1, ?_⟩
      have e : (List.replicate (S l).cps.size true).all id = true := List.all_eq_true.mpr fun b hb => by rw [List.eq_of_mem_replicate hb] <;> rfl
      show Q (.bl ((List.replicate (S l).cps.size true).all id)) H3
      rw [e]
      exact k H3 h2
theorem scT : FnScope ["word", "place"] ["word"] (defScope sTurns) := ⟨rfl, rfl, rfl, by decide +kernel, rfl, by decide +kernel, by decide +kernel⟩
theorem ok_turns (F : Fun K "_all_turnings" "_all_turnings" sTurns f fd) (Z : Free mg) : FnOk P w K mg base CX0 1 f fd ["word"] spTurns := by
  refine F.ok scT (fun vs H Q E h => ?_) (fun cdv A outer s H vs Q E hr h => ?_)
  · obtain ⟨l, rfl, _⟩ := h
    rfl
  · obtain ⟨l, rfl, W, k⟩ := h
    refine ⟨_, pss_one (ps_ret (pe_lc (own := [("place", 1)]) (g := gName 1) (tt := tYes) rfl scT.nd (pi_range1 rfl Z.range (pa_cons (pe_callB call_len_str (by rfl) Z.len PySem.boot_len (pa_cons (pv 0) pa_nil)) pa_nil))
      (blkOk_by (N := ["word", "place"]) (sc := defScope sTurns) (by decide +kernel)) (fun _ _ _ _ _ => pg_name (i := 1) scT.nd rfl (.inl rfl)) (fun _ _ _ _ _ => pts_nil)
      (fun _ _ _ _ _ => pe_op op_add_str (pe_slice sl_str (pv 0) (po_some (pv 1)) po_none) (pe_slice sl_str (pv 0) po_none (po_some (pv 1)))))), ?_⟩
    have few := W.few
    refine ⟨_, rfl, _, rfl, W.fits, _, rfl, (by rw [S_len]; omega), (by rw [S_len]; omega), fun D hD => lc_it walk_range (fun i H3 => H3 D = some (.lst ((((List.range i).map fun j => S (rot l j))).map V.str)) ∧ Same H H3) ⟨upd_same, Same.put (Same.refl H) hD⟩ (fun _ _ _ _ => trivial) ?_ ?_⟩
    · rintro i x H3 H3' hi ⟨h1, h2⟩ ⟨rfl, rfl⟩
      rw [S_len] at hi
      have hi' : i ≤ l.length := by omega
      have c1 : cutS (S l) (some (0 + (i : Int))) none = S (l.drop i) := by rw [Int.zero_add]; exact cut_from hi'
      have c2 : cutS (S l) none (some (0 + (i : Int))) = S (l.take i) := by rw [Int.zero_add]; exact cut_to hi'
      have s1 := rot_len l i
      unfold rot at s1
      rw [List.length_append] at s1
      refine ⟨rfl, _, rfl, _, rfl, _, rfl, _, rfl, W.fits, _, rfl, _, rfl, _, rfl, _, rfl, W.fits, _, _, rfl, rfl, ?_, _, h1, ?_, ?_, Same.new' h2 hD⟩
      · rw [c1, c2, S_len, S_len, sizeLine_eq]
        omega
      · rw [List.length_map, List.length_map, List.length_range, sizeLine_eq]
        omega
      · rw [upd_same, c1, c2, S_add, List.range_succ, List.map_append, List.map_append] <;> rfl
    · rintro H3 ⟨h1, h2⟩
      refine k D H3 hD h2 ?_
      rw [h1, S_len] <;> rfl
/-- of InvalidWord nothing is asked: the branch is not taken -/
theorem scI : FnScope ["self", "text", "turnings"] ["self", "text"] (defScope sInit) := ⟨rfl, rfl, rfl, by decide +kernel, rfl, by decide +kernel, by decide +kernel⟩
theorem ok_init {C : Addr} (F : Fun K "__init__" "Ring.__init__" sInit f fd) (T : Txt K mg C) (Z : Free mg) (t6 : Tok) (g6 : mg "MOST_WORD" = some (.int 600 t6)) (DW : Def K mg "is_word" sIsWord ["value"] fW fdW) (DT : Def K mg "_all_turnings" sTurns ["word"] fS fdS) :
    FnOk P w K mg base CX0 2 f fd ["self", "text"] (spInit C) := by
  have GW : FnOk P w K mg base CX0 1 fW fdW ["value"] spIsWord := ok_isword DW.F Z t6 g6
  have GT : FnOk P w K mg base CX0 1 fS fdS ["word"] spTurns := ok_turns DT.F Z
  refine F.ok scI (fun vs H Q E h => ?_) (fun cdv A outer s H vs Q E hr h => ?_)
  · obtain ⟨H0, r, dx, l, rfl, _⟩ := h
    rfl
  · obtain ⟨H0, r, dx, l, rfl, W, s0, r0, hp, k⟩ := h
    refine ⟨_, pss_cons (ps_if (pt_not (pt_val (pe_call GW hr rfl DW.g DW.kp DW.b .nil pass0 (pa_cons (pv 1) pa_nil)))) (pss_one ps_never) pss_nil)
      (pss_cons (ps_set (i := 2) scI.nd rfl (.inl rfl) (pe_call GT hr rfl DT.g DT.kp DT.b .nil pass0 (pa_cons (pv 1) pa_nil)))
      (pss_cons (ps_fld (pv 0) (pe_callB (cr_minS hr rfl) (by rfl) Z.min (by decide +kernel) (pa_cons (pv 2) pa_nil)) rfl)
      (pss_one (ps_fld (pv 0) (WbSet.pe_lenSet rfl (by rfl) Z.len (by rfl) Z.set (pv 2)) rfl)))), ?_⟩
    refine ⟨_, rfl, l, rfl, W, fun H1 s1 => ⟨true, rfl, _, rfl, l, rfl, W, fun a H2 a0 s2 h2 => ?_⟩⟩
    obtain ⟨x, xs, e1, e2⟩ := least_cons (xs := turnsS l) (by rw [turns_len]; exact W.pos)
    have hr2 : H2 r = some (.ins C dx []) := s2 _ _ (s1 _ _ hp)
    have nra : a ≠ r := ne_of h2 hr2 (by intro z; cases z)
    refine ⟨_, rfl, a, x, xs, rfl, SqL.of (by rw [h2, e1]), _, rfl, r, C, dx, _, rfl, hr2, T.cl, T.nT, (by show 0 < 1000; decide), ?_⟩
    refine ⟨_, rfl, a, turnsS l, rfl, SqL.of (by rw [upd_ne nra]; exact h2), (by rw [turns_len]; have := W.few; omega), _, rfl, r, C, dx, _, rfl, upd_same, T.cl, T.nP, (by show 1 < 1000; decide), ?_⟩
    refine k _ ?_ ⟨W, dx, ?_⟩
    · exact Same.new' (Same.new' ((s0.trans s1).trans s2) r0) r0
    · rw [upd_same]
      unfold rf textS perN
      rw [e2]
end
end Wb
/-! the mathematics of turnings: the least one, the number of different ones -/
namespace Wb
open PySem L2 WbMin
/-! ### lists without doubles -/
theorem few_of_sub {α : Type} [DecidableEq α] : ∀ (l xs : List α), xs.Nodup → (∀ x ∈ xs, x ∈ l) → xs.length ≤ l.length
  | [], xs, _, h => by
    cases xs with
    | nil => exact Nat.le_refl _
    | cons x r => exact absurd (h x List.mem_cons_self) (List.not_mem_nil)
  | a :: l, xs, nd, h => by
    have e : (xs.filter fun c => !decide (c = a)).length ≤ l.length := few_of_sub l _ (nd.filter _) fun x hx => by
      obtain ⟨h1, h2⟩ := List.mem_filter.mp hx
      rcases List.mem_cons.mp (h x h1) with q | q
      · simp [q] at h2
      · exact q
    have d : xs.length ≤ (xs.filter fun c => !decide (c = a)).length + 1 := by
      clear e h
      induction xs with
      | nil => exact Nat.zero_le _
      | cons y r ih =>
        obtain ⟨n1, n2⟩ := List.nodup_cons.mp nd
        by_cases q : y = a
        · have e1 : (r.filter fun c => !decide (c = a)) = r := List.filter_eq_self.mpr fun c hc => by
            have : c ≠ a := fun z => n1 (q ▸ z ▸ hc)
            simp [this]
          rw [List.filter_cons_of_neg (by simp [q]), e1] <;> exact Nat.le_refl _
        · rw [List.filter_cons_of_pos (by simp [q])]
          have := ih n2
          simp only [List.length_cons]
          omega
    simp only [List.length_cons]
    omega
theorem same_count {α : Type} [DecidableEq α] {xs ys : List α} (nx : xs.Nodup) (ny : ys.Nodup) (h : ∀ x, x ∈ xs ↔ x ∈ ys) : xs.length = ys.length :=
  Nat.le_antisymm (few_of_sub ys xs nx fun x q => (h x).mp q) (few_of_sub xs ys ny fun x q => (h x).mpr q)
theorem fold_mem (x : Str) : ∀ (xs acc : List Str), x ∈ xs.foldl WbSet.addNew acc ↔ x ∈ acc ∨ x ∈ xs
  | [], acc => by simp
  | y :: r, acc => by
    rw [List.foldl_cons, fold_mem x r, WbSet.addNew_mem, List.mem_cons, or_assoc]
theorem fold_nodup : ∀ (xs acc : List Str), acc.Nodup → (xs.foldl WbSet.addNew acc).Nodup
  | [], _, h => h
  | y :: r, acc, h => fold_nodup r _ (by
    unfold WbSet.addNew
    by_cases q : y ∈ acc
    · rw [if_pos q] <;> exact h
    · rw [if_neg q, List.nodup_append]
      exact ⟨h, by simp, fun a ha b hb e => q (by rw [← List.mem_singleton.mp hb, ← e]; exact ha)⟩)
theorem differ_mem (x : Str) (xs : List Str) : x ∈ WbSet.differ xs ↔ x ∈ xs := by
  unfold WbSet.differ
  rw [fold_mem]
  simp
theorem differ_nodup (xs : List Str) : (WbSet.differ xs).Nodup := fold_nodup xs [] List.nodup_nil
theorem differ_same {xs ys : List Str} (h : ∀ x, x ∈ xs ↔ x ∈ ys) : (WbSet.differ xs).length = (WbSet.differ ys).length :=
  same_count (differ_nodup xs) (differ_nodup ys) fun x => by rw [differ_mem, differ_mem, h]
/-! ### the least text -/
theorem min_mem : ∀ (xs : List Str) (x : Str), minS x xs ∈ x :: xs
  | [], x => List.mem_cons_self
  | y :: r, x => by
    show minS (if y.cps.toList < x.cps.toList then y else x) r ∈ x :: y :: r
    split
    · exact List.mem_cons_of_mem _ (min_mem r y)
    · rcases List.mem_cons.mp (min_mem r x) with q | q
      · rw [q] <;> exact List.mem_cons_self
      · exact List.mem_cons_of_mem _ (List.mem_cons_of_mem _ q)
theorem not_lt_trans {a b c : List Nat} (h1 : ¬ b < a) (h2 : ¬ c < b) : ¬ c < a := fun q => by
  have h1' : a ≤ b := h1
  have h2' : b ≤ c := h2
  exact List.le_trans h1' h2' q
theorem min_le : ∀ (xs : List Str) (x y : Str), y ∈ x :: xs → ¬ y.cps.toList < (minS x xs).cps.toList
  | [], x, y, h => by
    rw [List.mem_singleton.mp h]
    exact List.lt_irrefl _
  | z :: r, x, y, h => by
    show ¬ y.cps.toList < (minS (if z.cps.toList < x.cps.toList then z else x) r).cps.toList
    by_cases q : z.cps.toList < x.cps.toList
    · rw [if_pos q]
      rcases List.mem_cons.mp h with e | e
      · subst e
        have h1 := min_le r z z List.mem_cons_self
        exact not_lt_trans h1 (fun w => List.lt_asymm w q)
      · exact min_le r z y e
    · rw [if_neg q]
      rcases List.mem_cons.mp h with e | e
      · subst e
        exact min_le r y y List.mem_cons_self
      · rcases List.mem_cons.mp e with e | e
        · subst e
          exact not_lt_trans (min_le r x x List.mem_cons_self) q
        · exact min_le r x y (List.mem_cons_of_mem _ e)
theorem least_mem {xs : List Str} (h : 0 < xs.length) : leastOf xs ∈ xs := by
  obtain ⟨x, r, e, q⟩ := least_cons h
  rw [q, e]
  exact min_mem r x
theorem least_le {xs : List Str} {y : Str} (h : y ∈ xs) : ¬ y.cps.toList < (leastOf xs).cps.toList := by
  cases xs with
  | nil => exact absurd h List.not_mem_nil
  | cons x r => exact min_le r x y h
theorem least_same {xs ys : List Str} (h0 : 0 < xs.length) (h1 : 0 < ys.length) (h : ∀ x, x ∈ xs ↔ x ∈ ys) : leastOf xs = leastOf ys := by
  have a := least_le ((h _).mpr (least_mem h1))
  have b := least_le ((h _).mp (least_mem h0))
  have e : (leastOf xs).cps.toList = (leastOf ys).cps.toList := List.le_antisymm a b
  rw [← S_of (leastOf xs), e, S_of]
/-! ### turnings -/
theorem rot_get {l : List Nat} {i j : Nat} (hi : i ≤ l.length) (hj : j < l.length) : (rot l i)[j]? = l[(i + j) % l.length]? := by
  unfold rot
  by_cases h : j < l.length - i
  · rw [List.getElem?_append_left (by rw [List.length_drop]; exact h), List.getElem?_drop, Nat.mod_eq_of_lt (by omega)]
  · have e : (i + j) % l.length = i + j - l.length := by
      rw [Nat.mod_eq_sub_mod (by omega), Nat.mod_eq_of_lt (by omega)]
    rw [List.getElem?_append_right (by rw [List.length_drop]; omega), List.length_drop, e, List.getElem?_take, if_pos (by omega)]
    congr 1
    omega
theorem rot_rot {l : List Nat} {i j : Nat} (hi : i ≤ l.length) (hj : j ≤ l.length) (h0 : 0 < l.length) : rot (rot l i) j = rot l ((i + j) % l.length) := by
  refine List.ext_getElem? fun k => ?_
  by_cases hk : k < l.length
  · rw [rot_get (by rw [rot_len]; exact hj) (by rw [rot_len]; exact hk), rot_len, rot_get hi (Nat.mod_lt _ h0), rot_get (Nat.le_of_lt (Nat.mod_lt _ h0)) hk]
    congr 1
    rw [Nat.add_mod_mod, Nat.mod_add_mod, Nat.add_assoc]
  · rw [List.getElem?_eq_none (by rw [rot_len, rot_len]; omega), List.getElem?_eq_none (by rw [rot_len]; omega)]
theorem rot_zero (l : List Nat) : rot l 0 = l := by simp [rot]
theorem rot_full (l : List Nat) : rot l l.length = l := by simp [rot]
theorem turns_mem {l : List Nat} {z : Str} : z ∈ turnsS l ↔ ∃ i, i < l.length ∧ z = S (rot l i) := by
  unfold turnsS
  rw [List.mem_map]
  constructor
  · rintro ⟨i, h, e⟩
    exact ⟨i, List.mem_range.mp h, e.symm⟩
  · rintro ⟨i, h, e⟩
    exact ⟨i, List.mem_range.mpr h, e.symm⟩
theorem S_inj {l m : List Nat} (h : S l = S m) : l = m := by rw [← S_cps l, h, S_cps]
theorem turns_rot {l : List Nat} {i : Nat} (h0 : 0 < l.length) (hi : i ≤ l.length) (z : Str) : z ∈ turnsS (rot l i) ↔ z ∈ turnsS l := by
  rw [turns_mem, turns_mem, rot_len]
  constructor
  · rintro ⟨j, hj, e⟩
    exact ⟨(i + j) % l.length, Nat.mod_lt _ h0, by rw [e, rot_rot hi (Nat.le_of_lt hj) h0]⟩
  · rintro ⟨j, hj, e⟩
    refine ⟨(l.length - i + j) % l.length, Nat.mod_lt _ h0, ?_⟩
    rw [e, rot_rot hi (Nat.le_of_lt (Nat.mod_lt _ h0)) h0, Nat.add_mod_mod, show i + (l.length - i + j) = l.length + j by omega, Nat.add_mod_left, Nat.mod_eq_of_lt hj]
theorem text_rot {l : List Nat} {i : Nat} (h0 : 0 < l.length) (hi : i ≤ l.length) : textS (rot l i) = textS l :=
  least_same (by rw [turns_len, rot_len]; exact h0) (by rw [turns_len]; exact h0) (turns_rot h0 hi)
theorem per_rot {l : List Nat} {i : Nat} (h0 : 0 < l.length) (hi : i ≤ l.length) : perN (rot l i) = perN l := differ_same (turns_rot h0 hi)
/-- the text of a ring is one of its turnings -/
theorem text_is {l : List Nat} (h0 : 0 < l.length) : ∃ i, i < l.length ∧ textS l = S (rot l i) := turns_mem.mp (least_mem (by rw [turns_len]; exact h0))
theorem text_len {l : List Nat} (h0 : 0 < l.length) : (textS l).length = l.length := by
  obtain ⟨i, _, e⟩ := text_is h0
  rw [e, S_len, rot_len]
theorem IsW.rot {l : List Nat} (W : IsW l) (i : Nat) : IsW (Wb.rot l i) := by
  refine ⟨fun c hc => W.low c ?_, by rw [rot_len]; exact W.pos, by rw [rot_len]; exact W.few⟩
  unfold Wb.rot at hc
  rcases List.mem_append.mp hc with q | q
  · exact List.mem_of_mem_drop q
  · exact List.mem_of_mem_take q
/-! ### the number of different turnings -/
theorem least_nat {Q : Nat → Prop} : ∀ n, Q n → ∃ p, p ≤ n ∧ Q p ∧ ∀ k, k < p → ¬ Q k := fun n => by
  induction n using Nat.strongRecOn with
  | ind n ih =>
    intro h
    by_cases e : ∃ k, k < n ∧ Q k
    · obtain ⟨k, h1, h2⟩ := e
      obtain ⟨p, p1, p2, p3⟩ := ih k h1 h2
      exact ⟨p, by omega, p2, p3⟩
    · exact ⟨n, Nat.le_refl _, h, fun k hk q => e ⟨k, hk, q⟩⟩
theorem shift {l : List Nat} {i j : Nat} (h0 : 0 < l.length) (hij : i < j) (hj : j < l.length) (e : rot l i = rot l j) : rot l (j - i) = l := by
  have h1 := rot_rot (l := l) (i := i) (j := l.length - i) (by omega) (by omega) h0
  have h2 := rot_rot (l := l) (i := j) (j := l.length - i) (by omega) (by omega) h0
  rw [show i + (l.length - i) = l.length by omega, Nat.mod_self, rot_zero] at h1
  rw [show j + (l.length - i) = (j - i) + l.length by omega, Nat.add_mod_right, Nat.mod_eq_of_lt (by omega)] at h2
  rw [← h2, ← e, h1]
theorem back {l : List Nat} {p : Nat} (h0 : 0 < l.length) (hp : 0 < p) (hpn : p ≤ l.length) (e : rot l p = l) : ∀ i, i < l.length → rot l i = rot l (i % p) := fun i => by
  induction i using Nat.strongRecOn with
  | ind i ih =>
    intro hi
    by_cases q : i < p
    · rw [Nat.mod_eq_of_lt q]
    · have h1 := rot_rot (l := l) (i := p) (j := i - p) hpn (by omega) h0
      rw [e, show p + (i - p) = i by omega, Nat.mod_eq_of_lt hi] at h1
      rw [← h1, ih (i - p) (by omega) (by omega), ← Nat.mod_eq_sub_mod (by omega)]
theorem per_is {l : List Nat} (h0 : 0 < l.length) : 0 < perN l ∧ perN l ≤ l.length ∧ rot l (perN l) = l ∧ ∀ k, 0 < k → k < perN l → rot l k ≠ l := by
  obtain ⟨p, p1, ⟨p2, p3⟩, p4⟩ := least_nat (Q := fun k => 0 < k ∧ rot l k = l) l.length ⟨h0, rot_full l⟩
  have nd : ((List.range p).map fun i => S (rot l i)).Nodup := by
    unfold List.Nodup
    rw [List.pairwise_map]
    refine List.Pairwise.imp_of_mem (fun {a b} ha hb lt q => ?_) List.pairwise_lt_range
    have hb' := List.mem_range.mp hb
    exact p4 (b - a) (by omega) ⟨by omega, shift h0 lt (by omega) (S_inj q)⟩
  have sm : ∀ z, z ∈ WbSet.differ (turnsS l) ↔ z ∈ (List.range p).map fun i => S (rot l i) := fun z => by
    rw [differ_mem, turns_mem, List.mem_map]
    constructor
    · rintro ⟨i, hi, e⟩
      exact ⟨i % p, List.mem_range.mpr (Nat.mod_lt _ p2), by rw [e, ← back h0 p2 p1 p3 i hi]⟩
    · rintro ⟨i, hi, e⟩
      exact ⟨i, by have := List.mem_range.mp hi; omega, e.symm⟩
  have e : perN l = p := by
    have q := same_count (differ_nodup (turnsS l)) nd sm
    rw [List.length_map, List.length_range] at q
    exact q
  rw [e]
  exact ⟨p2, p1, p3, fun k h1 h2 q => p4 k h2 ⟨h1, q⟩⟩
/-- going on from the place that the period leads to -/
theorem per_home {l : List Nat} (h0 : 0 < l.length) : rot l (perN l % l.length) = l := by
  obtain ⟨_, h2, h3, _⟩ := per_is h0
  by_cases q : perN l = l.length
  · rw [q, Nat.mod_self, rot_zero]
  · rw [Nat.mod_eq_of_lt (by omega), h3]
end Wb
/-! what an own class's special methods are worth: len(o), bool(o), str(o), o == p, o != p, o an instance of a class of the program's own -/
namespace WbO
open PySem PySem.W PySem.Spec PyProof.Rows
section
variable {prog : Program} {w : World} {A : Around} {E : Value → Shared → Prop} {s : Shared} {K : Frag} {x C f : Addr} {ox : Obj} {od : Option Obj}
/-- the truth of an object that has a __len__ and no __bool__ -/
theorem truthy_len {Q : Bool → Shared → Prop} (X : K.In s.heap) (I : InstAt s.heap x ox C od) (nb : findIn K (.ref C) "__bool__" = some none) (hs : findIn K (.ref C) "__len__" = some (some (.ref f))) (hf : isFn K (.ref f) = true)
    (h : wpAny (model prog w) A.in1 (call (.ref f) [.ref x]) (W.LenBack fun v s' => ∃ n t, v = .int n t ∧ Q (n != 0) s') E s) : wpAny (model prog w) A (truthy (.ref x)) Q E s := by
  unfold truthy
  refine wpAny_bind (m := callSpecial? (.ref x) (Str.ofString "__bool__")) (wpAny_bind (wpAny_bind (I.type.here ((looks_findIn X nb).here (wpAny_pure ?_)))))
  refine wpAny_bind (wpAny_bind (I.type.here ((looks_findIn X hs).here ?_)))
  show wpAny _ _ (if (some (Value.ref f)).isNone = true then _ else _) _ _ _ ; rw [if_neg (by simp)]
  refine wpAny_bind (wpAny_mono (Q := fun v s' => ∃ n t, v = .int n t ∧ Q (n != 0) s') (wpAny_runValue (codeAny_builtin entry_len ?_)) (fun v s' q => ?_) fun _ _ e => e)
  · rw [Around.under_plainId plain_len _]
    unfold Builtin.«len»
    refine wpAny_bind (m := oneArg "len" _) (wpAny_pure (wpAny_bind (m := callSpecial? (.ref x) (Str.ofString "__len__")) (special_fn X I hs (beq_iff_eq.mp hf) (wpAny_mono h (fun r s' hr => ?_) fun _ _ y => y))))
    cases r <;> first | exact hr.elim | skip
    rename_i n u
    obtain ⟨⟨h0, h1⟩, hq⟩ := hr
    refine wpAny_bind (wpAny_holding (wpAny_pure (wpAny_bind (wpAny_letGo ?_))))
    show wpAny _ _ (if n < 0 then _ else _) _ _ _ ; rw [if_neg (by omega)] ; show wpAny _ _ (if n ≥ 2 ^ 63 then _ else _) _ _ _ ; rw [if_neg (by omega)]
    exact wpAny_bind (wpAny_mkInt (wpAny_pure hq))
  · obtain ⟨n, t, rfl, q⟩ := q
    exact wpAny_pure q
/-- bool(o) by its truth -/
theorem call_bool {Q : Value → Shared → Prop} (h : wpAny (model prog w) A.in1.in1 (truthy (.ref x)) (fun b s' => Q (.bool b) s') E s) : wpAny (model prog w) A (call (.type "bool") [.ref x]) Q E s := by
  refine callType_codes (T := "bool") (Bi := Builtin.«object.__init__») (Q₁ := fun r s1 => ∃ b, r = .bool b ∧ Q r s1) F.called_bool (F.typeCall_bool_1 _) PySem.F.entry_object_init ?_ ?_
  · refine codeAny_of_tree ?_
    show wpAny _ A.in1.in1 (do checkBuiltinCall "bool.__new__" ⟨[.type "bool", .ref x], []⟩; again (.builtin "bool.__new__" ⟨[.type "bool", .ref x], []⟩)) _ _ s
    refine wpAny_bind (wpAny_of_eq (F.newCall_bool_1 _) (wpAny_pure ⟨plainId_quiet (by decide +kernel) _, codeAny_builtin F.entry_bool_new ?_⟩))
    rw [Around.under_plainId (by decide +kernel) _]
    unfold Builtin.«bool.__new__»
    obtain ⟨hp, g, d, tk, os⟩ := s
    have f1 := F.conv_sub_bool
    repeat (any_goals (first | assumption | (with_reducible refine wpAny_bind (m := truthy (.ref x)) (wpAny_mono h (fun b s1 q => ?_) fun _ _ e => e)) | wp_step))
    exact ⟨b, rfl, q⟩
  · rintro obj s1 ⟨b, rfl, q⟩
    exact ⟨PySem.typeIs_bool _ _, PySem.F.args_object_init_2 _ _, object_init_meets F.called_bool.init.lookup F.called_bool.made (by decide) prog w A.in1 _ s1 ⟨PySem.typeIs_bool _ _, rfl, q⟩⟩
/-- the body of object.__ne__ at an object with an own __eq__ -/
theorem body_ne {b : Value} {Q : PySem.Fin → Shared → Prop} (hu : A.units < cLine) (X : K.In s.heap) (I : InstAt s.heap x ox C od) (hs : findIn K (.ref C) "__eq__" = some (some (.ref f))) (hf : isFn K (.ref f) = true)
    (h : wpAny (model prog w) A (call (.ref f) [.ref x, b]) (fun v s' => ∃ c, v = .bool c ∧ Q (.done (.ret (.bool (!c)))) s') E s) : wpAny (model prog w) A (Builtin.«object.__ne__» ⟨[.ref x, b], []⟩) Q E s := by
  have go : wpAny (model prog w) A (callSpecialIfBound? (.ref x) (Str.ofString "__eq__") [b]) (fun r s' => ∃ c, r = some (.bool c) ∧ Q (.done (.ret (.bool (!c)))) s') E s :=
    ifBound_K X I hs hf (wpAny_mono h (fun v s' q => by obtain ⟨c, rfl, q⟩ := q; exact ⟨c, rfl, q⟩) fun _ _ e => e)
  unfold Builtin.«object.__ne__»
  obtain ⟨hp, g, d, tk, os⟩ := s
  repeat (first | with_reducible refine wpAny_cRoomFor hu ?_ | (with_reducible refine wpAny_bind (m := callSpecialIfBound? (.ref x) (Str.ofString "__eq__") [b]) (wpAny_mono go (fun r s' q => ?_) fun _ _ e => e)) | wp_step)
  obtain ⟨c, rfl, q⟩ := q
  show wpAny _ _ (truthy (.bool c) >>= fun z => ret (.bool !z)) _ _ _
  exact wpAny_bind (wpAny_truthy_bool (wpAny_pure q))
/-- a special method that is a built-in -/
theorem bound_builtin {M : Model} {id : String} {name : Str} {args : List Value} {Q : Option Value → Shared → Prop} (X : K.In s.heap) (I : InstAt s.heap x ox C od) (hs : findIn K (.ref C) name = some (some (.builtin id))) (hb : ∀ self, bindSpecial (.builtin id) self = pure (.builtin id, [self]))
    (h : wpAny M A (call (.builtin id) (.ref x :: args)) (fun v => Q (some v)) E s) : wpAny M A (callSpecialIfBound? (.ref x) name args) Q E s := by
  have last : wpAny M A (call (.builtin id) ([.ref x] ++ args) >>= fun v => pure (some v)) Q E s := wpAny_bind (wpAny_mono h (fun v s1 q => wpAny_pure q) fun _ _ q => q)
  simp only [callSpecialIfBound?, bindSpecialIfBound?]
  refine wpAny_holding (wpAny_bind (wpAny_bind (wpAny_bind (I.type.here ((looks_findIn X hs).here (wpAny_bind (wpAny_askSetting (wpAny_ite ?_))))))))
  split
  · exact wpAny_bind ((Looks.of_pure (hb _)).here (wpAny_pure (by exact last)))
  · exact wpAny_tryCatch (wpAny_bind ((Looks.of_pure (hb _)).here (wpAny_pure (by exact last))))
/-- o != p by o's own __eq__ -/
theorem ne_own {b tb : Value} {Q : Value → Shared → Prop} (hu : A.units + 1 < cLine) (X : K.In s.heap) (I : InstAt s.heap x ox C od) (hb : Looks (model prog w) s.heap (typeOf b) tb) (nf : notFirst K C tb = true)
    (hn : findIn K (.ref C) "__ne__" = some (some (.builtin "object.__ne__"))) (hm : mroIn K C (.type "object") = some true) (hs : findIn K (.ref C) "__eq__" = some (some (.ref f))) (hf : isFn K (.ref f) = true)
    (h : wpAny (model prog w) A.in1 (call (.ref f) [.ref x, b]) (fun v s' => ∃ c, v = .bool c ∧ Q (.bool (!c)) s') E s) : wpAny (model prog w) A (richCompare .NotEq (.ref x) b) Q E s := by
  have one : wpAny (model prog w) A (tryCompare (.ref x) (cmpInfo .NotEq).2.1 b) (fun r s1 => ∃ v, r = some v ∧ Q v s1) E s := by
    unfold tryCompare
    refine wpAny_bind (bound_builtin X I hn PySem.F.cmp_object.ne.bind ?_)
    refine wpAny_call (codeAny_call_builtin PySem.F.cmp_object.ne.plain PySem.F.cmpEntry_ne (check_slot (i := "object.__ne__") (owner := "object") (n := "__ne__") (by decide +kernel) (by decide +kernel) (I.type.andThen (looks_mroIn X hm)) (PySem.F.cmpArgs_ne _ _) ?_))
    refine body_ne (by show A.units + 1 < cLine; exact hu) X I hs hf (wpAny_mono h (fun v s1 q => ?_) fun _ _ e => e)
    obtain ⟨c, rfl, q⟩ := q
    exact ⟨c, rfl, wpAny_pure ⟨_, rfl, q⟩⟩
  unfold richCompare ; simp only [oneThing_ref]
  refine wpAny_holding (wpAny_bind (wpAny_cRoomFor (Nat.lt_of_succ_lt hu) (wpAny_bind (I.type.here (wpAny_bind (hb.here ?_))))))
  split
  · rename_i q
    have e : subIn K tb (.ref C) = some false := by
      rcases Bool.or_eq_true_iff.mp nf with e | e
      · rw [beq_iff_eq.mp e] at q ; simp at q
      · exact beq_iff_eq.mp e
    refine wpAny_bind ((looks_subIn X e).here ?_) ; simp only [Bool.false_eq_true, if_false]
    exact wpAny_bind (wpAny_mono one (fun r s1 z => by obtain ⟨v, rfl, hq⟩ := z; exact wpAny_pure hq) fun _ _ e => e)
  · refine wpAny_bind (wpAny_pure ?_) ; simp only [Bool.false_eq_true, if_false]
    exact wpAny_bind (wpAny_mono one (fun r s1 z => by obtain ⟨v, rfl, hq⟩ := z; exact wpAny_pure hq) fun _ _ e => e)
end
end WbO
namespace WbO
open PySem PySem.Spec PyProof.Rows L2
section
variable {X : Cx} {CX : CXT} {k : Nat} {C g : Addr} {fd : FuncData} {ps : List Str} {sp : Sp} {E : XK}
/-- a def called at values, anywhere deeper -/
theorem run_at {pins : List (Addr × Obj)} {σ : L2.St} {H : Hp} {s : Shared} {Q : VK} {vs : List V} {us : List Value} {A' : Around} {E' : Value → Shared → Prop} (F : FnOk X.prog X.w X.K X.mg X.base CX k g fd ps sp) (hr : Room k A') (e0 : Env0 X.prog X.w X.K X.mg X.base A' X.stack s H)
    (hb : Binds X.K fd ps []) (hx : Passes CX X.nox E) (I : Inv X pins σ H s) (r : Vals vs us) (h : sp vs H Q E) : wpAny (model X.prog X.w) A' (call (.ref g) us) (EP X pins σ Q) E' s := by
  have hl : (us ++ ([] : List Value)).length = ps.length := by rw [List.append_nil, ← r.length]; exact F.len _ _ _ _ h
  have hB := hb s us I.kIn hl
  rw [List.append_nil] at hB
  refine wpAny_call (codeAny_mono (F.run A' X.stack s H ⟨us, []⟩ us vs Q E hr e0 hB r h) fun r s' hq => ?_)
  cases r with
  | error er => exact (hx pins σ H s er s' (I.wish _) hq).elim
  | ok fl =>
    cases fl with
    | ret u => exact I.after hq
    | next => exact hq.elim
    | brk => exact hq.elim
    | cont => exact hq.elim
/-- len(o) -/
def rLenO (C : Addr) (sp : Sp) (E : XK) : List V → Hp → VK → Prop := fun xs H Q => ∃ (a dx : Addr) (fs : List (Str × V)), xs = [.ref a] ∧ H a = some (.ins C dx fs) ∧ sp [.ref a] H (fun v H' => ∃ n : Int, v = .int n ∧ 0 ≤ n ∧ n < 2 ^ 63 ∧ Q v H') E
theorem call_lenO (M : Meth X.K C "__len__" g) (F : FnOk X.prog X.w X.K X.mg X.base CX k g fd ps sp) (hr : Room (k + 1) X.A) (hb : Binds X.K fd ps []) (hx : Passes CX X.nox E) : CallR X (.builtin "len") (rLenO C sp E) := by
  intro pins s σ H xs us Q I r h
  obtain ⟨a, dx, fs, rfl, ha, q⟩ := h
  rw [Vals.ref1 r]
  obtain ⟨mA, O, _⟩ := ins_get I.hok ha
  obtain ⟨od, J, _⟩ := O.look
  obtain ⟨m, hF⟩ := I.fr
  refine PySem.W.len_K hF I.ok.mod.kin J M.at_ M.fn (wpAny_mono (run_at (vs := [.ref a]) (us := [.ref a]) F hr.in1 I.env0.in1 hb hx I (.cons rfl .nil) q) (fun v s' z => ?_) fun _ _ e => e)
  obtain ⟨y, H', I', ry, n, rfl, n0, n1, qq⟩ := z
  obtain ⟨t, rfl⟩ := ry
  exact ⟨⟨n0, n1⟩, .int n, H', I'.tok _, ⟨_, rfl⟩, qq⟩
/-- bool(o), by its __len__ -/
def rBoolO (C : Addr) (sp : Sp) (E : XK) : List V → Hp → VK → Prop := fun xs H Q => ∃ (a dx : Addr) (fs : List (Str × V)), xs = [.ref a] ∧ H a = some (.ins C dx fs) ∧ sp [.ref a] H (fun v H' => ∃ n : Int, v = .int n ∧ 0 ≤ n ∧ n < 2 ^ 63 ∧ Q (.bl (n != 0)) H') E
theorem call_boolO (nb : PySem.W.findIn X.K (.ref C) "__bool__" = some none) (M : Meth X.K C "__len__" g) (F : FnOk X.prog X.w X.K X.mg X.base CX k g fd ps sp) (hr : Room (k + 3) X.A) (hb : Binds X.K fd ps []) (hx : Passes CX X.nox E) : CallR X (.type "bool") (rBoolO C sp E) := by
  intro pins s σ H xs us Q I r h
  obtain ⟨a, dx, fs, rfl, ha, q⟩ := h
  rw [Vals.ref1 r]
  obtain ⟨mA, O, _⟩ := ins_get I.hok ha
  obtain ⟨od, J, _⟩ := O.look
  refine call_bool (truthy_len I.kIn J nb M.at_ M.fn (wpAny_mono (run_at (vs := [.ref a]) (us := [.ref a]) F hr.in1.in1.in1 I.env0.in1.in1.in1 hb hx I (.cons rfl .nil) q) (fun v s' z => ?_) fun _ _ e => e))
  obtain ⟨y, H', I', ry, n, rfl, n0, n1, qq⟩ := z
  obtain ⟨t, rfl⟩ := ry
  exact ⟨⟨n0, n1⟩, n, _, rfl, .bl (n != 0), H', I'.tok _, rfl, qq⟩
/-- str(o) -/
def rStrO (C : Addr) (sp : Sp) (E : XK) : List V → Hp → VK → Prop := fun xs H Q => ∃ (a dx : Addr) (fs : List (Str × V)), xs = [.ref a] ∧ H a = some (.ins C dx fs) ∧ sp [.ref a] H (fun v H' => ∃ z : Str, v = .str z ∧ Q v H') E
theorem call_strO (M : Meth X.K C "__str__" g) (F : FnOk X.prog X.w X.K X.mg X.base CX k g fd ps sp) (hr : Room (k + 2) X.A) (hb : Binds X.K fd ps []) (hx : Passes CX X.nox E) : CallR X (.type "str") (rStrO C sp E) := by
  intro pins s σ H xs us Q I r h
  obtain ⟨a, dx, fs, rfl, ha, q⟩ := h
  rw [Vals.ref1 r]
  obtain ⟨mA, O, _⟩ := ins_get I.hok ha
  obtain ⟨od, J, _⟩ := O.look
  refine PySem.W.kso_call hr.in1.in1.units0 I.kIn J M.at_ M.fn (wpAny_mono (run_at (vs := [.ref a]) (us := [.ref a]) F hr.in1.in1 I.env0.in1.in1 hb hx I (.cons rfl .nil) q) (fun v s' z => ?_) fun _ _ e => e)
  obtain ⟨y, H', I', ry, zz, rfl, qq⟩ := z
  obtain ⟨t, rfl⟩ := ry
  exact ⟨.str zz, H', I', ⟨_, rfl⟩, qq⟩
/-- o == p, o an instance of the class at C, p anything that has a type -/
def rEqO (K : PySem.W.Frag) (C : Addr) (sp : Sp) (E : XK) : R2 := fun x y H Q => ∃ (a dx b dy : Addr) (fs gs : List (Str × V)), x = .ref a ∧ y = .ref b ∧ H a = some (.ins C dx fs) ∧ H b = some (.ins C dy gs) ∧ sp [.ref a, .ref b] H Q E
theorem op_eqO (hs : PySem.W.findIn X.K (.ref C) "__eq__" = some (some (.ref g))) (hf : PySem.W.isFn X.K (.ref g) = true) (nf : PySem.W.notFirst X.K C (.ref C) = true) (F : FnOk X.prog X.w X.K X.mg X.base CX k g fd ps sp) (hr : Room k X.A) (hb : Binds X.K fd ps []) (hx : Passes CX X.nox E) : OpR X (compareOp .Eq) (rEqO X.K C sp E) := by
  intro pins s σ H x y v u Q I rx ry h
  obtain ⟨a, dx, b, dy, fs, gs, rfl, rfl, ha, hb', q⟩ := h
  cases (show v = Value.ref a from rx)
  cases (show u = Value.ref b from ry)
  obtain ⟨mA, O, _⟩ := ins_get I.hok ha
  obtain ⟨od, J, _⟩ := O.look
  obtain ⟨mB, O', _⟩ := ins_get I.hok hb'
  obtain ⟨od', J', _⟩ := O'.look
  obtain ⟨m, hF⟩ := I.fr
  show wpAny (model X.prog X.w) X.A (richCompare .Eq (.ref a) (.ref b)) _ _ s
  refine PySem.W.cmp_K (op := .Eq) (tb := .ref C) hr.units0 hF I.ok.mod.kin J J'.type nf hs hf (wpAny_mono (run_at (vs := [.ref a, .ref b]) (us := [.ref a, .ref b]) F hr I.env0 hb hx I (.cons rfl (.cons rfl .nil)) q) (fun w s' z => ?_) fun _ _ x => x)
  obtain ⟨z', H', I', rz, qz⟩ := z
  exact SlX.cmpback rz ⟨z', H', I', rz, qz⟩
/-- o != p, the same -/
def rNeO (C : Addr) (sp : Sp) (E : XK) : R2 := fun x y H Q => ∃ (a dx b dy : Addr) (fs gs : List (Str × V)), x = .ref a ∧ y = .ref b ∧ H a = some (.ins C dx fs) ∧ H b = some (.ins C dy gs) ∧ sp [.ref a, .ref b] H (fun v H' => ∃ c : Bool, v = .bl c ∧ Q (.bl (!c)) H') E
theorem op_neO (hn : PySem.W.findIn X.K (.ref C) "__ne__" = some (some (.builtin "object.__ne__"))) (hm : PySem.W.mroIn X.K C (.type "object") = some true) (hs : PySem.W.findIn X.K (.ref C) "__eq__" = some (some (.ref g))) (hf : PySem.W.isFn X.K (.ref g) = true) (nf : PySem.W.notFirst X.K C (.ref C) = true)
    (F : FnOk X.prog X.w X.K X.mg X.base CX k g fd ps sp) (hr : Room (k + 1) X.A) (hb : Binds X.K fd ps []) (hx : Passes CX X.nox E) : OpR X (compareOp .NotEq) (rNeO C sp E) := by
  intro pins s σ H x y v u Q I rx ry h
  obtain ⟨a, dx, b, dy, fs, gs, rfl, rfl, ha, hb', q⟩ := h
  cases (show v = Value.ref a from rx)
  cases (show u = Value.ref b from ry)
  obtain ⟨mA, O, _⟩ := ins_get I.hok ha
  obtain ⟨od, J, _⟩ := O.look
  obtain ⟨mB, O', _⟩ := ins_get I.hok hb'
  obtain ⟨od', J', _⟩ := O'.look
  have un := hr.units
  show wpAny (model X.prog X.w) X.A (richCompare .NotEq (.ref a) (.ref b)) _ _ s
  refine ne_own (by omega) I.kIn J J'.type nf hn hm hs hf (wpAny_mono (run_at (vs := [.ref a, .ref b]) (us := [.ref a, .ref b]) F hr.in1 I.env0.in1 hb hx I (.cons rfl (.cons rfl .nil)) q) (fun w s' z => ?_) fun _ _ x => x)
  obtain ⟨z', H', I', rz, c, rfl, qz⟩ := z
  cases (show w = Value.bool c from rz)
  exact ⟨c, rfl, .bl (!c), H', I', rfl, qz⟩
end
end WbO
/-! reading round a ring: turned, [i], [i, n] -/
namespace WbT
open PySem PySem.Spec PyProof.Rows L2
section
variable {X : Cx} {CX : CXT} {k : Nat} {C g : Addr} {fd : FuncData} {ps ks : List Str} {sp : Sp} {E : XK} {o : Expr} {m : Str} {apos pos : Pos} {kws : List Keyword} {ta : TE} {tk : TA} {kg : List Value → List Value → List Value} {gV : List V → List V → List V}
/-- o.m(k = v, ..) -/
def tMethK (C : Addr) (m : Str) (sp : Sp) (gV : List V → List V → List V) (E : XK) (ta : TE) (tk : TA) : TE := fun σ H Q => ta σ H fun x H1 => ∃ (a dx : Addr) (fs : List (Str × V)), x = .ref a ∧ H1 a = some (.ins C dx fs) ∧ fs.lookup m = none ∧ tk σ H1 fun zs H2 => sp (gV [x] zs) H2 Q E
theorem pe_methK0 {pl : Sem Bool} (he : PE X o ta) (c : Cls X.K C) (hm : Meth X.K C m g) (F : FnOk X.prog X.w X.K X.mg X.base CX k g fd ps sp) (hr : Room k X.A) (hb : KBinds X.K fd ps ks kg gV) (hx : Passes CX X E) (hkw : PK X kws tk)
    (hall : (backToKw pos (keywordEach kws X.env)).all (·.1.isSome) = true := by rfl) (hks : (backToKw pos (keywordEach kws X.env)).filterMap (·.1) = ks := by rfl)
    (hpl : ((backTo pos (starEach [] X.env)).any (·.1) || (backToKw pos (keywordEach kws X.env)).any (·.1.isNone)) = false := by rfl)
    (ht : eval (.Call (.Attribute o m apos) [] kws pos) X.env = (do
      let ov ← eval o X.env
      standAt apos.atName
      let (f, first) ← holding [ov] (getMethod ov m pl)
      callWith pos f first (backTo pos (starEach [] X.env)) (backToKw pos (keywordEach kws X.env))) := by rfl) :
    PE X (.Call (.Attribute o m apos) [] kws pos) (tMethK C m sp gV E ta tk) := by
  refine ⟨fun pins s σ H Q I h => PySem.W.methodCall_KW (pl := pl) (thn (he.run pins s σ H _ I h) fun u s1 ⟨x, H1, I1, rx, a, dx, fs, ex, ea, l, q⟩ => ?_) ht⟩
  subst ex
  obtain rfl : u = Value.ref a := rx
  refine getmeth_ok I1 ea c hm l (PySem.W.callWith_KW0 (first := [.ref a]) (h₀ := X.base) I1.ok.mod.kin hm.kp hall (thn (hkw.run pos pins s1 σ H1 _ I1 q) fun ws s2 ⟨zs, H2, I2, rz, q2⟩ => ⟨I2.kIn, ?_⟩) hpl)
  rw [hks]
  exact run_fnk F hr hb hx I2 (us := [.ref a]) (vs := [.ref a]) (.cons rfl .nil) rz q2
/-- o[e] by an own __getitem__ -/
def rIxO (C : Addr) (sp : Sp) (E : XK) : R2 := fun x y H Q => ∃ (a dx : Addr) (fs : List (Str × V)), x = .ref a ∧ H a = some (.ins C dx fs) ∧ sp [.ref a, y] H Q E
theorem pe_ixO {e i : Expr} {te ti : TE} (he : PE X e te) (hi : PE X i ti) (hm : Meth X.K C "__getitem__" g) (hf : PySem.W.fnIn X.K g = true) (F : FnOk X.prog X.w X.K X.mg X.base CX k g fd ps sp) (hr : Room (k + 1) X.A) (hb : Binds X.K fd ps []) (hx : Passes CX X.nox E)
    (hsl : ∀ v u, subscripted i true v u = runValue (.builtin "lifetime.subscript" ⟨[v, u], []⟩) := by intro _ _; with_unfolding_all rfl) : PE X (.Subscript e i pos) (tOp (rIxO C sp E) te ti) := by
  refine ⟨fun pins s σ H Q I h => Subscript_ (binT he hi I h fun v u s2 x y H2 I2 rx ry q => ?_)⟩
  obtain ⟨a, dx, fs, rfl, ha, q⟩ := q
  cases (show v = Value.ref a from rx)
  obtain ⟨mA, O, _⟩ := ins_get I2.hok ha
  obtain ⟨od, J, _⟩ := O.look
  obtain ⟨n, hF⟩ := I2.fr
  exact PySem.W.sub_K hF I2.ok.mod.kin J hm.at_ hf hm.fn (WbO.run_at (vs := [.ref a, y]) (us := [.ref a, u]) F hr.in1 I2.env0.in1 hb hx I2 (.cons rfl (.cons ry .nil)) q) (hsl _ _)
theorem vals_signs : ∀ (l : List Nat) (us : List Value), us.length = l.length → (∀ (j : Nat) (v : Value), us[j]? = some v → ∃ c t, l[j]? = some c ∧ v = Value.str ⟨#[c]⟩ t) → Vals (l.map fun c => V.str ⟨#[c]⟩) us
  | [], [], _, _ => .nil
  | [], _ :: _, h, _ => by cases h
  | _ :: _, [], h, _ => by cases h
  | c :: l, u :: us, h, k => by
    obtain ⟨c', t, e1, e2⟩ := k 0 u rfl
    cases e1
    exact .cons ⟨t, e2⟩ (vals_signs l us (Nat.succ.inj h) fun j v q => k (j + 1) v q)
/-- list(z) of a text -/
theorem call_listS (hc : X.calm = true) : CallR X (.type "list") (fun xs H Q => ∃ z : Str, xs = [.str z] ∧ z.length ≤ sizeLine ∧ ∀ p, H p = none → Q (.ref p) (upd H p (.lst (z.cps.toList.map fun c => V.str ⟨#[c]⟩)))) := by
  intro pins s σ H xs us Q I r h
  obtain ⟨z, rfl, fits, q⟩ := h
  obtain ⟨u, rfl, t, rfl⟩ := vals1 r
  refine call_list_str (hn := fits) (I.ok.hd hc) z t fun h' tk acc c kept new items => ?_
  have rel : Vals (z.cps.toList.map fun c => V.str ⟨#[c]⟩) acc.toList := vals_signs _ _ (by rw [Array.length_toList, Array.length_toList]; exact items.1) fun j v e => by
    obtain ⟨c, u, e1, e2⟩ := items.2 j v (by rw [← Array.getElem?_toList]; exact e)
    exact ⟨c, u, by rw [Array.getElem?_toList]; exact e1, e2⟩
  have fits' : (z.cps.toList.map fun c => V.str ⟨#[c]⟩).length ≤ sizeLine := by rw [List.length_map, Array.length_toList]; exact fits
  exact ⟨.ref s.heap.objs.size, _, I.laid (t' := tk) kept (Nat.le_refl _) (show ObjOk X.prog X.w _ h' _ (.lst _) from ⟨fits', acc.toList, c, rel, new⟩), rfl, q _ (I.hok.fresh (Nat.le_refl _))⟩
end
end WbT
namespace Wb
open PySem L2 WbMin WbO WbT
/-! ### reading so many signs round a word -/
def readN (l : List Nat) (st n : Nat) : List Nat := (List.range n).map fun k => l.getD ((st + k) % l.length) 0
/-- from any place -/
def readW (l : List Nat) (i : Int) (n : Nat) : List Nat := readN l (i % (l.length : Int)).toNat n
theorem readN_len (l : List Nat) (st n : Nat) : (readN l st n).length = n := by
  unfold readN
  rw [List.length_map, List.length_range]
theorem readW_len (l : List Nat) (i : Int) (n : Nat) : (readW l i n).length = n := readN_len l _ n
theorem getD_at {l : List Nat} {i : Nat} (h : i < l.length) : l[i]? = some (l.getD i 0) := by
  rw [List.getD_eq_getElem?_getD, List.getElem?_eq_getElem h] <;> rfl
theorem readN_get {l : List Nat} {st n k : Nat} (h0 : 0 < l.length) (hk : k < n) : (readN l st n)[k]? = l[(st + k) % l.length]? := by
  unfold readN
  rw [List.getElem?_map, List.getElem?_range hk, getD_at (Nat.mod_lt _ h0)] <;> rfl
theorem rep_get {l : List Nat} (h0 : 0 < l.length) : ∀ (t i : Nat), i < t * l.length → (List.replicate t l).flatten[i]? = l[i % l.length]?
  | 0, i, h => by omega
  | t + 1, i, h => by
    rw [List.replicate_succ, List.flatten_cons]
    by_cases q : i < l.length
    · rw [List.getElem?_append_left q, Nat.mod_eq_of_lt q]
    · rw [Nat.succ_mul] at h
      rw [List.getElem?_append_right (by omega), rep_get h0 t (i - l.length) (by omega), ← Nat.mod_eq_sub_mod (by omega)]
theorem rep_len (l : List Nat) (t : Nat) : (List.replicate t l).flatten.length = t * l.length := by rw [List.length_flatten, List.map_replicate, List.sum_replicate_nat]
theorem rep_read {l : List Nat} {t st n : Nat} (h0 : 0 < l.length) (h : st + n ≤ t * l.length) : ((List.replicate t l).flatten.drop st).take n = readN l st n := by
  refine List.ext_getElem? fun k => ?_
  by_cases hk : k < n
  · rw [List.getElem?_take, if_pos hk, List.getElem?_drop, rep_get h0 t _ (by omega), readN_get h0 hk]
  · rw [List.getElem?_take, if_neg hk, List.getElem?_eq_none (by rw [readN_len]; omega)]
theorem read_rot {l : List Nat} {st : Nat} (h0 : 0 < l.length) (hs : st < l.length) : readN l st l.length = rot l st := by
  refine List.ext_getElem? fun k => ?_
  by_cases hk : k < l.length
  · rw [readN_get h0 hk, rot_get (Nat.le_of_lt hs) hk]
  · rw [List.getElem?_eq_none (by rw [readN_len]; omega), List.getElem?_eq_none (by rw [rot_len]; omega)]
theorem place_of {n : Nat} (h0 : 0 < n) (i : Int) : ∃ st : Nat, st < n ∧ i % (n : Int) = (st : Int) ∧ (i % (n : Int)).toNat = st := by
  have h1 := Int.emod_nonneg i (show (n : Int) ≠ 0 by omega)
  have h2 := Int.emod_lt_of_pos i (show (0 : Int) < n by omega)
  exact ⟨(i % (n : Int)).toNat, by omega, (Int.toNat_of_nonneg h1).symm, rfl⟩
theorem cut_mid {l : List Nat} {i j : Nat} (h : i ≤ j) (hj : j ≤ l.length) : cutS (S l) (some (i : Int)) (some (j : Int)) = S ((l.drop i).take (j - i)) := by
  show S _ = S _
  rw [HT.sIx_nat, HT.sIx_nat, S_len, S_cps, Nat.min_eq_left hj, Nat.min_eq_left (Nat.le_trans h hj)]
/-- the text of the ring as codes -/
def tx (l : List Nat) : List Nat := (textS l).cps.toList
theorem S_tx (l : List Nat) : S (tx l) = textS l := S_of _
theorem tx_len {l : List Nat} (h0 : 0 < l.length) : (tx l).length = l.length := by
  have q := text_len h0
  rw [← S_tx, S_len] at q
  exact q
theorem tx_is {l : List Nat} (h0 : 0 < l.length) : ∃ i, i < l.length ∧ tx l = rot l i := by
  obtain ⟨i, h, e⟩ := text_is h0
  exact ⟨i, h, by unfold tx; rw [e, S_cps]⟩
theorem tx_w {l : List Nat} (W : IsW l) : IsW (tx l) := by
  obtain ⟨i, _, e⟩ := tx_is W.pos
  rw [e]
  exact W.rot i
theorem read_low {l : List Nat} (W : IsW l) (st : Nat) {n : Nat} (h1 : 1 ≤ n) (h2 : n ≤ 600) : IsW (readN l st n) := by
  refine ⟨fun c hc => ?_, by rw [readN_len]; omega, by rw [readN_len]; exact h2⟩
  unfold readN at hc
  obtain ⟨k, _, e⟩ := List.mem_map.mp hc
  have m := getD_at (l := l) (i := (st + k) % l.length) (Nat.mod_lt _ W.pos)
  rw [e] at m
  exact W.low c (List.mem_of_getElem? m)
end Wb
/-! x in o, x not in o by an own __contains__ -/
namespace WbO
open PySem PySem.Spec PyProof.Rows L2
section
variable {X : Cx} {CX : CXT} {k : Nat} {C g : Addr} {fd : FuncData} {ps : List Str} {sp : Sp} {E : XK}
def rInO (C : Addr) (sp : Sp) (E : XK) : R2 := fun x y H Q => ∃ (a dx : Addr) (fs : List (Str × V)), y = .ref a ∧ H a = some (.ins C dx fs) ∧ sp [.ref a, x] H (fun v H' => ∃ c : Bool, v = .bl c ∧ Q (.bl c) H') E
def rNotInO (C : Addr) (sp : Sp) (E : XK) : R2 := fun x y H Q => ∃ (a dx : Addr) (fs : List (Str × V)), y = .ref a ∧ H a = some (.ins C dx fs) ∧ sp [.ref a, x] H (fun v H' => ∃ c : Bool, v = .bl c ∧ Q (.bl (!c)) H') E
theorem op_inO (hs : PySem.W.findIn X.K (.ref C) "__contains__" = some (some (.ref g))) (hf : PySem.W.isFn X.K (.ref g) = true) (F : FnOk X.prog X.w X.K X.mg X.base CX k g fd ps sp) (hr : Room k X.A) (hb : Binds X.K fd ps []) (hx : Passes CX X.nox E) : OpR X (compareOp .In) (rInO C sp E) := by
  intro pins s σ H x y v u Q I rx ry h
  obtain ⟨a, dx, fs, rfl, ha, q⟩ := h
  cases (show u = Value.ref a from ry)
  obtain ⟨mA, O, _⟩ := ins_get I.hok ha
  obtain ⟨od, J, _⟩ := O.look
  obtain ⟨m, hF⟩ := I.fr
  refine PySem.W.in_K hF I.ok.mod.kin J hs hf (wpAny_mono (run_at (vs := [.ref a, x]) (us := [.ref a, v]) F hr I.env0 hb hx I (.cons rfl (.cons rx .nil)) q) (fun w s' z => ?_) fun _ _ e => e)
  obtain ⟨z', H', I', rz, c, rfl, qz⟩ := z
  cases (show w = Value.bool c from rz)
  exact wpAny_truthy_bool ⟨.bl c, H', I', rfl, qz⟩
theorem op_notInO (hs : PySem.W.findIn X.K (.ref C) "__contains__" = some (some (.ref g))) (hf : PySem.W.isFn X.K (.ref g) = true) (F : FnOk X.prog X.w X.K X.mg X.base CX k g fd ps sp) (hr : Room k X.A) (hb : Binds X.K fd ps []) (hx : Passes CX X.nox E) : OpR X (compareOp .NotIn) (rNotInO C sp E) := by
  intro pins s σ H x y v u Q I rx ry h
  obtain ⟨a, dx, fs, rfl, ha, q⟩ := h
  cases (show u = Value.ref a from ry)
  obtain ⟨mA, O, _⟩ := ins_get I.hok ha
  obtain ⟨od, J, _⟩ := O.look
  obtain ⟨m, hF⟩ := I.fr
  refine PySem.W.notIn_K hF I.ok.mod.kin J hs hf (wpAny_mono (run_at (vs := [.ref a, x]) (us := [.ref a, v]) F hr I.env0 hb hx I (.cons rfl (.cons rx .nil)) q) (fun w s' z => ?_) fun _ _ e => e)
  obtain ⟨z', H', I', rz, c, rfl, qz⟩ := z
  cases (show w = Value.bool c from rz)
  exact wpAny_truthy_bool ⟨.bl (!c), H', I', rfl, qz⟩
end
end WbO
namespace Wb
open PySem L2 WbMin WbO WbT
abbrev sIn : Stmt := inClass (top 27) 9
/-! ### values of any kind -/
/-- what is no text -/
inductive Oth (p : Addr) (H : Hp) : V → Prop where
  | non : Oth p H .non
  | bl (b : Bool) : Oth p H (.bl b)
  | int (i : Int) : Oth p H (.int i)
  | lst {a : Addr} {xs : List V} (h : H a = some (.lst xs)) (n : a ≠ p) : Oth p H (.ref a)
  | tup {a : Addr} {xs : List V} (h : H a = some (.tup xs)) (n : a ≠ p) : Oth p H (.ref a)
  | dK {a : Addr} {xs : List (Key × V)} (h : H a = some (.dK xs)) (n : a ≠ p) : Oth p H (.ref a)
theorem Oth.but {p : Addr} {H H' : Hp} {x : V} (h : Oth p H x) (b : But p H H') : Oth p H' x := by
  cases h with
  | non => exact .non
  | bl b => exact .bl b
  | int i => exact .int i
  | lst h n => exact .lst (b _ _ n h) n
  | tup h n => exact .tup (b _ _ n h) n
  | dK h n => exact .dK (b _ _ n h) n
theorem Oth.ty {p : Addr} {H : Hp} {K : PySem.W.Frag} {x : V} (h : Oth p H x) : ∃ t, TyX K H x t ∧ PySem.W.kitOne K t (.type "str") = some false := by
  cases h with
  | non => exact ⟨_, .base .non, kit_ty (by decide +kernel)⟩
  | bl b => exact ⟨_, .base (.bl b), kit_ty (by decide +kernel)⟩
  | int i => exact ⟨_, .base (.int i), kit_ty (by decide +kernel)⟩
  | lst h n => exact ⟨_, .base (.lst h), kit_ty (by decide +kernel)⟩
  | tup h n => exact ⟨_, .base (.tup h), kit_ty (by decide +kernel)⟩
  | dK h n => exact ⟨_, .base (.dK h), kit_ty (by decide +kernel)⟩
/-- a sign that is a small letter -/
def okc (c : Nat) : Bool := decide (97 ≤ c) && decide (c ≤ 122)
def isWB (l : List Nat) : Bool := decide (1 ≤ l.length) && decide (l.length ≤ 600) && l.all okc
theorem isWB_iff {l : List Nat} : isWB l = true ↔ IsW l := by
  unfold isWB
  rw [Bool.and_eq_true, Bool.and_eq_true, decide_eq_true_iff, decide_eq_true_iff, List.all_eq_true]
  constructor
  · rintro ⟨⟨a, b⟩, c⟩
    refine ⟨fun d hd => ?_, by omega, b⟩
    have q := c d hd
    unfold okc at q
    rw [Bool.and_eq_true, decide_eq_true_iff, decide_eq_true_iff] at q
    exact q
  · rintro ⟨a, b, c⟩
    refine ⟨⟨by omega, c⟩, fun d hd => ?_⟩
    unfold okc
    rw [Bool.and_eq_true, decide_eq_true_iff, decide_eq_true_iff]
    exact a d hd
/-- a text as it may be drawn -/
structure Tx (l : List Nat) : Prop where
  few : l.length ≤ 2000
  cod : ∀ c ∈ l, c < 1000
theorem Tx.fits {l : List Nat} (h : Tx l) : (S l).length ≤ sizeLine := by
  rw [S_len, sizeLine_eq]
  have := h.few
  omega
theorem IsW.tx {l : List Nat} (h : IsW l) : Tx l := ⟨by have := h.few; omega, fun c hc => by have := h.low c hc; omega⟩
/-- a drawn value: a text, or what is no text -/
def Val (p : Addr) (H : Hp) (x : V) : Prop := (∃ l, x = .str (S l) ∧ Tx l) ∨ Oth p H x
theorem Val.but {p : Addr} {H H' : Hp} {x : V} (h : Val p H x) (b : But p H H') : Val p H' x := by
  rcases h with h | h
  · exact .inl h
  · exact .inr (h.but b)
/-- what is asked of it: b for a text, False else -/
def Ans (p : Addr) (H : Hp) (x : V) (f : List Nat → Bool) (b : Bool) : Prop := (∃ l, x = .str (S l) ∧ Tx l ∧ b = f l) ∨ (Oth p H x ∧ b = false)
theorem Val.ans {p : Addr} {H : Hp} {x : V} (h : Val p H x) (f : List Nat → Bool) : ∃ b, Ans p H x f b := by
  rcases h with ⟨l, e, t⟩ | h
  · exact ⟨_, .inl ⟨l, e, t, rfl⟩⟩
  · exact ⟨_, .inr ⟨h, rfl⟩⟩
theorem Ans.but {p : Addr} {H H' : Hp} {x : V} {f : List Nat → Bool} {c : Bool} (h : Ans p H x f c) (b : But p H H') : Ans p H' x f c := by
  rcases h with h | ⟨h, e⟩
  · exact .inl h
  · exact .inr ⟨h.but b, e⟩
def spIsWordX : Sp := fun vs H Q _ => ∃ (p : Addr) (x : V) (b : Bool), vs = [x] ∧ Ans p H x isWB b ∧ ∀ H', Same H H' → Q (.bl b) H'
/-! ### the mathematics: which words can be read -/
theorem readN_mod (l : List Nat) (i n : Nat) : readN l (i % l.length) n = readN l i n := by
  unfold readN
  exact List.map_congr_left fun k _ => by rw [Nat.mod_add_mod]
theorem readN_rot {l : List Nat} {j : Nat} (h0 : 0 < l.length) (hj : j ≤ l.length) (i n : Nat) : readN (rot l j) i n = readN l (j + i) n := by
  have hl := rot_len l j
  refine List.ext_getElem? fun k => ?_
  by_cases hk : k < n
  · rw [readN_get (by omega) hk, readN_get h0 hk, hl, rot_get hj (Nat.mod_lt _ h0), Nat.add_mod_mod, Nat.add_assoc]
  · rw [List.getElem?_eq_none (by rw [readN_len]; omega), List.getElem?_eq_none (by rw [readN_len]; omega)]
def canRead (l z : List Nat) : Bool := (List.range l.length).any fun i => decide (readN l i z.length = z)
theorem subIff (l m : List Nat) (i : Nat) : Builtin.Str.subAt (S l) (S m) i = true ↔ (l.drop i).take m.length = m := by
  unfold Builtin.Str.subAt S
  rw [beq_iff_eq]
  constructor
  · intro h
    have q := congrArg Array.toList h
    simpa [Str.length] using q
  · intro h
    have q : (Str.length ⟨m.toArray⟩) = m.length := by simp [Str.length]
    refine Array.toList_inj.mp ?_
    rw [q]
    simpa using h
theorem can_iff {l z : List Nat} : canRead l z = true ↔ ∃ i, i < l.length ∧ readN l i z.length = z := by
  unfold canRead
  rw [List.any_eq_true]
  constructor
  · rintro ⟨i, hi, e⟩
    exact ⟨i, List.mem_range.mp hi, of_decide_eq_true e⟩
  · rintro ⟨i, hi, e⟩
    exact ⟨i, List.mem_range.mpr hi, decide_eq_true e⟩
theorem read_in {l z : List Nat} (h0 : 0 < l.length) : (!(Builtin.Str.occurrences (S (List.replicate (z.length / l.length + 2) (tx l)).flatten) (S z) 0 (S (List.replicate (z.length / l.length + 2) (tx l)).flatten).length 1).isEmpty) = canRead l z := by
  rw [Bool.eq_iff_iff, StrLaws.found_iff, can_iff]
  obtain ⟨j, hj, ej⟩ := tx_is h0
  have tl := tx_len h0
  have t0 : 0 < (tx l).length := by omega
  constructor
  · rintro ⟨i, h1, h2⟩
    rw [S_len, S_len, rep_len] at h1
    have q := (subIff _ _ _).mp h2
    rw [rep_read t0 h1, ej, readN_rot h0 (Nat.le_of_lt hj), ← readN_mod] at q
    exact ⟨(j + i) % l.length, Nat.mod_lt _ h0, q⟩
  · rintro ⟨i, h1, h2⟩
    have e1 : (j + (i + l.length - j) % l.length) % l.length = i := by
      rw [Nat.add_mod_mod, show j + (i + l.length - j) = i + l.length by omega, Nat.add_mod_right, Nat.mod_eq_of_lt h1]
    have e2 : readN (tx l) ((i + l.length - j) % l.length) z.length = z := by
      rw [ej, readN_rot h0 (Nat.le_of_lt hj), ← readN_mod, e1, h2]
    have lt : (i + l.length - j) % l.length < l.length := Nat.mod_lt _ h0
    have b : (i + l.length - j) % l.length + z.length ≤ (z.length / l.length + 2) * (tx l).length := by
      rw [tl]
      have := Nat.lt_div_mul_add (a := z.length) h0
      rw [Nat.add_mul]
      omega
    refine ⟨(i + l.length - j) % l.length, by rw [S_len, S_len, rep_len]; exact b, (subIff _ _ _).mpr ?_⟩
    rw [rep_read t0 b, e2]
section
variable {P : Program} {w : World} {K : PySem.W.Frag} {mg : Str → Option Value} {base : Heap} {f fW C : Addr} {fd dW : FuncData}
set_option maxHeartbeats 0 in
theorem ok_iswordX (F : Fun K "is_word" "is_word" sIsWord f fd) (Z : Free mg) (t6 : Tok) (g6 : mg "MOST_WORD" = some (.int 600 t6)) : FnOk P w K mg base CX0 1 f fd ["value"] spIsWordX := by
  refine F.ok scIW (fun vs H Q E h => ?_) (fun cdv A outer s H vs Q E hr h => ?_)
  · obtain ⟨p, x, b, rfl, _⟩ := h
    rfl
  · obtain ⟨p, x, b, rfl, ha, k⟩ := h
    refine ⟨_, pss_cons (ps_if (PW.pt (pw_or (pt_not (pt_val (pe_callB call_isi (by rfl) Z.isi (by decide +kernel) (pa_cons (pv 0) (pa_cons (pe_bltn (v := .ty "str") (u := .type "str") (by rfl) Z.str (by decide +kernel) rfl) pa_nil)))))
        (pw_or1 (pt_not (pt_chain op_le op_le pe_int (pe_callB call_len_str (by rfl) Z.len PySem.boot_len (pa_cons (pv 0) pa_nil)) (pe_glob (v := .int 600) (by rfl) g6 ⟨_, rfl⟩)))))) (pss_one (ps_ret pe_bl)) pss_nil)
      (pss_one (ps_ret (pe_callB (cr_all rfl) (by rfl) Z.all (by decide +kernel) (pa_cons
        (pe_lc (own := [("sign", 1)]) (g := gName 1) (tt := tYes) rfl scIW.nd (pi_str (pv 0)) (blkOk_by (N := ["value", "sign"]) (sc := defScope sIsWord) (by decide +kernel)) (fun _ _ _ _ _ => pg_name (i := 1) scIW.nd rfl (.inl rfl)) (fun _ _ _ _ _ => pts_nil)
          (fun _ _ _ _ _ => pe_chain op_le_str op_le_str pe_str (pv 1) pe_str)) pa_nil)))), ?_⟩
    rcases ha with ⟨l, rfl, tl, rfl⟩ | ⟨ho, rfl⟩
    · have few := tl.few
      refine ⟨_, rfl, _, _, .type "str", .type "str", true, rfl, .ty "str", .base (.str _), kit_ty (by decide +kernel), true, rfl, ?_⟩
      have no : ¬ (1 ≤ l.length ∧ l.length ≤ 600) → Q (.bl false) H := fun z => by
        have e : isWB l = false := by
          cases e : isWB l with
          | false => rfl
          | true =>
            have q := isWB_iff.mp e
            exact absurd ⟨q.pos, q.few⟩ z
        have q := k H (Same.refl H)
        rw [e] at q
        exact q
      refine ⟨_, rfl, _, rfl, tl.fits, _, _, rfl, rfl, _, rfl, ite2 (fun z1 => ?_) (fun z1 => ?_)⟩
      · have h1 : 1 ≤ l.length := by
          have q := of_decide_eq_true z1
          rw [S_len] at q
          omega
        refine ⟨_, _, rfl, rfl, _, rfl, ?_⟩
        by_cases h2 : l.length ≤ 600
        · refine iteNS (by rw [S_len]; omega) ?_
          refine ⟨_, rfl, _, rfl, fun D hD => lc_it walk_str (fun i H3 => H3 D = some (.lst (((l.take i).map okc).map V.bl)) ∧ Same H H3) ⟨upd_same, Same.put (Same.refl H) hD⟩ (fun _ _ _ _ => trivial) ?_ ?_⟩
          · rintro i x H3 H3' hi ⟨h1, h2⟩ ⟨rfl, c, hc, rfl⟩
            have hc' : l[i]? = some c := by simpa [S] using hc
            have la : (([c] : List Nat) < [97]) ↔ c < 97 := by rw [List.cons_lt_cons_iff]; simp
            have lz : (([122] : List Nat) < [c]) ↔ 122 < c := by rw [List.cons_lt_cons_iff]; simp
            have ea : ("a" : Str).cps.toList = [97] := by decide +kernel
            have ez : ("z" : Str).cps.toList = [122] := by decide +kernel
            have fin : ∀ b : Bool, b = okc c → (∃ acc : List V, H3' D = some (.lst acc) ∧ acc.length < sizeLine ∧ (L2.upd H3' D (.lst (acc ++ [V.bl b]))) D = some (.lst (((l.take (i + 1)).map okc).map V.bl)) ∧ Same H (L2.upd H3' D (.lst (acc ++ [V.bl b])))) := fun b eb => by
              refine ⟨_, h1, ?_, ?_, Same.new' h2 hD⟩
              · rw [List.length_map, List.length_map, sizeLine_eq]
                have := List.length_take_le' i l
                omega
              · rw [upd_same, take_more hc', List.map_append, List.map_append, eb] <;> rfl
            refine ⟨rfl, _, rfl, _, _, rfl, rfl, _, rfl, ?_⟩
            rw [ea]
            by_cases q1 : c < 97
            · have e : okc c = false := by unfold okc; rw [decide_eq_false (show ¬ 97 ≤ c by omega)]; rfl
              have q1' : (!decide ((⟨#[c]⟩ : Str).cps.toList < [97])) = false := by
                rw [decide_eq_true (show (⟨#[c]⟩ : Str).cps.toList < [97] from la.mpr q1)] <;> rfl
              rw [q1', if_neg Bool.false_ne_true]
              exact fin false e.symm
            · have q1' : (!decide ((⟨#[c]⟩ : Str).cps.toList < [97])) = true := by
                rw [decide_eq_false (show ¬ (⟨#[c]⟩ : Str).cps.toList < [97] from fun z => q1 (la.mp z))] <;> rfl
              rw [q1', if_pos rfl]
              refine ⟨_, _, rfl, rfl, ?_⟩
              rw [ez]
              refine fin _ ?_
              unfold okc
              rw [decide_eq_true (show 97 ≤ c by omega)]
              by_cases q2 : c ≤ 122
              · rw [decide_eq_true q2, decide_eq_false (show ¬ [122] < (⟨#[c]⟩ : Str).cps.toList from fun z => by have := lz.mp z; omega)] <;> rfl
              · rw [decide_eq_false q2, decide_eq_true (show [122] < (⟨#[c]⟩ : Str).cps.toList from lz.mpr (by omega))] <;> rfl
          · rintro H3 ⟨h1', h2'⟩
            refine ⟨D, _, rfl, SqL.of h1', ?_⟩
            have q := k H3 h2'
            have e : isWB l = ((l.take (S l).cps.size).map okc).all id := by
              rw [S_size, List.take_length, List.all_map]
              unfold isWB
              rw [decide_eq_true (show 1 ≤ l.length by omega), decide_eq_true h2] <;> rfl
            rw [e] at q
            exact q
        · refine iteS ?_ ?_
          · rw [S_len]; omega
          · exact no (fun z => h2 z.2)
      · refine ⟨_, rfl, no (fun z => z1 (decide_eq_true ?_))⟩
        rw [S_len]
        omega
    · obtain ⟨t, ty, kt⟩ := ho.ty (K := K)
      exact ⟨_, rfl, _, _, t, .type "str", false, rfl, .ty "str", ty, kt, false, rfl, k H (Same.refl H)⟩
end
end Wb
namespace Wb
open PySem L2 WbMin WbO WbT
theorem cutA (l : List Nat) (i j : Nat) : cutS (S l) (some (i : Int)) (some (j : Int)) = S ((l.drop (min i l.length)).take (min j l.length - min i l.length)) := by
  show S _ = S _
  rw [HT.sIx_nat, HT.sIx_nat, S_len, S_cps]
theorem cutB (l : List Nat) (i : Nat) : cutS (S l) (some (i : Int)) none = S (l.drop i) := by
  show S _ = S _
  rw [HT.sIx_none, HT.sIx_nat, S_len, S_cps]
  congr 1
  by_cases h : i ≤ l.length
  · rw [Nat.min_eq_left h, List.take_of_length_le (by rw [List.length_drop]; omega)]
  · rw [Nat.min_eq_right (by omega), List.drop_length, List.drop_eq_nil_of_le (by omega), List.take_nil]
theorem cutC (l : List Nat) (j : Nat) : cutS (S l) none (some (j : Int)) = S (l.take j) := by
  show S _ = S _
  rw [HT.sIx_none, HT.sIx_nat, S_len, S_cps]
  congr 1
  show l.take (min j l.length) = _
  by_cases h : j ≤ l.length
  · rw [Nat.min_eq_left h]
  · rw [Nat.min_eq_right (by omega), List.take_length, List.take_of_length_le (by omega)]
theorem Tx.sub {l m : List Nat} (h : Tx l) (s : ∀ c ∈ m, c ∈ l) (n : m.length ≤ 2000) : Tx m := ⟨n, fun c hc => h.cod c (s c hc)⟩
theorem Tx.lit {z : Str} (l : List Nat) (e : z.cps.toList = l) (h1 : l.length ≤ 2000) (h2 : ∀ c ∈ l, c < 1000) : ∃ m, V.str z = .str (S m) ∧ Tx m := ⟨l, by rw [S_eq e], h1, h2⟩
theorem Val.lit {p : Addr} {H : Hp} {z : Str} (l : List Nat) (e : z.cps.toList = l) (h1 : l.length ≤ 2000) (h2 : ∀ c ∈ l, c < 1000) : Val p H (.str z) := .inl (Tx.lit l e h1 h2)
theorem int_lt {d m : Int} (h0 : 0 ≤ d) (h1 : d < m) : ∃ j : Nat, d = (j : Int) ∧ (j : Int) < m := ⟨d.toNat, by omega, by omega⟩
end Wb
/-! sorted of a text, of a tuple of texts; len(set(z)) of a text -/
namespace WbS
open PySem PySem.Spec PyProof.Rows L2
section
variable {X : Cx}
def sOne (c : Nat) : Str := ⟨#[c]⟩
/-- a new list of these texts, sorted -/
theorem sort_new {pins : List (Addr × Obj)} {σ : L2.St} {H : Hp} {s : Shared} {Q : VK} {us : List Value} {ks : List Str} (I : Inv X pins σ H s) (hS : StrsAre us ks) (h64 : ks.length < 64) (q : ∀ ys p, ys.Perm ks → sortedS ys = true → H p = none → Q (.ref p) (upd H p (.lst (ys.map V.str)))) :
    wpAny (model X.prog X.w) X.A.in1 (newList us >>= fun l => holding [l] (call (.builtin "list.sort") [l] []) >>= fun _ => ret l) (fun fin s' => ∃ v, fin = .done (.ret v) ∧ ∃ x H', Inv X pins σ H' s' ∧ RelV x v ∧ Q x H') X.xe s := by
  have hal : us.length = ks.length := hS.len_eq
  refine wpAny_bind (wpAny_newList ?_ (by rw [hal, sizeLine_eq]; omega))
  have hoL : (s.heap.push (seqObj "list" us.toArray 0)).get? s.heap.objs.size = some (seqObj "list" us.toArray 0) := Heap.get?_push_size _ rfl
  show wpAny _ _ _ _ _ { s with heap := s.heap.push (seqObj "list" us.toArray 0) }
  refine wpAny_bind (wpAny_holding (wpAny_call_entry PyProof.Rows.slot_list_sort ⟨_, hoL, rfl⟩ PyProof.Rows.entry_list_sort
    (list_sort_treeK strKind_oneLt (s := { s with heap := s.heap.push (seqObj "list" us.toArray 0) }) hoL hS.keysOf (fun v₁ v₂ rest e => keyKind_strs (by rw [← e]; exact hS)) (by rw [hal]; exact h64) fun st' hp hs => ⟨_, rfl, ?_⟩)
    (PyProof.Rows.args_list_sort _)))
  obtain ⟨ys, g1, g2, g3⟩ := sorted_out_str hS hp hs
  obtain ⟨e', he'⟩ := PyProof.Rows.sortedHeap_at (vs := us) (out := (arrOf st').map (·.2)) hoL
  have hlen : (ys.map V.str).length ≤ sizeLine := by
    rw [List.length_map, g2.length_eq]
    exact Nat.le_trans (Nat.le_of_lt h64) (by decide)
  refine wpAny_pure ⟨_, rfl, .ref s.heap.objs.size, upd H s.heap.objs.size (.lst (ys.map V.str)), I.laid (t' := s.toks) (fun b u e => ?_) (Nat.le_refl _)
    (show ObjOk X.prog X.w _ _ _ (.lst (ys.map V.str)) from ⟨hlen, ((arrOf st').map (·.2)).toList, e', vals_of_strs g1, by rw [Array.toArray_toList]; exact he'⟩), rfl, q ys _ g2 g3 (I.hok.fresh (Nat.le_refl _))⟩
  have hb : b < s.heap.objs.size := Heap.lt_size e
  rw [PyProof.Rows.sortedHeap_old (Nat.ne_of_lt hb) (by rw [size_push']; exact Nat.lt_succ_of_lt hb)]
  exact Heap.get?_push_of_some _ e
theorem call_sortedTx (hcalm : X.calm = true) : CallR X (.builtin "sorted") (fun xs H Q => ∃ z : Str, xs = [.str z] ∧ z.length < 64 ∧ ∀ ys p, ys.Perm (z.cps.toList.map sOne) → sortedS ys = true → H p = none → Q (.ref p) (upd H p (.lst (ys.map V.str)))) := by
  intro pins s σ H xs us Q I r q
  obtain ⟨z, rfl, h64, q⟩ := q
  obtain ⟨u, rfl, t, rfl⟩ := vals1 r
  have h16 : z.cps.size ≤ sizeLine := by
    have : z.cps.size < 64 := h64
    rw [sizeLine_eq]; omega
  refine Calls.call_function_entry PyProof.Rows.kind_sorted PyProof.Rows.plain_sorted PyProof.Rows.entry_sorted (PyProof.Rows.args_sorted1 _) ?_
  unfold Builtin.«sorted»
  refine wpAny_bind (m := checkCount "sorted" 1 1 _) (wpAny_pure ?_)
  refine wpAny_bind (wpAny_collect_str (A := X.A.in1) (I.ok.hd hcalm) z t (fun s' acc hk e1 e2 e3 hacc => ?_) h16)
  obtain ⟨h', g', d', tk, os'⟩ := s'
  obtain rfl : g' = s.gens := e1
  obtain rfl : d' = s.drawn := e2
  obtain rfl : os' = s.os := e3
  have hS : StrsAre acc.toList (z.cps.toList.map sOne) := strs_at (by rw [Array.length_toList, hacc.1, List.length_map, Array.length_toList]) fun j v e => by
    obtain ⟨c, u, a1, a2⟩ := hacc.2 j v (by rw [← Array.getElem?_toList]; exact e)
    exact ⟨sOne c, u, by rw [List.getElem?_map, Array.getElem?_toList, a1] <;> rfl, a2⟩
  have I1 : Inv X pins σ H { s with heap := h', toks := tk } := I.kept hk
  exact sort_new I1 hS (by rw [List.length_map, Array.length_toList]; exact h64) q
theorem call_sortedTup : CallR X (.builtin "sorted") (fun xs H Q => ∃ (a : Addr) (ks : List Str), xs = [.ref a] ∧ SqT X.K H a (ks.map V.str) ∧ ks.length < 64 ∧ ∀ ys p, ys.Perm ks → sortedS ys = true → H p = none → Q (.ref p) (upd H p (.lst (ys.map V.str)))) := by
  intro pins s σ H xs us Q I r q
  obtain ⟨a, ks, rfl, hq, h64, q⟩ := q
  rw [Vals.ref1 r]
  obtain ⟨its, rv, ⟨o, ho, hc, n, hd⟩, hz⟩ := I.tuple hq
  have hS : StrsAre its ks := rv.strs
  have hl : its.length = ks.length := hS.len_eq
  refine Calls.call_function_entry PyProof.Rows.kind_sorted PyProof.Rows.plain_sorted PyProof.Rows.entry_sorted (PyProof.Rows.args_sorted1 _) ?_
  unfold Builtin.«sorted»
  refine wpAny_bind (m := checkCount "sorted" 1 1 _) (wpAny_pure ?_)
  refine wpAny_bind (wpAny_collect_seq (A := X.A.in1) a (.inr rfl) ho hc hd (fun h' hk => ?_) (by rw [List.size_toArray, hl, sizeLine_eq]; omega))
  have I1 : Inv X pins σ H { s with heap := h' } := I.kept (t' := s.toks) hk
  exact sort_new I1 hS h64 q
end
end WbS
/-! enumerate(t), t a tuple -/
namespace WbS
open PySem PySem.Spec PyProof.Rows
open AutoSeq1 (wpAny_loadPart')
set_option maxHeartbeats 1000000 in
theorem meets_enumT {v : Value} {o : Obj} {H : Heap → Prop} (B : Begins v o H) :
    Meets (Builtin.«enumerate.__new__» ⟨[.type "enumerate", v], []⟩) (fun _ R s => H s.heap ∧
      R (.ok (.ret (.ref (s.heap.push o).objs.size))) { s with heap := (s.heap.push o).push { cls := .type "enumerate", data := .fields #[.none, .bool false, .ref s.heap.objs.size, rawInt 0, .none, .none] } }) :=
  .of_wp fun prog w A R s h => by
    obtain ⟨hp, g, d, tk, os⟩ := s; obtain ⟨h1, h⟩ := h
    have hsub := sub_enumerate
    have q1 : ∀ {A' : Around} {E : Value → Shared → Prop} {Q : Value → Shared → Prop}, Q (.ref hp.objs.size) ⟨hp.push o, g, d, tk, os⟩ → wpAny (model prog w) A' (pyIter v) Q E ⟨hp, g, d, tk, os⟩ :=
      fun q => B.iter prog w _ _ ⟨hp, g, d, tk, os⟩ _ h1 q
    wp_walk using q1
    refine wpAny_stack_any fun st => wpAny_pure ?_
    split
    · rename_i c _ _ _ _ _
      cases (c == Value.type "enumerate")
      · wp_walk using q1
        exact ⟨_, rfl, h⟩
      · wp_walk using q1
        exact ⟨_, rfl, h⟩
    · wp_walk using q1
      exact ⟨_, rfl, h⟩
section
variable {prog : Program} {w : World} {A : Around} {E : Value → Shared → Prop} {s : Shared}
theorem enum1_begins {v : Value} {o : Obj} {H : Heap → Prop} {Q : Value → Shared → Prop} (B : Begins v o H) (h1 : H s.heap)
    (h : ∀ h', IsEnum h' (s.heap.objs.size + 1) s.heap.objs.size 0 .none → h'.get? s.heap.objs.size = some o → h'.objs.size = s.heap.objs.size + 2 →
      (∀ b o, s.heap.get? b = some o → h'.get? b = some o) → Q (.ref (s.heap.objs.size + 1)) { s with heap := h' }) :
    wpAny (model prog w) A (call (.type "enumerate") [v]) Q E s := by
  refine callType_new F.called_enumerate (by decide) (F.typeCall_enumerate_1 _) (F.newCall_enumerate_1 _) (fun obj => F.args_object_init_2 obj _) F.entry_enumerate_new
    (meets_enumT B) ⟨h1, ?_⟩
  have hz : (s.heap.push o).objs.size = s.heap.objs.size + 1 := Heap.size_push ..
  show _ ∧ _
  rw [hz]
  have he : IsEnum ((s.heap.push o).push { cls := .type "enumerate", data := .fields #[.none, .bool false, .ref s.heap.objs.size, rawInt 0, .none, .none] }) (s.heap.objs.size + 1) s.heap.objs.size 0 .none := by
    have := Heap.get?_push_size (s.heap.push o) (o := { cls := .type "enumerate", data := .fields #[.none, .bool false, .ref s.heap.objs.size, rawInt 0, .none, .none] }) rfl
    rw [hz] at this; exact this
  refine ⟨⟨_, he, rfl⟩, h _ he (Heap.get?_push_of_some _ (Heap.get?_push_size _ B.free)) (by rw [Heap.size_push, hz]) fun b o x => Heap.get?_push_of_some _ (Heap.get?_push_of_some _ x)⟩
end
end WbS
namespace WbS
open PySem PySem.Spec PyProof.Rows L2
/-- the tuple at a as it stands at each turn, each item in a new pair -/
def IteT (K : PySem.W.Frag) (a : Addr) : It :=
  ⟨fun i H => ∃ (xs : List V) (x : V), SqT K H a xs ∧ xs[i]? = some x, fun i H v H' => ∃ T x, v = .ref T ∧ H T = none ∧ H' = upd H T (.tup [.int (i : Nat), x]) ∧ ∀ xs, SqT K H a xs → xs[i]? = some x, fun i H => ∃ xs : List V, SqT K H a xs ∧ xs.length = i⟩
theorem turn_enumT {P : Program} {w : World} {K : PySem.W.Frag} {elts : List Expr} {kk : Nat} {tpos : Pos} (a e it : Addr) :
    Turn P w K (.Tuple elts kk tpos) (IteT K a) [e, it] e (fun i h => (∃ old, IsEnum h e it ((i : Nat) : Int) old) ∧ h.IsTupleIter it a i ∧ e ≠ it ∧ e ≠ a ∧ a ≠ it) where
  mem := by simp
  obj := fun i h st b hb => by
    obtain ⟨⟨old, he⟩, ⟨o, ho, hc, hd⟩, _⟩ := st
    have e' : b = e ∨ b = it := by simpa using hb
    rcases e' with z | z
    · rw [z]; exact ⟨_, he, fun v q => nomatch q⟩
    · rw [z]; exact ⟨o, ho, fun v q => by rw [hd] at q; cases q⟩
  keep := fun i h h' st k => let ⟨⟨old, he⟩, hi, hne⟩ := st; ⟨⟨old, k e (by simp) _ he⟩, hi.at fun o q => k it (by simp) o q, hne⟩
  item := by
    intro X hP hw hK hc i pins s σ H E I hf st hg
    subst hP hw hK
    obtain ⟨⟨old, he⟩, hit, hne, hea, hai⟩ := st
    obtain ⟨xs, x, hq, hx⟩ := hg
    obtain ⟨its, rv, p, hz⟩ := I.tuple hq
    obtain ⟨u, hu, ru⟩ := rv.get hx
    have hel : e < s.heap.objs.size := Heap.lt_size he
    have hil : it < s.heap.objs.size := by obtain ⟨_, q, _⟩ := hit; exact Heap.lt_size q
    have hlt : i < its.toArray.size := by
      have q := List.getElem?_eq_some_iff.mp hu
      obtain ⟨q, _⟩ := q
      simpa using q
    refine wpAny_pyNext_enum_itemD (Draws.tuple (A := X.A.in1) (I.ok.hd hc) it a hai its.toArray) he ⟨hit, p⟩ hlt hne (by simp [hne, hea]) fun x' h' tk hP ho hit' hT hsz hk => ?_
    obtain rfl : x' = u := by
      have q1 : its.toArray[i]? = some x' := hP
      have q2 : its.toArray[i]? = some u := by simpa using hu
      rw [q1] at q2
      exact Option.some.inj q2
    refine ⟨_, rfl, wpAny_letOwnedTupleGo_enum (s := { s with heap := h', toks := tk + 1 }) ho fun h'' he' sb => ?_⟩
    have hT2 : h''.get? s.heap.objs.size = some { cls := .type "tuple", data := .seq #[.int i tk, x'] } := (sb.2 _ (Nat.ne_of_gt hel)).trans hT
    have new : ObjOk X.prog X.w (upd H s.heap.objs.size (.tup [.int (i : Nat), x])) h'' s.heap.objs.size (.tup [.int (i : Nat), x]) :=
      ⟨by show 2 ≤ sizeLine; decide, [.int i tk, x'], .cons ⟨_, rfl⟩ (.cons ru .nil), ⟨_, hT2, rfl, _, rfl⟩⟩
    have I1 : Inv X pins σ (upd H s.heap.objs.size (.tup [.int (i : Nat), x])) { s with heap := h'', toks := tk + 1 } :=
      I.turnedNew (ch := [e, it]) (fun b ob hb q => (sb.2 b (fun z => hb (by simp [z]))).trans (hk b ob (fun z => hb (by simp [z])) (fun z => hb (by simp [z])) q)) hf (Nat.le_refl _) new
    refine ⟨.ref s.heap.objs.size, _, I1, rfl, ⟨_, x, rfl, I.hok.fresh (Nat.le_refl _), rfl, fun ys hy => by rw [I.tuple_inj hy hq]; exact hx⟩, ⟨⟨x', ?_⟩, hit'.1.at fun o q => (sb.2 it (Ne.symm hne)).trans q, hne, hea, hai⟩, fun b hb => ?_⟩
    · have e1 : ((i + 1 : Nat) : Int) = (i : Int) + 1 := by omega
      rw [e1]; exact he'
    · have hb' : b < s.heap.objs.size := by
        have e' : b = e ∨ b = it := by simpa using hb
        rcases e' with z | z
        · rw [z]; exact hel
        · rw [z]; exact hil
      rw [upd_ne (Nat.ne_of_lt hb')]
      exact (hf b hb).1
  done := by
    intro X hP hw hK hc i pins s σ H E I hf st hg
    subst hP hw hK
    obtain ⟨⟨old, he⟩, hit, hne, hea, hai⟩ := st
    obtain ⟨xs, hq, hx⟩ := hg
    obtain ⟨its, rv, p, hz⟩ := I.tuple hq
    obtain ⟨f0, f1, f2, f3, f4, f5⟩ := hf it (by simp)
    have hl := rv.length
    have en : its.toArray.size = i := by simp; omega
    refine wpAny_pyNext_enum_endD (n := its.toArray.size) (Draws.tuple (A := X.A.in1) (I.ok.hd hc) it a hai its.toArray) he ⟨by rw [en]; exact hit, p⟩ fun h' eb => ⟨rfl, I.turned (t' := s.toks) (fun b o hb q => eb b o hb q) f0 f1 f3 f4 f5⟩
  self := fun A i s Q E st h => let ⟨⟨_, he⟩, _⟩ := st; wpAny_pyIter_enum he h
def iEnumT (K : PySem.W.Frag) (ta : TA) : TI := fun σ H R => ta σ H fun vs H1 => ∃ a xs, vs = [.ref a] ∧ SqT K H1 a xs ∧ R (IteT K a) H1
theorem pi_enumT {X : Cx} {e : Expr} {ta : TA} {p pos tpos : Pos} {elts : List Expr} {kk : Nat} (hg : Gl X "enumerate") (hm : X.mg "enumerate" = none) (ha : PA X [e] ta) (hs : starEach [e] X.env = [(false, eval e X.env)] := by rfl) :
    PI X (.Tuple elts kk tpos) (.Call (.Name "enumerate" p) [e] [] pos) (iEnumT X.K ta) := by
  refine ⟨fun pins s σ H R I h => ?_⟩
  refine Call_ (ld_blt I hg hm boot_enumerate (PyProof.Rows.callWith_type1 (thn (ha.run pos pins s σ H _ I h) fun us s1 ⟨vs, H1, I1, r1, q1⟩ => ?_) hs rfl))
  obtain ⟨a, xs, ex, hq, q⟩ := q1
  subst ex
  cases r1 with
  | cons r rr =>
    cases rr
    cases r
    obtain ⟨its, rv, p', hz⟩ := I1.tuple hq
    have hal : a < s1.heap.objs.size := by obtain ⟨_, q, _⟩ := p'; exact Heap.lt_size q
    refine enum1_begins (begins_tuple a its.toArray) p' fun h' he hit hsz hk => wpAny_pyIter_enum he ?_
    have I2 : Inv X pins σ H1 { s1 with heap := h' } := I1.kept (t' := s1.toks) hk
    refine ⟨s1.heap.objs.size + 1, [s1.heap.objs.size + 1, s1.heap.objs.size], _, _, H1, rfl, I2, turn_enumT a (s1.heap.objs.size + 1) s1.heap.objs.size, ⟨⟨.none, he⟩, ⟨_, hit, rfl, rfl⟩, Nat.succ_ne_self _, Nat.ne_of_gt (Nat.lt_succ_of_lt hal), Nat.ne_of_lt hal⟩, fun b hb => ?_, q⟩
    have e' : b = s1.heap.objs.size + 1 ∨ b = s1.heap.objs.size := by simpa using hb
    have hle : s1.heap.objs.size ≤ b := by
      rcases e' with z | z
      · rw [z]; exact Nat.le_add_right _ _
      · rw [z]; exact Nat.le_refl _
    exact I1.fpOk hle (I1.hok.fresh hle)
theorem walk_enumT {K : PySem.W.Frag} {a : Addr} {xs : List V} : Walk (IteT K a) xs.length (fun H => SqT K H a xs) (YPair (fun i => some (.int (i : Nat))) (fun i => xs[i]?)) := by
  refine ⟨fun i _ hi q => ⟨xs, xs[i], q, by simp [hi]⟩, fun _ q => ⟨xs, q, rfl⟩, fun i H v H' _ q y => ?_⟩
  obtain ⟨T, x, h1, h2, h3, h4⟩ := y
  exact ⟨T, .int (i : Nat), x, h1, h2, h3, rfl, h4 xs q⟩
end WbS
namespace WbSet
open PySem PySem.Spec PyProof.Rows
def signs (x : Str) : List Str := x.cps.toList.map fun c => ⟨#[c]⟩
theorem signs_told {x : Str} {i : Nat} {v : Value} (h : SignAt x i v) : ∃ y t, (signs x)[i]? = some y ∧ v = .str y t := by
  obtain ⟨c, u, e1, e2⟩ := h
  refine ⟨⟨#[c]⟩, u, ?_, e2⟩
  unfold signs
  rw [List.getElem?_map, Array.getElem?_toList, e1] <;> rfl
section
variable {prog : Program} {w : World} {A : Around} {E : Value → Shared → Prop} {s : Shared}
set_option maxHeartbeats 3200000 in
theorem call_setT {x : Str} {u : Tok} {Q : Value → Shared → Prop} (calm : A.handled = none) (few : x.cps.size + 1 < scanBound)
    (k : ∀ (h' : Heap) (tk : Nat), Has prog w h' s.heap.objs.size (differ (signs x)) → (∀ b o, b < s.heap.objs.size → s.heap.get? b = some o → h'.get? b = some o) → Q (.ref s.heap.objs.size) { s with heap := h', toks := tk }) :
    wpAny (model prog w) A (call (.type "set") [.str x u]) Q E s := by
  obtain ⟨c, tl, mro⟩ := PySem.F.called_set.mro
  have f1 := PySem.F.called_set.made
  have f2 := PySem.F.called_set.sub
  refine wpAny_call (codeAny_of_tree ?_) ; show wpAny _ _ (callAny (.type "set") _) _ _ _
  refine wpAny_pure ⟨Code.quiet_builtin _ (by decide +kernel), codeAny_builtin PySem.F.entry_type_call ?_⟩ ; rw [Around.under_plain (weight_type_call_type "set" [.str x u] []) rfl]
  have f3 := PySem.F.called_set.notType
  have f4 := PySem.F.called_set.canCreate
  have f5 := PySem.F.typeCall_set_1 (.str x u)
  repeat (any_goals (first | assumption | wp_step))
  refine codeAny_mono (code_set_new_1 (.str x u) (E := E) (Q₁ := fun v s1 => ∃ led : Bool, v = .ref s.heap.objs.size ∧ s1 = { s with heap := s.heap.push (setO led) }) fun led => ⟨led, rfl, rfl⟩) fun r s1 hr => ?_
  cases r with
  | error e => exact hr
  | ok fl =>
    cases fl with
    | ret v =>
      obtain ⟨led, rfl, rfl⟩ := hr
      have g1 : (s.heap.push (setO led)).get? s.heap.objs.size = some (setO led) := Heap.get?_push_size _ rfl
      have g2 : Shared.TypeIs { s with heap := s.heap.push (setO led) } (.ref s.heap.objs.size) "set" := ⟨_, g1, rfl⟩
      have f6 := PySem.F.called_set.init.lookup
      have f7 := PySem.F.called_set.init.bind (.ref s.heap.objs.size)
      repeat (any_goals (first | assumption | wp_step))
      refine codeAny_mono (codeAny_call_builtin (R := wants (fun r s2 => r = .none ∧ ∃ h' tk, s2 = { s with heap := h', toks := tk } ∧ Has prog w h' s.heap.objs.size (differ (signs x)) ∧ (∀ b o, b < s.heap.objs.size → s.heap.get? b = some o → h'.get? b = some o)) E) PySem.F.called_set.init.plain PySem.F.entry_set_init (check_set_init_1 g2 ?_)) fun r2 s2 hr2 => ?_
      · have f8 := PySem.F.sub_str_set
        have f9 := PySem.F.sub_str_frozenset
        have f10 : (Value.type "str" == Value.type "dict") = false := by decide
        unfold Builtin.«set.__init__» noKeywords Builtin.Frozenset.updateFrom
        generalize hit : pyIter = it
        wp_walk
        subst hit
        refine wpAny_pyIter_str fun o St W hst => (wpAny_bind (wpAny_runValue ?_))
        have calm3 : A.in1.in1.in1.handled = none := by simp [calm]
        have sz : (s.heap.push (setO led)).objs.size = s.heap.objs.size + 1 := Heap.size_push _ _
        have ne2 : s.heap.objs.size ∉ [(s.heap.push (setO led)).objs.size] := by
          intro q
          have q := List.mem_singleton.mp q
          rw [sz] at q; exact absurd q (Nat.ne_of_lt (Nat.lt_succ_self _))
        have lx : (signs x).length = x.cps.size := by unfold signs; rw [List.length_map, Array.length_toList]
        refine turns ((W _ calm3).toS) s.heap.objs.size ne2 (signs x) lx few (fun i v hv => signs_told hv) (x.cps.size - 0) 0 _ (by omega) (Nat.zero_le _) hst ?start ?fin
        case start =>
          have g4 : ((s.heap.push (setO led)).push o).get? s.heap.objs.size = some (setO led) := Heap.get?_push_of_some _ g1
          exact SetOf_congr ((setObjOf_fresh (knd := strKind prog w) led).setOf g4 (by unfold scanBound; omega)) (fun _ => rfl) rfl
        case fin =>
          intro s3 mv has
          obtain ⟨h3, g3', d3, tk3, os3⟩ := s3
          obtain rfl : g3' = s.gens := mv.gens
          obtain rfl : d3 = s.drawn := mv.drawn
          obtain rfl : os3 = s.os := mv.os
          show wpAny _ _ _ _ _ _ ; refine wpAny_pure ?_ ; show wpAny _ _ (ret Value.none) _ _ _
          refine wpAny_pure ⟨rfl, h3, tk3, rfl, has, fun b o hb e => mv.heap b o ?_ (Heap.get?_push_of_some _ (Heap.get?_push_of_some _ e))⟩
          intro q
          rcases List.mem_cons.mp q with q | q
          · exact absurd q (Nat.ne_of_lt hb)
          · have q2 := List.mem_singleton.mp q
            rw [sz] at q2
            exact absurd q2 (Nat.ne_of_lt (Nat.lt_succ_of_lt hb))
      · cases r2 with
        | error e => exact hr2
        | ok fl2 =>
          cases fl2 with
          | ret r =>
            obtain ⟨rfl, h', tk, rfl, has, kept⟩ := hr2
            repeat (any_goals (first | assumption | wp_step))
            exact k _ _ has kept
          | _ => exact hr2.elim
    | _ => exact hr.elim
end
end WbSet
namespace WbSet
open PySem PySem.Spec PyProof.Rows L2
variable {X : Cx}
/-- len(set(z)), z a text -/
def tLenSetT (ta : TE) : TE := fun σ H Q => ta σ H fun x H1 => ∃ z : Str, x = .str z ∧ z.length ≤ 4000 ∧ Q (.int (differ (signs z)).length) H1
theorem pe_lenSetT {a : Expr} {ta : TE} {p p2 q pos : Pos} (hc : X.calm = true) (hg : Gl X "len") (hm : X.mg "len" = none) (hg2 : Gl X "set") (hm2 : X.mg "set" = none) (ha : PE X a ta)
    (na : starEach [a] X.env = (false, eval a X.env) :: starEach [] X.env := by rfl) : PE X (.Call (.Name "len" p) [.Call (.Name "set" p2) [a] [] q] [] pos) (tLenSetT ta) := by
  refine ⟨fun pins s σ H Q I h => Call_ (ld_blt I hg hm boot_len ?_)⟩
  refine callWith_builtin1 (args_cons (Call_ (ld_blt I hg2 hm2 boot_set ?_)) rfl) rfl rfl
  refine callWith_type1 (args_cons (thn (ha.run pins s σ H _ I h) fun v s1 ⟨x, H1, I1, r1, q1⟩ => args_nil ?_) na) na rfl
  obtain ⟨z, rfl, few, q1⟩ := q1
  obtain ⟨u, rfl⟩ := r1
  have few' : z.cps.size ≤ 4000 := few
  refine call_setT (I1.ok.hd hc) (by unfold scanBound; omega) fun h' tk has kept => args_nil ?_
  obtain ⟨o, es, ep, t, ho, hex, hd, _, _, _, hf, hn⟩ := has
  have I2 : Inv X pins σ H1 { s1 with heap := h', toks := tk } := I1.kept fun b o e => kept b o (Heap.lt_size e) e
  have le := differ_le (signs z)
  have ll : (signs z).length = z.cps.size := by unfold signs; rw [List.length_map, Array.length_toList]
  exact call_len_set ho hex hd hf (by rw [hn]; omega) ⟨.int (differ (signs z)).length, H1, I2.tok _, ⟨_, by rw [hn]⟩, q1⟩
end WbSet
/-! the checks of a kind, and whether it has a ring -/
namespace Wb
open PySem L2 WbMin WbO WbT WbS
abbrev sIsSigns : Stmt := top 8
abbrev sSignOf : Stmt := top 9
abbrev sFirst : Stmt := top 10
abbrev sIsPair : Stmt := top 29
abbrev sChPairs : Stmt := top 30
abbrev sAllP : Stmt := top 31
abbrev sGoes : Stmt := top 32
abbrev sHas : Stmt := top 33
/-- the signs of a kind, in any order -/
structure Sgs (l : List Nat) : Prop where
  low : Low l
  nd : l.Nodup
  pos : 0 < l.length
  few : l.length ≤ 4
theorem Sgs.w {l : List Nat} (h : Sgs l) : IsW l := ⟨h.low, h.pos, by have := h.few; omega⟩
/-- a pair of these signs -/
def PairOf (sg : List Nat) (z : Str) : Prop := ∃ a b, a ∈ sg ∧ b ∈ sg ∧ z = S [a, b]
structure Prs (sg : List Nat) (ps : List Str) : Prop where
  of : ∀ z ∈ ps, PairOf sg z
  nd : ps.Nodup
  few : ps.length ≤ 16
def spIsSigns : Sp := fun vs H Q _ => ∃ l, vs = [.str (S l)] ∧ Sgs l ∧ ∀ H', Same H H' → Q (.bl true) H'
def spSignOf : Sp := fun vs H Q _ => ∃ (c : Nat) (sg : List Nat), vs = [.str (S [c]), .str (S sg)] ∧ c ∈ sg ∧ Q (.bl true) H
def spIsPair : Sp := fun vs H Q _ => ∃ (z : Str) (sg : List Nat), vs = [.str z, .str (S sg)] ∧ PairOf sg z ∧ Q (.bl true) H
def spFirst : Sp := fun vs H Q _ => ∃ (t L : Addr) (ps : List Str), vs = [.ref t, .ref L] ∧ H t = some (.tup (ps.map V.str)) ∧ H L = some (.lst ((List.replicate ps.length true).map V.bl)) ∧ ps.Nodup ∧ ps.length ≤ 16 ∧ ∀ H', Same H H' → Q .non H'
def spChPairs : Sp := fun vs H Q _ => ∃ (t : Addr) (sg : List Nat) (ps : List Str), vs = [.ref t, .str (S sg)] ∧ H t = some (.tup (ps.map V.str)) ∧ Prs sg ps ∧ ∀ H', Same H H' → Q .non H'
def spHas : Sp := fun vs H Q _ => ∃ (t : Addr) (sg : List Nat) (ps : List Str), vs = [.str (S sg), .ref t] ∧ H t = some (.tup (ps.map V.str)) ∧ sg.length ≤ 4 ∧ ∀ (b : Bool) H', Same H H' → Q (.bl b) H'
theorem flat_strs (zs : List Str) : (zs.map V.str).all flatV = true := by rw [List.all_map]; exact List.all_eq_true.mpr fun _ _ => rfl
theorem inV_strs (z : Str) (zs : List Str) : inV (.str z) (zs.map V.str) = decide (z ∈ zs) := by
  unfold inV
  rw [List.any_map, Bool.eq_iff_iff, List.any_eq_true, decide_eq_true_iff]
  constructor
  · rintro ⟨y, hy, e⟩
    have e' : (y == z) = true := e
    rw [← beq_iff_eq.mp e']
    exact hy
  · intro h
    exact ⟨z, h, beq_self_eq_true z⟩
theorem take_nd {α : Type} [DecidableEq α] {l : List α} {i : Nat} {x : α} (nd : l.Nodup) (h : l[i]? = some x) : x ∉ l.take i := by
  intro m
  obtain ⟨j, hj, e⟩ := List.getElem_of_mem m
  rw [List.length_take] at hj
  rw [List.getElem_take] at e
  obtain ⟨hi, e2⟩ := List.getElem?_eq_some_iff.mp h
  exact (List.pairwise_iff_getElem.mp nd) j i (by omega) hi (by omega) (e.trans e2.symm)
section
variable {P : Program} {w : World} {K : PySem.W.Frag} {mg : Str → Option Value} {base : Heap} {f fW fD : Addr} {fd dW fdD : FuncData}
theorem scSg : FnScope ["value"] ["value"] (defScope sIsSigns) := ⟨rfl, rfl, rfl, by decide +kernel, rfl, by decide +kernel, by decide +kernel⟩
theorem ok_issigns (F : Fun K "is_signs" "is_signs" sIsSigns f fd) (Z : Free mg) (DW : Def K mg "is_word" sIsWord ["value"] fW dW) (t6 : Tok) (g6 : mg "MOST_WORD" = some (.int 600 t6)) (t4 : Tok) (g4 : mg "MOST_SIGNS" = some (.int 4 t4)) : FnOk P w K mg base CX0 2 f fd ["value"] spIsSigns := by
  have GW : FnOk P w K mg base CX0 1 fW dW ["value"] spIsWord := ok_isword DW.F Z t6 g6
  refine F.ok scSg (fun vs H Q E h => ?_) (fun cdv A outer s H vs Q E hr h => ?_)
  · obtain ⟨l, rfl, _⟩ := h
    rfl
  · obtain ⟨l, rfl, G, k⟩ := h
    refine ⟨_, pss_one (ps_ret (pe_and (pe_call GW hr rfl DW.g DW.kp DW.b .nil pass0 (pa_cons (pv 0) pa_nil)) (pe_and (pe_cmpR op_le (pe_callB call_len_str (by rfl) Z.len PySem.boot_len (pa_cons (pv 0) pa_nil)) (pe_glob (v := .int 4) (by rfl) g4 ⟨_, rfl⟩) (nomark _))
      (pe_one (pe_cmpR op_eq (WbSet.pe_lenSetT rfl (by rfl) Z.len (by rfl) Z.set (pv 0)) (pe_callB call_len_str (by rfl) Z.len PySem.boot_len (pa_cons (pv 0) pa_nil)) (nomark _)))))), ?_⟩
    have few := G.few
    refine ⟨_, rfl, l, rfl, G.w, fun H1 s1 => ⟨true, rfl, _, rfl, _, rfl, G.w.fits, _, _, rfl, rfl, _, rfl, ifd (by rw [S_len]; omega) ?_⟩⟩
    refine ⟨_, rfl, S l, rfl, by rw [S_len]; omega, _, rfl, _, rfl, G.w.fits, rfl, ?_⟩
    have e : (WbSet.differ (WbSet.signs (S l))).length = (S l).length := by
      have nd : (WbSet.signs (S l)).Nodup := by
        unfold WbSet.signs
        rw [S_cps]
        exact List.Pairwise.map _ (fun a b h q => h (by injection q with q; injection q with q; injection q)) G.nd
      rw [same_count (differ_nodup _) nd (fun x => differ_mem x _)]
      unfold WbSet.signs
      rw [List.length_map, S_cps, S_len]
    rw [e, decide_eq_true rfl]
    exact k H1 s1
theorem scSO : FnScope ["value", "signs"] ["value", "signs"] (defScope sSignOf) := ⟨rfl, rfl, rfl, by decide +kernel, rfl, by decide +kernel, by decide +kernel⟩
theorem ok_signof (F : Fun K "is_sign_of" "is_sign_of" sSignOf f fd) (Z : Free mg) : FnOk P w K mg base CX0 1 f fd ["value", "signs"] spSignOf := by
  refine F.ok scSO (fun vs H Q E h => ?_) (fun cdv A outer s H vs Q E hr h => ?_)
  · obtain ⟨c, sg, rfl, _⟩ := h
    rfl
  · obtain ⟨c, sg, rfl, m, k⟩ := h
    refine ⟨_, pss_one (ps_ret (pe_and (pe_callB call_isi (by rfl) Z.isi (by decide +kernel) (pa_cons (pv 0) (pa_cons (pe_bltn (v := .ty "str") (u := .type "str") (by rfl) Z.str (by decide +kernel) rfl) pa_nil)))
      (pe_and (pe_cmpR op_eq (pe_callB call_len_str (by rfl) Z.len PySem.boot_len (pa_cons (pv 0) pa_nil)) pe_int (nomark _)) (pe_one (pe_cmpR op_in_sign (pv 0) (pv 1) rfl))))), ?_⟩
    refine ⟨_, rfl, _, _, .type "str", .type "str", true, rfl, .ty "str", .base (.str _), kit_ty (by decide +kernel), true, rfl, ?_⟩
    refine ⟨_, rfl, _, rfl, (by rw [S_len, sizeLine_eq]; show 1 ≤ _; decide), rfl, _, rfl, ifd (by rw [S_len] <;> rfl) ?_⟩
    refine ⟨_, rfl, _, rfl, c, S sg, rfl, rfl, ?_⟩
    rw [S_cps, decide_eq_true m]
    exact k
theorem scPr : FnScope ["value", "signs"] ["value", "signs"] (defScope sIsPair) := ⟨rfl, rfl, rfl, by decide +kernel, rfl, by decide +kernel, by decide +kernel⟩
theorem ok_ispair (F : Fun K "_is_pair" "_is_pair" sIsPair f fd) (Z : Free mg) (DO : Def K mg "is_sign_of" sSignOf ["value", "signs"] fW dW) : FnOk P w K mg base CX0 2 f fd ["value", "signs"] spIsPair := by
  have GO : FnOk P w K mg base CX0 1 fW dW ["value", "signs"] spSignOf := ok_signof DO.F Z
  refine F.ok scPr (fun vs H Q E h => ?_) (fun cdv A outer s H vs Q E hr h => ?_)
  · obtain ⟨z, sg, rfl, _⟩ := h
    rfl
  · obtain ⟨z, sg, rfl, ⟨a, b, ha, hb, rfl⟩, k⟩ := h
    refine ⟨_, pss_cons (ps_if (PW.pt (pw_or (pt_not (pt_val (pe_callB call_isi (by rfl) Z.isi (by decide +kernel) (pa_cons (pv 0) (pa_cons (pe_bltn (v := .ty "str") (u := .type "str") (by rfl) Z.str (by decide +kernel) rfl) pa_nil)))))
        (pw_or1 (pt_cmpR op_ne (pe_callB call_len_str (by rfl) Z.len PySem.boot_len (pa_cons (pv 0) pa_nil)) pe_int (nomark _))))) (pss_one ps_never) pss_nil)
      (pss_one (ps_ret (pe_and (pe_call GO hr rfl DO.g DO.kp DO.b .nil pass0 (pa_cons (pe_ix ix_str (pv 0) pe_int (fun _ _ => rfl)) (pa_cons (pv 1) pa_nil)))
        (pe_one (pe_call GO hr rfl DO.g DO.kp DO.b .nil pass0 (pa_cons (pe_ix ix_str (pv 0) pe_int (fun _ _ => rfl)) (pa_cons (pv 1) pa_nil))))))), ?_⟩
    have fit : (S [a, b]).length ≤ sizeLine := by rw [S_len, sizeLine_eq]; show 2 ≤ _; decide
    refine ⟨_, rfl, _, _, .type "str", .type "str", true, rfl, .ty "str", .base (.str _), kit_ty (by decide +kernel), true, rfl, ?_⟩
    refine ⟨_, rfl, _, rfl, fit, rfl, _, rfl, iteNS (by rw [S_len] <;> rfl) ?_⟩
    refine ⟨_, rfl, _, _, a, rfl, rfl, fit, by rw [S_cps]; exact atI_nat (j := 0) rfl, _, rfl, a, sg, rfl, ha, true, rfl, ?_⟩
    exact ⟨_, rfl, _, _, b, rfl, rfl, fit, by rw [S_cps]; exact atI_nat (j := 1) rfl, _, rfl, b, sg, rfl, hb, k⟩
theorem scFw : FnScope ["values", "right", "index", "value"] ["values", "right"] (defScope sFirst) := ⟨rfl, rfl, rfl, by decide +kernel, rfl, by decide +kernel, by decide +kernel⟩
theorem ok_first (F : Fun K "first_wrong" "first_wrong" sFirst f fd) (mE : mg "enumerate" = none) : FnOk P w K mg base CX0 1 f fd ["values", "right"] spFirst := by
  refine F.ok scFw (fun vs H Q E h => ?_) (fun cdv A outer s H vs Q E hr h => ?_)
  · obtain ⟨t, L, ps, rfl, _⟩ := h
    rfl
  · obtain ⟨t, L, ps, rfl, ht, hL, nd, few, k⟩ := h
    refine ⟨_, pss_cons (ps_for PassesOwn.never rfl (pi_enumT (by rfl) mE (pa_cons (pv 0) pa_nil)) (pg_tup (by rfl) (pgs_cons (pg_name (i := 2) scFw.nd rfl (.inl rfl)) (pgs_cons (pg_name (i := 3) scFw.nd rfl (.inl rfl)) pgs_nil)))
        (pss_one (ps_if (PW.pt (pw_or (pt_not (pt_val (pe_ix ix_list (pv 1) (pv 2) (fun _ _ => rfl)))) (pw_or1 (pt_cmpR op_in_seq (pv 3) (pe_slice sl_tup (pv 0) po_none (po_some (pv 2))) (by rfl))))) (pss_one ps_never) pss_nil)))
      (pss_one (ps_ret pe_non)), ?_⟩
    refine ⟨_, rfl, t, _, rfl, SqT.of ht, for_it walk_enumT (fun i σ H' => ∃ v2 v3 : Option V, σ = [some (.ref t), some (.ref L), v2, v3] ∧ Same H H') ⟨none, none, rfl, Same.refl H⟩ (fun _ _ _ _ h => by obtain ⟨_, _, _, h⟩ := h; exact SqT.of (h _ _ ht)) ?_ ?_⟩
    · rintro i x σ H2 H3 hi ⟨v2, v3, rfl, s2⟩ ⟨T, a, b, rfl, hT, rfl, ea, eb⟩
      cases ea
      dsimp only at eb
      rw [List.getElem?_map] at eb
      obtain ⟨z, hz, rfl⟩ := Option.map_eq_some_iff.mp eb
      have hi' : i < ps.length := by rw [List.length_map] at hi; exact hi
      have sT := Same.put (o := .tup [.int (i : Nat), .str z]) s2 hT
      refine ⟨T, _, rfl, SqT.of upd_same, rfl, _, _, rfl, _, _, rfl, rfl, ?_⟩
      refine ⟨_, rfl, _, rfl, L, _, _, .bl true, rfl, rfl, SqL.of (sT _ _ hL), ?_, true, rfl, ?_⟩
      · refine atI_nat ?_
        rw [List.getElem?_map, List.getElem?_replicate, if_pos hi'] <;> rfl
      have ec : cutV (ps.map V.str) none (some ((i : Nat) : Int)) = (ps.take i).map V.str := by
        unfold cutV
        rw [HT.sIx_none, HT.sIx_nat, List.length_map, Nat.min_eq_left (Nat.le_of_lt hi')]
        show (ps.map V.str).take i = _
        rw [List.map_take]
      refine ⟨_, rfl, _, rfl, _, rfl, _, rfl, t, _, rfl, SqT.of (sT _ _ ht), ?_, fun u hu => ?_⟩
      · rintro ⟨_, q⟩
        rw [HT.sIx_nat, List.length_map] at q
        omega
      · rw [ec]
        refine ⟨u, _, rfl, .inr (SqT.of upd_same), rfl, flat_strs _, _, rfl, ?_⟩
        have no : inV (.str z) ((ps.take i).map V.str) = false := by
          rw [inV_strs]
          exact decide_eq_false (take_nd nd hz)
        show if inV (.str z) ((ps.take i).map V.str) = true then _ else _
        rw [no, if_neg Bool.false_ne_true]
        exact ⟨_, _, rfl, Same.put sT hu⟩
    · rintro σ H2 ⟨v2, v3, rfl, s2⟩
      exact k H2 s2
end
end Wb
namespace Wb
open PySem L2 WbMin WbO WbT WbS
section
variable {P : Program} {w : World} {K : PySem.W.Frag} {mg : Str → Option Value} {base : Heap} {f fP fF fS : Addr} {fd dP dF dS : FuncData}
theorem scCp : FnScope ["pairs", "signs", "wrong", "pair"] ["pairs", "signs"] (defScope sChPairs) := ⟨rfl, rfl, rfl, by decide +kernel, rfl, by decide +kernel, by decide +kernel⟩
theorem ok_chpairs (F : Fun K "_check_pairs" "_check_pairs" sChPairs f fd) (Z : Free mg) (mT : mg "tuple" = none) (mE : mg "enumerate" = none) (DP : Def K mg "_is_pair" sIsPair ["value", "signs"] fP dP) (DS : Def K mg "is_sign_of" sSignOf ["value", "signs"] fS dS) (DF : Def K mg "first_wrong" sFirst ["values", "right"] fF dF) : FnOk P w K mg base CX0 3 f fd ["pairs", "signs"] spChPairs := by
  have GP : FnOk P w K mg base CX0 2 fP dP ["value", "signs"] spIsPair := ok_ispair DP.F Z DS
  have GF : FnOk P w K mg base CX0 1 fF dF ["values", "right"] spFirst := ok_first DF.F mE
  refine F.ok scCp (fun vs H Q E h => ?_) (fun cdv A outer s H vs Q E hr h => ?_)
  · obtain ⟨t, sg, ps, rfl, _⟩ := h
    rfl
  · obtain ⟨t, sg, ps, rfl, ht, G, k⟩ := h
    have hr1 : Room 1 _ := hr.mono (by decide)
    refine ⟨_, pss_cons (ps_if (pt_not (pt_val (pe_callB call_isi (by rfl) Z.isi (by decide +kernel) (pa_cons (pv 0) (pa_cons (pe_bltn (v := .ty "tuple") (u := .type "tuple") (by rfl) mT (by decide +kernel) rfl) pa_nil))))) (pss_one ps_never) pss_nil)
      (pss_cons (ps_set (i := 2) scCp.nd rfl (.inl rfl) (pe_call GF hr1 rfl DF.g DF.kp DF.b .nil pass0 (pa_cons (pv 0) (pa_cons
          (pe_lc (own := [("pair", 3)]) (g := gName 3) (tt := tYes) rfl scCp.nd (pi_tup (pv 0)) (blkOk_by (N := ["pairs", "signs", "wrong", "pair"]) (sc := defScope sChPairs) (by decide +kernel)) (fun _ _ _ _ _ => pg_name (i := 3) scCp.nd rfl (.inl rfl)) (fun _ _ _ _ _ => pts_nil)
            (fun _ _ _ _ _ => pe_call GP hr rfl DP.g DP.kp DP.b .nil pass0 (pa_cons (pv 3) (pa_cons (pv 1) pa_nil)))) pa_nil))))
      (pss_one (ps_if (pt_cmpR op_notN (pv 2) pe_non (nomark _)) (pss_one ps_never) pss_nil))), ?_⟩
    have few := G.few
    refine ⟨_, rfl, _, _, .type "tuple", .type "tuple", true, rfl, .ty "tuple", .base (.tup ht), kit_ty (by decide +kernel), true, rfl, ?_⟩
    refine ⟨_, rfl, _, rfl, t, rfl, ⟨_, SqT.of ht⟩, fun D hD => lc_it (walk_tup (xs := ps.map V.str)) (fun i H3 => H3 D = some (.lst ((List.replicate i true).map V.bl)) ∧ Same H H3) ⟨upd_same, Same.put (Same.refl H) hD⟩ (fun _ _ _ h => SqT.of (h.2 _ _ ht)) ?_ ?_⟩
    · rintro i x H3 H3' hi ⟨h1, h2⟩ ⟨rfl, hx⟩
      rw [List.getElem?_map] at hx
      obtain ⟨z, hz, rfl⟩ := Option.map_eq_some_iff.mp hx
      rw [List.length_map] at hi
      refine ⟨rfl, _, rfl, _, rfl, z, sg, rfl, G.of z (List.mem_of_getElem? hz), _, h1, ?_, ?_, Same.new' h2 hD⟩
      · rw [List.length_map, List.length_replicate, sizeLine_eq]
        omega
      · rw [upd_same, List.replicate_succ', List.map_append] <;> rfl
    · rintro H3 ⟨h1, h2⟩
      rw [List.length_map] at h1
      refine ⟨t, D, ps, rfl, h2 _ _ ht, h1, G.nd, few, fun H4 s4 => ?_⟩
      refine ⟨_, rfl, rfl, _, rfl, ?_⟩
      show if (!decide (V.non = V.non)) = true then _ else _
      rw [decide_eq_true rfl]
      exact iteF (k H4 (h2.trans s4))
abbrev NH : List Str := ["signs", "pairs", "left", "_", "sign", "after"]
def scOut : Scope := { kind := .function, names := [(".0", .local), ("sign", .cell), ("any", .globalImplicit), ("left", .cell), ("pairs", .cell)], isGenerator := false, isCoroutine := false }
theorem scHs : FnScope NH ["signs", "pairs"] (defScope sHas) := ⟨rfl, rfl, rfl, by decide +kernel, rfl, by decide +kernel, by decide +kernel⟩
set_option maxHeartbeats 0 in
theorem ok_has (F : Fun K "_has_ring" "_has_ring" sHas f fd) (Z : Free mg) (mL : mg "list" = none) (mA : mg "any" = none) : FnOk P w K mg base CX0 1 f fd ["signs", "pairs"] spHas := by
  refine F.ok scHs (fun vs H Q E h => ?_) (fun cdv A outer s H vs Q E hr h => ?_)
  · obtain ⟨t, sg, ps, rfl, _⟩ := h
    rfl
  · obtain ⟨t, sg, ps, rfl, ht, few, k⟩ := h
    refine ⟨_, pss_cons (ps_set (i := 2) scHs.nd rfl (.inr rfl) (pe_callTy (call_listS rfl) (by rfl) mL (by decide +kernel) (pa_cons (pv 0) pa_nil)))
      (pss_cons (ps_for PassesOwn.never rfl (pi_str (pv 0)) (pg_name (i := 3) scHs.nd rfl (.inl rfl))
        (pss_one (ps_set (i := 2) scHs.nd rfl (.inr rfl) (pe_lc (own := [("sign", 4)]) (g := gName 4) rfl scHs.nd (pi_list (pv 2)) (blkOk_by (N := NH) (sc := defScope sHas) (by decide +kernel)) (fun _ _ _ _ _ => pg_name (i := 4) scHs.nd rfl (.inr rfl))
          (fun _ _ _ _ _ => pts_one (pt_val (pe_callB (show CallR _ _ (rAny K) from cr_any rfl) (by rfl) mA (by decide +kernel) (pa_cons
            (by
              refine pe_lc (wi := iList K (tVar 2)) (own := [("after", 5)]) (g := gName 5) (tt := tYes) rfl scHs.nd ?hi (blkOk_by (N := NH) (sc := scOut) (by decide +kernel)) (fun _ _ _ _ _ => pg_name (i := 5) scHs.nd rfl (.inl rfl)) (fun _ _ _ _ _ => pts_nil) (fun _ _ _ _ _ => pe_cmpR (show OpR _ _ (rIn K false) from op_in_seq) (pe_op op_add_str (pv 4) (pv 5)) (pv 1) (by rfl))
              case hi => exact pi_list (pv 2)) pa_nil))))
          (fun _ _ _ _ _ => pv 4)))))
      (pss_one (ps_ret (pe_cmpR op_gt (pe_callB call_len_seq (by rfl) Z.len PySem.boot_len (pa_cons (pv 2) pa_nil)) pe_int (nomark _))))), ?_⟩
    have fits : (S sg).length ≤ sizeLine := by rw [S_len, sizeLine_eq]; omega
    refine ⟨_, rfl, _, rfl, fits, fun L0 hL0 => ?_⟩
    refine ⟨_, rfl, _, rfl, for_it walk_str (fun i σ H' => ∃ (L : Addr) (l : List Nat) (v3 v4 v5 : Option V), σ = [some (.str (S sg)), some (.ref t), some (.ref L), v3, v4, v5] ∧ H' L = some (.lst (l.map vOne)) ∧ l.length ≤ 4 ∧ Same H H')
      ⟨L0, sg, none, none, none, rfl, ?_, few, Same.put (Same.refl H) hL0⟩ (fun _ _ _ _ _ => trivial) ?_ ?_⟩
    · rw [upd_same, S_cps] <;> rfl
    · rintro i x σ H2 H2' hi ⟨L, l, v3, v4, v5, rfl, h1, l4, s2⟩ ⟨rfl, c0, hc0, rfl⟩
      have one_of : ∀ {y : V} {j : Nat}, (l.map vOne)[j]? = some y → ∃ c, y = vOne c := fun h => by
        obtain ⟨c, _, e⟩ := List.mem_map.mp (List.mem_of_getElem? h)
        exact ⟨c, e.symm⟩
      refine ⟨_, rfl, L, rfl, ⟨_, SqL.of h1⟩, fun D hD => lc_it (walk_list (xs := l.map vOne)) (fun j H3 => ∃ k : List Nat, H3 D = some (.lst (k.map vOne)) ∧ k.length ≤ j ∧ Same H2' H3) ⟨[], upd_same, Nat.le_refl _, Same.put (Same.refl _) hD⟩ (fun _ _ _ h => by obtain ⟨_, _, _, h⟩ := h; exact SqL.of (h _ _ h1)) ?_ ?_⟩
      · rintro j y H3 H3' hj ⟨k', g1, g2, g3⟩ ⟨rfl, hy⟩
        obtain ⟨c, rfl⟩ := one_of hy
        rw [List.length_map] at hj
        refine ⟨rfl, _, rfl, L, rfl, ⟨_, SqL.of (g3 _ _ h1)⟩, fun D2 hD2 => lc_it (walk_list (xs := l.map vOne)) (fun m H4 => ∃ bs : List Bool, H4 D2 = some (.lst (bs.map V.bl)) ∧ bs.length = m ∧ Same H3' H4) ⟨[], upd_same, rfl, Same.put (Same.refl _) hD2⟩ (fun _ _ _ h => by obtain ⟨_, _, _, h⟩ := h; exact SqL.of (h _ _ (g3 _ _ h1))) ?_ ?_⟩
        · rintro m z H4 H4' hm ⟨bs, e1, e2, e3⟩ ⟨rfl, hz⟩
          obtain ⟨d, rfl⟩ := one_of hz
          rw [List.length_map] at hm
          refine ⟨rfl, _, rfl, _, rfl, _, _, rfl, rfl, ?_, _, rfl, t, _, rfl, .inr (SqT.of (e3 _ _ (g3 _ _ (s2 _ _ ht)))), rfl, flat_strs ps, _, e1, ?_, bs ++ [inV (.str (one c ++ one d)) (ps.map V.str)], ?_, ?_, Same.new' e3 hD2⟩
          · show 1 + 1 ≤ sizeLine
            decide
          · rw [List.length_map, sizeLine_eq]
            omega
          · rw [upd_same, List.map_append] <;> rfl
          · rw [List.length_append, e2] <;> rfl
        · rintro H4 ⟨bs, e1, e2, e3⟩
          refine ⟨D2, bs, rfl, SqL.of e1, _, rfl, ite2 (fun q => ?_) (fun q => ?_)⟩
          · refine ⟨_, rfl, _, e3 _ _ g1, ?_, k' ++ [c], ?_, ?_, Same.new' (g3.trans e3) hD⟩
            · rw [List.length_map, sizeLine_eq]
              omega
            · rw [upd_same, List.map_append] <;> rfl
            · rw [List.length_append]
              show k'.length + 1 ≤ j + 1
              omega
          · exact ⟨k', e3 _ _ g1, by omega, g3.trans e3⟩
      · rintro H3 ⟨k', g1, g2, g3⟩
        rw [List.length_map] at g2
        exact ⟨D, k', _, _, _, rfl, g1, by omega, s2.trans g3⟩
    · rintro σ H2 ⟨L, l, v3, v4, v5, rfl, h1, l4, s2⟩
      exact ⟨_, rfl, L, _, rfl, .inl (SqL.of h1), _, _, rfl, rfl, k _ H2 s2⟩
end
end Wb
/-! a kind: how it is made, and which rings are of it -/
namespace Wb
open PySem L2 WbMin WbO WbT WbS
abbrev sKInit : Stmt := inClass (top 35) 0
abbrev sKIn : Stmt := inClass (top 35) 7
def allP (sg : List Nat) : List Str := sg.flatMap fun a => sg.map fun b => S [a, b]
theorem allP_mem {sg : List Nat} {z : Str} : z ∈ allP sg ↔ PairOf sg z := by
  unfold allP PairOf
  rw [List.mem_flatMap]
  constructor
  · rintro ⟨a, ha, h⟩
    obtain ⟨b, hb, rfl⟩ := List.mem_map.mp h
    exact ⟨a, b, ha, hb, rfl⟩
  · rintro ⟨a, b, ha, hb, rfl⟩
    exact ⟨a, ha, List.mem_map.mpr ⟨b, hb, rfl⟩⟩
theorem it_go {J : It} {n : Nat} {G : Hp → Prop} {Y : Nat → Hp → V → Hp → Prop} (w : Walk J n G Y) (Pv : Nat → Hp → Prop) {H0 : Hp} {Qd : Hp → Prop} {body : V → Hp → (Hp → Prop) → Prop} (h0 : Pv 0 H0) (hl : ∀ i H, i ≤ n → Pv i H → G H)
    (hs : ∀ i x H H', i < n → Pv i H → Y i H x H' → body x H' (Pv (i + 1))) (hd : ∀ H, Pv n H → Qd H) :
    ∃ W : Nat → Nat → Hp → Prop, (∃ m, W 0 m H0) ∧ ∀ i m H, W i m H → (J.stop i H ∧ Qd H) ∨ (J.go i H ∧ ∃ Nx : Hp → Prop, (∀ H', Nx H' → ∃ m', m' < m ∧ W (i + 1) m' H') ∧ ∀ x H', J.yld i H x H' → body x H' Nx) := by
  refine ⟨fun i m H => m = n - i ∧ i ≤ n ∧ Pv i H, ⟨n, by simp, Nat.zero_le _, h0⟩, ?_⟩
  rintro i m H ⟨rfl, hi, p⟩
  have q := hl i H hi p
  by_cases hlt : i < n
  · exact .inr ⟨w.goes i H hlt q, Pv (i + 1), fun H' p' => ⟨n - (i + 1), by omega, rfl, hlt, p'⟩, fun x H' y => hs i x H H' hlt p (w.yields i H x H' hlt q y)⟩
  · have e : i = n := by omega
    subst e
    exact .inl ⟨w.stops H q, hd H p⟩
/-- are all neighbours pairs, going round -/
def goesB (l : List Nat) (ps : List Str) : Bool := (List.range l.length).all fun i => decide (S [l.getD ((i + l.length - 1) % l.length) 0, l.getD i 0] ∈ ps)
theorem goes_iff {l : List Nat} {ps : List Str} : goesB l ps = true ↔ ∀ i, i < l.length → S [l.getD ((i + l.length - 1) % l.length) 0, l.getD i 0] ∈ ps := by
  unfold goesB
  rw [List.all_eq_true]
  exact ⟨fun h i hi => of_decide_eq_true (h i (List.mem_range.mpr hi)), fun h i hi => decide_eq_true (h i (List.mem_range.mp hi))⟩
theorem goes_same {l : List Nat} {ps qs : List Str} (h : ∀ z, z ∈ ps ↔ z ∈ qs) : goesB l ps = goesB l qs := by
  rw [Bool.eq_iff_iff, goes_iff, goes_iff]
  exact ⟨fun a i hi => (h _).mp (a i hi), fun a i hi => (h _).mpr (a i hi)⟩
theorem rot_getD {l : List Nat} {j i : Nat} (hj : j ≤ l.length) (hi : i < l.length) : (rot l j).getD i 0 = l.getD ((j + i) % l.length) 0 := by
  rw [List.getD_eq_getElem?_getD, rot_get hj hi, ← List.getD_eq_getElem?_getD]
theorem goes_rot1 {l : List Nat} {ps : List Str} {j : Nat} (h0 : 0 < l.length) (hj : j ≤ l.length) (h : goesB l ps = true) : goesB (rot l j) ps = true := by
  rw [goes_iff] at h ⊢
  intro i hi
  rw [rot_len] at hi ⊢
  have q := h ((j + i) % l.length) (Nat.mod_lt _ h0)
  rw [rot_getD hj hi, rot_getD hj (Nat.mod_lt _ h0)]
  have e : (j + (i + l.length - 1) % l.length) % l.length = ((j + i) % l.length + l.length - 1) % l.length := by
    rw [Nat.add_mod_mod, show (j + i) % l.length + l.length - 1 = (j + i) % l.length + (l.length - 1) by omega, Nat.mod_add_mod, show j + (i + l.length - 1) = j + i + (l.length - 1) by omega]
  rw [e]
  exact q
theorem goes_rot {l : List Nat} {ps : List Str} {j : Nat} (h0 : 0 < l.length) (hj : j ≤ l.length) : goesB (rot l j) ps = goesB l ps := by
  rw [Bool.eq_iff_iff]
  refine ⟨fun h => ?_, goes_rot1 h0 hj⟩
  have q := goes_rot1 (l := rot l j) (j := l.length - j) (by rw [rot_len]; exact h0) (by rw [rot_len]; omega) h
  have b : rot (rot l j) (l.length - j) = l := by
    rw [rot_rot hj (by omega) h0, show j + (l.length - j) = l.length by omega, Nat.mod_self, rot_zero]
  rw [b] at q
  exact q
/-! ### the object -/
def kf (z : Str) (t : Addr) (b : Bool) : List (Str × V) := putF "_ringed" (.bl b) (putF "_pairs" (.ref t) (putF "_signs" (.str z) []))
theorem k12 : ¬ (("_signs" : Str) = "_pairs") := by decide +kernel
theorem k13 : ¬ (("_signs" : Str) = "_ringed") := by decide +kernel
theorem k23 : ¬ (("_pairs" : Str) = "_ringed") := by decide +kernel
theorem kf_signs (z : Str) (t : Addr) (b : Bool) : (kf z t b).lookup ("_signs" : Str) = some (.str z) := by
  unfold kf
  rw [lookup_putF, if_neg k13, lookup_putF, if_neg k12, lookup_putF, if_pos rfl]
theorem kf_pairs (z : Str) (t : Addr) (b : Bool) : (kf z t b).lookup ("_pairs" : Str) = some (.ref t) := by
  unfold kf
  rw [lookup_putF, if_neg k23, lookup_putF, if_pos rfl]
/-- the kind with these signs and pairs stands at r -/
def KindAt (C : Addr) (H : Hp) (r : Addr) (sg : List Nat) (ps : List Str) : Prop := ∃ dx t b, H r = some (.ins C dx (kf (S sg) t b)) ∧ H t = some (.tup (ps.map V.str))
theorem KindAt.same {C : Addr} {H H' : Hp} {r : Addr} {sg : List Nat} {ps : List Str} (h : KindAt C H r sg ps) (s : Same H H') : KindAt C H' r sg ps := by
  obtain ⟨dx, t, b, e1, e2⟩ := h
  exact ⟨dx, t, b, s _ _ e1, s _ _ e2⟩
theorem KindAt.but {C p : Addr} {H H' : Hp} {r : Addr} {sg : List Nat} {ps : List Str} (h : KindAt C H r sg ps) (s : But p H H') (n : r ≠ p) (hp : PoolAt H p) : KindAt C H' r sg ps := by
  obtain ⟨dx, t, b, e1, e2⟩ := h
  obtain ⟨x, y, z, e3, _⟩ := hp
  exact ⟨dx, t, b, s _ _ n e1, s _ _ (ne_of e2 e3 (by intro q; cases q)) e2⟩
structure KTxt (K : PySem.W.Frag) (mg : Str → Option Value) (C : Addr) : Prop where
  cl : Cls K C
  nS : NoAttr K C "_signs"
  nP : NoAttr K C "_pairs"
  nR : NoAttr K C "_ringed"
  gC : mg "Kind" = some (.ref C)
  hcl : PySem.W.findIn K (.ref C) "__class__" = some (some (.builtin "object.__class__"))
  hob : PySem.W.mroIn K C (.type "object") = some true
def spAllP : Sp := fun vs H Q _ => ∃ (sg : List Nat), vs = [.str (S sg)] ∧ sg.length ≤ 4 ∧ ∀ (t : Addr) H', H t = none → Same H H' → H' t = some (.tup ((allP sg).map V.str)) → Q (.ref t) H'
def spGoes : Sp := fun vs H Q _ => ∃ (l : List Nat) (t : Addr) (ps : List Str), vs = [.str (S l), .ref t] ∧ IsW l ∧ H t = some (.tup (ps.map V.str)) ∧ ∀ H', Same H H' → Q (.bl (goesB l ps)) H'
def spKInit (C : Addr) : Sp := fun vs H Q _ => ∃ (H0 : Hp) (r dx : Addr) (sg0 : List Nat) (x : V) (ps0 : List Str), vs = [.ref r, .str (S sg0), x] ∧ Sgs sg0 ∧ ((x = .non ∧ ps0 = allP sg0) ∨ ∃ t, x = .ref t ∧ H t = some (.tup (ps0.map V.str)) ∧ Prs sg0 ps0) ∧ Same H0 H ∧ H0 r = none ∧ H r = some (.ins C dx []) ∧
  ∀ (H' : Hp) (sg : List Nat) (ps : List Str), Same H0 H' → sg.Perm sg0 → PyProof.Rows.sortedS (sg.map sOne) = true → ps.Perm ps0 → PyProof.Rows.sortedS ps = true → KindAt C H' r sg ps → Q .non H'
section
variable {P : Program} {w : World} {K : PySem.W.Frag} {mg : Str → Option Value} {base : Heap} {f : Addr} {fd : FuncData}
theorem scAP : FnScope ["signs", "sign", "after"] ["signs"] (defScope sAllP) := ⟨rfl, rfl, rfl, by decide +kernel, rfl, by decide +kernel, by decide +kernel⟩
set_option maxHeartbeats 0 in
theorem ok_allp (F : Fun K "_all_pairs" "_all_pairs" sAllP f fd) (Z : Free mg) (mT : mg "tuple" = none) : FnOk P w K mg base CX0 1 f fd ["signs"] spAllP := by
  refine F.ok scAP (fun vs H Q E h => ?_) (fun cdv A outer s H vs Q E hr h => ?_)
  · obtain ⟨sg, rfl, _⟩ := h
    rfl
  · obtain ⟨sg, rfl, few, k⟩ := h
    refine ⟨_, pss_one (ps_ret (pe_callTy call_tuple_of (by rfl) mT (by decide +kernel) (pa_cons
      (pe_lc2 (own := [("sign", 1), ("after", 2)]) (vs1 := [2]) (g := gName 1) (g1 := gName 2) (tt := tYes) (tt1 := tYes) rfl scAP.nd (pi_str (pv 0)) (blkOk_by (N := ["signs", "sign", "after"]) (sc := defScope sAllP) (by decide +kernel)) (by decide) (fun _ _ _ _ _ => pg_name (i := 1) scAP.nd rfl (.inl rfl)) (fun _ _ _ _ _ => pts_nil)
        (fun _ _ _ _ _ => pi_str (pv 0)) (fun _ _ _ _ _ => pg_name (i := 2) scAP.nd rfl (.inl rfl)) (fun _ _ _ _ _ => pts_nil) (fun _ _ _ _ _ => pe_op op_add_str (pv 1) (pv 2))) pa_nil))), ?_⟩
    refine ⟨_, rfl, _, rfl, fun D hD => it_go walk_str (fun i H3 => H3 D = some (.lst (((sg.take i).flatMap fun a => sg.map fun b => S [a, b]).map V.str)) ∧ Same H H3) ⟨upd_same, Same.put (Same.refl H) hD⟩ (fun _ _ _ _ => trivial) ?_ ?_⟩
    · rintro i x H3 H3' hi ⟨h1, h2⟩ ⟨rfl, c, hc, rfl⟩
      have hc' : sg[i]? = some c := by simpa [S] using hc
      rw [S_size] at hi
      have len : ((sg.take i).flatMap fun a => sg.map fun b => S [a, b]).length ≤ 16 := by
        have e : ((sg.take i).flatMap fun a => sg.map fun b => S [a, b]).length = (sg.take i).length * sg.length := by
          rw [List.length_flatMap, show ((sg.take i).map fun a => (sg.map fun b => S [a, b]).length) = List.replicate (sg.take i).length sg.length from List.map_eq_replicate_iff.mpr fun _ _ => List.length_map ..  , List.sum_replicate_nat]
        rw [e]
        exact Nat.le_trans (Nat.mul_le_mul (by rw [List.length_take]; omega : (sg.take i).length ≤ 4) few) (by decide)
      refine ⟨rfl, _, rfl, _, rfl, it_go walk_str (fun j H4 => H4 D = some (.lst ((((sg.take i).flatMap fun a => sg.map fun b => S [a, b]) ++ (sg.take j).map fun b => S [c, b]).map V.str)) ∧ Same H H4) ⟨by rw [h1]; simp, h2⟩ (fun _ _ _ _ => trivial) ?_ ?_⟩
      · rintro j y H4 H4' hj ⟨e1, e2⟩ ⟨rfl, d, hd, rfl⟩
        have hd' : sg[j]? = some d := by simpa [S] using hd
        refine ⟨rfl, _, rfl, _, rfl, _, _, rfl, rfl, (by show 1 + 1 ≤ sizeLine; decide), _, e1, ?_, ?_, Same.new' e2 hD⟩
        · rw [List.length_map, List.length_append, List.length_map, sizeLine_eq]
          have := List.length_take_le' j sg
          omega
        · rw [upd_same, take_more hd']
          refine congrArg (fun q => some (HO.lst q)) ?_
          simp only [List.map_append, List.map_cons, List.map_nil, List.append_assoc]
          rfl
      · rintro H4 ⟨e1, e2⟩
        rw [S_size, List.take_length] at e1
        refine ⟨?_, e2⟩
        rw [e1, take_more hc', List.flatMap_append]
        simp
    · rintro H3 ⟨h1, h2⟩
      rw [S_size, List.take_length] at h1
      exact ⟨D, _, rfl, .inl ⟨SqL.of h1, fun l hl => k l _ (by cases e : H l with | none => rfl | some o => rw [h2 _ _ e] at hl; cases hl) (Same.put h2 hl) upd_same⟩⟩
theorem scGo : FnScope ["text", "pairs", "at"] ["text", "pairs"] (defScope sGoes) := ⟨rfl, rfl, rfl, by decide +kernel, rfl, by decide +kernel, by decide +kernel⟩
theorem at_before {l : List Nat} {i : Nat} (hi : i < l.length) : atI l ((0 + (i : Int)) - 1) = some (l.getD ((i + l.length - 1) % l.length) 0) := by
  cases i with
  | zero =>
    have e : (0 + l.length - 1) % l.length = l.length - 1 := by
      rw [Nat.zero_add, Nat.mod_eq_of_lt (by omega)]
    rw [e]
    unfold atI ixN
    rw [if_neg (by omega), if_pos (by omega)]
    have e2 : ((0 + ((0 : Nat) : Int) - 1 + (l.length : Int)).toNat) = l.length - 1 := by omega
    rw [e2]
    exact getD_at (by omega)
  | succ i =>
    have e : (i + 1 + l.length - 1) % l.length = i := by
      rw [show i + 1 + l.length - 1 = i + l.length by omega, Nat.add_mod_right, Nat.mod_eq_of_lt (by omega)]
    rw [e, show (0 + ((i + 1 : Nat) : Int)) - 1 = (i : Int) by omega]
    exact atI_nat (getD_at (by omega))
set_option maxHeartbeats 0 in
theorem ok_goes (F : Fun K "_goes_round" "_goes_round" sGoes f fd) (Z : Free mg) : FnOk P w K mg base CX0 1 f fd ["text", "pairs"] spGoes := by
  refine F.ok scGo (fun vs H Q E h => ?_) (fun cdv A outer s H vs Q E hr h => ?_)
  · obtain ⟨l, t, ps, rfl, _⟩ := h
    rfl
  · obtain ⟨l, t, ps, rfl, W, ht, k⟩ := h
    refine ⟨_, pss_one (ps_ret (pe_callB (cr_all rfl) (by rfl) Z.all (by decide +kernel) (pa_cons
      (pe_lc (own := [("at", 2)]) (g := gName 2) (tt := tYes) rfl scGo.nd (pi_range1 rfl Z.range (pa_cons (pe_callB call_len_str (by rfl) Z.len PySem.boot_len (pa_cons (pv 0) pa_nil)) pa_nil)) (blkOk_by (N := ["text", "pairs", "at"]) (sc := defScope sGoes) (by decide +kernel)) (fun _ _ _ _ _ => pg_name (i := 2) scGo.nd rfl (.inl rfl)) (fun _ _ _ _ _ => pts_nil)
        (fun _ _ _ _ _ => pe_cmpR (show OpR _ _ (rIn K false) from op_in_seq) (pe_op op_add_str (pe_ix ix_str (pv 0) (pe_op op_sub (pv 2) pe_int) (fun _ _ => rfl)) (pe_ix ix_str (pv 0) (pv 2) (fun _ _ => rfl))) (pv 1) (by rfl))) pa_nil))), ?_⟩
    have l0 := W.pos
    have l1 := W.few
    refine ⟨_, rfl, _, rfl, W.fits, _, rfl, by rw [S_len]; omega, by rw [S_len]; omega, fun D hD => lc_it walk_range (fun i H3 => H3 D = some (.lst (((List.range i).map fun i => decide (S [l.getD ((i + l.length - 1) % l.length) 0, l.getD i 0] ∈ ps)).map V.bl)) ∧ Same H H3) ⟨upd_same, Same.put (Same.refl H) hD⟩ (fun _ _ _ _ => trivial) ?_ ?_⟩
    · rintro i x H3 H3' hi ⟨h1, h2⟩ ⟨rfl, rfl⟩
      rw [S_len] at hi
      have hi' : i < l.length := by omega
      refine ⟨rfl, _, rfl, _, rfl, _, _, rfl, rfl, _, _, _, rfl, rfl, W.fits, by rw [S_cps]; exact at_before hi', _, rfl, _, rfl, _, _, l.getD i 0, rfl, rfl, W.fits, ?_, _, _, rfl, rfl, (by show 1 + 1 ≤ sizeLine; decide), _, rfl, t, _, rfl, .inr (SqT.of (h2 _ _ ht)), rfl, flat_strs ps, _, h1, ?_, ?_, Same.new' h2 hD⟩
      · rw [S_cps, Int.zero_add]
        exact atI_nat (getD_at hi')
      · rw [List.length_map, List.length_map, List.length_range, sizeLine_eq]
        omega
      · have e : (if false = true then !inV (.str ((⟨#[l.getD ((i + l.length - 1) % l.length) 0]⟩ : Str) ++ ⟨#[l.getD i 0]⟩)) (ps.map V.str) else inV (.str ((⟨#[l.getD ((i + l.length - 1) % l.length) 0]⟩ : Str) ++ ⟨#[l.getD i 0]⟩)) (ps.map V.str)) = decide (S [l.getD ((i + l.length - 1) % l.length) 0, l.getD i 0] ∈ ps) := by
          rw [if_neg Bool.false_ne_true, inV_strs] <;> rfl
        rw [upd_same, e, List.range_succ, List.map_append, List.map_append] <;> rfl
    · rintro H3 ⟨h1, h2⟩
      rw [S_len, Int.toNat_natCast] at h1
      refine ⟨D, _, rfl, SqL.of h1, ?_⟩
      have q := k H3 h2
      unfold goesB at q
      rw [List.all_map]
      exact q
end
end Wb
/-! sorted texts: one order alone -/
namespace Wb
open PySem L2 WbMin
def leS (a b : Str) : Prop := ¬ b.cps.toList < a.cps.toList
theorem leS_trans {a b c : Str} (h1 : leS a b) (h2 : leS b c) : leS a c := not_lt_trans h1 h2
theorem lt_of_ltCps {a b : List Nat} : PySem.Spec.ltCps a b = false ↔ ¬ a < b := by
  rw [PyProof.Rows.ltCps_eq, decide_eq_false_iff_not]
theorem rising_pw : ∀ (l : List Str) (p : Str), PyProof.Rows.risingS p l = true → (p :: l).Pairwise leS
  | [], p, _ => List.pairwise_singleton _ _
  | x :: r, p, h => by
    have h' : (!PySem.Spec.ltCps x.cps.toList p.cps.toList && PyProof.Rows.risingS x r) = true := h
    rw [Bool.and_eq_true, Bool.not_eq_true'] at h'
    have px : leS p x := lt_of_ltCps.mp h'.1
    have ih := rising_pw r x h'.2
    refine List.pairwise_cons.mpr ⟨fun y hy => ?_, ih⟩
    rcases List.mem_cons.mp hy with rfl | hy
    · exact px
    · exact leS_trans px ((List.pairwise_cons.mp ih).1 y hy)
theorem sorted_pw : ∀ {l : List Str}, PyProof.Rows.sortedS l = true → l.Pairwise leS
  | [], _ => .nil
  | x :: r, h => rising_pw r x h
theorem pw_sorted {l : List Str} (h : l.Pairwise leS) : PyProof.Rows.sortedS l = true :=
  PyProof.Rows.sortedS_of_pairwise l (h.imp fun {a b} q => lt_of_ltCps.mpr q)
theorem leS_anti {a b : Str} (h1 : leS a b) (h2 : leS b a) : a = b := by
  have e : a.cps.toList = b.cps.toList := List.le_antisymm h1 h2
  rw [← S_of a, ← S_of b, e]
theorem sort_unique : ∀ {ys zs : List Str}, ys.Pairwise leS → zs.Pairwise leS → ys.Perm zs → ys = zs
  | [], zs, _, _, p => (List.Perm.nil_eq p)
  | y :: r, [], _, _, p => by cases List.Perm.eq_nil p
  | y :: r, z :: t, h1, h2, p => by
    have my : y ∈ z :: t := p.mem_iff.mp List.mem_cons_self
    have mz : z ∈ y :: r := p.mem_iff.mpr List.mem_cons_self
    have e : y = z := by
      rcases List.mem_cons.mp my with e | my
      · exact e
      · rcases List.mem_cons.mp mz with e | mz
        · exact e.symm
        · exact leS_anti ((List.pairwise_cons.mp h1).1 z mz) ((List.pairwise_cons.mp h2).1 y my)
    subst e
    rw [sort_unique (List.pairwise_cons.mp h1).2 (List.pairwise_cons.mp h2).2 (List.Perm.cons_inv p)]
/-- two sorted orders of the same texts -/
theorem sorted_same {ys zs : List Str} (h1 : PyProof.Rows.sortedS ys = true) (h2 : PyProof.Rows.sortedS zs = true) (p : ys.Perm zs) : ys = zs := sort_unique (sorted_pw h1) (sorted_pw h2) p
/-- are two lists of texts equal, as data -/
theorem eqvAll_strs : ∀ xs ys : List Str, PyData.eqvAll (xs.map PyData.str) (ys.map PyData.str) = decide (xs = ys)
  | [], [] => rfl
  | [], _ :: _ => rfl
  | _ :: _, [] => rfl
  | x :: xs, y :: ys => by
    show (x == y && PyData.eqvAll (xs.map PyData.str) (ys.map PyData.str)) = _
    rw [eqvAll_strs xs ys, Bool.eq_iff_iff, Bool.and_eq_true, beq_iff_eq, decide_eq_true_iff, decide_eq_true_iff, List.cons.injEq]
end Wb
/-! a class called through a name of the def; a classmethod by name -/
namespace WbO
open PySem PySem.Spec PyProof.Rows L2
section
variable {X : Cx} {CX : CXT} {k i n : Nat} {C f p g : Addr} {mc : Value} {fd : FuncData} {ps ks : List Str} {ds : List Value} {dvs : List V} {sp : Sp} {E : XK} {x m : Str} {pp pos apos : Pos} {e o : Expr} {es : List Expr} {kws : List Keyword} {t tk : TA} {ta : TE} {gg : List Value → List Value → List Value} {gV : List V → List V → List V} {pl : Sem Bool}
/-- c(e, ..), the class at C in slot i -/
def tMakeL (i : Nat) (C : Addr) (sp : Sp) (dvs : List V) (E : XK) (t : TA) : TE := fun σ H Q => σ[i]? = some (some (.ref C)) ∧ tMake C sp dvs E t σ H Q
theorem pe_makeL (M : Mk X.K C f) (F : FnOk X.prog X.w X.K X.mg X.base CX k f fd ps sp) (hr : Room (k + 1) X.A) (hN : X.N[i]? = some x) (hv : Vis X.env.scope x) (hb : Binds X.K fd ps ds) (hd : Vals dvs ds) (hx : Passes CX X E) (ha : PA X (e :: es) t)
    (hdb : (x == ("__debug__" : Str)) = false := by decide) (hcd : (x == ("__classdict__" : Str)) = false := by decide)
    (he : starEach (e :: es) X.env = (false, eval e X.env) :: starEach es X.env := by rfl) (hpl : (backTo pos (starEach es X.env)).any (·.1) = false := by rfl) : PE X (.Call (.Name x pp) (e :: es) [] pos) (tMakeL i C sp dvs E t) := by
  refine ⟨fun pins s σ H Q I h => ?_⟩
  obtain ⟨hs, ht⟩ := h
  refine wpAny_Call_Name_kw (thn ((pe_var (pos := pp) hN hv hdb hcd).run pins s σ H (fun v H1 => v = .ref C ∧ H1 = H) I ⟨.ref C, hs, rfl, rfl⟩) fun u s1 ⟨v, H1, I1, r1, q1⟩ => ?_)
  obtain ⟨rfl, rfl⟩ := q1
  cases r1
  refine PySem.W.callWith_K (h₀ := X.base) I.ok.mod.kin M.kp (thn (ha.run pos pins s1 σ _ _ I1 ht) fun us s2 ⟨vs, H2, I2, r, q⟩ => ⟨I2.kIn, ?_⟩) he hpl
  exact run_make M F hr hb hd hx I2 r q
/-- C.m(k = v), m a classmethod -/
def tCMethK (C : Addr) (sp : Sp) (gV : List V → List V → List V) (E : XK) (ta : TE) (tk : TA) : TE := fun σ H Q => ta σ H fun x H1 => x = .ref C ∧ tk σ H1 fun zs H2 => zs.length = 1 ∧ sp (gV [.ref C] zs) H2 Q E
theorem pe_cmethK (he : PE X o ta) (r : ClX.CRead X.K C mc) (c : ClX.CMet X.K C mc m p g) (F : FnOk X.prog X.w X.K X.mg X.base CX k g fd ps sp) (hr : Room k X.A) (hb : KBn X.K fd ps 1 ks gg gV) (hk1 : ks.length = 1) (hx : Passes CX X E) (hkw : PK X kws tk)
    (hall : (backToKw pos (keywordEach kws X.env)).all (·.1.isSome) = true := by rfl) (hks : (backToKw pos (keywordEach kws X.env)).filterMap (·.1) = ks := by rfl)
    (hpl : ((backTo pos (starEach [] X.env)).any (·.1) || (backToKw pos (keywordEach kws X.env)).any (·.1.isNone)) = false := by rfl)
    (ht : eval (.Call (.Attribute o m apos) [] kws pos) X.env = (do
      let ov ← eval o X.env
      standAt apos.atName
      let (f, first) ← holding [ov] (getMethod ov m pl)
      callWith pos f first (backTo pos (starEach [] X.env)) (backToKw pos (keywordEach kws X.env))) := by rfl) :
    PE X (.Call (.Attribute o m apos) [] kws pos) (tCMethK C sp gV E ta tk) := by
  refine ⟨fun pins s σ H Q I h => ?_⟩
  refine PySem.W.methodCall_KW (pl := pl) (thn (he.run pins s σ H _ I h) fun u s1 ⟨x, H1, I1, rx, ex, q⟩ => ?_) ht
  subst ex
  obtain rfl : u = Value.ref C := rx
  refine ClX.getmethcm_ok I1 r c fun s2 I2 => ?_
  refine PySem.W.callWith_of hpl (PySem.W.keeps_M c.fi) (evalArgs_kw2_nil hall (thn (hkw.run pos _ s2 σ H1 _ I2 q) fun ws s3 ⟨zs, H2, I3, rz, l1, q2⟩ => ⟨⟨ClX.pin_at I3, I3.kIn⟩, ?_⟩))
  rw [hks]
  have z : wpAny (model X.prog X.w) X.A (call (.ref s1.heap.objs.size) ([] ++ []) (ks.zip ws)) (EP X ((s1.heap.objs.size, PySem.W.methodObj (.ref g) (.ref C)) :: pins) σ Q) X.xe s3 := wpAny_call (PySem.W.method_call (ClX.pin_at I3) (codeAny_mono (F.run X.A X.stack s3 H2 ⟨[.ref C], ks.zip ws⟩ (gg [.ref C] ws) (gV [.ref C] zs) Q E hr I3.env0 (hb.to s3 [.ref C] ws I3.kIn rfl (rz.length.symm.trans (l1.trans hk1.symm))) (hb.rel (.cons rfl .nil) rz) q2) fun r s' hq => ?_))
  · exact thn z fun _ _ y => ClX.unpinE y
  · cases r with
    | error e => exact hx _ σ H2 s3 e s' I3 hq
    | ok fl =>
      cases fl with
      | ret u => exact I3.after hq
      | next => exact hq.elim
      | brk => exact hq.elim
      | cont => exact hq.elim
end
end WbO
/-! Kind: made in all ways, its properties, equality -/
namespace Wb
open PySem L2 WbMin WbO WbT WbS
abbrev sKSig : Stmt := inClass (top 35) 1
abbrev sKPai : Stmt := inClass (top 35) 2
abbrev sKRow : Stmt := inClass (top 35) 3
abbrev sKMade : Stmt := inClass (top 35) 4
abbrev sKEq : Stmt := inClass (top 35) 6
theorem FunD_ok {P : Program} {w : World} {K : PySem.W.Frag} {mg : Str → Option Value} {base : Heap} {x qual : Str} {params : Arguments} {body : List Stmt} {scope : Scope} {dvs : List V} {kws : List (Str × V)} {f : Addr} {fd : FuncData} {N ps : List Str} {k : Nat} {sp : Sp} (F : FunD K x qual params body scope dvs kws f fd) (S : FnScope N ps scope) (len : ∀ vs H Q E, sp vs H Q E → vs.length = ps.length)
    (hbody : ∀ (cdv : Value) (A : Around) (outer : List Env) (s : Shared) (H : Hp) (vs : List V) (Q : VK) (E : XK), Room k (A.deeper (PyProof.Rows.envOfC qual scope s.heap.objs.size f cdv)) → sp vs H Q E →
      ∃ t, PSs (cxOf CX0 P w K mg base N qual scope f cdv A outer s H E).nox body t ∧ t { nx := fun _ H' => Q .non H', rt := Q } (start N vs) H) : FnOk P w K mg base CX0 (k + 1) f fd ps sp :=
  F.ok S len fun cdv A outer s H vs Q E hr hsp => by
    obtain ⟨t, h, q⟩ := hbody cdv A outer s H vs Q E hr hsp
    exact ⟨t, h.nox, q⟩
theorem FunD_kbn {K : PySem.W.Frag} {x qual : Str} {params : Arguments} {body : List Stmt} {scope : Scope} {dvs : List V} {f : Addr} {fd : FuncData} {ps : List Str} (F : FunD K x qual params body scope dvs [] f fd) (n : Nat) (ks : List Str) (g : {α : Type} → List α → List α → List α → List α) (hd : dvs ≠ [])
    (hrel : ∀ {vs ds zs : List V} {us its ws : List Value}, Vals vs us → Vals ds its → Vals zs ws → Vals (g vs ds zs) (g us its ws))
    (h : ∀ (T : Addr) (kV doc pm : Value) (an : Option Addr) (cdv ct : Value) (us its ws : List Value), us.length = n → its.length = dvs.length → ws.length = ks.length →
      ∃ k, bindArgs (PySem.W.fnOf x qual params body scope (.ref T) kV doc pm an cdv ct) ⟨us, ks.zip ws⟩ = seqItems? (.ref T) >>= k ∧ k (some its.toArray) = pure (ps.zip (g us its ws))) :
    ∃ its : List Value, KBn K fd ps n ks (fun us ws => g us its ws) (fun vs zs => g vs dvs zs) := by
  obtain ⟨oc, od, dV, kV, doc, pm, an, cdv, ct, osl, rfl, lk, hcd, hD, hK⟩ := F.ex
  rcases hD with ⟨e, _⟩ | ⟨_, T, o, its, m, rfl, lT, oT, rT⟩
  · exact absurd e hd
  · refine ⟨its, ⟨fun s us ws X l1 l2 => ?_, fun r1 r2 => hrel r1 rT r2⟩⟩
    obtain ⟨k, e1, e2⟩ := h T kV doc pm an cdv ct us its ws l1 rT.length.symm l2
    refine BindsTo.of_looks fun M => ?_
    rw [e1]
    exact looks_items X lT oT (.of_pure e2)
/-- Kind(pairs=p, signs=s); Kind(signs=s); Kind(s, pairs=p) -/
def gA {α : Type} : List α → List α → List α → List α
  | [u], _, [p, s] => [u, s, p]
  | _, _, _ => []
def gB {α : Type} : List α → List α → List α → List α
  | [u], [d], [s] => [u, s, d]
  | _, _, _ => []
def gC {α : Type} : List α → List α → List α → List α
  | [u, s], _, [p] => [u, s, p]
  | _, _, _ => []
theorem gA_rel {vs ds zs : List V} {us its ws : List Value} (a : Vals vs us) (b : Vals ds its) (c : Vals zs ws) : Vals (gA vs ds zs) (gA us its ws) := by
  cases a with
  | nil => exact .nil
  | cons p r => cases r with
    | cons _ _ => exact .nil
    | nil => cases c with
      | nil => exact .nil
      | cons q t => cases t with
        | nil => exact .nil
        | cons q2 t2 => cases t2 with
          | nil => exact .cons p (.cons q2 (.cons q .nil))
          | cons _ _ => exact .nil
theorem gB_rel {vs ds zs : List V} {us its ws : List Value} (a : Vals vs us) (b : Vals ds its) (c : Vals zs ws) : Vals (gB vs ds zs) (gB us its ws) := by
  cases a with
  | nil => exact .nil
  | cons p r => cases r with
    | cons _ _ => exact .nil
    | nil => cases b with
      | nil => exact .nil
      | cons d bt => cases bt with
        | cons _ _ => exact .nil
        | nil => cases c with
          | nil => exact .nil
          | cons q t => cases t with
            | nil => exact .cons p (.cons q (.cons d .nil))
            | cons _ _ => exact .nil
theorem gC_rel {vs ds zs : List V} {us its ws : List Value} (a : Vals vs us) (b : Vals ds its) (c : Vals zs ws) : Vals (gC vs ds zs) (gC us its ws) := by
  cases a with
  | nil => exact .nil
  | cons p r => cases r with
    | nil => exact .nil
    | cons p2 r2 => cases r2 with
      | cons _ _ => exact .nil
      | nil => cases c with
        | nil => exact .nil
        | cons q t => cases t with
          | nil => exact .cons p (.cons p2 (.cons q .nil))
          | cons _ _ => exact .nil
structure KA where
  (C fI fS fP fW fM fE pS pP pW pM : Addr)
  (dI dS dP dW dM dE : FuncData)
  (signs signof first ispair chpairs allp has isword : Addr)
  (dsigns dsignof dfirst dispair dchpairs dallp dhas disword : FuncData)
/-- what the top has written of Kind -/
structure KindF (K : PySem.W.Frag) (mg : Str → Option Value) (A : KA) : Prop where
  T : KTxt K mg A.C
  M : Mk K A.C A.fI
  FI : FunD K "__init__" "Kind.__init__" (defArgs sKInit) (defBody sKInit) (defScope sKInit) [.non] [] A.fI A.dI
  bI : ∃ ds, Vals [V.non] ds ∧ Binds K A.dI ["self", "signs", "pairs"] ds
  bI3 : Binds K A.dI ["self", "signs", "pairs"] []
  kA : ∃ its : List Value, KBn K A.dI ["self", "signs", "pairs"] 1 ["pairs", "signs"] (fun us ws => gA us its ws) (fun vs zs => gA vs [.non] zs)
  kB : ∃ its : List Value, KBn K A.dI ["self", "signs", "pairs"] 1 ["signs"] (fun us ws => gB us its ws) (fun vs zs => gB vs [.non] zs)
  kC : ∃ its : List Value, KBn K A.dI ["self", "signs", "pairs"] 2 ["pairs"] (fun us ws => gC us its ws) (fun vs zs => gC vs [.non] zs)
  FS : Fun K "signs" "Kind.signs" sKSig A.fS A.dS
  bS : Binds K A.dS ["self"] []
  hS : PropOf K A.C "signs" A.pS A.fS
  FP : Fun K "pairs" "Kind.pairs" sKPai A.fP A.dP
  bP : Binds K A.dP ["self"] []
  hP : PropOf K A.C "pairs" A.pP A.fP
  FW : Fun K "row" "Kind.row" sKRow A.fW A.dW
  bW : Binds K A.dW ["self"] []
  hW : PropOf K A.C "row" A.pW A.fW
  FM : Fun K "made" "Kind.made" sKMade A.fM A.dM
  bM : Binds K A.dM ["cls", "row"] []
  kM : KBn K A.dM ["cls", "row"] 1 ["row"] (fun us ws => us ++ ws) (fun vs zs => vs ++ zs)
  rM : ∃ mc, ClX.CRead K A.C mc ∧ ClX.CMet K A.C mc "made" A.pM A.fM
  FE : Fun K "__eq__" "Kind.__eq__" sKEq A.fE A.dE
  bE : Binds K A.dE ["self", "other"] []
  mE : Meth K A.C "__eq__" A.fE
  ne : PySem.W.findIn K (.ref A.C) "__ne__" = some (some (.builtin "object.__ne__"))
  nf : PySem.W.notFirst K A.C (.ref A.C) = true
  n1 : PySem.W.notFirst K A.C (.type "str") = true
  n2 : PySem.W.notFirst K A.C (.type "tuple") = true
  k1 : PySem.W.kitOne K (.type "str") (.ref A.C) = some false
  k2 : PySem.W.kitOne K (.type "tuple") (.ref A.C) = some false
  hgt : PySem.W.specialIn K (.builtin "object.__class__") "__get__" = some (some (.builtin "getset_descriptor.__get__"))
  htk : PySem.W.takesIn K (.builtin "object.__class__") = some true
  signs : Def K mg "is_signs" sIsSigns ["value"] A.signs A.dsigns
  signof : Def K mg "is_sign_of" sSignOf ["value", "signs"] A.signof A.dsignof
  first : Def K mg "first_wrong" sFirst ["values", "right"] A.first A.dfirst
  ispair : Def K mg "_is_pair" sIsPair ["value", "signs"] A.ispair A.dispair
  chpairs : Def K mg "_check_pairs" sChPairs ["pairs", "signs"] A.chpairs A.dchpairs
  allp : Def K mg "_all_pairs" sAllP ["signs"] A.allp A.dallp
  has : Def K mg "_has_ring" sHas ["signs", "pairs"] A.has A.dhas
  isword : Def K mg "is_word" sIsWord ["value"] A.isword A.disword
  w6 : ∃ t : Tok, mg "MOST_WORD" = some (.int 600 t)
  w4 : ∃ t : Tok, mg "MOST_SIGNS" = some (.int 4 t)
  tup : mg "tuple" = none
  lst : mg "list" = none
  any : mg "any" = none
  enum : mg "enumerate" = none
  sort : mg "sorted" = none
theorem pair_nd' {sg : List Nat} (nd : sg.Nodup) : ∀ as : List Nat, as.Nodup → (as.flatMap fun a => sg.map fun b => S [a, b]).Nodup
  | [], _ => List.nodup_nil
  | a :: as, h => by
    obtain ⟨h1, h2⟩ := List.nodup_cons.mp h
    rw [List.flatMap_cons, List.nodup_append]
    have n1 : (sg.map fun b => S [a, b]).Nodup := List.Pairwise.map _ (fun b c h q => h (by
      have := S_inj q
      injection this with _ h2
      injection h2)) nd
    have n2 : ∀ x ∈ sg.map (fun b => S [a, b]), ∀ y ∈ as.flatMap (fun a => sg.map fun b => S [a, b]), x ≠ y := by
      intro x hx y hy e
      subst e
      obtain ⟨c, _, rfl⟩ := List.mem_map.mp hx
      obtain ⟨b, hb, hy⟩ := List.mem_flatMap.mp hy
      obtain ⟨d, _, e⟩ := List.mem_map.mp hy
      have := S_inj e
      injection this with h3
      exact h1 (h3 ▸ hb)
    exact ⟨n1, pair_nd' nd as h2, n2⟩
theorem pair_nd {sg : List Nat} (nd : sg.Nodup) : (allP sg).Nodup := pair_nd' nd sg nd
theorem allP_perm {sg sg0 : List Nat} (h : sg.Perm sg0) (nd : sg0.Nodup) : (allP sg).Perm (allP sg0) := by
  refine (List.perm_ext_iff_of_nodup (pair_nd (h.nodup_iff.mpr nd)) (pair_nd nd)).mpr fun z => ?_
  rw [allP_mem, allP_mem]
  unfold PairOf
  exact ⟨fun ⟨a, b, h1, h2, h3⟩ => ⟨a, b, h.mem_iff.mp h1, h.mem_iff.mp h2, h3⟩, fun ⟨a, b, h1, h2, h3⟩ => ⟨a, b, h.mem_iff.mpr h1, h.mem_iff.mpr h2, h3⟩⟩
theorem leS_one {c d : Nat} : leS (sOne c) (sOne d) ↔ c ≤ d := by
  unfold leS sOne
  show ¬ ([d] : List Nat) < [c] ↔ _
  rw [List.cons_lt_cons_iff]
  simp
theorem leS_pair {a b c d : Nat} (h : a < c ∨ (a = c ∧ b ≤ d)) : leS (S [a, b]) (S [c, d]) := by
  unfold leS
  rw [S_cps, S_cps, List.cons_lt_cons_iff]
  rintro (q | ⟨q, r⟩)
  · omega
  · rw [List.cons_lt_cons_iff] at r
    rcases r with r | ⟨_, r⟩
    · omega
    · exact absurd r (List.lt_irrefl _)
theorem flat_pw {sg : List Nat} (h0 : sg.Pairwise (· ≤ ·)) : ∀ as : List Nat, as.Pairwise (· < ·) → (as.flatMap fun a => sg.map fun b => S [a, b]).Pairwise leS
  | [], _ => .nil
  | a :: as, h => by
    obtain ⟨h1, h2⟩ := List.pairwise_cons.mp h
    rw [List.flatMap_cons, List.pairwise_append]
    refine ⟨List.Pairwise.map _ (fun b c q => leS_pair (.inr ⟨rfl, q⟩)) h0, flat_pw h0 as h2, fun x hx y hy => ?_⟩
    obtain ⟨b, _, rfl⟩ := List.mem_map.mp hx
    obtain ⟨c, hc, hy⟩ := List.mem_flatMap.mp hy
    obtain ⟨d, _, rfl⟩ := List.mem_map.mp hy
    exact leS_pair (.inl (h1 c hc))
theorem allP_sorted {sg sg0 : List Nat} (h : sg.Perm sg0) (nd : sg0.Nodup) (s : PyProof.Rows.sortedS (sg.map sOne) = true) : PyProof.Rows.sortedS (allP sg) = true := by
  have nd' := h.nodup_iff.mpr nd
  have p1 : sg.Pairwise (· ≤ ·) := by
    have q := sorted_pw s
    rw [List.pairwise_map] at q
    exact q.imp fun {a b} r => leS_one.mp r
  have p2 : sg.Pairwise (· < ·) := by
    have q := List.Pairwise.and p1 nd'
    exact q.imp fun {a b} r => Nat.lt_of_le_of_ne r.1 r.2
  exact pw_sorted (flat_pw p1 sg p2)
theorem perm_codes {ys : List Str} {l : List Nat} (h : ys.Perm (l.map sOne)) : ∃ m : List Nat, m.Perm l ∧ ys = m.map sOne := by
  have dec : ∀ c, (sOne c).cps.getD 0 0 = c := fun c => rfl
  refine ⟨ys.map fun z => z.cps.getD 0 0, ?_, ?_⟩
  · have q := h.map fun z => z.cps.getD 0 0
    rw [List.map_map, show (fun z : Str => z.cps.getD 0 0) ∘ sOne = id from funext dec, List.map_id] at q
    exact q
  · rw [List.map_map]
    have q : ∀ y ∈ ys, (sOne ∘ fun z : Str => z.cps.getD 0 0) y = y := fun y hy => by
      obtain ⟨c, _, rfl⟩ := List.mem_map.mp (h.mem_iff.mp hy)
      rfl
    exact (List.map_id' ys ▸ List.map_congr_left q).symm
section
variable {P : Program} {w : World} {K : PySem.W.Frag} {mg : Str → Option Value} {base : Heap} {A : KA}
theorem scKI : FnScope ["self", "signs", "pairs"] ["self", "signs", "pairs"] (defScope sKInit) := ⟨rfl, rfl, rfl, by decide +kernel, rfl, by decide +kernel, by decide +kernel⟩
set_option maxHeartbeats 0 in
theorem ok_kinit (D : KindF K mg A) (Z : Free mg) : FnOk P w K mg base CX0 4 A.fI A.dI ["self", "signs", "pairs"] (spKInit A.C) := by
  obtain ⟨t6, g6⟩ := D.w6
  obtain ⟨t4, g4⟩ := D.w4
  have GS : FnOk P w K mg base CX0 2 A.signs A.dsigns ["value"] spIsSigns := ok_issigns D.signs.F Z D.isword t6 g6 t4 g4
  have GC : FnOk P w K mg base CX0 3 A.chpairs A.dchpairs ["pairs", "signs"] spChPairs := ok_chpairs D.chpairs.F Z D.tup D.enum D.ispair D.signof D.first
  have GA : FnOk P w K mg base CX0 1 A.allp A.dallp ["signs"] spAllP := ok_allp D.allp.F Z D.tup
  have GH : FnOk P w K mg base CX0 1 A.has A.dhas ["signs", "pairs"] spHas := ok_has D.has.F Z D.lst D.any
  refine FunD_ok D.FI scKI (fun vs H Q E h => ?_) (fun cdv A' outer s H vs Q E hr h => ?_)
  · obtain ⟨H0, r, dx, sg0, x, ps0, rfl, _⟩ := h
    rfl
  · obtain ⟨H0, r, dx, sg0, x, ps0, rfl, G, hx, s0, r0, hp, k⟩ := h
    have hr1 : Room 1 _ := hr.mono (by decide)
    have hr2 : Room 2 _ := hr.mono (by decide)
    refine ⟨_, pss_cons (ps_if (pt_not (pt_val (pe_call GS hr2 rfl D.signs.g D.signs.kp D.signs.b .nil pass0 (pa_cons (pv 1) pa_nil)))) (pss_one ps_never) pss_nil)
      (pss_cons (ps_if (pt_cmpR op_notN (pv 2) pe_non (nomark _)) (pss_one (ps_expr (pe_call GC hr rfl D.chpairs.g D.chpairs.kp D.chpairs.b .nil pass0 (pa_cons (pv 2) (pa_cons (pv 1) pa_nil))))) pss_nil)
      (pss_cons (ps_fld (pv 0) (pe_join pe_str (pe_callB (call_sortedTx rfl) (by rfl) D.sort (by decide +kernel) (pa_cons (pv 1) pa_nil))) rfl)
      (pss_cons (ps_fld (pv 0) (pe_ifExp (pt_cmpR op_isN (pv 2) pe_non (nomark _)) (pe_call GA hr1 rfl D.allp.g D.allp.kp D.allp.b .nil pass0 (pa_cons (pe_fld (pv 0) rfl) pa_nil))
          (pe_callTy call_tuple_of (by rfl) D.tup (by decide +kernel) (pa_cons (pe_callB call_sortedTup (by rfl) D.sort (by decide +kernel) (pa_cons (pv 2) pa_nil)) pa_nil))) rfl)
      (pss_one (ps_fld (pv 0) (pe_call GH hr1 rfl D.has.g D.has.kp D.has.b .nil pass0 (pa_cons (pe_fld (pv 0) rfl) (pa_cons (pe_fld (pv 0) rfl) pa_nil))) rfl))))), ?_⟩
    have few := G.few
    have pos := G.pos
    refine ⟨_, rfl, sg0, rfl, G, fun H1 s1 => ⟨true, rfl, ?_⟩⟩
    have hr0 : H1 r = some (.ins A.C dx []) := s1 _ _ hp
    have fitS : ∀ {l : List Nat}, l.length ≤ 4 → (List.map (fun x : Str => x.length) (l.map sOne)).sum + (l.map sOne).length * (Str.ofString "").length ≤ 16777216 := fun {l} h => by
      have e1 : ((l.map sOne).map fun x => x.length) = List.replicate l.length 1 := by
        rw [List.map_map]
        exact List.map_eq_replicate_iff.mpr fun _ _ => rfl
      have e2 : (Str.ofString "").length = 0 := by decide +kernel
      rw [e1, e2, List.sum_replicate_nat]
      omega
    have s01 : Same H0 H1 := s0.trans s1
    rcases hx with ⟨rfl, rfl⟩ | ⟨t0, rfl, ht0, hpr⟩
    · refine ⟨_, rfl, rfl, _, rfl, ?_⟩
      show if (!decide (V.non = V.non)) = true then _ else _
      rw [decide_eq_true rfl]
      refine iteF ?_
      refine ⟨⟨_, rfl⟩, _, rfl, S sg0, rfl, by rw [S_len]; omega, fun ys p perm srt hp' => ?_⟩
      rw [S_cps] at perm
      obtain ⟨sg, hsg, rfl⟩ := perm_codes perm
      have sl : sg.length = sg0.length := hsg.length_eq
      have nrp : r ≠ p := ne_of_none hr0 hp'
      refine ⟨_, p, sg.map sOne, rfl, rfl, .inl (SqL.of upd_same), ?_, ?_⟩
      · exact fitS (l := sg) (by omega)
      have ej : Txt.join (Str.ofString "") (sg.map sOne) = S sg := join_one (by omega)
      rw [ej]
      refine ⟨_, rfl, r, A.C, dx, _, rfl, (upd_ne nrp).trans hr0, D.T.cl, D.T.nS, (by show 0 < 1000; decide), ?_⟩
      have s02 := Same.new' (o := .ins A.C dx (putF "_signs" (.str (S sg)) [])) (Same.put (o := .lst ((sg.map sOne).map V.str)) s01 hp') r0
      refine ⟨_, rfl, rfl, _, rfl, ?_⟩
      refine ifd rfl ?_
      refine ⟨_, rfl, r, A.C, dx, _, _, rfl, upd_same, D.T.cl, D.T.nS, by rw [lookup_putF, if_pos rfl], sg, rfl, by omega, fun t H3 ht s3 h3 => ?_⟩
      have h3r := s3 _ _ (upd_same (a := r))
      have ntr : t ≠ r := fun q => by rw [q, upd_same] at ht; cases ht
      refine ⟨_, rfl, r, A.C, dx, _, rfl, h3r, D.T.cl, D.T.nP, (by show 1 < 1000; decide), ?_⟩
      refine ⟨_, rfl, r, A.C, dx, _, _, rfl, upd_same, D.T.cl, D.T.nS, by rw [lookup_putF, if_neg k12, lookup_putF, if_pos rfl], _, rfl, r, A.C, dx, _, _, rfl, upd_same, D.T.cl, D.T.nP, by rw [lookup_putF, if_pos rfl], ?_⟩
      refine ⟨t, sg, allP sg, rfl, (upd_ne ntr).trans h3, by omega, fun b H5 s5 => ?_⟩
      refine ⟨_, rfl, r, A.C, dx, _, rfl, s5 _ _ upd_same, D.T.cl, D.T.nR, (by show 2 < 1000; decide), ?_⟩
      refine k _ sg (allP sg) ?_ hsg srt (allP_perm hsg G.nd) (allP_sorted hsg G.nd srt) ⟨dx, t, b, upd_same, (upd_ne ntr).trans (s5 _ _ ((upd_ne ntr).trans h3))⟩
      exact Same.new' ((Same.new' (s02.trans s3) r0).trans s5) r0
    · refine ⟨_, rfl, rfl, _, rfl, ?_⟩
      show if (!decide (V.ref t0 = V.non)) = true then _ else _
      rw [decide_eq_false (by intro q; cases q)]
      refine iteT ⟨_, rfl, _, rfl, t0, sg0, ps0, rfl, s1 _ _ ht0, hpr, fun H2 s2 => ?_⟩
      have hr2' := s2 _ _ hr0
      have ht2 := s2 _ _ (s1 _ _ ht0)
      refine ⟨⟨_, rfl⟩, _, rfl, S sg0, rfl, by rw [S_len]; omega, fun ys p perm srt hp' => ?_⟩
      rw [S_cps] at perm
      obtain ⟨sg, hsg, rfl⟩ := perm_codes perm
      have sl : sg.length = sg0.length := hsg.length_eq
      have nrp : r ≠ p := ne_of_none hr2' hp'
      refine ⟨_, p, sg.map sOne, rfl, rfl, .inl (SqL.of upd_same), ?_, ?_⟩
      · exact fitS (l := sg) (by omega)
      have ej : Txt.join (Str.ofString "") (sg.map sOne) = S sg := join_one (by omega)
      rw [ej]
      refine ⟨_, rfl, r, A.C, dx, _, rfl, (upd_ne nrp).trans hr2', D.T.cl, D.T.nS, (by show 0 < 1000; decide), ?_⟩
      have s03 := Same.new' (o := .ins A.C dx (putF "_signs" (.str (S sg)) [])) (Same.put (o := .lst ((sg.map sOne).map V.str)) (s01.trans s2) hp') r0
      have ntr0 : t0 ≠ r := ne_of ht2 hr2' (by intro q; cases q)
      have ht3 := (upd_ne (o := .ins A.C dx (putF "_signs" (.str (S sg)) [])) ntr0).trans ((upd_ne (o := .lst ((sg.map sOne).map V.str)) (ne_of_none ht2 hp')).trans ht2)
      refine ⟨_, rfl, rfl, _, rfl, ?_⟩
      refine ifn (by intro q; cases q) ?_
      have few0 := hpr.few
      refine ⟨_, rfl, t0, ps0, rfl, SqT.of ht3, by omega, fun ys p2 perm2 srt2 hp2 => ⟨p2, _, rfl, .inl ⟨SqL.of upd_same, fun t ht => ?_⟩⟩⟩
      have np2 : r ≠ p2 := ne_of_none upd_same hp2
      have nt : r ≠ t := ne_of_none ((upd_ne np2).trans upd_same) ht
      refine ⟨_, rfl, r, A.C, dx, _, rfl, (upd_ne nt).trans ((upd_ne np2).trans upd_same), D.T.cl, D.T.nP, (by show 1 < 1000; decide), ?_⟩
      refine ⟨_, rfl, r, A.C, dx, _, _, rfl, upd_same, D.T.cl, D.T.nS, by rw [lookup_putF, if_neg k12, lookup_putF, if_pos rfl], _, rfl, r, A.C, dx, _, _, rfl, upd_same, D.T.cl, D.T.nP, by rw [lookup_putF, if_pos rfl], ?_⟩
      refine ⟨t, sg, ys, rfl, (upd_ne nt.symm).trans upd_same, by omega, fun b H5 s5 => ?_⟩
      refine ⟨_, rfl, r, A.C, dx, _, rfl, s5 _ _ upd_same, D.T.cl, D.T.nR, (by show 2 < 1000; decide), ?_⟩
      refine k _ sg ys ?_ hsg srt perm2 srt2 ⟨dx, t, b, upd_same, (upd_ne nt.symm).trans (s5 _ _ ((upd_ne nt.symm).trans upd_same))⟩
      exact Same.new' ((Same.new' (Same.put (Same.put s03 hp2) ht) r0).trans s5) r0
theorem scK1 : FnScope ["self"] ["self"] (defScope sKSig) := ⟨rfl, rfl, rfl, by decide +kernel, rfl, by decide +kernel, by decide +kernel⟩
def spKSig (C : Addr) : Sp := fun vs H Q _ => ∃ (r : Addr) (sg : List Nat) (ps : List Str), vs = [.ref r] ∧ KindAt C H r sg ps ∧ Q (.str (S sg)) H
def spKPai (C : Addr) : Sp := fun vs H Q _ => ∃ (r : Addr) (sg : List Nat) (ps : List Str), vs = [.ref r] ∧ KindAt C H r sg ps ∧ ∀ t, H t = some (.tup (ps.map V.str)) → Q (.ref t) H
def spKRow (C : Addr) : Sp := fun vs H Q _ => ∃ (r : Addr) (sg : List Nat) (ps : List Str), vs = [.ref r] ∧ KindAt C H r sg ps ∧ ∀ (q t : Addr) (H' : Hp), H q = none → Same H H' → H' q = some (.tup [.str (S sg), .ref t]) → H' t = some (.tup (ps.map V.str)) → Q (.ref q) H'
theorem ok_ksig (D : KindF K mg A) : FnOk P w K mg base CX0 1 A.fS A.dS ["self"] (spKSig A.C) := by
  refine D.FS.ok scK1 (fun vs H Q E h => ?_) (fun cdv A' outer s H vs Q E hr h => ?_)
  · obtain ⟨r, sg, ps, rfl, _⟩ := h
    rfl
  · obtain ⟨r, sg, ps, rfl, ⟨dx, t, b, e1, e2⟩, k⟩ := h
    exact ⟨_, pss_one (ps_ret (pe_fld (pv 0) rfl)), _, rfl, r, A.C, dx, _, _, rfl, e1, D.T.cl, D.T.nS, kf_signs _ _ _, k⟩
theorem scK2 : FnScope ["self"] ["self"] (defScope sKPai) := ⟨rfl, rfl, rfl, by decide +kernel, rfl, by decide +kernel, by decide +kernel⟩
theorem ok_kpai (D : KindF K mg A) : FnOk P w K mg base CX0 1 A.fP A.dP ["self"] (spKPai A.C) := by
  refine D.FP.ok scK2 (fun vs H Q E h => ?_) (fun cdv A' outer s H vs Q E hr h => ?_)
  · obtain ⟨r, sg, ps, rfl, _⟩ := h
    rfl
  · obtain ⟨r, sg, ps, rfl, ⟨dx, t, b, e1, e2⟩, k⟩ := h
    exact ⟨_, pss_one (ps_ret (pe_fld (pv 0) rfl)), _, rfl, r, A.C, dx, _, _, rfl, e1, D.T.cl, D.T.nP, kf_pairs _ _ _, k t e2⟩
theorem scK3 : FnScope ["self"] ["self"] (defScope sKRow) := ⟨rfl, rfl, rfl, by decide +kernel, rfl, by decide +kernel, by decide +kernel⟩
theorem ok_krow (D : KindF K mg A) : FnOk P w K mg base CX0 1 A.fW A.dW ["self"] (spKRow A.C) := by
  refine D.FW.ok scK3 (fun vs H Q E h => ?_) (fun cdv A' outer s H vs Q E hr h => ?_)
  · obtain ⟨r, sg, ps, rfl, _⟩ := h
    rfl
  · obtain ⟨r, sg, ps, rfl, ⟨dx, t, b, e1, e2⟩, k⟩ := h
    refine ⟨_, pss_one (ps_ret (pe_tup (pa_cons (pe_fld (pv 0) rfl) (pa_cons (pe_fld (pv 0) rfl) pa_nil)))), ?_⟩
    refine ⟨_, rfl, r, A.C, dx, _, _, rfl, e1, D.T.cl, D.T.nS, kf_signs _ _ _, _, rfl, r, A.C, dx, _, _, rfl, e1, D.T.cl, D.T.nP, kf_pairs _ _ _, (by show 2 ≤ sizeLine; decide), fun q hq => ?_⟩
    exact k q t _ hq (Same.put (Same.refl H) hq) upd_same ((upd_ne (ne_of_none e2 hq)).trans e2)
theorem scKE : FnScope ["self", "other"] ["self", "other"] (defScope sKEq) := ⟨rfl, rfl, rfl, by decide +kernel, rfl, by decide +kernel, by decide +kernel⟩
/-- are both the same kind -/
def sameK (sg sg2 : List Nat) (ps ps2 : List Str) : Bool := decide (sg = sg2) && decide (ps = ps2)
def Prs' (ps : List Str) : Prop := ∀ z ∈ ps, PyData.strOk z = true
def spKEq (K : PySem.W.Frag) (C : Addr) : Sp := fun vs H Q _ => ∃ (r : Addr) (sg : List Nat) (ps : List Str) (x : V) (b : Bool), vs = [.ref r, x] ∧ KindAt C H r sg ps ∧
  ((∃ (r2 : Addr) (sg2 : List Nat) (ps2 : List Str), x = .ref r2 ∧ KindAt C H r2 sg2 ps2 ∧ Prs' ps ∧ Prs' ps2 ∧ b = sameK sg sg2 ps ps2) ∨ ((∃ t, TyX K H x t ∧ PySem.W.kitOne K t (.ref C) = some false) ∧ b = false)) ∧ Q (.bl b) H
theorem can_strs : ∀ {zs : List Str}, (∀ z ∈ zs, PyData.strOk z = true) → PyData.canLayAll0 (zs.map PyData.str) = true
  | [], _ => rfl
  | z :: r, h => by
    show (PyData.strOk z && PyData.canLayAll0 (r.map PyData.str)) = true
    rw [h z List.mem_cons_self, can_strs fun y q => h y (List.mem_cons_of_mem _ q)] <;> rfl
theorem shaped_tup {zs : List Str} (h : ∀ z ∈ zs, PyData.strOk z = true) : SeqAt.shaped (.tuple (zs.map PyData.str)) = true := by
  have d : PyData.depth (.tuple (zs.map PyData.str)) = 1 := by
    show PyData.depthAll (zs.map PyData.str) + 1 = 1
    rw [depthAll_strs]
  unfold SeqAt.shaped
  rw [d]
  show (PyData.canLayAll0 (zs.map PyData.str) && decide (1 ≤ 64)) = true
  rw [can_strs h] <;> rfl
theorem dp_strs {K : PySem.W.Frag} {H : Hp} : ∀ zs : List Str, DpAll K H (zs.map V.str) (zs.map PyData.str)
  | [] => .nil
  | z :: r => .cons (.str z) (dp_strs r)
theorem ok_keq (D : KindF K mg A) (Z : Free mg) : FnOk P w K mg base CX0 1 A.fE A.dE ["self", "other"] (spKEq K A.C) := by
  refine D.FE.ok scKE (fun vs H Q E h => ?_) (fun cdv A' outer s H vs Q E hr h => ?_)
  · obtain ⟨r, sg, ps, x, b, rfl, _⟩ := h
    rfl
  · obtain ⟨r, sg, ps, x, b, rfl, ⟨dx, t, rb, e1, e2⟩, hx, k⟩ := h
    refine ⟨_, pss_one (ps_ret (pe_and (pe_callB call_isi (by rfl) Z.isi (by decide +kernel) (pa_cons (pv 1) (pa_cons (pe_glob (v := .ref A.C) (by rfl) D.T.gC rfl) pa_nil)))
      (pe_and (pe_cmpR op_eq (pe_fld (pv 0) rfl) (pe_fld (pv 1) rfl) (nomark _)) (pe_one (pe_cmpR (op_eqD hr.units) (pe_fld (pv 0) rfl) (pe_fld (pv 1) rfl) (nomark _)))))), ?_⟩
    rcases hx with ⟨r2, sg2, ps2, rfl, ⟨dx2, t2, rb2, f1, f2⟩, o1, o2, rfl⟩ | ⟨⟨ty, h1, h2⟩, rfl⟩
    · refine ⟨_, rfl, _, _, .ref A.C, .ref A.C, true, rfl, .own A.C, .base (.ins f1 D.T.cl D.T.hcl D.hgt D.htk D.T.hob), ?_, true, rfl, ?_⟩
      · unfold PySem.W.kitOne
        rw [if_pos (beq_self_eq_true _)]
      · refine ⟨_, rfl, r, A.C, dx, _, _, rfl, e1, D.T.cl, D.T.nS, kf_signs _ _ _, _, rfl, r2, A.C, dx2, _, _, rfl, f1, D.T.cl, D.T.nS, kf_signs _ _ _, rfl, _, rfl, ?_⟩
        unfold sameK at k
        by_cases q : sg = sg2
        · rw [decide_eq_true q, Bool.true_and] at k
          refine ifd (by rw [q]) ?_
          refine ⟨_, rfl, r, A.C, dx, _, _, rfl, e1, D.T.cl, D.T.nP, kf_pairs _ _ _, _, rfl, r2, A.C, dx2, _, _, rfl, f1, D.T.cl, D.T.nP, kf_pairs _ _ _, ?_⟩
          refine ⟨_, _, .tup (SqT.of e2) (dp_strs ps), .tup (SqT.of f2) (dp_strs ps2), shaped_tup o1, shaped_tup o2, ?_⟩
          have e : PyData.eqv (.tuple (ps.map PyData.str)) (.tuple (ps2.map PyData.str)) = decide (ps = ps2) := eqvAll_strs ps ps2
          rw [e]
          exact k
        · rw [decide_eq_false q, Bool.false_and] at k
          exact ifn (fun z => q (S_inj (by injection z))) k
    · exact ⟨_, rfl, _, _, ty, .ref A.C, false, rfl, .own A.C, h1, h2, false, rfl, k⟩
end
end Wb
/-! Kind.made; what the law reads of a kind -/
namespace Wb
open PySem L2 WbMin WbO WbT WbS
abbrev sKIs : Stmt := top 44
theorem ok_low {l : List Nat} (h : Low l) : PyData.strOk (S l) = true := by
  unfold PyData.strOk
  rw [Array.all_eq_true]
  intro i hi
  have m : (S l).cps[i] ∈ l := by
    have q : (S l).cps[i] ∈ (S l).cps.toList := Array.mem_toList_iff.mpr (Array.getElem_mem hi)
    rwa [S_cps] at q
  have q := h _ m
  simp only [decide_eq_true_eq]
  omega
theorem PairOf.ok {sg : List Nat} {z : Str} (L : Low sg) (h : PairOf sg z) : PyData.strOk z = true := by
  obtain ⟨a, b, ha, hb, rfl⟩ := h
  refine ok_low fun c hc => ?_
  rcases List.mem_cons.mp hc with rfl | hc
  · exact L _ ha
  · rw [List.mem_singleton.mp hc]
    exact L _ hb
theorem Prs.ok {sg : List Nat} {ps : List Str} (L : Low sg) (h : Prs sg ps) : Prs' ps := fun z hz => (h.of z hz).ok L
theorem map_one {a b : List Nat} (h : a.map sOne = b.map sOne) : a = b := by
  have dec : ∀ l : List Nat, (l.map sOne).map (fun z : Str => z.cps.getD 0 0) = l := fun l => by
    rw [List.map_map, show (fun z : Str => z.cps.getD 0 0) ∘ sOne = id from funext fun _ => rfl, List.map_id]
  rw [← dec a, h, dec]
theorem sg_same {a b c : List Nat} (h1 : PyProof.Rows.sortedS (a.map sOne) = true) (h2 : PyProof.Rows.sortedS (b.map sOne) = true) (p1 : a.Perm c) (p2 : b.Perm c) : a = b :=
  map_one (sorted_same h1 h2 ((p1.trans p2.symm).map sOne))
theorem Sgs.perm {a b : List Nat} (h : Sgs b) (p : a.Perm b) : Sgs a := ⟨fun c hc => h.low c (p.mem_iff.mp hc), p.nodup_iff.mpr h.nd, by rw [p.length_eq]; exact h.pos, by rw [p.length_eq]; exact h.few⟩
theorem PairOf.perm {a b : List Nat} {z : Str} (h : PairOf b z) (p : a.Perm b) : PairOf a z := by
  obtain ⟨x, y, hx, hy, e⟩ := h
  exact ⟨x, y, p.mem_iff.mpr hx, p.mem_iff.mpr hy, e⟩
theorem Prs.perm {a b : List Nat} {ps qs : List Str} (h : Prs b qs) (p : a.Perm b) (q : ps.Perm qs) : Prs a ps := ⟨fun z hz => (h.of z (q.mem_iff.mp hz)).perm p, q.nodup_iff.mpr h.nd, by rw [q.length_eq]; exact h.few⟩
/-- the row, as data -/
def rowD (sg : List Nat) (ps : List Str) : List PyData := [.str (S sg), .tuple (ps.map PyData.str)]
theorem can_row {sg : List Nat} {ps : List Str} (h1 : PyData.strOk (S sg) = true) (h2 : Prs' ps) : PyData.canLayAll0 (rowD sg ps) = true := by
  show (PyData.strOk (S sg) && (PyData.canLayAll0 (ps.map PyData.str) && true)) = true
  rw [h1, can_strs h2] <;> rfl
theorem dep_row {sg : List Nat} {ps : List Str} : PyData.depthAll (rowD sg ps) = 1 := by
  show max 0 (max (PyData.depthAll (ps.map PyData.str) + 1) 0) = 1
  rw [depthAll_strs] <;> rfl
theorem shaped_row {sg : List Nat} {ps : List Str} (h1 : PyData.strOk (S sg) = true) (h2 : Prs' ps) : SeqAt.shaped (.tuple (rowD sg ps)) = true := by
  have d : PyData.depth (.tuple (rowD sg ps)) = 2 := by
    show PyData.depthAll (rowD sg ps) + 1 = 2
    rw [dep_row]
  unfold SeqAt.shaped
  rw [d]
  show (PyData.canLayAll0 (rowD sg ps) && decide (2 ≤ 64)) = true
  rw [can_row h1 h2] <;> rfl
/-- the three told, as data -/
def toldD (sg : List Nat) (ps : List Str) : List PyData := [.str (S sg), .tuple (ps.map PyData.str), .tuple (rowD sg ps)]
theorem can_told {sg : List Nat} {ps : List Str} (h1 : PyData.strOk (S sg) = true) (h2 : Prs' ps) : PyData.canLayAll0 (toldD sg ps) = true := by
  show (PyData.strOk (S sg) && (PyData.canLayAll0 (ps.map PyData.str) && (PyData.canLayAll0 (rowD sg ps) && true))) = true
  rw [h1, can_strs h2, can_row h1 h2] <;> rfl
theorem shaped_told {sg : List Nat} {ps : List Str} (h1 : PyData.strOk (S sg) = true) (h2 : Prs' ps) : SeqAt.shaped (.list (toldD sg ps)) = true := by
  have d : PyData.depth (.list (toldD sg ps)) = 3 := by
    show max 0 (max (PyData.depthAll (ps.map PyData.str) + 1) (max (PyData.depthAll (rowD sg ps) + 1) 0)) + 1 = 3
    rw [depthAll_strs, dep_row] <;> rfl
  unfold SeqAt.shaped
  rw [d]
  show (PyData.canLayAll0 (toldD sg ps) && decide (3 ≤ 64)) = true
  rw [can_told h1 h2] <;> rfl
def spKMade (C : Addr) : Sp := fun vs H Q _ => ∃ (w t : Addr) (sg : List Nat) (ps : List Str), vs = [.ref C, .ref w] ∧ Sgs sg ∧ Prs sg ps ∧ PyProof.Rows.sortedS (sg.map sOne) = true ∧ PyProof.Rows.sortedS ps = true ∧ H w = some (.tup [.str (S sg), .ref t]) ∧ H t = some (.tup (ps.map V.str)) ∧
  ∀ (r : Addr) (H' : Hp), H r = none → Same H H' → KindAt C H' r sg ps → Q (.ref r) H'
def spKIs (C : Addr) : Sp := fun vs H Q _ => ∃ (r a : Addr) (sg0 sg : List Nat) (ps0 ps : List Str), vs = [.ref r, .str (S sg0), .ref a] ∧ Sgs sg0 ∧ Prs sg0 ps0 ∧ H a = some (.lst (ps0.map V.str)) ∧ sg.Perm sg0 ∧ PyProof.Rows.sortedS (sg.map sOne) = true ∧ ps.Perm ps0 ∧ PyProof.Rows.sortedS ps = true ∧ KindAt C H r sg ps ∧
  ∀ H', Same H H' → Q (.bl true) H'
section
variable {P : Program} {w : World} {K : PySem.W.Frag} {mg : Str → Option Value} {base : Heap} {A : KA} {f : Addr} {fd : FuncData}
theorem scKM : FnScope ["cls", "row", "kind"] ["cls", "row"] (defScope sKMade) := ⟨rfl, rfl, rfl, by decide +kernel, rfl, by decide +kernel, by decide +kernel⟩
set_option maxHeartbeats 0 in
theorem ok_kmade (D : KindF K mg A) (Z : Free mg) : FnOk P w K mg base CX0 6 A.fM A.dM ["cls", "row"] (spKMade A.C) := by
  have GK : FnOk P w K mg base CX0 4 A.fI A.dI ["self", "signs", "pairs"] (spKInit A.C) := ok_kinit D Z
  have GW : FnOk P w K mg base CX0 1 A.fW A.dW ["self"] (spKRow A.C) := ok_krow D
  refine D.FM.ok scKM (fun vs H Q E h => ?_) (fun cdv A' outer s H vs Q E hr h => ?_)
  · obtain ⟨w, t, sg, ps, rfl, _⟩ := h
    rfl
  · obtain ⟨w, t, sg, ps, rfl, G, G', o1, o2, hw, ht, k⟩ := h
    have hr2 : Room 2 _ := hr.mono (by decide)
    refine ⟨_, pss_cons (ps_if (PW.pt (pw_or (pt_not (pt_val (pe_callB call_isi (by rfl) Z.isi (by decide +kernel) (pa_cons (pv 1) (pa_cons (pe_bltn (v := .ty "tuple") (u := .type "tuple") (by rfl) D.tup (by decide +kernel) rfl) pa_nil)))))
        (pw_or1 (pt_cmpR op_ne (pe_callB call_len_seq (by rfl) Z.len PySem.boot_len (pa_cons (pv 1) pa_nil)) pe_int (nomark _))))) (pss_one ps_never) pss_nil)
      (pss_cons (ps_try_thru0 (pss_one (ps_set (i := 2) scKM.nd rfl (.inl rfl) (pe_makeL (i := 0) D.M GK hr rfl (.inl rfl) D.bI3 .nil pass0 (pa_cons (pe_ix ix_tup (pv 1) pe_int (fun _ _ => rfl)) (pa_cons (pe_ix ix_tup (pv 1) pe_int (fun _ _ => rfl)) pa_nil))))))
      (pss_cons (ps_if (pt_cmpR (op_neD hr.units) (pe_prop (pv 2) D.T.cl D.hW GW hr2 D.bW .nil pass0 rfl) (pv 1) (nomark _)) (pss_one ps_never) pss_nil)
      (pss_one (ps_ret (pv 2))))), ?_⟩
    refine ⟨_, rfl, _, _, .type "tuple", .type "tuple", true, rfl, .ty "tuple", .base (.tup hw), kit_ty (by decide +kernel), true, rfl, ?_⟩
    refine ⟨_, rfl, w, _, rfl, .inr (SqT.of hw), rfl, _, rfl, ?_⟩
    refine iteNS rfl ?_
    refine ⟨rfl, _, rfl, w, _, _, _, rfl, rfl, SqT.of hw, atI_nat (j := 0) rfl, _, rfl, w, _, _, _, rfl, rfl, SqT.of hw, atI_nat (j := 1) rfl, fun kd dxk hx hdx ne => ?_⟩
    refine ⟨H, kd, dxk, sg, .ref t, ps, rfl, G, .inr ⟨t, rfl, (Same.new' (Same.new' (Same.refl H) hdx) hx) _ _ ht, G'⟩, Same.new' (Same.new' (Same.refl H) hdx) hx, hx, upd_same, fun H3 sg' ps' s3 hsg os hps op K3 => ⟨rfl, ?_⟩⟩
    obtain rfl : sg' = sg := sg_same os o1 hsg (.refl _)
    obtain rfl : ps' = ps := sorted_same op o2 hps
    obtain ⟨dx3, t3, b3, e1, e2⟩ := id K3
    refine ⟨_, rfl, kd, dx3, _, rfl, e1, kd, sg', ps', rfl, K3, fun q t2 H4 hq s4 g1 g2 => ⟨_, rfl, ?_⟩⟩
    have oz := ok_low G.low
    have op' := G'.ok G.low
    refine ⟨.tuple (rowD sg' ps'), .tuple (rowD sg' ps'), .tup (SqT.of g1) (.cons (.str _) (.cons (.tup (SqT.of g2) (dp_strs ps')) .nil)), .tup (SqT.of (s4 _ _ (s3 _ _ hw))) (.cons (.str _) (.cons (.tup (SqT.of (s4 _ _ (s3 _ _ ht))) (dp_strs ps')) .nil)), shaped_row oz op', shaped_row oz op', ?_⟩
    rw [SeqAt.eqv_refl (.tuple (rowD sg' ps')) (can_row oz op')]
    refine ⟨_, rfl, ?_⟩
    refine iteF ⟨_, rfl, ?_⟩
    exact k kd H4 hx (s3.trans s4) (K3.same s4)
abbrev NKI : List Str := ["_law_kind", "_law_abc", "_law_some", "_law_line", "_law_told"]
theorem scKIs : FnScope NKI ["_law_kind", "_law_abc", "_law_some"] (defScope sKIs) := ⟨rfl, rfl, rfl, by decide +kernel, rfl, by decide +kernel, by decide +kernel⟩
set_option maxHeartbeats 0 in
theorem ok_kis (F : Fun K "_law_kind_is" "_law_kind_is" sKIs f fd) (D : KindF K mg A) (Z : Free mg) : FnOk P w K mg base CX0 3 f fd ["_law_kind", "_law_abc", "_law_some"] (spKIs A.C) := by
  have GS : FnOk P w K mg base CX0 1 A.fS A.dS ["self"] (spKSig A.C) := ok_ksig D
  have GP : FnOk P w K mg base CX0 1 A.fP A.dP ["self"] (spKPai A.C) := ok_kpai D
  have GW : FnOk P w K mg base CX0 1 A.fW A.dW ["self"] (spKRow A.C) := ok_krow D
  refine F.ok scKIs (fun vs H Q E h => ?_) (fun cdv A' outer s H vs Q E hr h => ?_)
  · obtain ⟨r, a, sg0, sg, ps0, ps, rfl, _⟩ := h
    rfl
  · obtain ⟨r, a, sg0, sg, ps0, ps, rfl, G0, G0', ha, hsg, o1, hps, o2, Kd, k⟩ := h
    refine ⟨_, pss_cons (ps_set (i := 3) scKIs.nd rfl (.inl rfl) (pe_tup (pa_cons (pe_join pe_str (pe_callB (call_sortedTx rfl) (by rfl) D.sort (by decide +kernel) (pa_cons (pv 1) pa_nil))) (pa_cons (pe_callTy call_tuple_of (by rfl) D.tup (by decide +kernel) (pa_cons (pe_callB cr_sortedS (by rfl) D.sort (by decide +kernel) (pa_cons (pv 2) pa_nil)) pa_nil)) pa_nil))))
      (pss_cons (ps_set (i := 4) scKIs.nd rfl (.inl rfl) (pe_lst (pa_cons (pe_prop (pv 0) D.T.cl D.hS GS hr D.bS .nil pass0 rfl) (pa_cons (pe_prop (pv 0) D.T.cl D.hP GP hr D.bP .nil pass0 rfl) (pa_cons (pe_prop (pv 0) D.T.cl D.hW GW hr D.bW .nil pass0 rfl) pa_nil)))))
      (pss_cons (ps_if (PW.pt (pw_or (pt_not (pt_val (pe_callB call_isi (by rfl) Z.isi (by decide +kernel) (pa_cons (pe_ix ix_list (pv 4) pe_int (fun _ _ => rfl)) (pa_cons (pe_bltn (v := .ty "str") (u := .type "str") (by rfl) Z.str (by decide +kernel) rfl) pa_nil)))))
        (pw_or (pt_not (pt_val (pe_callB call_isi (by rfl) Z.isi (by decide +kernel) (pa_cons (pe_ix ix_list (pv 4) pe_int (fun _ _ => rfl)) (pa_cons (pe_bltn (v := .ty "tuple") (u := .type "tuple") (by rfl) D.tup (by decide +kernel) rfl) pa_nil)))))
        (pw_or1 (pt_not (pt_val (pe_callB call_isi (by rfl) Z.isi (by decide +kernel) (pa_cons (pe_ix ix_list (pv 4) pe_int (fun _ _ => rfl)) (pa_cons (pe_bltn (v := .ty "tuple") (u := .type "tuple") (by rfl) D.tup (by decide +kernel) rfl) pa_nil)))))))))
        (pss_one ps_never) pss_nil)
      (pss_one (ps_ret (pe_cmpR (op_eqD hr.units) (pv 4) (pe_lst (pa_cons (pe_ix ix_tup (pv 3) pe_int (fun _ _ => rfl)) (pa_cons (pe_ix ix_tup (pv 3) pe_int (fun _ _ => rfl)) (pa_cons (pv 3) pa_nil)))) (nomark _)))))), ?_⟩
    have few := G0.few
    have few' := G0'.few
    refine ⟨⟨_, rfl⟩, _, rfl, S sg0, rfl, by rw [S_len]; omega, fun ys p perm srt hp' => ?_⟩
    rw [S_cps] at perm
    obtain ⟨sg1, hsg1, rfl⟩ := perm_codes perm
    obtain rfl : sg1 = sg := sg_same srt o1 hsg1 hsg
    have sl := hsg1.length_eq
    refine ⟨_, p, sg1.map sOne, rfl, rfl, .inl (SqL.of upd_same), ?_, ?_⟩
    · have e1 : ((sg1.map sOne).map fun x => x.length) = List.replicate sg1.length 1 := by
        rw [List.map_map]
        exact List.map_eq_replicate_iff.mpr fun _ _ => rfl
      have e2 : (Str.ofString "").length = 0 := by decide +kernel
      rw [e1, e2, List.sum_replicate_nat]
      omega
    have ej : Txt.join (Str.ofString "") (sg1.map sOne) = S sg1 := join_one (by rw [sl]; exact G0.pos)
    rw [ej]
    have s1 := Same.put (o := .lst ((sg1.map sOne).map V.str)) (Same.refl H) hp'
    refine ⟨_, rfl, a, ps0, rfl, SqL.of (s1 _ _ ha), Nat.lt_of_le_of_lt few' (by decide), fun ys p2 perm2 srt2 hp2 => ⟨p2, _, rfl, .inl ⟨SqL.of upd_same, fun t ht => ?_⟩⟩⟩
    obtain rfl : ys = ps := sorted_same srt2 o2 (perm2.trans hps.symm)
    have s2 := Same.put (o := .tup (ys.map V.str)) (Same.put (o := .lst (ys.map V.str)) s1 hp2) ht
    have ht2 : (L2.upd (L2.upd (L2.upd H p (.lst ((sg1.map sOne).map V.str))) p2 (.lst (ys.map V.str))) t (.tup (ys.map V.str))) t = some (.tup (ys.map V.str)) := upd_same
    generalize (L2.upd (L2.upd (L2.upd H p (.lst ((sg1.map sOne).map V.str))) p2 (.lst (ys.map V.str))) t (.tup (ys.map V.str))) = H2 at s2 ht2 ⊢
    refine ⟨(by show 2 ≤ sizeLine; decide), fun u hu => ?_⟩
    have s3 := Same.put (o := .tup [.str (S sg1), .ref t]) s2 hu
    have hu3 : (L2.upd H2 u (.tup [.str (S sg1), .ref t])) u = some (.tup [.str (S sg1), .ref t]) := upd_same
    have ht3 := (Same.put (o := .tup [.str (S sg1), .ref t]) (Same.refl H2) hu) _ _ ht2
    generalize (L2.upd H2 u (.tup [.str (S sg1), .ref t])) = H3 at s3 hu3 ht3 ⊢
    have K3 := Kd.same s3
    obtain ⟨dx, tk, b, e1, e2⟩ := id K3
    refine ⟨_, rfl, r, dx, _, rfl, e1, r, sg1, ys, rfl, K3, _, rfl, r, dx, _, rfl, e1, r, sg1, ys, rfl, K3, fun t5 h5 => ?_⟩
    refine ⟨_, rfl, r, dx, _, rfl, e1, r, sg1, ys, rfl, K3, fun q t6 H4 hq s4 g1 g2 => ?_⟩
    refine ⟨(by show 3 ≤ sizeLine; decide), fun L hL => ?_⟩
    have s5 := Same.put (o := .lst [.str (S sg1), .ref t5, .ref q]) s4 hL
    have z4 := Same.put (o := .lst [.str (S sg1), .ref t5, .ref q]) (Same.refl H4) hL
    have hL5 : (L2.upd H4 L (.lst [.str (S sg1), .ref t5, .ref q])) L = some (.lst [.str (S sg1), .ref t5, .ref q]) := upd_same
    have g1' := z4 _ _ g1
    have g2' := z4 _ _ g2
    have h5' := s5 _ _ h5
    have hu5 := s5 _ _ hu3
    have ht5 := s5 _ _ ht3
    generalize (L2.upd H4 L (.lst [.str (S sg1), .ref t5, .ref q])) = H5 at s5 hL5 g1' g2' h5' hu5 ht5 ⊢
    refine ⟨_, rfl, L, _, _, _, rfl, rfl, SqL.of hL5, atI_nat (j := 0) rfl, _, _, .type "str", .type "str", true, rfl, .ty "str", .base (.str _), kit_ty (by decide +kernel), true, rfl, ?_⟩
    refine ⟨_, rfl, L, _, _, _, rfl, rfl, SqL.of hL5, atI_nat (j := 1) rfl, _, _, .type "tuple", .type "tuple", true, rfl, .ty "tuple", .base (.tup h5'), kit_ty (by decide +kernel), true, rfl, ?_⟩
    refine ⟨_, rfl, L, _, _, _, rfl, rfl, SqL.of hL5, atI_nat (j := 2) rfl, _, _, .type "tuple", .type "tuple", true, rfl, .ty "tuple", .base (.tup g1'), kit_ty (by decide +kernel), true, rfl, ?_⟩
    refine ⟨_, rfl, _, rfl, u, _, _, _, rfl, rfl, SqT.of hu5, atI_nat (j := 0) rfl, _, rfl, u, _, _, _, rfl, rfl, SqT.of hu5, atI_nat (j := 1) rfl, _, rfl, (by show 3 ≤ sizeLine; decide), fun M hM => ?_⟩
    have s6 := Same.put (o := .lst [.str (S sg1), .ref t, .ref u]) s5 hM
    have z6 := Same.put (o := .lst [.str (S sg1), .ref t, .ref u]) (Same.refl H5) hM
    have G := G0.perm hsg
    have oz := ok_low G.low
    have op' := (G0'.perm hsg hps).ok G.low
    refine ⟨.list (toldD sg1 ys), .list (toldD sg1 ys),
      .lst (SqL.of (z6 _ _ hL5)) (.cons (.str _) (.cons (.tup (SqT.of (z6 _ _ h5')) (dp_strs ys)) (.cons (.tup (SqT.of (z6 _ _ g1')) (.cons (.str _) (.cons (.tup (SqT.of (z6 _ _ g2')) (dp_strs ys)) .nil))) .nil))),
      .lst (SqL.of upd_same) (.cons (.str _) (.cons (.tup (SqT.of (z6 _ _ ht5)) (dp_strs ys)) (.cons (.tup (SqT.of (z6 _ _ hu5)) (.cons (.str _) (.cons (.tup (SqT.of (z6 _ _ ht5)) (dp_strs ys)) .nil))) .nil))), shaped_told oz op', shaped_told oz op', ?_⟩
    rw [SeqAt.eqv_refl (.list (toldD sg1 ys)) (can_told oz op')]
    exact k _ ((s3.trans s5).trans z6)
end
end Wb
/-! k10's law: pairs drawn -/
namespace Wb
open PySem L2 WbMin WbO WbT WbS
abbrev sShuf : Stmt := top 40
abbrev sEvery : Stmt := top 42
abbrev sCouples : Stmt := top 43
theorem PoolAt.same {H H' : Hp} {p : Addr} (h : PoolAt H p) (s : Same H H') : PoolAt H' p := by
  obtain ⟨a, b, c, e, r⟩ := h
  exact ⟨a, b, c, s _ _ e, r⟩
theorem allP_len (sg : List Nat) : (allP sg).length = sg.length * sg.length := by
  unfold allP
  rw [List.length_flatMap, show (sg.map fun a => (sg.map fun b => S [a, b]).length) = List.replicate sg.length sg.length from List.map_eq_replicate_iff.mpr fun _ _ => List.length_map .., List.sum_replicate_nat]
theorem prs_of {sg : List Nat} {ps : List Str} (G : Sgs sg) (nd : ps.Nodup) (sub : ∀ z ∈ ps, z ∈ allP sg) : Prs sg ps := by
  refine ⟨fun z hz => allP_mem.mp (sub z hz), nd, ?_⟩
  have h1 := few_of_sub (allP sg) ps nd sub
  rw [allP_len] at h1
  exact Nat.le_trans h1 (Nat.le_trans (Nat.mul_le_mul G.few G.few) (by decide))
theorem erase_map {α β : Type} (g : α → β) : ∀ (l : List α) (i : Nat), (l.map g).eraseIdx i = (l.eraseIdx i).map g
  | [], _ => rfl
  | _ :: _, 0 => rfl
  | x :: l, i + 1 => by
    show g x :: (l.map g).eraseIdx i = g x :: (l.eraseIdx i).map g
    rw [erase_map g l i]
theorem seq_nat {i n : Nat} (h : i < n) : seqIndex? (i : Int) n = some i := by
  unfold seqIndex?
  have h0 : ¬ ((i : Int) < 0) := by omega
  have h1 : ((i : Int) < (n : Int)) := by omega
  simp [h0, h1]
theorem perm_erase {α : Type} : ∀ {l : List α} {i : Nat} {x : α}, l[i]? = some x → (x :: l.eraseIdx i).Perm l
  | [], _, _, h => by cases h
  | y :: l, 0, x, h => by cases h; exact .refl _
  | y :: l, i + 1, x, h => by
    have ih := perm_erase (l := l) (i := i) h
    show (x :: y :: l.eraseIdx i).Perm (y :: l)
    exact (List.Perm.swap y x _).trans (ih.cons y)
def spShuf : Sp := fun vs H Q _ => ∃ (p L : Addr) (zs : List Str), vs = [.ref p, .ref L] ∧ H L = some (.lst (zs.map V.str)) ∧ zs.length ≤ 600 ∧ PoolAt H p ∧ ∀ (a : Addr) (ys : List Str) (H' : Hp), H' a = some (.lst (ys.map V.str)) → a ≠ p → ys.Perm zs → PoolAt H' p → But p H H' → Q (.ref a) H'
def spEvery : Sp := fun vs H Q _ => ∃ (sg : List Nat), vs = [.str (S sg)] ∧ sg.length ≤ 4 ∧ ∀ (a : Addr) (H' : Hp), H' a = some (.lst ((allP sg).map V.str)) → H a = none → Same H H' → Q (.ref a) H'
def spCouples : Sp := fun vs H Q _ => ∃ (p : Addr) (sg : List Nat), vs = [.ref p, .str (S sg)] ∧ Sgs sg ∧ PoolAt H p ∧ ∀ (a : Addr) (ps : List Str) (H' : Hp), H' a = some (.lst (ps.map V.str)) → a ≠ p → Prs sg ps → PoolAt H' p → But p H H' → Q (.ref a) H'
section
variable {P : Program} {w : World} {K : PySem.W.Frag} {mg : Str → Option Value} {base : Heap} {f fD fE fS : Addr} {fd fdD dE dS : FuncData}
theorem scSh : FnScope ["_law_pool_here", "_law_things", "_law_rest", "_law_found", "_law_turn"] ["_law_pool_here", "_law_things"] (defScope sShuf) := ⟨rfl, rfl, rfl, by decide +kernel, rfl, by decide +kernel, by decide +kernel⟩
set_option maxHeartbeats 0 in
theorem ok_shuf (F : Fun K "_law_shuffled" "_law_shuffled" sShuf f fd) (D : Def K mg "_law_draw" sDraw ["_law_pool_here", "_law_many"] fD fdD) (Z : Free mg) (mL : mg "list" = none) : FnOk P w K mg base CX0 2 f fd ["_law_pool_here", "_law_things"] spShuf := by
  have G : FnOk P w K mg base CX0 1 fD fdD ["_law_pool_here", "_law_many"] spDraw := ok_draw D.F Z.int Z.divmod
  refine F.ok scSh (fun vs H Q E h => ?_) (fun cdv A outer s H vs Q E hr h => ?_)
  · obtain ⟨p, L, zs, rfl, _⟩ := h
    rfl
  · obtain ⟨p, L, zs, rfl, hL, z1, hp, k⟩ := h
    refine ⟨_, pss_cons (ps_par (i := 2) (j := 3) (by rfl) scSh.nd rfl rfl (by decide) rfl rfl (pa_cons (pe_callTy call_list_of (by rfl) mL (by decide +kernel) (pa_cons (pv 1) pa_nil)) (pa_cons (pe_lst pa_nil) pa_nil)) (by rfl))
      (pss_cons (ps_for PassesOwn.never rfl (pi_range1 rfl Z.range (pa_cons (pe_callB call_len_seq (by rfl) Z.len PySem.boot_len (pa_cons (pv 1) pa_nil)) pa_nil)) (pg_name (i := 4) scSh.nd rfl (.inl rfl))
        (pss_one (ps_expr (pe_bm PySem.F.plainAttrs_list PySem.F.slot_list_append PySem.F.type_list_append mt_append (pv 3) (pa_cons
          (pe_bm PySem.F.plainAttrs_list PySem.F.slot_list_pop PySem.F.type_list_pop mt_popAt (pv 2) (pa_cons (pe_call G hr rfl D.g D.kp D.b .nil pass0 (pa_cons (pv 0) (pa_cons (pe_callB call_len_seq (by rfl) Z.len PySem.boot_len (pa_cons (pv 2) pa_nil)) pa_nil))) pa_nil)) pa_nil)))))
      (pss_one (ps_ret (pv 3)))), ?_⟩
    refine ⟨_, rfl, L, _, rfl, .inl (SqL.of hL), fun R hR => ⟨(by show 0 ≤ sizeLine; decide), fun F0 hF => ⟨_, _, rfl, ?_⟩⟩⟩
    have nR := hp.ne hR
    have hF1 := hF
    have nFR : F0 ≠ R := fun z => by
      rw [z, upd_same] at hF
      cases hF
    rw [upd_ne nFR] at hF1
    have nF := hp.ne hF1
    have nL : L ≠ p := by
      obtain ⟨x, y, z, e3, _⟩ := hp
      intro q
      subst q
      rw [e3] at hL
      injection hL with q
      injection q with q
      cases zs with
      | nil => cases q
      | cons a zs => cases q
    have hL2 := ((But.refl p H).upd (o := .lst (zs.map V.str)) hR).upd (o := .lst []) hF
    refine ⟨_, rfl, L, _, rfl, .inl (SqL.of (hL2 _ _ nL hL)), _, rfl, by rw [List.length_map]; omega, by rw [List.length_map]; omega, for_it walk_range
      (fun i σ H' => ∃ (rest found : List Str) (v4 : Option V), σ = [some (.ref p), some (.ref L), some (.ref R), some (.ref F0), v4] ∧ H' R = some (.lst (rest.map V.str)) ∧ H' F0 = some (.lst (found.map V.str)) ∧ (found ++ rest).Perm zs ∧ rest.length + i = zs.length ∧ found.length = i ∧ PoolAt H' p ∧ But p H H')
      ⟨zs, [], none, rfl, ?_, upd_same, .refl _, rfl, rfl, (hp.put nR).put nF, hL2⟩ (fun _ _ _ _ _ => trivial) ?_ ?_⟩
    · rw [upd_ne nFR.symm, upd_same]
    · rintro i x σ H2 H2' hi ⟨rest, found, v4, rfl, h1, h2, pm, r1, r2, hp2, b2⟩ ⟨rfl, rfl⟩
      rw [List.length_map] at hi
      refine ⟨_, rfl, .inl ⟨rfl, _, SqL.of h2⟩, _, rfl, .inl ⟨rfl, _, SqL.of h1⟩, _, rfl, _, rfl, R, _, rfl, .inl (SqL.of h1), p, _, rfl, ?_, ?_, hp2, fun e H3 e0 e1 hp3 b3 => ?_⟩
      · rw [List.length_map]; omega
      · rw [List.length_map]; omega
      · rw [List.length_map] at e1
        obtain ⟨j, rfl, hj'⟩ := int_lt e0 e1
        have hj : j < rest.length := by omega
        have g1 := b3 R _ nR h1
        have g2 := b3 F0 _ nF h2
        obtain ⟨z, hz⟩ : ∃ z, rest[j]? = some z := ⟨_, List.getElem?_eq_getElem hj⟩
        refine ⟨R, _, _, j, .str z, rfl, rfl, g1, by omega, by omega, ?_, ?_, F0, _, _, rfl, rfl, (upd_ne nFR).trans g2, ?_, ?_⟩
        · rw [List.length_map]
          exact seq_nat hj
        · rw [List.getElem?_map, hz] <;> rfl
        · rw [List.length_map, sizeLine_eq]; omega
        · refine ⟨rest.eraseIdx j, found ++ [z], _, rfl, ?_, ?_, ?_, ?_, ?_, (hp3.put nR).put nF, ?_⟩
          · rw [upd_ne nFR.symm, upd_same]
            exact congrArg (fun q => some (HO.lst q)) (erase_map _ _ _)
          · rw [upd_same, List.map_append] <;> rfl
          · rw [List.append_assoc]
            exact ((perm_erase hz).append_left found).trans pm
          · rw [List.length_eraseIdx, if_pos hj]; omega
          · rw [List.length_append, r2] <;> rfl
          · exact ((b2.trans b3).new hR).new hF1
    · rintro σ H2 ⟨rest, found, v4, rfl, h1, h2, pm, r1, r2, hp2, b2⟩
      rw [List.length_map] at r1
      have e0 : rest = [] := List.eq_nil_of_length_eq_zero (by omega)
      subst e0
      rw [List.append_nil] at pm
      exact ⟨_, rfl, k F0 found H2 h2 nF pm hp2 b2⟩
theorem scEv : FnScope ["_law_abc", "_law_found", "_law_near", "_law_far"] ["_law_abc"] (defScope sEvery) := ⟨rfl, rfl, rfl, by decide +kernel, rfl, by decide +kernel, by decide +kernel⟩
set_option maxHeartbeats 0 in
theorem ok_every (F : Fun K "_law_every" "_law_every" sEvery f fd) : FnOk P w K mg base CX0 1 f fd ["_law_abc"] spEvery := by
  refine F.ok scEv (fun vs H Q E h => ?_) (fun cdv A outer s H vs Q E hr h => ?_)
  · obtain ⟨sg, rfl, _⟩ := h
    rfl
  · obtain ⟨sg, rfl, few, k⟩ := h
    refine ⟨_, pss_cons (ps_set (i := 1) scEv.nd rfl (.inl rfl) (pe_lst pa_nil))
      (pss_cons (ps_for PassesOwn.never rfl (pi_str (pv 0)) (pg_name (i := 2) scEv.nd rfl (.inr rfl))
        (pss_one (ps_set (i := 1) scEv.nd rfl (.inl rfl) (pe_op op_cat (pv 1) (pe_lc (own := [("_law_far", 3)]) (g := gName 3) (tt := tYes) rfl scEv.nd (pi_str (pv 0)) (blkOk_by (N := ["_law_abc", "_law_found", "_law_near", "_law_far"]) (sc := defScope sEvery) (by decide +kernel)) (fun _ _ _ _ _ => pg_name (i := 3) scEv.nd rfl (.inl rfl)) (fun _ _ _ _ _ => pts_nil)
          (fun _ _ _ _ _ => pe_op op_add_str (pv 2) (pv 3)))))))
      (pss_one (ps_ret (pv 1)))), ?_⟩
    refine ⟨(by show 0 ≤ sizeLine; decide), fun L0 hL0 => ?_⟩
    refine ⟨_, rfl, _, rfl, for_it walk_str (fun i σ H' => ∃ (L : Addr) (v2 v3 : Option V), σ = [some (.str (S sg)), some (.ref L), v2, v3] ∧ H' L = some (.lst (((sg.take i).flatMap fun a => sg.map fun b => S [a, b]).map V.str)) ∧ H L = none ∧ Same H H')
      ⟨L0, none, none, rfl, upd_same, hL0, Same.put (Same.refl H) hL0⟩ (fun _ _ _ _ _ => trivial) ?_ ?_⟩
    · rintro i x σ H2 H2' hi ⟨L, v2, v3, rfl, h1, hL, s2⟩ ⟨rfl, c, hc, rfl⟩
      have hc' : sg[i]? = some c := by simpa [S] using hc
      rw [S_size] at hi
      have len : ((sg.take i).flatMap fun a => sg.map fun b => S [a, b]).length ≤ 16 := by
        have e : ((sg.take i).flatMap fun a => sg.map fun b => S [a, b]).length = (sg.take i).length * sg.length := by
          rw [List.length_flatMap, show ((sg.take i).map fun a => (sg.map fun b => S [a, b]).length) = List.replicate (sg.take i).length sg.length from List.map_eq_replicate_iff.mpr fun _ _ => List.length_map ..  , List.sum_replicate_nat]
        rw [e]
        exact Nat.le_trans (Nat.mul_le_mul (by rw [List.length_take]; omega : (sg.take i).length ≤ 4) few) (by decide)
      refine ⟨_, rfl, _, rfl, _, rfl, fun D hD => lc_it walk_str (fun j H3 => H3 D = some (.lst (((sg.take j).map fun b => S [c, b]).map V.str)) ∧ Same H2' H3) ⟨upd_same, Same.put (Same.refl _) hD⟩ (fun _ _ _ _ => trivial) ?_ ?_⟩
      · rintro j y H3 H3' hj ⟨e1, e2⟩ ⟨rfl, d, hd, rfl⟩
        have hd' : sg[j]? = some d := by simpa [S] using hd
        refine ⟨rfl, _, rfl, _, rfl, _, _, rfl, rfl, (by show 1 + 1 ≤ sizeLine; decide), _, e1, ?_, ?_, Same.new' e2 hD⟩
        · rw [List.length_map, List.length_map, sizeLine_eq]
          have := List.length_take_le' j sg
          omega
        · rw [upd_same, take_more hd']
          refine congrArg (fun q => some (HO.lst q)) ?_
          simp only [List.map_append, List.map_cons, List.map_nil]
          rfl
      · rintro H3 ⟨e1, e2⟩
        rw [S_size, List.take_length] at e1
        refine ⟨L, D, _, _, rfl, rfl, e2 _ _ h1, e1, ?_, fun M hM => ⟨M, _, _, rfl, ?_, ?_, Same.put (s2.trans e2) hM⟩⟩
        · rw [List.length_map, List.length_map, List.length_map, sizeLine_eq]
          omega
        · rw [upd_same, take_more hc', List.flatMap_append, List.map_append]
          simp
        · cases e : H M with
          | none => rfl
          | some o =>
            rw [e2 _ _ (s2 _ _ e)] at hM
            cases hM
    · rintro σ H2 ⟨L, v2, v3, rfl, h1, hL, s2⟩
      rw [S_size, List.take_length] at h1
      exact ⟨_, rfl, k L H2 h1 hL s2⟩
end
end Wb
namespace Wb
open PySem L2 WbMin WbO WbT WbS
theorem dp_ints {K : PySem.W.Frag} {H : Hp} : ∀ zs : List Int, DpAll K H (zs.map V.int) (zs.map PyData.int)
  | [] => .nil
  | z :: r => .cons (.int z) (dp_ints r)
theorem can_ints : ∀ zs : List Int, PyData.canLayAll0 (zs.map PyData.int) = true
  | [] => rfl
  | z :: r => by
    show (true && PyData.canLayAll0 (r.map PyData.int)) = true
    rw [can_ints r] <;> rfl
theorem depth_ints : ∀ zs : List Int, PyData.depthAll (zs.map PyData.int) = 0
  | [] => rfl
  | z :: r => by
    show max (PyData.depth (.int z)) (PyData.depthAll (r.map PyData.int)) = 0
    rw [depth_ints r] <;> rfl
theorem shaped_ints (zs : List Int) : SeqAt.shaped (.list (zs.map PyData.int)) = true := by
  have d : PyData.depth (.list (zs.map PyData.int)) = 1 := by
    show PyData.depthAll (zs.map PyData.int) + 1 = 1
    rw [depth_ints]
  unfold SeqAt.shaped
  rw [d]
  show (PyData.canLayAll0 (zs.map PyData.int) && decide (1 ≤ 64)) = true
  rw [can_ints] <;> rfl
theorem shaped_strs {zs : List Str} (h : ∀ z ∈ zs, PyData.strOk z = true) : SeqAt.shaped (.list (zs.map PyData.str)) = true := by
  have d : PyData.depth (.list (zs.map PyData.str)) = 1 := by
    show PyData.depthAll (zs.map PyData.str) + 1 = 1
    rw [depthAll_strs]
  unfold SeqAt.shaped
  rw [d]
  show (PyData.canLayAll0 (zs.map PyData.str) && decide (1 ≤ 64)) = true
  rw [can_strs h] <;> rfl
theorem ok_one {c : Nat} (h : c < 1000) : PyData.strOk (one c) = true := by
  unfold PyData.strOk one
  rw [Array.all_eq_true]
  intro i hi
  have e : i = 0 := by
    have : i < 1 := hi
    omega
  subst e
  show decide _ = true
  simp only [decide_eq_true_eq]
  show c < _
  omega
theorem eqv_nil {α : Type} (f : α → PyData) : ∀ zs : List α, PyData.eqv (.list (zs.map f)) (.list []) = zs.isEmpty
  | [] => rfl
  | _ :: _ => rfl
theorem filter_none {α : Type} (f : α → Bool) : ∀ l : List α, (l.filter fun c => !f c).isEmpty = l.all f
  | [] => rfl
  | c :: l => by
    cases h : f c with
    | true =>
      rw [List.filter_cons_of_neg (by simp [h]), List.all_cons, h, Bool.true_and]
      exact filter_none f l
    | false =>
      rw [List.filter_cons_of_pos (by simp [h]), List.all_cons, h] <;> rfl
theorem at_last {l : List Nat} (h : 0 < l.length) : atI l (-1) = some (l.getD (l.length - 1) 0) := by
  have q := at_before (l := l) (i := 0) h
  rw [Nat.zero_add, Nat.mod_eq_of_lt (by omega)] at q
  exact q
section
variable {P : Program} {w : World} {K : PySem.W.Frag} {mg : Str → Option Value} {base : Heap} {f fD fE fS : Addr} {fd fdD dE dS : FuncData}
abbrev NCo : List Str := ["_law_pool_here", "_law_abc", "_law_every_here", "_law_way", "_law_some", "_law_mate"]
theorem scCo : FnScope NCo ["_law_pool_here", "_law_abc"] (defScope sCouples) := ⟨rfl, rfl, rfl, by decide +kernel, rfl, by decide +kernel, by decide +kernel⟩
set_option maxHeartbeats 0 in
theorem ok_couples (F : Fun K "_law_couples" "_law_couples" sCouples f fd) (D : Def K mg "_law_draw" sDraw ["_law_pool_here", "_law_many"] fD fdD) (DE : Def K mg "_law_every" sEvery ["_law_abc"] fE dE) (DS : Def K mg "_law_shuffled" sShuf ["_law_pool_here", "_law_things"] fS dS) (Z : Free mg) (mL : mg "list" = none) : FnOk P w K mg base CX0 3 f fd ["_law_pool_here", "_law_abc"] spCouples := by
  have G : FnOk P w K mg base CX0 1 fD fdD ["_law_pool_here", "_law_many"] spDraw := ok_draw D.F Z.int Z.divmod
  have GE : FnOk P w K mg base CX0 1 fE dE ["_law_abc"] spEvery := ok_every DE.F
  have GS : FnOk P w K mg base CX0 2 fS dS ["_law_pool_here", "_law_things"] spShuf := ok_shuf DS.F D Z mL
  refine F.ok scCo (fun vs H Q E h => ?_) (fun cdv A outer s H vs Q E hr h => ?_)
  · obtain ⟨p, sg, rfl, _⟩ := h
    rfl
  · obtain ⟨p, sg, rfl, Gs, hp, k⟩ := h
    have hr1 : Room 1 _ := hr.mono (by decide)
    refine ⟨_, pss_cons (ps_asg (pe_tup (pa_cons (pe_call GE hr1 rfl DE.g DE.kp DE.b .nil pass0 (pa_cons (pv 1) pa_nil)) (pa_cons (pe_call G hr1 rfl D.g D.kp D.b .nil pass0 (pa_cons (pv 0) (pa_cons pe_int pa_nil))) pa_nil))) (pg_tup (by rfl) (pgs_cons (pg_name (i := 2) scCo.nd rfl (.inl rfl)) (pgs_cons (pg_name (i := 3) scCo.nd rfl (.inr rfl)) pgs_nil))))
      (pss_cons (ps_if (pt_cmpR op_lt (pv 3) pe_int (nomark _)) (pss_one (ps_ret (pe_ix ix_list (pe_lst (pa_cons (pv 2) (pa_cons (pe_lst pa_nil) pa_nil))) (pv 3) (fun _ _ => rfl)))) pss_nil)
      (pss_cons (ps_setLc (i := 4) (own := [("_law_mate", 5)]) (g := gName 5) rfl scCo.nd rfl rfl (sw_true rfl rfl rfl (by decide +kernel)) (pi_list (pv 2)) (blkOk_by (N := NCo) (sc := defScope sCouples) (by decide +kernel)) (fun _ _ _ _ _ => pg_name (i := 5) scCo.nd rfl (.inl rfl))
          (fun _ _ _ _ _ => pts_one (pt_cmpR op_lt (pe_call G hr1 rfl D.g D.kp D.b .nil pass0 (pa_cons (pv 0) (pa_cons pe_int pa_nil))) (pe_ix (show IxR _ (rIxL K) from ix_list) (pe_lst (pa_cons pe_int (pa_cons pe_int pa_nil))) (pe_callTy call_int1 (by rfl) Z.int (by decide +kernel) (pa_cons (pe_cmpR op_lt (pv 3) pe_int (nomark _)) pa_nil)) (fun _ _ => rfl)) (nomark _))) (fun _ _ _ _ _ => pv 5))
      (pss_one (ps_ret (pe_call GS hr rfl DS.g DS.kp DS.b .nil pass0 (pa_cons (pv 0) (pa_cons (pv 4) pa_nil))))))), ?_⟩
    have lenE : (allP sg).length ≤ 16 := by
      rw [allP_len]
      exact Nat.le_trans (Nat.mul_le_mul Gs.few Gs.few) (by decide)
    refine ⟨_, rfl, sg, rfl, Gs.few, fun E0 H1 hE hE0 s1 => ?_⟩
    have nE := hp.ne hE0
    have hp1 := hp.same s1
    refine ⟨_, rfl, p, _, rfl, by decide, by decide, hp1, fun d H2 d0 d1 hp2 b2 => ?_⟩
    refine ⟨(by show 2 ≤ sizeLine; decide), fun t ht => ?_⟩
    have nt := hp2.ne ht
    have hE3 : (L2.upd H2 t (.tup [.ref E0, .int d])) E0 = some (.lst ((allP sg).map V.str)) := ((But.refl p H2).upd ht) _ _ nE (b2 _ _ nE hE)
    have hp3 := hp2.put (o := .tup [.ref E0, .int d]) nt
    have b3 := ((But.of s1).trans b2).upd (o := .tup [.ref E0, .int d]) ht
    refine ⟨t, _, rfl, SqT.of upd_same, rfl, _, _, rfl, _, _, rfl, rfl, ?_⟩
    generalize (L2.upd H2 t (.tup [.ref E0, .int d])) = H3 at hE3 hp3 b3 ⊢
    refine ⟨_, rfl, _, _, rfl, rfl, _, rfl, ite2 (fun q => ?_) (fun q => ?_)⟩
    · have q' := of_decide_eq_true q
      refine ⟨_, rfl, (by show 0 ≤ sizeLine; decide), fun a0 ha0 => ⟨(by show 2 ≤ sizeLine; decide), fun L hL => ⟨_, rfl, ?_⟩⟩⟩
      have na0 := hp3.ne ha0
      have hp4 := hp3.put (o := .lst []) na0
      have nL := hp4.ne hL
      have b5 := (b3.upd (o := .lst []) ha0).upd (o := .lst [.ref E0, .ref a0]) hL
      have bE := ((But.refl p H3).upd (o := .lst []) ha0).upd (o := .lst [.ref E0, .ref a0]) hL
      have bA := (But.refl p (L2.upd H3 a0 (.lst []))).upd (o := .lst [.ref E0, .ref a0]) hL
      obtain ⟨j, rfl, j1⟩ := int_lt d0 q'
      rcases j with _ | _ | j
      · exact ⟨L, _, _, _, rfl, rfl, SqL.of upd_same, atI_nat (j := 0) rfl, k E0 (allP sg) _ (bE _ _ nE hE3) nE (prs_of Gs (pair_nd Gs.nd) fun _ h => h) (hp4.put nL) b5⟩
      · exact ⟨L, _, _, _, rfl, rfl, SqL.of upd_same, atI_nat (j := 1) rfl, k a0 [] _ (bA _ _ na0 upd_same) na0 ⟨(fun z hz => nomatch hz), List.nodup_nil, Nat.zero_le _⟩ (hp4.put nL) b5⟩
      · omega
    · refine ⟨_, rfl, E0, rfl, ⟨_, SqL.of hE3⟩, fun D0 hD => lc_it (walk_list (xs := (allP sg).map V.str)) (fun i H4 => ∃ q : List Str, H4 D0 = some (.lst (q.map V.str)) ∧ q.Sublist ((allP sg).take i) ∧ PoolAt H4 p ∧ But p H3 H4) ⟨[], upd_same, List.nil_sublist _, hp3.put (hp3.ne hD), (But.refl p H3).upd hD⟩ (fun _ _ _ h => by obtain ⟨_, _, _, _, h⟩ := h; exact SqL.of (h _ _ nE hE3)) ?_ ?_⟩
      · rintro i x H4 H4' hi ⟨q2, g1, g2, g3, g4⟩ ⟨rfl, hx⟩
        have nD := hp3.ne hD
        rw [List.getElem?_map] at hx
        obtain ⟨z, hz, rfl⟩ := Option.map_eq_some_iff.mp hx
        rw [List.length_map] at hi
        refine ⟨rfl, _, rfl, p, _, rfl, by decide, by decide, g3, fun e H5 e0 e1 hp5 b5 => ?_⟩
        refine ⟨(by show 2 ≤ sizeLine; decide), fun M hM => ?_⟩
        refine ⟨_, rfl, _, _, rfl, rfl, .inr ⟨_, rfl, ?_⟩⟩
        have nM := hp5.ne hM
        obtain ⟨y, hy⟩ : ∃ y : Int, atI [V.int 2, V.int 3] (if decide (d < 5) = true then (1 : Int) else 0) = some (.int y) := by
          split
          · exact ⟨3, atI_nat (j := 1) rfl⟩
          · exact ⟨2, atI_nat (j := 0) rfl⟩
        refine ⟨M, _, _, _, rfl, rfl, SqL.of upd_same, hy, _, _, rfl, rfl, _, rfl, ite2 (fun _ => ?_) (fun _ => ?_)⟩
        · have ql : q2.length ≤ 16 := Nat.le_trans g2.length_le (by rw [List.length_take]; omega)
          refine ⟨_, rfl, _, ((But.refl p H5).upd hM) _ _ nD (b5 _ _ nD g1), ?_, q2 ++ [z], ?_, ?_, (hp5.put nM).put nD, ((g4.trans b5).upd hM).new hD⟩
          · rw [List.length_map, sizeLine_eq]
            omega
          · rw [upd_same, List.map_append] <;> rfl
          · rw [take_more hz]
            exact g2.append (List.Sublist.refl _)
        · refine ⟨q2, ((But.refl p H5).upd hM) _ _ nD (b5 _ _ nD g1), ?_, hp5.put nM, (g4.trans b5).upd hM⟩
          rw [take_more hz]
          exact g2.trans (List.sublist_append_left _ _)
      · rintro H4 ⟨q2, g1, g2, g3, g4⟩
        rw [List.length_map, List.take_length] at g2
        have ql : q2.length ≤ 16 := Nat.le_trans g2.length_le lenE
        refine ⟨_, rfl, _, rfl, p, D0, q2, rfl, g1, by omega, g3, fun a ys H6 h6 na pm hp6 b6 => ?_⟩
        exact k a ys H6 h6 na (prs_of Gs (pm.nodup_iff.mpr (g2.nodup (pair_nd Gs.nd))) fun z hz => g2.subset (pm.mem_iff.mp hz)) hp6 ((b3.trans g4).trans b6)
end
end Wb
namespace WbO
open PySem PySem.Spec PyProof.Rows L2
section
variable {X : Cx} {CX : CXT} {k : Nat} {C g : Addr} {fd : FuncData} {ps : List Str} {sp : Sp} {E : XK}
def rEqX (K : PySem.W.Frag) (C : Addr) (sp : Sp) (E : XK) : R2 := fun x y H Q => ∃ (a dx : Addr) (fs : List (Str × V)) (t : Value), x = .ref a ∧ H a = some (.ins C dx fs) ∧ TyX K H y t ∧ PySem.W.notFirst K C t = true ∧ sp [.ref a, y] H Q E
theorem op_eqX (hs : PySem.W.findIn X.K (.ref C) "__eq__" = some (some (.ref g))) (hf : PySem.W.isFn X.K (.ref g) = true) (F : FnOk X.prog X.w X.K X.mg X.base CX k g fd ps sp) (hr : Room k X.A) (hb : Binds X.K fd ps []) (hx : Passes CX X.nox E) : OpR X (compareOp .Eq) (rEqX X.K C sp E) := by
  intro pins s σ H x y v u Q I rx ry h
  obtain ⟨a, dx, fs, t, rfl, ha, ty, nf, q⟩ := h
  cases (show v = Value.ref a from rx)
  obtain ⟨mA, O, _⟩ := ins_get I.hok ha
  obtain ⟨od, J, _⟩ := O.look
  obtain ⟨m, hF⟩ := I.fr
  obtain ⟨P, Z, pp, _⟩ := kit_of I ry ty
  show wpAny (model X.prog X.w) X.A (richCompare .Eq (.ref a) u) _ _ s
  refine PySem.W.cmp_K (op := .Eq) (tb := t) hr.units0 hF I.ok.mod.kin J (Z.ty _ _ I.kIn pp) nf hs hf (wpAny_mono (run_at (vs := [.ref a, y]) (us := [.ref a, u]) F hr I.env0 hb hx I (.cons rfl (.cons ry .nil)) q) (fun w s' z => ?_) fun _ _ x => x)
  obtain ⟨z', H', I', rz, qz⟩ := z
  exact SlX.cmpback rz ⟨z', H', I', rz, qz⟩
def rNeX (K : PySem.W.Frag) (C : Addr) (sp : Sp) (E : XK) : R2 := fun x y H Q => ∃ (a dx : Addr) (fs : List (Str × V)) (t : Value), x = .ref a ∧ H a = some (.ins C dx fs) ∧ TyX K H y t ∧ PySem.W.notFirst K C t = true ∧ sp [.ref a, y] H (fun v H' => ∃ c : Bool, v = .bl c ∧ Q (.bl (!c)) H') E
theorem op_neX (hn : PySem.W.findIn X.K (.ref C) "__ne__" = some (some (.builtin "object.__ne__"))) (hm : PySem.W.mroIn X.K C (.type "object") = some true) (hs : PySem.W.findIn X.K (.ref C) "__eq__" = some (some (.ref g))) (hf : PySem.W.isFn X.K (.ref g) = true)
    (F : FnOk X.prog X.w X.K X.mg X.base CX k g fd ps sp) (hr : Room (k + 1) X.A) (hb : Binds X.K fd ps []) (hx : Passes CX X.nox E) : OpR X (compareOp .NotEq) (rNeX X.K C sp E) := by
  intro pins s σ H x y v u Q I rx ry h
  obtain ⟨a, dx, fs, t, rfl, ha, ty, nf, q⟩ := h
  cases (show v = Value.ref a from rx)
  obtain ⟨mA, O, _⟩ := ins_get I.hok ha
  obtain ⟨od, J, _⟩ := O.look
  obtain ⟨P, Z, pp, _⟩ := kit_of I ry ty
  have un := hr.units
  show wpAny (model X.prog X.w) X.A (richCompare .NotEq (.ref a) u) _ _ s
  refine ne_own (by omega) I.kIn J (Z.ty _ _ I.kIn pp) nf hn hm hs hf (wpAny_mono (run_at (vs := [.ref a, y]) (us := [.ref a, u]) F hr.in1 I.env0.in1 hb hx I (.cons rfl (.cons ry .nil)) q) (fun w s' z => ?_) fun _ _ x => x)
  obtain ⟨z', H', I', rz, c, rfl, qz⟩ := z
  cases (show w = Value.bool c from rz)
  exact ⟨c, rfl, .bl (!c), H', I', rfl, qz⟩
end
end WbO
namespace WbO
open PySem PySem.Spec PyProof.Rows L2
section
variable {X : Cx}
/-- z[::-1] of a text -/
def tRevS (te : TE) : TE := fun σ H Q => te σ H fun x H1 => ∃ z : Str, x = .str z ∧ z.length ≤ sizeLine ∧ Q (.str ⟨z.cps.toList.reverse.toArray⟩) H1
theorem pe_revS {e : Expr} {te : TE} {c : Nat} {p1 p2 p3 pos : Pos} (he : PE X e te) : PE X (.Subscript e (.Slice none none (some (.UnaryOp .USub (.Constant (.int 1) c p1) p2)) p3) pos) (tRevS te) := by
  refine ⟨fun pins s σ H Q I h => Subscript_ (thn (he.run pins s σ H _ I h) fun v s1 ⟨x, H1, I1, r1, z, ex, hz, q⟩ => ?_)⟩
  subst ex
  obtain ⟨t, rfl⟩ := r1
  have hst : PO X (some (.UnaryOp .USub (.Constant (.int 1) c p1) p2)) (tPart (tUn (rU fun i => .int (-i)) (tC (.int 1)))) := po_some (pe_un un_neg pe_int)
  refine wpAny_Slice (thn (po_none.run pins s1 σ H1 (fun o H2 => o = none ∧ H2 = H1) I1 ⟨rfl, rfl⟩) fun vl s2 ⟨l, H2, I2, pl, el, e2⟩ => ?_)
  subst el e2
  refine thn (po_none.run pins s2 σ H2 (fun o H3 => o = none ∧ H3 = H2) I2 ⟨rfl, rfl⟩) fun vu s3 ⟨u, H3, I3, pu, eu, e3⟩ => ?_
  subst eu e3
  refine thn (hst.run pins s3 σ H3 (fun o H4 => o = some (-1) ∧ H4 = H3) I3 ⟨1, rfl, -1, rfl, rfl, rfl⟩) fun vs s4 ⟨o, H4, I4, ps, eo, e4⟩ => ?_
  subst eo e4
  cases pl
  cases pu
  cases ps with
  | int _ t3 =>
    have I5 : Inv X pins σ H4 { s4 with heap := s4.heap.push { cls := .type "slice", data := .fields #[.none, .none, .int (-1) t3] } } := I4.kept (t' := s4.toks) fun b ob q => Heap.get?_push_of_some _ q
    refine tail_any (ops := [.str z t, .ref s4.heap.objs.size]) (typeIs_str _ _ _) PySem.F.slot_str_getitem.lookup ?_ (by with_unfolding_all rfl)
    refine wpAny_getItem_str_slice (l := none) (u := none) (st := some (-1, t3)) ⟨_, Heap.get?_push_size _ rfl, rfl, rfl⟩ rfl ?_
    have no : ¬ ((((some ((-1 : Int), t3)).map (·.1)).getD 1 == 1 && (slicePicked z none none (some (-1, t3))).length == z.length) = true) := by
      have q : (((some ((-1 : Int), t3)).map (·.1)).getD 1 == 1) = false := rfl
      rw [q] ; simp
    have e0 : sliceMade z t none none (some (-1, t3)) = Made.str (Txt.sliceBy z none none (-1, t3)) := by
      unfold sliceMade Txt.sliceBy
      rw [if_neg no, if_neg no]
    have e1 : Txt.sliceBy z none none (-1, t3) = ⟨z.cps.toList.reverse.toArray⟩ := by
      have q := step_rev_list z t3
      have r : (List.range z.length).map (fun k => z.cps.getD (z.length - 1 - k) 0) = z.cps.toList.reverse := by
        refine List.ext_getElem? fun j => ?_
        have hl : z.cps.toList.length = z.length := Array.length_toList
        by_cases hj : j < z.length
        · have h2 : z.length - 1 - j < z.cps.size := by show z.length - 1 - j < z.length; omega
          rw [List.getElem?_map, List.getElem?_range hj, List.getElem?_reverse (by rw [hl]; exact hj), hl, Array.getElem?_toList, Array.getElem?_eq_getElem h2]
          show some (z.cps.getD (z.length - 1 - j) 0) = _
          simp [Array.getD, h2]
        · rw [List.getElem?_eq_none (by rw [List.length_map, List.length_range]; omega), List.getElem?_eq_none (by rw [List.length_reverse, hl]; omega)]
      rw [r] at q
      rw [← q]
    rw [e0, e1]
    refine ⟨?_, .str _, H4, I5.tok _, ⟨_, rfl⟩, q⟩
    show (z.cps.toList.reverse.toArray).size ≤ sizeLine
    rw [List.size_toArray, List.length_reverse, Array.length_toList]
    exact hz
end
end WbO
namespace Wb
open PySem L2 WbMin WbO WbT WbS
section
variable {K : PySem.W.Frag} {mg : Str → Option Value} {A : KA} {H : Hp} {E : XK} {Q : VK} {r r2 : Addr} {sg sg2 : List Nat} {ps ps2 : List Str} {b : Bool}
theorem eqk_go (D : KindF K mg A) (R0 : KindAt A.C H r sg ps) (R1 : KindAt A.C H r2 sg2 ps2) (o1 : Prs' ps) (o2 : Prs' ps2) (e : sameK sg sg2 ps ps2 = b) (k : Q (.bl b) H) : rEqX K A.C (spKEq K A.C) E (.ref r) (.ref r2) H Q := by
  obtain ⟨dx, t, rb, e1, e2⟩ := id R0
  obtain ⟨dx2, t2, rb2, f1, f2⟩ := id R1
  exact ⟨r, dx, _, .ref A.C, rfl, e1, .base (.ins f1 D.T.cl D.T.hcl D.hgt D.htk D.T.hob), D.nf, r, sg, ps, .ref r2, b, rfl, R0, .inl ⟨r2, sg2, ps2, rfl, R1, o1, o2, e.symm⟩, k⟩
theorem nek_go (D : KindF K mg A) (R0 : KindAt A.C H r sg ps) (R1 : KindAt A.C H r2 sg2 ps2) (o1 : Prs' ps) (o2 : Prs' ps2) (e : sameK sg sg2 ps ps2 = b) (k : Q (.bl (!b)) H) : rNeX K A.C (spKEq K A.C) E (.ref r) (.ref r2) H Q := by
  obtain ⟨dx, t, rb, e1, e2⟩ := id R0
  obtain ⟨dx2, t2, rb2, f1, f2⟩ := id R1
  exact ⟨r, dx, _, .ref A.C, rfl, e1, .base (.ins f1 D.T.cl D.T.hcl D.hgt D.htk D.T.hob), D.nf, r, sg, ps, .ref r2, b, rfl, R0, .inl ⟨r2, sg2, ps2, rfl, R1, o1, o2, e.symm⟩, b, rfl, k⟩
theorem eqt_go (D : KindF K mg A) (R0 : KindAt A.C H r sg ps) {t : Addr} {xs : List V} (ht : H t = some (.tup xs)) (k : Q (.bl false) H) : rEqX K A.C (spKEq K A.C) E (.ref r) (.ref t) H Q := by
  obtain ⟨dx, t', rb, e1, e2⟩ := id R0
  exact ⟨r, dx, _, .type "tuple", rfl, e1, .base (.tup ht), D.n2, r, sg, ps, .ref t, false, rfl, R0, .inr ⟨⟨_, .base (.tup ht), D.k2⟩, rfl⟩, k⟩
theorem nes_go (D : KindF K mg A) (R0 : KindAt A.C H r sg ps) {z : Str} (k : Q (.bl true) H) : rNeX K A.C (spKEq K A.C) E (.ref r) (.str z) H Q := by
  obtain ⟨dx, t', rb, e1, e2⟩ := id R0
  exact ⟨r, dx, _, .type "str", rfl, e1, .base (.str z), D.n1, r, sg, ps, .str z, false, rfl, R0, .inr ⟨⟨_, .base (.str z), D.k1⟩, rfl⟩, false, rfl, k⟩
end
/-! ### what the law's texts are -/
theorem perm_of_sub {α : Type} [DecidableEq α] : ∀ {l m : List α}, l.Nodup → (∀ x ∈ l, x ∈ m) → m.length ≤ l.length → l.Perm m
  | [], m, _, _, h => by
    have : m = [] := List.eq_nil_of_length_eq_zero (by simpa using h)
    rw [this]
  | x :: l, m, nd, sub, h => by
    obtain ⟨n1, n2⟩ := List.nodup_cons.mp nd
    have hx : x ∈ m := sub x List.mem_cons_self
    have p := List.perm_cons_erase hx
    have le := List.length_erase_of_mem hx
    have pos := List.length_pos_of_mem hx
    have q : l.Perm (m.erase x) := perm_of_sub n2 (fun y hy => (List.mem_erase_of_ne (fun e => n1 (by rw [← e]; exact hy))).mpr (sub y (List.mem_cons_of_mem _ hy))) (by rw [le]; simp only [List.length_cons] at h; omega)
    exact (q.cons x).trans p.symm
theorem same_all {sg0 : List Nat} {ps0 ps ws : List Str} (P0 : Prs sg0 ps0) (hp : ps.Perm ps0) (op : PyProof.Rows.sortedS ps = true) (hw : ws.Perm (allP sg0)) (ow : PyProof.Rows.sortedS ws = true) : decide (ws = ps) = decide (((ps0.length : Nat) : Int) = ((sg0.length : Nat) : Int) * ((sg0.length : Nat) : Int)) := by
  have e : (ws = ps) ↔ ps0.length = sg0.length * sg0.length := by
    constructor
    · intro q
      rw [← allP_len, ← hw.length_eq, q, hp.length_eq]
    · intro q
      refine sorted_same ow op (hw.trans (List.Perm.symm (hp.trans (perm_of_sub P0.nd (fun z hz => allP_mem.mpr (P0.of z hz)) ?_))))
      rw [allP_len, q] <;> exact Nat.le_refl _
  refine decide_eq_decide.mpr (e.trans ?_)
  rw [← Int.natCast_mul]
  omega
theorem less_ne {ps0 : List Str} (h : ps0 ≠ []) : ps0.dropLast.length ≠ ps0.length := by
  rw [List.length_dropLast]
  have := List.length_pos_iff.mpr h
  omega
theorem cut_last (ps0 : List Str) : cutV (ps0.map V.str) none (some (-1)) = ps0.dropLast.map V.str := by
  unfold cutV
  rw [HT.sIx_none, List.drop_zero, List.length_map]
  show List.take ((if (-1 : Int) < 0 then ((-1 : Int) + (ps0.length : Int)).toNat else min (-1 : Int).toNat ps0.length) - 0) _ = _
  rw [if_pos (by decide), List.dropLast_eq_take, ← List.map_take, show ((-1 : Int) + (ps0.length : Int)).toNat - 0 = ps0.length - 1 by omega]
theorem cut_four (l : List Nat) : cutS (S l) (some (-4)) none = S (l.drop (l.length - 4)) := by
  show S _ = S _
  rw [HT.sIx_none, S_len, S_cps]
  refine congrArg S ?_
  show List.take (l.length - (if (-4 : Int) < 0 then ((-4 : Int) + (l.length : Int)).toNat else min (-4 : Int).toNat l.length)) (List.drop (if (-4 : Int) < 0 then ((-4 : Int) + (l.length : Int)).toNat else min (-4 : Int).toNat l.length) l) = _
  rw [if_pos (by decide), show ((-4 : Int) + (l.length : Int)).toNat = l.length - 4 by omega]
  exact List.take_of_length_le (by rw [List.length_drop]; omega)
/-- the last four of the signs and one more -/
theorem other_sgs {sg0 : List Nat} {m : Nat} (G : Sgs sg0) (hm : m ∉ sg0) (lm : 97 ≤ m ∧ m ≤ 122) : Sgs ((sg0 ++ [m]).drop ((sg0 ++ [m]).length - 4)) := by
  have nd : (sg0 ++ [m]).Nodup := by
    rw [List.nodup_append]
    exact ⟨G.nd, by simp, fun a ha b hb q => hm (by rw [← List.mem_singleton.mp hb, ← q]; exact ha)⟩
  have few := G.few
  have pos := G.pos
  refine ⟨fun c hc => ?_, nd.sublist (List.drop_sublist _ _), ?_, ?_⟩
  · rcases List.mem_append.mp (List.mem_of_mem_drop hc) with h | h
    · exact G.low c h
    · rw [List.mem_singleton.mp h]
      exact lm
  · rw [List.length_drop, List.length_append]
    show 0 < _ + 1 - (_ + 1 - 4)
    omega
  · rw [List.length_drop, List.length_append]
    show _ + 1 - (_ + 1 - 4) ≤ 4
    omega
theorem other_mem {sg0 : List Nat} {m : Nat} (G : Sgs sg0) : m ∈ (sg0 ++ [m]).drop ((sg0 ++ [m]).length - 4) := by
  have few := G.few
  rw [List.drop_append_of_le_length (by rw [List.length_append]; show _ + 1 - 4 ≤ _; omega)]
  exact List.mem_append_right _ List.mem_cons_self
theorem other_prs {a : Nat} {t : List Nat} {m : Nat} {ps0 : List Str} (G : Sgs (a :: t)) (P0 : Prs (a :: t) ps0) : Prs (((a :: t) ++ [m]).drop (((a :: t) ++ [m]).length - 4)) (ps0.filter fun z => !decide (a ∈ z.cps.toList)) := by
  refine ⟨fun z hz => ?_, P0.nd.sublist List.filter_sublist, Nat.le_trans (List.length_filter_le _ _) P0.few⟩
  obtain ⟨h1, h2⟩ := List.mem_filter.mp hz
  obtain ⟨b, c, hb, hc, rfl⟩ := P0.of z h1
  have h3 : a ∉ [b, c] := by
    have q : ¬ a ∈ (S [b, c]).cps.toList := by simpa using h2
    rwa [S_cps] at q
  have few := G.few
  have inn : ∀ d ∈ a :: t, d ≠ a → d ∈ ((a :: t) ++ [m]).drop (((a :: t) ++ [m]).length - 4) := fun d hd ne => by
    have dt : d ∈ t := by
      rcases List.mem_cons.mp hd with h | h
      · exact absurd h ne
      · exact h
    have l : ((a :: t) ++ [m]).length - 4 ≤ 1 := by
      rw [List.length_append]
      show _ + 1 - 4 ≤ 1
      omega
    rcases Nat.le_one_iff_eq_zero_or_eq_one.mp l with e | e
    · rw [e, List.drop_zero]
      exact List.mem_append_left _ hd
    · rw [e]
      exact List.mem_append_left _ dt
  exact ⟨b, c, inn b hb (fun e => h3 (by rw [e]; exact List.mem_cons_self)), inn c hc (fun e => h3 (by rw [e]; exact List.mem_cons_of_mem _ List.mem_cons_self)), rfl⟩
end Wb
namespace Wb
open PySem L2 WbMin WbO WbT WbS
abbrev sRight : Stmt := top 45
abbrev sLaw : Stmt := top 46
structure DA where
  (cell pool draw shuf signs every couples kis right : Addr)
  (dcell dpool ddraw dshuf dsigns devery dcouples dkis dright : FuncData)
structure Defs (K : PySem.W.Frag) (mg : Str → Option Value) (D : DA) : Prop where
  cell : Def K mg "_law_cell" sCell ["_law_script", "_law_k"] D.cell D.dcell
  pool : Def K mg "_law_pool" sPool ["_law_cell_here"] D.pool D.dpool
  draw : Def K mg "_law_draw" sDraw ["_law_pool_here", "_law_many"] D.draw D.ddraw
  shuf : Def K mg "_law_shuffled" sShuf ["_law_pool_here", "_law_things"] D.shuf D.dshuf
  signs : Def K mg "_law_signs" sSigns ["_law_pool_here", "_law_most"] D.signs D.dsigns
  every : Def K mg "_law_every" sEvery ["_law_abc"] D.every D.devery
  couples : Def K mg "_law_couples" sCouples ["_law_pool_here", "_law_abc"] D.couples D.dcouples
  kis : Def K mg "_law_kind_is" sKIs ["_law_kind", "_law_abc", "_law_some"] D.kis D.dkis
  right : Def K mg "_law_right" sRight ["_law_pool_here"] D.right D.dright
theorem dp_bools {K : PySem.W.Frag} {H : Hp} : ∀ bs : List Bool, DpAll K H (bs.map V.bl) (bs.map PyData.bool)
  | [] => .nil
  | b :: r => .cons (.bl b) (dp_bools r)
theorem can_bools : ∀ bs : List Bool, PyData.canLayAll0 (bs.map PyData.bool) = true
  | [] => rfl
  | b :: r => by
    show (true && PyData.canLayAll0 (r.map PyData.bool)) = true
    rw [can_bools r] <;> rfl
theorem depth_bools : ∀ bs : List Bool, PyData.depthAll (bs.map PyData.bool) = 0
  | [] => rfl
  | b :: r => by
    show max (PyData.depth (.bool b)) (PyData.depthAll (r.map PyData.bool)) = 0
    rw [depth_bools r] <;> rfl
theorem shaped_bools (bs : List Bool) : SeqAt.shaped (.list (bs.map PyData.bool)) = true := by
  have d : PyData.depth (.list (bs.map PyData.bool)) = 1 := by
    show PyData.depthAll (bs.map PyData.bool) + 1 = 1
    rw [depth_bools]
  unfold SeqAt.shaped
  rw [d]
  show (PyData.canLayAll0 (bs.map PyData.bool) && decide (1 ≤ 64)) = true
  rw [can_bools] <;> rfl
theorem eqv_bools (bs : List Bool) : PyData.eqv (.list (bs.map PyData.bool)) (.list (bs.map PyData.bool)) = true := SeqAt.eqv_refl _ (can_bools bs)
theorem neD_go {K : PySem.W.Frag} {H : Hp} {Q : VK} {L M : Addr} {xs ys : List V} (bs : List Bool) (hL : H L = some (.lst xs)) (hM : H M = some (.lst ys)) (ex : xs = bs.map V.bl) (ey : ys = bs.map V.bl) (k : Q (.bl false) H) : rNeD K (.ref L) (.ref M) H Q := by
  subst ex ey
  refine ⟨_, _, .lst (SqL.of hL) (dp_bools bs), .lst (SqL.of hM) (dp_bools bs), shaped_bools bs, shaped_bools bs, ?_⟩
  rw [eqv_bools]
  exact k
theorem make_go {C : Addr} {H : Hp} {Q : VK} {E : XK} {x : V} {sg0 : List Nat} {ps0 : List Str} {kd dxk : Addr} (h1 : H kd = none) (h2 : H dxk = none) (G : Sgs sg0) (hx : (x = .non ∧ ps0 = allP sg0) ∨ ∃ t, x = .ref t ∧ H t = some (.tup (ps0.map V.str)) ∧ Prs sg0 ps0)
    (k : ∀ (H' : Hp) (sg : List Nat) (ps : List Str), Same H H' → sg.Perm sg0 → PyProof.Rows.sortedS (sg.map sOne) = true → ps.Perm ps0 → PyProof.Rows.sortedS ps = true → KindAt C H' kd sg ps → Q .non H') :
    spKInit C [.ref kd, .str (S sg0), x] (L2.upd (L2.upd H dxk (.own kd)) kd (.ins C dxk [])) Q E := by
  have sm : Same H (L2.upd (L2.upd H dxk (.own kd)) kd (.ins C dxk [])) := Same.new' (Same.new' (Same.refl H) h2) h1
  refine ⟨H, kd, dxk, sg0, x, ps0, rfl, G, ?_, sm, h1, upd_same, fun H' sg ps s hs os hp op K0 => k H' sg ps s hs os hp op K0⟩
  rcases hx with h | ⟨t, e, ht, P0⟩
  · exact .inl h
  · exact .inr ⟨t, e, sm _ _ ht, P0⟩
theorem KindAt.ne {C : Addr} {H : Hp} {r p : Addr} {sg : List Nat} {ps : List Str} (h : KindAt C H r sg ps) (hp : PoolAt H p) : r ≠ p := by
  obtain ⟨dx, t, b, e1, e2⟩ := h
  obtain ⟨x, y, z, e3, _⟩ := hp
  exact ne_of e1 e3 (by intro q; cases q)
structure KSt (C p a N r1 r2 r3 r4 : Addr) (sg : List Nat) (ps ps0 : List Str) (H0 H : Hp) : Prop where
  pool : PoolAt H p
  ha : H a = some (.lst (ps0.map V.str))
  hN : H N = some (.lst [.ref r1, .ref r2, .ref r3, .ref r4])
  k1 : KindAt C H r1 sg ps
  k2 : KindAt C H r2 sg ps
  k3 : KindAt C H r3 sg ps
  k4 : KindAt C H r4 sg ps
  bt : But p H0 H
theorem KSt.same {C p a N r1 r2 r3 r4 : Addr} {sg : List Nat} {ps ps0 : List Str} {H0 H H' : Hp} (k : KSt C p a N r1 r2 r3 r4 sg ps ps0 H0 H) (s : Same H H') : KSt C p a N r1 r2 r3 r4 sg ps ps0 H0 H' :=
  ⟨k.pool.same s, s _ _ k.ha, s _ _ k.hN, k.k1.same s, k.k2.same s, k.k3.same s, k.k4.same s, k.bt.trans (But.of s)⟩
theorem KSt.but {C p a N r1 r2 r3 r4 : Addr} {sg : List Nat} {ps ps0 : List Str} {H0 H H' : Hp} (k : KSt C p a N r1 r2 r3 r4 sg ps ps0 H0 H) (na : a ≠ p) (b : But p H H') (hp : PoolAt H' p) : KSt C p a N r1 r2 r3 r4 sg ps ps0 H0 H' := by
  have nN : N ≠ p := by
    obtain ⟨x, y, z, e3, _⟩ := k.pool
    intro q
    have h := k.hN
    rw [q, e3] at h
    injection h with h
    injection h with h
    injection h with h
    cases h
  exact ⟨hp, b _ _ na k.ha, b _ _ nN k.hN, k.k1.but b (k.k1.ne k.pool) k.pool, k.k2.but b (k.k2.ne k.pool) k.pool, k.k3.but b (k.k3.ne k.pool) k.pool, k.k4.but b (k.k4.ne k.pool) k.pool, k.bt.trans b⟩
theorem KSt.at {C p a N r1 r2 r3 r4 : Addr} {sg : List Nat} {ps ps0 : List Str} {H0 H : Hp} (k : KSt C p a N r1 r2 r3 r4 sg ps ps0 H0 H) {i : Nat} {y : V} (h : [V.ref r1, .ref r2, .ref r3, .ref r4][i]? = some y) : ∃ r, y = .ref r ∧ KindAt C H r sg ps := by
  rcases i with _ | _ | _ | _ | i
  · cases h
    exact ⟨_, rfl, k.k1⟩
  · cases h
    exact ⟨_, rfl, k.k2⟩
  · cases h
    exact ⟨_, rfl, k.k3⟩
  · cases h
    exact ⟨_, rfl, k.k4⟩
  · cases h
structure WSt (C W r1 r2 r3 r4 : Addr) (sg : List Nat) (ws : List Str) (H : Hp) : Prop where
  hW : H W = some (.lst [.ref r1, .ref r2, .ref r3, .ref r4])
  k1 : KindAt C H r1 sg ws
  k2 : KindAt C H r2 sg ws
  k3 : KindAt C H r3 sg ws
  k4 : KindAt C H r4 sg ws
theorem WSt.same {C W r1 r2 r3 r4 : Addr} {sg : List Nat} {ws : List Str} {H H' : Hp} (k : WSt C W r1 r2 r3 r4 sg ws H) (s : Same H H') : WSt C W r1 r2 r3 r4 sg ws H' := ⟨s _ _ k.hW, k.k1.same s, k.k2.same s, k.k3.same s, k.k4.same s⟩
theorem WSt.at {C W r1 r2 r3 r4 : Addr} {sg : List Nat} {ws : List Str} {H : Hp} (k : WSt C W r1 r2 r3 r4 sg ws H) {i : Nat} {y : V} (h : [V.ref r1, .ref r2, .ref r3, .ref r4][i]? = some y) : ∃ r, y = .ref r ∧ KindAt C H r sg ws := by
  rcases i with _ | _ | _ | _ | i
  · cases h
    exact ⟨_, rfl, k.k1⟩
  · cases h
    exact ⟨_, rfl, k.k2⟩
  · cases h
    exact ⟨_, rfl, k.k3⟩
  · cases h
    exact ⟨_, rfl, k.k4⟩
  · cases h
theorem hp1ne {H : Hp} {p D : Addr} {l : List Nat} (h : PoolAt H p) (e : H D = some (.lst (l.map vOne))) : D ≠ p := by
  obtain ⟨x, y, z, e3, _⟩ := h
  intro q
  rw [q, e3] at e
  injection e with e
  injection e with e
  cases l with
  | nil => cases e
  | cons c l =>
    injection e with e _
    cases e
theorem either {c : Bool} {t1 t2 : TE} {σ : L2.St} {H : Hp} {Q : VK} (T : V → Hp → Prop) (h1 : c = true → ∀ Q' : VK, (∀ x H', T x H' → Q' x H') → t1 σ H Q') (h2 : c = false → ∀ Q' : VK, (∀ x H', T x H' → Q' x H') → t2 σ H Q') (k : ∀ x H', T x H' → Q x H') : if c = true then t1 σ H Q else t2 σ H Q := by
  cases c with
  | true => exact h1 rfl Q k
  | false => exact h2 rfl Q k
def spRight : Sp := fun vs H Q _ => ∃ p : Addr, vs = [.ref p] ∧ PoolAt H p ∧ ∀ H', But p H H' → Q (.bl true) H'
section
variable {P : Program} {w : World} {K : PySem.W.Frag} {mg : Str → Option Value} {base : Heap} {f : Addr} {fd : FuncData} {A : KA} {D : DA}
abbrev NR : List Str := ["_law_pool_here", "_law_abc", "_law_some", "_law_kinds_here", "_law_whole_here", "_law_same_all", "_law_mark", "_law_less", "_law_others", "_law_line", "_law_kind", "_law_mate"]
theorem scRi : FnScope NR ["_law_pool_here"] (defScope sRight) := ⟨rfl, rfl, rfl, by decide +kernel, rfl, by decide +kernel, by decide +kernel⟩
set_option maxHeartbeats 0 in
theorem ok_right (F : Fun K "_law_right" "_law_right" sRight f fd) (Z : Free mg) (R' : KindF K mg A) (D' : Defs K mg D) : FnOk P w K mg base CX0 7 f fd ["_law_pool_here"] spRight := by
  obtain ⟨ds, hds, hbI⟩ := R'.bI
  obtain ⟨itA, kA⟩ := R'.kA
  obtain ⟨itB, kB⟩ := R'.kB
  obtain ⟨itC, kC⟩ := R'.kC
  obtain ⟨mc, rM, cM⟩ := R'.rM
  have GD : FnOk P w K mg base CX0 1 D.draw D.ddraw ["_law_pool_here", "_law_many"] spDraw := ok_draw D'.draw.F Z.int Z.divmod
  have GS : FnOk P w K mg base CX0 2 D.signs D.dsigns ["_law_pool_here", "_law_most"] spSigns := ok_signs D'.signs.F D'.draw Z.int Z.divmod Z.len Z.range
  have GC : FnOk P w K mg base CX0 3 D.couples D.dcouples ["_law_pool_here", "_law_abc"] spCouples := ok_couples D'.couples.F D'.draw D'.every D'.shuf Z R'.lst
  have GE : FnOk P w K mg base CX0 1 D.every D.devery ["_law_abc"] spEvery := ok_every D'.every.F
  have GSh : FnOk P w K mg base CX0 2 D.shuf D.dshuf ["_law_pool_here", "_law_things"] spShuf := ok_shuf D'.shuf.F D'.draw Z R'.lst
  have GK : FnOk P w K mg base CX0 4 A.fI A.dI ["self", "signs", "pairs"] (spKInit A.C) := ok_kinit R' Z
  have GM : FnOk P w K mg base CX0 6 A.fM A.dM ["cls", "row"] (spKMade A.C) := ok_kmade R' Z
  have GW : FnOk P w K mg base CX0 1 A.fW A.dW ["self"] (spKRow A.C) := ok_krow R'
  have GQ : FnOk P w K mg base CX0 1 A.fE A.dE ["self", "other"] (spKEq K A.C) := ok_keq R' Z
  have GI : FnOk P w K mg base CX0 3 D.kis D.dkis ["_law_kind", "_law_abc", "_law_some"] (spKIs A.C) := ok_kis D'.kis.F R' Z
  refine F.ok scRi (fun vs H Q E h => ?_) (fun cdv A' outer s H vs Q E hr h => ?_)
  · obtain ⟨p, rfl, _⟩ := h
    rfl
  · obtain ⟨p, rfl, hp, k⟩ := h
    have hr1 : Room 1 _ := hr.mono (by decide)
    have hr2 : Room 2 _ := hr.mono (by decide)
    have hr3 : Room 3 _ := hr.mono (by decide)
    have hr5 : Room 5 _ := hr.mono (by decide)
    refine ⟨_, (pss_cons (ps_set (i := 1) scRi.nd rfl (.inr rfl) (pe_call GS hr2 rfl D'.signs.g D'.signs.kp D'.signs.b .nil pass0 (pa_cons (pv 0) (pa_cons pe_int pa_nil))))
      (pss_cons (ps_set (i := 2) scRi.nd rfl (.inr rfl) (pe_call GC hr3 rfl D'.couples.g D'.couples.kp D'.couples.b .nil pass0 (pa_cons (pv 0) (pa_cons (pv 1) pa_nil))))
      (pss_cons (ps_set (i := 3) scRi.nd rfl (.inr rfl) (pe_lst (pa_cons (pe_make R'.M GK hr5 rfl R'.T.gC R'.bI3 .nil pass0 (pa_cons (pv 1) (pa_cons (pe_callTy call_tuple_of (by rfl) R'.tup (by decide +kernel) (pa_cons (pv 2) pa_nil)) pa_nil)))
        (pa_cons (pe_makeK0 R'.M GK hr5 rfl R'.T.gC kA pass0 (pk_cons (pe_callTy call_tuple_of (by rfl) R'.tup (by decide +kernel) (pa_cons (pe_call GSh hr2 rfl D'.shuf.g D'.shuf.kp D'.shuf.b .nil pass0 (pa_cons (pv 0) (pa_cons (pv 2) pa_nil))) pa_nil)) (pk_cons (pe_revS (pv 1)) pk_nil))) pa_nil))))
      (pss_cons (ps_set (i := 3) scRi.nd rfl (.inr rfl) (pe_op op_cat (pv 3) (pe_lst (pa_cons (ClX.pe_cmeth (pe_glob (v := .ref A.C) (by rfl) R'.T.gC rfl) rM cM (GM.raw R'.bM .nil) hr pass0 (pa_cons (pe_prop (pe_ix ix_list (pv 3) pe_int (fun _ _ => rfl)) R'.T.cl R'.hW GW hr2 R'.bW .nil pass0 rfl) pa_nil))
        (pa_cons (pe_cmethK (pe_glob (v := .ref A.C) (by rfl) R'.T.gC rfl) rM cM GM hr R'.kM rfl pass0 (pk_cons (pe_prop (pe_ix ix_list (pv 3) pe_int (fun _ _ => rfl)) R'.T.cl R'.hW GW hr2 R'.bW .nil pass0 rfl) pk_nil)) pa_nil)))))
      (pss_cons (ps_if (pt_not (pt_val (pe_callB (cr_all rfl) (by rfl) Z.all (by decide +kernel) (pa_cons (pe_lc (own := [("_law_kind", 10)]) (g := gName 10) (tt := tYes) rfl scRi.nd (pi_list (pv 3)) (blkOk_by (N := NR) (sc := defScope sRight) (by decide +kernel)) (fun _ _ _ _ _ => pg_name (i := 10) scRi.nd rfl (.inl rfl)) (fun _ _ _ _ _ => pts_nil)
          (fun _ _ _ _ _ => pe_call GI hr3 rfl D'.kis.g D'.kis.kp D'.kis.b .nil pass0 (pa_cons (pv 10) (pa_cons (pv 1) (pa_cons (pv 2) pa_nil))))) pa_nil)))) (pss_one ps_never) pss_nil)
      (pss_cons (ps_if (PW.pt (pw_or (pt_not (pt_val (pe_callB (cr_all rfl) (by rfl) Z.all (by decide +kernel) (pa_cons (pe_lc (own := [("_law_kind", 10)]) (g := gName 10) (tt := tYes) rfl scRi.nd (pi_list (pv 3)) (blkOk_by (N := NR) (sc := defScope sRight) (by decide +kernel)) (fun _ _ _ _ _ => pg_name (i := 10) scRi.nd rfl (.inl rfl)) (fun _ _ _ _ _ => pts_nil)
          (fun _ _ _ _ _ => pe_cmpR (show OpR _ _ (rEqX K A.C (spKEq K A.C) E0) from op_eqX R'.mE.at_ R'.mE.fn GQ hr1 R'.bE pass0) (pv 10) (pe_ix (show IxR _ (rIxL K) from ix_list) (pv 3) pe_int (fun _ _ => rfl)) (nomark _))) pa_nil))))
        (pw_or1 (pt_cmpR (op_neX R'.ne R'.T.hob R'.mE.at_ R'.mE.fn GQ hr2 R'.bE pass0) (pe_ix ix_list (pv 3) pe_int (fun _ _ => rfl)) (pe_ix ix_list (pv 3) pe_int (fun _ _ => rfl)) (nomark _))))) (pss_one ps_never) pss_nil)
      (pss_cons (ps_set (i := 4) scRi.nd rfl (.inl rfl) (pe_lst (pa_cons (pe_make R'.M GK hr5 rfl R'.T.gC hbI hds pass0 (pa_cons (pv 1) pa_nil)) (pa_cons (pe_makeK0 R'.M GK hr5 rfl R'.T.gC kB pass0 (pk_cons (pv 1) pk_nil))
        (pa_cons (pe_make R'.M GK hr5 rfl R'.T.gC R'.bI3 .nil pass0 (pa_cons (pv 1) (pa_cons pe_non pa_nil))) (pa_cons (pe_makeN R'.M GK hr5 rfl R'.T.gC kC pass0 (pa_cons (pe_revS (pv 1)) pa_nil) (pk_cons pe_non pk_nil)) pa_nil))))))
      (pss_cons (ps_if (pt_not (pt_val (pe_callB (cr_all rfl) (by rfl) Z.all (by decide +kernel) (pa_cons (pe_lc (own := [("_law_kind", 10)]) (g := gName 10) (tt := tYes) rfl scRi.nd (pi_list (pv 4)) (blkOk_by (N := NR) (sc := defScope sRight) (by decide +kernel)) (fun _ _ _ _ _ => pg_name (i := 10) scRi.nd rfl (.inl rfl)) (fun _ _ _ _ _ => pts_nil)
          (fun _ _ _ _ _ => pe_call GI hr3 rfl D'.kis.g D'.kis.kp D'.kis.b .nil pass0 (pa_cons (pv 10) (pa_cons (pv 1) (pa_cons (pe_call GE hr1 rfl D'.every.g D'.every.kp D'.every.b .nil pass0 (pa_cons (pv 1) pa_nil)) pa_nil))))) pa_nil)))) (pss_one ps_never) pss_nil)
      (pss_cons (ps_set (i := 5) scRi.nd rfl (.inl rfl) (pe_cmpR op_eq (pe_callB call_len_seq (by rfl) Z.len PySem.boot_len (pa_cons (pv 2) pa_nil)) (pe_op op_mul (pe_callB call_len_str (by rfl) Z.len PySem.boot_len (pa_cons (pv 1) pa_nil)) (pe_callB call_len_str (by rfl) Z.len PySem.boot_len (pa_cons (pv 1) pa_nil))) (nomark _)))
      (pss_cons (ps_if (PW.pt (pw_or (pt_cmpR (op_neD hr.units) (pe_lc (own := [("_law_kind", 10)]) (g := gName 10) (tt := tYes) rfl scRi.nd (pi_list (pv 4)) (blkOk_by (N := NR) (sc := defScope sRight) (by decide +kernel)) (fun _ _ _ _ _ => pg_name (i := 10) scRi.nd rfl (.inl rfl)) (fun _ _ _ _ _ => pts_nil)
          (fun _ _ _ _ _ => pe_cmpR (show OpR _ _ (rEqX K A.C (spKEq K A.C) E0) from op_eqX R'.mE.at_ R'.mE.fn GQ hr1 R'.bE pass0) (pv 10) (pe_ix (show IxR _ (rIxL K) from ix_list) (pv 3) pe_int (fun _ _ => rfl)) (nomark _))) (pe_op op_rep (pe_lst (pa_cons (pv 5) pa_nil)) pe_int) (nomark _))
        (pw_or1 (pt_cmpR op_eq (pe_cmpR (op_neX R'.ne R'.T.hob R'.mE.at_ R'.mE.fn GQ hr2 R'.bE pass0) (pe_ix ix_list (pv 4) pe_int (fun _ _ => rfl)) (pe_ix ix_list (pv 3) pe_int (fun _ _ => rfl)) (nomark _)) (pv 5) (nomark _))))) (pss_one ps_never) pss_nil)
      (pss_cons (ps_set (i := 6) scRi.nd rfl (.inl rfl) (pe_ix ix_list (pe_lc (own := [("_law_mate", 11)]) (g := gName 11) rfl scRi.nd (pi_str pe_str) (blkOk_by (N := NR) (sc := defScope sRight) (by decide +kernel)) (fun _ _ _ _ _ => pg_name (i := 11) scRi.nd rfl (.inl rfl))
          (fun _ _ _ _ _ => pts_one (pt_cmpR op_notIn_sign (pv 11) (pv 1) rfl)) (fun _ _ _ _ _ => pv 11)) (pe_call GD hr1 rfl D'.draw.g D'.draw.kp D'.draw.b .nil pass0 (pa_cons (pv 0) (pa_cons pe_int pa_nil))) (fun _ _ => rfl)))
      (pss_cons (ps_set (i := 7) scRi.nd rfl (.inl rfl) (pe_ifExp (pt_cmpR (op_neD hr.units) (pv 2) (pe_lst pa_nil) (nomark _)) (pe_slice sl_list (pv 2) po_none (po_some (pe_un un_neg pe_int))) (pe_lst (pa_cons (pe_op op_mulS (pe_ix ix_str (pv 1) pe_int (fun _ _ => rfl)) pe_int) pa_nil))))
      (pss_cons (ps_set (i := 8) scRi.nd rfl (.inl rfl) (pe_lst (pa_cons (pe_make R'.M GK hr5 rfl R'.T.gC R'.bI3 .nil pass0 (pa_cons (pv 1) (pa_cons (pe_callTy call_tuple_of (by rfl) R'.tup (by decide +kernel) (pa_cons (pv 7) pa_nil)) pa_nil)))
        (pa_cons (pe_make R'.M GK hr5 rfl R'.T.gC R'.bI3 .nil pass0 (pa_cons (pe_slice sl_str (pe_op op_add_str (pv 1) (pv 6)) (po_some (pe_un un_neg pe_int)) po_none) (pa_cons (pe_callTy call_tuple_of (by rfl) R'.tup (by decide +kernel) (pa_cons
            (pe_lc (own := [("_law_mate", 11)]) (g := gName 11) rfl scRi.nd (pi_list (pv 2)) (blkOk_by (N := NR) (sc := defScope sRight) (by decide +kernel)) (fun _ _ _ _ _ => pg_name (i := 11) scRi.nd rfl (.inl rfl))
              (fun _ _ _ _ _ => pts_one (pt_cmpR op_notIn_sign (pe_ix ix_str (pv 1) pe_int (fun _ _ => rfl)) (pv 11) rfl)) (fun _ _ _ _ _ => pv 11)) pa_nil)) pa_nil))) pa_nil))))
      (pss_cons (ps_if (PW.pt (pw_or (pt_cmpR (op_eqX R'.mE.at_ R'.mE.fn GQ hr1 R'.bE pass0) (pe_ix ix_list (pv 8) pe_int (fun _ _ => rfl)) (pe_ix ix_list (pv 3) pe_int (fun _ _ => rfl)) (nomark _))
        (pw_or (pt_cmpR (op_eqX R'.mE.at_ R'.mE.fn GQ hr1 R'.bE pass0) (pe_ix ix_list (pv 8) pe_int (fun _ _ => rfl)) (pe_ix ix_list (pv 3) pe_int (fun _ _ => rfl)) (nomark _))
        (pw_or1 (pt_not (pt_cmpR (op_neX R'.ne R'.T.hob R'.mE.at_ R'.mE.fn GQ hr2 R'.bE pass0) (pe_ix ix_list (pv 8) pe_int (fun _ _ => rfl)) (pe_ix ix_list (pv 3) pe_int (fun _ _ => rfl)) (nomark _))))))) (pss_one ps_never) pss_nil)
      (pss_cons (ps_set (i := 9) scRi.nd rfl (.inl rfl) (pe_prop (pe_ix ix_list (pv 3) pe_int (fun _ _ => rfl)) R'.T.cl R'.hW GW hr2 R'.bW .nil pass0 rfl))
      (pss_one (ps_ret (pe_and (pe_not (pe_cmpR (op_eqX R'.mE.at_ R'.mE.fn GQ hr1 R'.bE pass0) (pe_ix ix_list (pv 3) pe_int (fun _ _ => rfl)) (pv 9) (nomark _)))
        (pe_and (pe_cmpR (op_neX R'.ne R'.T.hob R'.mE.at_ R'.mE.fn GQ hr2 R'.bE pass0) (pe_ix ix_list (pv 3) pe_int (fun _ _ => rfl)) (pe_ix ix_tup (pv 9) pe_int (fun _ _ => rfl)) (nomark _))
        (pe_one (pe_call GI hr3 rfl D'.kis.g D'.kis.kp D'.kis.b .nil pass0 (pa_cons (pe_ix ix_list (pv 3) pe_int (fun _ _ => rfl)) (pa_cons (pv 1) (pa_cons (pv 2) pa_nil)))))))))))))))))))))))), ?_⟩
    refine ⟨_, rfl, p, _, rfl, by decide, by decide, hp, fun sg0 H1 lo nd l0 l1 hp1 b1 => ?_⟩
    have Gs : Sgs sg0 := ⟨lo, nd, l0, by omega⟩
    refine ⟨_, rfl, _, rfl, p, sg0, rfl, Gs, hp1, fun a ps0 H2 ha na G' hp2 b2 => ?_⟩
    refine ⟨_, rfl, _, rfl, a, _, rfl, .inl ⟨SqL.of ha, fun t ht => ?_⟩⟩
    have s2 := Same.put (o := .tup (ps0.map V.str)) (Same.refl H2) ht
    refine fun r1 dx1 n1 m1 _ => make_go n1 m1 Gs (.inr ⟨t, rfl, upd_same, G'⟩) fun H3 sg ps s3 hsg os hps op K1 => ⟨rfl, ?_⟩
    have s23 := s2.trans s3
    refine ⟨_, rfl, _, rfl, p, a, ps0, rfl, s23 _ _ ha, Nat.le_trans G'.few (by decide), hp2.same s23, fun b ys H4 hb nb pm hp4 b4 => ⟨b, _, rfl, .inl ⟨SqL.of hb, fun t2 ht2 => ?_⟩⟩⟩
    have K1' := K1.but b4 (K1.ne (hp2.same s23)) (hp2.same s23)
    have s4 := Same.put (o := .tup (ys.map V.str)) (Same.refl H4) ht2
    have Gr : Sgs sg0.reverse := Gs.perm (List.reverse_perm sg0)
    refine ⟨_, rfl, _, rfl, Gs.w.fits, rfl, rfl, fun r2 dx2 n2 m2 _ => make_go (sg0 := sg0.reverse) n2 m2 Gr (.inr ⟨t2, rfl, upd_same, G'.perm (List.reverse_perm sg0) pm⟩) fun H5 sg' ps' s5 hsg' os' hps' op' K2 => ⟨rfl, ?_⟩⟩
    obtain rfl : sg' = sg := sg_same os' os (hsg'.trans (List.reverse_perm sg0)) hsg
    obtain rfl : ps' = ps := sorted_same op' op (hps'.trans (pm.trans hps.symm))
    have s45 := s4.trans s5
    have ha5 := s45 _ _ (b4 _ _ na (s23 _ _ ha))
    have b5 : But p H H5 := ((b1.trans b2).trans (But.of s23)).trans (b4.trans (But.of s45))
    have hp5 := hp4.same s45
    have K15 := K1'.same s45
    refine ⟨(by show 2 ≤ sizeLine; decide), fun L hL => ?_⟩
    have s6 := Same.put (o := .lst [.ref r1, .ref r2]) (Same.refl H5) hL
    have hL6 : (L2.upd H5 L (.lst [.ref r1, .ref r2])) L = some (.lst [.ref r1, .ref r2]) := upd_same
    have ha6 := s6 _ _ ha5
    have b6 := b5.trans (But.of s6)
    have hp6 := hp5.same s6
    have K16 := K15.same s6
    have K26 := K2.same s6
    generalize (L2.upd H5 L (.lst [.ref r1, .ref r2])) = H6 at hL6 ha6 b6 hp6 K16 K26 ⊢
    have G : Sgs sg' := Gs.perm hsg
    have P' : Prs sg' ps' := G'.perm hsg hps
    obtain ⟨dy1, tk1, rb1, e1, f1⟩ := id K16
    refine ⟨_, rfl, rfl, _, rfl, L, _, _, _, rfl, rfl, SqL.of hL6, atI_nat (j := 0) rfl, r1, dy1, _, rfl, e1, r1, sg', ps', rfl, K16, fun q t3 H7 hq s7 gq gt => ?_⟩
    refine ⟨q, t3, sg', ps', rfl, G, P', os, op, gq, gt, fun r3 H8 n3 s8 K3 => ?_⟩
    have s68 := s7.trans s8
    obtain ⟨dy2, tk2, rb2, e2, f2⟩ := K26.same s68
    refine ⟨rfl, _, rfl, L, _, _, _, rfl, rfl, SqL.of (s68 _ _ hL6), atI_nat (j := 1) rfl, r2, dy2, _, rfl, e2, r2, sg', ps', rfl, K26.same s68, fun q2 t4 H9 hq2 s9 gq2 gt2 => ⟨rfl, ?_⟩⟩
    refine ⟨q2, t4, sg', ps', rfl, G, P', os, op, gq2, gt2, fun r4 H10 n4 s10 K4 => ?_⟩
    refine ⟨(by show 2 ≤ sizeLine; decide), fun M hM => ?_⟩
    have sA := (s68.trans (s9.trans s10)).trans (Same.put (o := .lst [.ref r3, .ref r4]) (Same.refl H10) hM)
    have sB := Same.put (o := .lst [.ref r3, .ref r4]) (Same.refl H10) hM
    refine ⟨L, M, _, _, rfl, rfl, sA _ _ hL6, upd_same, (by show 2 + 2 ≤ sizeLine; decide), fun N hN => ?_⟩
    have sC := Same.put (o := .lst ([.ref r1, .ref r2] ++ [.ref r3, .ref r4])) (Same.refl (L2.upd H10 M (.lst [.ref r3, .ref r4]))) hN
    have KS : KSt A.C p a N r1 r2 r3 r4 sg' ps' ps0 H (L2.upd (L2.upd H10 M (.lst [.ref r3, .ref r4])) N (.lst ([.ref r1, .ref r2] ++ [.ref r3, .ref r4]))) := by
      have sD := sA.trans sC
      exact ⟨hp6.same sD, sD _ _ ha6, upd_same, K16.same sD, K26.same sD, ((K3.same (s9.trans s10)).same sB).same sC, (K4.same sB).same sC, b6.trans (But.of sD)⟩
    generalize (L2.upd (L2.upd H10 M (.lst [.ref r3, .ref r4])) N (.lst ([.ref r1, .ref r2] ++ [.ref r3, .ref r4]))) = H11 at KS ⊢
    clear sA sB sC K3 K4 s10 gq2 gt2 s9 e2 f2 gq gt s7 s8 s68 e1 f1
    have few0 := G'.few
    have oz := ok_low G.low
    have op1 := P'.ok G.low
    refine ⟨_, rfl, N, rfl, ⟨_, SqL.of KS.hN⟩, fun D1 hD1 => lc_it (walk_list (xs := [.ref r1, .ref r2, .ref r3, .ref r4])) (fun i H' => H' D1 = some (.lst ((List.replicate i true).map V.bl)) ∧ Same H11 H') ⟨upd_same, Same.put (Same.refl H11) hD1⟩ (fun _ _ _ h => SqL.of (h.2 _ _ KS.hN)) ?_ ?_⟩
    · rintro i x H12 H12' hi ⟨h1, h2⟩ ⟨rfl, hx⟩
      have Kn := KS.same h2
      obtain ⟨r, rfl, Kr⟩ := Kn.at hx
      have hi' : i < 4 := hi
      refine ⟨rfl, _, rfl, _, rfl, _, rfl, r, a, sg0, sg', ps0, ps', rfl, Gs, G', Kn.ha, hsg, os, hps, op, Kr, fun H13 s13 => ⟨_, s13 _ _ h1, ?_, ?_, Same.new' (h2.trans s13) hD1⟩⟩
      · rw [List.length_map, List.length_replicate, sizeLine_eq]
        omega
      · rw [upd_same, List.replicate_succ', List.map_append] <;> rfl
    · rintro H12 ⟨h1, h2⟩
      replace KS := KS.same h2
      refine ⟨D1, _, rfl, SqL.of h1, true, rfl, ?_⟩
      clear h1 h2 hD1
      refine ⟨_, rfl, N, rfl, ⟨_, SqL.of KS.hN⟩, fun D2 hD2 => lc_it (walk_list (xs := [.ref r1, .ref r2, .ref r3, .ref r4])) (fun i H' => H' D2 = some (.lst ((List.replicate i true).map V.bl)) ∧ Same H12 H') ⟨upd_same, Same.put (Same.refl H12) hD2⟩ (fun _ _ _ h => SqL.of (h.2 _ _ KS.hN)) ?_ ?_⟩
      · rintro i x H13 H13' hi ⟨h1, h2⟩ ⟨rfl, hx⟩
        have Kn := KS.same h2
        obtain ⟨r, rfl, Kr⟩ := Kn.at hx
        have hi' : i < 4 := hi
        have e : sameK sg' sg' ps' ps' = true := by
          unfold sameK
          rw [decide_eq_true rfl, decide_eq_true rfl] <;> rfl
        refine ⟨rfl, _, rfl, _, rfl, N, _, _, _, rfl, rfl, SqL.of Kn.hN, atI_nat (j := 0) rfl, eqk_go R' Kr Kn.k1 op1 op1 e ⟨_, h1, ?_, ?_, Same.new' h2 hD2⟩⟩
        · rw [List.length_map, List.length_replicate, sizeLine_eq]
          omega
        · rw [upd_same, List.replicate_succ', List.map_append] <;> rfl
      · rintro H13 ⟨h1, h2⟩
        replace KS := KS.same h2
        have e : sameK sg' sg' ps' ps' = true := by
          unfold sameK
          rw [decide_eq_true rfl, decide_eq_true rfl] <;> rfl
        refine ⟨D2, _, rfl, SqL.of h1, true, rfl, _, rfl, N, _, _, _, rfl, rfl, SqL.of KS.hN, atI_nat (j := 1) rfl, _, rfl, N, _, _, _, rfl, rfl, SqL.of KS.hN, atI_nat (j := 2) rfl, nek_go R' KS.k2 KS.k3 op1 op1 e ⟨_, rfl, ?_⟩⟩
        clear h1 h2 hD2
        refine ⟨_, rfl, fun r5 dx5 n5 m5 _ => make_go n5 m5 Gs (.inl ⟨rfl, rfl⟩) fun H14 sg5 ws s14 hsg5 os5 hws ow K5 => ⟨rfl, ?_⟩⟩
        obtain rfl : sg5 = sg' := sg_same os5 os hsg5 hsg
        refine ⟨_, rfl, rfl, rfl, fun r6 dx6 n6 m6 _ => make_go n6 m6 Gs (.inl ⟨rfl, rfl⟩) fun H15 sg6 ws6 s15 hsg6 os6 hws6 ow6 K6 => ⟨rfl, ?_⟩⟩
        obtain rfl : sg6 = sg5 := sg_same os6 os5 hsg6 hsg5
        obtain rfl : ws6 = ws := sorted_same ow6 ow (hws6.trans hws.symm)
        refine ⟨_, rfl, fun r7 dx7 n7 m7 _ => make_go n7 m7 Gs (.inl ⟨rfl, rfl⟩) fun H16 sg7 ws7 s16 hsg7 os7 hws7 ow7 K7 => ⟨rfl, ?_⟩⟩
        obtain rfl : sg7 = sg6 := sg_same os7 os6 hsg7 hsg6
        obtain rfl : ws7 = ws6 := sorted_same ow7 ow6 (hws7.trans hws6.symm)
        refine ⟨_, rfl, _, rfl, Gs.w.fits, rfl, rfl, fun r8 dx8 n8 m8 _ => make_go (sg0 := sg0.reverse) n8 m8 Gr (.inl ⟨rfl, rfl⟩) fun H17 sg8 ws8 s17 hsg8 os8 hws8 ow8 K8 => ⟨rfl, ?_⟩⟩
        obtain rfl : sg8 = sg7 := sg_same os8 os7 (hsg8.trans (List.reverse_perm sg0)) hsg7
        obtain rfl : ws8 = ws7 := sorted_same ow8 ow7 (hws8.trans ((allP_perm (List.reverse_perm sg0) Gs.nd).trans hws7.symm))
        refine ⟨(by show 4 ≤ sizeLine; decide), fun W hW => ?_⟩
        have s18 := Same.put (o := .lst [.ref r5, .ref r6, .ref r7, .ref r8]) (Same.refl H17) hW
        replace KS := KS.same ((s14.trans s15).trans ((s16.trans s17).trans s18))
        have WS : WSt A.C W r5 r6 r7 r8 sg8 ws8 (L2.upd H17 W (.lst [.ref r5, .ref r6, .ref r7, .ref r8])) := ⟨upd_same, K5.same (s15.trans (s16.trans (s17.trans s18))), K6.same (s16.trans (s17.trans s18)), K7.same (s17.trans s18), K8.same s18⟩
        generalize (L2.upd H17 W (.lst [.ref r5, .ref r6, .ref r7, .ref r8])) = H18 at KS WS ⊢
        clear K5 K6 K7 K8 s18 s17 s16 s15 s14 hW n5 m5 n6 m6 n7 m7 n8 m8 hws8 ow8 hsg8 os8 hws7 ow7 hsg7 os7 hsg6 os6
        have PA : Prs sg0 (allP sg0) := prs_of Gs (pair_nd Gs.nd) fun _ h => h
        have PW' : Prs sg8 ws8 := PA.perm hsg hws
        have op5 := PW'.ok G.low
        have fewA := PA.few
        refine ⟨_, rfl, W, rfl, ⟨_, SqL.of WS.hW⟩, fun D3 hD3 => lc_it (walk_list (xs := [.ref r5, .ref r6, .ref r7, .ref r8])) (fun i H' => H' D3 = some (.lst ((List.replicate i true).map V.bl)) ∧ Same H18 H') ⟨upd_same, Same.put (Same.refl H18) hD3⟩ (fun _ _ _ h => SqL.of (h.2 _ _ WS.hW)) ?_ ?_⟩
        · rintro i x H19 H19' hi ⟨h1, h2⟩ ⟨rfl, hx⟩
          have Wn := WS.same h2
          obtain ⟨r, rfl, Kr⟩ := Wn.at hx
          have hi' : i < 4 := hi
          refine ⟨rfl, _, rfl, _, rfl, _, rfl, sg0, rfl, Gs.few, fun E0 H20 hE hE0 s20 => ?_⟩
          refine ⟨r, E0, sg0, sg8, allP sg0, ws8, rfl, Gs, PA, hE, hsg, os, hws, ow, Kr.same s20, fun H21 s21 => ⟨_, s21 _ _ (s20 _ _ h1), ?_, ?_, Same.new' ((h2.trans s20).trans s21) hD3⟩⟩
          · rw [List.length_map, List.length_replicate, sizeLine_eq]
            omega
          · rw [upd_same, List.replicate_succ', List.map_append] <;> rfl
        · rintro H19 ⟨h1, h2⟩
          replace KS := KS.same h2
          replace WS := WS.same h2
          refine ⟨D3, _, rfl, SqL.of h1, true, rfl, ?_⟩
          clear h1 h2 hD3
          refine ⟨_, rfl, a, _, rfl, .inl (SqL.of KS.ha), _, rfl, _, rfl, Gs.w.fits, _, rfl, _, rfl, Gs.w.fits, _, _, rfl, rfl, ?_, rfl, ?_⟩
          · have few4 := Gs.few
            rw [S_len]
            exact .inl ⟨by omega, by omega⟩
          have hsa : decide (V.int (((ps0.map V.str).length : Nat) : Int) = V.int ((((S sg0).length : Nat) : Int) * (((S sg0).length : Nat) : Int))) = decide (ws8 = ps') := by
            rw [same_all G' hps op hws ow, S_len, List.length_map]
            exact decide_eq_decide.mpr ⟨fun q => by injection q, fun q => by rw [q]⟩
          rw [hsa]
          have eK : sameK sg8 sg8 ws8 ps' = decide (ws8 = ps') := by
            unfold sameK
            rw [decide_eq_true rfl, Bool.true_and]
          generalize decide (ws8 = ps') = sa at eK ⊢
          refine ⟨_, rfl, W, rfl, ⟨_, SqL.of WS.hW⟩, fun D4 hD4 => lc_it (walk_list (xs := [.ref r5, .ref r6, .ref r7, .ref r8])) (fun i H' => H' D4 = some (.lst ((List.replicate i sa).map V.bl)) ∧ Same H19 H') ⟨upd_same, Same.put (Same.refl H19) hD4⟩ (fun _ _ _ h => SqL.of (h.2 _ _ WS.hW)) ?_ ?_⟩
          · rintro i x H20 H20' hi ⟨h1, h2⟩ ⟨rfl, hx⟩
            have Wn := WS.same h2
            have Kn := KS.same h2
            obtain ⟨r, rfl, Kr⟩ := Wn.at hx
            have hi' : i < 4 := hi
            refine ⟨rfl, _, rfl, _, rfl, N, _, _, _, rfl, rfl, SqL.of Kn.hN, atI_nat (j := 0) rfl, eqk_go R' Kr Kn.k1 op5 op1 eK ⟨_, h1, ?_, ?_, Same.new' h2 hD4⟩⟩
            · rw [List.length_map, List.length_replicate, sizeLine_eq]
              omega
            · rw [upd_same, List.replicate_succ', List.map_append] <;> rfl
          · rintro H20 ⟨h1, h2⟩
            refine ⟨_, rfl, (by show 1 ≤ sizeLine; decide), fun B hB => ⟨B, _, _, rfl, rfl, upd_same, by decide, by decide, (by show 1 * 4 ≤ sizeLine; decide), fun M3 hM3 => ?_⟩⟩
            have h1B := (upd_ne (o := .lst [.bl sa]) (ne_of_none h1 hB)).trans h1
            refine neD_go [sa, sa, sa, sa] ((upd_ne (ne_of_none h1B hM3)).trans h1B) upd_same rfl rfl ⟨_, rfl, ?_⟩
            have s21 := Same.put (o := .lst (List.replicate (4 : Int).toNat [V.bl sa]).flatten) (Same.put (o := .lst [.bl sa]) h2 hB) hM3
            replace KS := KS.same s21
            replace WS := WS.same s21
            generalize (L2.upd (L2.upd H20 B (.lst [.bl sa])) M3 (.lst (List.replicate (4 : Int).toNat [V.bl sa]).flatten)) = H21 at KS WS ⊢
            refine ⟨_, rfl, W, _, _, _, rfl, rfl, SqL.of WS.hW, atI_nat (j := 0) rfl, _, rfl, N, _, _, _, rfl, rfl, SqL.of KS.hN, atI_nat (j := 3) rfl, nek_go R' WS.k1 KS.k4 op5 op1 eK ⟨_, rfl, rfl, _, rfl, ifn (by cases sa <;> (intro z; cases z)) ?_⟩⟩
            clear WS h1 h2 h1B s21 hM3 hB hD4
            obtain ⟨c0, tl, rfl⟩ : ∃ c t, sg0 = c :: t := by
              cases sg0 with
              | nil => exact absurd l0 (Nat.lt_irrefl _)
              | cons c t => exact ⟨c, t, rfl⟩
            have few4 := Gs.few
            refine ⟨_, rfl, fun D6 hD6 => lc_it walk_str (fun j H3 => H3 D6 = some (.lst (((abc.take j).filter fun c => !decide (c ∈ c0 :: tl)).map vOne)) ∧ Same H21 H3) ⟨upd_same, Same.put (Same.refl H21) hD6⟩ (fun _ _ _ _ => trivial) ?_ ?_⟩
            · rintro j y H3 H3' hj ⟨h1, h2⟩ ⟨rfl, c, hc, rfl⟩
              have hc' : abc[j]? = some c := by
                rw [abc_is] at hc
                simpa [S] using hc
              refine ⟨rfl, _, rfl, _, rfl, c, S (c0 :: tl), rfl, rfl, _, rfl, ite2 (fun q => ?_) (fun q => ?_)⟩
              · refine ⟨_, rfl, _, h1, ?_, ?_, Same.new' h2 hD6⟩
                · rw [List.length_map, sizeLine_eq]
                  have := List.length_filter_le (fun c => !decide (c ∈ c0 :: tl)) (abc.take j)
                  have := List.length_take_le' j abc
                  rw [abc_len] at this
                  omega
                · rw [upd_same, take_more hc', List.filter_append, List.map_append]
                  rw [S_cps] at q
                  rw [show ([c].filter fun c => !decide (c ∈ c0 :: tl)) = [c] from List.filter_cons_of_pos q] <;> rfl
              · refine ⟨?_, h2⟩
                rw [S_cps] at q
                rw [h1, take_more hc', List.filter_append, show ([c].filter fun c => !decide (c ∈ c0 :: tl)) = [] from List.filter_cons_of_neg q, List.append_nil]
            · rintro H22 ⟨h1, h2⟩
              have full : abc.take ("abcdefghijklmnopqrstuvwxyz" : Str).cps.size = abc := by rw [abc_is, S_size, List.take_length]
              rw [full] at h1
              have many := left_len (c0 :: tl) abc (by unfold abc; decide)
              rw [abc_len] at many
              replace KS := KS.same h2
              refine ⟨_, rfl, p, _, rfl, by decide, by decide, KS.pool, fun d H23 d0 d1 hp23 b23 => ?_⟩
              have d2 : d.toNat < (abc.filter fun c => !decide (c ∈ c0 :: tl)).length := by omega
              obtain ⟨m, hm⟩ : ∃ m, (abc.filter fun c => !decide (c ∈ c0 :: tl))[d.toNat]? = some m := ⟨_, List.getElem?_eq_getElem d2⟩
              obtain ⟨c1, c2⟩ := List.mem_filter.mp (List.mem_of_getElem? hm)
              have c3 : m ∉ c0 :: tl := by simpa using c2
              have hat : atI ((abc.filter fun c => !decide (c ∈ c0 :: tl)).map vOne) d = some (vOne m) := by
                have q := atI_nat (xs := (abc.filter fun c => !decide (c ∈ c0 :: tl)).map vOne) (j := d.toNat) (v := vOne m) (by rw [List.getElem?_map, hm] <;> rfl)
                rwa [Int.toNat_of_nonneg d0] at q
              have h4 := b23 D6 _ (hp1ne KS.pool h1) h1
              refine ⟨D6, _, _, _, rfl, rfl, SqL.of h4, hat, ?_⟩
              replace KS := KS.but na b23 hp23
              clear h1 h2 h4 hD6 hat hm d2 many full
              refine ⟨_, rfl, (by show 0 ≤ sizeLine; decide), fun M4 hM4 => ⟨.list (ps0.map PyData.str), .list [], .lst (SqL.of ((Same.put (Same.refl H23) hM4) _ _ KS.ha)) (dp_strs ps0), .lst (SqL.of upd_same) .nil, shaped_strs (G'.ok Gs.low), rfl, ?_⟩⟩
              rw [eqv_nil PyData.str ps0]
              replace KS := KS.same (Same.put (o := .lst []) (Same.refl H23) hM4)
              generalize (L2.upd H23 M4 (.lst [])) = H24 at KS ⊢
              refine ⟨_, rfl, either (T := fun x H' => ∃ (Lx : Addr) (less : List Str), x = .ref Lx ∧ H' Lx = some (.lst (less.map V.str)) ∧ Prs (c0 :: tl) less ∧ less.length ≠ ps0.length ∧ Same H24 H') (fun q Q' k' => ?_) (fun q Q' k' => ?_) ?_⟩
              · have ne : ps0 ≠ [] := fun z => by
                  rw [z] at q
                  cases q
                refine ⟨_, rfl, 1, rfl, -1, rfl, a, _, rfl, SqL.of KS.ha, fun Lx hLx => k' _ _ ⟨Lx, ps0.dropLast, rfl, ?_, ⟨fun z hz => G'.of z ((List.dropLast_sublist _).subset hz), G'.nd.sublist (List.dropLast_sublist _), ?_⟩, less_ne ne, Same.put (Same.refl _) hLx⟩⟩
                · rw [upd_same]
                  exact congrArg (fun q => some (HO.lst q)) (cut_last ps0)
                · rw [List.length_dropLast]
                  omega
              · have e0 : ps0 = [] := by
                  cases ps0 with
                  | nil => rfl
                  | cons z r => cases q
                have em : Txt.mul (⟨#[c0]⟩ : Str) 2 = S [c0, c0] := S_eq (by rw [mul_cps (by decide)] <;> rfl)
                refine ⟨_, rfl, _, _, c0, rfl, rfl, Gs.w.fits, by rw [S_cps]; exact atI_nat (j := 0) rfl, _, _, rfl, rfl, ?_, (by show 1 ≤ sizeLine; decide), fun Lx hLx => k' _ _ ⟨Lx, [S [c0, c0]], rfl, ?_, ⟨fun z hz => ?_, ?_, (by show 1 ≤ 16; decide)⟩, ?_, Same.put (Same.refl _) hLx⟩⟩
                · exact mulOk (by decide) (by show 1 * 2 ≤ 16777216; decide) (by decide)
                · rw [upd_same]
                  show some (HO.lst [V.str (Txt.mul (⟨#[c0]⟩ : Str) 2)]) = _
                  rw [em] <;> rfl
                · rw [List.mem_singleton.mp hz]
                  exact ⟨c0, c0, List.mem_cons_self, List.mem_cons_self, rfl⟩
                · simp
                · rw [e0]
                  show ¬ (1 : Nat) = 0
                  decide
              · rintro x H25 ⟨Lx, less, rfl, hLx, Pl, nel, s25⟩
                replace KS := KS.same s25
                refine ⟨_, rfl, _, rfl, Lx, _, rfl, .inl ⟨SqL.of hLx, fun t7 ht7 => ?_⟩⟩
                have s7 := Same.put (o := .tup (less.map V.str)) (Same.refl H25) ht7
                refine fun r9 dx9 n9 m9 _ => make_go n9 m9 Gs (.inr ⟨t7, rfl, upd_same, Pl⟩) fun H26 sg9 ps9 s26 hsg9 os9 hps9 op9 K9 => ⟨rfl, ?_⟩
                replace KS := KS.same (s7.trans s26)
                have ecut : cutS (S (c0 :: tl) ++ one m) (some (-4)) none = S (((c0 :: tl) ++ [m]).drop (((c0 :: tl) ++ [m]).length - 4)) := by
                  rw [show (one m : Str) = S [m] from rfl, S_add, cut_four]
                have GA : Sgs (((c0 :: tl) ++ [m]).drop (((c0 :: tl) ++ [m]).length - 4)) := other_sgs Gs c3 (abc_low m c1)
                have hmA : m ∈ ((c0 :: tl) ++ [m]).drop (((c0 :: tl) ++ [m]).length - 4) := other_mem Gs
                have PA' := other_prs (m := m) Gs G'
                refine ⟨_, rfl, _, rfl, _, _, rfl, rfl, ?_, 4, rfl, -4, rfl, _, rfl, ?_, ?_⟩
                · rw [S_len, sizeLine_eq]
                  show _ + 1 ≤ _
                  omega
                · rw [show (one m : Str) = S [m] from rfl, S_add, S_len, List.length_append, sizeLine_eq]
                  show _ + 1 ≤ _
                  omega
                rw [ecut]
                refine ⟨_, rfl, a, rfl, ⟨_, SqL.of KS.ha⟩, fun D5 hD5 => lc_it (walk_list (xs := ps0.map V.str)) (fun i H' => H' D5 = some (.lst (((ps0.take i).filter fun z => !decide (c0 ∈ z.cps.toList)).map V.str)) ∧ Same H26 H') ⟨upd_same, Same.put (Same.refl H26) hD5⟩ (fun _ _ _ h => SqL.of (h.2 _ _ KS.ha)) ?_ ?_⟩
                · rintro i x H27 H27' hi ⟨h1, h2⟩ ⟨rfl, hx⟩
                  rw [List.getElem?_map] at hx
                  obtain ⟨z, hz, rfl⟩ := Option.map_eq_some_iff.mp hx
                  rw [List.length_map] at hi
                  refine ⟨rfl, _, rfl, _, _, c0, rfl, rfl, Gs.w.fits, by rw [S_cps]; exact atI_nat (j := 0) rfl, _, rfl, c0, z, rfl, rfl, _, rfl, ite2 (fun q => ?_) (fun q => ?_)⟩
                  · refine ⟨_, rfl, _, h1, ?_, ?_, Same.new' h2 hD5⟩
                    · rw [List.length_map, sizeLine_eq]
                      have := List.length_filter_le (fun z : Str => !decide (c0 ∈ z.cps.toList)) (ps0.take i)
                      have := List.length_take_le' i ps0
                      omega
                    · rw [upd_same, take_more hz, List.filter_append, List.map_append]
                      rw [show ([z].filter fun z : Str => !decide (c0 ∈ z.cps.toList)) = [z] from List.filter_cons_of_pos q] <;> rfl
                  · refine ⟨?_, h2⟩
                    rw [h1, take_more hz, List.filter_append, show ([z].filter fun z : Str => !decide (c0 ∈ z.cps.toList)) = [] from List.filter_cons_of_neg q, List.append_nil]
                · rintro H27 ⟨h1, h2⟩
                  rw [List.length_map, List.take_length] at h1
                  refine ⟨D5, _, rfl, .inl ⟨SqL.of h1, fun t8 ht8 => ?_⟩⟩
                  have s8 := Same.put (o := .tup ((ps0.filter fun z => !decide (c0 ∈ z.cps.toList)).map V.str)) h2 ht8
                  refine fun rA dxA nA mA _ => make_go nA mA GA (.inr ⟨t8, rfl, upd_same, PA'⟩) fun H28 sgA psA s28 hsgA osA hpsA opA KA' => ⟨rfl, ?_⟩
                  refine ⟨(by show 2 ≤ sizeLine; decide), fun O hO => ?_⟩
                  have sO := Same.put (o := .lst [.ref r9, .ref rA]) (Same.refl H28) hO
                  have hO' : (L2.upd H28 O (.lst [.ref r9, .ref rA])) O = some (.lst [.ref r9, .ref rA]) := upd_same
                  have s2O := s8.trans (s28.trans sO)
                  replace KS := KS.same s2O
                  replace K9 := K9.same s2O
                  replace KA' := KA'.same sO
                  generalize (L2.upd H28 O (.lst [.ref r9, .ref rA])) = H29 at hO' KS K9 KA' ⊢
                  have o9 : Prs' ps9 := (Pl.perm hsg9 hps9).ok (Gs.perm hsg9).low
                  have oA : Prs' psA := (PA'.perm hsgA hpsA).ok (GA.perm hsgA).low
                  have f1 : sameK sg9 sg8 ps9 ps' = false := by
                    unfold sameK
                    rw [decide_eq_false (p := ps9 = ps') (fun q => nel (by rw [← hps9.length_eq, q, hps.length_eq])), Bool.and_false]
                  have f2 : sameK sgA sg8 psA ps' = false := by
                    unfold sameK
                    rw [decide_eq_false (p := sgA = sg8) (fun q => c3 (hsg.mem_iff.mp (by rw [← q]; exact hsgA.mem_iff.mpr hmA))), Bool.false_and]
                  refine ⟨_, rfl, O, _, _, _, rfl, rfl, SqL.of hO', atI_nat (j := 0) rfl, _, rfl, N, _, _, _, rfl, rfl, SqL.of KS.hN, atI_nat (j := 0) rfl, eqk_go R' K9 KS.k1 o9 op1 f1 ⟨_, rfl, ?_⟩⟩
                  refine ⟨_, rfl, O, _, _, _, rfl, rfl, SqL.of hO', atI_nat (j := 1) rfl, _, rfl, N, _, _, _, rfl, rfl, SqL.of KS.hN, atI_nat (j := 0) rfl, eqk_go R' KA' KS.k1 oA op1 f2 ⟨_, rfl, ?_⟩⟩
                  refine ⟨_, rfl, O, _, _, _, rfl, rfl, SqL.of hO', atI_nat (j := 0) rfl, _, rfl, N, _, _, _, rfl, rfl, SqL.of KS.hN, atI_nat (j := 1) rfl, nek_go R' K9 KS.k2 o9 op1 f1 ⟨_, rfl, ?_⟩⟩
                  obtain ⟨dz1, tz1, bz1, z1, z2⟩ := id KS.k1
                  refine ⟨_, rfl, N, _, _, _, rfl, rfl, SqL.of KS.hN, atI_nat (j := 0) rfl, r1, dz1, _, rfl, z1, r1, sg8, ps', rfl, KS.k1, fun q5 t9 H30 hq5 s30 gq gt => ?_⟩
                  replace KS := KS.same s30
                  refine ⟨_, rfl, N, _, _, _, rfl, rfl, SqL.of KS.hN, atI_nat (j := 0) rfl, _, rfl, eqt_go R' KS.k1 gq ⟨false, rfl, true, rfl, ?_⟩⟩
                  refine ⟨_, rfl, N, _, _, _, rfl, rfl, SqL.of KS.hN, atI_nat (j := 0) rfl, _, rfl, q5, _, _, _, rfl, rfl, SqT.of gq, atI_nat (j := 0) rfl, nes_go R' KS.k1 ⟨true, rfl, ?_⟩⟩
                  exact ⟨_, rfl, N, _, _, _, rfl, rfl, SqL.of KS.hN, atI_nat (j := 0) rfl, _, rfl, _, rfl, r1, a, _, sg8, ps0, ps', rfl, Gs, G', KS.ha, hsg, os, hps, op, KS.k1, fun H31 s31 => k H31 (KS.bt.trans (But.of s31))⟩
end
end Wb
namespace Wb
open PySem L2 WbMin WbO WbT WbS
def spLaw (K : PySem.W.Frag) : Sp := fun vs H Q _ => ∃ (a : Addr) (ns : List Int), vs = [.ref a] ∧ SqL K H a (ns.map V.int) ∧ ns.length ≤ 63 ∧ ∀ H', Q (.bl true) H'
section
variable {P : Program} {w : World} {K : PySem.W.Frag} {mg : Str → Option Value} {base : Heap} {f : Addr} {fd : FuncData} {A : KA} {D : DA}
theorem scLa : FnScope ["_law_script", "_law_k"] ["_law_script"] (defScope sLaw) := ⟨rfl, rfl, rfl, by decide +kernel, rfl, by decide +kernel, by decide +kernel⟩
theorem ok_law (F : Fun K "law" "law" sLaw f fd) (Z : Free mg) (R' : KindF K mg A) (D' : Defs K mg D) : FnOk P w K mg base CX0 8 f fd ["_law_script"] (spLaw K) := by
  have GC : FnOk P w K mg base CX0 1 D.cell D.dcell ["_law_script", "_law_k"] (spCell K) := ok_cell D'.cell.F Z.int Z.len
  have GP : FnOk P w K mg base CX0 1 D.pool D.dpool ["_law_cell_here"] spPool := ok_pool D'.pool.F Z.abs Z.int
  have GR : FnOk P w K mg base CX0 7 D.right D.dright ["_law_pool_here"] spRight := ok_right D'.right.F Z R' D'
  refine F.ok scLa (fun vs H Q E h => ?_) (fun cdv A' outer s H vs Q E hr h => ?_)
  · obtain ⟨a, ns, rfl, _⟩ := h
    rfl
  · obtain ⟨a, ns, rfl, hS, hlen, k⟩ := h
    have hr1 : Room 1 _ := hr.mono (by decide)
    refine ⟨_, pss_one (ps_ret (pe_callB (cr_all rfl) (by rfl) Z.all (by decide +kernel) (pa_cons
      (pe_lc (own := [("_law_k", 1)]) (g := gName 1) (tt := tYes) rfl scLa.nd (pi_range1 rfl Z.range (pa_cons (pe_callB (call_max2 rfl) (by rfl) Z.max (by decide +kernel) (pa_cons pe_int (pa_cons
            (pe_callB (call_min2 rfl) (by rfl) Z.min (by decide +kernel) (pa_cons (pe_callB call_len_seq (by rfl) Z.len PySem.boot_len (pa_cons (pv 0) pa_nil)) (pa_cons pe_int pa_nil))) pa_nil))) pa_nil))
        (blkOk_by (N := ["_law_script", "_law_k"]) (sc := defScope sLaw) (by decide +kernel)) (fun _ _ _ _ _ => pg_name (i := 1) scLa.nd rfl (.inl rfl)) (fun _ _ _ _ _ => pts_nil)
        (fun _ _ _ _ _ => pe_call GR hr rfl D'.right.g D'.right.kp D'.right.b .nil pass0 (pa_cons (pe_call GP hr1 rfl D'.pool.g D'.pool.kp D'.pool.b .nil pass0 (pa_cons (pe_call GC hr1 rfl D'.cell.g D'.cell.kp D'.cell.b .nil pass0 (pa_cons (pv 0) (pa_cons (pv 1) pa_nil))) pa_nil)) pa_nil))) pa_nil))), ?_⟩
    have few : (ns.map V.int).length ≤ 63 := by rw [List.length_map]; exact hlen
    have all2 : ∀ n : Nat, (List.replicate n true).all id = true := fun n => List.all_eq_true.mpr fun b hb => by rw [List.eq_of_mem_replicate hb] <;> rfl
    refine ⟨_, rfl, a, _, rfl, .inl hS, _, _, rfl, _, _, rfl, _, rfl, ?_, ?_, fun L hL => lc_it walk_range (fun i H3 => H3 L = some (.lst ((List.replicate i true).map V.bl)) ∧ Same H H3) ⟨upd_same, Same.put (Same.refl H) hL⟩ (fun _ _ _ _ => trivial) ?_ ?_⟩
    · split <;> split <;> omega
    · split <;> split <;> omega
    · rintro i x H3 H3' hi ⟨h1, h2⟩ ⟨rfl, rfl⟩
      have hi' : i < 8 := by
        have q := hi
        split at q <;> (try split at q) <;> omega
      refine ⟨rfl, _, rfl, _, rfl, a, ns, _, rfl, Same.seq h2 hS, hlen, by omega, by omega, fun n H4 s4 => ⟨_, rfl, fun p H5 np s5 hp => ⟨p, rfl, hp, fun H6 b6 => ?_⟩⟩⟩
      have h4 := s4 _ _ h1
      have s6 : Same H H6 := fun b o e => by
        have q := s4 _ _ (h2 _ _ e)
        exact b6 b o (ne_of_none q np) (s5 _ _ q)
      refine ⟨_, b6 L _ (ne_of_none h4 np) (s5 _ _ h4), ?_, ?_, Same.new' s6 hL⟩
      · rw [List.length_map, List.length_replicate, sizeLine_eq]
        omega
      · rw [upd_same, List.replicate_succ', List.map_append] <;> rfl
    · rintro H3 ⟨h1, h2⟩
      refine ⟨L, _, rfl, SqL.of h1, ?_⟩
      rw [all2]
      exact k H3
end
end Wb
namespace Wb
open PySem L2 WbMin WbO WbT WbS
theorem kit_own {K : PySem.W.Frag} {C : Addr} {t : String} (h1 : PySem.W.isClsIn K C = true) (h2 : PySem.W.typeIn K (.ref C) = some (.type "type")) (h3 : PySem.W.subIn K (.type t) (.ref C) = some false) : PySem.W.kitOne K (.type t) (.ref C) = some false := by
  unfold PySem.W.kitOne
  rw [if_neg (by intro z; have q := beq_iff_eq.mp z; cases q)]
  unfold PySem.W.kitCls
  show (if ((PySem.W.clsIn K C).isSome && PySem.W.typeIn K (.ref C) == some (.type "type")) = true then PySem.W.subIn K (.type t) (.ref C) else none) = some false
  have h1' : (PySem.W.clsIn K C).isSome = true := h1
  rw [h1', h2, h3, if_pos (by rw [Bool.true_and]; exact beq_iff_eq.mpr rfl)]
theorem binds_nil {K : PySem.W.Frag} {fd : FuncData} {ps : List Str} (h : ∃ ds, Vals [] ds ∧ Binds K fd ps ds) : Binds K fd ps [] := by
  obtain ⟨ds, hv, hb⟩ := h
  cases hv
  exact hb
theorem all_mk {l : PySem.W.OpenLaw} {w : World} {K : PySem.W.Frag} {h : Heap} {mg : Str → Option Value} {fa C pS pP pW pM tD : Addr} {t6 t4 : Tok} {rS rP rW rM : List Value} {oc_tD : Value} {od_tD : Option Addr} {n_tD : Nat} {sl_tD : Array (Option Value)} (X : K.In h) (G : h.Ns mainGlobals mg) (hfa : mg "law" = some (.ref fa))
    {f_cell f_pool f_draw f_shuf f_signs f_every f_couples f_kis f_right f_ksigns f_ksignof f_kfirst f_kispair f_kchpairs f_kallp f_khas f_kisword f_law f_mI f_mS f_mP f_mW f_mM f_mE : Addr} {od_cell an_cell od_pool an_pool od_draw an_draw od_shuf an_shuf od_signs an_signs od_every an_every od_couples an_couples od_kis an_kis od_right an_right od_ksigns an_ksigns od_ksignof an_ksignof od_kfirst an_kfirst od_kispair an_kispair od_kchpairs an_kchpairs od_kallp an_kallp od_khas an_khas od_kisword an_kisword od_law an_law od_mI an_mI od_mS an_mS od_mP an_mP od_mW an_mW od_mM an_mM od_mE an_mE : Option Addr} {sl_cell sl_pool sl_draw sl_shuf sl_signs sl_every sl_couples sl_kis sl_right sl_ksigns sl_ksignof sl_kfirst sl_kispair sl_kchpairs sl_kallp sl_khas sl_kisword sl_law sl_mI sl_mS sl_mP sl_mW sl_mM sl_mE : Array (Option Value)}
    {oc_cell kv_cell dc_cell pm_cell cd_cell ct_cell oc_pool kv_pool dc_pool pm_pool cd_pool ct_pool oc_draw kv_draw dc_draw pm_draw cd_draw ct_draw oc_shuf kv_shuf dc_shuf pm_shuf cd_shuf ct_shuf oc_signs kv_signs dc_signs pm_signs cd_signs ct_signs oc_every kv_every dc_every pm_every cd_every ct_every oc_couples kv_couples dc_couples pm_couples cd_couples ct_couples oc_kis kv_kis dc_kis pm_kis cd_kis ct_kis oc_right kv_right dc_right pm_right cd_right ct_right oc_ksigns kv_ksigns dc_ksigns pm_ksigns cd_ksigns ct_ksigns oc_ksignof kv_ksignof dc_ksignof pm_ksignof cd_ksignof ct_ksignof oc_kfirst kv_kfirst dc_kfirst pm_kfirst cd_kfirst ct_kfirst oc_kispair kv_kispair dc_kispair pm_kispair cd_kispair ct_kispair oc_kchpairs kv_kchpairs dc_kchpairs pm_kchpairs cd_kchpairs ct_kchpairs oc_kallp kv_kallp dc_kallp pm_kallp cd_kallp ct_kallp oc_khas kv_khas dc_khas pm_khas cd_khas ct_khas oc_kisword kv_kisword dc_kisword pm_kisword cd_kisword ct_kisword oc_law kv_law dc_law pm_law cd_law ct_law oc_mI kv_mI dc_mI pm_mI cd_mI ct_mI oc_mS kv_mS dc_mS pm_mS cd_mS ct_mS oc_mP kv_mP dc_mP pm_mP cd_mP ct_mP oc_mW kv_mW dc_mW pm_mW cd_mW ct_mW oc_mM kv_mM dc_mM pm_mM cd_mM ct_mM oc_mE kv_mE dc_mE pm_mE cd_mE ct_mE : Value}
    (a_cell : PySem.W.nsIn K mainGlobals "_law_cell" = some (some (.ref f_cell)))
    (l_cell : K.lookup f_cell = some ⟨oc_cell, od_cell, .func (PySem.W.fnOf "_law_cell" "_law_cell" (defArgs sCell) (defBody sCell) (defScope sCell) .none kv_cell dc_cell pm_cell an_cell cd_cell ct_cell), sl_cell⟩)
    (c_cell : PySem.W.codeIn K cd_cell "_law_cell" = true)
    (k_cell : PySem.W.keepIn K (.ref f_cell) = true)
    (a_pool : PySem.W.nsIn K mainGlobals "_law_pool" = some (some (.ref f_pool)))
    (l_pool : K.lookup f_pool = some ⟨oc_pool, od_pool, .func (PySem.W.fnOf "_law_pool" "_law_pool" (defArgs sPool) (defBody sPool) (defScope sPool) .none kv_pool dc_pool pm_pool an_pool cd_pool ct_pool), sl_pool⟩)
    (c_pool : PySem.W.codeIn K cd_pool "_law_pool" = true)
    (k_pool : PySem.W.keepIn K (.ref f_pool) = true)
    (a_draw : PySem.W.nsIn K mainGlobals "_law_draw" = some (some (.ref f_draw)))
    (l_draw : K.lookup f_draw = some ⟨oc_draw, od_draw, .func (PySem.W.fnOf "_law_draw" "_law_draw" (defArgs sDraw) (defBody sDraw) (defScope sDraw) .none kv_draw dc_draw pm_draw an_draw cd_draw ct_draw), sl_draw⟩)
    (c_draw : PySem.W.codeIn K cd_draw "_law_draw" = true)
    (k_draw : PySem.W.keepIn K (.ref f_draw) = true)
    (a_shuf : PySem.W.nsIn K mainGlobals "_law_shuffled" = some (some (.ref f_shuf)))
    (l_shuf : K.lookup f_shuf = some ⟨oc_shuf, od_shuf, .func (PySem.W.fnOf "_law_shuffled" "_law_shuffled" (defArgs sShuf) (defBody sShuf) (defScope sShuf) .none kv_shuf dc_shuf pm_shuf an_shuf cd_shuf ct_shuf), sl_shuf⟩)
    (c_shuf : PySem.W.codeIn K cd_shuf "_law_shuffled" = true)
    (k_shuf : PySem.W.keepIn K (.ref f_shuf) = true)
    (a_signs : PySem.W.nsIn K mainGlobals "_law_signs" = some (some (.ref f_signs)))
    (l_signs : K.lookup f_signs = some ⟨oc_signs, od_signs, .func (PySem.W.fnOf "_law_signs" "_law_signs" (defArgs sSigns) (defBody sSigns) (defScope sSigns) .none kv_signs dc_signs pm_signs an_signs cd_signs ct_signs), sl_signs⟩)
    (c_signs : PySem.W.codeIn K cd_signs "_law_signs" = true)
    (k_signs : PySem.W.keepIn K (.ref f_signs) = true)
    (a_every : PySem.W.nsIn K mainGlobals "_law_every" = some (some (.ref f_every)))
    (l_every : K.lookup f_every = some ⟨oc_every, od_every, .func (PySem.W.fnOf "_law_every" "_law_every" (defArgs sEvery) (defBody sEvery) (defScope sEvery) .none kv_every dc_every pm_every an_every cd_every ct_every), sl_every⟩)
    (c_every : PySem.W.codeIn K cd_every "_law_every" = true)
    (k_every : PySem.W.keepIn K (.ref f_every) = true)
    (a_couples : PySem.W.nsIn K mainGlobals "_law_couples" = some (some (.ref f_couples)))
    (l_couples : K.lookup f_couples = some ⟨oc_couples, od_couples, .func (PySem.W.fnOf "_law_couples" "_law_couples" (defArgs sCouples) (defBody sCouples) (defScope sCouples) .none kv_couples dc_couples pm_couples an_couples cd_couples ct_couples), sl_couples⟩)
    (c_couples : PySem.W.codeIn K cd_couples "_law_couples" = true)
    (k_couples : PySem.W.keepIn K (.ref f_couples) = true)
    (a_kis : PySem.W.nsIn K mainGlobals "_law_kind_is" = some (some (.ref f_kis)))
    (l_kis : K.lookup f_kis = some ⟨oc_kis, od_kis, .func (PySem.W.fnOf "_law_kind_is" "_law_kind_is" (defArgs sKIs) (defBody sKIs) (defScope sKIs) .none kv_kis dc_kis pm_kis an_kis cd_kis ct_kis), sl_kis⟩)
    (c_kis : PySem.W.codeIn K cd_kis "_law_kind_is" = true)
    (k_kis : PySem.W.keepIn K (.ref f_kis) = true)
    (a_right : PySem.W.nsIn K mainGlobals "_law_right" = some (some (.ref f_right)))
    (l_right : K.lookup f_right = some ⟨oc_right, od_right, .func (PySem.W.fnOf "_law_right" "_law_right" (defArgs sRight) (defBody sRight) (defScope sRight) .none kv_right dc_right pm_right an_right cd_right ct_right), sl_right⟩)
    (c_right : PySem.W.codeIn K cd_right "_law_right" = true)
    (k_right : PySem.W.keepIn K (.ref f_right) = true)
    (a_ksigns : PySem.W.nsIn K mainGlobals "is_signs" = some (some (.ref f_ksigns)))
    (l_ksigns : K.lookup f_ksigns = some ⟨oc_ksigns, od_ksigns, .func (PySem.W.fnOf "is_signs" "is_signs" (defArgs sIsSigns) (defBody sIsSigns) (defScope sIsSigns) .none kv_ksigns dc_ksigns pm_ksigns an_ksigns cd_ksigns ct_ksigns), sl_ksigns⟩)
    (c_ksigns : PySem.W.codeIn K cd_ksigns "is_signs" = true)
    (k_ksigns : PySem.W.keepIn K (.ref f_ksigns) = true)
    (a_ksignof : PySem.W.nsIn K mainGlobals "is_sign_of" = some (some (.ref f_ksignof)))
    (l_ksignof : K.lookup f_ksignof = some ⟨oc_ksignof, od_ksignof, .func (PySem.W.fnOf "is_sign_of" "is_sign_of" (defArgs sSignOf) (defBody sSignOf) (defScope sSignOf) .none kv_ksignof dc_ksignof pm_ksignof an_ksignof cd_ksignof ct_ksignof), sl_ksignof⟩)
    (c_ksignof : PySem.W.codeIn K cd_ksignof "is_sign_of" = true)
    (k_ksignof : PySem.W.keepIn K (.ref f_ksignof) = true)
    (a_kfirst : PySem.W.nsIn K mainGlobals "first_wrong" = some (some (.ref f_kfirst)))
    (l_kfirst : K.lookup f_kfirst = some ⟨oc_kfirst, od_kfirst, .func (PySem.W.fnOf "first_wrong" "first_wrong" (defArgs sFirst) (defBody sFirst) (defScope sFirst) .none kv_kfirst dc_kfirst pm_kfirst an_kfirst cd_kfirst ct_kfirst), sl_kfirst⟩)
    (c_kfirst : PySem.W.codeIn K cd_kfirst "first_wrong" = true)
    (k_kfirst : PySem.W.keepIn K (.ref f_kfirst) = true)
    (a_kispair : PySem.W.nsIn K mainGlobals "_is_pair" = some (some (.ref f_kispair)))
    (l_kispair : K.lookup f_kispair = some ⟨oc_kispair, od_kispair, .func (PySem.W.fnOf "_is_pair" "_is_pair" (defArgs sIsPair) (defBody sIsPair) (defScope sIsPair) .none kv_kispair dc_kispair pm_kispair an_kispair cd_kispair ct_kispair), sl_kispair⟩)
    (c_kispair : PySem.W.codeIn K cd_kispair "_is_pair" = true)
    (k_kispair : PySem.W.keepIn K (.ref f_kispair) = true)
    (a_kchpairs : PySem.W.nsIn K mainGlobals "_check_pairs" = some (some (.ref f_kchpairs)))
    (l_kchpairs : K.lookup f_kchpairs = some ⟨oc_kchpairs, od_kchpairs, .func (PySem.W.fnOf "_check_pairs" "_check_pairs" (defArgs sChPairs) (defBody sChPairs) (defScope sChPairs) .none kv_kchpairs dc_kchpairs pm_kchpairs an_kchpairs cd_kchpairs ct_kchpairs), sl_kchpairs⟩)
    (c_kchpairs : PySem.W.codeIn K cd_kchpairs "_check_pairs" = true)
    (k_kchpairs : PySem.W.keepIn K (.ref f_kchpairs) = true)
    (a_kallp : PySem.W.nsIn K mainGlobals "_all_pairs" = some (some (.ref f_kallp)))
    (l_kallp : K.lookup f_kallp = some ⟨oc_kallp, od_kallp, .func (PySem.W.fnOf "_all_pairs" "_all_pairs" (defArgs sAllP) (defBody sAllP) (defScope sAllP) .none kv_kallp dc_kallp pm_kallp an_kallp cd_kallp ct_kallp), sl_kallp⟩)
    (c_kallp : PySem.W.codeIn K cd_kallp "_all_pairs" = true)
    (k_kallp : PySem.W.keepIn K (.ref f_kallp) = true)
    (a_khas : PySem.W.nsIn K mainGlobals "_has_ring" = some (some (.ref f_khas)))
    (l_khas : K.lookup f_khas = some ⟨oc_khas, od_khas, .func (PySem.W.fnOf "_has_ring" "_has_ring" (defArgs sHas) (defBody sHas) (defScope sHas) .none kv_khas dc_khas pm_khas an_khas cd_khas ct_khas), sl_khas⟩)
    (c_khas : PySem.W.codeIn K cd_khas "_has_ring" = true)
    (k_khas : PySem.W.keepIn K (.ref f_khas) = true)
    (a_kisword : PySem.W.nsIn K mainGlobals "is_word" = some (some (.ref f_kisword)))
    (l_kisword : K.lookup f_kisword = some ⟨oc_kisword, od_kisword, .func (PySem.W.fnOf "is_word" "is_word" (defArgs sIsWord) (defBody sIsWord) (defScope sIsWord) .none kv_kisword dc_kisword pm_kisword an_kisword cd_kisword ct_kisword), sl_kisword⟩)
    (c_kisword : PySem.W.codeIn K cd_kisword "is_word" = true)
    (k_kisword : PySem.W.keepIn K (.ref f_kisword) = true)
    (a_law : PySem.W.nsIn K mainGlobals "law" = some (some (.ref f_law)))
    (l_law : K.lookup f_law = some ⟨oc_law, od_law, .func (PySem.W.fnOf "law" "law" (defArgs sLaw) (defBody sLaw) (defScope sLaw) .none kv_law dc_law pm_law an_law cd_law ct_law), sl_law⟩)
    (c_law : PySem.W.codeIn K cd_law "law" = true)
    (k_law : PySem.W.keepIn K (.ref f_law) = true)
    (aC : PySem.W.nsIn K mainGlobals "Kind" = some (some (.ref C)))
    (a_mI : PySem.W.findIn K (.ref C) "__init__" = some (some (.ref f_mI)))
    (i_mI : PySem.W.isFn K (.ref f_mI) = true)
    (l_mI : K.lookup f_mI = some ⟨oc_mI, od_mI, .func (PySem.W.fnOf "__init__" "Kind.__init__" (defArgs sKInit) (defBody sKInit) (defScope sKInit) (.ref tD) kv_mI dc_mI pm_mI an_mI cd_mI ct_mI), sl_mI⟩)
    (c_mI : PySem.W.codeIn K cd_mI "Kind.__init__" = true)
    (k_mI : PySem.W.keepIn K (.ref f_mI) = true)
    (p_atS : PySem.W.findIn K (.ref C) "signs" = some (some (.ref pS)))
    (p_getS : PySem.W.specialIn K (.ref pS) "__get__" = some (some (.builtin "property.__get__")))
    (p_takS : PySem.W.takesIn K (.ref pS) = some true)
    (p_recS : PySem.W.recIn K pS "property" = some (.ref f_mS :: rS))
    (l_mS : K.lookup f_mS = some ⟨oc_mS, od_mS, .func (PySem.W.fnOf "signs" "Kind.signs" (defArgs sKSig) (defBody sKSig) (defScope sKSig) .none kv_mS dc_mS pm_mS an_mS cd_mS ct_mS), sl_mS⟩)
    (c_mS : PySem.W.codeIn K cd_mS "Kind.signs" = true)
    (k_mS : PySem.W.keepIn K (.ref f_mS) = true)
    (p_atP : PySem.W.findIn K (.ref C) "pairs" = some (some (.ref pP)))
    (p_getP : PySem.W.specialIn K (.ref pP) "__get__" = some (some (.builtin "property.__get__")))
    (p_takP : PySem.W.takesIn K (.ref pP) = some true)
    (p_recP : PySem.W.recIn K pP "property" = some (.ref f_mP :: rP))
    (l_mP : K.lookup f_mP = some ⟨oc_mP, od_mP, .func (PySem.W.fnOf "pairs" "Kind.pairs" (defArgs sKPai) (defBody sKPai) (defScope sKPai) .none kv_mP dc_mP pm_mP an_mP cd_mP ct_mP), sl_mP⟩)
    (c_mP : PySem.W.codeIn K cd_mP "Kind.pairs" = true)
    (k_mP : PySem.W.keepIn K (.ref f_mP) = true)
    (p_atW : PySem.W.findIn K (.ref C) "row" = some (some (.ref pW)))
    (p_getW : PySem.W.specialIn K (.ref pW) "__get__" = some (some (.builtin "property.__get__")))
    (p_takW : PySem.W.takesIn K (.ref pW) = some true)
    (p_recW : PySem.W.recIn K pW "property" = some (.ref f_mW :: rW))
    (l_mW : K.lookup f_mW = some ⟨oc_mW, od_mW, .func (PySem.W.fnOf "row" "Kind.row" (defArgs sKRow) (defBody sKRow) (defScope sKRow) .none kv_mW dc_mW pm_mW an_mW cd_mW ct_mW), sl_mW⟩)
    (c_mW : PySem.W.codeIn K cd_mW "Kind.row" = true)
    (k_mW : PySem.W.keepIn K (.ref f_mW) = true)
    (cm_atM : PySem.W.findCls K (.ref C) (.type "type") "made" = some (.get (.builtin "classmethod.__get__") (.ref pM) .none (.ref C)))
    (cm_recM : PySem.W.recIn K pM "classmethod" = some (.ref f_mM :: rM))
    (cm_fiM : PySem.W.fnIn K f_mM = true)
    (l_mM : K.lookup f_mM = some ⟨oc_mM, od_mM, .func (PySem.W.fnOf "made" "Kind.made" (defArgs sKMade) (defBody sKMade) (defScope sKMade) .none kv_mM dc_mM pm_mM an_mM cd_mM ct_mM), sl_mM⟩)
    (c_mM : PySem.W.codeIn K cd_mM "Kind.made" = true)
    (k_mM : PySem.W.keepIn K (.ref f_mM) = true)
    (a_mE : PySem.W.findIn K (.ref C) "__eq__" = some (some (.ref f_mE)))
    (i_mE : PySem.W.isFn K (.ref f_mE) = true)
    (l_mE : K.lookup f_mE = some ⟨oc_mE, od_mE, .func (PySem.W.fnOf "__eq__" "Kind.__eq__" (defArgs sKEq) (defBody sKEq) (defScope sKEq) .none kv_mE dc_mE pm_mE an_mE cd_mE ct_mE), sl_mE⟩)
    (c_mE : PySem.W.codeIn K cd_mE "Kind.__eq__" = true)
    (k_mE : PySem.W.keepIn K (.ref f_mE) = true)
    (l_tD : K.lookup tD = some ⟨oc_tD, od_tD, .seq #[.none] n_tD, sl_tD⟩)
    (pg : PySem.W.plainGet K C Str.empty = true)
    (hd : PySem.W.hasDictIn K C = true)
    (po : PySem.W.plainOver K C = true)
    (sa : PySem.W.findIn K (.ref C) "__setattr__" = some (some (.builtin "object.__setattr__")))
    (mk : PySem.W.makesIn K C = true)
    (kc : PySem.W.keepIn K (.ref C) = true)
    (cc : PySem.W.findIn K (.ref C) "__class__" = some (some (.builtin "object.__class__")))
    (co : PySem.W.mroIn K C (.type "object") = some true)
    (rd : PySem.W.readsIn K C (.type "type") = true)
    (ga : PySem.W.specialIn K (.ref C) "__getattribute__" = some (some (.builtin "type.__getattribute__")))
    (zTup : PySem.W.nsIn K mainGlobals "tuple" = some none)
    (zLst : PySem.W.nsIn K mainGlobals "list" = some none)
    (zAny : PySem.W.nsIn K mainGlobals "any" = some none)
    (zEnum : PySem.W.nsIn K mainGlobals "enumerate" = some none)
    (zSort : PySem.W.nsIn K mainGlobals "sorted" = some none)
    (nS : PySem.W.findIn K (.ref C) "_signs" = some none)
    (nP : PySem.W.findIn K (.ref C) "_pairs" = some none)
    (nR : PySem.W.findIn K (.ref C) "_ringed" = some none)
    (cg : PySem.W.specialIn K (.builtin "object.__class__") "__get__" = some (some (.builtin "getset_descriptor.__get__")))
    (ct : PySem.W.takesIn K (.builtin "object.__class__") = some true)
    (icl : PySem.W.isClsIn K C = true)
    (tcl : PySem.W.typeIn K (.ref C) = some (.type "type"))
    (ne : PySem.W.findIn K (.ref C) "__ne__" = some (some (.builtin "object.__ne__")))
    (nf : PySem.W.notFirst K C (.ref C) = true)
    (n1 : PySem.W.notFirst K C (.type "str") = true)
    (n2 : PySem.W.notFirst K C (.type "tuple") = true)
    (su1 : PySem.W.subIn K (.type "str") (.ref C) = some false)
    (su2 : PySem.W.subIn K (.type "tuple") (.ref C) = some false)
    (g6 : PySem.W.nsIn K mainGlobals "MOST_WORD" = some (some (.int 600 t6)))
    (g4 : PySem.W.nsIn K mainGlobals "MOST_SIGNS" = some (some (.int 4 t4)))
    (z_int : PySem.W.nsIn K mainGlobals "int" = some none)
    (z_len : PySem.W.nsIn K mainGlobals "len" = some none)
    (z_range : PySem.W.nsIn K mainGlobals "range" = some none)
    (z_divmod : PySem.W.nsIn K mainGlobals "divmod" = some none)
    (z_abs : PySem.W.nsIn K mainGlobals "abs" = some none)
    (z_isinstance : PySem.W.nsIn K mainGlobals "isinstance" = some none)
    (z_str : PySem.W.nsIn K mainGlobals "str" = some none)
    (z_all : PySem.W.nsIn K mainGlobals "all" = some none)
    (z_min : PySem.W.nsIn K mainGlobals "min" = some none)
    (z_max : PySem.W.nsIn K mainGlobals "max" = some none)
    (z_set : PySem.W.nsIn K mainGlobals "set" = some none)
    (z_bool : PySem.W.nsIn K mainGlobals "bool" = some none) :
    ∃ fd : FuncData, (∀ (s : Shared) (v : Value), BindsTo s fd ⟨[v], []⟩ [("_law_script", v)]) ∧ ∀ base : Heap, K.In base → base.Ns mainGlobals mg → FnOk l.prog w K mg base CX0 8 fa fd ["_law_script"] (spLaw K) := by
  have e := hfa.symm.trans (PySem.W.mg_of X G a_law)
  cases e
  have TK : KTxt K mg C := ⟨⟨pg, hd, po, sa⟩, nS, nP, nR, PySem.W.mg_of X G aC, cc, co⟩
  have Z : Free mg := ⟨PySem.W.mg_none_of X G z_int, PySem.W.mg_none_of X G z_len, PySem.W.mg_none_of X G z_range, PySem.W.mg_none_of X G z_divmod, PySem.W.mg_none_of X G z_abs, PySem.W.mg_none_of X G z_isinstance, PySem.W.mg_none_of X G z_str, PySem.W.mg_none_of X G z_all, PySem.W.mg_none_of X G z_min, PySem.W.mg_none_of X G z_max, PySem.W.mg_none_of X G z_set, PySem.W.mg_none_of X G z_bool⟩
  have F_cell := fun_mk (st := sCell) l_cell c_cell k_cell
  have b_cell := F_cell.binds (ps := ["_law_script", "_law_k"]) fun _ _ _ _ _ _ us hl => match us, hl with | [_, _], _ => rfl
  have F_pool := fun_mk (st := sPool) l_pool c_pool k_pool
  have b_pool := F_pool.binds (ps := ["_law_cell_here"]) fun _ _ _ _ _ _ us hl => match us, hl with | [_], _ => rfl
  have F_draw := fun_mk (st := sDraw) l_draw c_draw k_draw
  have b_draw := F_draw.binds (ps := ["_law_pool_here", "_law_many"]) fun _ _ _ _ _ _ us hl => match us, hl with | [_, _], _ => rfl
  have F_shuf := fun_mk (st := sShuf) l_shuf c_shuf k_shuf
  have b_shuf := F_shuf.binds (ps := ["_law_pool_here", "_law_things"]) fun _ _ _ _ _ _ us hl => match us, hl with | [_, _], _ => rfl
  have F_signs := fun_mk (st := sSigns) l_signs c_signs k_signs
  have b_signs := F_signs.binds (ps := ["_law_pool_here", "_law_most"]) fun _ _ _ _ _ _ us hl => match us, hl with | [_, _], _ => rfl
  have F_every := fun_mk (st := sEvery) l_every c_every k_every
  have b_every := F_every.binds (ps := ["_law_abc"]) fun _ _ _ _ _ _ us hl => match us, hl with | [_], _ => rfl
  have F_couples := fun_mk (st := sCouples) l_couples c_couples k_couples
  have b_couples := F_couples.binds (ps := ["_law_pool_here", "_law_abc"]) fun _ _ _ _ _ _ us hl => match us, hl with | [_, _], _ => rfl
  have F_kis := fun_mk (st := sKIs) l_kis c_kis k_kis
  have b_kis := F_kis.binds (ps := ["_law_kind", "_law_abc", "_law_some"]) fun _ _ _ _ _ _ us hl => match us, hl with | [_, _, _], _ => rfl
  have F_right := fun_mk (st := sRight) l_right c_right k_right
  have b_right := F_right.binds (ps := ["_law_pool_here"]) fun _ _ _ _ _ _ us hl => match us, hl with | [_], _ => rfl
  have F_ksigns := fun_mk (st := sIsSigns) l_ksigns c_ksigns k_ksigns
  have b_ksigns := F_ksigns.binds (ps := ["value"]) fun _ _ _ _ _ _ us hl => match us, hl with | [_], _ => rfl
  have F_ksignof := fun_mk (st := sSignOf) l_ksignof c_ksignof k_ksignof
  have b_ksignof := F_ksignof.binds (ps := ["value", "signs"]) fun _ _ _ _ _ _ us hl => match us, hl with | [_, _], _ => rfl
  have F_kfirst := fun_mk (st := sFirst) l_kfirst c_kfirst k_kfirst
  have b_kfirst := F_kfirst.binds (ps := ["values", "right"]) fun _ _ _ _ _ _ us hl => match us, hl with | [_, _], _ => rfl
  have F_kispair := fun_mk (st := sIsPair) l_kispair c_kispair k_kispair
  have b_kispair := F_kispair.binds (ps := ["value", "signs"]) fun _ _ _ _ _ _ us hl => match us, hl with | [_, _], _ => rfl
  have F_kchpairs := fun_mk (st := sChPairs) l_kchpairs c_kchpairs k_kchpairs
  have b_kchpairs := F_kchpairs.binds (ps := ["pairs", "signs"]) fun _ _ _ _ _ _ us hl => match us, hl with | [_, _], _ => rfl
  have F_kallp := fun_mk (st := sAllP) l_kallp c_kallp k_kallp
  have b_kallp := F_kallp.binds (ps := ["signs"]) fun _ _ _ _ _ _ us hl => match us, hl with | [_], _ => rfl
  have F_khas := fun_mk (st := sHas) l_khas c_khas k_khas
  have b_khas := F_khas.binds (ps := ["signs", "pairs"]) fun _ _ _ _ _ _ us hl => match us, hl with | [_, _], _ => rfl
  have F_kisword := fun_mk (st := sIsWord) l_kisword c_kisword k_kisword
  have b_kisword := F_kisword.binds (ps := ["value"]) fun _ _ _ _ _ _ us hl => match us, hl with | [_], _ => rfl
  have F_mI : FunD K "__init__" "Kind.__init__" (defArgs sKInit) (defBody sKInit) (defScope sKInit) [.non] [] f_mI _ := ⟨⟨_, _, .ref tD, _, _, _, _, _, _, _, rfl, l_mI, c_mI, .inr ⟨by simp, tD, _, [.none], _, rfl, l_tD, rfl, .cons rfl .nil⟩, .inl rfl⟩, k_mI⟩
  have b_mI := F_mI.binds1 (ps := ["self", "signs", "pairs"]) 2 0 (by simp) rfl fun T kV doc pm an cdv ct us its hu hi => match us, hu, its, hi with | [_, _], _, [_], _ => ⟨_, rfl, rfl⟩
  have b3_mI := binds_nil (F_mI.binds1 (ps := ["self", "signs", "pairs"]) 3 1 (by simp) rfl fun T kV doc pm an cdv ct us its hu hi => match us, hu, its, hi with | [_, _, _], _, [_], _ => ⟨_, rfl, rfl⟩)
  have kA := FunD_kbn (ps := ["self", "signs", "pairs"]) F_mI 1 ["pairs", "signs"] gA (by simp) gA_rel fun T kV doc pm an cdv ct us its ws hu hi hw => match us, hu, its, hi, ws, hw with | [_], _, [_], _, [_, _], _ => ⟨_, rfl, rfl⟩
  have kB := FunD_kbn (ps := ["self", "signs", "pairs"]) F_mI 1 ["signs"] gB (by simp) gB_rel fun T kV doc pm an cdv ct us its ws hu hi hw => match us, hu, its, hi, ws, hw with | [_], _, [_], _, [_], _ => ⟨_, rfl, rfl⟩
  have kC := FunD_kbn (ps := ["self", "signs", "pairs"]) F_mI 2 ["pairs"] gC (by simp) gC_rel fun T kV doc pm an cdv ct us its ws hu hi hw => match us, hu, its, hi, ws, hw with | [_, _], _, [_], _, [_], _ => ⟨_, rfl, rfl⟩
  have F_mS := fun_mk (st := sKSig) l_mS c_mS k_mS
  have b_mS := F_mS.binds (ps := ["self"]) fun _ _ _ _ _ _ us hl => match us, hl with | [_], _ => rfl
  have F_mP := fun_mk (st := sKPai) l_mP c_mP k_mP
  have b_mP := F_mP.binds (ps := ["self"]) fun _ _ _ _ _ _ us hl => match us, hl with | [_], _ => rfl
  have F_mW := fun_mk (st := sKRow) l_mW c_mW k_mW
  have b_mW := F_mW.binds (ps := ["self"]) fun _ _ _ _ _ _ us hl => match us, hl with | [_], _ => rfl
  have F_mM := fun_mk (st := sKMade) l_mM c_mM k_mM
  have b_mM := F_mM.binds (ps := ["cls", "row"]) fun _ _ _ _ _ _ us hl => match us, hl with | [_, _], _ => rfl
  have F_mE := fun_mk (st := sKEq) l_mE c_mE k_mE
  have b_mE := F_mE.binds (ps := ["self", "other"]) fun _ _ _ _ _ _ us hl => match us, hl with | [_, _], _ => rfl
  have kM : KBn K (PySem.W.fnOf "made" "Kind.made" (defArgs sKMade) (defBody sKMade) (defScope sKMade) .none kv_mM dc_mM pm_mM an_mM cd_mM ct_mM) ["cls", "row"] 1 ["row"] (fun us ws => us ++ ws) (fun vs zs => vs ++ zs) := ⟨fun s us ws _ hu hw => match us, ws, hu, hw with | [_], [_], _, _ => .of_eq rfl, fun a b => a.append b⟩
  have R' : KindF K mg ⟨C, f_mI, f_mS, f_mP, f_mW, f_mM, f_mE, pS, pP, pW, pM, _, _, _, _, _, _, f_ksigns, f_ksignof, f_kfirst, f_kispair, f_kchpairs, f_kallp, f_khas, f_kisword, _, _, _, _, _, _, _, _⟩ := ⟨TK, ⟨mk, a_mI, i_mI, kc⟩, F_mI, b_mI, b3_mI, kA, kB, kC, F_mS, b_mS, ⟨p_atS, p_getS, p_takS, ⟨_, p_recS⟩⟩, F_mP, b_mP, ⟨p_atP, p_getP, p_takP, ⟨_, p_recP⟩⟩, F_mW, b_mW, ⟨p_atW, p_getW, p_takW, ⟨_, p_recW⟩⟩, F_mM, b_mM, kM, ⟨_, ⟨rd, ga⟩, ⟨cm_atM, ⟨_, cm_recM⟩, cm_fiM⟩⟩, F_mE, b_mE, ⟨a_mE, i_mE, k_mE⟩, ne, nf, n1, n2, kit_own icl tcl su1, kit_own icl tcl su2, cg, ct, ⟨F_ksigns, PySem.W.mg_of X G a_ksigns, k_ksigns, b_ksigns⟩, ⟨F_ksignof, PySem.W.mg_of X G a_ksignof, k_ksignof, b_ksignof⟩, ⟨F_kfirst, PySem.W.mg_of X G a_kfirst, k_kfirst, b_kfirst⟩, ⟨F_kispair, PySem.W.mg_of X G a_kispair, k_kispair, b_kispair⟩, ⟨F_kchpairs, PySem.W.mg_of X G a_kchpairs, k_kchpairs, b_kchpairs⟩, ⟨F_kallp, PySem.W.mg_of X G a_kallp, k_kallp, b_kallp⟩, ⟨F_khas, PySem.W.mg_of X G a_khas, k_khas, b_khas⟩, ⟨F_kisword, PySem.W.mg_of X G a_kisword, k_kisword, b_kisword⟩, ⟨t6, PySem.W.mg_of X G g6⟩, ⟨t4, PySem.W.mg_of X G g4⟩, PySem.W.mg_none_of X G zTup, PySem.W.mg_none_of X G zLst, PySem.W.mg_none_of X G zAny, PySem.W.mg_none_of X G zEnum, PySem.W.mg_none_of X G zSort⟩
  have D' : Defs K mg ⟨f_cell, f_pool, f_draw, f_shuf, f_signs, f_every, f_couples, f_kis, f_right, _, _, _, _, _, _, _, _, _⟩ := ⟨⟨F_cell, PySem.W.mg_of X G a_cell, k_cell, b_cell⟩, ⟨F_pool, PySem.W.mg_of X G a_pool, k_pool, b_pool⟩, ⟨F_draw, PySem.W.mg_of X G a_draw, k_draw, b_draw⟩, ⟨F_shuf, PySem.W.mg_of X G a_shuf, k_shuf, b_shuf⟩, ⟨F_signs, PySem.W.mg_of X G a_signs, k_signs, b_signs⟩, ⟨F_every, PySem.W.mg_of X G a_every, k_every, b_every⟩, ⟨F_couples, PySem.W.mg_of X G a_couples, k_couples, b_couples⟩, ⟨F_kis, PySem.W.mg_of X G a_kis, k_kis, b_kis⟩, ⟨F_right, PySem.W.mg_of X G a_right, k_right, b_right⟩⟩
  exact ⟨PySem.W.fnOf "law" "law" (defArgs sLaw) (defBody sLaw) (defScope sLaw) .none kv_law dc_law pm_law an_law cd_law ct_law, fun s v => .of_eq rfl, fun base _ _ => ok_law (fun_mk (st := sLaw) l_law c_law k_law) Z R' D'⟩
theorem walk {l : PySem.W.OpenLaw} {q : Program} {loose : List Str} {XP : (Str → Option Value) → Heap → Prop} {YP : World → Heap → Prop} {d : DefRec} {K : Params → PySem.W.Frag} (hn : l.most = some 63) (hdf : d.params.defaults = []) (hY : ∀ (w : World) (h : Heap), YP w h → (K w.params).In h)
    (F : ∀ (w : World) (mg : Str → Option Value) (fa : Addr) (h : Heap), (K w.params).In h → h.Ns mainGlobals mg → mg d.name = some (.ref fa) → ∃ fd : FuncData, (∀ (s : Shared) (u : Value), BindsTo s fd ⟨[u], []⟩ [("_law_script", u)]) ∧ ∀ base : Heap, (K w.params).In base → base.Ns mainGlobals mg → FnOk l.prog w (K w.params) mg base CX0 8 fa fd ["_law_script"] (spLaw (K w.params))) :
    PySem.W.WalkO q loose XP YP l.row.toRowW d [] (fun f vs => PySem.call f vs) :=
  L2.walk_of (n := 63) (k := 8) (x := "_law_script") (CX := fun _ => CX0) (sp := fun w => spLaw (K w.params)) hn (by decide) hdf ⟨rfl, by decide, by decide⟩ hY F (fun _ _ a ns hl _ hS => ⟨a, ns, rfl, hS, hl, fun _ => rfl⟩) fun _ _ _ _ _ z => z
end Wb
open PySem PySem.W PyProof.Rows in
set_option maxRecDepth 100000 in
set_option maxHeartbeats 0 in
theorem PySem.Challenge.cw_wherebegun_k08_kinds_and_their_rows_holds : PySem.Challenge.rw_wherebegun_k08_kinds_and_their_rows.Holds := by
  w_on; o_law; k_head; (case hw => w_witness2)
  k_fill
  refine Wb.walk (l := PySem.Challenge.rw_wherebegun_k08_kinds_and_their_rows) rfl rfl (fun w h Y => PySem.W.kIn_of Y) ?F
  case F =>
    intro w mg fa h KX G hmg
    refine' Wb.all_mk KX G hmg ?a_cell ?l_cell ?c_cell ?k_cell ?a_pool ?l_pool ?c_pool ?k_pool ?a_draw ?l_draw ?c_draw ?k_draw ?a_shuf ?l_shuf ?c_shuf ?k_shuf ?a_signs ?l_signs ?c_signs ?k_signs ?a_every ?l_every ?c_every ?k_every ?a_couples ?l_couples ?c_couples ?k_couples ?a_kis ?l_kis ?c_kis ?k_kis ?a_right ?l_right ?c_right ?k_right ?a_ksigns ?l_ksigns ?c_ksigns ?k_ksigns ?a_ksignof ?l_ksignof ?c_ksignof ?k_ksignof ?a_kfirst ?l_kfirst ?c_kfirst ?k_kfirst ?a_kispair ?l_kispair ?c_kispair ?k_kispair ?a_kchpairs ?l_kchpairs ?c_kchpairs ?k_kchpairs ?a_kallp ?l_kallp ?c_kallp ?k_kallp ?a_khas ?l_khas ?c_khas ?k_khas ?a_kisword ?l_kisword ?c_kisword ?k_kisword ?a_law ?l_law ?c_law ?k_law ?aC ?a_mI ?i_mI ?l_mI ?c_mI ?k_mI ?p_atS ?p_getS ?p_takS ?p_recS ?l_mS ?c_mS ?k_mS ?p_atP ?p_getP ?p_takP ?p_recP ?l_mP ?c_mP ?k_mP ?p_atW ?p_getW ?p_takW ?p_recW ?l_mW ?c_mW ?k_mW ?cm_atM ?cm_recM ?cm_fiM ?l_mM ?c_mM ?k_mM ?a_mE ?i_mE ?l_mE ?c_mE ?k_mE ?l_tD ?pg ?hd ?po ?sa ?mk ?kc ?cc ?co ?rd ?ga ?zTup ?zLst ?zAny ?zEnum ?zSort ?nS ?nP ?nR ?cg ?ct ?icl ?tcl ?ne ?nf ?n1 ?n2 ?su1 ?su2 ?g6 ?g4 ?z_int ?z_len ?z_range ?z_divmod ?z_abs ?z_isinstance ?z_str ?z_all ?z_min ?z_max ?z_set ?z_bool
    (case a_cell => k_is)
    (case l_cell => k_is)
    (case c_cell => k_is)
    (case k_cell => k_is)
    (case a_pool => k_is)
    (case l_pool => k_is)
    (case c_pool => k_is)
    (case k_pool => k_is)
    (case a_draw => k_is)
    (case l_draw => k_is)
    (case c_draw => k_is)
    (case k_draw => k_is)
    (case a_shuf => k_is)
    (case l_shuf => k_is)
    (case c_shuf => k_is)
    (case k_shuf => k_is)
    (case a_signs => k_is)
    (case l_signs => k_is)
    (case c_signs => k_is)
    (case k_signs => k_is)
    (case a_every => k_is)
    (case l_every => k_is)
    (case c_every => k_is)
    (case k_every => k_is)
    (case a_couples => k_is)
    (case l_couples => k_is)
    (case c_couples => k_is)
    (case k_couples => k_is)
    (case a_kis => k_is)
    (case l_kis => k_is)
    (case c_kis => k_is)
    (case k_kis => k_is)
    (case a_right => k_is)
    (case l_right => k_is)
    (case c_right => k_is)
    (case k_right => k_is)
    (case a_ksigns => k_is)
    (case l_ksigns => k_is)
    (case c_ksigns => k_is)
    (case k_ksigns => k_is)
    (case a_ksignof => k_is)
    (case l_ksignof => k_is)
    (case c_ksignof => k_is)
    (case k_ksignof => k_is)
    (case a_kfirst => k_is)
    (case l_kfirst => k_is)
    (case c_kfirst => k_is)
    (case k_kfirst => k_is)
    (case a_kispair => k_is)
    (case l_kispair => k_is)
    (case c_kispair => k_is)
    (case k_kispair => k_is)
    (case a_kchpairs => k_is)
    (case l_kchpairs => k_is)
    (case c_kchpairs => k_is)
    (case k_kchpairs => k_is)
    (case a_kallp => k_is)
    (case l_kallp => k_is)
    (case c_kallp => k_is)
    (case k_kallp => k_is)
    (case a_khas => k_is)
    (case l_khas => k_is)
    (case c_khas => k_is)
    (case k_khas => k_is)
    (case a_kisword => k_is)
    (case l_kisword => k_is)
    (case c_kisword => k_is)
    (case k_kisword => k_is)
    (case a_law => k_is)
    (case l_law => k_is)
    (case c_law => k_is)
    (case k_law => k_is)
    (case aC => k_is)
    (case a_mI => k_is)
    (case i_mI => k_is)
    (case l_mI => k_is)
    (case c_mI => k_is)
    (case k_mI => k_is)
    (case p_atS => k_is)
    (case p_getS => k_is)
    (case p_takS => k_is)
    (case p_recS => k_is)
    (case l_mS => k_is)
    (case c_mS => k_is)
    (case k_mS => k_is)
    (case p_atP => k_is)
    (case p_getP => k_is)
    (case p_takP => k_is)
    (case p_recP => k_is)
    (case l_mP => k_is)
    (case c_mP => k_is)
    (case k_mP => k_is)
    (case p_atW => k_is)
    (case p_getW => k_is)
    (case p_takW => k_is)
    (case p_recW => k_is)
    (case l_mW => k_is)
    (case c_mW => k_is)
    (case k_mW => k_is)
    (case cm_atM => k_is)
    (case cm_recM => k_is)
    (case cm_fiM => k_is)
    (case l_mM => k_is)
    (case c_mM => k_is)
    (case k_mM => k_is)
    (case a_mE => k_is)
    (case i_mE => k_is)
    (case l_mE => k_is)
    (case c_mE => k_is)
    (case k_mE => k_is)
    (case l_tD => k_is)
    (case pg => k_is)
    (case hd => k_is)
    (case po => k_is)
    (case sa => k_is)
    (case mk => k_is)
    (case kc => k_is)
    (case cc => k_is)
    (case co => k_is)
    (case rd => k_is)
    (case ga => k_is)
    (case zTup => k_is)
    (case zLst => k_is)
    (case zAny => k_is)
    (case zEnum => k_is)
    (case zSort => k_is)
    (case nS => k_is)
    (case nP => k_is)
    (case nR => k_is)
    (case cg => k_is)
    (case ct => k_is)
    (case icl => k_is)
    (case tcl => k_is)
    (case ne => k_is)
    (case nf => k_is)
    (case n1 => k_is)
    (case n2 => k_is)
    (case su1 => k_is)
    (case su2 => k_is)
    (case g6 => k_is)
    (case g4 => k_is)
    (case z_int => k_is)
    (case z_len => k_is)
    (case z_range => k_is)
    (case z_divmod => k_is)
    (case z_abs => k_is)
    (case z_isinstance => k_is)
    (case z_str => k_is)
    (case z_all => k_is)
    (case z_min => k_is)
    (case z_max => k_is)
    (case z_set => k_is)
    (case z_bool => k_is)
