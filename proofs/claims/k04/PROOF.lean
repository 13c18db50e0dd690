import PyProof.Rows.All
import Wide.All
import OpenK.AllK
import Wide.FinOn
import HandS.ForMost
import HandS.IsInst
import HandS.Property
import HandS.Wide
import HandS.MakeKw
import HandS.Strs
import KE.DataMinMax
import PyProof.StrBlock2
import HandS.Walk
import KE.KCallOwn
import PyProof.Conv_bool
import PyProof.InstNe
import HandS.SlotsOwn
import HandS.RaiseMore
import HandS.MakeKwOnly
import PyProof.ListStr
import PyProof.StrLawsIn
import HandS.Dict
import PyProof.P3Eq
import PySem.Challenge.RW_wherebegun_k04_words_in_rings
set_option Elab.async false
set_option maxRecDepth 100000
namespace Wb
open PySem L2
def top (i : Nat) : Stmt := PySem.Challenge.pw_wherebegun_k04_words_in_rings.main.body.getD i (.Pass ⟨0, 0, 0, 0⟩)
abbrev sCell : Stmt := top 17
abbrev sPool : Stmt := top 18
abbrev sDraw : Stmt := top 19
/-- all but what lies at p stays -/
def But (p : Addr) (H H' : Hp) : Prop := ∀ b o, b ≠ p → H b = some o → H' b = some o
theorem But.refl (p : Addr) (H : Hp) : But p H H := fun _ _ _ h => h
theorem But.trans {p : Addr} {H H1 H2 : Hp} (a : But p H H1) (b : But p H1 H2) : But p H H2 := fun c o n h => b c o n (a c o n h)
theorem But.of {p : Addr} {H H' : Hp} (a : Same H H') : But p H H' := fun c o _ h => a c o h
theorem But.upd {p q : Addr} {o : HO} {H H' : Hp} (a : But p H H') (n : H' q = none) : But p H (L2.upd H' q o) := fun c u k h => by
  rw [upd_ne (ne_of_none (a c u k h) n)]
  exact a c u k h
theorem But.here {p : Addr} {o : HO} {H H' : Hp} (a : But p H H') : But p H (L2.upd H' p o) := fun c u k h => by
  rw [upd_ne k]
  exact a c u k h
theorem Same.put {q : Addr} {o : HO} {H H' : Hp} (a : Same H H') (n : H' q = none) : Same H (L2.upd H' q o) := fun c u h => by
  rw [upd_ne (ne_of_none (a c u h) n)]
  exact a c u h
/-- a pool stands at p: three ints -/
def PoolAt (H : Hp) (p : Addr) : Prop := ∃ a b c : Int, H p = some (.lst [.int a, .int b, .int c]) ∧ 0 ≤ a ∧ a < 2147483648 ∧ 0 ≤ b
def spDraw : Sp := fun vs H Q _ => ∃ (p : Addr) (m : Int), vs = [.ref p, .int m] ∧ 0 < m ∧ m < 1073741824 ∧ PoolAt H p ∧
  ∀ (d : Int) (H' : Hp), 0 ≤ d → d < m → PoolAt H' p → But p H H' → Q (.int d) H'
def spPool : Sp := fun vs H Q _ => ∃ c : Int, vs = [.int c] ∧ ∀ (p : Addr) (H' : Hp), H p = none → Same H H' → PoolAt H' p → Q (.ref p) H'
def spCell (K : PySem.W.Frag) : Sp := fun vs H Q _ => ∃ (a : Addr) (ns : List Int) (k : Int), vs = [.ref a, .int k] ∧ SqL K H a (ns.map V.int) ∧ ns.length ≤ 63 ∧ 0 ≤ k ∧ k < 64 ∧
  ∀ (n : Int) (H' : Hp), Same H H' → Q (.int n) H'
theorem cut_int {ns : List Int} {lo hi : Option Int} {i : Nat} {y : V} (h : (cutV (ns.map V.int) lo hi)[i]? = some y) : ∃ u, y = V.int u := by
  have q := List.mem_of_getElem? h
  unfold cutV at q
  obtain ⟨u, _, e⟩ := List.mem_map.mp (List.mem_of_mem_drop (List.mem_of_mem_take q))
  exact ⟨u, e.symm⟩
section
variable {P : Program} {w : World} {K : PySem.W.Frag} {mg : Str → Option Value} {base : Heap}
theorem scP : FnScope ["_law_cell_here", "_law_digits"] ["_law_cell_here"] (defScope sPool) := ⟨rfl, rfl, rfl, by decide +kernel, rfl, by decide +kernel, by decide +kernel⟩
theorem ok_pool {f : Addr} {fd : FuncData} (F : Fun K "_law_pool" "_law_pool" sPool f fd) (mAbs : mg "abs" = none) (mInt : mg "int" = none) : FnOk P w K mg base CX0 1 f fd ["_law_cell_here"] spPool := by
  refine F.ok scP (fun vs H Q E h => ?_) (fun cdv A outer s H vs Q E hr h => ?_)
  · obtain ⟨c, rfl, _⟩ := h
    rfl
  · obtain ⟨c, rfl, k⟩ := h
    refine ⟨_, pss_cons (ps_set (i := 1) scP.nd rfl (.inl rfl) (pe_ifExp (PW.pt (pw_or (pt_cmpR op_lt (pv 0) pe_int (nomark _)) (pw_or1 (pt_cmpR op_ge (pv 0) (pe_op op_pow pe_int pe_int) (nomark _)))))
        (pe_callB call_abs (by rfl) mAbs (by decide +kernel) (pa_cons (pv 0) pa_nil)) pe_int))
      (pss_one (ps_ret (pe_lst (pa_cons (pe_op op_mod (pe_callTy call_int1 (by rfl) mInt (by decide +kernel) (pa_cons (pv 0) pa_nil)) pe_int) (pa_cons (pv 1) (pa_cons pe_int pa_nil)))))), ?_⟩
    have fin : ∀ d : Int, 0 ≤ d → (tRet (tLst (tCons (tOp (rI (fun x j => 0 < j) fun i j => V.int (i % j)) (tCB (fun xs H Q => (∃ i, xs = [V.int i] ∧ Q (V.int i) H) ∨ ∃ k, xs = [V.bl k] ∧ Q (V.int (if k = true then 1 else 0)) H) (tCons (tVar 0) tNil)) (tC (V.int 2147483587))) (tCons (tVar 1) (tCons (tC (V.int 0)) tNil)))))
        { nx := fun x H' => Q V.non H', rt := Q } [some (V.int c), some (V.int d)] H := fun d h0 => by
      refine ⟨_, rfl, .inl ⟨_, rfl, _, _, rfl, rfl, (by show (0 : Int) < 2147483587; decide), _, rfl, (by show 3 ≤ sizeLine; decide), fun p hp => ?_⟩⟩
      refine k p _ hp (Same.put (Same.refl H) hp) ⟨_, _, _, upd_same, ?_⟩
      omega
    refine ⟨_, rfl, _, _, rfl, rfl, _, rfl, ite2 (fun h1 => iteT ?_) (fun h1 => ?_)⟩
    · refine ⟨_, rfl, _, rfl, ?_⟩
      exact fin _ (by split <;> omega)
    · refine ⟨_, rfl, _, _, rfl, rfl, (by refine ⟨?_, ?_, ?_⟩ <;> decide), _, _, rfl, rfl, _, rfl, ?_⟩
      refine ite2 (fun h2 => ?_) (fun h2 => ?_)
      · refine ⟨_, rfl, _, rfl, ?_⟩
        exact fin _ (by split <;> omega)
      · exact fin 0 (by omega)
theorem scD : FnScope ["_law_pool_here", "_law_many", "_law_mixed", "_law_digit"] ["_law_pool_here", "_law_many"] (defScope sDraw) := ⟨rfl, rfl, rfl, by decide +kernel, rfl, by decide +kernel, by decide +kernel⟩
theorem ok_draw {f : Addr} {fd : FuncData} (F : Fun K "_law_draw" "_law_draw" sDraw f fd) (mInt : mg "int" = none) (mDm : mg "divmod" = none) : FnOk P w K mg base CX0 1 f fd ["_law_pool_here", "_law_many"] spDraw := by
  refine F.ok scD (fun vs H Q E h => ?_) (fun cdv A outer s H vs Q E hr h => ?_)
  · obtain ⟨p, m, rfl, _⟩ := h
    rfl
  · obtain ⟨p, m, rfl, m0, m1, ⟨a, b, c, hp, a0, a1, b0⟩, k⟩ := h
    refine ⟨_, pss_cons (ps_asg (pe_op op_add (pe_ix ix_list (pv 0) pe_int (fun _ _ => rfl)) pe_int) (pg_sub (pv 0) pe_int set_list))
      (pss_cons (ps_set (i := 2) scD.nd rfl (.inl rfl) (pe_op op_mod (pe_callTy call_int1 (by rfl) mInt (by decide +kernel) (pa_cons (pe_op op_add (pe_op op_add (pe_op op_mul (pe_ix ix_list (pv 0) pe_int (fun _ _ => rfl)) pe_int) (pe_op op_mul (pe_ix ix_list (pv 0) pe_int (fun _ _ => rfl)) pe_int)) pe_int) pa_nil)) pe_int))
      (pss_cons (ps_asg (pe_op op_mod (pe_callTy call_int1 (by rfl) mInt (by decide +kernel) (pa_cons (pe_op op_mul (pv 2) (pe_op op_add (pe_op op_fdiv (pv 2) pe_int) pe_int)) pa_nil)) pe_int) (pg_sub (pv 0) pe_int set_list))
      (pss_cons (ps_if (pt_cmpR op_gt (pe_ix ix_list (pv 0) pe_int (fun _ _ => rfl)) pe_int (nomark _))
          (pss_cons (ps_asg (pe_callB call_divmod (by rfl) mDm (by decide +kernel) (pa_cons (pe_ix ix_list (pv 0) pe_int (fun _ _ => rfl)) (pa_cons (pv 1) pa_nil))) (pg_tup (by rfl) (pgs_cons (pg_sub (pv 0) pe_int set_list) (pgs_cons (pg_name (i := 3) scD.nd rfl (.inl rfl)) pgs_nil))))
            (pss_one (ps_ret (pv 3)))) pss_nil)
      (pss_one (ps_ret (pe_op op_mod (pe_callTy call_int1 (by rfl) mInt (by decide +kernel) (pa_cons (pe_op op_fdiv (pe_ix ix_list (pv 0) pe_int (fun _ _ => rfl)) pe_int) pa_nil)) (pv 1))))))), ?_⟩
    refine ⟨_, rfl, p, _, _, _, rfl, rfl, SqL.of hp, rfl, _, _, rfl, rfl, _, rfl, p, _, _, 2, rfl, rfl, hp, rfl, ?_⟩
    have hp1 : (L2.upd H p (.lst [.int a, .int b, .int (c + 1)])) p = some (.lst [.int a, .int b, .int (c + 1)]) := upd_same
    refine ⟨_, rfl, p, _, _, _, rfl, rfl, SqL.of hp1, rfl, _, _, rfl, rfl, .inl ⟨by omega, by omega⟩, _, rfl, p, _, _, _, rfl, rfl, SqL.of hp1, rfl, _, _, rfl, rfl, .inr ⟨by decide, by decide⟩, _, _, rfl, rfl, _, _, rfl, rfl, .inl ⟨_, rfl, _, _, rfl, rfl, (by show (0 : Int) < 2147483587; decide), ?_⟩⟩
    have x0 : ∀ z : Int, 0 ≤ z % 2147483587 ∧ z % 2147483587 < 2147483587 := fun z => ⟨Int.emod_nonneg _ (by decide), Int.emod_lt_of_pos _ (by decide)⟩
    generalize hx : ((a * 50021 + (c + 1) * 69067 + 31) % 2147483587 : Int) = x
    have ⟨x1, x2⟩ : 0 ≤ x ∧ x < 2147483587 := by rw [← hx]; exact x0 _
    refine ⟨_, rfl, _, rfl, _, _, rfl, rfl, ⟨by decide, by decide⟩, _, _, rfl, rfl, _, _, rfl, rfl, .inl ⟨by omega, by omega⟩, .inl ⟨_, rfl, _, _, rfl, rfl, (by show (0 : Int) < 2147483629; decide), ?_⟩⟩
    have y0 : ∀ z : Int, 0 ≤ z % 2147483629 ∧ z % 2147483629 < 2147483629 := fun z => ⟨Int.emod_nonneg _ (by decide), Int.emod_lt_of_pos _ (by decide)⟩
    refine ⟨_, rfl, p, _, _, 0, rfl, rfl, hp1, rfl, ?_⟩
    refine ⟨_, rfl, p, _, _, _, rfl, rfl, SqL.of upd_same, rfl, _, _, rfl, rfl, _, rfl, ite2 (fun h1 => ?_) (fun h1 => ?_)⟩
    · refine ⟨_, rfl, p, _, _, _, rfl, rfl, SqL.of upd_same, rfl, _, rfl, _, _, rfl, ⟨m0, m1⟩, fun t ht => ?_⟩
      have npt : p ≠ t := ne_of_none upd_same ht
      refine ⟨t, _, rfl, SqT.of upd_same, rfl, _, _, rfl, _, rfl, p, _, _, 1, rfl, rfl, (upd_ne npt).trans upd_same, rfl, _, _, rfl, ?_⟩
      refine ⟨rfl, _, rfl, k _ _ (Int.emod_nonneg _ (by omega)) (Int.emod_lt_of_pos _ m0) ⟨_, _, _, upd_same, ?_⟩ (But.here (But.upd (But.here (But.here (But.refl p H))) ht))⟩
      refine ⟨(y0 _).1, Int.lt_trans (y0 _).2 (by decide), ?_⟩
      exact Int.ediv_nonneg b0 (Int.le_of_lt m0)
    · refine ⟨_, rfl, p, _, _, _, rfl, rfl, SqL.of upd_same, rfl, _, _, rfl, rfl, ⟨by decide, by decide⟩, .inl ⟨_, rfl, _, rfl, _, _, rfl, rfl, m0, ?_⟩⟩
      exact k _ _ (Int.emod_nonneg _ (by omega)) (Int.emod_lt_of_pos _ m0) ⟨_, _, _, upd_same, (y0 _).1, Int.lt_trans (y0 _).2 (by decide), b0⟩ (But.here (But.here (But.refl p H)))
theorem scC : FnScope ["_law_script", "_law_k", "_law_mixed", "_law_cell_here"] ["_law_script", "_law_k"] (defScope sCell) := ⟨rfl, rfl, rfl, by decide +kernel, rfl, by decide +kernel, by decide +kernel⟩
theorem ok_cell {f : Addr} {fd : FuncData} (F : Fun K "_law_cell" "_law_cell" sCell f fd) (mInt : mg "int" = none) (mLen : mg "len" = none) : FnOk P w K mg base CX0 1 f fd ["_law_script", "_law_k"] (spCell K) := by
  refine F.ok scC (fun vs H Q E h => ?_) (fun cdv A outer s H vs Q E hr h => ?_)
  · obtain ⟨a, ns, j, rfl, _⟩ := h
    rfl
  · obtain ⟨a, ns, j, rfl, hS, hlen, j0, j1, k⟩ := h
    refine ⟨_, pss_cons (ps_if (pt_cmpR op_lt (pv 1) (pe_callB call_len_seq (by rfl) mLen PySem.boot_len (pa_cons (pv 0) pa_nil)) (nomark _)) (pss_one (ps_ret (pe_ix ix_list (pv 0) (pv 1) (fun _ _ => rfl)))) pss_nil)
      (pss_cons (ps_set (i := 2) scC.nd rfl (.inl rfl) (pe_op op_add pe_int (pe_op op_mul (pe_op op_mul pe_int (pv 1)) (pv 1))))
      (pss_cons (ps_for PassesOwn.never rfl (pi_list (pe_slice sl_list (pv 0) po_none (po_some pe_int))) (pg_name (i := 3) scC.nd rfl (.inl rfl))
        (pss_one (ps_set (i := 2) scC.nd rfl (.inl rfl) (pe_op op_mod (pe_callTy call_int1 (by rfl) mInt (by decide +kernel) (pa_cons (pe_op op_add (pe_op op_mul (pv 2) pe_int) (pv 3)) pa_nil)) pe_int))))
      (pss_one (ps_ret (pv 2))))), ?_⟩
    refine ⟨_, rfl, _, rfl, a, _, rfl, .inl hS, _, _, rfl, rfl, _, rfl, ite2 (fun h1 => ?_) (fun h1 => ?_)⟩
    · have h2 : j < (ns.length : Int) := by
        have q := of_decide_eq_true h1
        rw [List.length_map] at q
        exact q
      have h3 : (ns.map V.int)[j.toNat]? = some (V.int (ns[j.toNat]'(by omega))) := by
        rw [List.getElem?_map, List.getElem?_eq_getElem (by omega)] <;> rfl
      have h4 : atI (ns.map V.int) j = some (V.int (ns[j.toNat]'(by omega))) := by
        have q := atI_nat h3
        rw [Int.toNat_of_nonneg j0] at q
        exact q
      exact ⟨_, rfl, _, rfl, a, _, _, _, rfl, rfl, hS, h4, k _ _ (Same.refl H)⟩
    · have b1 : (-(2 ^ 64) < (4093 : Int) ∧ (4093 : Int) < 2 ^ 64) := by decide
      refine ⟨_, rfl, _, _, rfl, rfl, .inl b1, _, rfl, _, _, rfl, rfl, .inr ⟨by omega, by omega⟩, _, _, rfl, rfl, ?_⟩
      refine ⟨_, rfl, _, rfl, a, _, rfl, hS, fun q hq => ?_⟩
      have sq : SqL K (L2.upd H q (.lst (cutV (ns.map V.int) none (some 4)))) q (cutV (ns.map V.int) none (some 4)) := SqL.of upd_same
      refine ⟨q, rfl, ⟨_, sq⟩, for_list (K := K) (a := q) (xs := cutV (ns.map V.int) none (some 4)) (fun i σ H' => ∃ (z : Int) (v : Option V), σ = [some (.ref a), some (.int j), some (.int z), v] ∧ Same H H' ∧ SqL K H' q (cutV (ns.map V.int) none (some 4)))
        ⟨_, none, rfl, Same.put (Same.refl H) hq, sq⟩ (fun i σ H' _ ⟨_, _, _, _, s⟩ => s) ?_ ?_⟩
      · rintro i y σ H' hi ⟨z, v, rfl, s1, s2⟩
        obtain ⟨u, rfl⟩ := cut_int hi
        exact ⟨_, rfl, _, _, rfl, rfl, .inr ⟨by decide, by decide⟩, _, rfl, _, _, rfl, rfl, .inl ⟨_, rfl, _, _, rfl, rfl, (by show (0 : Int) < 2147483629; decide), _, _, rfl, s1, s2⟩⟩
      · rintro σ H' ⟨z, v, rfl, s1, s2⟩
        exact ⟨_, rfl, k _ _ s1⟩
end
end Wb
/-! set(xs) and len(set(xs)) of a list of texts, any of them, below the scanned bound -/
namespace WbSet
open PySem PySem.Spec PyProof.Rows
/-- the different ones, by their first places -/
def addNew (acc : List Str) (x : Str) : List Str := if x ∈ acc then acc else acc ++ [x]
def differ (xs : List Str) : List Str := xs.foldl addNew []
theorem addNew_mem (acc : List Str) (x k : Str) : k ∈ addNew acc x ↔ k ∈ acc ∨ k = x := by
  unfold addNew
  by_cases h : x ∈ acc
  · rw [if_pos h]
    exact ⟨.inl, fun q => q.elim id fun e => e ▸ h⟩
  · rw [if_neg h, List.mem_append, List.mem_singleton]
theorem addNew_len (acc : List Str) (x : Str) : (addNew acc x).length = if x ∈ acc then acc.length else acc.length + 1 := by
  unfold addNew
  by_cases h : x ∈ acc
  · rw [if_pos h, if_pos h]
  · rw [if_neg h, if_neg h, List.length_append] <;> rfl
theorem differ_more (xs : List Str) (x : Str) : differ (xs ++ [x]) = addNew (differ xs) x := by
  unfold differ
  rw [List.foldl_append] <;> rfl
theorem fold_le : ∀ (xs acc : List Str), (xs.foldl addNew acc).length ≤ acc.length + xs.length
  | [], acc => Nat.le_refl _
  | x :: r, acc => by
    have h1 := fold_le r (addNew acc x)
    have h2 : (addNew acc x).length ≤ acc.length + 1 := by rw [addNew_len]; split <;> omega
    show (r.foldl addNew (addNew acc x)).length ≤ acc.length + (r.length + 1)
    omega
theorem differ_le (xs : List Str) : (differ xs).length ≤ xs.length := by
  have h := fold_le xs []
  show (xs.foldl addNew []).length ≤ xs.length
  simpa using h
/-- what the set at a holds behind the first i -/
def Has (P : Program) (w : World) (h : Heap) (a : Addr) (ys : List Str) : Prop := h.SetOf (strKind P w) a (fun k => decide (k ∈ ys)) ys.length
section
variable {prog : Program} {w : World} {A : Around} {R : Result → Shared → Prop} {I : Addr} {fp wr : List Addr} {G : Array GenState → Array GenState → Prop} {n : Nat} {P : Nat → Value → Prop} {St : Nat → Shared → Prop}
theorem Has.keep {h h' : Heap} {a : Addr} {ys : List Str} (q : Has prog w h a ys) (k : ∀ o, h.get? a = some o → h'.get? a = some o) : Has prog w h' a ys := by
  obtain ⟨o, es, ep, t, ho, r⟩ := q
  exact ⟨o, es, ep, t, k o ho, r⟩
theorem Has.more {h : Heap} {a : Addr} {ys : List Str} {x : Str} (q : h.SetOf (strKind prog w) a (fun j => decide (j ∈ ys) || decide (j = x)) (if decide (x ∈ ys) = true then ys.length else ys.length + 1)) : Has prog w h a (addNew ys x) := by
  refine SetOf_congr q (fun k => ?_) ?_
  · rw [← Bool.decide_or]
    exact decide_eq_decide.mpr (addNew_mem ys x k).symm
  · rw [addNew_len]
    by_cases e : x ∈ ys
    · rw [if_pos e, if_pos (decide_eq_true e)]
    · rw [if_neg e, if_neg (fun z => e (of_decide_eq_true z))]
theorem turns (W : WalksS prog w A.in1 I fp wr G n P St) (T : Addr) (nT : T ∉ fp) (xs : List Str) (lx : xs.length = n) (few : n + 1 < scanBound) (told : ∀ i v, P i v → ∃ x t, xs[i]? = some x ∧ v = .str x t) :
    ∀ (left i : Nat) (s : Shared), n - i = left → i ≤ n → St i s → Has prog w s.heap T (differ (xs.take i)) →
      (∀ s', Moved (T :: wr) G s s' → Has prog w s'.heap T (differ xs) → R (.ok (.ret .none)) s') → codeAny (model prog w) A (.builtin "set.update.loop" ⟨[.ref T, .ref I], []⟩) R s := by
  have nTw : T ∉ wr := fun q => nT (W.sub _ q)
  have wider : ∀ b ∈ wr, b ∈ T :: wr := fun _ q => List.mem_cons_of_mem _ q
  intro left
  induction left with
  | zero =>
    intro i s e1 e2 hst has fin
    obtain rfl : i = n := by omega
    refine codeAny_builtin PyProof.Rows.F.entry_set_update_loop ?_ ; rw [Around.under_plainId PyProof.Rows.F.plain_set_update_loop _]
    show wpAny _ A.in1 (pyNext (.ref I) >>= _) _ _ s ; refine wpAny_bind (W.done s _ _ hst fun s1 mv => ?_)
    show wpAny _ A.in1 (ret Value.none) _ _ s1
    refine wpAny_pure (fin s1 (mv.mono wider) ?_)
    rw [← lx, List.take_length] at has
    exact has.keep fun o e => mv.heap T o nTw e
  | succ left ih =>
    intro i s e1 e2 hst has fin
    have lt : i < n := by omega
    refine codeAny_builtin PyProof.Rows.F.entry_set_update_loop ?_ ; rw [Around.under_plainId PyProof.Rows.F.plain_set_update_loop _]
    show wpAny _ A.in1 (pyNext (.ref I) >>= _) _ _ s ; refine wpAny_bind (W.item i s _ _ lt hst fun v s1 hP hst1 mv => ?_)
    obtain ⟨x, t, hx, rfl⟩ := told i v hP
    have has1 : Has prog w s1.heap T (differ (xs.take i)) := has.keep fun o e => mv.heap T o nTw e
    have room : (differ (xs.take i)).length + 1 < scanBound := by
      have := differ_le (xs.take i)
      rw [List.length_take] at this
      omega
    have step : differ (xs.take (i + 1)) = addNew (differ (xs.take i)) x := by
      rw [← differ_more, List.take_add_one, hx] <;> rfl
    show wpAny _ A.in1 (holding [Value.str x t] (setAdd T (.str x t)) >>= _) _ _ s1 ; refine wpAny_bind (wpAny_holding ?_)
    unfold setAdd ; refine wpAny_holding (wpAny_bind ((strKind prog w).pyHash (k := x) (strKind_is _ _ _ _) ?_))
    refine wpAny_setAddHashed_of (knd := strKind prog w) (s := { s1 with toks := s1.toks + 1 }) (strKind_is _ _ _ _) rfl has1 room fun h2 but new => ?_
    have has2 : Has prog w h2 T (differ (xs.take (i + 1))) := by rw [step]; exact Has.more new
    refine wpAny_pure ⟨plainId_quiet PyProof.Rows.F.plain_set_update_loop _, ih (i + 1) _ (by omega) lt (W.frame _ s1 _ _ hst1 (Nat.le_succ _) fun b hb o e => ?_) has2 fun s2 mv2 has3 => fin s2 (Moved.trans W.gtrans ((mv.mono wider).then_heap (Nat.le_succ _) fun b o hb e => ?_) mv2) has3⟩
    · rw [but.2 b fun q => nT (q ▸ hb)] ; exact e
    · rw [but.2 b fun q => hb (q ▸ List.mem_cons_self)] ; exact e
end
section
variable {prog : Program} {w : World} {A : Around} {E : Value → Shared → Prop} {s : Shared}
theorem strs_told : ∀ {vs : List Value} {xs : List Str}, StrsAre vs xs → ∀ (i : Nat) (v : Value), vs[i]? = some v → ∃ x t, xs[i]? = some x ∧ v = .str x t
  | _, _, .nil, i, v, h => by simp at h
  | _, _, .cons x t r, 0, v, h => ⟨x, t, rfl, by simp at h; exact h.symm⟩
  | _, _, .cons x t r, i + 1, v, h => by
    simp only [List.getElem?_cons_succ] at h ⊢
    exact strs_told r i v h
/-- the set object that set() makes first -/
abbrev setO (led : Bool) : Obj := { cls := .type "set", dict := none, data := .set #[] 0 (.fresh 0 0 led) }
set_option maxHeartbeats 3200000 in
theorem call_set {l : Addr} {items : Array Value} {xs : List Str} {Q : Value → Shared → Prop} (calm : A.handled = none) (il : s.heap.IsList l items) (told : StrsAre items.toList xs) (few : xs.length + 1 < scanBound)
    (k : ∀ (h' : Heap) (tk : Nat), Has prog w h' s.heap.objs.size (differ xs) → (∀ b o, b < s.heap.objs.size → s.heap.get? b = some o → h'.get? b = some o) → Q (.ref s.heap.objs.size) { s with heap := h', toks := tk }) :
    wpAny (model prog w) A (call (.type "set") [.ref l]) Q E s := by
  obtain ⟨c, tl, mro⟩ := PySem.F.called_set.mro
  have f1 := PySem.F.called_set.made
  have f2 := PySem.F.called_set.sub
  refine wpAny_call (codeAny_of_tree ?_) ; show wpAny _ _ (callAny (.type "set") _) _ _ _
  refine wpAny_pure ⟨Code.quiet_builtin _ (by decide +kernel), codeAny_builtin PySem.F.entry_type_call ?_⟩ ; rw [Around.under_plain (weight_type_call_type "set" [.ref l] []) rfl]
  have f3 := PySem.F.called_set.notType
  have f4 := PySem.F.called_set.canCreate
  have f5 := PySem.F.typeCall_set_1 (.ref l)
  repeat (any_goals (first | assumption | wp_step))
  refine codeAny_mono (code_set_new_1 (.ref l) (E := E) (Q₁ := fun v s1 => ∃ led : Bool, v = .ref s.heap.objs.size ∧ s1 = { s with heap := s.heap.push (setO led) }) fun led => ⟨led, rfl, rfl⟩) fun r s1 hr => ?_
  cases r with
  | error e => exact hr
  | ok fl =>
    cases fl with
    | ret v =>
      obtain ⟨led, rfl, rfl⟩ := hr
      have g1 : (s.heap.push (setO led)).get? s.heap.objs.size = some (setO led) := Heap.get?_push_size _ rfl
      have g2 : Shared.TypeIs { s with heap := s.heap.push (setO led) } (.ref s.heap.objs.size) "set" := ⟨_, g1, rfl⟩
      have f6 := PySem.F.called_set.init.lookup
      have f7 := PySem.F.called_set.init.bind (.ref s.heap.objs.size)
      repeat (any_goals (first | assumption | wp_step))
      refine codeAny_mono (codeAny_call_builtin (R := wants (fun r s2 => r = .none ∧ ∃ h' tk, s2 = { s with heap := h', toks := tk } ∧ Has prog w h' s.heap.objs.size (differ xs) ∧ (∀ b o, b < s.heap.objs.size → s.heap.get? b = some o → h'.get? b = some o)) E) PySem.F.called_set.init.plain PySem.F.entry_set_init (check_set_init_1 g2 ?_)) fun r2 s2 hr2 => ?_
      · obtain ⟨⟨oc, od, dt, sl⟩, ho, hc, nl, hd⟩ := il
        simp only at hc hd
        subst hc hd
        have g3 : (s.heap.push (setO led)).get? l = some { cls := .type "list", dict := od, data := .seq items nl, slots := sl } := Heap.get?_push_of_some _ ho
        have f8 := PySem.F.sub_list_set
        have f9 := PySem.F.sub_list_frozenset
        have f10 : (Value.type "list" == Value.type "dict") = false := by decide
        have il1 : (s.heap.push (setO led)).IsList l items := ⟨_, g3, rfl, nl, rfl⟩
        unfold Builtin.«set.__init__» noKeywords Builtin.Frozenset.updateFrom
        generalize hit : pyIter = it
        wp_walk
        subst hit
        refine wpAny_pyIter_list il1 (wpAny_bind (wpAny_runValue ?_))
        have lt : l < s.heap.objs.size := Heap.lt_size ho
        have calm3 : A.in1.in1.in1.handled = none := by simp [calm]
        have sz : (s.heap.push (setO led)).objs.size = s.heap.objs.size + 1 := Heap.size_push _ _
        have ne1 : l ≠ (s.heap.push (setO led)).objs.size := by rw [sz]; exact Nat.ne_of_lt (Nat.lt_succ_of_lt lt)
        have ne2 : s.heap.objs.size ∉ [(s.heap.push (setO led)).objs.size, l] := by
          intro q
          rcases List.mem_cons.mp q with q | q
          · rw [sz] at q; exact absurd q (Nat.ne_of_lt (Nat.lt_succ_self _))
          · exact absurd (List.mem_singleton.mp q) (Nat.ne_of_gt lt)
        have lx : xs.length = items.size := by rw [← StrsAre.len_eq told, Array.length_toList]
        refine turns ((Walks.list calm3 _ l ne1 items).toS) s.heap.objs.size ne2 xs lx (by rw [← lx]; exact few) (fun i v hv => strs_told told i v (by rw [Array.getElem?_toList]; exact hv)) (items.size - 0) 0 _ (by omega) (Nat.zero_le _) ⟨⟨_, Heap.get?_push_size _ rfl, rfl, rfl⟩, (il1.push _)⟩ ?start ?fin
        case start =>
          have g4 : ((s.heap.push (setO led)).push { cls := .type "list_iterator", data := .fields #[.ref l, .int 0 0] }).get? s.heap.objs.size = some (setO led) := Heap.get?_push_of_some _ g1
          exact SetOf_congr ((setObjOf_fresh (knd := strKind prog w) led).setOf g4 (by unfold scanBound; omega)) (fun _ => rfl) rfl
        case fin =>
          intro s3 mv has
          obtain ⟨h3, g3', d3, tk3, os3⟩ := s3
          obtain rfl : g3' = s.gens := mv.gens
          obtain rfl : d3 = s.drawn := mv.drawn
          obtain rfl : os3 = s.os := mv.os
          show wpAny _ _ _ _ _ _ ; refine wpAny_pure ?_ ; show wpAny _ _ (ret Value.none) _ _ _
          refine wpAny_pure ⟨rfl, h3, tk3, rfl, has, fun b o hb e => mv.heap b o ?_ (Heap.get?_push_of_some _ (Heap.get?_push_of_some _ e))⟩
          intro q
          rcases List.mem_cons.mp q with q | q
          · exact absurd q (Nat.ne_of_lt hb)
          · have q2 := List.mem_singleton.mp q
            rw [sz] at q2
            exact absurd q2 (Nat.ne_of_lt (Nat.lt_succ_of_lt hb))
      · cases r2 with
        | error e => exact hr2
        | ok fl2 =>
          cases fl2 with
          | ret r =>
            obtain ⟨rfl, h', tk, rfl, has, kept⟩ := hr2
            repeat (any_goals (first | assumption | wp_step))
            exact k _ _ has kept
          | _ => exact hr2.elim
    | _ => exact hr.elim
end
end WbSet
namespace WbSet
open PySem PySem.Spec PyProof.Rows L2
variable {X : Cx}
/-- len(set(xs)), xs a list of texts -/
def tLenSet (K : PySem.W.Frag) (ta : TE) : TE := fun σ H Q => ta σ H fun x H1 => ∃ l, ∃ xs : List Str, x = .ref l ∧ SqL K H1 l (xs.map V.str) ∧ xs.length ≤ 4000 ∧ Q (.int (differ xs).length) H1
theorem pe_lenSet {a : Expr} {ta : TE} {p p2 q pos : Pos} (hc : X.calm = true) (hg : Gl X "len") (hm : X.mg "len" = none) (hg2 : Gl X "set") (hm2 : X.mg "set" = none) (ha : PE X a ta)
    (na : starEach [a] X.env = (false, eval a X.env) :: starEach [] X.env := by rfl) : PE X (.Call (.Name "len" p) [.Call (.Name "set" p2) [a] [] q] [] pos) (tLenSet X.K ta) := by
  refine ⟨fun pins s σ H Q I h => Call_ (ld_blt I hg hm boot_len ?_)⟩
  refine callWith_builtin1 (args_cons (Call_ (ld_blt I hg2 hm2 boot_set ?_)) rfl) rfl rfl
  refine callWith_type1 (args_cons (thn (ha.run pins s σ H _ I h) fun v s1 ⟨x, H1, I1, r1, q1⟩ => args_nil ?_) na) na rfl
  obtain ⟨l, xs, rfl, hq, few, q1⟩ := q1
  cases r1
  obtain ⟨its, r, pl, hz⟩ := I1.list hq
  refine call_set (I1.ok.hd hc) pl.isList (by simpa using strsAre_of r) (by unfold scanBound; omega) fun h' tk has kept => args_nil ?_
  obtain ⟨o, es, ep, t, ho, hex, hd, _, _, _, hf, hn⟩ := has
  have I2 : Inv X pins σ H1 { s1 with heap := h', toks := tk } := I1.kept fun b o e => kept b o (Heap.lt_size e) e
  have le := differ_le xs
  exact call_len_set ho hex hd hf (by rw [hn]; omega) ⟨.int (differ xs).length, H1, I2.tok _, ⟨_, by rw [hn]⟩, q1⟩
end WbSet
/-! min(xs) of a list of texts; a text so many times -/
namespace WbMin
open PySem PySem.W PySem.Spec PyProof.Rows L2
/-- the least text, the first of them -/
def minS (x : Str) (xs : List Str) : Str := xs.foldl (fun a y => if y.cps.toList < a.cps.toList then y else a) x
theorem minD_minS (x : Str) : ∀ xs : List Str, minD (.str x) (xs.map PyData.str) = .str (minS x xs) := by
  intro xs
  unfold minD minS
  induction xs generalizing x with
  | nil => rfl
  | cons y r ih =>
    simp only [List.map_cons, List.foldl_cons, dataLt_str]
    by_cases q : y.cps.toList < x.cps.toList
    · simp only [q, decide_true, if_true]
      exact ih y
    · simp only [q, decide_false, if_false, Bool.false_eq_true]
      exact ih x
theorem depthAll_strs : ∀ xs : List Str, PyData.depthAll (xs.map PyData.str) = 0
  | [] => rfl
  | x :: r => by
    show max (PyData.depth (.str x)) (PyData.depthAll (r.map PyData.str)) = 0
    rw [depthAll_strs r] <;> rfl
theorem alike_strs (xs : List Str) : AlikeAll (xs.map PyData.str) := by
  refine ⟨fun d hd e he => ?_, fun d hd => ?_⟩
  · obtain ⟨x, _, rfl⟩ := List.mem_map.mp hd
    obtain ⟨y, _, rfl⟩ := List.mem_map.mp he
    rfl
  · obtain ⟨x, _, rfl⟩ := List.mem_map.mp hd
    exact fun z => nomatch z
theorem reads_strs {h : Heap} : ∀ {xs : List Str} {us : List Value}, Vals (xs.map V.str) us → ReadsAll h us (xs.map PyData.str) []
  | [], _, .nil => .nil
  | x :: r, _, .cons q t => by
    obtain ⟨k, rfl⟩ := q
    exact ReadsAll.cons (as := []) (bs := []) (.str x k) (reads_strs t)
theorem reads_str {h : Heap} {v : Value} {x : Str} {bs : List Addr} (r : Reads h v (.str x) bs) : ∃ t, v = .str x t := by
  cases r with
  | str _ t => exact ⟨t, rfl⟩
section
variable {X : Cx}
/-- min(xs), xs a list of one text or more -/
def rMinS (K : PySem.W.Frag) : List V → Hp → VK → Prop := fun vs H Q => ∃ (a : Addr) (x : Str) (xs : List Str), vs = [V.ref a] ∧ SqL K H a ((x :: xs).map V.str) ∧ Q (.str (minS x xs)) H
theorem cr_minS {k : Nat} (hr : Room k X.A) (hc : X.calm = true) : CallR X (.builtin "min") (rMinS X.K) := by
  intro pins s σ H vs us Q I r h
  obtain ⟨a, x, xs, rfl, hs, q⟩ := h
  obtain ⟨its, rv, hl, _⟩ := I.list hs
  rw [Vals.ref1 r]
  have rd : ReadsAll s.heap its.toArray.toList (PyData.str x :: xs.map PyData.str) [] := by simpa using reads_strs (h := s.heap) rv
  have un := hr.units
  have al : AlikeAll (PyData.str x :: xs.map PyData.str) := alike_strs (x :: xs)
  have dp : PyData.depthAll (PyData.str x :: xs.map PyData.str) = 0 := depthAll_strs (x :: xs)
  refine min_list_data (I.ok.hd hc) hl.isList rd al (by rw [dp]; omega) fun i v h' tk bs hv hm kept => ?_
  rw [minD_minS] at hm
  obtain ⟨t, rfl⟩ := reads_str hm
  exact ⟨.str (minS x xs), H, I.kept kept, ⟨t, rfl⟩, q⟩
/-- z * k, z a text -/
def rMulS : R2 := fun x y H Q => ∃ (z : Str) (k : Int), x = .str z ∧ y = .int k ∧ MulOk z k ∧ Q (.str (Txt.mul z k)) H
theorem op_mulS : OpR X (binaryOp .Mult) rMulS := by
  intro pins s σ H x y v u Q I rx ry h
  obtain ⟨z, k, rfl, rfl, ok, q⟩ := h
  obtain ⟨t, rfl⟩ := rx
  obtain ⟨t2, rfl⟩ := ry
  exact SB.mul ok fun t' n => ⟨.str (Txt.mul z k), H, I.tok n, ⟨t', rfl⟩, q⟩
end
/-- so many times, by the signs -/
theorem mulOk {z : Str} {k : Int} (h0 : 0 ≤ k) (h : z.length * k.toNat ≤ 16777216) (hk : k ≤ 16777216) : MulOk z k := by
  refine ⟨?_, fun h1 _ => ?_, fun h1 _ => ?_⟩
  · rw [decide_eq_false (show ¬ k < -(2 ^ 63) by omega), decide_eq_false (show ¬ k ≥ 2 ^ 63 by omega)] <;> rfl
  · intro q
    have k1 : 0 < k := by omega
    have h2 : (z.length : Int) * k ≤ 16777216 := by
      have e : ((z.length * k.toNat : Nat) : Int) = (z.length : Int) * k := by
        rw [Int.natCast_mul, Int.toNat_of_nonneg h0]
      rw [← e]
      exact Int.ofNat_le.mpr h
    have h3 : (2 ^ 63 - 1) / k < (z.length : Int) := q
    have h4 : (2 ^ 63 - 1 : Int) < (z.length : Int) * k := (Int.ediv_lt_iff_lt_mul k1).mp h3
    omega
  · show decide (z.length * k.toNat > sizeLine) = false
    exact decide_eq_false (by rw [sizeLine_eq]; omega)
theorem fold_cat : ∀ (n : Nat) (c acc : Array Nat), ((List.replicate n c).foldl (· ++ ·) acc).toList = acc.toList ++ (List.replicate n c.toList).flatten
  | 0, c, acc => by simp
  | n + 1, c, acc => by
    rw [List.replicate_succ, List.foldl_cons, fold_cat n c (acc ++ c), List.replicate_succ, List.flatten_cons, Array.toList_append, List.append_assoc]
theorem mul_cps {z : Str} {k : Int} (h0 : 0 ≤ k) : (Txt.mul z k).cps.toList = (List.replicate k.toNat z.cps.toList).flatten := by
  unfold Txt.mul
  by_cases h1 : k < 1
  · obtain rfl : k = 0 := by omega
    rw [if_pos h1] <;> rfl
  · rw [if_neg h1]
    by_cases h2 : (k == 1 || z.length == 0) = true
    · rw [if_pos h2]
      rcases Bool.or_eq_true _ _ ▸ h2 with e | e
      · have e1 : k = 1 := by simpa using e
        subst e1
        simp
      · have e1 : z.cps.size = 0 := by
          have q : z.length = 0 := by simpa using e
          exact q
        have e2 : z.cps.toList = [] := List.eq_nil_of_length_eq_zero (by rw [Array.length_toList]; exact e1)
        rw [e2]
        simp
    · rw [if_neg h2]
      show ((List.replicate k.toNat z.cps).foldl (· ++ ·) #[]).toList = _
      rw [fold_cat]
      simp
end WbMin
namespace Wb
open PySem L2 WbMin
abbrev sSigns : Stmt := top 21
abbrev sWord : Stmt := top 22
abbrev sLong : Stmt := top 23
/-- the text of these codes -/
def S (l : List Nat) : Str := ⟨l.toArray⟩
theorem S_cps (l : List Nat) : (S l).cps.toList = l := by simp [S]
theorem S_size (l : List Nat) : (S l).cps.size = l.length := by simp [S]
theorem S_len (l : List Nat) : (S l).length = l.length := S_size l
theorem S_of (z : Str) : S z.cps.toList = z := by cases z; simp [S]
theorem S_eq {z : Str} {l : List Nat} (h : z.cps.toList = l) : z = S l := by rw [← h, S_of]
theorem S_add (l m : List Nat) : S l ++ S m = S (l ++ m) := by
  show Str.append (S l) (S m) = S (l ++ m)
  simp [S, Str.append]
def one (c : Nat) : Str := ⟨#[c]⟩
theorem S_one (c : Nat) : one c = S [c] := rfl
def abc : List Nat := (List.range 26).map (· + 97)
theorem abc_is : ("abcdefghijklmnopqrstuvwxyz" : Str) = S abc := by decide +kernel
/-- small letters -/
def Low (l : List Nat) : Prop := ∀ c ∈ l, 97 ≤ c ∧ c ≤ 122
theorem abc_low : Low abc := by unfold Low abc; decide
theorem abc_len : abc.length = 26 := rfl
/-- a def of the top -/
structure Def (K : PySem.W.Frag) (mg : Str → Option Value) (x : Str) (st : Stmt) (ps : List Str) (f : Addr) (fd : FuncData) : Prop where
  F : Fun K x x st f fd
  g : mg x = some (.ref f)
  kp : PySem.W.keepIn K (.ref f) = true
  b : Binds K fd ps []
def spSigns : Sp := fun vs H Q _ => ∃ (p : Addr) (m : Int), vs = [.ref p, .int m] ∧ 0 < m ∧ m ≤ 26 ∧ PoolAt H p ∧
  ∀ (l : List Nat) (H' : Hp), Low l → l.Nodup → 0 < l.length → (l.length : Int) ≤ m → PoolAt H' p → But p H H' → Q (.str (S l)) H'
theorem drop_one (a : Nat) : ∀ ys : List Nat, ys.Nodup → ys.length ≤ (ys.filter fun c => !decide (c = a)).length + 1
  | [], _ => Nat.zero_le _
  | y :: r, nd => by
    obtain ⟨n1, n2⟩ := List.nodup_cons.mp nd
    by_cases e : y = a
    · have e1 : (r.filter fun c => !decide (c = a)) = r := List.filter_eq_self.mpr fun c hc => by
        have : c ≠ a := fun z => n1 (e ▸ z ▸ hc)
        simp [this]
      rw [List.filter_cons_of_neg (by simp [e]), e1] <;> exact Nat.le_refl _
    · rw [List.filter_cons_of_pos (by simp [e])]
      have := drop_one a r n2
      simp only [List.length_cons]
      omega
theorem left_len : ∀ (l xs : List Nat), xs.Nodup → xs.length ≤ (xs.filter fun c => !decide (c ∈ l)).length + l.length
  | [], xs, _ => by
    have e : (xs.filter fun c => !decide (c ∈ ([] : List Nat))) = xs := List.filter_eq_self.mpr (by simp)
    rw [e] <;> exact Nat.le_refl _
  | a :: l, xs, nd => by
    have ih := left_len l xs nd
    have e : (xs.filter fun c => !decide (c ∈ a :: l)) = ((xs.filter fun c => !decide (c ∈ l)).filter fun c => !decide (c = a)) := by
      rw [List.filter_filter]
      refine List.filter_congr fun c _ => ?_
      by_cases h1 : c = a <;> by_cases h2 : c ∈ l <;> simp [h1, h2]
    have := drop_one a _ (nd.filter fun c => !decide (c ∈ l))
    rw [e]
    simp only [List.length_cons]
    omega
theorem rest_pos {l : List Nat} (h : l.length < 26) : 0 < (abc.filter fun c => !decide (c ∈ l)).length := by
  have := left_len l abc (by unfold abc; decide)
  rw [abc_len] at this
  omega
theorem PoolAt.up {H : Hp} {p q : Addr} {o : HO} (h : PoolAt H p) (n : H q = none) : PoolAt (L2.upd H q o) p := by
  obtain ⟨a, b, c, e, r⟩ := h
  exact ⟨a, b, c, by rw [upd_ne (ne_of_none e n)]; exact e, r⟩
theorem PoolAt.ne {H : Hp} {p q : Addr} (h : PoolAt H p) (n : H q = none) : q ≠ p := by
  obtain ⟨a, b, c, e, r⟩ := h
  exact (ne_of_none e n).symm
theorem PoolAt.put {H : Hp} {p q : Addr} {o : HO} (h : PoolAt H p) (n : q ≠ p) : PoolAt (L2.upd H q o) p := by
  obtain ⟨a, b, c, e, r⟩ := h
  exact ⟨a, b, c, by rw [upd_ne n.symm]; exact e, r⟩
/-- a store at a thing that was not there at first -/
theorem But.new {p q : Addr} {o : HO} {H H' : Hp} (a : But p H H') (n : H q = none) : But p H (L2.upd H' q o) := fun c u k h => by
  rw [upd_ne (ne_of_none h n)]
  exact a c u k h
theorem But.free {p q : Addr} {H H' : Hp} (a : But p H H') (n : H' q = none) (ne : q ≠ p) : H q = none := by
  cases e : H q with
  | none => rfl
  | some o =>
    rw [a q o ne e] at n
    cases n
theorem take_more {α : Type} : ∀ {l : List α} {i : Nat} {x : α}, l[i]? = some x → l.take (i + 1) = l.take i ++ [x] := fun {l i x} h => by
  rw [List.take_add_one, h] <;> rfl
def vOne (c : Nat) : V := .str (one c)
section
variable {P : Program} {w : World} {K : PySem.W.Frag} {mg : Str → Option Value} {base : Heap} {f fD : Addr} {fd fdD : FuncData}
theorem scS : FnScope ["_law_pool_here", "_law_most", "_law_found", "_law_turn", "_law_rest", "_law_mark"] ["_law_pool_here", "_law_most"] (defScope sSigns) := ⟨rfl, rfl, rfl, by decide +kernel, rfl, by decide +kernel, by decide +kernel⟩
theorem ok_signs (F : Fun K "_law_signs" "_law_signs" sSigns f fd) (D : Def K mg "_law_draw" sDraw ["_law_pool_here", "_law_many"] fD fdD) (mInt : mg "int" = none) (mDm : mg "divmod" = none) (mLen : mg "len" = none) (mRange : mg "range" = none) :
    FnOk P w K mg base CX0 2 f fd ["_law_pool_here", "_law_most"] spSigns := by
  have G : FnOk P w K mg base CX0 1 fD fdD ["_law_pool_here", "_law_many"] spDraw := ok_draw D.F mInt mDm
  refine F.ok scS (fun vs H Q E h => ?_) (fun cdv A outer s H vs Q E hr h => ?_)
  · obtain ⟨p, m, rfl, _⟩ := h
    rfl
  · obtain ⟨p, m, rfl, m0, m1, hp, k⟩ := h
    refine ⟨_, pss_cons (ps_set (i := 2) scS.nd rfl (.inr rfl) pe_str)
      (pss_cons (ps_for PassesOwn.never rfl (pi_range1 rfl mRange (pa_cons (pe_op op_add pe_int (pe_call G hr rfl D.g D.kp D.b .nil pass0 (pa_cons (pv 0) (pa_cons (pv 1) pa_nil)))) pa_nil)) (pg_name (i := 3) scS.nd rfl (.inl rfl))
        (pss_cons (ps_setLc (i := 4) (own := [("_law_mark", 5)]) (g := gName 5) rfl scS.nd rfl rfl (sw_true rfl rfl rfl (by decide +kernel)) (pi_str pe_str) (blkOk_by (N := ["_law_pool_here", "_law_most", "_law_found", "_law_turn", "_law_rest", "_law_mark"]) (sc := defScope sSigns) (by decide +kernel))
            (fun _ _ _ _ _ => pg_name (i := 5) scS.nd rfl (.inl rfl)) (fun _ _ _ _ _ => pts_one (pt_cmpR op_notIn_sign (pv 5) (pv 2) rfl)) (fun _ _ _ _ _ => pv 5))
          (pss_one (ps_set (i := 2) scS.nd rfl (.inr rfl) (pe_op op_add_str (pv 2) (pe_ix ix_list (pv 4) (pe_call G hr rfl D.g D.kp D.b .nil pass0 (pa_cons (pv 0) (pa_cons (pe_callB call_len_seq (by rfl) mLen PySem.boot_len (pa_cons (pv 4) pa_nil)) pa_nil))) (fun _ _ => rfl)))))))
      (pss_one (ps_ret (pv 2)))), ?_⟩
    have e0 : (Str.ofString "" : Str) = S [] := by decide +kernel
    refine ⟨_, rfl, _, rfl, p, m, rfl, m0, by omega, hp, fun d H1 d0 d1 hp1 b1 => ⟨_, _, rfl, rfl, _, rfl, by omega, by omega, for_it walk_range
      (fun i σ H' => ∃ (l : List Nat) (v3 v4 v5 : Option V), σ = [some (.ref p), some (.int m), some (.str (S l)), v3, v4, v5] ∧ Low l ∧ l.Nodup ∧ l.length = i ∧ PoolAt H' p ∧ But p H H')
      ⟨[], none, none, none, by rw [← e0]; rfl, (fun c hc => nomatch hc), List.nodup_nil, rfl, hp1, b1⟩ (fun _ _ _ _ _ => trivial) ?_ ?_⟩⟩
    · rintro i x σ H2 H2' hi ⟨l, v3, v4, v5, rfl, lo, nd, ll, hp2, b2⟩ ⟨rfl, rfl⟩
      refine ⟨_, rfl, fun D hD => lc_it walk_str (fun j H3 => H3 D = some (.lst (((abc.take j).filter fun c => !decide (c ∈ l)).map vOne)) ∧ PoolAt H3 p ∧ But p H H3) ?_ (fun _ _ _ _ => trivial) ?_ ?_⟩
      · exact ⟨upd_same, hp2.up hD, b2.upd hD⟩
      · rintro j y H3 H3' hj ⟨h1, h2, h3⟩ ⟨rfl, c, hc, rfl⟩
        have hc' : abc[j]? = some c := by
          rw [abc_is] at hc
          simpa [S] using hc
        have hD0 : H D = none := b2.free hD (hp2.ne hD)
        refine ⟨rfl, _, rfl, _, rfl, c, S l, rfl, rfl, _, rfl, ite2 (fun q => ?_) (fun q => ?_)⟩
        · refine ⟨_, rfl, _, h1, ?_, ?_, h2.put (hp2.ne hD), h3.new hD0⟩
          · rw [List.length_map, sizeLine_eq]
            have := List.length_filter_le (fun c => !decide (c ∈ l)) (abc.take j)
            have := List.length_take_le' j abc
            rw [abc_len] at this
            omega
          · rw [upd_same, take_more hc', List.filter_append, List.map_append]
            rw [S_cps] at q
            rw [show ([c].filter fun c => !decide (c ∈ l)) = [c] from List.filter_cons_of_pos q] <;> rfl
        · refine ⟨?_, h2, h3⟩
          rw [S_cps] at q
          rw [h1, take_more hc', List.filter_append, show ([c].filter fun c => !decide (c ∈ l)) = [] from List.filter_cons_of_neg q, List.append_nil]
      · rintro H3 ⟨h1, h2, h3⟩
        have full : abc.take ("abcdefghijklmnopqrstuvwxyz" : Str).cps.size = abc := by rw [abc_is, S_size, List.take_length]
        rw [full] at h1
        have ne : 0 < (abc.filter fun c => !decide (c ∈ l)).length := rest_pos (by omega)
        refine ⟨_, rfl, _, rfl, _, rfl, _, rfl, D, _, rfl, .inl (SqL.of h1), p, _, rfl, ?_, ?_, h2, fun e H4 e0 e1 hp4 b4 => ?_⟩
        · rw [List.length_map]
          omega
        · rw [List.length_map]
          have := List.length_filter_le (fun c => !decide (c ∈ l)) abc
          rw [abc_len] at this
          omega
        · have e1' : e.toNat < (abc.filter fun c => !decide (c ∈ l)).length := by
            rw [List.length_map] at e1
            omega
          obtain ⟨c, hc⟩ : ∃ c, (abc.filter fun c => !decide (c ∈ l))[e.toNat]? = some c := ⟨_, List.getElem?_eq_getElem e1'⟩
          obtain ⟨c1, c2⟩ := List.mem_filter.mp (List.mem_of_getElem? hc)
          have c3 : c ∉ l := by simpa using c2
          have hat : atI ((abc.filter fun c => !decide (c ∈ l)).map vOne) e = some (vOne c) := by
            have q := atI_nat (xs := (abc.filter fun c => !decide (c ∈ l)).map vOne) (j := e.toNat) (v := vOne c) (by rw [List.getElem?_map, hc] <;> rfl)
            rwa [Int.toNat_of_nonneg e0] at q
          have h4 := b4 D _ (hp2.ne hD) h1
          refine ⟨D, _, _, _, rfl, rfl, SqL.of h4, hat, _, _, rfl, rfl, ?_, l ++ [c], some (.int (0 + (i : Nat))), some (.ref D), v5, ?_, fun z hz => ?_, ?_, ?_, hp4, h3.trans b4⟩
          · rw [S_len, sizeLine_eq]
            show l.length + 1 ≤ 16777216
            omega
          · rw [← S_add]
            rfl
          · rcases List.mem_append.mp hz with hz | hz
            · exact lo z hz
            · rw [List.mem_singleton.mp hz]
              exact abc_low c c1
          · rw [List.nodup_append]
            exact ⟨nd, by simp, fun a ha b hb q => c3 (by rw [← List.mem_singleton.mp hb, ← q]; exact ha)⟩
          · rw [List.length_append, ll] <;> rfl
    · rintro σ H2 ⟨l, v3, v4, v5, rfl, lo, nd, ll, hp2, b2⟩
      exact ⟨_, rfl, k l _ lo nd (by omega) (by omega) hp2 b2⟩
end
end Wb
namespace Wb
open PySem L2 WbMin
theorem one_cat : ∀ (l : List Nat) (c : Nat), Str.join (S []) ((c :: l).map one) = S (c :: l)
  | [], c => rfl
  | d :: l, c => by
    have ih := one_cat l d
    show one c ++ S [] ++ Str.join (S []) ((d :: l).map one) = S (c :: d :: l)
    rw [ih, S_one, S_add, S_add]
    rfl
theorem join_one {l : List Nat} (h : 0 < l.length) : Txt.join (Str.ofString "") (l.map one) = S l := by
  have e0 : (Str.ofString "" : Str) = S [] := by decide +kernel
  cases l with
  | nil => cases h
  | cons c l =>
    rw [e0]
    show Builtin.Str.glued (S []) ((c :: l).map one) = S (c :: l)
    rw [StrLaws.glued_eq_join]
    exact one_cat l c
def spWord : Sp := fun vs H Q _ => ∃ (p : Addr) (a : List Nat) (m : Int), vs = [.ref p, .str (S a), .int m] ∧ 0 < a.length ∧ a.length ≤ 1000 ∧ 0 < m ∧ m ≤ 1000 ∧ PoolAt H p ∧
  ∀ (l : List Nat) (H' : Hp), (∀ c ∈ l, c ∈ a) → 0 < l.length → (l.length : Int) ≤ m → PoolAt H' p → But p H H' → Q (.str (S l)) H'
section
variable {P : Program} {w : World} {K : PySem.W.Frag} {mg : Str → Option Value} {base : Heap} {f fD fS fW : Addr} {fd fdD fdS fdW : FuncData}
theorem scW : FnScope ["_law_pool_here", "_law_abc", "_law_most", "_law_turn"] ["_law_pool_here", "_law_abc", "_law_most"] (defScope sWord) := ⟨rfl, rfl, rfl, by decide +kernel, rfl, by decide +kernel, by decide +kernel⟩
theorem ok_word (F : Fun K "_law_word" "_law_word" sWord f fd) (D : Def K mg "_law_draw" sDraw ["_law_pool_here", "_law_many"] fD fdD) (mInt : mg "int" = none) (mDm : mg "divmod" = none) (mLen : mg "len" = none) (mRange : mg "range" = none) :
    FnOk P w K mg base CX0 2 f fd ["_law_pool_here", "_law_abc", "_law_most"] spWord := by
  have G : FnOk P w K mg base CX0 1 fD fdD ["_law_pool_here", "_law_many"] spDraw := ok_draw D.F mInt mDm
  refine F.ok scW (fun vs H Q E h => ?_) (fun cdv A outer s H vs Q E hr h => ?_)
  · obtain ⟨p, a, m, rfl, _⟩ := h
    rfl
  · obtain ⟨p, a, m, rfl, a0, a1, m0, m1, hp, k⟩ := h
    refine ⟨_, pss_one (ps_ret (pe_join pe_str
      (pe_lc (own := [("_law_turn", 3)]) (g := gName 3) (tt := tYes) rfl scW.nd (pi_range1 rfl mRange (pa_cons (pe_op op_add pe_int (pe_call G hr rfl D.g D.kp D.b .nil pass0 (pa_cons (pv 0) (pa_cons (pv 2) pa_nil)))) pa_nil))
        (blkOk_by (N := ["_law_pool_here", "_law_abc", "_law_most", "_law_turn"]) (sc := defScope sWord) (by decide +kernel)) (fun _ _ _ _ _ => pg_name (i := 3) scW.nd rfl (.inl rfl)) (fun _ _ _ _ _ => pts_nil)
        (fun _ _ _ _ _ => pe_ix ix_str (pv 1) (pe_call G hr rfl D.g D.kp D.b .nil pass0 (pa_cons (pv 0) (pa_cons (pe_callB call_len_str (by rfl) mLen PySem.boot_len (pa_cons (pv 1) pa_nil)) pa_nil))) (fun _ _ => rfl))))), ?_⟩
    refine ⟨⟨_, rfl⟩, _, rfl, _, rfl, p, m, rfl, m0, by omega, hp, fun d H1 d0 d1 hp1 b1 => ⟨_, _, rfl, rfl, _, rfl, by omega, by omega, fun D hD => ?_⟩⟩
    have sA : (S a).length ≤ sizeLine := by rw [S_len, sizeLine_eq]; omega
    refine lc_it walk_range (fun i H3 => ∃ l : List Nat, H3 D = some (.lst (l.map vOne)) ∧ l.length = i ∧ (∀ c ∈ l, c ∈ a) ∧ PoolAt H3 p ∧ But p H H3) ⟨[], upd_same, rfl, (fun c hc => nomatch hc), hp1.up hD, b1.upd hD⟩ (fun _ _ _ _ => trivial) ?_ ?_
    · rintro i x H3 H3' hi ⟨l, h1, ll, sub, h2, h3⟩ ⟨rfl, rfl⟩
      have hD0 : H D = none := b1.free hD (hp1.ne hD)
      have nD := hp1.ne hD
      refine ⟨rfl, _, rfl, _, rfl, _, rfl, _, rfl, sA, p, _, rfl, ?_, ?_, h2, fun e H4 e0 e1 hp4 b4 => ?_⟩
      · rw [S_len]; omega
      · rw [S_len]; omega
      · rw [S_len] at e1
        obtain ⟨c, hc⟩ : ∃ c, a[e.toNat]? = some c := ⟨_, List.getElem?_eq_getElem (by omega)⟩
        have hat : atI (S a).cps.toList e = some c := by
          rw [S_cps]
          have q := atI_nat hc
          rwa [Int.toNat_of_nonneg e0] at q
        refine ⟨_, _, c, rfl, rfl, sA, hat, _, b4 D _ nD h1, ?_, l ++ [c], ?_, ?_, fun z hz => ?_, hp4.put nD, (h3.trans b4).new hD0⟩
        · rw [List.length_map, sizeLine_eq]; omega
        · rw [upd_same, List.map_append] <;> rfl
        · rw [List.length_append, ll] <;> rfl
        · rcases List.mem_append.mp hz with hz | hz
          · exact sub z hz
          · rw [List.mem_singleton.mp hz]
            exact List.mem_of_getElem? hc
    · rintro H3 ⟨l, h1, ll, sub, h2, h3⟩
      have pos : 0 < l.length := by omega
      have h1' : H3 D = some (.lst ((l.map one).map V.str)) := by rw [h1, List.map_map] <;> rfl
      refine ⟨_, D, l.map one, rfl, rfl, .inl (SqL.of h1'), ?_, ?_⟩
      · have e1 : ((l.map one).map fun x => x.length) = List.replicate l.length 1 := by
          rw [List.map_map]
          exact List.map_eq_replicate_iff.mpr fun _ _ => rfl
        have e2 : (Str.ofString "").length = 0 := by decide +kernel
        rw [e1, e2, List.sum_replicate_nat]
        omega
      · show Q (.str (Txt.join (Str.ofString "") (l.map one))) H3
        rw [join_one pos]
        exact k l H3 sub pos (by omega) h2 h3
/-- a word of small letters -/
def spLong : Sp := fun vs H Q _ => ∃ (p : Addr) (m : Int), vs = [.ref p, .int m] ∧ 0 < m ∧ m ≤ 600 ∧ PoolAt H p ∧
  ∀ (l : List Nat) (H' : Hp), Low l → 0 < l.length → l.length ≤ 600 → PoolAt H' p → But p H H' → Q (.str (S l)) H'
def tLongRest : TS :=
  tSeq (tAsg (tCall spDraw [] E0 (tCons (tVar 0) (tCons (tC (V.int 8)) tNil))) (gName 3))
    (tSeq (tIfS (tTest (tOp (rI0 fun i j => V.bl (decide (i < j))) (tVar 3) (tC (V.int 4)))) (tRet (tCall spWord [] E0 (tCons (tVar 0) (tCons (tVar 2) (tCons (tC (V.int 7)) tNil))))) tNext)
      (tSeq (tIfS (tTest (tOp (rI0 fun i j => V.bl (decide (i < j))) (tVar 3) (tC (V.int 6)))) (tRet (tCall spWord [] E0 (tCons (tVar 0) (tCons (tVar 2) (tCons (tVar 1) tNil))))) tNext)
        (tSeq (tAsg (tCall spWord [] E0 (tCons (tVar 0) (tCons (tVar 2) (tCons (tC (V.int 5)) tNil)))) (gName 4))
          (tRet (tIf (tTest (tOp rEq (tVar 3) (tC (V.int 6))))
            (tOp rMulS (tVar 4) (tOp (rI0 fun i j => V.int (i + j)) (tC (V.int 1)) (tCall spDraw [] E0 (tCons (tVar 0) (tCons (tC (V.int 6)) tNil)))))
            (tOp rMulS (tVar 4) (tOp (rI CDivN fun i j => V.int (i.fdiv j)) (tC (V.int 600)) (tCB (fun xs H Q => ∃ z, xs = [V.str z] ∧ z.length ≤ sizeLine ∧ Q (V.int (z.length : Nat)) H) (tCons (tVar 4) tNil)))))))))
theorem div600 {n : Nat} : Int.fdiv 600 (n : Int) = ((600 / n : Nat) : Int) := by
  rw [Int.fdiv_eq_ediv_of_nonneg _ (Int.natCast_nonneg n)] <;> rfl
theorem low_rep {l : List Nat} {n : Nat} (h : Low l) : Low (List.replicate n l).flatten := fun c hc => by
  obtain ⟨m, hm, q⟩ := List.mem_flatten.mp hc
  rw [List.eq_of_mem_replicate hm] at q
  exact h c q
theorem scG : FnScope ["_law_pool_here", "_law_most", "_law_abc", "_law_way", "_law_piece"] ["_law_pool_here", "_law_most"] (defScope sLong) := ⟨rfl, rfl, rfl, by decide +kernel, rfl, by decide +kernel, by decide +kernel⟩
theorem ok_long (F : Fun K "_law_long" "_law_long" sLong f fd) (D : Def K mg "_law_draw" sDraw ["_law_pool_here", "_law_many"] fD fdD) (DS : Def K mg "_law_signs" sSigns ["_law_pool_here", "_law_most"] fS fdS) (DW : Def K mg "_law_word" sWord ["_law_pool_here", "_law_abc", "_law_most"] fW fdW)
    (mInt : mg "int" = none) (mDm : mg "divmod" = none) (mLen : mg "len" = none) (mRange : mg "range" = none) :
    FnOk P w K mg base CX0 3 f fd ["_law_pool_here", "_law_most"] spLong := by
  have G : FnOk P w K mg base CX0 1 fD fdD ["_law_pool_here", "_law_many"] spDraw := ok_draw D.F mInt mDm
  have GS : FnOk P w K mg base CX0 2 fS fdS ["_law_pool_here", "_law_most"] spSigns := ok_signs DS.F D mInt mDm mLen mRange
  have GW : FnOk P w K mg base CX0 2 fW fdW ["_law_pool_here", "_law_abc", "_law_most"] spWord := ok_word DW.F D mInt mDm mLen mRange
  refine F.ok scG (fun vs H Q E h => ?_) (fun cdv A outer s H vs Q E hr h => ?_)
  · obtain ⟨p, m, rfl, _⟩ := h
    rfl
  · obtain ⟨p, m, rfl, m0, m1, hp, k⟩ := h
    have hr1 : Room 1 _ := hr.mono (by decide)
    refine ⟨_, pss_cons (ps_set (i := 2) scG.nd rfl (.inl rfl) (pe_ifExp (pt_cmpR op_eq (pe_call G hr1 rfl D.g D.kp D.b .nil pass0 (pa_cons (pv 0) (pa_cons pe_int pa_nil))) pe_int (nomark _)) pe_str (pe_call GS hr rfl DS.g DS.kp DS.b .nil pass0 (pa_cons (pv 0) (pa_cons pe_int pa_nil)))))
      (pss_cons (ps_set (i := 3) scG.nd rfl (.inl rfl) (pe_call G hr1 rfl D.g D.kp D.b .nil pass0 (pa_cons (pv 0) (pa_cons pe_int pa_nil))))
      (pss_cons (ps_if (pt_cmpR op_lt (pv 3) pe_int (nomark _)) (pss_one (ps_ret (pe_call GW hr rfl DW.g DW.kp DW.b .nil pass0 (pa_cons (pv 0) (pa_cons (pv 2) (pa_cons pe_int pa_nil)))))) pss_nil)
      (pss_cons (ps_if (pt_cmpR op_lt (pv 3) pe_int (nomark _)) (pss_one (ps_ret (pe_call GW hr rfl DW.g DW.kp DW.b .nil pass0 (pa_cons (pv 0) (pa_cons (pv 2) (pa_cons (pv 1) pa_nil)))))) pss_nil)
      (pss_cons (ps_set (i := 4) scG.nd rfl (.inl rfl) (pe_call GW hr rfl DW.g DW.kp DW.b .nil pass0 (pa_cons (pv 0) (pa_cons (pv 2) (pa_cons pe_int pa_nil)))))
      (pss_one (ps_ret (pe_ifExp (pt_cmpR op_eq (pv 3) pe_int (nomark _))
        (pe_op op_mulS (pv 4) (pe_op op_add pe_int (pe_call G hr1 rfl D.g D.kp D.b .nil pass0 (pa_cons (pv 0) (pa_cons pe_int pa_nil)))))
        (pe_op op_mulS (pv 4) (pe_op op_fdivN pe_int (pe_callB call_len_str (by rfl) mLen PySem.boot_len (pa_cons (pv 4) pa_nil))))))))))), ?_⟩
    refine ⟨_, rfl, p, _, rfl, by decide, by decide, hp, fun d H1 d0 d1 hp1 b1 => ⟨rfl, _, rfl, ?_⟩⟩
    have fin : ∀ (a : List Nat) (H2 : Hp), Low a → 0 < a.length → a.length ≤ 26 → PoolAt H2 p → But p H H2 → tLongRest { nx := fun x H' => Q V.non H', rt := Q } [some (.ref p), some (.int m), some (.str (S a)), none, none] H2 := by
      intro a H2 lo a0 a1 hp2 b2
      have low : ∀ {l : List Nat}, (∀ c ∈ l, c ∈ a) → Low l := fun s c hc => lo c (s c hc)
      refine ⟨_, rfl, p, _, rfl, by decide, by decide, hp2, fun e H3 e0 e1 hp3 b3 => ⟨_, rfl, _, _, rfl, rfl, _, rfl, ite2 (fun _ => ?_) (fun _ => ?_)⟩⟩
      · exact ⟨_, rfl, _, rfl, p, a, _, rfl, a0, by omega, by decide, by decide, hp3, fun l H4 sub l0 l1 hp4 b4 => k l H4 (low sub) l0 (by omega) hp4 (b2.trans (b3.trans b4))⟩
      · refine ⟨_, rfl, _, _, rfl, rfl, _, rfl, ite2 (fun _ => ?_) (fun _ => ?_)⟩
        · exact ⟨_, rfl, _, rfl, _, rfl, p, a, _, rfl, a0, by omega, m0, by omega, hp3, fun l H4 sub l0 l1 hp4 b4 => k l H4 (low sub) l0 (by omega) hp4 (b2.trans (b3.trans b4))⟩
        · refine ⟨_, rfl, _, rfl, p, a, _, rfl, a0, by omega, by decide, by decide, hp3, fun l H4 sub l0 l1 hp4 b4 => ⟨_, rfl, rfl, _, rfl, ite2 (fun _ => ?_) (fun _ => ?_)⟩⟩
          · refine ⟨_, rfl, _, rfl, p, _, rfl, by decide, by decide, hp4, fun g H5 g0 g1 hp5 b5 => ⟨_, _, rfl, rfl, _, _, rfl, rfl, ?_, ?_⟩⟩
            · refine mulOk (by omega) ?_ (by omega)
              rw [S_len]
              have : l.length * (1 + g).toNat ≤ 5 * 6 := Nat.mul_le_mul (by omega) (by omega)
              omega
            · have e : Txt.mul (S l) (1 + g) = S ((List.replicate (1 + g).toNat l).flatten) := S_eq (by rw [mul_cps (by omega), S_cps])
              have len : ((List.replicate (1 + g).toNat l).flatten).length = (1 + g).toNat * l.length := by rw [List.length_flatten, List.map_replicate, List.sum_replicate_nat]
              have b : (1 + g).toNat * l.length ≤ 6 * 5 := Nat.mul_le_mul (by omega) (by omega)
              have c : 0 < (1 + g).toNat * l.length := Nat.mul_pos (by omega) l0
              rw [e]
              exact k _ H5 (low_rep (low sub)) (by omega) (by omega) hp5 (b2.trans (b3.trans (b4.trans b5)))
          · refine ⟨_, rfl, _, rfl, _, rfl, (by rw [S_len, sizeLine_eq]; omega), _, _, rfl, rfl, (by rw [S_len]; constructor <;> omega), _, _, rfl, rfl, ?_, ?_⟩
            · rw [S_len, div600]
              refine mulOk (Int.natCast_nonneg _) ?_ (Int.le_trans (Int.ofNat_le.mpr (Nat.div_le_self 600 l.length)) (by decide))
              rw [S_len, Int.toNat_natCast, Nat.mul_comm]
              have := Nat.div_mul_le_self 600 l.length
              omega
            · have hq : Q (.str (Txt.mul (S l) ((600 / l.length : Nat) : Int))) H4 := by
                have e : Txt.mul (S l) ((600 / l.length : Nat) : Int) = S ((List.replicate (600 / l.length) l).flatten) := S_eq (by rw [mul_cps (Int.natCast_nonneg _), S_cps, Int.toNat_natCast])
                have len : ((List.replicate (600 / l.length) l).flatten).length = 600 / l.length * l.length := by rw [List.length_flatten, List.map_replicate, List.sum_replicate_nat]
                have b := Nat.div_mul_le_self 600 l.length
                have c : 0 < 600 / l.length * l.length := Nat.mul_pos (Nat.div_pos (by omega) l0) l0
                rw [e]
                exact k _ H4 (low_rep (low sub)) (by omega) (by omega) hp4 (b2.trans (b3.trans b4))
              rw [← div600, ← S_len l] at hq
              exact hq
    refine ite2 (fun _ => ?_) (fun _ => ?_)
    · have q := fin abc H1 abc_low (by decide) (by decide) hp1 b1
      rw [← abc_is] at q
      exact q
    · exact ⟨_, rfl, p, _, rfl, by decide, by decide, hp1, fun l H2 lo nd l0 l1 hp2 b2 => fin l H2 lo l0 (by omega) hp2 (b1.trans b2)⟩
end
end Wb
namespace Wb
open PySem L2 WbMin
abbrev sIsInt : Stmt := top 3
abbrev sIsWord : Stmt := top 4
abbrev sTurns : Stmt := top 12
abbrev sInit : Stmt := inClass (top 15) 0
/-! ### the mathematics: turnings as lists of codes -/
def rot (l : List Nat) (i : Nat) : List Nat := l.drop i ++ l.take i
def turnsS (l : List Nat) : List Str := (List.range l.length).map fun i => S (rot l i)
def leastOf : List Str → Str
  | [] => S []
  | x :: xs => minS x xs
def textS (l : List Nat) : Str := leastOf (turnsS l)
def perN (l : List Nat) : Nat := (WbSet.differ (turnsS l)).length
/-- a word as it is passed -/
structure IsW (l : List Nat) : Prop where
  low : Low l
  pos : 0 < l.length
  few : l.length ≤ 600
theorem IsW.fits {l : List Nat} (h : IsW l) : (S l).length ≤ sizeLine := by
  rw [S_len, sizeLine_eq]
  have := h.few
  omega
theorem cut_from {l : List Nat} {i : Nat} (h : i ≤ l.length) : cutS (S l) (some (i : Int)) none = S (l.drop i) := by
  show S _ = S _
  rw [HT.sIx_none, HT.sIx_nat, S_len, S_cps, Nat.min_eq_left h]
  congr 1
  exact List.take_of_length_le (by rw [List.length_drop] <;> exact Nat.le_refl _)
theorem cut_to {l : List Nat} {i : Nat} (h : i ≤ l.length) : cutS (S l) none (some (i : Int)) = S (l.take i) := by
  show S _ = S _
  rw [HT.sIx_none, HT.sIx_nat, S_len, S_cps, Nat.min_eq_left h] <;> rfl
theorem rot_len (l : List Nat) (i : Nat) : (rot l i).length = l.length := by
  unfold rot
  rw [List.length_append, List.length_drop, List.length_take]
  omega
theorem turns_len (l : List Nat) : (turnsS l).length = l.length := by
  unfold turnsS
  rw [List.length_map, List.length_range]
theorem least_cons {xs : List Str} (h : 0 < xs.length) : ∃ x r, xs = x :: r ∧ leastOf xs = minS x r := by
  cases xs with
  | nil => cases h
  | cons x r => exact ⟨x, r, rfl, rfl⟩
/-! ### the object -/
def rf (t : Str) (n : Int) : List (Str × V) := putF "_period" (.int n) (putF "_text" (.str t) [])
theorem tp_ : ¬ (("_text" : Str) = "_period") := by decide +kernel
theorem rf_text (t : Str) (n : Int) : (rf t n).lookup ("_text" : Str) = some (.str t) := by
  unfold rf
  rw [lookup_putF, if_neg tp_, lookup_putF, if_pos rfl]
theorem rf_period (t : Str) (n : Int) : (rf t n).lookup ("_period" : Str) = some (.int n) := by
  unfold rf
  rw [lookup_putF, if_pos rfl]
theorem rf_no (t : Str) (n : Int) {m : Str} (h1 : ¬ m = "_period") (h2 : ¬ m = "_text") : (rf t n).lookup m = none := by
  unfold rf
  rw [lookup_putF, if_neg h1, lookup_putF, if_neg h2] <;> rfl
/-- the ring of the word l stands at r -/
def RingAt (C : Addr) (H : Hp) (r : Addr) (l : List Nat) : Prop := IsW l ∧ ∃ dx, H r = some (.ins C dx (rf (textS l) (perN l)))
theorem RingAt.same {C : Addr} {H H' : Hp} {r : Addr} {l : List Nat} (h : RingAt C H r l) (s : Same H H') : RingAt C H' r l := by
  obtain ⟨W, dx, e⟩ := h
  exact ⟨W, dx, s _ _ e⟩
theorem RingAt.but {C p : Addr} {H H' : Hp} {r : Addr} {l : List Nat} (h : RingAt C H r l) (s : But p H H') (n : r ≠ p) : RingAt C H' r l := by
  obtain ⟨W, dx, e⟩ := h
  exact ⟨W, dx, s _ _ n e⟩
def spIsWord : Sp := fun vs H Q _ => ∃ l : List Nat, vs = [.str (S l)] ∧ IsW l ∧ ∀ H', Same H H' → Q (.bl true) H'
def spTurns : Sp := fun vs H Q _ => ∃ l : List Nat, vs = [.str (S l)] ∧ IsW l ∧ ∀ (a : Addr) (H' : Hp), H a = none → Same H H' → H' a = some (.lst ((turnsS l).map V.str)) → Q (.ref a) H'
def spInit (C : Addr) : Sp := fun vs H Q _ => ∃ (H0 : Hp) (r dx : Addr) (l : List Nat), vs = [.ref r, .str (S l)] ∧ IsW l ∧ Same H0 H ∧ H0 r = none ∧ H r = some (.ins C dx []) ∧ ∀ H' : Hp, Same H0 H' → RingAt C H' r l → Q .non H'
/-- what the top has written of the class -/
structure Txt (K : PySem.W.Frag) (mg : Str → Option Value) (C : Addr) : Prop where
  cl : Cls K C
  nT : NoAttr K C "_text"
  nP : NoAttr K C "_period"
  gC : mg "Ring" = some (.ref C)
  hcl : PySem.W.findIn K (.ref C) "__class__" = some (some (.builtin "object.__class__"))
  hgt : PySem.W.specialIn K (.builtin "object.__class__") "__get__" = some (some (.builtin "getset_descriptor.__get__"))
  htk : PySem.W.takesIn K (.builtin "object.__class__") = some true
  hob : PySem.W.mroIn K C (.type "object") = some true
/-- the built-ins that nobody has put another thing in the place of -/
structure Free (mg : Str → Option Value) : Prop where
  int : mg "int" = none
  len : mg "len" = none
  range : mg "range" = none
  divmod : mg "divmod" = none
  abs : mg "abs" = none
  isi : mg "isinstance" = none
  str : mg "str" = none
  all : mg "all" = none
  min : mg "min" = none
  max : mg "max" = none
  set : mg "set" = none
  bool : mg "bool" = none
theorem ifd {p A B : Prop} [Decidable p] (hp : p) (h : A) : if decide p = true then A else B := by
  rw [if_pos (decide_eq_true hp)]
  exact h
theorem ifn {p A B : Prop} [Decidable p] (hp : ¬ p) (h : B) : if decide p = true then A else B := by
  rw [if_neg (fun q => hp (of_decide_eq_true q))]
  exact h
theorem iteS {p A B : Prop} [Decidable p] (hp : ¬ p) (h : A) : if (!decide p) = true then A else B := by
  rw [decide_eq_false hp]
  exact h
theorem Same.new' {q : Addr} {o : HO} {H H' : Hp} (a : Same H H') (n : H q = none) : Same H (L2.upd H' q o) := fun c u h => by
  rw [upd_ne (ne_of_none h n)]
  exact a c u h
section
variable {P : Program} {w : World} {K : PySem.W.Frag} {mg : Str → Option Value} {base : Heap} {f fD fS fW : Addr} {fd fdD fdS fdW : FuncData}
theorem scIW : FnScope ["value", "sign"] ["value"] (defScope sIsWord) := ⟨rfl, rfl, rfl, by decide +kernel, rfl, by decide +kernel, by decide +kernel⟩
theorem ok_isword (F : Fun K "is_word" "is_word" sIsWord f fd) (Z : Free mg) (t6 : Tok) (g6 : mg "MOST_WORD" = some (.int 600 t6)) : FnOk P w K mg base CX0 1 f fd ["value"] spIsWord := by
  refine F.ok scIW (fun vs H Q E h => ?_) (fun cdv A outer s H vs Q E hr h => ?_)
  · obtain ⟨l, rfl, _⟩ := h
    rfl
  · obtain ⟨l, rfl, W, k⟩ := h
    refine ⟨_, pss_cons (ps_if (PW.pt (pw_or (pt_not (pt_val (pe_callB call_isi (by rfl) Z.isi (by decide +kernel) (pa_cons (pv 0) (pa_cons (pe_bltn (v := .ty "str") (u := .type "str") (by rfl) Z.str (by decide +kernel) rfl) pa_nil)))))
        (pw_or1 (pt_not (pt_chain op_le op_le pe_int (pe_callB call_len_str (by rfl) Z.len PySem.boot_len (pa_cons (pv 0) pa_nil)) (pe_glob (v := .int 600) (by rfl) g6 ⟨_, rfl⟩)))))) (pss_one (ps_never)) pss_nil)
      (pss_one (ps_ret (pe_callB (cr_all rfl) (by rfl) Z.all (by decide +kernel) (pa_cons
        (pe_lc (own := [("sign", 1)]) (g := gName 1) (tt := tYes) rfl scIW.nd (pi_str (pv 0)) (blkOk_by (N := ["value", "sign"]) (sc := defScope sIsWord) (by decide +kernel)) (fun _ _ _ _ _ => pg_name (i := 1) scIW.nd rfl (.inl rfl)) (fun _ _ _ _ _ => pts_nil)
          (fun _ _ _ _ _ => pe_chain op_le_str op_le_str pe_str (pv 1) pe_str)) pa_nil)))), ?_⟩
    have len1 : 1 ≤ ((S l).length : Int) := by rw [S_len]; have := W.pos; omega
    have len2 : ((S l).length : Int) ≤ 600 := by rw [S_len]; have := W.few; omega
    refine ⟨_, rfl, _, _, .type "str", .type "str", true, rfl, .ty "str", .base (.str _), kit_ty (by decide +kernel), true, rfl, ?_⟩
    refine ⟨_, rfl, _, rfl, W.fits, _, _, rfl, rfl, _, rfl, ifd len1 ⟨_, _, rfl, rfl, _, rfl, iteNS len2 ?_⟩⟩
    refine ⟨_, rfl, _, rfl, fun D hD => lc_it walk_str (fun i H3 => H3 D = some (.lst ((List.replicate i true).map V.bl)) ∧ Same H H3) ⟨upd_same, Same.put (Same.refl H) hD⟩ (fun _ _ _ _ => trivial) ?_ ?_⟩
    · rintro i x H3 H3' hi ⟨h1, h2⟩ ⟨rfl, c, hc, rfl⟩
      have mem : c ∈ l := by
        have q := Array.mem_of_getElem? hc
        simpa [S] using q
      have c12 := W.low c mem
      have la : ¬ (([c] : List Nat) < [97]) := by rw [List.cons_lt_cons_iff]; simp; omega
      have lz : ¬ (([122] : List Nat) < [c]) := by rw [List.cons_lt_cons_iff]; simp; omega
      have ea : ("a" : Str).cps.toList = [97] := by decide +kernel
      have ez : ("z" : Str).cps.toList = [122] := by decide +kernel
      refine ⟨rfl, _, rfl, _, _, rfl, rfl, _, rfl, iteS (by rw [ea]; exact la) ⟨_, _, rfl, rfl, ?_⟩⟩
      rw [ez, decide_eq_false (show ¬ (([122] : List Nat) < (⟨#[c]⟩ : Str).cps.toList) from lz)]
      refine ⟨_, h1, ?_, ?_, Same.new' h2 hD⟩
      · rw [List.length_map, List.length_replicate, sizeLine_eq]
        have := W.few
        rw [S_size] at hi
        omega
      · rw [upd_same, List.replicate_succ', List.map_append] <;> rfl
    · rintro H3 ⟨h1, h2⟩
      refine ⟨D, _, rfl, SqL.of h1, ?_⟩
      have e : (List.replicate (S l).cps.size true).all id = true := List.all_eq_true.mpr fun b hb => by rw [List.eq_of_mem_replicate hb] <;> rfl
      show Q (.bl ((List.replicate (S l).cps.size true).all id)) H3
      rw [e]
      exact k H3 h2
theorem scT : FnScope ["word", "place"] ["word"] (defScope sTurns) := ⟨rfl, rfl, rfl, by decide +kernel, rfl, by decide +kernel, by decide +kernel⟩
theorem ok_turns (F : Fun K "_all_turnings" "_all_turnings" sTurns f fd) (Z : Free mg) : FnOk P w K mg base CX0 1 f fd ["word"] spTurns := by
  refine F.ok scT (fun vs H Q E h => ?_) (fun cdv A outer s H vs Q E hr h => ?_)
  · obtain ⟨l, rfl, _⟩ := h
    rfl
  · obtain ⟨l, rfl, W, k⟩ := h
    refine ⟨_, pss_one (ps_ret (pe_lc (own := [("place", 1)]) (g := gName 1) (tt := tYes) rfl scT.nd (pi_range1 rfl Z.range (pa_cons (pe_callB call_len_str (by rfl) Z.len PySem.boot_len (pa_cons (pv 0) pa_nil)) pa_nil))
      (blkOk_by (N := ["word", "place"]) (sc := defScope sTurns) (by decide +kernel)) (fun _ _ _ _ _ => pg_name (i := 1) scT.nd rfl (.inl rfl)) (fun _ _ _ _ _ => pts_nil)
      (fun _ _ _ _ _ => pe_op op_add_str (pe_slice sl_str (pv 0) (po_some (pv 1)) po_none) (pe_slice sl_str (pv 0) po_none (po_some (pv 1)))))), ?_⟩
    have few := W.few
    refine ⟨_, rfl, _, rfl, W.fits, _, rfl, (by rw [S_len]; omega), (by rw [S_len]; omega), fun D hD => lc_it walk_range (fun i H3 => H3 D = some (.lst ((((List.range i).map fun j => S (rot l j))).map V.str)) ∧ Same H H3) ⟨upd_same, Same.put (Same.refl H) hD⟩ (fun _ _ _ _ => trivial) ?_ ?_⟩
    · rintro i x H3 H3' hi ⟨h1, h2⟩ ⟨rfl, rfl⟩
      rw [S_len] at hi
      have hi' : i ≤ l.length := by omega
      have c1 : cutS (S l) (some (0 + (i : Int))) none = S (l.drop i) := by rw [Int.zero_add]; exact cut_from hi'
      have c2 : cutS (S l) none (some (0 + (i : Int))) = S (l.take i) := by rw [Int.zero_add]; exact cut_to hi'
      have s1 := rot_len l i
      unfold rot at s1
      rw [List.length_append] at s1
      refine ⟨rfl, _, rfl, _, rfl, _, rfl, _, rfl, W.fits, _, rfl, _, rfl, _, rfl, _, rfl, W.fits, _, _, rfl, rfl, ?_, _, h1, ?_, ?_, Same.new' h2 hD⟩
      · rw [c1, c2, S_len, S_len, sizeLine_eq]
        omega
      · rw [List.length_map, List.length_map, List.length_range, sizeLine_eq]
        omega
      · rw [upd_same, c1, c2, S_add, List.range_succ, List.map_append, List.map_append] <;> rfl
    · rintro H3 ⟨h1, h2⟩
      refine k D H3 hD h2 ?_
      rw [h1, S_len] <;> rfl
/-- of InvalidWord nothing is asked: the branch is not taken -/
theorem scI : FnScope ["self", "text", "turnings"] ["self", "text"] (defScope sInit) := ⟨rfl, rfl, rfl, by decide +kernel, rfl, by decide +kernel, by decide +kernel⟩
theorem ok_init {C : Addr} (F : Fun K "__init__" "Ring.__init__" sInit f fd) (T : Txt K mg C) (Z : Free mg) (t6 : Tok) (g6 : mg "MOST_WORD" = some (.int 600 t6)) (DW : Def K mg "is_word" sIsWord ["value"] fW fdW) (DT : Def K mg "_all_turnings" sTurns ["word"] fS fdS) :
    FnOk P w K mg base CX0 2 f fd ["self", "text"] (spInit C) := by
  have GW : FnOk P w K mg base CX0 1 fW fdW ["value"] spIsWord := ok_isword DW.F Z t6 g6
  have GT : FnOk P w K mg base CX0 1 fS fdS ["word"] spTurns := ok_turns DT.F Z
  refine F.ok scI (fun vs H Q E h => ?_) (fun cdv A outer s H vs Q E hr h => ?_)
  · obtain ⟨H0, r, dx, l, rfl, _⟩ := h
    rfl
  · obtain ⟨H0, r, dx, l, rfl, W, s0, r0, hp, k⟩ := h
    refine ⟨_, pss_cons (ps_if (pt_not (pt_val (pe_call GW hr rfl DW.g DW.kp DW.b .nil pass0 (pa_cons (pv 1) pa_nil)))) (pss_one ps_never) pss_nil)
      (pss_cons (ps_set (i := 2) scI.nd rfl (.inl rfl) (pe_call GT hr rfl DT.g DT.kp DT.b .nil pass0 (pa_cons (pv 1) pa_nil)))
      (pss_cons (ps_fld (pv 0) (pe_callB (cr_minS hr rfl) (by rfl) Z.min (by decide +kernel) (pa_cons (pv 2) pa_nil)) rfl)
      (pss_one (ps_fld (pv 0) (WbSet.pe_lenSet rfl (by rfl) Z.len (by rfl) Z.set (pv 2)) rfl)))), ?_⟩
    refine ⟨_, rfl, l, rfl, W, fun H1 s1 => ⟨true, rfl, _, rfl, l, rfl, W, fun a H2 a0 s2 h2 => ?_⟩⟩
    obtain ⟨x, xs, e1, e2⟩ := least_cons (xs := turnsS l) (by rw [turns_len]; exact W.pos)
    have hr2 : H2 r = some (.ins C dx []) := s2 _ _ (s1 _ _ hp)
    have nra : a ≠ r := ne_of h2 hr2 (by intro z; cases z)
    refine ⟨_, rfl, a, x, xs, rfl, SqL.of (by rw [h2, e1]), _, rfl, r, C, dx, _, rfl, hr2, T.cl, T.nT, (by show 0 < 1000; decide), ?_⟩
    refine ⟨_, rfl, a, turnsS l, rfl, SqL.of (by rw [upd_ne nra]; exact h2), (by rw [turns_len]; have := W.few; omega), _, rfl, r, C, dx, _, rfl, upd_same, T.cl, T.nP, (by show 1 < 1000; decide), ?_⟩
    refine k _ ?_ ⟨W, dx, ?_⟩
    · exact Same.new' (Same.new' ((s0.trans s1).trans s2) r0) r0
    · rw [upd_same]
      unfold rf textS perN
      rw [e2]
end
end Wb
/-! the mathematics of turnings: the least one, the number of different ones -/
namespace Wb
open PySem L2 WbMin
/-! ### lists without doubles -/
theorem few_of_sub {α : Type} [DecidableEq α] : ∀ (l xs : List α), xs.Nodup → (∀ x ∈ xs, x ∈ l) → xs.length ≤ l.length
  | [], xs, _, h => by
    cases xs with
    | nil => exact Nat.le_refl _
    | cons x r => exact absurd (h x List.mem_cons_self) (List.not_mem_nil)
  | a :: l, xs, nd, h => by
    have e : (xs.filter fun c => !decide (c = a)).length ≤ l.length := few_of_sub l _ (nd.filter _) fun x hx => by
      obtain ⟨h1, h2⟩ := List.mem_filter.mp hx
      rcases List.mem_cons.mp (h x h1) with q | q
      · simp [q] at h2
      · exact q
    have d : xs.length ≤ (xs.filter fun c => !decide (c = a)).length + 1 := by
      clear e h
      induction xs with
      | nil => exact Nat.zero_le _
      | cons y r ih =>
        obtain ⟨n1, n2⟩ := List.nodup_cons.mp nd
        by_cases q : y = a
        · have e1 : (r.filter fun c => !decide (c = a)) = r := List.filter_eq_self.mpr fun c hc => by
            have : c ≠ a := fun z => n1 (q ▸ z ▸ hc)
            simp [this]
          rw [List.filter_cons_of_neg (by simp [q]), e1] <;> exact Nat.le_refl _
        · rw [List.filter_cons_of_pos (by simp [q])]
          have := ih n2
          simp only [List.length_cons]
          omega
    simp only [List.length_cons]
    omega
theorem same_count {α : Type} [DecidableEq α] {xs ys : List α} (nx : xs.Nodup) (ny : ys.Nodup) (h : ∀ x, x ∈ xs ↔ x ∈ ys) : xs.length = ys.length :=
  Nat.le_antisymm (few_of_sub ys xs nx fun x q => (h x).mp q) (few_of_sub xs ys ny fun x q => (h x).mpr q)
theorem fold_mem (x : Str) : ∀ (xs acc : List Str), x ∈ xs.foldl WbSet.addNew acc ↔ x ∈ acc ∨ x ∈ xs
  | [], acc => by simp
  | y :: r, acc => by
    rw [List.foldl_cons, fold_mem x r, WbSet.addNew_mem, List.mem_cons, or_assoc]
theorem fold_nodup : ∀ (xs acc : List Str), acc.Nodup → (xs.foldl WbSet.addNew acc).Nodup
  | [], _, h => h
  | y :: r, acc, h => fold_nodup r _ (by
    unfold WbSet.addNew
    by_cases q : y ∈ acc
    · rw [if_pos q] <;> exact h
    · rw [if_neg q, List.nodup_append]
      exact ⟨h, by simp, fun a ha b hb e => q (by rw [← List.mem_singleton.mp hb, ← e]; exact ha)⟩)
theorem differ_mem (x : Str) (xs : List Str) : x ∈ WbSet.differ xs ↔ x ∈ xs := by
  unfold WbSet.differ
  rw [fold_mem]
  simp
theorem differ_nodup (xs : List Str) : (WbSet.differ xs).Nodup := fold_nodup xs [] List.nodup_nil
theorem differ_same {xs ys : List Str} (h : ∀ x, x ∈ xs ↔ x ∈ ys) : (WbSet.differ xs).length = (WbSet.differ ys).length :=
  same_count (differ_nodup xs) (differ_nodup ys) fun x => by rw [differ_mem, differ_mem, h]
/-! ### the least text -/
theorem min_mem : ∀ (xs : List Str) (x : Str), minS x xs ∈ x :: xs
  | [], x => List.mem_cons_self
  | y :: r, x => by
    show minS (if y.cps.toList < x.cps.toList then y else x) r ∈ x :: y :: r
    split
    · exact List.mem_cons_of_mem _ (min_mem r y)
    · rcases List.mem_cons.mp (min_mem r x) with q | q
      · rw [q] <;> exact List.mem_cons_self
      · exact List.mem_cons_of_mem _ (List.mem_cons_of_mem _ q)
theorem not_lt_trans {a b c : List Nat} (h1 : ¬ b < a) (h2 : ¬ c < b) : ¬ c < a := fun q => by
  have h1' : a ≤ b := h1
  have h2' : b ≤ c := h2
  exact List.le_trans h1' h2' q
theorem min_le : ∀ (xs : List Str) (x y : Str), y ∈ x :: xs → ¬ y.cps.toList < (minS x xs).cps.toList
  | [], x, y, h => by
    rw [List.mem_singleton.mp h]
    exact List.lt_irrefl _
  | z :: r, x, y, h => by
    show ¬ y.cps.toList < (minS (if z.cps.toList < x.cps.toList then z else x) r).cps.toList
    by_cases q : z.cps.toList < x.cps.toList
    · rw [if_pos q]
      rcases List.mem_cons.mp h with e | e
      · subst e
        have h1 := min_le r z z List.mem_cons_self
        exact not_lt_trans h1 (fun w => List.lt_asymm w q)
      · exact min_le r z y e
    · rw [if_neg q]
      rcases List.mem_cons.mp h with e | e
      · subst e
        exact min_le r y y List.mem_cons_self
      · rcases List.mem_cons.mp e with e | e
        · subst e
          exact not_lt_trans (min_le r x x List.mem_cons_self) q
        · exact min_le r x y (List.mem_cons_of_mem _ e)
theorem least_mem {xs : List Str} (h : 0 < xs.length) : leastOf xs ∈ xs := by
  obtain ⟨x, r, e, q⟩ := least_cons h
  rw [q, e]
  exact min_mem r x
theorem least_le {xs : List Str} {y : Str} (h : y ∈ xs) : ¬ y.cps.toList < (leastOf xs).cps.toList := by
  cases xs with
  | nil => exact absurd h List.not_mem_nil
  | cons x r => exact min_le r x y h
theorem least_same {xs ys : List Str} (h0 : 0 < xs.length) (h1 : 0 < ys.length) (h : ∀ x, x ∈ xs ↔ x ∈ ys) : leastOf xs = leastOf ys := by
  have a := least_le ((h _).mpr (least_mem h1))
  have b := least_le ((h _).mp (least_mem h0))
  have e : (leastOf xs).cps.toList = (leastOf ys).cps.toList := List.le_antisymm a b
  rw [← S_of (leastOf xs), e, S_of]
/-! ### turnings -/
theorem rot_get {l : List Nat} {i j : Nat} (hi : i ≤ l.length) (hj : j < l.length) : (rot l i)[j]? = l[(i + j) % l.length]? := by
  unfold rot
  by_cases h : j < l.length - i
  · rw [List.getElem?_append_left (by rw [List.length_drop]; exact h), List.getElem?_drop, Nat.mod_eq_of_lt (by omega)]
  · have e : (i + j) % l.length = i + j - l.length := by
      rw [Nat.mod_eq_sub_mod (by omega), Nat.mod_eq_of_lt (by omega)]
    rw [List.getElem?_append_right (by rw [List.length_drop]; omega), List.length_drop, e, List.getElem?_take, if_pos (by omega)]
    congr 1
    omega
theorem rot_rot {l : List Nat} {i j : Nat} (hi : i ≤ l.length) (hj : j ≤ l.length) (h0 : 0 < l.length) : rot (rot l i) j = rot l ((i + j) % l.length) := by
  refine List.ext_getElem? fun k => ?_
  by_cases hk : k < l.length
  · rw [rot_get (by rw [rot_len]; exact hj) (by rw [rot_len]; exact hk), rot_len, rot_get hi (Nat.mod_lt _ h0), rot_get (Nat.le_of_lt (Nat.mod_lt _ h0)) hk]
    congr 1
    rw [Nat.add_mod_mod, Nat.mod_add_mod, Nat.add_assoc]
  · rw [List.getElem?_eq_none (by rw [rot_len, rot_len]; omega), List.getElem?_eq_none (by rw [rot_len]; omega)]
theorem rot_zero (l : List Nat) : rot l 0 = l := by simp [rot]
theorem rot_full (l : List Nat) : rot l l.length = l := by simp [rot]
theorem turns_mem {l : List Nat} {z : Str} : z ∈ turnsS l ↔ ∃ i, i < l.length ∧ z = S (rot l i) := by
  unfold turnsS
  rw [List.mem_map]
  constructor
  · rintro ⟨i, h, e⟩
    exact ⟨i, List.mem_range.mp h, e.symm⟩
  · rintro ⟨i, h, e⟩
    exact ⟨i, List.mem_range.mpr h, e.symm⟩
theorem S_inj {l m : List Nat} (h : S l = S m) : l = m := by rw [← S_cps l, h, S_cps]
theorem turns_rot {l : List Nat} {i : Nat} (h0 : 0 < l.length) (hi : i ≤ l.length) (z : Str) : z ∈ turnsS (rot l i) ↔ z ∈ turnsS l := by
  rw [turns_mem, turns_mem, rot_len]
  constructor
  · rintro ⟨j, hj, e⟩
    exact ⟨(i + j) % l.length, Nat.mod_lt _ h0, by rw [e, rot_rot hi (Nat.le_of_lt hj) h0]⟩
  · rintro ⟨j, hj, e⟩
    refine ⟨(l.length - i + j) % l.length, Nat.mod_lt _ h0, ?_⟩
    rw [e, rot_rot hi (Nat.le_of_lt (Nat.mod_lt _ h0)) h0, Nat.add_mod_mod, show i + (l.length - i + j) = l.length + j by omega, Nat.add_mod_left, Nat.mod_eq_of_lt hj]
theorem text_rot {l : List Nat} {i : Nat} (h0 : 0 < l.length) (hi : i ≤ l.length) : textS (rot l i) = textS l :=
  least_same (by rw [turns_len, rot_len]; exact h0) (by rw [turns_len]; exact h0) (turns_rot h0 hi)
theorem per_rot {l : List Nat} {i : Nat} (h0 : 0 < l.length) (hi : i ≤ l.length) : perN (rot l i) = perN l := differ_same (turns_rot h0 hi)
/-- the text of a ring is one of its turnings -/
theorem text_is {l : List Nat} (h0 : 0 < l.length) : ∃ i, i < l.length ∧ textS l = S (rot l i) := turns_mem.mp (least_mem (by rw [turns_len]; exact h0))
theorem text_len {l : List Nat} (h0 : 0 < l.length) : (textS l).length = l.length := by
  obtain ⟨i, _, e⟩ := text_is h0
  rw [e, S_len, rot_len]
theorem IsW.rot {l : List Nat} (W : IsW l) (i : Nat) : IsW (Wb.rot l i) := by
  refine ⟨fun c hc => W.low c ?_, by rw [rot_len]; exact W.pos, by rw [rot_len]; exact W.few⟩
  unfold Wb.rot at hc
  rcases List.mem_append.mp hc with q | q
  · exact List.mem_of_mem_drop q
  · exact List.mem_of_mem_take q
/-! ### the number of different turnings -/
theorem least_nat {Q : Nat → Prop} : ∀ n, Q n → ∃ p, p ≤ n ∧ Q p ∧ ∀ k, k < p → ¬ Q k := fun n => by
  induction n using Nat.strongRecOn with
  | ind n ih =>
    intro h
    by_cases e : ∃ k, k < n ∧ Q k
    · obtain ⟨k, h1, h2⟩ := e
      obtain ⟨p, p1, p2, p3⟩ := ih k h1 h2
      exact ⟨p, by omega, p2, p3⟩
    · exact ⟨n, Nat.le_refl _, h, fun k hk q => e ⟨k, hk, q⟩⟩
theorem shift {l : List Nat} {i j : Nat} (h0 : 0 < l.length) (hij : i < j) (hj : j < l.length) (e : rot l i = rot l j) : rot l (j - i) = l := by
  have h1 := rot_rot (l := l) (i := i) (j := l.length - i) (by omega) (by omega) h0
  have h2 := rot_rot (l := l) (i := j) (j := l.length - i) (by omega) (by omega) h0
  rw [show i + (l.length - i) = l.length by omega, Nat.mod_self, rot_zero] at h1
  rw [show j + (l.length - i) = (j - i) + l.length by omega, Nat.add_mod_right, Nat.mod_eq_of_lt (by omega)] at h2
  rw [← h2, ← e, h1]
theorem back {l : List Nat} {p : Nat} (h0 : 0 < l.length) (hp : 0 < p) (hpn : p ≤ l.length) (e : rot l p = l) : ∀ i, i < l.length → rot l i = rot l (i % p) := fun i => by
  induction i using Nat.strongRecOn with
  | ind i ih =>
    intro hi
    by_cases q : i < p
    · rw [Nat.mod_eq_of_lt q]
    · have h1 := rot_rot (l := l) (i := p) (j := i - p) hpn (by omega) h0
      rw [e, show p + (i - p) = i by omega, Nat.mod_eq_of_lt hi] at h1
      rw [← h1, ih (i - p) (by omega) (by omega), ← Nat.mod_eq_sub_mod (by omega)]
theorem per_is {l : List Nat} (h0 : 0 < l.length) : 0 < perN l ∧ perN l ≤ l.length ∧ rot l (perN l) = l ∧ ∀ k, 0 < k → k < perN l → rot l k ≠ l := by
  obtain ⟨p, p1, ⟨p2, p3⟩, p4⟩ := least_nat (Q := fun k => 0 < k ∧ rot l k = l) l.length ⟨h0, rot_full l⟩
  have nd : ((List.range p).map fun i => S (rot l i)).Nodup := by
    unfold List.Nodup
    rw [List.pairwise_map]
    refine List.Pairwise.imp_of_mem (fun {a b} ha hb lt q => ?_) List.pairwise_lt_range
    have hb' := List.mem_range.mp hb
    exact p4 (b - a) (by omega) ⟨by omega, shift h0 lt (by omega) (S_inj q)⟩
  have sm : ∀ z, z ∈ WbSet.differ (turnsS l) ↔ z ∈ (List.range p).map fun i => S (rot l i) := fun z => by
    rw [differ_mem, turns_mem, List.mem_map]
    constructor
    · rintro ⟨i, hi, e⟩
      exact ⟨i % p, List.mem_range.mpr (Nat.mod_lt _ p2), by rw [e, ← back h0 p2 p1 p3 i hi]⟩
    · rintro ⟨i, hi, e⟩
      exact ⟨i, by have := List.mem_range.mp hi; omega, e.symm⟩
  have e : perN l = p := by
    have q := same_count (differ_nodup (turnsS l)) nd sm
    rw [List.length_map, List.length_range] at q
    exact q
  rw [e]
  exact ⟨p2, p1, p3, fun k h1 h2 q => p4 k h2 ⟨h1, q⟩⟩
/-- going on from the place that the period leads to -/
theorem per_home {l : List Nat} (h0 : 0 < l.length) : rot l (perN l % l.length) = l := by
  obtain ⟨_, h2, h3, _⟩ := per_is h0
  by_cases q : perN l = l.length
  · rw [q, Nat.mod_self, rot_zero]
  · rw [Nat.mod_eq_of_lt (by omega), h3]
end Wb
/-! what an own class's special methods are worth: len(o), bool(o), str(o), o == p, o != p, o an instance of a class of the program's own -/
namespace WbO
open PySem PySem.W PySem.Spec PyProof.Rows
section
variable {prog : Program} {w : World} {A : Around} {E : Value → Shared → Prop} {s : Shared} {K : Frag} {x C f : Addr} {ox : Obj} {od : Option Obj}
/-- the truth of an object that has a __len__ and no __bool__ -/
theorem truthy_len {Q : Bool → Shared → Prop} (X : K.In s.heap) (I : InstAt s.heap x ox C od) (nb : findIn K (.ref C) "__bool__" = some none) (hs : findIn K (.ref C) "__len__" = some (some (.ref f))) (hf : isFn K (.ref f) = true)
    (h : wpAny (model prog w) A.in1 (call (.ref f) [.ref x]) (W.LenBack fun v s' => ∃ n t, v = .int n t ∧ Q (n != 0) s') E s) : wpAny (model prog w) A (truthy (.ref x)) Q E s := by
  unfold truthy
  refine wpAny_bind (m := callSpecial? (.ref x) (Str.ofString "__bool__")) (wpAny_bind (wpAny_bind (I.type.here ((looks_findIn X nb).here (wpAny_pure ?_)))))
  refine wpAny_bind (wpAny_bind (I.type.here ((looks_findIn X hs).here ?_)))
  show wpAny _ _ (if (some (Value.ref f)).isNone = true then _ else _) _ _ _ ; rw [if_neg (by simp)]
  refine wpAny_bind (wpAny_mono (Q := fun v s' => ∃ n t, v = .int n t ∧ Q (n != 0) s') (wpAny_runValue (codeAny_builtin entry_len ?_)) (fun v s' q => ?_) fun _ _ e => e)
  · rw [Around.under_plainId plain_len _]
    unfold Builtin.«len»
    refine wpAny_bind (m := oneArg "len" _) (wpAny_pure (wpAny_bind (m := callSpecial? (.ref x) (Str.ofString "__len__")) (special_fn X I hs (beq_iff_eq.mp hf) (wpAny_mono h (fun r s' hr => ?_) fun _ _ y => y))))
    cases r <;> first | exact hr.elim | skip
    rename_i n u
    obtain ⟨⟨h0, h1⟩, hq⟩ := hr
    refine wpAny_bind (wpAny_holding (wpAny_pure (wpAny_bind (wpAny_letGo ?_))))
    show wpAny _ _ (if n < 0 then _ else _) _ _ _ ; rw [if_neg (by omega)] ; show wpAny _ _ (if n ≥ 2 ^ 63 then _ else _) _ _ _ ; rw [if_neg (by omega)]
    exact wpAny_bind (wpAny_mkInt (wpAny_pure hq))
  · obtain ⟨n, t, rfl, q⟩ := q
    exact wpAny_pure q
/-- bool(o) by its truth -/
theorem call_bool {Q : Value → Shared → Prop} (h : wpAny (model prog w) A.in1.in1 (truthy (.ref x)) (fun b s' => Q (.bool b) s') E s) : wpAny (model prog w) A (call (.type "bool") [.ref x]) Q E s := by
  refine callType_codes (T := "bool") (Bi := Builtin.«object.__init__») (Q₁ := fun r s1 => ∃ b, r = .bool b ∧ Q r s1) F.called_bool (F.typeCall_bool_1 _) PySem.F.entry_object_init ?_ ?_
  · refine codeAny_of_tree ?_
    show wpAny _ A.in1.in1 (do checkBuiltinCall "bool.__new__" ⟨[.type "bool", .ref x], []⟩; again (.builtin "bool.__new__" ⟨[.type "bool", .ref x], []⟩)) _ _ s
    refine wpAny_bind (wpAny_of_eq (F.newCall_bool_1 _) (wpAny_pure ⟨plainId_quiet (by decide +kernel) _, codeAny_builtin F.entry_bool_new ?_⟩))
    rw [Around.under_plainId (by decide +kernel) _]
    unfold Builtin.«bool.__new__»
    obtain ⟨hp, g, d, tk, os⟩ := s
    have f1 := F.conv_sub_bool
    repeat (any_goals (first | assumption | (with_reducible refine wpAny_bind (m := truthy (.ref x)) (wpAny_mono h (fun b s1 q => ?_) fun _ _ e => e)) | wp_step))
    exact ⟨b, rfl, q⟩
  · rintro obj s1 ⟨b, rfl, q⟩
    exact ⟨PySem.typeIs_bool _ _, PySem.F.args_object_init_2 _ _, object_init_meets F.called_bool.init.lookup F.called_bool.made (by decide) prog w A.in1 _ s1 ⟨PySem.typeIs_bool _ _, rfl, q⟩⟩
/-- the body of object.__ne__ at an object with an own __eq__ -/
theorem body_ne {b : Value} {Q : PySem.Fin → Shared → Prop} (hu : A.units < cLine) (X : K.In s.heap) (I : InstAt s.heap x ox C od) (hs : findIn K (.ref C) "__eq__" = some (some (.ref f))) (hf : isFn K (.ref f) = true)
    (h : wpAny (model prog w) A (call (.ref f) [.ref x, b]) (fun v s' => ∃ c, v = .bool c ∧ Q (.done (.ret (.bool (!c)))) s') E s) : wpAny (model prog w) A (Builtin.«object.__ne__» ⟨[.ref x, b], []⟩) Q E s := by
  have go : wpAny (model prog w) A (callSpecialIfBound? (.ref x) (Str.ofString "__eq__") [b]) (fun r s' => ∃ c, r = some (.bool c) ∧ Q (.done (.ret (.bool (!c)))) s') E s :=
    ifBound_K X I hs hf (wpAny_mono h (fun v s' q => by obtain ⟨c, rfl, q⟩ := q; exact ⟨c, rfl, q⟩) fun _ _ e => e)
  unfold Builtin.«object.__ne__»
  obtain ⟨hp, g, d, tk, os⟩ := s
  repeat (first | with_reducible refine wpAny_cRoomFor hu ?_ | (with_reducible refine wpAny_bind (m := callSpecialIfBound? (.ref x) (Str.ofString "__eq__") [b]) (wpAny_mono go (fun r s' q => ?_) fun _ _ e => e)) | wp_step)
  obtain ⟨c, rfl, q⟩ := q
  show wpAny _ _ (truthy (.bool c) >>= fun z => ret (.bool !z)) _ _ _
  exact wpAny_bind (wpAny_truthy_bool (wpAny_pure q))
/-- a special method that is a built-in -/
theorem bound_builtin {M : Model} {id : String} {name : Str} {args : List Value} {Q : Option Value → Shared → Prop} (X : K.In s.heap) (I : InstAt s.heap x ox C od) (hs : findIn K (.ref C) name = some (some (.builtin id))) (hb : ∀ self, bindSpecial (.builtin id) self = pure (.builtin id, [self]))
    (h : wpAny M A (call (.builtin id) (.ref x :: args)) (fun v => Q (some v)) E s) : wpAny M A (callSpecialIfBound? (.ref x) name args) Q E s := by
  have last : wpAny M A (call (.builtin id) ([.ref x] ++ args) >>= fun v => pure (some v)) Q E s := wpAny_bind (wpAny_mono h (fun v s1 q => wpAny_pure q) fun _ _ q => q)
  simp only [callSpecialIfBound?, bindSpecialIfBound?]
  refine wpAny_holding (wpAny_bind (wpAny_bind (wpAny_bind (I.type.here ((looks_findIn X hs).here (wpAny_bind (wpAny_askSetting (wpAny_ite ?_))))))))
  split
  · exact wpAny_bind ((Looks.of_pure (hb _)).here (wpAny_pure (by exact last)))
  · exact wpAny_tryCatch (wpAny_bind ((Looks.of_pure (hb _)).here (wpAny_pure (by exact last))))
/-- o != p by o's own __eq__ -/
theorem ne_own {b tb : Value} {Q : Value → Shared → Prop} (hu : A.units + 1 < cLine) (X : K.In s.heap) (I : InstAt s.heap x ox C od) (hb : Looks (model prog w) s.heap (typeOf b) tb) (nf : notFirst K C tb = true)
    (hn : findIn K (.ref C) "__ne__" = some (some (.builtin "object.__ne__"))) (hm : mroIn K C (.type "object") = some true) (hs : findIn K (.ref C) "__eq__" = some (some (.ref f))) (hf : isFn K (.ref f) = true)
    (h : wpAny (model prog w) A.in1 (call (.ref f) [.ref x, b]) (fun v s' => ∃ c, v = .bool c ∧ Q (.bool (!c)) s') E s) : wpAny (model prog w) A (richCompare .NotEq (.ref x) b) Q E s := by
  have one : wpAny (model prog w) A (tryCompare (.ref x) (cmpInfo .NotEq).2.1 b) (fun r s1 => ∃ v, r = some v ∧ Q v s1) E s := by
    unfold tryCompare
    refine wpAny_bind (bound_builtin X I hn PySem.F.cmp_object.ne.bind ?_)
    refine wpAny_call (codeAny_call_builtin PySem.F.cmp_object.ne.plain PySem.F.cmpEntry_ne (check_slot (i := "object.__ne__") (owner := "object") (n := "__ne__") (by decide +kernel) (by decide +kernel) (I.type.andThen (looks_mroIn X hm)) (PySem.F.cmpArgs_ne _ _) ?_))
    refine body_ne (by show A.units + 1 < cLine; exact hu) X I hs hf (wpAny_mono h (fun v s1 q => ?_) fun _ _ e => e)
    obtain ⟨c, rfl, q⟩ := q
    exact ⟨c, rfl, wpAny_pure ⟨_, rfl, q⟩⟩
  unfold richCompare ; simp only [oneThing_ref]
  refine wpAny_holding (wpAny_bind (wpAny_cRoomFor (Nat.lt_of_succ_lt hu) (wpAny_bind (I.type.here (wpAny_bind (hb.here ?_))))))
  split
  · rename_i q
    have e : subIn K tb (.ref C) = some false := by
      rcases Bool.or_eq_true_iff.mp nf with e | e
      · rw [beq_iff_eq.mp e] at q ; simp at q
      · exact beq_iff_eq.mp e
    refine wpAny_bind ((looks_subIn X e).here ?_) ; simp only [Bool.false_eq_true, if_false]
    exact wpAny_bind (wpAny_mono one (fun r s1 z => by obtain ⟨v, rfl, hq⟩ := z; exact wpAny_pure hq) fun _ _ e => e)
  · refine wpAny_bind (wpAny_pure ?_) ; simp only [Bool.false_eq_true, if_false]
    exact wpAny_bind (wpAny_mono one (fun r s1 z => by obtain ⟨v, rfl, hq⟩ := z; exact wpAny_pure hq) fun _ _ e => e)
end
end WbO
namespace WbO
open PySem PySem.Spec PyProof.Rows L2
section
variable {X : Cx} {CX : CXT} {k : Nat} {C g : Addr} {fd : FuncData} {ps : List Str} {sp : Sp} {E : XK}
/-- a def called at values, anywhere deeper -/
theorem run_at {pins : List (Addr × Obj)} {σ : L2.St} {H : Hp} {s : Shared} {Q : VK} {vs : List V} {us : List Value} {A' : Around} {E' : Value → Shared → Prop} (F : FnOk X.prog X.w X.K X.mg X.base CX k g fd ps sp) (hr : Room k A') (e0 : Env0 X.prog X.w X.K X.mg X.base A' X.stack s H)
    (hb : Binds X.K fd ps []) (hx : Passes CX X.nox E) (I : Inv X pins σ H s) (r : Vals vs us) (h : sp vs H Q E) : wpAny (model X.prog X.w) A' (call (.ref g) us) (EP X pins σ Q) E' s := by
  have hl : (us ++ ([] : List Value)).length = ps.length := by rw [List.append_nil, ← r.length]; exact F.len _ _ _ _ h
  have hB := hb s us I.kIn hl
  rw [List.append_nil] at hB
  refine wpAny_call (codeAny_mono (F.run A' X.stack s H ⟨us, []⟩ us vs Q E hr e0 hB r h) fun r s' hq => ?_)
  cases r with
  | error er => exact (hx pins σ H s er s' (I.wish _) hq).elim
  | ok fl =>
    cases fl with
    | ret u => exact I.after hq
    | next => exact hq.elim
    | brk => exact hq.elim
    | cont => exact hq.elim
/-- len(o) -/
def rLenO (C : Addr) (sp : Sp) (E : XK) : List V → Hp → VK → Prop := fun xs H Q => ∃ (a dx : Addr) (fs : List (Str × V)), xs = [.ref a] ∧ H a = some (.ins C dx fs) ∧ sp [.ref a] H (fun v H' => ∃ n : Int, v = .int n ∧ 0 ≤ n ∧ n < 2 ^ 63 ∧ Q v H') E
theorem call_lenO (M : Meth X.K C "__len__" g) (F : FnOk X.prog X.w X.K X.mg X.base CX k g fd ps sp) (hr : Room (k + 1) X.A) (hb : Binds X.K fd ps []) (hx : Passes CX X.nox E) : CallR X (.builtin "len") (rLenO C sp E) := by
  intro pins s σ H xs us Q I r h
  obtain ⟨a, dx, fs, rfl, ha, q⟩ := h
  rw [Vals.ref1 r]
  obtain ⟨mA, O, _⟩ := ins_get I.hok ha
  obtain ⟨od, J, _⟩ := O.look
  obtain ⟨m, hF⟩ := I.fr
  refine PySem.W.len_K hF I.ok.mod.kin J M.at_ M.fn (wpAny_mono (run_at (vs := [.ref a]) (us := [.ref a]) F hr.in1 I.env0.in1 hb hx I (.cons rfl .nil) q) (fun v s' z => ?_) fun _ _ e => e)
  obtain ⟨y, H', I', ry, n, rfl, n0, n1, qq⟩ := z
  obtain ⟨t, rfl⟩ := ry
  exact ⟨⟨n0, n1⟩, .int n, H', I'.tok _, ⟨_, rfl⟩, qq⟩
/-- bool(o), by its __len__ -/
def rBoolO (C : Addr) (sp : Sp) (E : XK) : List V → Hp → VK → Prop := fun xs H Q => ∃ (a dx : Addr) (fs : List (Str × V)), xs = [.ref a] ∧ H a = some (.ins C dx fs) ∧ sp [.ref a] H (fun v H' => ∃ n : Int, v = .int n ∧ 0 ≤ n ∧ n < 2 ^ 63 ∧ Q (.bl (n != 0)) H') E
theorem call_boolO (nb : PySem.W.findIn X.K (.ref C) "__bool__" = some none) (M : Meth X.K C "__len__" g) (F : FnOk X.prog X.w X.K X.mg X.base CX k g fd ps sp) (hr : Room (k + 3) X.A) (hb : Binds X.K fd ps []) (hx : Passes CX X.nox E) : CallR X (.type "bool") (rBoolO C sp E) := by
  intro pins s σ H xs us Q I r h
  obtain ⟨a, dx, fs, rfl, ha, q⟩ := h
  rw [Vals.ref1 r]
  obtain ⟨mA, O, _⟩ := ins_get I.hok ha
  obtain ⟨od, J, _⟩ := O.look
  refine call_bool (truthy_len I.kIn J nb M.at_ M.fn (wpAny_mono (run_at (vs := [.ref a]) (us := [.ref a]) F hr.in1.in1.in1 I.env0.in1.in1.in1 hb hx I (.cons rfl .nil) q) (fun v s' z => ?_) fun _ _ e => e))
  obtain ⟨y, H', I', ry, n, rfl, n0, n1, qq⟩ := z
  obtain ⟨t, rfl⟩ := ry
  exact ⟨⟨n0, n1⟩, n, _, rfl, .bl (n != 0), H', I'.tok _, rfl, qq⟩
/-- str(o) -/
def rStrO (C : Addr) (sp : Sp) (E : XK) : List V → Hp → VK → Prop := fun xs H Q => ∃ (a dx : Addr) (fs : List (Str × V)), xs = [.ref a] ∧ H a = some (.ins C dx fs) ∧ sp [.ref a] H (fun v H' => ∃ z : Str, v = .str z ∧ Q v H') E
theorem call_strO (M : Meth X.K C "__str__" g) (F : FnOk X.prog X.w X.K X.mg X.base CX k g fd ps sp) (hr : Room (k + 2) X.A) (hb : Binds X.K fd ps []) (hx : Passes CX X.nox E) : CallR X (.type "str") (rStrO C sp E) := by
  intro pins s σ H xs us Q I r h
  obtain ⟨a, dx, fs, rfl, ha, q⟩ := h
  rw [Vals.ref1 r]
  obtain ⟨mA, O, _⟩ := ins_get I.hok ha
  obtain ⟨od, J, _⟩ := O.look
  refine PySem.W.kso_call hr.in1.in1.units0 I.kIn J M.at_ M.fn (wpAny_mono (run_at (vs := [.ref a]) (us := [.ref a]) F hr.in1.in1 I.env0.in1.in1 hb hx I (.cons rfl .nil) q) (fun v s' z => ?_) fun _ _ e => e)
  obtain ⟨y, H', I', ry, zz, rfl, qq⟩ := z
  obtain ⟨t, rfl⟩ := ry
  exact ⟨.str zz, H', I', ⟨_, rfl⟩, qq⟩
/-- o == p, o an instance of the class at C, p anything that has a type -/
def rEqO (K : PySem.W.Frag) (C : Addr) (sp : Sp) (E : XK) : R2 := fun x y H Q => ∃ (a dx b dy : Addr) (fs gs : List (Str × V)), x = .ref a ∧ y = .ref b ∧ H a = some (.ins C dx fs) ∧ H b = some (.ins C dy gs) ∧ sp [.ref a, .ref b] H Q E
theorem op_eqO (hs : PySem.W.findIn X.K (.ref C) "__eq__" = some (some (.ref g))) (hf : PySem.W.isFn X.K (.ref g) = true) (nf : PySem.W.notFirst X.K C (.ref C) = true) (F : FnOk X.prog X.w X.K X.mg X.base CX k g fd ps sp) (hr : Room k X.A) (hb : Binds X.K fd ps []) (hx : Passes CX X.nox E) : OpR X (compareOp .Eq) (rEqO X.K C sp E) := by
  intro pins s σ H x y v u Q I rx ry h
  obtain ⟨a, dx, b, dy, fs, gs, rfl, rfl, ha, hb', q⟩ := h
  cases (show v = Value.ref a from rx)
  cases (show u = Value.ref b from ry)
  obtain ⟨mA, O, _⟩ := ins_get I.hok ha
  obtain ⟨od, J, _⟩ := O.look
  obtain ⟨mB, O', _⟩ := ins_get I.hok hb'
  obtain ⟨od', J', _⟩ := O'.look
  obtain ⟨m, hF⟩ := I.fr
  show wpAny (model X.prog X.w) X.A (richCompare .Eq (.ref a) (.ref b)) _ _ s
  refine PySem.W.cmp_K (op := .Eq) (tb := .ref C) hr.units0 hF I.ok.mod.kin J J'.type nf hs hf (wpAny_mono (run_at (vs := [.ref a, .ref b]) (us := [.ref a, .ref b]) F hr I.env0 hb hx I (.cons rfl (.cons rfl .nil)) q) (fun w s' z => ?_) fun _ _ x => x)
  obtain ⟨z', H', I', rz, qz⟩ := z
  exact SlX.cmpback rz ⟨z', H', I', rz, qz⟩
/-- o != p, the same -/
def rNeO (C : Addr) (sp : Sp) (E : XK) : R2 := fun x y H Q => ∃ (a dx b dy : Addr) (fs gs : List (Str × V)), x = .ref a ∧ y = .ref b ∧ H a = some (.ins C dx fs) ∧ H b = some (.ins C dy gs) ∧ sp [.ref a, .ref b] H (fun v H' => ∃ c : Bool, v = .bl c ∧ Q (.bl (!c)) H') E
theorem op_neO (hn : PySem.W.findIn X.K (.ref C) "__ne__" = some (some (.builtin "object.__ne__"))) (hm : PySem.W.mroIn X.K C (.type "object") = some true) (hs : PySem.W.findIn X.K (.ref C) "__eq__" = some (some (.ref g))) (hf : PySem.W.isFn X.K (.ref g) = true) (nf : PySem.W.notFirst X.K C (.ref C) = true)
    (F : FnOk X.prog X.w X.K X.mg X.base CX k g fd ps sp) (hr : Room (k + 1) X.A) (hb : Binds X.K fd ps []) (hx : Passes CX X.nox E) : OpR X (compareOp .NotEq) (rNeO C sp E) := by
  intro pins s σ H x y v u Q I rx ry h
  obtain ⟨a, dx, b, dy, fs, gs, rfl, rfl, ha, hb', q⟩ := h
  cases (show v = Value.ref a from rx)
  cases (show u = Value.ref b from ry)
  obtain ⟨mA, O, _⟩ := ins_get I.hok ha
  obtain ⟨od, J, _⟩ := O.look
  obtain ⟨mB, O', _⟩ := ins_get I.hok hb'
  obtain ⟨od', J', _⟩ := O'.look
  have un := hr.units
  show wpAny (model X.prog X.w) X.A (richCompare .NotEq (.ref a) (.ref b)) _ _ s
  refine ne_own (by omega) I.kIn J J'.type nf hn hm hs hf (wpAny_mono (run_at (vs := [.ref a, .ref b]) (us := [.ref a, .ref b]) F hr.in1 I.env0.in1 hb hx I (.cons rfl (.cons rfl .nil)) q) (fun w s' z => ?_) fun _ _ x => x)
  obtain ⟨z', H', I', rz, c, rfl, qz⟩ := z
  cases (show w = Value.bool c from rz)
  exact ⟨c, rfl, .bl (!c), H', I', rfl, qz⟩
end
end WbO
namespace Wb
open PySem L2 WbMin WbO
abbrev sText : Stmt := inClass (top 15) 1
abbrev sPeriod : Stmt := inClass (top 15) 2
abbrev sStr : Stmt := inClass (top 15) 4
abbrev sLen : Stmt := inClass (top 15) 5
abbrev sEq : Stmt := inClass (top 15) 6
theorem text_fits {l : List Nat} (W : IsW l) : (textS l).length ≤ sizeLine := by
  rw [text_len W.pos, sizeLine_eq]
  have := W.few
  omega
def spText (C : Addr) : Sp := fun vs H Q _ => ∃ (r : Addr) (l : List Nat), vs = [.ref r] ∧ RingAt C H r l ∧ Q (.str (textS l)) H
def spPeriod (C : Addr) : Sp := fun vs H Q _ => ∃ (r : Addr) (l : List Nat), vs = [.ref r] ∧ RingAt C H r l ∧ Q (.int (perN l)) H
def spLen (C : Addr) : Sp := fun vs H Q _ => ∃ (r : Addr) (l : List Nat), vs = [.ref r] ∧ RingAt C H r l ∧ Q (.int l.length) H
def spEq (C : Addr) : Sp := fun vs H Q _ => ∃ (a b : Addr) (l m : List Nat), vs = [.ref a, .ref b] ∧ RingAt C H a l ∧ RingAt C H b m ∧ Q (.bl (decide (textS l = textS m))) H
section
variable {P : Program} {w : World} {K : PySem.W.Frag} {mg : Str → Option Value} {base : Heap} {f C : Addr} {fd : FuncData}
theorem scTx : FnScope ["self"] ["self"] (defScope sText) := ⟨rfl, rfl, rfl, by decide +kernel, rfl, by decide +kernel, by decide +kernel⟩
theorem ok_text (F : Fun K "text" "Ring.text" sText f fd) (T : Txt K mg C) : FnOk P w K mg base CX0 1 f fd ["self"] (spText C) := by
  refine F.ok scTx (fun vs H Q E h => ?_) (fun cdv A outer s H vs Q E hr h => ?_)
  · obtain ⟨r, l, rfl, _⟩ := h
    rfl
  · obtain ⟨r, l, rfl, ⟨W, dx, hR⟩, k⟩ := h
    exact ⟨_, pss_one (ps_ret (pe_fld (pv 0) rfl)), _, rfl, r, C, dx, _, _, rfl, hR, T.cl, T.nT, rf_text _ _, k⟩
theorem scSt : FnScope ["self"] ["self"] (defScope sStr) := ⟨rfl, rfl, rfl, by decide +kernel, rfl, by decide +kernel, by decide +kernel⟩
theorem ok_str (F : Fun K "__str__" "Ring.__str__" sStr f fd) (T : Txt K mg C) (Z : Free mg) : FnOk P w K mg base CX0 1 f fd ["self"] (spText C) := by
  refine F.ok scSt (fun vs H Q E h => ?_) (fun cdv A outer s H vs Q E hr h => ?_)
  · obtain ⟨r, l, rfl, _⟩ := h
    rfl
  · obtain ⟨r, l, rfl, ⟨W, dx, hR⟩, k⟩ := h
    exact ⟨_, pss_one (ps_ret (pe_callTy SkE.call_str_str (by rfl) Z.str (by decide +kernel) (pa_cons (pe_fld (pv 0) rfl) pa_nil))), _, rfl, r, C, dx, _, _, rfl, hR, T.cl, T.nT, rf_text _ _, _, rfl, k⟩
theorem scLe : FnScope ["self"] ["self"] (defScope sLen) := ⟨rfl, rfl, rfl, by decide +kernel, rfl, by decide +kernel, by decide +kernel⟩
theorem ok_len (F : Fun K "__len__" "Ring.__len__" sLen f fd) (T : Txt K mg C) (Z : Free mg) : FnOk P w K mg base CX0 1 f fd ["self"] (spLen C) := by
  refine F.ok scLe (fun vs H Q E h => ?_) (fun cdv A outer s H vs Q E hr h => ?_)
  · obtain ⟨r, l, rfl, _⟩ := h
    rfl
  · obtain ⟨r, l, rfl, ⟨W, dx, hR⟩, k⟩ := h
    refine ⟨_, pss_one (ps_ret (pe_callB call_len_str (by rfl) Z.len PySem.boot_len (pa_cons (pe_fld (pv 0) rfl) pa_nil))), _, rfl, r, C, dx, _, _, rfl, hR, T.cl, T.nT, rf_text _ _, _, rfl, text_fits W, ?_⟩
    rw [text_len W.pos]
    exact k
theorem scEq : FnScope ["self", "other"] ["self", "other"] (defScope sEq) := ⟨rfl, rfl, rfl, by decide +kernel, rfl, by decide +kernel, by decide +kernel⟩
theorem ok_eq (F : Fun K "__eq__" "Ring.__eq__" sEq f fd) (T : Txt K mg C) (Z : Free mg) : FnOk P w K mg base CX0 1 f fd ["self", "other"] (spEq C) := by
  refine F.ok scEq (fun vs H Q E h => ?_) (fun cdv A outer s H vs Q E hr h => ?_)
  · obtain ⟨a, b, l, m, rfl, _⟩ := h
    rfl
  · obtain ⟨a, b, l, m, rfl, ⟨W, dx, hR⟩, ⟨W', dy, hS⟩, k⟩ := h
    refine ⟨_, pss_one (ps_ret (pe_and (pe_callB call_isi (by rfl) Z.isi (by decide +kernel) (pa_cons (pv 1) (pa_cons (pe_glob (v := .ref C) (by rfl) T.gC rfl) pa_nil)))
      (pe_one (pe_cmpR op_eq (pe_fld (pv 0) rfl) (pe_fld (pv 1) rfl) (nomark _))))), ?_⟩
    refine ⟨_, rfl, _, _, .ref C, .ref C, true, rfl, .own C, .base (.ins hS T.cl T.hcl T.hgt T.htk T.hob), ?_, true, rfl, ?_⟩
    · unfold PySem.W.kitOne
      rw [if_pos (beq_self_eq_true _)]
    · refine ⟨_, rfl, a, C, dx, _, _, rfl, hR, T.cl, T.nT, rf_text _ _, _, rfl, b, C, dy, _, _, rfl, hS, T.cl, T.nT, rf_text _ _, ?_⟩
      have e : decide (V.str (textS l) = V.str (textS m)) = decide (textS l = textS m) := decide_eq_decide.mpr ⟨fun q => by injection q, fun q => by rw [q]⟩
      refine ⟨rfl, ?_⟩
      show Q (.bl (decide (V.str (textS l) = V.str (textS m)))) H
      rw [e]
      exact k
end
end Wb
/-! reading round a ring: turned, [i], [i, n] -/
namespace WbT
open PySem PySem.Spec PyProof.Rows L2
section
variable {X : Cx} {CX : CXT} {k : Nat} {C g : Addr} {fd : FuncData} {ps ks : List Str} {sp : Sp} {E : XK} {o : Expr} {m : Str} {apos pos : Pos} {kws : List Keyword} {ta : TE} {tk : TA} {kg : List Value → List Value → List Value} {gV : List V → List V → List V}
/-- o.m(k = v, ..) -/
def tMethK (C : Addr) (m : Str) (sp : Sp) (gV : List V → List V → List V) (E : XK) (ta : TE) (tk : TA) : TE := fun σ H Q => ta σ H fun x H1 => ∃ (a dx : Addr) (fs : List (Str × V)), x = .ref a ∧ H1 a = some (.ins C dx fs) ∧ fs.lookup m = none ∧ tk σ H1 fun zs H2 => sp (gV [x] zs) H2 Q E
theorem pe_methK0 {pl : Sem Bool} (he : PE X o ta) (c : Cls X.K C) (hm : Meth X.K C m g) (F : FnOk X.prog X.w X.K X.mg X.base CX k g fd ps sp) (hr : Room k X.A) (hb : KBinds X.K fd ps ks kg gV) (hx : Passes CX X E) (hkw : PK X kws tk)
    (hall : (backToKw pos (keywordEach kws X.env)).all (·.1.isSome) = true := by rfl) (hks : (backToKw pos (keywordEach kws X.env)).filterMap (·.1) = ks := by rfl)
    (hpl : ((backTo pos (starEach [] X.env)).any (·.1) || (backToKw pos (keywordEach kws X.env)).any (·.1.isNone)) = false := by rfl)
    (ht : eval (.Call (.Attribute o m apos) [] kws pos) X.env = (do
      let ov ← eval o X.env
      standAt apos.atName
      let (f, first) ← holding [ov] (getMethod ov m pl)
      callWith pos f first (backTo pos (starEach [] X.env)) (backToKw pos (keywordEach kws X.env))) := by rfl) :
    PE X (.Call (.Attribute o m apos) [] kws pos) (tMethK C m sp gV E ta tk) := by
  refine ⟨fun pins s σ H Q I h => PySem.W.methodCall_KW (pl := pl) (thn (he.run pins s σ H _ I h) fun u s1 ⟨x, H1, I1, rx, a, dx, fs, ex, ea, l, q⟩ => ?_) ht⟩
  subst ex
  obtain rfl : u = Value.ref a := rx
  refine getmeth_ok I1 ea c hm l (PySem.W.callWith_KW0 (first := [.ref a]) (h₀ := X.base) I1.ok.mod.kin hm.kp hall (thn (hkw.run pos pins s1 σ H1 _ I1 q) fun ws s2 ⟨zs, H2, I2, rz, q2⟩ => ⟨I2.kIn, ?_⟩) hpl)
  rw [hks]
  exact run_fnk F hr hb hx I2 (us := [.ref a]) (vs := [.ref a]) (.cons rfl .nil) rz q2
/-- o[e] by an own __getitem__ -/
def rIxO (C : Addr) (sp : Sp) (E : XK) : R2 := fun x y H Q => ∃ (a dx : Addr) (fs : List (Str × V)), x = .ref a ∧ H a = some (.ins C dx fs) ∧ sp [.ref a, y] H Q E
theorem pe_ixO {e i : Expr} {te ti : TE} (he : PE X e te) (hi : PE X i ti) (hm : Meth X.K C "__getitem__" g) (hf : PySem.W.fnIn X.K g = true) (F : FnOk X.prog X.w X.K X.mg X.base CX k g fd ps sp) (hr : Room (k + 1) X.A) (hb : Binds X.K fd ps []) (hx : Passes CX X.nox E)
    (hsl : ∀ v u, subscripted i true v u = runValue (.builtin "lifetime.subscript" ⟨[v, u], []⟩) := by intro _ _; with_unfolding_all rfl) : PE X (.Subscript e i pos) (tOp (rIxO C sp E) te ti) := by
  refine ⟨fun pins s σ H Q I h => Subscript_ (binT he hi I h fun v u s2 x y H2 I2 rx ry q => ?_)⟩
  obtain ⟨a, dx, fs, rfl, ha, q⟩ := q
  cases (show v = Value.ref a from rx)
  obtain ⟨mA, O, _⟩ := ins_get I2.hok ha
  obtain ⟨od, J, _⟩ := O.look
  obtain ⟨n, hF⟩ := I2.fr
  exact PySem.W.sub_K hF I2.ok.mod.kin J hm.at_ hf hm.fn (WbO.run_at (vs := [.ref a, y]) (us := [.ref a, u]) F hr.in1 I2.env0.in1 hb hx I2 (.cons rfl (.cons ry .nil)) q) (hsl _ _)
theorem vals_signs : ∀ (l : List Nat) (us : List Value), us.length = l.length → (∀ (j : Nat) (v : Value), us[j]? = some v → ∃ c t, l[j]? = some c ∧ v = Value.str ⟨#[c]⟩ t) → Vals (l.map fun c => V.str ⟨#[c]⟩) us
  | [], [], _, _ => .nil
  | [], _ :: _, h, _ => by cases h
  | _ :: _, [], h, _ => by cases h
  | c :: l, u :: us, h, k => by
    obtain ⟨c', t, e1, e2⟩ := k 0 u rfl
    cases e1
    exact .cons ⟨t, e2⟩ (vals_signs l us (Nat.succ.inj h) fun j v q => k (j + 1) v q)
/-- list(z) of a text -/
theorem call_listS (hc : X.calm = true) : CallR X (.type "list") (fun xs H Q => ∃ z : Str, xs = [.str z] ∧ z.length ≤ sizeLine ∧ ∀ p, H p = none → Q (.ref p) (upd H p (.lst (z.cps.toList.map fun c => V.str ⟨#[c]⟩)))) := by
  intro pins s σ H xs us Q I r h
  obtain ⟨z, rfl, fits, q⟩ := h
  obtain ⟨u, rfl, t, rfl⟩ := vals1 r
  refine call_list_str (hn := fits) (I.ok.hd hc) z t fun h' tk acc c kept new items => ?_
  have rel : Vals (z.cps.toList.map fun c => V.str ⟨#[c]⟩) acc.toList := vals_signs _ _ (by rw [Array.length_toList, Array.length_toList]; exact items.1) fun j v e => by
    obtain ⟨c, u, e1, e2⟩ := items.2 j v (by rw [← Array.getElem?_toList]; exact e)
    exact ⟨c, u, by rw [Array.getElem?_toList]; exact e1, e2⟩
  have fits' : (z.cps.toList.map fun c => V.str ⟨#[c]⟩).length ≤ sizeLine := by rw [List.length_map, Array.length_toList]; exact fits
  exact ⟨.ref s.heap.objs.size, _, I.laid (t' := tk) kept (Nat.le_refl _) (show ObjOk X.prog X.w _ h' _ (.lst _) from ⟨fits', acc.toList, c, rel, new⟩), rfl, q _ (I.hok.fresh (Nat.le_refl _))⟩
end
end WbT
namespace Wb
open PySem L2 WbMin WbO WbT
abbrev sIsPlace : Stmt := top 13
abbrev sReadR : Stmt := top 14
abbrev sTurned : Stmt := inClass (top 15) 3
abbrev sGet : Stmt := inClass (top 15) 8
/-! ### reading so many signs round a word -/
def readN (l : List Nat) (st n : Nat) : List Nat := (List.range n).map fun k => l.getD ((st + k) % l.length) 0
/-- from any place -/
def readW (l : List Nat) (i : Int) (n : Nat) : List Nat := readN l (i % (l.length : Int)).toNat n
theorem readN_len (l : List Nat) (st n : Nat) : (readN l st n).length = n := by
  unfold readN
  rw [List.length_map, List.length_range]
theorem readW_len (l : List Nat) (i : Int) (n : Nat) : (readW l i n).length = n := readN_len l _ n
theorem getD_at {l : List Nat} {i : Nat} (h : i < l.length) : l[i]? = some (l.getD i 0) := by
  rw [List.getD_eq_getElem?_getD, List.getElem?_eq_getElem h] <;> rfl
theorem readN_get {l : List Nat} {st n k : Nat} (h0 : 0 < l.length) (hk : k < n) : (readN l st n)[k]? = l[(st + k) % l.length]? := by
  unfold readN
  rw [List.getElem?_map, List.getElem?_range hk, getD_at (Nat.mod_lt _ h0)] <;> rfl
theorem rep_get {l : List Nat} (h0 : 0 < l.length) : ∀ (t i : Nat), i < t * l.length → (List.replicate t l).flatten[i]? = l[i % l.length]?
  | 0, i, h => by omega
  | t + 1, i, h => by
    rw [List.replicate_succ, List.flatten_cons]
    by_cases q : i < l.length
    · rw [List.getElem?_append_left q, Nat.mod_eq_of_lt q]
    · rw [Nat.succ_mul] at h
      rw [List.getElem?_append_right (by omega), rep_get h0 t (i - l.length) (by omega), ← Nat.mod_eq_sub_mod (by omega)]
theorem rep_len (l : List Nat) (t : Nat) : (List.replicate t l).flatten.length = t * l.length := by rw [List.length_flatten, List.map_replicate, List.sum_replicate_nat]
theorem rep_read {l : List Nat} {t st n : Nat} (h0 : 0 < l.length) (h : st + n ≤ t * l.length) : ((List.replicate t l).flatten.drop st).take n = readN l st n := by
  refine List.ext_getElem? fun k => ?_
  by_cases hk : k < n
  · rw [List.getElem?_take, if_pos hk, List.getElem?_drop, rep_get h0 t _ (by omega), readN_get h0 hk]
  · rw [List.getElem?_take, if_neg hk, List.getElem?_eq_none (by rw [readN_len]; omega)]
theorem read_rot {l : List Nat} {st : Nat} (h0 : 0 < l.length) (hs : st < l.length) : readN l st l.length = rot l st := by
  refine List.ext_getElem? fun k => ?_
  by_cases hk : k < l.length
  · rw [readN_get h0 hk, rot_get (Nat.le_of_lt hs) hk]
  · rw [List.getElem?_eq_none (by rw [readN_len]; omega), List.getElem?_eq_none (by rw [rot_len]; omega)]
theorem place_of {n : Nat} (h0 : 0 < n) (i : Int) : ∃ st : Nat, st < n ∧ i % (n : Int) = (st : Int) ∧ (i % (n : Int)).toNat = st := by
  have h1 := Int.emod_nonneg i (show (n : Int) ≠ 0 by omega)
  have h2 := Int.emod_lt_of_pos i (show (0 : Int) < n by omega)
  exact ⟨(i % (n : Int)).toNat, by omega, (Int.toNat_of_nonneg h1).symm, rfl⟩
theorem cut_mid {l : List Nat} {i j : Nat} (h : i ≤ j) (hj : j ≤ l.length) : cutS (S l) (some (i : Int)) (some (j : Int)) = S ((l.drop i).take (j - i)) := by
  show S _ = S _
  rw [HT.sIx_nat, HT.sIx_nat, S_len, S_cps, Nat.min_eq_left hj, Nat.min_eq_left (Nat.le_trans h hj)]
/-- the text of the ring as codes -/
def tx (l : List Nat) : List Nat := (textS l).cps.toList
theorem S_tx (l : List Nat) : S (tx l) = textS l := S_of _
theorem tx_len {l : List Nat} (h0 : 0 < l.length) : (tx l).length = l.length := by
  have q := text_len h0
  rw [← S_tx, S_len] at q
  exact q
theorem tx_is {l : List Nat} (h0 : 0 < l.length) : ∃ i, i < l.length ∧ tx l = rot l i := by
  obtain ⟨i, h, e⟩ := text_is h0
  exact ⟨i, h, by unfold tx; rw [e, S_cps]⟩
theorem tx_w {l : List Nat} (W : IsW l) : IsW (tx l) := by
  obtain ⟨i, _, e⟩ := tx_is W.pos
  rw [e]
  exact W.rot i
theorem read_low {l : List Nat} (W : IsW l) (st : Nat) {n : Nat} (h1 : 1 ≤ n) (h2 : n ≤ 600) : IsW (readN l st n) := by
  refine ⟨fun c hc => ?_, by rw [readN_len]; omega, by rw [readN_len]; exact h2⟩
  unfold readN at hc
  obtain ⟨k, _, e⟩ := List.mem_map.mp hc
  have m := getD_at (l := l) (i := (st + k) % l.length) (Nat.mod_lt _ W.pos)
  rw [e] at m
  exact W.low c (List.mem_of_getElem? m)
/-! ### the promises -/
def spIsInt : Sp := fun vs H Q _ => ∃ (x : V) (b : Bool), vs = [x] ∧ ((∃ n : Int, x = .int n ∧ b = true) ∨ ∃ (t : Addr) (ys : List V), x = .ref t ∧ H t = some (.tup ys) ∧ b = false) ∧ Q (.bl b) H
def spIsPlace : Sp := fun vs H Q _ => ∃ (t : Addr) (i n : Int), vs = [.ref t] ∧ H t = some (.tup [.int i, .int n]) ∧ 1 ≤ n ∧ n ≤ 600 ∧ Q (.bl true) H
def spReadR : Sp := fun vs H Q _ => ∃ (l : List Nat) (i n : Int), vs = [.str (S l), .int i, .int n] ∧ IsW l ∧ 1 ≤ n ∧ n ≤ 600 ∧ Q (.str (S (readW l i n.toNat))) H
def spTurned (C : Addr) : Sp := fun vs H Q _ => ∃ (r : Addr) (l : List Nat) (i : Int), vs = [.ref r, .int i] ∧ RingAt C H r l ∧ Q (.str (S (readW (tx l) i l.length))) H
def spGet (C : Addr) : Sp := fun vs H Q _ => ∃ (r : Addr) (l : List Nat) (x : V) (i n : Int), vs = [.ref r, x] ∧ RingAt C H r l ∧ ((x = .int i ∧ n = 1) ∨ ∃ t : Addr, x = .ref t ∧ H t = some (.tup [.int i, .int n]) ∧ 1 ≤ n ∧ n ≤ 600) ∧ Q (.str (S (readW (tx l) i n.toNat))) H
section
variable {P : Program} {w : World} {K : PySem.W.Frag} {mg : Str → Option Value} {base : Heap} {f fI fP fR C : Addr} {fd dI dP dR : FuncData}
theorem scII : FnScope ["value"] ["value"] (defScope sIsInt) := ⟨rfl, rfl, rfl, by decide +kernel, rfl, by decide +kernel, by decide +kernel⟩
theorem ok_isint (F : Fun K "is_integer" "is_integer" sIsInt f fd) (Z : Free mg) : FnOk P w K mg base CX0 1 f fd ["value"] spIsInt := by
  refine F.ok scII (fun vs H Q E h => ?_) (fun cdv A outer s H vs Q E hr h => ?_)
  · obtain ⟨x, b, rfl, _⟩ := h
    rfl
  · obtain ⟨x, b, rfl, h, k⟩ := h
    refine ⟨_, pss_one (ps_ret (pe_and (pe_callB call_isi (by rfl) Z.isi (by decide +kernel) (pa_cons (pv 0) (pa_cons (pe_bltn (v := .ty "int") (u := .type "int") (by rfl) Z.int (by decide +kernel) rfl) pa_nil)))
      (pe_one (pe_not (pe_callB call_isi (by rfl) Z.isi (by decide +kernel) (pa_cons (pv 0) (pa_cons (pe_bltn (v := .ty "bool") (u := .type "bool") (by rfl) Z.bool (by decide +kernel) rfl) pa_nil))))))), ?_⟩
    rcases h with ⟨n, rfl, rfl⟩ | ⟨t, ys, rfl, ht, rfl⟩
    · exact ⟨_, rfl, _, _, .type "int", .type "int", true, rfl, .ty "int", .base (.int _), kit_ty (by decide +kernel), true, rfl, _, rfl, _, _, .type "int", .type "bool", false, rfl, .ty "bool", .base (.int _), kit_ty (by decide +kernel), _, rfl, k⟩
    · exact ⟨_, rfl, _, _, .type "tuple", .type "int", false, rfl, .ty "int", .base (.tup ht), kit_ty (by decide +kernel), false, rfl, k⟩
theorem scIP : FnScope ["value", "place", "number"] ["value"] (defScope sIsPlace) := ⟨rfl, rfl, rfl, by decide +kernel, rfl, by decide +kernel, by decide +kernel⟩
theorem ok_isplace (F : Fun K "_is_place_with_number" "_is_place_with_number" sIsPlace f fd) (Z : Free mg) (DI : Def K mg "is_integer" sIsInt ["value"] fI dI) (t6 : Tok) (g6 : mg "MOST_WORD" = some (.int 600 t6)) (mT : mg "tuple" = none) : FnOk P w K mg base CX0 2 f fd ["value"] spIsPlace := by
  have GI : FnOk P w K mg base CX0 1 fI dI ["value"] spIsInt := ok_isint DI.F Z
  refine F.ok scIP (fun vs H Q E h => ?_) (fun cdv A outer s H vs Q E hr h => ?_)
  · obtain ⟨t, i, n, rfl, _⟩ := h
    rfl
  · obtain ⟨t, i, n, rfl, ht, n1, n2, k⟩ := h
    refine ⟨_, pss_cons (ps_if (PW.pt (pw_or (pt_not (pt_val (pe_callB call_isi (by rfl) Z.isi (by decide +kernel) (pa_cons (pv 0) (pa_cons (pe_bltn (v := .ty "tuple") (u := .type "tuple") (by rfl) mT (by decide +kernel) rfl) pa_nil)))))
        (pw_or1 (pt_cmpR op_ne (pe_callB call_len_seq (by rfl) Z.len PySem.boot_len (pa_cons (pv 0) pa_nil)) pe_int (nomark _))))) (pss_one ps_never) pss_nil)
      (pss_cons (ps_asg (pv 0) (pg_tup (by rfl) (pgs_cons (pg_name (i := 1) scIP.nd rfl (.inl rfl)) (pgs_cons (pg_name (i := 2) scIP.nd rfl (.inl rfl)) pgs_nil))))
      (pss_one (ps_ret (pe_and (pe_call GI hr rfl DI.g DI.kp DI.b .nil pass0 (pa_cons (pv 1) pa_nil)) (pe_and (pe_call GI hr rfl DI.g DI.kp DI.b .nil pass0 (pa_cons (pv 2) pa_nil))
        (pe_one (pe_chain op_le op_le pe_int (pv 2) (pe_glob (v := .int 600) (by rfl) g6 ⟨_, rfl⟩)))))))), ?_⟩
    refine ⟨_, rfl, _, _, .type "tuple", .type "tuple", true, rfl, .ty "tuple", .base (.tup ht), kit_ty (by decide +kernel), true, rfl, ?_⟩
    refine ⟨_, rfl, t, _, rfl, .inr (SqT.of ht), rfl, _, rfl, iteNS rfl ?_⟩
    refine ⟨_, rfl, t, _, rfl, SqT.of ht, rfl, _, _, rfl, _, _, rfl, rfl, ?_⟩
    refine ⟨_, rfl, _, true, rfl, .inl ⟨_, rfl, rfl⟩, true, rfl, _, rfl, _, true, rfl, .inl ⟨_, rfl, rfl⟩, true, rfl, _, rfl, _, _, rfl, rfl, _, rfl, ifd n1 ⟨_, _, rfl, rfl, ?_⟩⟩
    dsimp only
    rw [decide_eq_true n2]
    exact k
theorem scRd : FnScope ["text", "place", "number", "start", "times"] ["text", "place", "number"] (defScope sReadR) := ⟨rfl, rfl, rfl, by decide +kernel, rfl, by decide +kernel, by decide +kernel⟩
theorem ok_readr (F : Fun K "_read_round" "_read_round" sReadR f fd) (Z : Free mg) : FnOk P w K mg base CX0 1 f fd ["text", "place", "number"] spReadR := by
  refine F.ok scRd (fun vs H Q E h => ?_) (fun cdv A outer s H vs Q E hr h => ?_)
  · obtain ⟨l, i, n, rfl, _⟩ := h
    rfl
  · obtain ⟨l, i, n, rfl, W, n1, n2, k⟩ := h
    refine ⟨_, pss_cons (ps_set (i := 3) scRd.nd rfl (.inl rfl) (pe_op op_modN (pv 1) (pe_callB call_len_str (by rfl) Z.len PySem.boot_len (pa_cons (pv 0) pa_nil))))
      (pss_cons (ps_set (i := 4) scRd.nd rfl (.inl rfl) (pe_op op_add (pe_op op_fdivN (pe_op op_add (pv 3) (pv 2)) (pe_callB call_len_str (by rfl) Z.len PySem.boot_len (pa_cons (pv 0) pa_nil))) pe_int))
      (pss_one (ps_ret (pe_slice sl_str (pe_op op_mulS (pv 0) (pv 4)) (po_some (pv 3)) (po_some (pe_op op_add (pv 3) (pv 2))))))), ?_⟩
    have l0 := W.pos
    have l1 := W.few
    obtain ⟨m, rfl⟩ : ∃ m : Nat, n = (m : Int) := ⟨n.toNat, by omega⟩
    obtain ⟨st, s1, s2, s3⟩ := place_of l0 i
    have e1 : Int.fmod i ((S l).length : Int) = (st : Int) := by rw [S_len, Int.fmod_eq_emod_of_nonneg _ (Int.natCast_nonneg _)]; exact s2
    have e2 : Int.fdiv ((st : Int) + (m : Int)) ((S l).length : Int) + 1 = (((st + m) / l.length + 1 : Nat) : Int) := by
      rw [S_len, Int.fdiv_eq_ediv_of_nonneg _ (Int.natCast_nonneg _)] <;> rfl
    refine ⟨_, rfl, _, rfl, _, rfl, W.fits, _, _, rfl, rfl, (by rw [S_len]; omega), ?_⟩
    dsimp only
    rw [e1]
    refine ⟨_, rfl, _, rfl, _, _, rfl, rfl, _, rfl, _, rfl, W.fits, _, _, rfl, rfl, ⟨by rw [S_len]; omega, by rw [S_len]; omega⟩, _, _, rfl, rfl, ?_⟩
    dsimp only
    rw [e2]
    have d1 := Nat.div_mul_le_self (st + m) l.length
    have d2 : st + m ≤ ((st + m) / l.length + 1) * l.length := by
      have := Nat.lt_div_mul_add (a := st + m) l0
      rw [Nat.add_mul, Nat.one_mul]
      omega
    have d3 : ((st + m) / l.length + 1) * l.length ≤ 1800 := by
      rw [Nat.add_mul, Nat.one_mul]
      omega
    have d4 : (st + m) / l.length ≤ st + m := Nat.div_le_self _ _
    have e3 : Txt.mul (S l) (((st + m) / l.length + 1 : Nat) : Int) = S ((List.replicate ((st + m) / l.length + 1) l).flatten) := S_eq (by rw [mul_cps (Int.natCast_nonneg _), S_cps, Int.toNat_natCast])
    refine ⟨_, rfl, _, rfl, _, _, rfl, rfl, ?_, ?_⟩
    · refine mulOk (Int.natCast_nonneg _) ?_ (by omega)
      rw [S_len, Int.toNat_natCast, Nat.mul_comm]
      omega
    dsimp only
    rw [e3]
    refine ⟨_, rfl, _, rfl, _, rfl, _, rfl, _, _, rfl, rfl, _, rfl, _, rfl, ?_, ?_⟩
    · rw [S_len, rep_len, sizeLine_eq]
      omega
    · have e4 : cutS (S ((List.replicate ((st + m) / l.length + 1) l).flatten)) (some (st : Int)) (some ((st : Int) + (m : Int))) = S (readW l i m) := by
        have q := cut_mid (l := (List.replicate ((st + m) / l.length + 1) l).flatten) (i := st) (j := st + m) (by omega) (by rw [rep_len]; exact d2)
        rw [Int.natCast_add] at q
        rw [q, show st + m - st = m by omega, rep_read l0 d2]
        unfold readW
        rw [s3]
      rw [e4]
      exact k
theorem readW_fits {l : List Nat} (W : IsW l) : (S (tx l)).length ≤ sizeLine := (tx_w W).fits
theorem scTu : FnScope ["self", "i"] ["self", "i"] (defScope sTurned) := ⟨rfl, rfl, rfl, by decide +kernel, rfl, by decide +kernel, by decide +kernel⟩
theorem ok_turned (F : Fun K "turned" "Ring.turned" sTurned f fd) (T : Txt K mg C) (Z : Free mg) (DI : Def K mg "is_integer" sIsInt ["value"] fI dI) (DR : Def K mg "_read_round" sReadR ["text", "place", "number"] fR dR) : FnOk P w K mg base CX0 2 f fd ["self", "i"] (spTurned C) := by
  have GI : FnOk P w K mg base CX0 1 fI dI ["value"] spIsInt := ok_isint DI.F Z
  have GR : FnOk P w K mg base CX0 1 fR dR ["text", "place", "number"] spReadR := ok_readr DR.F Z
  refine F.ok scTu (fun vs H Q E h => ?_) (fun cdv A outer s H vs Q E hr h => ?_)
  · obtain ⟨r, l, i, rfl, _⟩ := h
    rfl
  · obtain ⟨r, l, i, rfl, ⟨W, dx, hR⟩, k⟩ := h
    refine ⟨_, pss_cons (ps_if (pt_not (pt_val (pe_call GI hr rfl DI.g DI.kp DI.b .nil pass0 (pa_cons (pv 1) pa_nil)))) (pss_one ps_never) pss_nil)
      (pss_one (ps_ret (pe_call GR hr rfl DR.g DR.kp DR.b .nil pass0 (pa_cons (pe_fld (pv 0) rfl) (pa_cons (pv 1) (pa_cons (pe_callB call_len_str (by rfl) Z.len PySem.boot_len (pa_cons (pe_fld (pv 0) rfl) pa_nil)) pa_nil)))))), ?_⟩
    have l0 := W.pos
    have l1 := W.few
    refine ⟨_, rfl, _, true, rfl, .inl ⟨_, rfl, rfl⟩, true, rfl, ?_⟩
    refine ⟨_, rfl, r, C, dx, _, _, rfl, hR, T.cl, T.nT, rf_text _ _, _, rfl, _, rfl, r, C, dx, _, _, rfl, hR, T.cl, T.nT, rf_text _ _, _, rfl, text_fits W, tx l, i, ((textS l).length : Int), by rw [S_tx] <;> rfl, tx_w W, by rw [text_len l0]; omega, by rw [text_len l0]; omega, ?_⟩
    rw [Int.toNat_natCast, text_len l0]
    exact k
theorem scGi : FnScope ["self", "at", "place", "number"] ["self", "at"] (defScope sGet) := ⟨rfl, rfl, rfl, by decide +kernel, rfl, by decide +kernel, by decide +kernel⟩
theorem ok_get (F : Fun K "__getitem__" "Ring.__getitem__" sGet f fd) (T : Txt K mg C) (Z : Free mg) (DI : Def K mg "is_integer" sIsInt ["value"] fI dI) (DP : Def K mg "_is_place_with_number" sIsPlace ["value"] fP dP) (DR : Def K mg "_read_round" sReadR ["text", "place", "number"] fR dR)
    (t6 : Tok) (g6 : mg "MOST_WORD" = some (.int 600 t6)) (mT : mg "tuple" = none) : FnOk P w K mg base CX0 3 f fd ["self", "at"] (spGet C) := by
  have GI : FnOk P w K mg base CX0 1 fI dI ["value"] spIsInt := ok_isint DI.F Z
  have GP : FnOk P w K mg base CX0 2 fP dP ["value"] spIsPlace := ok_isplace DP.F Z DI t6 g6 mT
  have GR : FnOk P w K mg base CX0 1 fR dR ["text", "place", "number"] spReadR := ok_readr DR.F Z
  refine F.ok scGi (fun vs H Q E h => ?_) (fun cdv A outer s H vs Q E hr h => ?_)
  · obtain ⟨r, l, x, i, n, rfl, _⟩ := h
    rfl
  · obtain ⟨r, l, x, i, n, rfl, ⟨W, dx, hR⟩, h, k⟩ := h
    have hr1 : Room 1 _ := hr.mono (by decide)
    refine ⟨_, pss_cons (ps_if (pt_val (pe_call GI hr1 rfl DI.g DI.kp DI.b .nil pass0 (pa_cons (pv 1) pa_nil))) (pss_one (ps_ret (pe_ix ix_str (pe_fld (pv 0) rfl) (pe_op op_modN (pv 1) (pe_callB call_len_str (by rfl) Z.len PySem.boot_len (pa_cons (pe_fld (pv 0) rfl) pa_nil))) (fun _ _ => rfl)))) pss_nil)
      (pss_cons (ps_if (pt_not (pt_val (pe_call GP hr rfl DP.g DP.kp DP.b .nil pass0 (pa_cons (pv 1) pa_nil)))) (pss_one ps_never) pss_nil)
      (pss_cons (ps_asg (pv 1) (pg_tup (by rfl) (pgs_cons (pg_name (i := 2) scGi.nd rfl (.inl rfl)) (pgs_cons (pg_name (i := 3) scGi.nd rfl (.inl rfl)) pgs_nil))))
      (pss_one (ps_ret (pe_call GR hr1 rfl DR.g DR.kp DR.b .nil pass0 (pa_cons (pe_fld (pv 0) rfl) (pa_cons (pv 2) (pa_cons (pv 3) pa_nil)))))))), ?_⟩
    have l0 := W.pos
    have l1 := W.few
    rcases h with ⟨rfl, rfl⟩ | ⟨t, rfl, ht, n1, n2⟩
    · refine ⟨_, rfl, _, true, rfl, .inl ⟨_, rfl, rfl⟩, true, rfl, ?_⟩
      obtain ⟨st, s1, s2, s3⟩ := place_of (n := (tx l).length) (by rw [tx_len l0]; exact l0) i
      have hlen : (textS l).length = (tx l).length := by rw [text_len l0, tx_len l0]
      have hat : atI (textS l).cps.toList (Int.fmod i ((textS l).length : Int)) = some ((tx l).getD st 0) := by
        rw [hlen, Int.fmod_eq_emod_of_nonneg _ (Int.natCast_nonneg _), s2]
        exact atI_nat (getD_at s1)
      refine ⟨_, rfl, r, C, dx, _, _, rfl, hR, T.cl, T.nT, rf_text _ _, _, rfl, _, rfl, r, C, dx, _, _, rfl, hR, T.cl, T.nT, rf_text _ _, _, rfl, text_fits W, _, _, rfl, rfl, (by rw [text_len l0]; omega), _, _, _, rfl, rfl, text_fits W, hat, ?_⟩
      have e : readW (tx l) i (1 : Int).toNat = [(tx l).getD st 0] := by
        unfold readW readN
        rw [s3]
        show [(tx l).getD ((st + 0) % (tx l).length) 0] = _
        rw [Nat.add_zero, Nat.mod_eq_of_lt s1]
      rw [e] at k
      exact k
    · refine ⟨_, rfl, _, false, rfl, .inr ⟨t, _, rfl, ht, rfl⟩, false, rfl, ?_⟩
      refine ⟨_, rfl, t, i, n, rfl, ht, n1, n2, true, rfl, ?_⟩
      refine ⟨_, rfl, t, _, rfl, SqT.of ht, rfl, _, _, rfl, _, _, rfl, rfl, ?_⟩
      exact ⟨_, rfl, r, C, dx, _, _, rfl, hR, T.cl, T.nT, rf_text _ _, _, rfl, _, rfl, tx l, i, n, by rw [S_tx] <;> rfl, tx_w W, n1, n2, k⟩
end
end Wb
/-! x in o, x not in o by an own __contains__ -/
namespace WbO
open PySem PySem.Spec PyProof.Rows L2
section
variable {X : Cx} {CX : CXT} {k : Nat} {C g : Addr} {fd : FuncData} {ps : List Str} {sp : Sp} {E : XK}
def rInO (C : Addr) (sp : Sp) (E : XK) : R2 := fun x y H Q => ∃ (a dx : Addr) (fs : List (Str × V)), y = .ref a ∧ H a = some (.ins C dx fs) ∧ sp [.ref a, x] H (fun v H' => ∃ c : Bool, v = .bl c ∧ Q (.bl c) H') E
def rNotInO (C : Addr) (sp : Sp) (E : XK) : R2 := fun x y H Q => ∃ (a dx : Addr) (fs : List (Str × V)), y = .ref a ∧ H a = some (.ins C dx fs) ∧ sp [.ref a, x] H (fun v H' => ∃ c : Bool, v = .bl c ∧ Q (.bl (!c)) H') E
theorem op_inO (hs : PySem.W.findIn X.K (.ref C) "__contains__" = some (some (.ref g))) (hf : PySem.W.isFn X.K (.ref g) = true) (F : FnOk X.prog X.w X.K X.mg X.base CX k g fd ps sp) (hr : Room k X.A) (hb : Binds X.K fd ps []) (hx : Passes CX X.nox E) : OpR X (compareOp .In) (rInO C sp E) := by
  intro pins s σ H x y v u Q I rx ry h
  obtain ⟨a, dx, fs, rfl, ha, q⟩ := h
  cases (show u = Value.ref a from ry)
  obtain ⟨mA, O, _⟩ := ins_get I.hok ha
  obtain ⟨od, J, _⟩ := O.look
  obtain ⟨m, hF⟩ := I.fr
  refine PySem.W.in_K hF I.ok.mod.kin J hs hf (wpAny_mono (run_at (vs := [.ref a, x]) (us := [.ref a, v]) F hr I.env0 hb hx I (.cons rfl (.cons rx .nil)) q) (fun w s' z => ?_) fun _ _ e => e)
  obtain ⟨z', H', I', rz, c, rfl, qz⟩ := z
  cases (show w = Value.bool c from rz)
  exact wpAny_truthy_bool ⟨.bl c, H', I', rfl, qz⟩
theorem op_notInO (hs : PySem.W.findIn X.K (.ref C) "__contains__" = some (some (.ref g))) (hf : PySem.W.isFn X.K (.ref g) = true) (F : FnOk X.prog X.w X.K X.mg X.base CX k g fd ps sp) (hr : Room k X.A) (hb : Binds X.K fd ps []) (hx : Passes CX X.nox E) : OpR X (compareOp .NotIn) (rNotInO C sp E) := by
  intro pins s σ H x y v u Q I rx ry h
  obtain ⟨a, dx, fs, rfl, ha, q⟩ := h
  cases (show u = Value.ref a from ry)
  obtain ⟨mA, O, _⟩ := ins_get I.hok ha
  obtain ⟨od, J, _⟩ := O.look
  obtain ⟨m, hF⟩ := I.fr
  refine PySem.W.notIn_K hF I.ok.mod.kin J hs hf (wpAny_mono (run_at (vs := [.ref a, x]) (us := [.ref a, v]) F hr I.env0 hb hx I (.cons rfl (.cons rx .nil)) q) (fun w s' z => ?_) fun _ _ e => e)
  obtain ⟨z', H', I', rz, c, rfl, qz⟩ := z
  cases (show w = Value.bool c from rz)
  exact wpAny_truthy_bool ⟨.bl (!c), H', I', rfl, qz⟩
end
end WbO
namespace Wb
open PySem L2 WbMin WbO WbT
abbrev sIn : Stmt := inClass (top 15) 9
/-! ### values of any kind -/
/-- what is no text -/
inductive Oth (p : Addr) (H : Hp) : V → Prop where
  | non : Oth p H .non
  | bl (b : Bool) : Oth p H (.bl b)
  | int (i : Int) : Oth p H (.int i)
  | lst {a : Addr} {xs : List V} (h : H a = some (.lst xs)) (n : a ≠ p) : Oth p H (.ref a)
  | tup {a : Addr} {xs : List V} (h : H a = some (.tup xs)) (n : a ≠ p) : Oth p H (.ref a)
  | dK {a : Addr} {xs : List (Key × V)} (h : H a = some (.dK xs)) (n : a ≠ p) : Oth p H (.ref a)
theorem Oth.but {p : Addr} {H H' : Hp} {x : V} (h : Oth p H x) (b : But p H H') : Oth p H' x := by
  cases h with
  | non => exact .non
  | bl b => exact .bl b
  | int i => exact .int i
  | lst h n => exact .lst (b _ _ n h) n
  | tup h n => exact .tup (b _ _ n h) n
  | dK h n => exact .dK (b _ _ n h) n
theorem Oth.ty {p : Addr} {H : Hp} {K : PySem.W.Frag} {x : V} (h : Oth p H x) : ∃ t, TyX K H x t ∧ PySem.W.kitOne K t (.type "str") = some false := by
  cases h with
  | non => exact ⟨_, .base .non, kit_ty (by decide +kernel)⟩
  | bl b => exact ⟨_, .base (.bl b), kit_ty (by decide +kernel)⟩
  | int i => exact ⟨_, .base (.int i), kit_ty (by decide +kernel)⟩
  | lst h n => exact ⟨_, .base (.lst h), kit_ty (by decide +kernel)⟩
  | tup h n => exact ⟨_, .base (.tup h), kit_ty (by decide +kernel)⟩
  | dK h n => exact ⟨_, .base (.dK h), kit_ty (by decide +kernel)⟩
/-- a sign that is a small letter -/
def okc (c : Nat) : Bool := decide (97 ≤ c) && decide (c ≤ 122)
def isWB (l : List Nat) : Bool := decide (1 ≤ l.length) && decide (l.length ≤ 600) && l.all okc
theorem isWB_iff {l : List Nat} : isWB l = true ↔ IsW l := by
  unfold isWB
  rw [Bool.and_eq_true, Bool.and_eq_true, decide_eq_true_iff, decide_eq_true_iff, List.all_eq_true]
  constructor
  · rintro ⟨⟨a, b⟩, c⟩
    refine ⟨fun d hd => ?_, by omega, b⟩
    have q := c d hd
    unfold okc at q
    rw [Bool.and_eq_true, decide_eq_true_iff, decide_eq_true_iff] at q
    exact q
  · rintro ⟨a, b, c⟩
    refine ⟨⟨by omega, c⟩, fun d hd => ?_⟩
    unfold okc
    rw [Bool.and_eq_true, decide_eq_true_iff, decide_eq_true_iff]
    exact a d hd
/-- a text as it may be drawn -/
structure Tx (l : List Nat) : Prop where
  few : l.length ≤ 2000
  cod : ∀ c ∈ l, c < 1000
theorem Tx.fits {l : List Nat} (h : Tx l) : (S l).length ≤ sizeLine := by
  rw [S_len, sizeLine_eq]
  have := h.few
  omega
theorem IsW.tx {l : List Nat} (h : IsW l) : Tx l := ⟨by have := h.few; omega, fun c hc => by have := h.low c hc; omega⟩
/-- a drawn value: a text, or what is no text -/
def Val (p : Addr) (H : Hp) (x : V) : Prop := (∃ l, x = .str (S l) ∧ Tx l) ∨ Oth p H x
theorem Val.but {p : Addr} {H H' : Hp} {x : V} (h : Val p H x) (b : But p H H') : Val p H' x := by
  rcases h with h | h
  · exact .inl h
  · exact .inr (h.but b)
/-- what is asked of it: b for a text, False else -/
def Ans (p : Addr) (H : Hp) (x : V) (f : List Nat → Bool) (b : Bool) : Prop := (∃ l, x = .str (S l) ∧ Tx l ∧ b = f l) ∨ (Oth p H x ∧ b = false)
theorem Val.ans {p : Addr} {H : Hp} {x : V} (h : Val p H x) (f : List Nat → Bool) : ∃ b, Ans p H x f b := by
  rcases h with ⟨l, e, t⟩ | h
  · exact ⟨_, .inl ⟨l, e, t, rfl⟩⟩
  · exact ⟨_, .inr ⟨h, rfl⟩⟩
theorem Ans.but {p : Addr} {H H' : Hp} {x : V} {f : List Nat → Bool} {c : Bool} (h : Ans p H x f c) (b : But p H H') : Ans p H' x f c := by
  rcases h with h | ⟨h, e⟩
  · exact .inl h
  · exact .inr ⟨h.but b, e⟩
def spIsWordX : Sp := fun vs H Q _ => ∃ (p : Addr) (x : V) (b : Bool), vs = [x] ∧ Ans p H x isWB b ∧ ∀ H', Same H H' → Q (.bl b) H'
/-! ### the mathematics: which words can be read -/
theorem readN_mod (l : List Nat) (i n : Nat) : readN l (i % l.length) n = readN l i n := by
  unfold readN
  exact List.map_congr_left fun k _ => by rw [Nat.mod_add_mod]
theorem readN_rot {l : List Nat} {j : Nat} (h0 : 0 < l.length) (hj : j ≤ l.length) (i n : Nat) : readN (rot l j) i n = readN l (j + i) n := by
  have hl := rot_len l j
  refine List.ext_getElem? fun k => ?_
  by_cases hk : k < n
  · rw [readN_get (by omega) hk, readN_get h0 hk, hl, rot_get hj (Nat.mod_lt _ h0), Nat.add_mod_mod, Nat.add_assoc]
  · rw [List.getElem?_eq_none (by rw [readN_len]; omega), List.getElem?_eq_none (by rw [readN_len]; omega)]
def canRead (l z : List Nat) : Bool := (List.range l.length).any fun i => decide (readN l i z.length = z)
theorem subIff (l m : List Nat) (i : Nat) : Builtin.Str.subAt (S l) (S m) i = true ↔ (l.drop i).take m.length = m := by
  unfold Builtin.Str.subAt S
  rw [beq_iff_eq]
  constructor
  · intro h
    have q := congrArg Array.toList h
    simpa [Str.length] using q
  · intro h
    have q : (Str.length ⟨m.toArray⟩) = m.length := by simp [Str.length]
    refine Array.toList_inj.mp ?_
    rw [q]
    simpa using h
theorem can_iff {l z : List Nat} : canRead l z = true ↔ ∃ i, i < l.length ∧ readN l i z.length = z := by
  unfold canRead
  rw [List.any_eq_true]
  constructor
  · rintro ⟨i, hi, e⟩
    exact ⟨i, List.mem_range.mp hi, of_decide_eq_true e⟩
  · rintro ⟨i, hi, e⟩
    exact ⟨i, List.mem_range.mpr hi, decide_eq_true e⟩
theorem read_in {l z : List Nat} (h0 : 0 < l.length) : (!(Builtin.Str.occurrences (S (List.replicate (z.length / l.length + 2) (tx l)).flatten) (S z) 0 (S (List.replicate (z.length / l.length + 2) (tx l)).flatten).length 1).isEmpty) = canRead l z := by
  rw [Bool.eq_iff_iff, StrLaws.found_iff, can_iff]
  obtain ⟨j, hj, ej⟩ := tx_is h0
  have tl := tx_len h0
  have t0 : 0 < (tx l).length := by omega
  constructor
  · rintro ⟨i, h1, h2⟩
    rw [S_len, S_len, rep_len] at h1
    have q := (subIff _ _ _).mp h2
    rw [rep_read t0 h1, ej, readN_rot h0 (Nat.le_of_lt hj), ← readN_mod] at q
    exact ⟨(j + i) % l.length, Nat.mod_lt _ h0, q⟩
  · rintro ⟨i, h1, h2⟩
    have e1 : (j + (i + l.length - j) % l.length) % l.length = i := by
      rw [Nat.add_mod_mod, show j + (i + l.length - j) = i + l.length by omega, Nat.add_mod_right, Nat.mod_eq_of_lt h1]
    have e2 : readN (tx l) ((i + l.length - j) % l.length) z.length = z := by
      rw [ej, readN_rot h0 (Nat.le_of_lt hj), ← readN_mod, e1, h2]
    have lt : (i + l.length - j) % l.length < l.length := Nat.mod_lt _ h0
    have b : (i + l.length - j) % l.length + z.length ≤ (z.length / l.length + 2) * (tx l).length := by
      rw [tl]
      have := Nat.lt_div_mul_add (a := z.length) h0
      rw [Nat.add_mul]
      omega
    refine ⟨(i + l.length - j) % l.length, by rw [S_len, S_len, rep_len]; exact b, (subIff _ _ _).mpr ?_⟩
    rw [rep_read t0 b, e2]
section
variable {P : Program} {w : World} {K : PySem.W.Frag} {mg : Str → Option Value} {base : Heap} {f fW C : Addr} {fd dW : FuncData}
set_option maxHeartbeats 0 in
theorem ok_iswordX (F : Fun K "is_word" "is_word" sIsWord f fd) (Z : Free mg) (t6 : Tok) (g6 : mg "MOST_WORD" = some (.int 600 t6)) : FnOk P w K mg base CX0 1 f fd ["value"] spIsWordX := by
  refine F.ok scIW (fun vs H Q E h => ?_) (fun cdv A outer s H vs Q E hr h => ?_)
  · obtain ⟨p, x, b, rfl, _⟩ := h
    rfl
  · obtain ⟨p, x, b, rfl, ha, k⟩ := h
    refine ⟨_, pss_cons (ps_if (PW.pt (pw_or (pt_not (pt_val (pe_callB call_isi (by rfl) Z.isi (by decide +kernel) (pa_cons (pv 0) (pa_cons (pe_bltn (v := .ty "str") (u := .type "str") (by rfl) Z.str (by decide +kernel) rfl) pa_nil)))))
        (pw_or1 (pt_not (pt_chain op_le op_le pe_int (pe_callB call_len_str (by rfl) Z.len PySem.boot_len (pa_cons (pv 0) pa_nil)) (pe_glob (v := .int 600) (by rfl) g6 ⟨_, rfl⟩)))))) (pss_one (ps_ret pe_bl)) pss_nil)
      (pss_one (ps_ret (pe_callB (cr_all rfl) (by rfl) Z.all (by decide +kernel) (pa_cons
        (pe_lc (own := [("sign", 1)]) (g := gName 1) (tt := tYes) rfl scIW.nd (pi_str (pv 0)) (blkOk_by (N := ["value", "sign"]) (sc := defScope sIsWord) (by decide +kernel)) (fun _ _ _ _ _ => pg_name (i := 1) scIW.nd rfl (.inl rfl)) (fun _ _ _ _ _ => pts_nil)
          (fun _ _ _ _ _ => pe_chain op_le_str op_le_str pe_str (pv 1) pe_str)) pa_nil)))), ?_⟩
    rcases ha with ⟨l, rfl, tl, rfl⟩ | ⟨ho, rfl⟩
    · have few := tl.few
      refine ⟨_, rfl, _, _, .type "str", .type "str", true, rfl, .ty "str", .base (.str _), kit_ty (by decide +kernel), true, rfl, ?_⟩
      have no : ¬ (1 ≤ l.length ∧ l.length ≤ 600) → Q (.bl false) H := fun z => by
        have e : isWB l = false := by
          cases e : isWB l with
          | false => rfl
          | true =>
            have q := isWB_iff.mp e
            exact absurd ⟨q.pos, q.few⟩ z
        have q := k H (Same.refl H)
        rw [e] at q
        exact q
      refine ⟨_, rfl, _, rfl, tl.fits, _, _, rfl, rfl, _, rfl, ite2 (fun z1 => ?_) (fun z1 => ?_)⟩
      · have h1 : 1 ≤ l.length := by
          have q := of_decide_eq_true z1
          rw [S_len] at q
          omega
        refine ⟨_, _, rfl, rfl, _, rfl, ?_⟩
        by_cases h2 : l.length ≤ 600
        · refine iteNS (by rw [S_len]; omega) ?_
          refine ⟨_, rfl, _, rfl, fun D hD => lc_it walk_str (fun i H3 => H3 D = some (.lst (((l.take i).map okc).map V.bl)) ∧ Same H H3) ⟨upd_same, Same.put (Same.refl H) hD⟩ (fun _ _ _ _ => trivial) ?_ ?_⟩
          · rintro i x H3 H3' hi ⟨h1, h2⟩ ⟨rfl, c, hc, rfl⟩
            have hc' : l[i]? = some c := by simpa [S] using hc
            have la : (([c] : List Nat) < [97]) ↔ c < 97 := by rw [List.cons_lt_cons_iff]; simp
            have lz : (([122] : List Nat) < [c]) ↔ 122 < c := by rw [List.cons_lt_cons_iff]; simp
            have ea : ("a" : Str).cps.toList = [97] := by decide +kernel
            have ez : ("z" : Str).cps.toList = [122] := by decide +kernel
            have fin : ∀ b : Bool, b = okc c → (∃ acc : List V, H3' D = some (.lst acc) ∧ acc.length < sizeLine ∧ (L2.upd H3' D (.lst (acc ++ [V.bl b]))) D = some (.lst (((l.take (i + 1)).map okc).map V.bl)) ∧ Same H (L2.upd H3' D (.lst (acc ++ [V.bl b])))) := fun b eb => by
              refine ⟨_, h1, ?_, ?_, Same.new' h2 hD⟩
              · rw [List.length_map, List.length_map, sizeLine_eq]
                have := List.length_take_le' i l
                omega
              · rw [upd_same, take_more hc', List.map_append, List.map_append, eb] <;> rfl
            refine ⟨rfl, _, rfl, _, _, rfl, rfl, _, rfl, ?_⟩
            rw [ea]
            by_cases q1 : c < 97
            · have e : okc c = false := by unfold okc; rw [decide_eq_false (show ¬ 97 ≤ c by omega)]; rfl
              have q1' : (!decide ((⟨#[c]⟩ : Str).cps.toList < [97])) = false := by
                rw [decide_eq_true (show (⟨#[c]⟩ : Str).cps.toList < [97] from la.mpr q1)] <;> rfl
              rw [q1', if_neg Bool.false_ne_true]
              exact fin false e.symm
            · have q1' : (!decide ((⟨#[c]⟩ : Str).cps.toList < [97])) = true := by
                rw [decide_eq_false (show ¬ (⟨#[c]⟩ : Str).cps.toList < [97] from fun z => q1 (la.mp z))] <;> rfl
              rw [q1', if_pos rfl]
              refine ⟨_, _, rfl, rfl, ?_⟩
              rw [ez]
              refine fin _ ?_
              unfold okc
              rw [decide_eq_true (show 97 ≤ c by omega)]
              by_cases q2 : c ≤ 122
              · rw [decide_eq_true q2, decide_eq_false (show ¬ [122] < (⟨#[c]⟩ : Str).cps.toList from fun z => by have := lz.mp z; omega)] <;> rfl
              · rw [decide_eq_false q2, decide_eq_true (show [122] < (⟨#[c]⟩ : Str).cps.toList from lz.mpr (by omega))] <;> rfl
          · rintro H3 ⟨h1', h2'⟩
            refine ⟨D, _, rfl, SqL.of h1', ?_⟩
            have q := k H3 h2'
            have e : isWB l = ((l.take (S l).cps.size).map okc).all id := by
              rw [S_size, List.take_length, List.all_map]
              unfold isWB
              rw [decide_eq_true (show 1 ≤ l.length by omega), decide_eq_true h2] <;> rfl
            rw [e] at q
            exact q
        · refine iteS ?_ ?_
          · rw [S_len]; omega
          · exact no (fun z => h2 z.2)
      · refine ⟨_, rfl, no (fun z => z1 (decide_eq_true ?_))⟩
        rw [S_len]
        omega
    · obtain ⟨t, ty, kt⟩ := ho.ty (K := K)
      exact ⟨_, rfl, _, _, t, .type "str", false, rfl, .ty "str", ty, kt, false, rfl, k H (Same.refl H)⟩
end
end Wb
namespace Wb
open PySem L2 WbMin WbO WbT
abbrev sOdd : Stmt := top 20
abbrev sIsWL : Stmt := top 24
abbrev sRead : Stmt := top 25
abbrev sNear : Stmt := top 26
abbrev sReadable : Stmt := top 27
def spOdd : Sp := fun vs H Q _ => ∃ p : Addr, vs = [.ref p] ∧ PoolAt H p ∧ ∀ (x : V) (H' : Hp), Val p H' x → PoolAt H' p → But p H H' → Q x H'
def spIsWL : Sp := fun vs H Q _ => ∃ (p : Addr) (x : V) (b : Bool), vs = [x, .str (S abc)] ∧ Ans p H x isWB b ∧ ∀ H', Same H H' → Q (.bl b) H'
def spReadL : Sp := fun vs H Q _ => ∃ (l : List Nat) (i n : Nat), vs = [.str (S l), .int i, .int n] ∧ IsW l ∧ n ≤ 2000 ∧ Q (.str (S (readN l i n))) H
def spNear : Sp := fun vs H Q _ => ∃ (p : Addr) (l : List Nat), vs = [.ref p, .str (S l)] ∧ IsW l ∧ PoolAt H p ∧ ∀ (x : V) (H' : Hp), Val p H' x → PoolAt H' p → But p H H' → Q x H'
def spReadable : Sp := fun vs H Q _ => ∃ (p : Addr) (l : List Nat) (x : V) (b : Bool), vs = [.str (S l), x] ∧ IsW l ∧ Ans p H x (fun z => isWB z && canRead l z) b ∧ ∀ H', Same H H' → Q (.bl b) H'
theorem cutA (l : List Nat) (i j : Nat) : cutS (S l) (some (i : Int)) (some (j : Int)) = S ((l.drop (min i l.length)).take (min j l.length - min i l.length)) := by
  show S _ = S _
  rw [HT.sIx_nat, HT.sIx_nat, S_len, S_cps]
theorem cutB (l : List Nat) (i : Nat) : cutS (S l) (some (i : Int)) none = S (l.drop i) := by
  show S _ = S _
  rw [HT.sIx_none, HT.sIx_nat, S_len, S_cps]
  congr 1
  by_cases h : i ≤ l.length
  · rw [Nat.min_eq_left h, List.take_of_length_le (by rw [List.length_drop]; omega)]
  · rw [Nat.min_eq_right (by omega), List.drop_length, List.drop_eq_nil_of_le (by omega), List.take_nil]
theorem cutC (l : List Nat) (j : Nat) : cutS (S l) none (some (j : Int)) = S (l.take j) := by
  show S _ = S _
  rw [HT.sIx_none, HT.sIx_nat, S_len, S_cps]
  congr 1
  show l.take (min j l.length) = _
  by_cases h : j ≤ l.length
  · rw [Nat.min_eq_left h]
  · rw [Nat.min_eq_right (by omega), List.take_length, List.take_of_length_le (by omega)]
theorem Tx.sub {l m : List Nat} (h : Tx l) (s : ∀ c ∈ m, c ∈ l) (n : m.length ≤ 2000) : Tx m := ⟨n, fun c hc => h.cod c (s c hc)⟩
theorem Tx.lit {z : Str} (l : List Nat) (e : z.cps.toList = l) (h1 : l.length ≤ 2000) (h2 : ∀ c ∈ l, c < 1000) : ∃ m, V.str z = .str (S m) ∧ Tx m := ⟨l, by rw [S_eq e], h1, h2⟩
theorem Val.lit {p : Addr} {H : Hp} {z : Str} (l : List Nat) (e : z.cps.toList = l) (h1 : l.length ≤ 2000) (h2 : ∀ c ∈ l, c < 1000) : Val p H (.str z) := .inl (Tx.lit l e h1 h2)
theorem int_lt {d m : Int} (h0 : 0 ≤ d) (h1 : d < m) : ∃ j : Nat, d = (j : Int) ∧ (j : Int) < m := ⟨d.toNat, by omega, by omega⟩
section
variable {P : Program} {w : World} {K : PySem.W.Frag} {mg : Str → Option Value} {base : Heap} {f fD fW : Addr} {fd fdD dW : FuncData}
theorem scOd : FnScope ["_law_pool_here", "_law_way"] ["_law_pool_here"] (defScope sOdd) := ⟨rfl, rfl, rfl, by decide +kernel, rfl, by decide +kernel, by decide +kernel⟩
set_option maxHeartbeats 0 in
theorem ok_odd (F : Fun K "_law_odd" "_law_odd" sOdd f fd) (D : Def K mg "_law_draw" sDraw ["_law_pool_here", "_law_many"] fD fdD) (Z : Free mg) : FnOk P w K mg base CX0 2 f fd ["_law_pool_here"] spOdd := by
  have G : FnOk P w K mg base CX0 1 fD fdD ["_law_pool_here", "_law_many"] spDraw := ok_draw D.F Z.int Z.divmod
  refine F.ok scOd (fun vs H Q E h => ?_) (fun cdv A outer s H vs Q E hr h => ?_)
  · obtain ⟨p, rfl, _⟩ := h
    rfl
  · obtain ⟨p, rfl, hp, k⟩ := h
    refine ⟨_, pss_cons (ps_set (i := 1) scOd.nd rfl (.inl rfl) (pe_call G hr rfl D.g D.kp D.b .nil pass0 (pa_cons (pv 0) (pa_cons pe_int pa_nil))))
      (pss_cons (ps_if (pt_cmpR op_lt (pv 1) pe_int (nomark _)) (pss_one (ps_ret (pe_ix ix_list (pe_lst (pa_cons pe_non (pa_cons pe_bl (pa_cons pe_bl (pa_cons pe_int (pa_cons pe_int (pa_cons (pe_un un_neg pe_int) (pa_cons pe_int (pa_cons pe_int (pa_cons pe_int (pa_cons (pe_op op_pow pe_int pe_int) (pa_cons (pe_un un_neg (pe_op op_pow pe_int pe_int)) pa_nil)))))))))))) (pv 1) (fun _ _ => rfl)))) pss_nil)
      (pss_cons (ps_if (pt_cmpR op_lt (pv 1) pe_int (nomark _)) (pss_one (ps_ret (pe_ix ix_list (pe_lst (pa_cons pe_str (pa_cons pe_str (pa_cons pe_str (pa_cons pe_str (pa_cons pe_str (pa_cons pe_str (pa_cons pe_str (pa_cons pe_str pa_nil))))))))) (pe_op op_sub (pv 1) pe_int) (fun _ _ => rfl)))) pss_nil)
      (pss_cons (ps_if (pt_cmpR op_lt (pv 1) pe_int (nomark _)) (pss_one (ps_ret (pe_ix ix_list (pe_lst (pa_cons (pe_lst pa_nil) (pa_cons (pe_lst (pa_cons pe_str pa_nil)) (pa_cons pe_dnewK (pa_cons (pe_disp (pps_cons pe_str pe_int pps_nil) (by rfl) (by rfl) (fun z => by cases z) (by decide)) pa_nil))))) (pe_op op_sub (pv 1) pe_int) (fun _ _ => rfl)))) pss_nil)
      (pss_one (ps_ret (pe_ix ix_list (pe_lst (pa_cons (pe_tup pa_nil) (pa_cons (pe_tup (pa_cons pe_str pa_nil)) (pa_cons (pe_tup (pa_cons pe_int (pa_cons pe_int pa_nil))) (pa_cons (pe_tup (pa_cons (pe_lst pa_nil) (pa_cons (pe_disp (pps_cons pe_str (pe_tup (pa_cons pe_int (pa_cons (pe_lst pa_nil) pa_nil))) pps_nil) (by rfl) (by rfl) (fun z => by cases z) (by decide)) pa_nil))) pa_nil))))) (pe_op op_sub (pv 1) pe_int) (fun _ _ => rfl))))))), ?_⟩
    have pw : CPow 10 38 := by refine ⟨?_, ?_, ?_⟩ <;> decide
    refine ⟨_, rfl, p, _, rfl, by decide, by decide, hp, fun d H1 d0 d1 hp1 b1 => ?_⟩
    obtain ⟨j, rfl, j1⟩ := int_lt d0 d1
    have nil : ∀ {H' : Hp}, ∀ x ∈ ([] : List V), Val p H' x := fun x hx => nomatch hx
    have vc : ∀ {H' : Hp} {y : V} {ys : List V}, Val p H' y → (∀ x ∈ ys, Val p H' x) → ∀ x ∈ y :: ys, Val p H' x := fun h1 h2 x hx => by
      rcases List.mem_cons.mp hx with rfl | hx
      · exact h1
      · exact h2 x hx
    have fin : ∀ {H' : Hp} {L : Addr} {xs : List V} {i : Int} {n : Nat}, H' L = some (.lst xs) → i = (n : Int) → n < xs.length → (∀ x ∈ xs, Val p H' x) → PoolAt H' p → But p H H' → rIxL K (.ref L) (.int i) H' Q := fun {H' L xs i n} hL ei hn hv hp' hb' => by
      subst ei
      obtain ⟨x, hx⟩ : ∃ x, xs[n]? = some x := ⟨_, List.getElem?_eq_getElem hn⟩
      exact ⟨L, xs, _, x, rfl, rfl, SqL.of hL, atI_nat hx, k x H' (hv x (List.mem_of_getElem? hx)) hp' hb'⟩
    refine ⟨_, rfl, _, _, rfl, rfl, _, rfl, ite2 (fun q => ?_) (fun q => ?_)⟩
    · have q' : j < 11 := by have := of_decide_eq_true q; omega
      refine ⟨_, rfl, _, _, rfl, rfl, pw, _, _, rfl, rfl, pw, _, rfl, (by show 11 ≤ sizeLine; decide), fun L hL => ⟨_, rfl, ?_⟩⟩
      have nL := hp1.ne hL
      exact fin upd_same rfl (by show j < 11; exact q') (vc (.inr .non) (vc (.inr (.bl _)) (vc (.inr (.bl _)) (vc (.inr (.int _)) (vc (.inr (.int _)) (vc (.inr (.int _)) (vc (.inr (.int _)) (vc (.inr (.int _)) (vc (.inr (.int _)) (vc (.inr (.int _)) (vc (.inr (.int _)) nil))))))))))) (hp1.put nL) (b1.upd hL)
    have q1 : 11 ≤ j := by
      have z : ¬ ((j : Int) < 11) := fun z => q (decide_eq_true z)
      omega
    refine ⟨_, rfl, _, _, rfl, rfl, _, rfl, ite2 (fun r => ?_) (fun r => ?_)⟩
    · have r' : j < 19 := by have := of_decide_eq_true r; omega
      refine ⟨(by show 8 ≤ sizeLine; decide), fun L hL => ⟨_, rfl, _, _, rfl, rfl, ?_⟩⟩
      have nL := hp1.ne hL
      refine fin (n := j - 11) upd_same (by omega) (by show j - 11 < 8; omega) ?_ (hp1.put nL) (b1.upd hL)
      refine vc (Val.lit [] ?_ (by decide) (by decide)) (vc (Val.lit [97] ?_ (by decide) (by decide)) (vc (Val.lit [97, 98] ?_ (by decide) (by decide)) (vc (Val.lit [65] ?_ (by decide) (by decide)) (vc (Val.lit [97, 32, 98] ?_ (by decide) (by decide)) (vc (Val.lit [97, 97] ?_ (by decide) (by decide)) (vc (Val.lit [97, 10] ?_ (by decide) (by decide)) (vc (Val.lit [97, 98, 99, 100, 101] ?_ (by decide) (by decide)) nil))))))) <;> decide +kernel
    have r1 : 19 ≤ j := by
      have z : ¬ ((j : Int) < 19) := fun z => r (decide_eq_true z)
      omega
    refine ⟨_, rfl, _, _, rfl, rfl, _, rfl, ite2 (fun u => ?_) (fun u => ?_)⟩
    · have u' : j < 23 := by have := of_decide_eq_true u; omega
      refine ⟨(by show 0 ≤ sizeLine; decide), fun a ha => ⟨(by show 1 ≤ sizeLine; decide), fun b hb => fun c hc => fun d hd => ⟨upd_same, [(Sum.inr "a", .int 1)], rfl, by decide, (by show 4 ≤ sizeLine; decide), fun L hL => ⟨_, rfl, _, _, rfl, rfl, ?_⟩⟩⟩⟩
      have na := hp1.ne ha
      have p2 := hp1.put (o := .lst []) na
      have nb := p2.ne hb
      have p3 := p2.put (o := .lst [.str "a"]) nb
      have nc := p3.ne hc
      have p4 := p3.put (o := .dK []) nc
      have nd := p4.ne hd
      have p5 := (p4.put (o := .dK []) nd).put (o := .dK (mergeK [] [(Sum.inr "a", .int 1)])) nd
      have nL := p5.ne hL
      have d3 := (((But.refl p _).upd (o := .dK []) hc)).free hd nd
      have d2 := ((((But.refl p _).upd (o := .lst [.str "a"]) hb).upd (o := .dK []) hc)).free hd nd
      have d1 := ((((But.refl p _).upd (o := .lst []) ha).upd (o := .lst [.str "a"]) hb).upd (o := .dK []) hc).free hd nd
      have ka := (((((But.refl p _).upd (o := .lst [.str "a"]) hb).upd (o := .dK []) hc).upd (o := .dK []) hd).new (o := .dK (mergeK [] [(Sum.inr "a", .int 1)])) d2).upd (o := .lst [.ref a, .ref b, .ref c, .ref d]) hL
      have kb := ((((But.refl p _).upd (o := .dK []) hc).upd (o := .dK []) hd).new (o := .dK (mergeK [] [(Sum.inr "a", .int 1)])) d3).upd (o := .lst [.ref a, .ref b, .ref c, .ref d]) hL
      have kc := (((But.refl p _).upd (o := .dK []) hd).new (o := .dK (mergeK [] [(Sum.inr "a", .int 1)])) hd).upd (o := .lst [.ref a, .ref b, .ref c, .ref d]) hL
      have kd := (But.refl p _).upd (o := .lst [.ref a, .ref b, .ref c, .ref d]) hL
      have kH := ((((((b1.upd (o := .lst []) ha).upd (o := .lst [.str "a"]) hb).upd (o := .dK []) hc).upd (o := .dK []) hd).new (o := .dK (mergeK [] [(Sum.inr "a", .int 1)])) (b1.free d1 nd)).upd (o := .lst [.ref a, .ref b, .ref c, .ref d]) hL)
      exact fin (n := j - 19) upd_same (by omega) (by show j - 19 < 4; omega)
        (vc (.inr (.lst (ka _ _ na upd_same) na)) (vc (.inr (.lst (kb _ _ nb upd_same) nb)) (vc (.inr (.dK (kc _ _ nc upd_same) nc)) (vc (.inr (.dK (kd _ _ nd upd_same) nd)) nil)))) (p5.put nL) kH
    · have u1 : 23 ≤ j := by
        have z : ¬ ((j : Int) < 23) := fun z => u (decide_eq_true z)
        omega
      refine ⟨(by show 0 ≤ sizeLine; decide), fun a ha => ⟨(by show 1 ≤ sizeLine; decide), fun b hb => ⟨(by show 2 ≤ sizeLine; decide), fun c hc => ⟨(by show 0 ≤ sizeLine; decide), fun d hd => fun e he => ⟨(by show 0 ≤ sizeLine; decide), fun f hf => ⟨(by show 2 ≤ sizeLine; decide), fun g hg => ?_⟩⟩⟩⟩⟩⟩
      have na := hp1.ne ha
      have p2 := hp1.put (o := .tup []) na
      have nb := p2.ne hb
      have p3 := p2.put (o := .tup [.str "a"]) nb
      have nc := p3.ne hc
      have p4 := p3.put (o := .tup [.int 0, .int 1]) nc
      have nd := p4.ne hd
      have p5 := p4.put (o := .lst []) nd
      have ne := p5.ne he
      have p6 := p5.put (o := .dK []) ne
      have nf := p6.ne hf
      have p7 := p6.put (o := .lst []) nf
      have ng := p7.ne hg
      have p8 := (p7.put (o := .tup [.int 1, .ref f]) ng).put (o := .dK (mergeK [] [(Sum.inr "a", .ref g)])) ne
      have ee := ((But.refl p _).upd (o := .lst []) hf).upd (o := .tup [.int 1, .ref f]) hg
      refine ⟨ee _ _ ne upd_same, [(Sum.inr "a", .ref g)], rfl, (by show 1 ≤ 15; decide), (by show 2 ≤ sizeLine; decide), fun t ht => ⟨(by show 4 ≤ sizeLine; decide), fun L hL => ⟨_, rfl, _, _, rfl, rfl, ?_⟩⟩⟩
      have nt := p8.ne ht
      have p9 := p8.put (o := .tup [.ref d, .ref e]) nt
      have nL := p9.ne hL
      have e4 := ((But.refl p _).upd (o := .lst []) hd).free he ne
      have e3 := (((But.refl p _).upd (o := .tup [.int 0, .int 1]) hc).upd (o := .lst []) hd).free he ne
      have e2 := ((((But.refl p _).upd (o := .tup [.str "a"]) hb).upd (o := .tup [.int 0, .int 1]) hc).upd (o := .lst []) hd).free he ne
      have e1 := (((((But.refl p _).upd (o := .tup []) ha).upd (o := .tup [.str "a"]) hb).upd (o := .tup [.int 0, .int 1]) hc).upd (o := .lst []) hd).free he ne
      have kt := (But.refl p _).upd (o := .lst [.ref a, .ref b, .ref c, .ref t]) hL
      have kc := ((((((((But.refl p _).upd (o := .lst []) hd).upd (o := .dK []) he).upd (o := .lst []) hf).upd (o := .tup [.int 1, .ref f]) hg).new (o := .dK (mergeK [] [(Sum.inr "a", .ref g)])) e4).upd (o := .tup [.ref d, .ref e]) ht)).upd (o := .lst [.ref a, .ref b, .ref c, .ref t]) hL
      have kb := (((((((((But.refl p _).upd (o := .tup [.int 0, .int 1]) hc).upd (o := .lst []) hd).upd (o := .dK []) he).upd (o := .lst []) hf).upd (o := .tup [.int 1, .ref f]) hg).new (o := .dK (mergeK [] [(Sum.inr "a", .ref g)])) e3).upd (o := .tup [.ref d, .ref e]) ht)).upd (o := .lst [.ref a, .ref b, .ref c, .ref t]) hL
      have ka := ((((((((((But.refl p _).upd (o := .tup [.str "a"]) hb).upd (o := .tup [.int 0, .int 1]) hc).upd (o := .lst []) hd).upd (o := .dK []) he).upd (o := .lst []) hf).upd (o := .tup [.int 1, .ref f]) hg).new (o := .dK (mergeK [] [(Sum.inr "a", .ref g)])) e2).upd (o := .tup [.ref d, .ref e]) ht)).upd (o := .lst [.ref a, .ref b, .ref c, .ref t]) hL
      have kH := ((((((((((b1.upd (o := .tup []) ha).upd (o := .tup [.str "a"]) hb).upd (o := .tup [.int 0, .int 1]) hc).upd (o := .lst []) hd).upd (o := .dK []) he).upd (o := .lst []) hf).upd (o := .tup [.int 1, .ref f]) hg).new (o := .dK (mergeK [] [(Sum.inr "a", .ref g)])) (b1.free e1 ne)).upd (o := .tup [.ref d, .ref e]) ht)).upd (o := .lst [.ref a, .ref b, .ref c, .ref t]) hL
      exact fin (n := j - 23) upd_same (by omega) (by show j - 23 < 4; omega)
        (vc (.inr (.tup (ka _ _ na upd_same) na)) (vc (.inr (.tup (kb _ _ nb upd_same) nb)) (vc (.inr (.tup (kc _ _ nc upd_same) nc)) (vc (.inr (.tup (kt _ _ nt upd_same) nt)) nil)))) (p9.put nL) kH
end
end Wb
namespace Wb
open PySem L2 WbMin WbO WbT
theorem PoolAt.same {H H' : Hp} {p : Addr} (h : PoolAt H p) (s : Same H H') : PoolAt H' p := by
  obtain ⟨a, b, c, e, r⟩ := h
  exact ⟨a, b, c, s _ _ e, r⟩
theorem dp_strs {K : PySem.W.Frag} {H : Hp} : ∀ zs : List Str, DpAll K H (zs.map V.str) (zs.map PyData.str)
  | [] => .nil
  | z :: r => .cons (.str z) (dp_strs r)
theorem dp_ints {K : PySem.W.Frag} {H : Hp} : ∀ zs : List Int, DpAll K H (zs.map V.int) (zs.map PyData.int)
  | [] => .nil
  | z :: r => .cons (.int z) (dp_ints r)
theorem can_strs : ∀ {zs : List Str}, (∀ z ∈ zs, PyData.strOk z = true) → PyData.canLayAll0 (zs.map PyData.str) = true
  | [], _ => rfl
  | z :: r, h => by
    show (PyData.strOk z && PyData.canLayAll0 (r.map PyData.str)) = true
    rw [h z List.mem_cons_self, can_strs fun y q => h y (List.mem_cons_of_mem _ q)] <;> rfl
theorem can_ints : ∀ zs : List Int, PyData.canLayAll0 (zs.map PyData.int) = true
  | [] => rfl
  | z :: r => by
    show (true && PyData.canLayAll0 (r.map PyData.int)) = true
    rw [can_ints r] <;> rfl
theorem depth_ints : ∀ zs : List Int, PyData.depthAll (zs.map PyData.int) = 0
  | [] => rfl
  | z :: r => by
    show max (PyData.depth (.int z)) (PyData.depthAll (r.map PyData.int)) = 0
    rw [depth_ints r] <;> rfl
theorem shaped_ints (zs : List Int) : SeqAt.shaped (.list (zs.map PyData.int)) = true := by
  have d : PyData.depth (.list (zs.map PyData.int)) = 1 := by
    show PyData.depthAll (zs.map PyData.int) + 1 = 1
    rw [depth_ints]
  unfold SeqAt.shaped
  rw [d]
  show (PyData.canLayAll0 (zs.map PyData.int) && decide (1 ≤ 64)) = true
  rw [can_ints] <;> rfl
theorem shaped_strs {zs : List Str} (h : ∀ z ∈ zs, PyData.strOk z = true) : SeqAt.shaped (.list (zs.map PyData.str)) = true := by
  have d : PyData.depth (.list (zs.map PyData.str)) = 1 := by
    show PyData.depthAll (zs.map PyData.str) + 1 = 1
    rw [depthAll_strs]
  unfold SeqAt.shaped
  rw [d]
  show (PyData.canLayAll0 (zs.map PyData.str) && decide (1 ≤ 64)) = true
  rw [can_strs h] <;> rfl
theorem ok_one {c : Nat} (h : c < 1000) : PyData.strOk (one c) = true := by
  unfold PyData.strOk one
  rw [Array.all_eq_true]
  intro i hi
  have e : i = 0 := by
    have : i < 1 := hi
    omega
  subst e
  show decide _ = true
  simp only [decide_eq_true_eq]
  show c < _
  omega
theorem eqv_nil {α : Type} (f : α → PyData) : ∀ zs : List α, PyData.eqv (.list (zs.map f)) (.list []) = zs.isEmpty
  | [] => rfl
  | _ :: _ => rfl
theorem abc_mem (c : Nat) : decide (c ∈ abc) = okc c := by
  unfold okc
  rw [Bool.eq_iff_iff, decide_eq_true_iff, Bool.and_eq_true, decide_eq_true_iff, decide_eq_true_iff]
  unfold abc
  rw [List.mem_map]
  constructor
  · rintro ⟨a, ha, rfl⟩
    have := List.mem_range.mp ha
    omega
  · rintro ⟨h1, h2⟩
    exact ⟨c - 97, List.mem_range.mpr (by omega), by omega⟩
theorem filter_none {α : Type} (f : α → Bool) : ∀ l : List α, (l.filter fun c => !f c).isEmpty = l.all f
  | [] => rfl
  | c :: l => by
    cases h : f c with
    | true =>
      rw [List.filter_cons_of_neg (by simp [h]), List.all_cons, h, Bool.true_and]
      exact filter_none f l
    | false =>
      rw [List.filter_cons_of_pos (by simp [h]), List.all_cons, h] <;> rfl
section
variable {P : Program} {w : World} {K : PySem.W.Frag} {mg : Str → Option Value} {base : Heap} {f fD fW fR : Addr} {fd fdD dW dR : FuncData}
theorem scIL : FnScope ["_law_thing", "_law_abc", "_law_mark"] ["_law_thing", "_law_abc"] (defScope sIsWL) := ⟨rfl, rfl, rfl, by decide +kernel, rfl, by decide +kernel, by decide +kernel⟩
set_option maxHeartbeats 0 in
theorem ok_iswl (F : Fun K "_law_is_word" "_law_is_word" sIsWL f fd) (Z : Free mg) : FnOk P w K mg base CX0 1 f fd ["_law_thing", "_law_abc"] spIsWL := by
  refine F.ok scIL (fun vs H Q E h => ?_) (fun cdv A outer s H vs Q E hr h => ?_)
  · obtain ⟨p, x, b, rfl, _⟩ := h
    rfl
  · obtain ⟨p, x, b, rfl, ha, k⟩ := h
    refine ⟨_, pss_cons (ps_if (PW.pt (pw_or (pt_not (pt_val (pe_callB call_isi (by rfl) Z.isi (by decide +kernel) (pa_cons (pv 0) (pa_cons (pe_bltn (v := .ty "str") (u := .type "str") (by rfl) Z.str (by decide +kernel) rfl) pa_nil)))))
        (pw_or (pt_cmpR op_eq (pv 0) pe_str (nomark _)) (pw_or1 (pt_cmpR op_gt (pe_callB call_len_str (by rfl) Z.len PySem.boot_len (pa_cons (pv 0) pa_nil)) pe_int (nomark _)))))) (pss_one (ps_ret pe_bl)) pss_nil)
      (pss_one (ps_ret (pe_cmpR (op_eqD hr.units) (pe_lc (own := [("_law_mark", 2)]) (g := gName 2) rfl scIL.nd (pi_str (pv 0)) (blkOk_by (N := ["_law_thing", "_law_abc", "_law_mark"]) (sc := defScope sIsWL) (by decide +kernel))
          (fun _ _ _ _ _ => pg_name (i := 2) scIL.nd rfl (.inl rfl)) (fun _ _ _ _ _ => pts_one (pt_cmpR op_notIn_sign (pv 2) (pv 1) rfl)) (fun _ _ _ _ _ => pv 2)) (pe_lst pa_nil) (nomark _)))), ?_⟩
    rcases ha with ⟨l, rfl, tl, rfl⟩ | ⟨ho, rfl⟩
    · have few := tl.few
      have no : ¬ (1 ≤ l.length ∧ l.length ≤ 600) → Q (.bl false) H := fun z => by
        have e : isWB l = false := by
          cases e : isWB l with
          | false => rfl
          | true =>
            have q := isWB_iff.mp e
            exact absurd ⟨q.pos, q.few⟩ z
        have q := k H (Same.refl H)
        rw [e] at q
        exact q
      refine ⟨_, rfl, _, _, .type "str", .type "str", true, rfl, .ty "str", .base (.str _), kit_ty (by decide +kernel), true, rfl, ?_⟩
      refine ⟨_, rfl, rfl, _, rfl, ite2 (fun q => ?_) (fun q => ?_)⟩
      · refine no fun z => ?_
        have q1 : S l = Str.ofString "" := by injection of_decide_eq_true q
        have q2 : (S l).length = 0 := by rw [q1]; decide +kernel
        rw [S_len] at q2
        omega
      · have l0 : 1 ≤ l.length := by
          cases l with
          | nil => exact absurd (decide_eq_true (congrArg V.str (show S [] = Str.ofString "" by decide +kernel))) q
          | cons c l => exact Nat.succ_le_succ (Nat.zero_le _)
        refine ⟨_, rfl, _, rfl, tl.fits, _, _, rfl, rfl, _, rfl, ite2 (fun q => ?_) (fun q => ?_)⟩
        · refine no fun z => ?_
          have q1 := of_decide_eq_true q
          rw [S_len] at q1
          omega
        · have l1 : l.length ≤ 600 := by
            have z : ¬ ((600 : Int) < ((S l).length : Int)) := fun z => q (decide_eq_true z)
            rw [S_len] at z
            omega
          refine ⟨_, rfl, _, rfl, fun D hD => lc_it walk_str (fun i H3 => H3 D = some (.lst (((l.take i).filter fun c => !okc c).map vOne)) ∧ Same H H3) ⟨upd_same, Same.put (Same.refl H) hD⟩ (fun _ _ _ _ => trivial) ?_ ?_⟩
          · rintro i x H3 H3' hi ⟨h1, h2⟩ ⟨rfl, c, hc, rfl⟩
            have hc' : l[i]? = some c := by simpa [S] using hc
            refine ⟨rfl, _, rfl, _, rfl, c, S abc, rfl, rfl, _, rfl, ?_⟩
            rw [S_cps, abc_mem]
            cases hk : okc c with
            | true =>
              refine iteF ⟨?_, h2⟩
              rw [h1, take_more hc', List.filter_append, show ([c].filter fun c => !okc c) = [] from List.filter_cons_of_neg (by simp [hk]), List.append_nil]
            | false =>
              refine iteT ⟨_, rfl, _, h1, ?_, ?_, Same.new' h2 hD⟩
              · rw [List.length_map, sizeLine_eq]
                have := List.length_filter_le (fun c => !okc c) (l.take i)
                have := List.length_take_le' i l
                omega
              · rw [upd_same, take_more hc', List.filter_append, List.map_append, show ([c].filter fun c => !okc c) = [c] from List.filter_cons_of_pos (by simp [hk])] <;> rfl
          · rintro H3 ⟨h1, h2⟩
            rw [S_size, List.take_length] at h1
            refine ⟨(by show 0 ≤ sizeLine; decide), fun M hM => ?_⟩
            have nD : D ≠ M := ne_of_none h1 hM
            have h1' : H3 D = some (.lst (((l.filter fun c => !okc c).map one).map V.str)) := by rw [h1, List.map_map] <;> rfl
            refine ⟨_, _, .lst (SqL.of (by rw [upd_ne nD, h1'])) (dp_strs _), .lst (SqL.of upd_same) .nil, shaped_strs fun z hz => ?_, rfl, ?_⟩
            · obtain ⟨c, hc, rfl⟩ := List.mem_map.mp hz
              exact ok_one (tl.cod c (List.mem_filter.mp hc).1)
            · have q := k _ (Same.put (o := .lst []) h2 hM)
              have e : isWB l = PyData.eqv (.list (((l.filter fun c => !okc c).map one).map PyData.str)) (.list []) := by
                rw [eqv_nil]
                have e1 : ((l.filter fun c => !okc c).map one).isEmpty = (l.filter fun c => !okc c).isEmpty := by cases (l.filter fun c => !okc c) <;> rfl
                rw [e1, filter_none]
                unfold isWB
                rw [decide_eq_true l0, decide_eq_true l1] <;> rfl
              rw [e] at q
              exact q
    · obtain ⟨t, ty, kt⟩ := ho.ty (K := K)
      exact ⟨_, rfl, _, _, t, .type "str", false, rfl, .ty "str", ty, kt, false, rfl, k H (Same.refl H)⟩
theorem scRL : FnScope ["_law_word_here", "_law_at", "_law_many", "_law_begin"] ["_law_word_here", "_law_at", "_law_many"] (defScope sRead) := ⟨rfl, rfl, rfl, by decide +kernel, rfl, by decide +kernel, by decide +kernel⟩
theorem ok_readl (F : Fun K "_law_read" "_law_read" sRead f fd) (Z : Free mg) : FnOk P w K mg base CX0 1 f fd ["_law_word_here", "_law_at", "_law_many"] spReadL := by
  refine F.ok scRL (fun vs H Q E h => ?_) (fun cdv A outer s H vs Q E hr h => ?_)
  · obtain ⟨l, i, n, rfl, _⟩ := h
    rfl
  · obtain ⟨l, i, m, rfl, W, n2, k⟩ := h
    refine ⟨_, pss_cons (ps_set (i := 3) scRL.nd rfl (.inl rfl) (pe_op op_modN (pe_callTy call_int1 (by rfl) Z.int (by decide +kernel) (pa_cons (pv 1) pa_nil)) (pe_callB call_len_str (by rfl) Z.len PySem.boot_len (pa_cons (pv 0) pa_nil))))
      (pss_one (ps_ret (pe_slice sl_str (pe_op op_mulS (pv 0) (pe_op op_add (pe_op op_fdivN (pv 2) (pe_callB call_len_str (by rfl) Z.len PySem.boot_len (pa_cons (pv 0) pa_nil))) pe_int)) (po_some (pv 3)) (po_some (pe_op op_add (pv 3) (pv 2)))))), ?_⟩
    have l0 := W.pos
    have l1 := W.few
    have s1 : i % l.length < l.length := Nat.mod_lt _ l0
    have e1 : Int.fmod (i : Int) ((S l).length : Int) = ((i % l.length : Nat) : Int) := by
      rw [S_len, Int.fmod_eq_emod_of_nonneg _ (Int.natCast_nonneg _)] <;> rfl
    have e2 : Int.fdiv (m : Int) ((S l).length : Int) + 2 = ((m / l.length + 2 : Nat) : Int) := by
      rw [S_len, Int.fdiv_eq_ediv_of_nonneg _ (Int.natCast_nonneg _)] <;> rfl
    refine ⟨_, rfl, .inl ⟨_, rfl, _, rfl, _, rfl, W.fits, _, _, rfl, rfl, (by rw [S_len]; omega), ?_⟩⟩
    dsimp only
    rw [e1]
    generalize hst : i % l.length = st at s1
    refine ⟨_, rfl, _, rfl, _, rfl, _, rfl, W.fits, _, _, rfl, rfl, ⟨by rw [S_len]; omega, by rw [S_len]; omega⟩, _, _, rfl, rfl, ?_⟩
    dsimp only
    rw [e2]
    have d1 := Nat.div_mul_le_self m l.length
    have d2 : st + m ≤ (m / l.length + 2) * l.length := by
      have := Nat.lt_div_mul_add (a := m) l0
      rw [Nat.add_mul]
      omega
    have d3 : (m / l.length + 2) * l.length ≤ 4000 := by
      rw [Nat.add_mul]
      omega
    have d4 : m / l.length ≤ m := Nat.div_le_self _ _
    have e3 : Txt.mul (S l) ((m / l.length + 2 : Nat) : Int) = S ((List.replicate (m / l.length + 2) l).flatten) := S_eq (by rw [mul_cps (Int.natCast_nonneg _), S_cps, Int.toNat_natCast])
    refine ⟨_, _, rfl, rfl, ?_, ?_⟩
    · refine mulOk (Int.natCast_nonneg _) ?_ (by omega)
      rw [S_len, Int.toNat_natCast, Nat.mul_comm]
      omega
    dsimp only
    rw [e3]
    refine ⟨_, rfl, _, rfl, _, rfl, _, rfl, _, _, rfl, rfl, _, rfl, _, rfl, ?_, ?_⟩
    · rw [S_len, rep_len, sizeLine_eq]
      omega
    · have e4 : cutS (S ((List.replicate (m / l.length + 2) l).flatten)) (some (st : Int)) (some ((st : Int) + (m : Int))) = S (readN l i m) := by
        have q := cut_mid (l := (List.replicate (m / l.length + 2) l).flatten) (i := st) (j := st + m) (by omega) (by rw [rep_len]; exact d2)
        rw [Int.natCast_add] at q
        rw [q, show st + m - st = m by omega, rep_read l0 d2, ← hst, readN_mod]
      rw [e4]
      exact k
theorem scRB : FnScope ["_law_word_here", "_law_thing", "_law_at"] ["_law_word_here", "_law_thing"] (defScope sReadable) := ⟨rfl, rfl, rfl, by decide +kernel, rfl, by decide +kernel, by decide +kernel⟩
set_option maxHeartbeats 0 in
theorem ok_readable (F : Fun K "_law_readable" "_law_readable" sReadable f fd) (DW : Def K mg "_law_is_word" sIsWL ["_law_thing", "_law_abc"] fW dW) (DR : Def K mg "_law_read" sRead ["_law_word_here", "_law_at", "_law_many"] fR dR) (Z : Free mg) : FnOk P w K mg base CX0 2 f fd ["_law_word_here", "_law_thing"] spReadable := by
  have GW : FnOk P w K mg base CX0 1 fW dW ["_law_thing", "_law_abc"] spIsWL := ok_iswl DW.F Z
  have GR : FnOk P w K mg base CX0 1 fR dR ["_law_word_here", "_law_at", "_law_many"] spReadL := ok_readl DR.F Z
  refine F.ok scRB (fun vs H Q E h => ?_) (fun cdv A outer s H vs Q E hr h => ?_)
  · obtain ⟨p, l, x, b, rfl, _⟩ := h
    rfl
  · obtain ⟨p, l, x, b, rfl, W, ha, k⟩ := h
    refine ⟨_, pss_cons (ps_if (pt_not (pt_val (pe_call GW hr rfl DW.g DW.kp DW.b .nil pass0 (pa_cons (pv 1) (pa_cons pe_str pa_nil))))) (pss_one (ps_ret pe_bl)) pss_nil)
      (pss_one (ps_ret (pe_cmpR (op_neD hr.units) (pe_lc (own := [("_law_at", 2)]) (g := gName 2) rfl scRB.nd (pi_range1 rfl Z.range (pa_cons (pe_callB call_len_str (by rfl) Z.len PySem.boot_len (pa_cons (pv 0) pa_nil)) pa_nil)) (blkOk_by (N := ["_law_word_here", "_law_thing", "_law_at"]) (sc := defScope sReadable) (by decide +kernel))
          (fun _ _ _ _ _ => pg_name (i := 2) scRB.nd rfl (.inl rfl)) (fun _ _ _ _ _ => pts_one (pt_cmpR op_eq (pe_call GR hr rfl DR.g DR.kp DR.b .nil pass0 (pa_cons (pv 0) (pa_cons (pv 2) (pa_cons (pe_callB call_len_str (by rfl) Z.len PySem.boot_len (pa_cons (pv 1) pa_nil)) pa_nil)))) (pv 1) (nomark _))) (fun _ _ _ _ _ => pv 2)) (pe_lst pa_nil) (nomark _)))), ?_⟩
    have l0 := W.pos
    have l1 := W.few
    rcases ha with ⟨z, rfl, tz, rfl⟩ | ⟨ho, rfl⟩
    · have zf := tz.few
      refine ⟨_, rfl, p, _, isWB z, by rw [← abc_is] <;> rfl, .inl ⟨z, rfl, tz, rfl⟩, fun H1 s1 => ⟨_, rfl, ?_⟩⟩
      cases hw : isWB z with
      | false =>
        refine iteT ?_
        have q := k H1 s1
        dsimp only at q
        rw [hw] at q
        exact q
      | true =>
        refine iteF ?_
        refine ⟨_, rfl, _, rfl, W.fits, _, rfl, by rw [S_len]; omega, by rw [S_len]; omega, fun D hD => lc_it walk_range (fun i H3 => H3 D = some (.lst ((((List.range i).filter fun j => decide (readN l j z.length = z)).map fun j : Nat => (0 + (j : Int))).map V.int)) ∧ Same H1 H3) ⟨upd_same, Same.put (Same.refl H1) hD⟩ (fun _ _ _ _ => trivial) ?_ ?_⟩
        · rintro i x H3 H3' hi ⟨h1, h2⟩ ⟨rfl, rfl⟩
          rw [S_len] at hi
          refine ⟨rfl, _, rfl, _, rfl, _, rfl, _, rfl, tz.fits, l, i, z.length, by show [V.str (S l), V.int (0 + (i : Int)), V.int ((S z).length : Int)] = _; rw [Int.zero_add, S_len], W, zf, _, rfl, rfl, _, rfl, ite2 (fun q => ?_) (fun q => ?_)⟩
          · have e : readN l i z.length = z := S_inj (by injection of_decide_eq_true q)
            refine ⟨_, rfl, _, h1, ?_, ?_, Same.new' h2 hD⟩
            · rw [List.length_map, List.length_map, sizeLine_eq]
              have := List.length_filter_le (fun j => decide (readN l j z.length = z)) (List.range i)
              rw [List.length_range] at this
              omega
            · rw [upd_same, List.range_succ, List.filter_append, List.map_append, List.map_append, show ([i].filter fun j => decide (readN l j z.length = z)) = [i] from List.filter_cons_of_pos (decide_eq_true e)] <;> rfl
          · have e : ¬ readN l i z.length = z := fun e => q (decide_eq_true (congrArg V.str (congrArg S e)))
            refine ⟨?_, h2⟩
            rw [h1, List.range_succ, List.filter_append, show ([i].filter fun j => decide (readN l j z.length = z)) = [] from List.filter_cons_of_neg (by rw [decide_eq_false e]; exact Bool.false_ne_true), List.append_nil]
        · rintro H3 ⟨h1, h2⟩
          rw [S_len, Int.toNat_natCast] at h1
          refine ⟨(by show 0 ≤ sizeLine; decide), fun M hM => ?_⟩
          have nD : D ≠ M := ne_of_none h1 hM
          refine ⟨_, _, .lst (SqL.of (by rw [upd_ne nD, h1])) (dp_ints _), .lst (SqL.of upd_same) .nil, shaped_ints _, rfl, ?_⟩
          have q := k _ ((s1.trans h2).trans (Same.put (o := .lst []) (Same.refl _) hM))
          have e : (isWB z && canRead l z) = !PyData.eqv (.list ((((List.range l.length).filter fun j => decide (readN l j z.length = z)).map fun j : Nat => (0 + (j : Int))).map PyData.int)) (.list []) := by
            rw [eqv_nil, hw, Bool.true_and]
            unfold canRead
            have e1 : ∀ xs : List Nat, (!(xs.map fun j : Nat => (0 + (j : Int))).isEmpty) = !xs.isEmpty := fun xs => by cases xs <;> rfl
            have e2 : ∀ (g : Nat → Bool) (xs : List Nat), (!(xs.filter g).isEmpty) = xs.any g := fun g xs => by
              induction xs with
              | nil => rfl
              | cons y ys ih =>
                rw [List.any_cons]
                cases hg : g y with
                | true => rw [List.filter_cons_of_pos hg] <;> rfl
                | false => rw [List.filter_cons_of_neg (by simp [hg]), ih] <;> rfl
            rw [e1, e2]
          dsimp only at q
          rw [e] at q
          exact q
    · refine ⟨_, rfl, p, _, false, by rw [← abc_is] <;> rfl, .inr ⟨ho, rfl⟩, fun H1 s1 => ⟨_, rfl, ?_⟩⟩
      exact iteT (k H1 s1)
end
end Wb
namespace Wb
open PySem L2 WbMin WbO WbT
theorem RingAt.at {C : Addr} {H : Hp} {r : Addr} {l : List Nat} (h : RingAt C H r l) : H r = some (.ins C h.2.choose (rf (textS l) (perN l))) := h.2.choose_spec
/-- can this text be read from this ring -/
def goodR (l z : List Nat) : Bool := isWB z && canRead l z
def spIn (C : Addr) : Sp := fun vs H Q _ => ∃ (p r : Addr) (l : List Nat) (x : V) (b : Bool), vs = [.ref r, x] ∧ RingAt C H r l ∧ Ans p H x (goodR l) b ∧ ∀ H', Same H H' → Q (.bl b) H'
section
variable {P : Program} {w : World} {K : PySem.W.Frag} {mg : Str → Option Value} {base : Heap} {f fD fW fR fS fO fL C : Addr} {fd fdD dW dR dS dO dL : FuncData}
theorem scIn : FnScope ["self", "word", "times"] ["self", "word"] (defScope sIn) := ⟨rfl, rfl, rfl, by decide +kernel, rfl, by decide +kernel, by decide +kernel⟩
set_option maxHeartbeats 0 in
theorem ok_in (F : Fun K "__contains__" "Ring.__contains__" sIn f fd) (T : Txt K mg C) (Z : Free mg) (DW : Def K mg "is_word" sIsWord ["value"] fW dW) (t6 : Tok) (g6 : mg "MOST_WORD" = some (.int 600 t6)) : FnOk P w K mg base CX0 2 f fd ["self", "word"] (spIn C) := by
  have GW : FnOk P w K mg base CX0 1 fW dW ["value"] spIsWordX := ok_iswordX DW.F Z t6 g6
  refine F.ok scIn (fun vs H Q E h => ?_) (fun cdv A outer s H vs Q E hr h => ?_)
  · obtain ⟨p, r, l, x, b, rfl, _⟩ := h
    rfl
  · obtain ⟨p, r, l, x, b, rfl, R0, ha, k⟩ := h
    refine ⟨_, pss_cons (ps_if (pt_not (pt_val (pe_call GW hr rfl DW.g DW.kp DW.b .nil pass0 (pa_cons (pv 1) pa_nil)))) (pss_one (ps_ret pe_bl)) pss_nil)
      (pss_cons (ps_set (i := 2) scIn.nd rfl (.inl rfl) (pe_op op_add (pe_op op_fdivN (pe_callB call_len_str (by rfl) Z.len PySem.boot_len (pa_cons (pv 1) pa_nil)) (pe_callB call_len_str (by rfl) Z.len PySem.boot_len (pa_cons (pe_fld (pv 0) rfl) pa_nil))) pe_int))
      (pss_one (ps_ret (pe_cmpR op_in_str (pv 1) (pe_op op_mulS (pe_fld (pv 0) rfl) (pv 2)) (by rfl))))), ?_⟩
    have W := R0.1
    have l0 := W.pos
    have l1 := W.few
    rcases ha with ⟨z, rfl, tz, rfl⟩ | ⟨ho, rfl⟩
    · refine ⟨_, rfl, p, _, isWB z, rfl, .inl ⟨z, rfl, tz, rfl⟩, fun H1 s1 => ⟨_, rfl, ?_⟩⟩
      have k1 := k H1 s1
      unfold goodR at k1
      have zf := tz.few
      cases hw : isWB z with
      | false =>
        refine iteT ?_
        rw [hw] at k1
        exact k1
      | true =>
        refine iteF ?_
        rw [hw, Bool.true_and, ← read_in l0] at k1
        have R1 := R0.same s1
        have d1 := Nat.div_mul_le_self z.length l.length
        have d3 : (z.length / l.length + 2) * l.length ≤ 4000 := by
          rw [Nat.add_mul]
          omega
        have d4 : z.length / l.length ≤ z.length := Nat.div_le_self _ _
        have e2 : Int.fdiv ((S z).length : Int) ((textS l).length : Int) + 2 = ((z.length / l.length + 2 : Nat) : Int) := by
          rw [S_len, text_len l0, Int.fdiv_eq_ediv_of_nonneg _ (Int.natCast_nonneg _)] <;> rfl
        have e3 : Txt.mul (textS l) ((z.length / l.length + 2 : Nat) : Int) = S ((List.replicate (z.length / l.length + 2) (tx l)).flatten) := S_eq (by rw [mul_cps (Int.natCast_nonneg _), Int.toNat_natCast] <;> rfl)
        refine ⟨_, rfl, _, rfl, tz.fits, _, rfl, r, C, _, _, _, rfl, R1.at, T.cl, T.nT, rf_text _ _, _, rfl, text_fits W, _, _, rfl, rfl, ⟨by rw [text_len l0]; omega, by rw [text_len l0]; omega⟩, _, _, rfl, rfl, ?_⟩
        dsimp only
        rw [e2]
        refine ⟨_, rfl, _, rfl, r, C, _, _, _, rfl, R1.at, T.cl, T.nT, rf_text _ _, _, rfl, _, _, rfl, rfl, ?_, ?_⟩
        · refine mulOk (Int.natCast_nonneg _) ?_ (by omega)
          rw [text_len l0, Int.toNat_natCast, Nat.mul_comm]
          omega
        dsimp only
        rw [e3]
        exact ⟨_, _, rfl, rfl, k1⟩
    · refine ⟨_, rfl, p, _, false, rfl, .inr ⟨ho, rfl⟩, fun H1 s1 => ⟨_, rfl, ?_⟩⟩
      exact iteT (k H1 s1)
abbrev NN : List Str := ["_law_pool_here", "_law_word_here", "_law_way", "_law_at", "_law_many", "_law_line", "_law_spot", "_law_mark"]
theorem scNe : FnScope NN ["_law_pool_here", "_law_word_here"] (defScope sNear) := ⟨rfl, rfl, rfl, by decide +kernel, rfl, by decide +kernel, by decide +kernel⟩
set_option maxHeartbeats 0 in
theorem ok_near (F : Fun K "_law_near" "_law_near" sNear f fd) (D : Def K mg "_law_draw" sDraw ["_law_pool_here", "_law_many"] fD fdD) (DR : Def K mg "_law_read" sRead ["_law_word_here", "_law_at", "_law_many"] fR dR) (DO : Def K mg "_law_odd" sOdd ["_law_pool_here"] fO dO) (DL : Def K mg "_law_word" sWord ["_law_pool_here", "_law_abc", "_law_most"] fL dL) (Z : Free mg) : FnOk P w K mg base CX0 3 f fd ["_law_pool_here", "_law_word_here"] spNear := by
  have G : FnOk P w K mg base CX0 1 fD fdD ["_law_pool_here", "_law_many"] spDraw := ok_draw D.F Z.int Z.divmod
  have GR : FnOk P w K mg base CX0 1 fR dR ["_law_word_here", "_law_at", "_law_many"] spReadL := ok_readl DR.F Z
  have GO : FnOk P w K mg base CX0 2 fO dO ["_law_pool_here"] spOdd := ok_odd DO.F D Z
  have GL : FnOk P w K mg base CX0 2 fL dL ["_law_pool_here", "_law_abc", "_law_most"] spWord := ok_word DL.F D Z.int Z.divmod Z.len Z.range
  refine F.ok scNe (fun vs H Q E h => ?_) (fun cdv A outer s H vs Q E hr h => ?_)
  · obtain ⟨p, l, rfl, _⟩ := h
    rfl
  · obtain ⟨p, l, rfl, W, hp, k⟩ := h
    have hr1 : Room 1 _ := hr.mono (by decide)
    refine ⟨_, pss_cons (ps_par (i := 2) (j := 3) (by rfl) scNe.nd rfl rfl (by decide) rfl rfl (pa_cons (pe_call G hr1 rfl D.g D.kp D.b .nil pass0 (pa_cons (pv 0) (pa_cons pe_int pa_nil))) (pa_cons (pe_call G hr1 rfl D.g D.kp D.b .nil pass0 (pa_cons (pv 0) (pa_cons (pe_callB call_len_str (by rfl) Z.len PySem.boot_len (pa_cons (pv 1) pa_nil)) pa_nil))) pa_nil)) (by rfl))
      (pss_cons (ps_set (i := 4) scNe.nd rfl (.inl rfl) (pe_op op_add pe_int (pe_call G hr1 rfl D.g D.kp D.b .nil pass0 (pa_cons (pv 0) (pa_cons (pe_ix ix_list (pe_lst (pa_cons (pe_op op_mul pe_int (pe_callB call_len_str (by rfl) Z.len PySem.boot_len (pa_cons (pv 1) pa_nil))) (pa_cons pe_int pa_nil))) (pe_call G hr1 rfl D.g D.kp D.b .nil pass0 (pa_cons (pv 0) (pa_cons pe_int pa_nil))) (fun _ _ => rfl)) pa_nil)))))
      (pss_cons (ps_set (i := 5) scNe.nd rfl (.inl rfl) (pe_call GR hr1 rfl DR.g DR.kp DR.b .nil pass0 (pa_cons (pv 1) (pa_cons (pv 3) (pa_cons (pe_callB (call_min2 rfl) (by rfl) Z.min (by decide +kernel) (pa_cons (pv 4) (pa_cons pe_int pa_nil))) pa_nil)))))
      (pss_cons (ps_set (i := 6) scNe.nd rfl (.inl rfl) (pe_call G hr1 rfl D.g D.kp D.b .nil pass0 (pa_cons (pv 0) (pa_cons (pe_callB call_len_str (by rfl) Z.len PySem.boot_len (pa_cons (pv 5) pa_nil)) pa_nil))))
      (pss_cons (ps_if (pt_cmpR op_lt (pv 2) pe_int (nomark _)) (pss_one (ps_ret (pv 5))) pss_nil)
      (pss_cons (ps_if (pt_cmpR op_lt (pv 2) pe_int (nomark _))
        (pss_cons (ps_set (i := 7) scNe.nd rfl (.inl rfl) (pe_ix ix_str (pe_op op_add_str (pv 1) pe_str) (pe_call G hr1 rfl D.g D.kp D.b .nil pass0 (pa_cons (pv 0) (pa_cons (pe_op op_add (pe_callB call_len_str (by rfl) Z.len PySem.boot_len (pa_cons (pv 1) pa_nil)) pe_int) pa_nil))) (fun _ _ => rfl)))
        (pss_one (ps_ret (pe_op op_add_str (pe_op op_add_str (pe_slice sl_str (pv 5) po_none (po_some (pv 6))) (pv 7)) (pe_slice sl_str (pv 5) (po_some (pe_op op_add (pv 6) pe_int)) po_none))))) pss_nil)
      (pss_cons (ps_if (pt_cmpR op_eq (pv 2) pe_int (nomark _)) (pss_one (ps_ret (pe_op op_add_str (pe_slice sl_str (pv 5) po_none (po_some (pv 6))) (pe_slice sl_str (pv 5) (po_some (pe_op op_add (pv 6) pe_int)) po_none)))) pss_nil)
      (pss_cons (ps_if (pt_cmpR op_eq (pv 2) pe_int (nomark _)) (pss_one (ps_ret (pe_call GL hr rfl DL.g DL.kp DL.b .nil pass0 (pa_cons (pv 0) (pa_cons (pv 1) (pa_cons pe_int pa_nil)))))) pss_nil)
      (pss_one (ps_ret (pe_ifExp (pt_cmpR op_eq (pe_call G hr1 rfl D.g D.kp D.b .nil pass0 (pa_cons (pv 0) (pa_cons pe_int pa_nil))) pe_int (nomark _))
        (pe_call GR hr1 rfl DR.g DR.kp DR.b .nil pass0 (pa_cons (pv 1) (pa_cons (pv 3) (pa_cons pe_int pa_nil)))) (pe_call GO hr rfl DO.g DO.kp DO.b .nil pass0 (pa_cons (pv 0) pa_nil)))))))))))), ?_⟩
    have l0 := W.pos
    have l1 := W.few
    refine ⟨_, rfl, p, _, rfl, by decide, by decide, hp, fun d H1 d0 d1 hp1 b1 => ⟨_, rfl, _, rfl, _, rfl, W.fits, p, _, rfl, by rw [S_len]; omega, by rw [S_len]; omega, hp1, fun a H2 a0 a1 hp2 b2 => ⟨_, _, rfl, ?_⟩⟩⟩
    rw [S_len] at a1
    obtain ⟨i, rfl, i1⟩ := int_lt a0 a1
    have b3 := b1.trans b2
    refine ⟨_, rfl, _, rfl, _, rfl, W.fits, _, _, rfl, rfl, .inl ⟨by decide, by decide⟩, (by show 2 ≤ sizeLine; decide), fun L hL => ?_⟩
    have nL := hp2.ne hL
    refine ⟨_, rfl, p, _, rfl, by decide, by decide, hp2.put nL, fun e H3 e0 e1 hp3 b4 => ?_⟩
    have hL3 := b4 L _ nL upd_same
    have b5 : But p H H3 := (b3.upd hL).trans b4
    obtain ⟨x, hx, x0, x1⟩ : ∃ x : Int, atI [V.int (3 * ((S l).length : Int)), V.int 600] e = some (.int x) ∧ 0 < x ∧ x < 1073741824 := by
      obtain ⟨t, rfl, t1⟩ := int_lt e0 e1
      rcases t with _ | _ | t
      · exact ⟨_, atI_nat rfl, by rw [S_len]; omega, by rw [S_len]; omega⟩
      · exact ⟨_, atI_nat rfl, by decide, by decide⟩
      · omega
    refine ⟨L, _, _, _, rfl, rfl, SqL.of hL3, hx, p, _, rfl, x0, x1, hp3, fun g H4 g0 g1 hp4 b6 => ⟨_, _, rfl, rfl, ?_⟩⟩
    have b7 := b5.trans b6
    obtain ⟨m, em, m1, m2⟩ : ∃ m : Nat, (if (600 : Int) < 1 + g then (600 : Int) else 1 + g) = (m : Int) ∧ 1 ≤ m ∧ m ≤ 600 := by
      split
      · exact ⟨600, rfl, by decide, by decide⟩
      · exact ⟨(1 + g).toNat, by omega, by omega, by omega⟩
    refine ⟨_, rfl, _, rfl, _, rfl, _, _, rfl, l, i, m, ?_, W, by omega, ?_⟩
    · (try dsimp only)
      rw [← em]
      rfl
    have Wu : IsW (readN l i m) := read_low W i m1 m2
    have ul : (readN l i m).length = m := readN_len l i m
    generalize readN l i m = u at Wu ul ⊢
    have tu := Wu.tx
    have ful : (S u).length ≤ sizeLine := Wu.fits
    refine ⟨_, rfl, _, rfl, _, rfl, ful, p, _, rfl, by rw [S_len]; omega, by rw [S_len]; omega, hp4, fun s' H5 s0 s1 hp5 b8 => ?_⟩
    rw [S_len] at s1
    obtain ⟨j, rfl, j0⟩ := int_lt s0 s1
    have b9 := b7.trans b8
    have j1 : ((j : Int) + 1) = ((j + 1 : Nat) : Int) := by omega
    refine ⟨_, rfl, _, _, rfl, rfl, _, rfl, ite2 (fun _ => ⟨_, rfl, k _ H5 (.inl ⟨u, rfl, tu⟩) hp5 b9⟩) (fun _ => ?_)⟩
    have mu : ∀ {c : Nat}, c ∈ u → c < 1000 := fun hc => tu.cod _ hc
    refine ⟨_, rfl, _, _, rfl, rfl, _, rfl, ite2 (fun _ => ?_) (fun _ => ?_)⟩
    · have el : (Str.ofString "abcA0 _" : Str) = S [97, 98, 99, 65, 48, 32, 95] := by decide +kernel
      have l8 : (S l).length + (Str.ofString "abcA0 _").length ≤ sizeLine := by
        rw [el, S_len, S_len, sizeLine_eq]
        show l.length + 7 ≤ _
        omega
      refine ⟨_, rfl, _, _, rfl, rfl, l8, _, rfl, _, rfl, _, rfl, W.fits, _, _, rfl, rfl, p, _, rfl, by rw [S_len]; omega, by rw [S_len]; omega, hp5, fun q H6 q0 q1 hp6 b10 => ?_⟩
      rw [S_len] at q1
      obtain ⟨t, rfl, t1⟩ := int_lt q0 q1
      have t2 : t < (l ++ [97, 98, 99, 65, 48, 32, 95]).length := by
        rw [List.length_append]
        show t < l.length + 7
        omega
      obtain ⟨c, hc⟩ : ∃ c, (l ++ [97, 98, 99, 65, 48, 32, 95])[t]? = some c := ⟨_, List.getElem?_eq_getElem t2⟩
      have c1 : c < 1000 := by
        rcases List.mem_append.mp (List.mem_of_getElem? hc) with z | z
        · have := W.low c z
          omega
        · have : ∀ c ∈ [97, 98, 99, 65, 48, 32, 95], c < 1000 := by decide
          exact this c z
      have es : (S l ++ Str.ofString "abcA0 _" : Str) = S (l ++ [97, 98, 99, 65, 48, 32, 95]) := by rw [el, S_add]
      have hat : atI (S l ++ Str.ofString "abcA0 _" : Str).cps.toList (t : Int) = some c := by
        rw [es, S_cps]
        exact atI_nat hc
      have len8 : (S l ++ Str.ofString "abcA0 _" : Str).length ≤ sizeLine := by
        rw [es, S_len, List.length_append, sizeLine_eq]
        show l.length + 7 ≤ _
        omega
      have en : ∀ x : Str, (x ++ (⟨#[c]⟩ : Str)) = x ++ S [c] := fun _ => rfl
      refine ⟨_, _, c, rfl, rfl, len8, hat, _, rfl, _, rfl, _, rfl, _, rfl, ful, _, rfl, _, _, rfl, rfl, ?_, ?_⟩
      · rw [cutC, S_len, List.length_take, sizeLine_eq]
        show min j u.length + 1 ≤ _
        omega
      · refine ⟨_, rfl, _, rfl, _, _, rfl, rfl, _, rfl, _, rfl, ful, ?_⟩
        (try dsimp only)
        rw [cutC, en, j1, cutB, S_add]
        refine ⟨_, _, rfl, rfl, ?_, ?_⟩
        · rw [S_len, S_len, List.length_append, List.length_take, List.length_drop, List.length_singleton, sizeLine_eq]
          omega
        · rw [S_add]
          refine k _ H6 (.inl ⟨_, rfl, ?_, fun a ha => ?_⟩) hp6 (b9.trans b10)
          · rw [List.length_append, List.length_append, List.length_take, List.length_drop, List.length_singleton]
            omega
          · rcases List.mem_append.mp ha with ha | ha
            · rcases List.mem_append.mp ha with ha | ha
              · exact mu (List.mem_of_mem_take ha)
              · rw [List.mem_singleton.mp ha]
                exact c1
            · exact mu (List.mem_of_mem_drop ha)
    refine ⟨_, rfl, rfl, _, rfl, ite2 (fun _ => ?_) (fun _ => ?_)⟩
    · refine ⟨_, rfl, _, rfl, _, rfl, _, rfl, ful, _, rfl, _, rfl, _, _, rfl, rfl, _, rfl, _, rfl, ful, ?_⟩
      (try dsimp only)
      rw [cutC, j1, cutB]
      refine ⟨_, _, rfl, rfl, ?_, ?_⟩
      · rw [S_len, S_len, List.length_take, List.length_drop, sizeLine_eq]
        omega
      · rw [S_add]
        refine k _ H5 (.inl ⟨_, rfl, ?_, fun a ha => ?_⟩) hp5 b9
        · rw [List.length_append, List.length_take, List.length_drop]
          omega
        · rcases List.mem_append.mp ha with ha | ha
          · exact mu (List.mem_of_mem_take ha)
          · exact mu (List.mem_of_mem_drop ha)
    refine ⟨_, rfl, rfl, _, rfl, ite2 (fun _ => ?_) (fun _ => ?_)⟩
    · exact ⟨_, rfl, _, rfl, p, l, 6, rfl, l0, by omega, by decide, by decide, hp5, fun z H6 sub z0 z1 hp6 b10 => k _ H6 (.inl ⟨z, rfl, by omega, fun c hc => by have := W.low c (sub c hc); omega⟩) hp6 (b9.trans b10)⟩
    refine ⟨_, rfl, p, _, rfl, by decide, by decide, hp5, fun q H6 q0 q1 hp6 b10 => ⟨rfl, _, rfl, ite2 (fun _ => ?_) (fun _ => ?_)⟩⟩
    · refine ⟨_, rfl, _, rfl, l, i, 601, rfl, W, by decide, ?_⟩
      refine k _ H6 (.inl ⟨_, rfl, by rw [readN_len]; omega, fun c hc => ?_⟩) hp6 (b9.trans b10)
      unfold readN at hc
      obtain ⟨k', _, e⟩ := List.mem_map.mp hc
      have mm := getD_at (l := l) (i := (i + k') % l.length) (Nat.mod_lt _ l0)
      rw [e] at mm
      have := W.low c (List.mem_of_getElem? mm)
      omega
    · exact ⟨_, rfl, p, rfl, hp6, fun x H7 hv hp7 b11 => k x H7 hv hp7 ((b9.trans b10).trans b11)⟩
end
end Wb
namespace Wb
open PySem L2 WbMin WbO WbT
abbrev sRight : Stmt := top 28
abbrev sLaw : Stmt := top 29
structure RA where
  (C fI fT fU fN pT : Addr)
  (dI dT dU dN : FuncData)
structure RingF (K : PySem.W.Frag) (mg : Str → Option Value) (R : RA) : Prop where
  T : Txt K mg R.C
  M : Mk K R.C R.fI
  FI : Fun K "__init__" "Ring.__init__" sInit R.fI R.dI
  bI : Binds K R.dI ["self", "text"] []
  FT : Fun K "text" "Ring.text" sText R.fT R.dT
  bT : Binds K R.dT ["self"] []
  hT : PropOf K R.C "text" R.pT R.fT
  FU : Fun K "turned" "Ring.turned" sTurned R.fU R.dU
  bU : Binds K R.dU ["self", "i"] []
  mU : Meth K R.C "turned" R.fU
  FN : Fun K "__contains__" "Ring.__contains__" sIn R.fN R.dN
  bN : Binds K R.dN ["self", "word"] []
  mN : Meth K R.C "__contains__" R.fN
structure DA where
  (cell pool draw odd signs word long iswl read near readable right isint readr isword turns : Addr)
  (dcell dpool ddraw dodd dsigns dword dlong diswl dread dnear dreadable dright disint dreadr disword dturns : FuncData)
structure Defs (K : PySem.W.Frag) (mg : Str → Option Value) (D : DA) : Prop where
  cell : Def K mg "_law_cell" sCell ["_law_script", "_law_k"] D.cell D.dcell
  pool : Def K mg "_law_pool" sPool ["_law_cell_here"] D.pool D.dpool
  draw : Def K mg "_law_draw" sDraw ["_law_pool_here", "_law_many"] D.draw D.ddraw
  odd : Def K mg "_law_odd" sOdd ["_law_pool_here"] D.odd D.dodd
  signs : Def K mg "_law_signs" sSigns ["_law_pool_here", "_law_most"] D.signs D.dsigns
  word : Def K mg "_law_word" sWord ["_law_pool_here", "_law_abc", "_law_most"] D.word D.dword
  long : Def K mg "_law_long" sLong ["_law_pool_here", "_law_most"] D.long D.dlong
  iswl : Def K mg "_law_is_word" sIsWL ["_law_thing", "_law_abc"] D.iswl D.diswl
  read : Def K mg "_law_read" sRead ["_law_word_here", "_law_at", "_law_many"] D.read D.dread
  near : Def K mg "_law_near" sNear ["_law_pool_here", "_law_word_here"] D.near D.dnear
  readable : Def K mg "_law_readable" sReadable ["_law_word_here", "_law_thing"] D.readable D.dreadable
  right : Def K mg "_law_right" sRight ["_law_pool_here"] D.right D.dright
  isint : Def K mg "is_integer" sIsInt ["value"] D.isint D.disint
  readr : Def K mg "_read_round" sReadR ["text", "place", "number"] D.readr D.dreadr
  isword : Def K mg "is_word" sIsWord ["value"] D.isword D.disword
  turns : Def K mg "_all_turnings" sTurns ["word"] D.turns D.dturns
  most : ∃ t : Tok, mg "MOST_WORD" = some (.int 600 t)
theorem dp_bools {K : PySem.W.Frag} {H : Hp} : ∀ bs : List Bool, DpAll K H (bs.map V.bl) (bs.map PyData.bool)
  | [] => .nil
  | b :: r => .cons (.bl b) (dp_bools r)
theorem can_bools : ∀ bs : List Bool, PyData.canLayAll0 (bs.map PyData.bool) = true
  | [] => rfl
  | b :: r => by
    show (true && PyData.canLayAll0 (r.map PyData.bool)) = true
    rw [can_bools r] <;> rfl
theorem depth_bools : ∀ bs : List Bool, PyData.depthAll (bs.map PyData.bool) = 0
  | [] => rfl
  | b :: r => by
    show max (PyData.depth (.bool b)) (PyData.depthAll (r.map PyData.bool)) = 0
    rw [depth_bools r] <;> rfl
theorem shaped_bools (bs : List Bool) : SeqAt.shaped (.list (bs.map PyData.bool)) = true := by
  have d : PyData.depth (.list (bs.map PyData.bool)) = 1 := by
    show PyData.depthAll (bs.map PyData.bool) + 1 = 1
    rw [depth_bools]
  unfold SeqAt.shaped
  rw [d]
  show (PyData.canLayAll0 (bs.map PyData.bool) && decide (1 ≤ 64)) = true
  rw [can_bools] <;> rfl
theorem eqv_bools (bs : List Bool) : PyData.eqv (.list (bs.map PyData.bool)) (.list (bs.map PyData.bool)) = true := SeqAt.eqv_refl _ (can_bools bs)
section
variable {K : PySem.W.Frag} {C p : Addr} {H : Hp} {E : XK} {Q : VK} {l : List Nat} {r L M : Addr}
/-- two lists of the same bools: != says False -/
theorem neD_go {xs ys : List V} (bs : List Bool) (hL : H L = some (.lst xs)) (hM : H M = some (.lst ys)) (ex : xs = bs.map V.bl) (ey : ys = bs.map V.bl) (k : Q (.bl false) H) : rNeD K (.ref L) (.ref M) H Q := by
  subst ex ey
  refine ⟨_, _, .lst (SqL.of hL) (dp_bools bs), .lst (SqL.of hM) (dp_bools bs), shaped_bools bs, shaped_bools bs, ?_⟩
  rw [eqv_bools]
  exact k
theorem in_go {x : V} {b : Bool} (R0 : RingAt C H r l) (h : Ans p H x (goodR l) b) (k : ∀ H', Same H H' → Q (.bl b) H') : rInO C (spIn C) E x (.ref r) H Q :=
  ⟨r, _, _, rfl, R0.at, p, r, l, x, b, rfl, R0, h, fun H' s => ⟨b, rfl, k H' s⟩⟩
theorem notin_go {x : V} {b : Bool} (R0 : RingAt C H r l) (h : Ans p H x (goodR l) b) (k : ∀ H', Same H H' → Q (.bl (!b)) H') : rNotInO C (spIn C) E x (.ref r) H Q :=
  ⟨r, _, _, rfl, R0.at, p, r, l, x, b, rfl, R0, h, fun H' s => ⟨b, rfl, k H' s⟩⟩
end
theorem good_self {l : List Nat} (W : IsW l) : goodR l l = true := by
  unfold goodR
  rw [isWB_iff.mpr W, Bool.true_and, can_iff]
  exact ⟨0, W.pos, by rw [read_rot W.pos W.pos, rot_zero]⟩
theorem good_turned {l : List Nat} (W : IsW l) (i : Int) : goodR l (readW (tx l) i l.length) = true := by
  have l0 := W.pos
  have tl := tx_len l0
  obtain ⟨j, hj, ej⟩ := tx_is l0
  obtain ⟨st, s1, s2, s3⟩ := place_of (n := (tx l).length) (by omega) i
  have e : readW (tx l) i l.length = readN l ((j + st) % l.length) l.length := by
    unfold readW
    rw [s3, ej, readN_rot l0 (Nat.le_of_lt hj), ← readN_mod]
  unfold goodR
  rw [e, isWB_iff.mpr (read_low W _ l0 W.few), Bool.true_and, can_iff]
  exact ⟨_, Nat.mod_lt _ l0, by rw [readN_len]⟩
def spRight : Sp := fun vs H Q _ => ∃ p : Addr, vs = [.ref p] ∧ PoolAt H p ∧ ∀ H', But p H H' → Q (.bl true) H'
section
variable {P : Program} {w : World} {K : PySem.W.Frag} {mg : Str → Option Value} {base : Heap} {f : Addr} {fd : FuncData} {R : RA} {D : DA}
abbrev NR : List Str := ["_law_pool_here", "_law_word_here", "_law_ring", "_law_kept", "_law_turn", "_law_thing", "_law_due"]
theorem scRi : FnScope NR ["_law_pool_here"] (defScope sRight) := ⟨rfl, rfl, rfl, by decide +kernel, rfl, by decide +kernel, by decide +kernel⟩
set_option maxHeartbeats 0 in
theorem ok_right (F : Fun K "_law_right" "_law_right" sRight f fd) (Z : Free mg) (R' : RingF K mg R) (D' : Defs K mg D) : FnOk P w K mg base CX0 6 f fd ["_law_pool_here"] spRight := by
  obtain ⟨t6, g6⟩ := D'.most
  have GL : FnOk P w K mg base CX0 3 D.long D.dlong ["_law_pool_here", "_law_most"] spLong := ok_long D'.long.F D'.draw D'.signs D'.word Z.int Z.divmod Z.len Z.range
  have GM : FnOk P w K mg base CX0 3 D.near D.dnear ["_law_pool_here", "_law_word_here"] spNear := ok_near D'.near.F D'.draw D'.read D'.odd D'.word Z
  have GB : FnOk P w K mg base CX0 2 D.readable D.dreadable ["_law_word_here", "_law_thing"] spReadable := ok_readable D'.readable.F D'.iswl D'.read Z
  have GI : FnOk P w K mg base CX0 2 R.fI R.dI ["self", "text"] (spInit R.C) := ok_init R'.FI R'.T Z t6 g6 D'.isword D'.turns
  have Gt : FnOk P w K mg base CX0 1 R.fT R.dT ["self"] (spText R.C) := ok_text R'.FT R'.T
  have GU : FnOk P w K mg base CX0 2 R.fU R.dU ["self", "i"] (spTurned R.C) := ok_turned R'.FU R'.T Z D'.isint D'.readr
  have GN : FnOk P w K mg base CX0 2 R.fN R.dN ["self", "word"] (spIn R.C) := ok_in R'.FN R'.T Z D'.isword t6 g6
  refine F.ok scRi (fun vs H Q E h => ?_) (fun cdv A outer s H vs Q E hr h => ?_)
  · obtain ⟨p, rfl, _⟩ := h
    rfl
  · obtain ⟨p, rfl, hp, k⟩ := h
    have hr1 : Room 1 _ := hr.mono (by decide)
    have hr2 : Room 2 _ := hr.mono (by decide)
    have hr3 : Room 3 _ := hr.mono (by decide)
    refine ⟨_, pss_cons (ps_set (i := 1) scRi.nd rfl (.inl rfl) (pe_call GL hr3 rfl D'.long.g D'.long.kp D'.long.b .nil pass0 (pa_cons (pv 0) (pa_cons pe_int pa_nil))))
      (pss_cons (ps_set (i := 2) scRi.nd rfl (.inl rfl) (pe_make R'.M GI hr3 rfl R'.T.gC R'.bI .nil pass0 (pa_cons (pv 1) pa_nil)))
      (pss_cons (ps_set (i := 3) scRi.nd rfl (.inl rfl) (pe_prop (pv 2) R'.T.cl R'.hT Gt hr2 R'.bT .nil pass0 rfl))
      (pss_cons (ps_for PassesOwn.never rfl (pi_range1 rfl Z.range (pa_cons pe_int pa_nil)) (pg_name (i := 4) scRi.nd rfl (.inl rfl))
        (pss_cons (ps_set (i := 5) scRi.nd rfl (.inl rfl) (pe_call GM hr3 rfl D'.near.g D'.near.kp D'.near.b .nil pass0 (pa_cons (pv 0) (pa_cons (pv 1) pa_nil))))
        (pss_cons (ps_set (i := 6) scRi.nd rfl (.inl rfl) (pe_call GB hr2 rfl D'.readable.g D'.readable.kp D'.readable.b .nil pass0 (pa_cons (pv 1) (pa_cons (pv 5) pa_nil))))
        (pss_one (ps_if (PW.pt (pw_or (pt_cmpR (op_neD hr.units) (pe_lst (pa_cons (pe_cmpR (op_inO R'.mN.at_ R'.mN.fn GN hr2 R'.bN pass0) (pv 5) (pv 2) (by rfl)) (pa_cons (pe_cmpR (op_notInO R'.mN.at_ R'.mN.fn GN hr2 R'.bN pass0) (pv 5) (pv 2) (by rfl)) pa_nil)))
              (pe_lst (pa_cons (pv 6) (pa_cons (pe_not (pv 6)) pa_nil))) (nomark _))
            (pw_or1 (pt_cmpR op_ne (pe_prop (pv 2) R'.T.cl R'.hT Gt hr2 R'.bT .nil pass0 rfl) (pv 3) (nomark _))))) (pss_one ps_never) pss_nil)))))
      (pss_one (ps_ret (pe_and (pe_cmpR (op_inO R'.mN.at_ R'.mN.fn GN hr2 R'.bN pass0) (pv 1) (pv 2) (by rfl)) (pe_and (pe_cmpR (op_inO R'.mN.at_ R'.mN.fn GN hr2 R'.bN pass0) (pe_meth (pv 2) R'.T.cl R'.mU GU hr2 R'.bU .nil pass0 (pa_cons pe_int pa_nil)) (pv 2) (by rfl))
        (pe_one (pe_cmpR (op_notInO R'.mN.at_ R'.mN.fn GN hr2 R'.bN pass0) pe_str (pv 2) (by rfl)))))))))), ?_⟩
    refine ⟨_, rfl, p, _, rfl, by decide, by decide, hp, fun l H1 lo l0 l1 hp1 b1 => ?_⟩
    have W : IsW l := ⟨lo, l0, l1⟩
    have no : ∀ u v, (rf u v).lookup ("turned" : Str) = none := fun u v => rf_no _ _ (by decide +kernel) (by decide +kernel)
    refine ⟨_, rfl, fun r dx hx hdx ne => ⟨H1, r, dx, l, rfl, W, Same.new' (Same.new' (Same.refl H1) hdx) hx, hx, upd_same, fun H2 s2 R2 => ⟨rfl, ?_⟩⟩⟩
    have nrp : r ≠ p := hp1.ne hx
    refine ⟨_, rfl, r, _, _, rfl, R2.at, r, l, rfl, R2, ?_⟩
    refine ⟨_, rfl, by decide, by decide, for_it walk_range (fun i σ H' => ∃ v4 v5 v6 : Option V, σ = [some (.ref p), some (.str (S l)), some (.ref r), some (.str (textS l)), v4, v5, v6] ∧ RingAt R.C H' r l ∧ PoolAt H' p ∧ But p H H')
      ⟨none, none, none, rfl, R2, hp1.same s2, b1.trans (But.of s2)⟩ (fun _ _ _ _ _ => trivial) ?_ ?_⟩
    · rintro i x σ H3 H3' hi ⟨v4, v5, v6, rfl, R3, hp3, b3⟩ ⟨rfl, rfl⟩
      refine ⟨_, rfl, _, rfl, p, l, rfl, W, hp3, fun x H4 hv hp4 b4 => ?_⟩
      have R4 := R3.but b4 nrp
      obtain ⟨b, hb⟩ := hv.ans (goodR l)
      refine ⟨_, rfl, _, rfl, p, l, x, b, rfl, W, hb, fun H5 s5 => ?_⟩
      have R5 := R4.same s5
      have hb5 := hb.but (But.of s5)
      refine ⟨_, rfl, _, rfl, in_go R5 hb5 fun H6 s6 => ?_⟩
      have hb6 := hb5.but (But.of s6)
      refine ⟨_, rfl, _, rfl, notin_go (R5.same s6) hb6 fun H7 s7 => ?_⟩
      refine ⟨(by show 2 ≤ sizeLine; decide), fun L hL => ?_⟩
      refine ⟨_, rfl, _, rfl, _, rfl, (by show 2 ≤ sizeLine; decide), fun M hM => ?_⟩
      have nLM : L ≠ M := ne_of_none upd_same hM
      refine neD_go [b, !b] ((upd_ne nLM).trans upd_same) upd_same rfl rfl ⟨_, rfl, ?_⟩
      have sA : Same H5 (L2.upd (L2.upd H7 L (.lst [.bl b, .bl (!b)])) M (.lst [.bl b, .bl (!b)])) := Same.put (Same.put (s6.trans s7) hL) hM
      have R8 := R5.same sA
      refine ⟨_, rfl, r, _, _, rfl, R8.at, r, l, rfl, R8, _, rfl, rfl, _, rfl, iteNS rfl ?_⟩
      exact ⟨_, _, _, rfl, R8, (hp4.same s5).same sA, ((b3.trans b4).trans (But.of s5)).trans (But.of sA)⟩
    · rintro σ H3 ⟨v4, v5, v6, rfl, R3, hp3, b3⟩
      have e0 : (Str.ofString "" : Str) = S [] := by decide +kernel
      refine ⟨_, rfl, _, rfl, in_go (p := p) R3 (.inl ⟨l, rfl, W.tx, rfl⟩) fun H4 s4 => ⟨_, rfl, ?_⟩⟩
      rw [good_self W]
      refine iteT ?_
      have R4 := R3.same s4
      have Wt : IsW (readW (tx l) 1 l.length) := read_low (tx_w W) _ l0 l1
      refine ⟨_, rfl, r, _, _, rfl, R4.at, no _ _, r, l, 1, rfl, R4, _, rfl, in_go (p := p) R4 (.inl ⟨_, rfl, Wt.tx, rfl⟩) fun H5 s5 => ⟨_, rfl, ?_⟩⟩
      rw [good_turned W 1]
      refine iteT ?_
      have R5 := R4.same s5
      refine ⟨_, rfl, notin_go (p := p) R5 (.inl ⟨[], by rw [← e0] <;> rfl, ⟨by decide, fun c hc => nomatch hc⟩, rfl⟩) fun H6 s6 => ?_⟩
      exact k H6 (((b3.trans (But.of s4)).trans (But.of s5)).trans (But.of s6))
end
end Wb
namespace Wb
open PySem L2 WbMin WbO WbT
def spLaw (K : PySem.W.Frag) : Sp := fun vs H Q _ => ∃ (a : Addr) (ns : List Int), vs = [.ref a] ∧ SqL K H a (ns.map V.int) ∧ ns.length ≤ 63 ∧ ∀ H', Q (.bl true) H'
section
variable {P : Program} {w : World} {K : PySem.W.Frag} {mg : Str → Option Value} {base : Heap} {f : Addr} {fd : FuncData} {R : RA} {D : DA}
theorem scLa : FnScope ["_law_script", "_law_k"] ["_law_script"] (defScope sLaw) := ⟨rfl, rfl, rfl, by decide +kernel, rfl, by decide +kernel, by decide +kernel⟩
theorem ok_law (F : Fun K "law" "law" sLaw f fd) (Z : Free mg) (R' : RingF K mg R) (D' : Defs K mg D) : FnOk P w K mg base CX0 7 f fd ["_law_script"] (spLaw K) := by
  have GC : FnOk P w K mg base CX0 1 D.cell D.dcell ["_law_script", "_law_k"] (spCell K) := ok_cell D'.cell.F Z.int Z.len
  have GP : FnOk P w K mg base CX0 1 D.pool D.dpool ["_law_cell_here"] spPool := ok_pool D'.pool.F Z.abs Z.int
  have GR : FnOk P w K mg base CX0 6 D.right D.dright ["_law_pool_here"] spRight := ok_right D'.right.F Z R' D'
  refine F.ok scLa (fun vs H Q E h => ?_) (fun cdv A outer s H vs Q E hr h => ?_)
  · obtain ⟨a, ns, rfl, _⟩ := h
    rfl
  · obtain ⟨a, ns, rfl, hS, hlen, k⟩ := h
    have hr1 : Room 1 _ := hr.mono (by decide)
    refine ⟨_, pss_one (ps_ret (pe_callB (cr_all rfl) (by rfl) Z.all (by decide +kernel) (pa_cons
      (pe_lc (own := [("_law_k", 1)]) (g := gName 1) (tt := tYes) rfl scLa.nd (pi_range1 rfl Z.range (pa_cons (pe_callB (call_max2 rfl) (by rfl) Z.max (by decide +kernel) (pa_cons pe_int (pa_cons
            (pe_callB (call_min2 rfl) (by rfl) Z.min (by decide +kernel) (pa_cons (pe_callB call_len_seq (by rfl) Z.len PySem.boot_len (pa_cons (pv 0) pa_nil)) (pa_cons pe_int pa_nil))) pa_nil))) pa_nil))
        (blkOk_by (N := ["_law_script", "_law_k"]) (sc := defScope sLaw) (by decide +kernel)) (fun _ _ _ _ _ => pg_name (i := 1) scLa.nd rfl (.inl rfl)) (fun _ _ _ _ _ => pts_nil)
        (fun _ _ _ _ _ => pe_call GR hr rfl D'.right.g D'.right.kp D'.right.b .nil pass0 (pa_cons (pe_call GP hr1 rfl D'.pool.g D'.pool.kp D'.pool.b .nil pass0 (pa_cons (pe_call GC hr1 rfl D'.cell.g D'.cell.kp D'.cell.b .nil pass0 (pa_cons (pv 0) (pa_cons (pv 1) pa_nil))) pa_nil)) pa_nil))) pa_nil))), ?_⟩
    have few : (ns.map V.int).length ≤ 63 := by rw [List.length_map]; exact hlen
    have all2 : ∀ n : Nat, (List.replicate n true).all id = true := fun n => List.all_eq_true.mpr fun b hb => by rw [List.eq_of_mem_replicate hb] <;> rfl
    refine ⟨_, rfl, a, _, rfl, .inl hS, _, _, rfl, _, _, rfl, _, rfl, ?_, ?_, fun L hL => lc_it walk_range (fun i H3 => H3 L = some (.lst ((List.replicate i true).map V.bl)) ∧ Same H H3) ⟨upd_same, Same.put (Same.refl H) hL⟩ (fun _ _ _ _ => trivial) ?_ ?_⟩
    · split <;> split <;> omega
    · split <;> split <;> omega
    · rintro i x H3 H3' hi ⟨h1, h2⟩ ⟨rfl, rfl⟩
      have hi' : i < 8 := by
        have q := hi
        split at q <;> (try split at q) <;> omega
      refine ⟨rfl, _, rfl, _, rfl, a, ns, _, rfl, Same.seq h2 hS, hlen, by omega, by omega, fun n H4 s4 => ⟨_, rfl, fun p H5 np s5 hp => ⟨p, rfl, hp, fun H6 b6 => ?_⟩⟩⟩
      have h4 := s4 _ _ h1
      have s6 : Same H H6 := fun b o e => by
        have q := s4 _ _ (h2 _ _ e)
        exact b6 b o (ne_of_none q np) (s5 _ _ q)
      refine ⟨_, b6 L _ (ne_of_none h4 np) (s5 _ _ h4), ?_, ?_, Same.new' s6 hL⟩
      · rw [List.length_map, List.length_replicate, sizeLine_eq]
        omega
      · rw [upd_same, List.replicate_succ', List.map_append] <;> rfl
    · rintro H3 ⟨h1, h2⟩
      refine ⟨L, _, rfl, SqL.of h1, ?_⟩
      rw [all2]
      exact k H3
end
end Wb
namespace Wb
open PySem L2 WbMin WbO WbT
theorem all_mk {l : PySem.W.OpenLaw} {w : World} {K : PySem.W.Frag} {h : Heap} {mg : Str → Option Value} {fa C pT : Addr} {t6 : Tok} {rT : List Value} (X : K.In h) (G : h.Ns mainGlobals mg) (hfa : mg "law" = some (.ref fa))
    {f_cell f_pool f_draw f_odd f_signs f_word f_long f_iswl f_read f_near f_readable f_right f_isint f_readr f_isword f_turns f_law f_mI f_mT f_mU f_mN : Addr} {od_cell an_cell od_pool an_pool od_draw an_draw od_odd an_odd od_signs an_signs od_word an_word od_long an_long od_iswl an_iswl od_read an_read od_near an_near od_readable an_readable od_right an_right od_isint an_isint od_readr an_readr od_isword an_isword od_turns an_turns od_law an_law od_mI an_mI od_mT an_mT od_mU an_mU od_mN an_mN : Option Addr} {sl_cell sl_pool sl_draw sl_odd sl_signs sl_word sl_long sl_iswl sl_read sl_near sl_readable sl_right sl_isint sl_readr sl_isword sl_turns sl_law sl_mI sl_mT sl_mU sl_mN : Array (Option Value)}
    {oc_cell kv_cell dc_cell pm_cell cd_cell ct_cell oc_pool kv_pool dc_pool pm_pool cd_pool ct_pool oc_draw kv_draw dc_draw pm_draw cd_draw ct_draw oc_odd kv_odd dc_odd pm_odd cd_odd ct_odd oc_signs kv_signs dc_signs pm_signs cd_signs ct_signs oc_word kv_word dc_word pm_word cd_word ct_word oc_long kv_long dc_long pm_long cd_long ct_long oc_iswl kv_iswl dc_iswl pm_iswl cd_iswl ct_iswl oc_read kv_read dc_read pm_read cd_read ct_read oc_near kv_near dc_near pm_near cd_near ct_near oc_readable kv_readable dc_readable pm_readable cd_readable ct_readable oc_right kv_right dc_right pm_right cd_right ct_right oc_isint kv_isint dc_isint pm_isint cd_isint ct_isint oc_readr kv_readr dc_readr pm_readr cd_readr ct_readr oc_isword kv_isword dc_isword pm_isword cd_isword ct_isword oc_turns kv_turns dc_turns pm_turns cd_turns ct_turns oc_law kv_law dc_law pm_law cd_law ct_law oc_mI kv_mI dc_mI pm_mI cd_mI ct_mI oc_mT kv_mT dc_mT pm_mT cd_mT ct_mT oc_mU kv_mU dc_mU pm_mU cd_mU ct_mU oc_mN kv_mN dc_mN pm_mN cd_mN ct_mN : Value}
    (a_cell : PySem.W.nsIn K mainGlobals "_law_cell" = some (some (.ref f_cell)))
    (l_cell : K.lookup f_cell = some ⟨oc_cell, od_cell, .func (PySem.W.fnOf "_law_cell" "_law_cell" (defArgs sCell) (defBody sCell) (defScope sCell) .none kv_cell dc_cell pm_cell an_cell cd_cell ct_cell), sl_cell⟩)
    (c_cell : PySem.W.codeIn K cd_cell "_law_cell" = true)
    (k_cell : PySem.W.keepIn K (.ref f_cell) = true)
    (a_pool : PySem.W.nsIn K mainGlobals "_law_pool" = some (some (.ref f_pool)))
    (l_pool : K.lookup f_pool = some ⟨oc_pool, od_pool, .func (PySem.W.fnOf "_law_pool" "_law_pool" (defArgs sPool) (defBody sPool) (defScope sPool) .none kv_pool dc_pool pm_pool an_pool cd_pool ct_pool), sl_pool⟩)
    (c_pool : PySem.W.codeIn K cd_pool "_law_pool" = true)
    (k_pool : PySem.W.keepIn K (.ref f_pool) = true)
    (a_draw : PySem.W.nsIn K mainGlobals "_law_draw" = some (some (.ref f_draw)))
    (l_draw : K.lookup f_draw = some ⟨oc_draw, od_draw, .func (PySem.W.fnOf "_law_draw" "_law_draw" (defArgs sDraw) (defBody sDraw) (defScope sDraw) .none kv_draw dc_draw pm_draw an_draw cd_draw ct_draw), sl_draw⟩)
    (c_draw : PySem.W.codeIn K cd_draw "_law_draw" = true)
    (k_draw : PySem.W.keepIn K (.ref f_draw) = true)
    (a_odd : PySem.W.nsIn K mainGlobals "_law_odd" = some (some (.ref f_odd)))
    (l_odd : K.lookup f_odd = some ⟨oc_odd, od_odd, .func (PySem.W.fnOf "_law_odd" "_law_odd" (defArgs sOdd) (defBody sOdd) (defScope sOdd) .none kv_odd dc_odd pm_odd an_odd cd_odd ct_odd), sl_odd⟩)
    (c_odd : PySem.W.codeIn K cd_odd "_law_odd" = true)
    (k_odd : PySem.W.keepIn K (.ref f_odd) = true)
    (a_signs : PySem.W.nsIn K mainGlobals "_law_signs" = some (some (.ref f_signs)))
    (l_signs : K.lookup f_signs = some ⟨oc_signs, od_signs, .func (PySem.W.fnOf "_law_signs" "_law_signs" (defArgs sSigns) (defBody sSigns) (defScope sSigns) .none kv_signs dc_signs pm_signs an_signs cd_signs ct_signs), sl_signs⟩)
    (c_signs : PySem.W.codeIn K cd_signs "_law_signs" = true)
    (k_signs : PySem.W.keepIn K (.ref f_signs) = true)
    (a_word : PySem.W.nsIn K mainGlobals "_law_word" = some (some (.ref f_word)))
    (l_word : K.lookup f_word = some ⟨oc_word, od_word, .func (PySem.W.fnOf "_law_word" "_law_word" (defArgs sWord) (defBody sWord) (defScope sWord) .none kv_word dc_word pm_word an_word cd_word ct_word), sl_word⟩)
    (c_word : PySem.W.codeIn K cd_word "_law_word" = true)
    (k_word : PySem.W.keepIn K (.ref f_word) = true)
    (a_long : PySem.W.nsIn K mainGlobals "_law_long" = some (some (.ref f_long)))
    (l_long : K.lookup f_long = some ⟨oc_long, od_long, .func (PySem.W.fnOf "_law_long" "_law_long" (defArgs sLong) (defBody sLong) (defScope sLong) .none kv_long dc_long pm_long an_long cd_long ct_long), sl_long⟩)
    (c_long : PySem.W.codeIn K cd_long "_law_long" = true)
    (k_long : PySem.W.keepIn K (.ref f_long) = true)
    (a_iswl : PySem.W.nsIn K mainGlobals "_law_is_word" = some (some (.ref f_iswl)))
    (l_iswl : K.lookup f_iswl = some ⟨oc_iswl, od_iswl, .func (PySem.W.fnOf "_law_is_word" "_law_is_word" (defArgs sIsWL) (defBody sIsWL) (defScope sIsWL) .none kv_iswl dc_iswl pm_iswl an_iswl cd_iswl ct_iswl), sl_iswl⟩)
    (c_iswl : PySem.W.codeIn K cd_iswl "_law_is_word" = true)
    (k_iswl : PySem.W.keepIn K (.ref f_iswl) = true)
    (a_read : PySem.W.nsIn K mainGlobals "_law_read" = some (some (.ref f_read)))
    (l_read : K.lookup f_read = some ⟨oc_read, od_read, .func (PySem.W.fnOf "_law_read" "_law_read" (defArgs sRead) (defBody sRead) (defScope sRead) .none kv_read dc_read pm_read an_read cd_read ct_read), sl_read⟩)
    (c_read : PySem.W.codeIn K cd_read "_law_read" = true)
    (k_read : PySem.W.keepIn K (.ref f_read) = true)
    (a_near : PySem.W.nsIn K mainGlobals "_law_near" = some (some (.ref f_near)))
    (l_near : K.lookup f_near = some ⟨oc_near, od_near, .func (PySem.W.fnOf "_law_near" "_law_near" (defArgs sNear) (defBody sNear) (defScope sNear) .none kv_near dc_near pm_near an_near cd_near ct_near), sl_near⟩)
    (c_near : PySem.W.codeIn K cd_near "_law_near" = true)
    (k_near : PySem.W.keepIn K (.ref f_near) = true)
    (a_readable : PySem.W.nsIn K mainGlobals "_law_readable" = some (some (.ref f_readable)))
    (l_readable : K.lookup f_readable = some ⟨oc_readable, od_readable, .func (PySem.W.fnOf "_law_readable" "_law_readable" (defArgs sReadable) (defBody sReadable) (defScope sReadable) .none kv_readable dc_readable pm_readable an_readable cd_readable ct_readable), sl_readable⟩)
    (c_readable : PySem.W.codeIn K cd_readable "_law_readable" = true)
    (k_readable : PySem.W.keepIn K (.ref f_readable) = true)
    (a_right : PySem.W.nsIn K mainGlobals "_law_right" = some (some (.ref f_right)))
    (l_right : K.lookup f_right = some ⟨oc_right, od_right, .func (PySem.W.fnOf "_law_right" "_law_right" (defArgs sRight) (defBody sRight) (defScope sRight) .none kv_right dc_right pm_right an_right cd_right ct_right), sl_right⟩)
    (c_right : PySem.W.codeIn K cd_right "_law_right" = true)
    (k_right : PySem.W.keepIn K (.ref f_right) = true)
    (a_isint : PySem.W.nsIn K mainGlobals "is_integer" = some (some (.ref f_isint)))
    (l_isint : K.lookup f_isint = some ⟨oc_isint, od_isint, .func (PySem.W.fnOf "is_integer" "is_integer" (defArgs sIsInt) (defBody sIsInt) (defScope sIsInt) .none kv_isint dc_isint pm_isint an_isint cd_isint ct_isint), sl_isint⟩)
    (c_isint : PySem.W.codeIn K cd_isint "is_integer" = true)
    (k_isint : PySem.W.keepIn K (.ref f_isint) = true)
    (a_readr : PySem.W.nsIn K mainGlobals "_read_round" = some (some (.ref f_readr)))
    (l_readr : K.lookup f_readr = some ⟨oc_readr, od_readr, .func (PySem.W.fnOf "_read_round" "_read_round" (defArgs sReadR) (defBody sReadR) (defScope sReadR) .none kv_readr dc_readr pm_readr an_readr cd_readr ct_readr), sl_readr⟩)
    (c_readr : PySem.W.codeIn K cd_readr "_read_round" = true)
    (k_readr : PySem.W.keepIn K (.ref f_readr) = true)
    (a_isword : PySem.W.nsIn K mainGlobals "is_word" = some (some (.ref f_isword)))
    (l_isword : K.lookup f_isword = some ⟨oc_isword, od_isword, .func (PySem.W.fnOf "is_word" "is_word" (defArgs sIsWord) (defBody sIsWord) (defScope sIsWord) .none kv_isword dc_isword pm_isword an_isword cd_isword ct_isword), sl_isword⟩)
    (c_isword : PySem.W.codeIn K cd_isword "is_word" = true)
    (k_isword : PySem.W.keepIn K (.ref f_isword) = true)
    (a_turns : PySem.W.nsIn K mainGlobals "_all_turnings" = some (some (.ref f_turns)))
    (l_turns : K.lookup f_turns = some ⟨oc_turns, od_turns, .func (PySem.W.fnOf "_all_turnings" "_all_turnings" (defArgs sTurns) (defBody sTurns) (defScope sTurns) .none kv_turns dc_turns pm_turns an_turns cd_turns ct_turns), sl_turns⟩)
    (c_turns : PySem.W.codeIn K cd_turns "_all_turnings" = true)
    (k_turns : PySem.W.keepIn K (.ref f_turns) = true)
    (a_law : PySem.W.nsIn K mainGlobals "law" = some (some (.ref f_law)))
    (l_law : K.lookup f_law = some ⟨oc_law, od_law, .func (PySem.W.fnOf "law" "law" (defArgs sLaw) (defBody sLaw) (defScope sLaw) .none kv_law dc_law pm_law an_law cd_law ct_law), sl_law⟩)
    (c_law : PySem.W.codeIn K cd_law "law" = true)
    (k_law : PySem.W.keepIn K (.ref f_law) = true)
    (aC : PySem.W.nsIn K mainGlobals "Ring" = some (some (.ref C)))
    (a_mI : PySem.W.findIn K (.ref C) "__init__" = some (some (.ref f_mI)))
    (i_mI : PySem.W.isFn K (.ref f_mI) = true)
    (l_mI : K.lookup f_mI = some ⟨oc_mI, od_mI, .func (PySem.W.fnOf "__init__" "Ring.__init__" (defArgs sInit) (defBody sInit) (defScope sInit) .none kv_mI dc_mI pm_mI an_mI cd_mI ct_mI), sl_mI⟩)
    (c_mI : PySem.W.codeIn K cd_mI "Ring.__init__" = true)
    (k_mI : PySem.W.keepIn K (.ref f_mI) = true)
    (p_atT : PySem.W.findIn K (.ref C) "text" = some (some (.ref pT)))
    (p_getT : PySem.W.specialIn K (.ref pT) "__get__" = some (some (.builtin "property.__get__")))
    (p_takT : PySem.W.takesIn K (.ref pT) = some true)
    (p_recT : PySem.W.recIn K pT "property" = some (.ref f_mT :: rT))
    (l_mT : K.lookup f_mT = some ⟨oc_mT, od_mT, .func (PySem.W.fnOf "text" "Ring.text" (defArgs sText) (defBody sText) (defScope sText) .none kv_mT dc_mT pm_mT an_mT cd_mT ct_mT), sl_mT⟩)
    (c_mT : PySem.W.codeIn K cd_mT "Ring.text" = true)
    (k_mT : PySem.W.keepIn K (.ref f_mT) = true)
    (a_mU : PySem.W.findIn K (.ref C) "turned" = some (some (.ref f_mU)))
    (i_mU : PySem.W.isFn K (.ref f_mU) = true)
    (l_mU : K.lookup f_mU = some ⟨oc_mU, od_mU, .func (PySem.W.fnOf "turned" "Ring.turned" (defArgs sTurned) (defBody sTurned) (defScope sTurned) .none kv_mU dc_mU pm_mU an_mU cd_mU ct_mU), sl_mU⟩)
    (c_mU : PySem.W.codeIn K cd_mU "Ring.turned" = true)
    (k_mU : PySem.W.keepIn K (.ref f_mU) = true)
    (a_mN : PySem.W.findIn K (.ref C) "__contains__" = some (some (.ref f_mN)))
    (i_mN : PySem.W.isFn K (.ref f_mN) = true)
    (l_mN : K.lookup f_mN = some ⟨oc_mN, od_mN, .func (PySem.W.fnOf "__contains__" "Ring.__contains__" (defArgs sIn) (defBody sIn) (defScope sIn) .none kv_mN dc_mN pm_mN an_mN cd_mN ct_mN), sl_mN⟩)
    (c_mN : PySem.W.codeIn K cd_mN "Ring.__contains__" = true)
    (k_mN : PySem.W.keepIn K (.ref f_mN) = true)
    (pg : PySem.W.plainGet K C Str.empty = true)
    (hd : PySem.W.hasDictIn K C = true)
    (po : PySem.W.plainOver K C = true)
    (sa : PySem.W.findIn K (.ref C) "__setattr__" = some (some (.builtin "object.__setattr__")))
    (mk : PySem.W.makesIn K C = true)
    (kc : PySem.W.keepIn K (.ref C) = true)
    (nT : PySem.W.findIn K (.ref C) "_text" = some none)
    (nP : PySem.W.findIn K (.ref C) "_period" = some none)
    (cc : PySem.W.findIn K (.ref C) "__class__" = some (some (.builtin "object.__class__")))
    (cg : PySem.W.specialIn K (.builtin "object.__class__") "__get__" = some (some (.builtin "getset_descriptor.__get__")))
    (ct : PySem.W.takesIn K (.builtin "object.__class__") = some true)
    (co : PySem.W.mroIn K C (.type "object") = some true)
    (g6 : PySem.W.nsIn K mainGlobals "MOST_WORD" = some (some (.int 600 t6)))
    (z_int : PySem.W.nsIn K mainGlobals "int" = some none)
    (z_len : PySem.W.nsIn K mainGlobals "len" = some none)
    (z_range : PySem.W.nsIn K mainGlobals "range" = some none)
    (z_divmod : PySem.W.nsIn K mainGlobals "divmod" = some none)
    (z_abs : PySem.W.nsIn K mainGlobals "abs" = some none)
    (z_isinstance : PySem.W.nsIn K mainGlobals "isinstance" = some none)
    (z_str : PySem.W.nsIn K mainGlobals "str" = some none)
    (z_all : PySem.W.nsIn K mainGlobals "all" = some none)
    (z_min : PySem.W.nsIn K mainGlobals "min" = some none)
    (z_max : PySem.W.nsIn K mainGlobals "max" = some none)
    (z_set : PySem.W.nsIn K mainGlobals "set" = some none)
    (z_bool : PySem.W.nsIn K mainGlobals "bool" = some none) :
    ∃ fd : FuncData, (∀ (s : Shared) (v : Value), BindsTo s fd ⟨[v], []⟩ [("_law_script", v)]) ∧ ∀ base : Heap, K.In base → base.Ns mainGlobals mg → FnOk l.prog w K mg base CX0 7 fa fd ["_law_script"] (spLaw K) := by
  have e := hfa.symm.trans (PySem.W.mg_of X G a_law)
  cases e
  have T : Txt K mg C := ⟨⟨pg, hd, po, sa⟩, nT, nP, PySem.W.mg_of X G aC, cc, cg, ct, co⟩
  have Z : Free mg := ⟨PySem.W.mg_none_of X G z_int, PySem.W.mg_none_of X G z_len, PySem.W.mg_none_of X G z_range, PySem.W.mg_none_of X G z_divmod, PySem.W.mg_none_of X G z_abs, PySem.W.mg_none_of X G z_isinstance, PySem.W.mg_none_of X G z_str, PySem.W.mg_none_of X G z_all, PySem.W.mg_none_of X G z_min, PySem.W.mg_none_of X G z_max, PySem.W.mg_none_of X G z_set, PySem.W.mg_none_of X G z_bool⟩
  have F_cell := fun_mk (st := sCell) l_cell c_cell k_cell
  have b_cell := F_cell.binds (ps := ["_law_script", "_law_k"]) fun _ _ _ _ _ _ us hl => match us, hl with | [_, _], _ => rfl
  have F_pool := fun_mk (st := sPool) l_pool c_pool k_pool
  have b_pool := F_pool.binds (ps := ["_law_cell_here"]) fun _ _ _ _ _ _ us hl => match us, hl with | [_], _ => rfl
  have F_draw := fun_mk (st := sDraw) l_draw c_draw k_draw
  have b_draw := F_draw.binds (ps := ["_law_pool_here", "_law_many"]) fun _ _ _ _ _ _ us hl => match us, hl with | [_, _], _ => rfl
  have F_odd := fun_mk (st := sOdd) l_odd c_odd k_odd
  have b_odd := F_odd.binds (ps := ["_law_pool_here"]) fun _ _ _ _ _ _ us hl => match us, hl with | [_], _ => rfl
  have F_signs := fun_mk (st := sSigns) l_signs c_signs k_signs
  have b_signs := F_signs.binds (ps := ["_law_pool_here", "_law_most"]) fun _ _ _ _ _ _ us hl => match us, hl with | [_, _], _ => rfl
  have F_word := fun_mk (st := sWord) l_word c_word k_word
  have b_word := F_word.binds (ps := ["_law_pool_here", "_law_abc", "_law_most"]) fun _ _ _ _ _ _ us hl => match us, hl with | [_, _, _], _ => rfl
  have F_long := fun_mk (st := sLong) l_long c_long k_long
  have b_long := F_long.binds (ps := ["_law_pool_here", "_law_most"]) fun _ _ _ _ _ _ us hl => match us, hl with | [_, _], _ => rfl
  have F_iswl := fun_mk (st := sIsWL) l_iswl c_iswl k_iswl
  have b_iswl := F_iswl.binds (ps := ["_law_thing", "_law_abc"]) fun _ _ _ _ _ _ us hl => match us, hl with | [_, _], _ => rfl
  have F_read := fun_mk (st := sRead) l_read c_read k_read
  have b_read := F_read.binds (ps := ["_law_word_here", "_law_at", "_law_many"]) fun _ _ _ _ _ _ us hl => match us, hl with | [_, _, _], _ => rfl
  have F_near := fun_mk (st := sNear) l_near c_near k_near
  have b_near := F_near.binds (ps := ["_law_pool_here", "_law_word_here"]) fun _ _ _ _ _ _ us hl => match us, hl with | [_, _], _ => rfl
  have F_readable := fun_mk (st := sReadable) l_readable c_readable k_readable
  have b_readable := F_readable.binds (ps := ["_law_word_here", "_law_thing"]) fun _ _ _ _ _ _ us hl => match us, hl with | [_, _], _ => rfl
  have F_right := fun_mk (st := sRight) l_right c_right k_right
  have b_right := F_right.binds (ps := ["_law_pool_here"]) fun _ _ _ _ _ _ us hl => match us, hl with | [_], _ => rfl
  have F_isint := fun_mk (st := sIsInt) l_isint c_isint k_isint
  have b_isint := F_isint.binds (ps := ["value"]) fun _ _ _ _ _ _ us hl => match us, hl with | [_], _ => rfl
  have F_readr := fun_mk (st := sReadR) l_readr c_readr k_readr
  have b_readr := F_readr.binds (ps := ["text", "place", "number"]) fun _ _ _ _ _ _ us hl => match us, hl with | [_, _, _], _ => rfl
  have F_isword := fun_mk (st := sIsWord) l_isword c_isword k_isword
  have b_isword := F_isword.binds (ps := ["value"]) fun _ _ _ _ _ _ us hl => match us, hl with | [_], _ => rfl
  have F_turns := fun_mk (st := sTurns) l_turns c_turns k_turns
  have b_turns := F_turns.binds (ps := ["word"]) fun _ _ _ _ _ _ us hl => match us, hl with | [_], _ => rfl
  have F_mI := fun_mk (st := sInit) l_mI c_mI k_mI
  have b_mI := F_mI.binds (ps := ["self", "text"]) fun _ _ _ _ _ _ us hl => match us, hl with | [_, _], _ => rfl
  have F_mT := fun_mk (st := sText) l_mT c_mT k_mT
  have b_mT := F_mT.binds (ps := ["self"]) fun _ _ _ _ _ _ us hl => match us, hl with | [_], _ => rfl
  have F_mU := fun_mk (st := sTurned) l_mU c_mU k_mU
  have b_mU := F_mU.binds (ps := ["self", "i"]) fun _ _ _ _ _ _ us hl => match us, hl with | [_, _], _ => rfl
  have F_mN := fun_mk (st := sIn) l_mN c_mN k_mN
  have b_mN := F_mN.binds (ps := ["self", "word"]) fun _ _ _ _ _ _ us hl => match us, hl with | [_, _], _ => rfl
  have R' : RingF K mg ⟨C, f_mI, f_mT, f_mU, f_mN, pT, _, _, _, _⟩ := ⟨T, ⟨mk, a_mI, i_mI, kc⟩, F_mI, b_mI, F_mT, b_mT, ⟨p_atT, p_getT, p_takT, ⟨_, p_recT⟩⟩, F_mU, b_mU, ⟨a_mU, i_mU, k_mU⟩, F_mN, b_mN, ⟨a_mN, i_mN, k_mN⟩⟩
  have D' : Defs K mg ⟨f_cell, f_pool, f_draw, f_odd, f_signs, f_word, f_long, f_iswl, f_read, f_near, f_readable, f_right, f_isint, f_readr, f_isword, f_turns, _, _, _, _, _, _, _, _, _, _, _, _, _, _, _, _⟩ := ⟨⟨F_cell, PySem.W.mg_of X G a_cell, k_cell, b_cell⟩, ⟨F_pool, PySem.W.mg_of X G a_pool, k_pool, b_pool⟩, ⟨F_draw, PySem.W.mg_of X G a_draw, k_draw, b_draw⟩, ⟨F_odd, PySem.W.mg_of X G a_odd, k_odd, b_odd⟩, ⟨F_signs, PySem.W.mg_of X G a_signs, k_signs, b_signs⟩, ⟨F_word, PySem.W.mg_of X G a_word, k_word, b_word⟩, ⟨F_long, PySem.W.mg_of X G a_long, k_long, b_long⟩, ⟨F_iswl, PySem.W.mg_of X G a_iswl, k_iswl, b_iswl⟩, ⟨F_read, PySem.W.mg_of X G a_read, k_read, b_read⟩, ⟨F_near, PySem.W.mg_of X G a_near, k_near, b_near⟩, ⟨F_readable, PySem.W.mg_of X G a_readable, k_readable, b_readable⟩, ⟨F_right, PySem.W.mg_of X G a_right, k_right, b_right⟩, ⟨F_isint, PySem.W.mg_of X G a_isint, k_isint, b_isint⟩, ⟨F_readr, PySem.W.mg_of X G a_readr, k_readr, b_readr⟩, ⟨F_isword, PySem.W.mg_of X G a_isword, k_isword, b_isword⟩, ⟨F_turns, PySem.W.mg_of X G a_turns, k_turns, b_turns⟩, ⟨t6, PySem.W.mg_of X G g6⟩⟩
  exact ⟨PySem.W.fnOf "law" "law" (defArgs sLaw) (defBody sLaw) (defScope sLaw) .none kv_law dc_law pm_law an_law cd_law ct_law, fun s v => .of_eq rfl, fun base _ _ => ok_law (fun_mk (st := sLaw) l_law c_law k_law) Z R' D'⟩
theorem walk {l : PySem.W.OpenLaw} {q : Program} {loose : List Str} {XP : (Str → Option Value) → Heap → Prop} {YP : World → Heap → Prop} {d : DefRec} {K : Params → PySem.W.Frag} (hn : l.most = some 63) (hdf : d.params.defaults = []) (hY : ∀ (w : World) (h : Heap), YP w h → (K w.params).In h)
    (F : ∀ (w : World) (mg : Str → Option Value) (fa : Addr) (h : Heap), (K w.params).In h → h.Ns mainGlobals mg → mg d.name = some (.ref fa) → ∃ fd : FuncData, (∀ (s : Shared) (u : Value), BindsTo s fd ⟨[u], []⟩ [("_law_script", u)]) ∧ ∀ base : Heap, (K w.params).In base → base.Ns mainGlobals mg → FnOk l.prog w (K w.params) mg base CX0 7 fa fd ["_law_script"] (spLaw (K w.params))) :
    PySem.W.WalkO q loose XP YP l.row.toRowW d [] (fun f vs => PySem.call f vs) :=
  L2.walk_of (n := 63) (k := 7) (x := "_law_script") (CX := fun _ => CX0) (sp := fun w => spLaw (K w.params)) hn (by decide) hdf ⟨rfl, by decide, by decide⟩ hY F (fun _ _ a ns hl _ hS => ⟨a, ns, rfl, hS, hl, fun _ => rfl⟩) fun _ _ _ _ _ z => z
end Wb
open PySem PySem.W PyProof.Rows in
set_option maxRecDepth 100000 in
set_option maxHeartbeats 0 in
theorem PySem.Challenge.cw_wherebegun_k04_words_in_rings_holds : PySem.Challenge.rw_wherebegun_k04_words_in_rings.Holds := by
  w_on; o_law; k_head; (case hw => w_witness2)
  k_fill
  refine Wb.walk (l := PySem.Challenge.rw_wherebegun_k04_words_in_rings) rfl rfl (fun w h Y => PySem.W.kIn_of Y) ?F
  case F =>
    intro w mg fa h KX G hmg
    refine' Wb.all_mk KX G hmg ?a_cell ?l_cell ?c_cell ?k_cell ?a_pool ?l_pool ?c_pool ?k_pool ?a_draw ?l_draw ?c_draw ?k_draw ?a_odd ?l_odd ?c_odd ?k_odd ?a_signs ?l_signs ?c_signs ?k_signs ?a_word ?l_word ?c_word ?k_word ?a_long ?l_long ?c_long ?k_long ?a_iswl ?l_iswl ?c_iswl ?k_iswl ?a_read ?l_read ?c_read ?k_read ?a_near ?l_near ?c_near ?k_near ?a_readable ?l_readable ?c_readable ?k_readable ?a_right ?l_right ?c_right ?k_right ?a_isint ?l_isint ?c_isint ?k_isint ?a_readr ?l_readr ?c_readr ?k_readr ?a_isword ?l_isword ?c_isword ?k_isword ?a_turns ?l_turns ?c_turns ?k_turns ?a_law ?l_law ?c_law ?k_law ?aC ?a_mI ?i_mI ?l_mI ?c_mI ?k_mI ?p_atT ?p_getT ?p_takT ?p_recT ?l_mT ?c_mT ?k_mT ?a_mU ?i_mU ?l_mU ?c_mU ?k_mU ?a_mN ?i_mN ?l_mN ?c_mN ?k_mN ?pg ?hd ?po ?sa ?mk ?kc ?nT ?nP ?cc ?cg ?ct ?co ?g6 ?z_int ?z_len ?z_range ?z_divmod ?z_abs ?z_isinstance ?z_str ?z_all ?z_min ?z_max ?z_set ?z_bool
    (case a_cell => k_is)
    (case l_cell => k_is)
    (case c_cell => k_is)
    (case k_cell => k_is)
    (case a_pool => k_is)
    (case l_pool => k_is)
    (case c_pool => k_is)
    (case k_pool => k_is)
    (case a_draw => k_is)
    (case l_draw => k_is)
    (case c_draw => k_is)
    (case k_draw => k_is)
    (case a_odd => k_is)
    (case l_odd => k_is)
    (case c_odd => k_is)
    (case k_odd => k_is)
    (case a_signs => k_is)
    (case l_signs => k_is)
    (case c_signs => k_is)
    (case k_signs => k_is)
    (case a_word => k_is)
    (case l_word => k_is)
    (case c_word => k_is)
    (case k_word => k_is)
    (case a_long => k_is)
    (case l_long => k_is)
    (case c_long => k_is)
    (case k_long => k_is)
    (case a_iswl => k_is)
    (case l_iswl => k_is)
    (case c_iswl => k_is)
    (case k_iswl => k_is)
    (case a_read => k_is)
    (case l_read => k_is)
    (case c_read => k_is)
    (case k_read => k_is)
    (case a_near => k_is)
    (case l_near => k_is)
    (case c_near => k_is)
    (case k_near => k_is)
    (case a_readable => k_is)
    (case l_readable => k_is)
    (case c_readable => k_is)
    (case k_readable => k_is)
    (case a_right => k_is)
    (case l_right => k_is)
    (case c_right => k_is)
    (case k_right => k_is)
    (case a_isint => k_is)
    (case l_isint => k_is)
    (case c_isint => k_is)
    (case k_isint => k_is)
    (case a_readr => k_is)
    (case l_readr => k_is)
    (case c_readr => k_is)
    (case k_readr => k_is)
    (case a_isword => k_is)
    (case l_isword => k_is)
    (case c_isword => k_is)
    (case k_isword => k_is)
    (case a_turns => k_is)
    (case l_turns => k_is)
    (case c_turns => k_is)
    (case k_turns => k_is)
    (case a_law => k_is)
    (case l_law => k_is)
    (case c_law => k_is)
    (case k_law => k_is)
    (case aC => k_is)
    (case a_mI => k_is)
    (case i_mI => k_is)
    (case l_mI => k_is)
    (case c_mI => k_is)
    (case k_mI => k_is)
    (case p_atT => k_is)
    (case p_getT => k_is)
    (case p_takT => k_is)
    (case p_recT => k_is)
    (case l_mT => k_is)
    (case c_mT => k_is)
    (case k_mT => k_is)
    (case a_mU => k_is)
    (case i_mU => k_is)
    (case l_mU => k_is)
    (case c_mU => k_is)
    (case k_mU => k_is)
    (case a_mN => k_is)
    (case i_mN => k_is)
    (case l_mN => k_is)
    (case c_mN => k_is)
    (case k_mN => k_is)
    (case pg => k_is)
    (case hd => k_is)
    (case po => k_is)
    (case sa => k_is)
    (case mk => k_is)
    (case kc => k_is)
    (case nT => k_is)
    (case nP => k_is)
    (case cc => k_is)
    (case cg => k_is)
    (case ct => k_is)
    (case co => k_is)
    (case g6 => k_is)
    (case z_int => k_is)
    (case z_len => k_is)
    (case z_range => k_is)
    (case z_divmod => k_is)
    (case z_abs => k_is)
    (case z_isinstance => k_is)
    (case z_str => k_is)
    (case z_all => k_is)
    (case z_min => k_is)
    (case z_max => k_is)
    (case z_set => k_is)
    (case z_bool => k_is)
