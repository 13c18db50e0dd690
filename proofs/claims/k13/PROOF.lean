import PyProof.Rows.All
import Wide.All
import OpenK.AllK
import Wide.FinOn
import HandS.ForMost
import HandS.IsInst
import HandS.Property
import HandS.Wide
import HandS.MakeKw
import KE.DataMinMax
import PyProof.StrBlock2
import HandS.Strs
import HandS.Walk
import PyProof.CollectStr
import PyProof.TupleOfSeq
import HandS.More
import KE.GoesMore
import KE.GoesEnum
import HandS.Zip
import HandS.DictComp
import HandS.Deep
import HandS.TupAny
import HandS.ExcInit
import PyProof.Rows.StrMeet
import PyProof.Rows.SortStr
import HandS.MakeKwOnly
import KE.KCallOwn
import PyProof.Conv_bool
import PyProof.InstNe
import HandS.SlotsOwn
import HandS.ClsMeth
import PyProof.Rows.CallKw2
import PySem.Challenge.RW_wherebegun_k13_loops_and_their_rows
set_option Elab.async false
set_option maxRecDepth 100000
namespace Wb
open PySem L2
def top (i : Nat) : Stmt := PySem.Challenge.pw_wherebegun_k13_loops_and_their_rows.main.body.getD i (.Pass ⟨0, 0, 0, 0⟩)
abbrev sCell : Stmt := top 53
abbrev sPool : Stmt := top 54
abbrev sDraw : Stmt := top 55
/-- all but what lies at p stays -/
def But (p : Addr) (H H' : Hp) : Prop := ∀ b o, b ≠ p → H b = some o → H' b = some o
theorem But.refl (p : Addr) (H : Hp) : But p H H := fun _ _ _ h => h
theorem But.trans {p : Addr} {H H1 H2 : Hp} (a : But p H H1) (b : But p H1 H2) : But p H H2 := fun c o n h => b c o n (a c o n h)
theorem But.of {p : Addr} {H H' : Hp} (a : Same H H') : But p H H' := fun c o _ h => a c o h
theorem But.upd {p q : Addr} {o : HO} {H H' : Hp} (a : But p H H') (n : H' q = none) : But p H (L2.upd H' q o) := fun c u k h => by
  rw [upd_ne (ne_of_none (a c u k h) n)]
  exact a c u k h
theorem But.here {p : Addr} {o : HO} {H H' : Hp} (a : But p H H') : But p H (L2.upd H' p o) := fun c u k h => by
  rw [upd_ne k]
  exact a c u k h
theorem Same.put {q : Addr} {o : HO} {H H' : Hp} (a : Same H H') (n : H' q = none) : Same H (L2.upd H' q o) := fun c u h => by
  rw [upd_ne (ne_of_none (a c u h) n)]
  exact a c u h
/-- a pool stands at p: three ints -/
def PoolAt (H : Hp) (p : Addr) : Prop := ∃ a b c : Int, H p = some (.lst [.int a, .int b, .int c]) ∧ 0 ≤ a ∧ a < 2147483648 ∧ 0 ≤ b
def spDraw : Sp := fun vs H Q _ => ∃ (p : Addr) (m : Int), vs = [.ref p, .int m] ∧ 0 < m ∧ m < 1073741824 ∧ PoolAt H p ∧
  ∀ (d : Int) (H' : Hp), 0 ≤ d → d < m → PoolAt H' p → But p H H' → Q (.int d) H'
def spPool : Sp := fun vs H Q _ => ∃ c : Int, vs = [.int c] ∧ ∀ (p : Addr) (H' : Hp), H p = none → Same H H' → PoolAt H' p → Q (.ref p) H'
def spCell (K : PySem.W.Frag) : Sp := fun vs H Q _ => ∃ (a : Addr) (ns : List Int) (k : Int), vs = [.ref a, .int k] ∧ SqL K H a (ns.map V.int) ∧ ns.length ≤ 63 ∧ 0 ≤ k ∧ k < 64 ∧
  ∀ (n : Int) (H' : Hp), Same H H' → Q (.int n) H'
theorem cut_int {ns : List Int} {lo hi : Option Int} {i : Nat} {y : V} (h : (cutV (ns.map V.int) lo hi)[i]? = some y) : ∃ u, y = V.int u := by
  have q := List.mem_of_getElem? h
  unfold cutV at q
  obtain ⟨u, _, e⟩ := List.mem_map.mp (List.mem_of_mem_drop (List.mem_of_mem_take q))
  exact ⟨u, e.symm⟩
section
variable {P : Program} {w : World} {K : PySem.W.Frag} {mg : Str → Option Value} {base : Heap}
theorem scP : FnScope ["_law_cell_here", "_law_digits"] ["_law_cell_here"] (defScope sPool) := ⟨rfl, rfl, rfl, by decide +kernel, rfl, by decide +kernel, by decide +kernel⟩
theorem ok_pool {f : Addr} {fd : FuncData} (F : Fun K "_law_pool" "_law_pool" sPool f fd) (mAbs : mg "abs" = none) (mInt : mg "int" = none) : FnOk P w K mg base CX0 1 f fd ["_law_cell_here"] spPool := by
  refine F.ok scP (fun vs H Q E h => ?_) (fun cdv A outer s H vs Q E hr h => ?_)
  · obtain ⟨c, rfl, _⟩ := h
    rfl
  · obtain ⟨c, rfl, k⟩ := h
    refine ⟨_, pss_cons (ps_set (i := 1) scP.nd rfl (.inl rfl) (pe_ifExp (PW.pt (pw_or (pt_cmpR op_lt (pv 0) pe_int (nomark _)) (pw_or1 (pt_cmpR op_ge (pv 0) (pe_op op_pow pe_int pe_int) (nomark _)))))
        (pe_callB call_abs (by rfl) mAbs (by decide +kernel) (pa_cons (pv 0) pa_nil)) pe_int))
      (pss_one (ps_ret (pe_lst (pa_cons (pe_op op_mod (pe_callTy call_int1 (by rfl) mInt (by decide +kernel) (pa_cons (pv 0) pa_nil)) pe_int) (pa_cons (pv 1) (pa_cons pe_int pa_nil)))))), ?_⟩
    have fin : ∀ d : Int, 0 ≤ d → (tRet (tLst (tCons (tOp (rI (fun x j => 0 < j) fun i j => V.int (i % j)) (tCB (fun xs H Q => (∃ i, xs = [V.int i] ∧ Q (V.int i) H) ∨ ∃ k, xs = [V.bl k] ∧ Q (V.int (if k = true then 1 else 0)) H) (tCons (tVar 0) tNil)) (tC (V.int 2147483587))) (tCons (tVar 1) (tCons (tC (V.int 0)) tNil)))))
        { nx := fun x H' => Q V.non H', rt := Q } [some (V.int c), some (V.int d)] H := fun d h0 => by
      refine ⟨_, rfl, .inl ⟨_, rfl, _, _, rfl, rfl, (by show (0 : Int) < 2147483587; decide), _, rfl, (by show 3 ≤ sizeLine; decide), fun p hp => ?_⟩⟩
      refine k p _ hp (Same.put (Same.refl H) hp) ⟨_, _, _, upd_same, ?_⟩
      omega
    refine ⟨_, rfl, _, _, rfl, rfl, _, rfl, ite2 (fun h1 => iteT ?_) (fun h1 => ?_)⟩
    · refine ⟨_, rfl, _, rfl, ?_⟩
      exact fin _ (by split <;> omega)
    · refine ⟨_, rfl, _, _, rfl, rfl, (by refine ⟨?_, ?_, ?_⟩ <;> decide), _, _, rfl, rfl, _, rfl, ?_⟩
      refine ite2 (fun h2 => ?_) (fun h2 => ?_)
      · refine ⟨_, rfl, _, rfl, ?_⟩
        exact fin _ (by split <;> omega)
      · exact fin 0 (by omega)
theorem scD : FnScope ["_law_pool_here", "_law_many", "_law_mixed", "_law_digit"] ["_law_pool_here", "_law_many"] (defScope sDraw) := ⟨rfl, rfl, rfl, by decide +kernel, rfl, by decide +kernel, by decide +kernel⟩
theorem ok_draw {f : Addr} {fd : FuncData} (F : Fun K "_law_draw" "_law_draw" sDraw f fd) (mInt : mg "int" = none) (mDm : mg "divmod" = none) : FnOk P w K mg base CX0 1 f fd ["_law_pool_here", "_law_many"] spDraw := by
  refine F.ok scD (fun vs H Q E h => ?_) (fun cdv A outer s H vs Q E hr h => ?_)
  · obtain ⟨p, m, rfl, _⟩ := h
    rfl
  · obtain ⟨p, m, rfl, m0, m1, ⟨a, b, c, hp, a0, a1, b0⟩, k⟩ := h
    refine ⟨_, pss_cons (ps_asg (pe_op op_add (pe_ix ix_list (pv 0) pe_int (fun _ _ => rfl)) pe_int) (pg_sub (pv 0) pe_int set_list))
      (pss_cons (ps_set (i := 2) scD.nd rfl (.inl rfl) (pe_op op_mod (pe_callTy call_int1 (by rfl) mInt (by decide +kernel) (pa_cons (pe_op op_add (pe_op op_add (pe_op op_mul (pe_ix ix_list (pv 0) pe_int (fun _ _ => rfl)) pe_int) (pe_op op_mul (pe_ix ix_list (pv 0) pe_int (fun _ _ => rfl)) pe_int)) pe_int) pa_nil)) pe_int))
      (pss_cons (ps_asg (pe_op op_mod (pe_callTy call_int1 (by rfl) mInt (by decide +kernel) (pa_cons (pe_op op_mul (pv 2) (pe_op op_add (pe_op op_fdiv (pv 2) pe_int) pe_int)) pa_nil)) pe_int) (pg_sub (pv 0) pe_int set_list))
      (pss_cons (ps_if (pt_cmpR op_gt (pe_ix ix_list (pv 0) pe_int (fun _ _ => rfl)) pe_int (nomark _))
          (pss_cons (ps_asg (pe_callB call_divmod (by rfl) mDm (by decide +kernel) (pa_cons (pe_ix ix_list (pv 0) pe_int (fun _ _ => rfl)) (pa_cons (pv 1) pa_nil))) (pg_tup (by rfl) (pgs_cons (pg_sub (pv 0) pe_int set_list) (pgs_cons (pg_name (i := 3) scD.nd rfl (.inl rfl)) pgs_nil))))
            (pss_one (ps_ret (pv 3)))) pss_nil)
      (pss_one (ps_ret (pe_op op_mod (pe_callTy call_int1 (by rfl) mInt (by decide +kernel) (pa_cons (pe_op op_fdiv (pe_ix ix_list (pv 0) pe_int (fun _ _ => rfl)) pe_int) pa_nil)) (pv 1))))))), ?_⟩
    refine ⟨_, rfl, p, _, _, _, rfl, rfl, SqL.of hp, rfl, _, _, rfl, rfl, _, rfl, p, _, _, 2, rfl, rfl, hp, rfl, ?_⟩
    have hp1 : (L2.upd H p (.lst [.int a, .int b, .int (c + 1)])) p = some (.lst [.int a, .int b, .int (c + 1)]) := upd_same
    refine ⟨_, rfl, p, _, _, _, rfl, rfl, SqL.of hp1, rfl, _, _, rfl, rfl, .inl ⟨by omega, by omega⟩, _, rfl, p, _, _, _, rfl, rfl, SqL.of hp1, rfl, _, _, rfl, rfl, .inr ⟨by decide, by decide⟩, _, _, rfl, rfl, _, _, rfl, rfl, .inl ⟨_, rfl, _, _, rfl, rfl, (by show (0 : Int) < 2147483587; decide), ?_⟩⟩
    have x0 : ∀ z : Int, 0 ≤ z % 2147483587 ∧ z % 2147483587 < 2147483587 := fun z => ⟨Int.emod_nonneg _ (by decide), Int.emod_lt_of_pos _ (by decide)⟩
    generalize hx : ((a * 50021 + (c + 1) * 69067 + 31) % 2147483587 : Int) = x
    have ⟨x1, x2⟩ : 0 ≤ x ∧ x < 2147483587 := by rw [← hx]; exact x0 _
    refine ⟨_, rfl, _, rfl, _, _, rfl, rfl, ⟨by decide, by decide⟩, _, _, rfl, rfl, _, _, rfl, rfl, .inl ⟨by omega, by omega⟩, .inl ⟨_, rfl, _, _, rfl, rfl, (by show (0 : Int) < 2147483629; decide), ?_⟩⟩
    have y0 : ∀ z : Int, 0 ≤ z % 2147483629 ∧ z % 2147483629 < 2147483629 := fun z => ⟨Int.emod_nonneg _ (by decide), Int.emod_lt_of_pos _ (by decide)⟩
    refine ⟨_, rfl, p, _, _, 0, rfl, rfl, hp1, rfl, ?_⟩
    refine ⟨_, rfl, p, _, _, _, rfl, rfl, SqL.of upd_same, rfl, _, _, rfl, rfl, _, rfl, ite2 (fun h1 => ?_) (fun h1 => ?_)⟩
    · refine ⟨_, rfl, p, _, _, _, rfl, rfl, SqL.of upd_same, rfl, _, rfl, _, _, rfl, ⟨m0, m1⟩, fun t ht => ?_⟩
      have npt : p ≠ t := ne_of_none upd_same ht
      refine ⟨t, _, rfl, SqT.of upd_same, rfl, _, _, rfl, _, rfl, p, _, _, 1, rfl, rfl, (upd_ne npt).trans upd_same, rfl, _, _, rfl, ?_⟩
      refine ⟨rfl, _, rfl, k _ _ (Int.emod_nonneg _ (by omega)) (Int.emod_lt_of_pos _ m0) ⟨_, _, _, upd_same, ?_⟩ (But.here (But.upd (But.here (But.here (But.refl p H))) ht))⟩
      refine ⟨(y0 _).1, Int.lt_trans (y0 _).2 (by decide), ?_⟩
      exact Int.ediv_nonneg b0 (Int.le_of_lt m0)
    · refine ⟨_, rfl, p, _, _, _, rfl, rfl, SqL.of upd_same, rfl, _, _, rfl, rfl, ⟨by decide, by decide⟩, .inl ⟨_, rfl, _, rfl, _, _, rfl, rfl, m0, ?_⟩⟩
      exact k _ _ (Int.emod_nonneg _ (by omega)) (Int.emod_lt_of_pos _ m0) ⟨_, _, _, upd_same, (y0 _).1, Int.lt_trans (y0 _).2 (by decide), b0⟩ (But.here (But.here (But.refl p H)))
theorem scC : FnScope ["_law_script", "_law_k", "_law_mixed", "_law_cell_here"] ["_law_script", "_law_k"] (defScope sCell) := ⟨rfl, rfl, rfl, by decide +kernel, rfl, by decide +kernel, by decide +kernel⟩
theorem ok_cell {f : Addr} {fd : FuncData} (F : Fun K "_law_cell" "_law_cell" sCell f fd) (mInt : mg "int" = none) (mLen : mg "len" = none) : FnOk P w K mg base CX0 1 f fd ["_law_script", "_law_k"] (spCell K) := by
  refine F.ok scC (fun vs H Q E h => ?_) (fun cdv A outer s H vs Q E hr h => ?_)
  · obtain ⟨a, ns, j, rfl, _⟩ := h
    rfl
  · obtain ⟨a, ns, j, rfl, hS, hlen, j0, j1, k⟩ := h
    refine ⟨_, pss_cons (ps_if (pt_cmpR op_lt (pv 1) (pe_callB call_len_seq (by rfl) mLen PySem.boot_len (pa_cons (pv 0) pa_nil)) (nomark _)) (pss_one (ps_ret (pe_ix ix_list (pv 0) (pv 1) (fun _ _ => rfl)))) pss_nil)
      (pss_cons (ps_set (i := 2) scC.nd rfl (.inl rfl) (pe_op op_add pe_int (pe_op op_mul (pe_op op_mul pe_int (pv 1)) (pv 1))))
      (pss_cons (ps_for PassesOwn.never rfl (pi_list (pe_slice sl_list (pv 0) po_none (po_some pe_int))) (pg_name (i := 3) scC.nd rfl (.inl rfl))
        (pss_one (ps_set (i := 2) scC.nd rfl (.inl rfl) (pe_op op_mod (pe_callTy call_int1 (by rfl) mInt (by decide +kernel) (pa_cons (pe_op op_add (pe_op op_mul (pv 2) pe_int) (pv 3)) pa_nil)) pe_int))))
      (pss_one (ps_ret (pv 2))))), ?_⟩
    refine ⟨_, rfl, _, rfl, a, _, rfl, .inl hS, _, _, rfl, rfl, _, rfl, ite2 (fun h1 => ?_) (fun h1 => ?_)⟩
    · have h2 : j < (ns.length : Int) := by
        have q := of_decide_eq_true h1
        rw [List.length_map] at q
        exact q
      have h3 : (ns.map V.int)[j.toNat]? = some (V.int (ns[j.toNat]'(by omega))) := by
        rw [List.getElem?_map, List.getElem?_eq_getElem (by omega)] <;> rfl
      have h4 : atI (ns.map V.int) j = some (V.int (ns[j.toNat]'(by omega))) := by
        have q := atI_nat h3
        rw [Int.toNat_of_nonneg j0] at q
        exact q
      exact ⟨_, rfl, _, rfl, a, _, _, _, rfl, rfl, hS, h4, k _ _ (Same.refl H)⟩
    · have b1 : (-(2 ^ 64) < (4093 : Int) ∧ (4093 : Int) < 2 ^ 64) := by decide
      refine ⟨_, rfl, _, _, rfl, rfl, .inl b1, _, rfl, _, _, rfl, rfl, .inr ⟨by omega, by omega⟩, _, _, rfl, rfl, ?_⟩
      refine ⟨_, rfl, _, rfl, a, _, rfl, hS, fun q hq => ?_⟩
      have sq : SqL K (L2.upd H q (.lst (cutV (ns.map V.int) none (some 4)))) q (cutV (ns.map V.int) none (some 4)) := SqL.of upd_same
      refine ⟨q, rfl, ⟨_, sq⟩, for_list (K := K) (a := q) (xs := cutV (ns.map V.int) none (some 4)) (fun i σ H' => ∃ (z : Int) (v : Option V), σ = [some (.ref a), some (.int j), some (.int z), v] ∧ Same H H' ∧ SqL K H' q (cutV (ns.map V.int) none (some 4)))
        ⟨_, none, rfl, Same.put (Same.refl H) hq, sq⟩ (fun i σ H' _ ⟨_, _, _, _, s⟩ => s) ?_ ?_⟩
      · rintro i y σ H' hi ⟨z, v, rfl, s1, s2⟩
        obtain ⟨u, rfl⟩ := cut_int hi
        exact ⟨_, rfl, _, _, rfl, rfl, .inr ⟨by decide, by decide⟩, _, rfl, _, _, rfl, rfl, .inl ⟨_, rfl, _, _, rfl, rfl, (by show (0 : Int) < 2147483629; decide), _, _, rfl, s1, s2⟩⟩
      · rintro σ H' ⟨z, v, rfl, s1, s2⟩
        exact ⟨_, rfl, k _ _ s1⟩
end
end Wb
/-! min(xs) of a list of texts; a text so many times -/
namespace WbMin
open PySem PySem.W PySem.Spec PyProof.Rows L2
theorem depthAll_strs : ∀ xs : List Str, PyData.depthAll (xs.map PyData.str) = 0
  | [] => rfl
  | x :: r => by
    show max (PyData.depth (.str x)) (PyData.depthAll (r.map PyData.str)) = 0
    rw [depthAll_strs r] <;> rfl
section
variable {X : Cx}
end
end WbMin
namespace Wb
open PySem L2 WbMin
abbrev sSigns : Stmt := top 58
/-- the text of these codes -/
def S (l : List Nat) : Str := ⟨l.toArray⟩
theorem S_cps (l : List Nat) : (S l).cps.toList = l := by simp [S]
theorem S_size (l : List Nat) : (S l).cps.size = l.length := by simp [S]
theorem S_len (l : List Nat) : (S l).length = l.length := S_size l
theorem S_of (z : Str) : S z.cps.toList = z := by cases z; simp [S]
theorem S_add (l m : List Nat) : S l ++ S m = S (l ++ m) := by
  show Str.append (S l) (S m) = S (l ++ m)
  simp [S, Str.append]
def one (c : Nat) : Str := ⟨#[c]⟩
theorem S_one (c : Nat) : one c = S [c] := rfl
def abc : List Nat := (List.range 26).map (· + 97)
theorem abc_is : ("abcdefghijklmnopqrstuvwxyz" : Str) = S abc := by decide +kernel
/-- small letters -/
def Low (l : List Nat) : Prop := ∀ c ∈ l, 97 ≤ c ∧ c ≤ 122
theorem abc_low : Low abc := by unfold Low abc; decide
theorem abc_len : abc.length = 26 := rfl
/-- a def of the top -/
structure Def (K : PySem.W.Frag) (mg : Str → Option Value) (x : Str) (st : Stmt) (ps : List Str) (f : Addr) (fd : FuncData) : Prop where
  F : Fun K x x st f fd
  g : mg x = some (.ref f)
  kp : PySem.W.keepIn K (.ref f) = true
  b : Binds K fd ps []
def spSigns : Sp := fun vs H Q _ => ∃ (p : Addr) (m : Int), vs = [.ref p, .int m] ∧ 0 < m ∧ m ≤ 26 ∧ PoolAt H p ∧
  ∀ (l : List Nat) (H' : Hp), Low l → l.Nodup → 0 < l.length → (l.length : Int) ≤ m → PoolAt H' p → But p H H' → Q (.str (S l)) H'
theorem drop_one (a : Nat) : ∀ ys : List Nat, ys.Nodup → ys.length ≤ (ys.filter fun c => !decide (c = a)).length + 1
  | [], _ => Nat.zero_le _
  | y :: r, nd => by
    obtain ⟨n1, n2⟩ := List.nodup_cons.mp nd
    by_cases e : y = a
    · have e1 : (r.filter fun c => !decide (c = a)) = r := List.filter_eq_self.mpr fun c hc => by
        have : c ≠ a := fun z => n1 (e ▸ z ▸ hc)
        simp [this]
      rw [List.filter_cons_of_neg (by simp [e]), e1] <;> exact Nat.le_refl _
    · rw [List.filter_cons_of_pos (by simp [e])]
      have := drop_one a r n2
      simp only [List.length_cons]
      omega
theorem left_len : ∀ (l xs : List Nat), xs.Nodup → xs.length ≤ (xs.filter fun c => !decide (c ∈ l)).length + l.length
  | [], xs, _ => by
    have e : (xs.filter fun c => !decide (c ∈ ([] : List Nat))) = xs := List.filter_eq_self.mpr (by simp)
    rw [e] <;> exact Nat.le_refl _
  | a :: l, xs, nd => by
    have ih := left_len l xs nd
    have e : (xs.filter fun c => !decide (c ∈ a :: l)) = ((xs.filter fun c => !decide (c ∈ l)).filter fun c => !decide (c = a)) := by
      rw [List.filter_filter]
      refine List.filter_congr fun c _ => ?_
      by_cases h1 : c = a <;> by_cases h2 : c ∈ l <;> simp [h1, h2]
    have := drop_one a _ (nd.filter fun c => !decide (c ∈ l))
    rw [e]
    simp only [List.length_cons]
    omega
theorem rest_pos {l : List Nat} (h : l.length < 26) : 0 < (abc.filter fun c => !decide (c ∈ l)).length := by
  have := left_len l abc (by unfold abc; decide)
  rw [abc_len] at this
  omega
theorem PoolAt.up {H : Hp} {p q : Addr} {o : HO} (h : PoolAt H p) (n : H q = none) : PoolAt (L2.upd H q o) p := by
  obtain ⟨a, b, c, e, r⟩ := h
  exact ⟨a, b, c, by rw [upd_ne (ne_of_none e n)]; exact e, r⟩
theorem PoolAt.ne {H : Hp} {p q : Addr} (h : PoolAt H p) (n : H q = none) : q ≠ p := by
  obtain ⟨a, b, c, e, r⟩ := h
  exact (ne_of_none e n).symm
theorem PoolAt.put {H : Hp} {p q : Addr} {o : HO} (h : PoolAt H p) (n : q ≠ p) : PoolAt (L2.upd H q o) p := by
  obtain ⟨a, b, c, e, r⟩ := h
  exact ⟨a, b, c, by rw [upd_ne n.symm]; exact e, r⟩
/-- a store at a thing that was not there at first -/
theorem But.new {p q : Addr} {o : HO} {H H' : Hp} (a : But p H H') (n : H q = none) : But p H (L2.upd H' q o) := fun c u k h => by
  rw [upd_ne (ne_of_none h n)]
  exact a c u k h
theorem But.free {p q : Addr} {H H' : Hp} (a : But p H H') (n : H' q = none) (ne : q ≠ p) : H q = none := by
  cases e : H q with
  | none => rfl
  | some o =>
    rw [a q o ne e] at n
    cases n
theorem take_more {α : Type} : ∀ {l : List α} {i : Nat} {x : α}, l[i]? = some x → l.take (i + 1) = l.take i ++ [x] := fun {l i x} h => by
  rw [List.take_add_one, h] <;> rfl
def vOne (c : Nat) : V := .str (one c)
section
variable {P : Program} {w : World} {K : PySem.W.Frag} {mg : Str → Option Value} {base : Heap} {f fD : Addr} {fd fdD : FuncData}
theorem scS : FnScope ["_law_pool_here", "_law_most", "_law_found", "_law_turn", "_law_rest", "_law_mark"] ["_law_pool_here", "_law_most"] (defScope sSigns) := ⟨rfl, rfl, rfl, by decide +kernel, rfl, by decide +kernel, by decide +kernel⟩
theorem ok_signs (F : Fun K "_law_signs" "_law_signs" sSigns f fd) (D : Def K mg "_law_draw" sDraw ["_law_pool_here", "_law_many"] fD fdD) (mInt : mg "int" = none) (mDm : mg "divmod" = none) (mLen : mg "len" = none) (mRange : mg "range" = none) :
    FnOk P w K mg base CX0 2 f fd ["_law_pool_here", "_law_most"] spSigns := by
  have G : FnOk P w K mg base CX0 1 fD fdD ["_law_pool_here", "_law_many"] spDraw := ok_draw D.F mInt mDm
  refine F.ok scS (fun vs H Q E h => ?_) (fun cdv A outer s H vs Q E hr h => ?_)
  · obtain ⟨p, m, rfl, _⟩ := h
    rfl
  · obtain ⟨p, m, rfl, m0, m1, hp, k⟩ := h
    refine ⟨_, pss_cons (ps_set (i := 2) scS.nd rfl (.inr rfl) pe_str)
      (pss_cons (ps_for PassesOwn.never rfl (pi_range1 rfl mRange (pa_cons (pe_op op_add pe_int (pe_call G hr rfl D.g D.kp D.b .nil pass0 (pa_cons (pv 0) (pa_cons (pv 1) pa_nil)))) pa_nil)) (pg_name (i := 3) scS.nd rfl (.inl rfl))
        (pss_cons (ps_setLc (i := 4) (own := [("_law_mark", 5)]) (g := gName 5) rfl scS.nd rfl rfl (sw_true rfl rfl rfl (by decide +kernel)) (pi_str pe_str) (blkOk_by (N := ["_law_pool_here", "_law_most", "_law_found", "_law_turn", "_law_rest", "_law_mark"]) (sc := defScope sSigns) (by decide +kernel))
            (fun _ _ _ _ _ => pg_name (i := 5) scS.nd rfl (.inl rfl)) (fun _ _ _ _ _ => pts_one (pt_cmpR op_notIn_sign (pv 5) (pv 2) rfl)) (fun _ _ _ _ _ => pv 5))
          (pss_one (ps_set (i := 2) scS.nd rfl (.inr rfl) (pe_op op_add_str (pv 2) (pe_ix ix_list (pv 4) (pe_call G hr rfl D.g D.kp D.b .nil pass0 (pa_cons (pv 0) (pa_cons (pe_callB call_len_seq (by rfl) mLen PySem.boot_len (pa_cons (pv 4) pa_nil)) pa_nil))) (fun _ _ => rfl)))))))
      (pss_one (ps_ret (pv 2)))), ?_⟩
    have e0 : (Str.ofString "" : Str) = S [] := by decide +kernel
    refine ⟨_, rfl, _, rfl, p, m, rfl, m0, by omega, hp, fun d H1 d0 d1 hp1 b1 => ⟨_, _, rfl, rfl, _, rfl, by omega, by omega, for_it walk_range
      (fun i σ H' => ∃ (l : List Nat) (v3 v4 v5 : Option V), σ = [some (.ref p), some (.int m), some (.str (S l)), v3, v4, v5] ∧ Low l ∧ l.Nodup ∧ l.length = i ∧ PoolAt H' p ∧ But p H H')
      ⟨[], none, none, none, by rw [← e0]; rfl, (fun c hc => nomatch hc), List.nodup_nil, rfl, hp1, b1⟩ (fun _ _ _ _ _ => trivial) ?_ ?_⟩⟩
    · rintro i x σ H2 H2' hi ⟨l, v3, v4, v5, rfl, lo, nd, ll, hp2, b2⟩ ⟨rfl, rfl⟩
      refine ⟨_, rfl, fun D hD => lc_it walk_str (fun j H3 => H3 D = some (.lst (((abc.take j).filter fun c => !decide (c ∈ l)).map vOne)) ∧ PoolAt H3 p ∧ But p H H3) ?_ (fun _ _ _ _ => trivial) ?_ ?_⟩
      · exact ⟨upd_same, hp2.up hD, b2.upd hD⟩
      · rintro j y H3 H3' hj ⟨h1, h2, h3⟩ ⟨rfl, c, hc, rfl⟩
        have hc' : abc[j]? = some c := by
          rw [abc_is] at hc
          simpa [S] using hc
        have hD0 : H D = none := b2.free hD (hp2.ne hD)
        refine ⟨rfl, _, rfl, _, rfl, c, S l, rfl, rfl, _, rfl, ite2 (fun q => ?_) (fun q => ?_)⟩
        · refine ⟨_, rfl, _, h1, ?_, ?_, h2.put (hp2.ne hD), h3.new hD0⟩
          · rw [List.length_map, sizeLine_eq]
            have := List.length_filter_le (fun c => !decide (c ∈ l)) (abc.take j)
            have := List.length_take_le' j abc
            rw [abc_len] at this
            omega
          · rw [upd_same, take_more hc', List.filter_append, List.map_append]
            rw [S_cps] at q
            rw [show ([c].filter fun c => !decide (c ∈ l)) = [c] from List.filter_cons_of_pos q] <;> rfl
        · refine ⟨?_, h2, h3⟩
          rw [S_cps] at q
          rw [h1, take_more hc', List.filter_append, show ([c].filter fun c => !decide (c ∈ l)) = [] from List.filter_cons_of_neg q, List.append_nil]
      · rintro H3 ⟨h1, h2, h3⟩
        have full : abc.take ("abcdefghijklmnopqrstuvwxyz" : Str).cps.size = abc := by rw [abc_is, S_size, List.take_length]
        rw [full] at h1
        have ne : 0 < (abc.filter fun c => !decide (c ∈ l)).length := rest_pos (by omega)
        refine ⟨_, rfl, _, rfl, _, rfl, _, rfl, D, _, rfl, .inl (SqL.of h1), p, _, rfl, ?_, ?_, h2, fun e H4 e0 e1 hp4 b4 => ?_⟩
        · rw [List.length_map]
          omega
        · rw [List.length_map]
          have := List.length_filter_le (fun c => !decide (c ∈ l)) abc
          rw [abc_len] at this
          omega
        · have e1' : e.toNat < (abc.filter fun c => !decide (c ∈ l)).length := by
            rw [List.length_map] at e1
            omega
          obtain ⟨c, hc⟩ : ∃ c, (abc.filter fun c => !decide (c ∈ l))[e.toNat]? = some c := ⟨_, List.getElem?_eq_getElem e1'⟩
          obtain ⟨c1, c2⟩ := List.mem_filter.mp (List.mem_of_getElem? hc)
          have c3 : c ∉ l := by simpa using c2
          have hat : atI ((abc.filter fun c => !decide (c ∈ l)).map vOne) e = some (vOne c) := by
            have q := atI_nat (xs := (abc.filter fun c => !decide (c ∈ l)).map vOne) (j := e.toNat) (v := vOne c) (by rw [List.getElem?_map, hc] <;> rfl)
            rwa [Int.toNat_of_nonneg e0] at q
          have h4 := b4 D _ (hp2.ne hD) h1
          refine ⟨D, _, _, _, rfl, rfl, SqL.of h4, hat, _, _, rfl, rfl, ?_, l ++ [c], some (.int (0 + (i : Nat))), some (.ref D), v5, ?_, fun z hz => ?_, ?_, ?_, hp4, h3.trans b4⟩
          · rw [S_len, sizeLine_eq]
            show l.length + 1 ≤ 16777216
            omega
          · rw [← S_add]
            rfl
          · rcases List.mem_append.mp hz with hz | hz
            · exact lo z hz
            · rw [List.mem_singleton.mp hz]
              exact abc_low c c1
          · rw [List.nodup_append]
            exact ⟨nd, by simp, fun a ha b hb q => c3 (by rw [← List.mem_singleton.mp hb, ← q]; exact ha)⟩
          · rw [List.length_append, ll] <;> rfl
    · rintro σ H2 ⟨l, v3, v4, v5, rfl, lo, nd, ll, hp2, b2⟩
      exact ⟨_, rfl, k l _ lo nd (by omega) (by omega) hp2 b2⟩
end
end Wb
namespace Wb
open PySem L2 WbMin
theorem one_cat : ∀ (l : List Nat) (c : Nat), Str.join (S []) ((c :: l).map one) = S (c :: l)
  | [], c => rfl
  | d :: l, c => by
    have ih := one_cat l d
    show one c ++ S [] ++ Str.join (S []) ((d :: l).map one) = S (c :: d :: l)
    rw [ih, S_one, S_add, S_add]
    rfl
theorem join_one {l : List Nat} (h : 0 < l.length) : Txt.join (Str.ofString "") (l.map one) = S l := by
  have e0 : (Str.ofString "" : Str) = S [] := by decide +kernel
  cases l with
  | nil => cases h
  | cons c l =>
    rw [e0]
    show Builtin.Str.glued (S []) ((c :: l).map one) = S (c :: l)
    rw [StrLaws.glued_eq_join]
    exact one_cat l c
end Wb
/-! set(xs) and len(set(xs)) of a list of texts, any of them, below the scanned bound -/
namespace WbSet
open PySem PySem.Spec PyProof.Rows
/-- the different ones, by their first places -/
def addNew (acc : List Str) (x : Str) : List Str := if x ∈ acc then acc else acc ++ [x]
def differ (xs : List Str) : List Str := xs.foldl addNew []
theorem addNew_mem (acc : List Str) (x k : Str) : k ∈ addNew acc x ↔ k ∈ acc ∨ k = x := by
  unfold addNew
  by_cases h : x ∈ acc
  · rw [if_pos h]
    exact ⟨.inl, fun q => q.elim id fun e => e ▸ h⟩
  · rw [if_neg h, List.mem_append, List.mem_singleton]
theorem addNew_len (acc : List Str) (x : Str) : (addNew acc x).length = if x ∈ acc then acc.length else acc.length + 1 := by
  unfold addNew
  by_cases h : x ∈ acc
  · rw [if_pos h, if_pos h]
  · rw [if_neg h, if_neg h, List.length_append] <;> rfl
theorem differ_more (xs : List Str) (x : Str) : differ (xs ++ [x]) = addNew (differ xs) x := by
  unfold differ
  rw [List.foldl_append] <;> rfl
theorem fold_le : ∀ (xs acc : List Str), (xs.foldl addNew acc).length ≤ acc.length + xs.length
  | [], acc => Nat.le_refl _
  | x :: r, acc => by
    have h1 := fold_le r (addNew acc x)
    have h2 : (addNew acc x).length ≤ acc.length + 1 := by rw [addNew_len]; split <;> omega
    show (r.foldl addNew (addNew acc x)).length ≤ acc.length + (r.length + 1)
    omega
theorem differ_le (xs : List Str) : (differ xs).length ≤ xs.length := by
  have h := fold_le xs []
  show (xs.foldl addNew []).length ≤ xs.length
  simpa using h
/-- what the set at a holds behind the first i -/
def Has (P : Program) (w : World) (h : Heap) (a : Addr) (ys : List Str) : Prop := h.SetOf (strKind P w) a (fun k => decide (k ∈ ys)) ys.length
section
variable {prog : Program} {w : World} {A : Around} {R : Result → Shared → Prop} {I : Addr} {fp wr : List Addr} {G : Array GenState → Array GenState → Prop} {n : Nat} {P : Nat → Value → Prop} {St : Nat → Shared → Prop}
theorem Has.keep {h h' : Heap} {a : Addr} {ys : List Str} (q : Has prog w h a ys) (k : ∀ o, h.get? a = some o → h'.get? a = some o) : Has prog w h' a ys := by
  obtain ⟨o, es, ep, t, ho, r⟩ := q
  exact ⟨o, es, ep, t, k o ho, r⟩
theorem Has.more {h : Heap} {a : Addr} {ys : List Str} {x : Str} (q : h.SetOf (strKind prog w) a (fun j => decide (j ∈ ys) || decide (j = x)) (if decide (x ∈ ys) = true then ys.length else ys.length + 1)) : Has prog w h a (addNew ys x) := by
  refine SetOf_congr q (fun k => ?_) ?_
  · rw [← Bool.decide_or]
    exact decide_eq_decide.mpr (addNew_mem ys x k).symm
  · rw [addNew_len]
    by_cases e : x ∈ ys
    · rw [if_pos e, if_pos (decide_eq_true e)]
    · rw [if_neg e, if_neg (fun z => e (of_decide_eq_true z))]
theorem turns (W : WalksS prog w A.in1 I fp wr G n P St) (T : Addr) (nT : T ∉ fp) (xs : List Str) (lx : xs.length = n) (few : n + 1 < scanBound) (told : ∀ i v, P i v → ∃ x t, xs[i]? = some x ∧ v = .str x t) :
    ∀ (left i : Nat) (s : Shared), n - i = left → i ≤ n → St i s → Has prog w s.heap T (differ (xs.take i)) →
      (∀ s', Moved (T :: wr) G s s' → Has prog w s'.heap T (differ xs) → R (.ok (.ret .none)) s') → codeAny (model prog w) A (.builtin "set.update.loop" ⟨[.ref T, .ref I], []⟩) R s := by
  have nTw : T ∉ wr := fun q => nT (W.sub _ q)
  have wider : ∀ b ∈ wr, b ∈ T :: wr := fun _ q => List.mem_cons_of_mem _ q
  intro left
  induction left with
  | zero =>
    intro i s e1 e2 hst has fin
    obtain rfl : i = n := by omega
    refine codeAny_builtin PyProof.Rows.F.entry_set_update_loop ?_ ; rw [Around.under_plainId PyProof.Rows.F.plain_set_update_loop _]
    show wpAny _ A.in1 (pyNext (.ref I) >>= _) _ _ s ; refine wpAny_bind (W.done s _ _ hst fun s1 mv => ?_)
    show wpAny _ A.in1 (ret Value.none) _ _ s1
    refine wpAny_pure (fin s1 (mv.mono wider) ?_)
    rw [← lx, List.take_length] at has
    exact has.keep fun o e => mv.heap T o nTw e
  | succ left ih =>
    intro i s e1 e2 hst has fin
    have lt : i < n := by omega
    refine codeAny_builtin PyProof.Rows.F.entry_set_update_loop ?_ ; rw [Around.under_plainId PyProof.Rows.F.plain_set_update_loop _]
    show wpAny _ A.in1 (pyNext (.ref I) >>= _) _ _ s ; refine wpAny_bind (W.item i s _ _ lt hst fun v s1 hP hst1 mv => ?_)
    obtain ⟨x, t, hx, rfl⟩ := told i v hP
    have has1 : Has prog w s1.heap T (differ (xs.take i)) := has.keep fun o e => mv.heap T o nTw e
    have room : (differ (xs.take i)).length + 1 < scanBound := by
      have := differ_le (xs.take i)
      rw [List.length_take] at this
      omega
    have step : differ (xs.take (i + 1)) = addNew (differ (xs.take i)) x := by
      rw [← differ_more, List.take_add_one, hx] <;> rfl
    show wpAny _ A.in1 (holding [Value.str x t] (setAdd T (.str x t)) >>= _) _ _ s1 ; refine wpAny_bind (wpAny_holding ?_)
    unfold setAdd ; refine wpAny_holding (wpAny_bind ((strKind prog w).pyHash (k := x) (strKind_is _ _ _ _) ?_))
    refine wpAny_setAddHashed_of (knd := strKind prog w) (s := { s1 with toks := s1.toks + 1 }) (strKind_is _ _ _ _) rfl has1 room fun h2 but new => ?_
    have has2 : Has prog w h2 T (differ (xs.take (i + 1))) := by rw [step]; exact Has.more new
    refine wpAny_pure ⟨plainId_quiet PyProof.Rows.F.plain_set_update_loop _, ih (i + 1) _ (by omega) lt (W.frame _ s1 _ _ hst1 (Nat.le_succ _) fun b hb o e => ?_) has2 fun s2 mv2 has3 => fin s2 (Moved.trans W.gtrans ((mv.mono wider).then_heap (Nat.le_succ _) fun b o hb e => ?_) mv2) has3⟩
    · rw [but.2 b fun q => nT (q ▸ hb)] ; exact e
    · rw [but.2 b fun q => hb (q ▸ List.mem_cons_self)] ; exact e
end
section
variable {prog : Program} {w : World} {A : Around} {E : Value → Shared → Prop} {s : Shared}
/-- the set object that set() makes first -/
abbrev setO (led : Bool) : Obj := { cls := .type "set", dict := none, data := .set #[] 0 (.fresh 0 0 led) }
end
end WbSet
namespace WbSet
open PySem PySem.Spec PyProof.Rows L2
variable {X : Cx}
end WbSet
/-! sorted of a text, of a tuple of texts; len(set(z)) of a text -/
namespace WbS
open PySem PySem.Spec PyProof.Rows L2
section
variable {X : Cx}
def sOne (c : Nat) : Str := ⟨#[c]⟩
/-- a new list of these texts, sorted -/
theorem sort_new {pins : List (Addr × Obj)} {σ : L2.St} {H : Hp} {s : Shared} {Q : VK} {us : List Value} {ks : List Str} (I : Inv X pins σ H s) (hS : StrsAre us ks) (h64 : ks.length < 64) (q : ∀ ys p, ys.Perm ks → sortedS ys = true → H p = none → Q (.ref p) (upd H p (.lst (ys.map V.str)))) :
    wpAny (model X.prog X.w) X.A.in1 (newList us >>= fun l => holding [l] (call (.builtin "list.sort") [l] []) >>= fun _ => ret l) (fun fin s' => ∃ v, fin = .done (.ret v) ∧ ∃ x H', Inv X pins σ H' s' ∧ RelV x v ∧ Q x H') X.xe s := by
  have hal : us.length = ks.length := hS.len_eq
  refine wpAny_bind (wpAny_newList ?_ (by rw [hal, sizeLine_eq]; omega))
  have hoL : (s.heap.push (seqObj "list" us.toArray 0)).get? s.heap.objs.size = some (seqObj "list" us.toArray 0) := Heap.get?_push_size _ rfl
  show wpAny _ _ _ _ _ { s with heap := s.heap.push (seqObj "list" us.toArray 0) }
  refine wpAny_bind (wpAny_holding (wpAny_call_entry PyProof.Rows.slot_list_sort ⟨_, hoL, rfl⟩ PyProof.Rows.entry_list_sort
    (list_sort_treeK strKind_oneLt (s := { s with heap := s.heap.push (seqObj "list" us.toArray 0) }) hoL hS.keysOf (fun v₁ v₂ rest e => keyKind_strs (by rw [← e]; exact hS)) (by rw [hal]; exact h64) fun st' hp hs => ⟨_, rfl, ?_⟩)
    (PyProof.Rows.args_list_sort _)))
  obtain ⟨ys, g1, g2, g3⟩ := sorted_out_str hS hp hs
  obtain ⟨e', he'⟩ := PyProof.Rows.sortedHeap_at (vs := us) (out := (arrOf st').map (·.2)) hoL
  have hlen : (ys.map V.str).length ≤ sizeLine := by
    rw [List.length_map, g2.length_eq]
    exact Nat.le_trans (Nat.le_of_lt h64) (by decide)
  refine wpAny_pure ⟨_, rfl, .ref s.heap.objs.size, upd H s.heap.objs.size (.lst (ys.map V.str)), I.laid (t' := s.toks) (fun b u e => ?_) (Nat.le_refl _)
    (show ObjOk X.prog X.w _ _ _ (.lst (ys.map V.str)) from ⟨hlen, ((arrOf st').map (·.2)).toList, e', vals_of_strs g1, by rw [Array.toArray_toList]; exact he'⟩), rfl, q ys _ g2 g3 (I.hok.fresh (Nat.le_refl _))⟩
  have hb : b < s.heap.objs.size := Heap.lt_size e
  rw [PyProof.Rows.sortedHeap_old (Nat.ne_of_lt hb) (by rw [size_push']; exact Nat.lt_succ_of_lt hb)]
  exact Heap.get?_push_of_some _ e
theorem call_sortedTx (hcalm : X.calm = true) : CallR X (.builtin "sorted") (fun xs H Q => ∃ z : Str, xs = [.str z] ∧ z.length < 64 ∧ ∀ ys p, ys.Perm (z.cps.toList.map sOne) → sortedS ys = true → H p = none → Q (.ref p) (upd H p (.lst (ys.map V.str)))) := by
  intro pins s σ H xs us Q I r q
  obtain ⟨z, rfl, h64, q⟩ := q
  obtain ⟨u, rfl, t, rfl⟩ := vals1 r
  have h16 : z.cps.size ≤ sizeLine := by
    have : z.cps.size < 64 := h64
    rw [sizeLine_eq]; omega
  refine Calls.call_function_entry PyProof.Rows.kind_sorted PyProof.Rows.plain_sorted PyProof.Rows.entry_sorted (PyProof.Rows.args_sorted1 _) ?_
  unfold Builtin.«sorted»
  refine wpAny_bind (m := checkCount "sorted" 1 1 _) (wpAny_pure ?_)
  refine wpAny_bind (wpAny_collect_str (A := X.A.in1) (I.ok.hd hcalm) z t (fun s' acc hk e1 e2 e3 hacc => ?_) h16)
  obtain ⟨h', g', d', tk, os'⟩ := s'
  obtain rfl : g' = s.gens := e1
  obtain rfl : d' = s.drawn := e2
  obtain rfl : os' = s.os := e3
  have hS : StrsAre acc.toList (z.cps.toList.map sOne) := strs_at (by rw [Array.length_toList, hacc.1, List.length_map, Array.length_toList]) fun j v e => by
    obtain ⟨c, u, a1, a2⟩ := hacc.2 j v (by rw [← Array.getElem?_toList]; exact e)
    exact ⟨sOne c, u, by rw [List.getElem?_map, Array.getElem?_toList, a1] <;> rfl, a2⟩
  have I1 : Inv X pins σ H { s with heap := h', toks := tk } := I.kept hk
  exact sort_new I1 hS (by rw [List.length_map, Array.length_toList]; exact h64) q
end
end WbS
namespace WbSet
open PySem PySem.Spec PyProof.Rows
def signs (x : Str) : List Str := x.cps.toList.map fun c => ⟨#[c]⟩
theorem signs_told {x : Str} {i : Nat} {v : Value} (h : SignAt x i v) : ∃ y t, (signs x)[i]? = some y ∧ v = .str y t := by
  obtain ⟨c, u, e1, e2⟩ := h
  refine ⟨⟨#[c]⟩, u, ?_, e2⟩
  unfold signs
  rw [List.getElem?_map, Array.getElem?_toList, e1] <;> rfl
section
variable {prog : Program} {w : World} {A : Around} {E : Value → Shared → Prop} {s : Shared}
set_option maxHeartbeats 3200000 in
theorem call_setT {x : Str} {u : Tok} {Q : Value → Shared → Prop} (calm : A.handled = none) (few : x.cps.size + 1 < scanBound)
    (k : ∀ (h' : Heap) (tk : Nat), Has prog w h' s.heap.objs.size (differ (signs x)) → (∀ b o, b < s.heap.objs.size → s.heap.get? b = some o → h'.get? b = some o) → Q (.ref s.heap.objs.size) { s with heap := h', toks := tk }) :
    wpAny (model prog w) A (call (.type "set") [.str x u]) Q E s := by
  obtain ⟨c, tl, mro⟩ := PySem.F.called_set.mro
  have f1 := PySem.F.called_set.made
  have f2 := PySem.F.called_set.sub
  refine wpAny_call (codeAny_of_tree ?_) ; show wpAny _ _ (callAny (.type "set") _) _ _ _
  refine wpAny_pure ⟨Code.quiet_builtin _ (by decide +kernel), codeAny_builtin PySem.F.entry_type_call ?_⟩ ; rw [Around.under_plain (weight_type_call_type "set" [.str x u] []) rfl]
  have f3 := PySem.F.called_set.notType
  have f4 := PySem.F.called_set.canCreate
  have f5 := PySem.F.typeCall_set_1 (.str x u)
  repeat (any_goals (first | assumption | wp_step))
  refine codeAny_mono (code_set_new_1 (.str x u) (E := E) (Q₁ := fun v s1 => ∃ led : Bool, v = .ref s.heap.objs.size ∧ s1 = { s with heap := s.heap.push (setO led) }) fun led => ⟨led, rfl, rfl⟩) fun r s1 hr => ?_
  cases r with
  | error e => exact hr
  | ok fl =>
    cases fl with
    | ret v =>
      obtain ⟨led, rfl, rfl⟩ := hr
      have g1 : (s.heap.push (setO led)).get? s.heap.objs.size = some (setO led) := Heap.get?_push_size _ rfl
      have g2 : Shared.TypeIs { s with heap := s.heap.push (setO led) } (.ref s.heap.objs.size) "set" := ⟨_, g1, rfl⟩
      have f6 := PySem.F.called_set.init.lookup
      have f7 := PySem.F.called_set.init.bind (.ref s.heap.objs.size)
      repeat (any_goals (first | assumption | wp_step))
      refine codeAny_mono (codeAny_call_builtin (R := wants (fun r s2 => r = .none ∧ ∃ h' tk, s2 = { s with heap := h', toks := tk } ∧ Has prog w h' s.heap.objs.size (differ (signs x)) ∧ (∀ b o, b < s.heap.objs.size → s.heap.get? b = some o → h'.get? b = some o)) E) PySem.F.called_set.init.plain PySem.F.entry_set_init (check_set_init_1 g2 ?_)) fun r2 s2 hr2 => ?_
      · have f8 := PySem.F.sub_str_set
        have f9 := PySem.F.sub_str_frozenset
        have f10 : (Value.type "str" == Value.type "dict") = false := by decide
        unfold Builtin.«set.__init__» noKeywords Builtin.Frozenset.updateFrom
        generalize hit : pyIter = it
        wp_walk
        subst hit
        refine wpAny_pyIter_str fun o St W hst => (wpAny_bind (wpAny_runValue ?_))
        have calm3 : A.in1.in1.in1.handled = none := by simp [calm]
        have sz : (s.heap.push (setO led)).objs.size = s.heap.objs.size + 1 := Heap.size_push _ _
        have ne2 : s.heap.objs.size ∉ [(s.heap.push (setO led)).objs.size] := by
          intro q
          have q := List.mem_singleton.mp q
          rw [sz] at q; exact absurd q (Nat.ne_of_lt (Nat.lt_succ_self _))
        have lx : (signs x).length = x.cps.size := by unfold signs; rw [List.length_map, Array.length_toList]
        refine turns ((W _ calm3).toS) s.heap.objs.size ne2 (signs x) lx few (fun i v hv => signs_told hv) (x.cps.size - 0) 0 _ (by omega) (Nat.zero_le _) hst ?start ?fin
        case start =>
          have g4 : ((s.heap.push (setO led)).push o).get? s.heap.objs.size = some (setO led) := Heap.get?_push_of_some _ g1
          exact SetOf_congr ((setObjOf_fresh (knd := strKind prog w) led).setOf g4 (by unfold scanBound; omega)) (fun _ => rfl) rfl
        case fin =>
          intro s3 mv has
          obtain ⟨h3, g3', d3, tk3, os3⟩ := s3
          obtain rfl : g3' = s.gens := mv.gens
          obtain rfl : d3 = s.drawn := mv.drawn
          obtain rfl : os3 = s.os := mv.os
          show wpAny _ _ _ _ _ _ ; refine wpAny_pure ?_ ; show wpAny _ _ (ret Value.none) _ _ _
          refine wpAny_pure ⟨rfl, h3, tk3, rfl, has, fun b o hb e => mv.heap b o ?_ (Heap.get?_push_of_some _ (Heap.get?_push_of_some _ e))⟩
          intro q
          rcases List.mem_cons.mp q with q | q
          · exact absurd q (Nat.ne_of_lt hb)
          · have q2 := List.mem_singleton.mp q
            rw [sz] at q2
            exact absurd q2 (Nat.ne_of_lt (Nat.lt_succ_of_lt hb))
      · cases r2 with
        | error e => exact hr2
        | ok fl2 =>
          cases fl2 with
          | ret r =>
            obtain ⟨rfl, h', tk, rfl, has, kept⟩ := hr2
            repeat (any_goals (first | assumption | wp_step))
            exact k _ _ has kept
          | _ => exact hr2.elim
    | _ => exact hr.elim
end
end WbSet
namespace WbSet
open PySem PySem.Spec PyProof.Rows L2
variable {X : Cx}
/-- len(set(z)), z a text -/
def tLenSetT (ta : TE) : TE := fun σ H Q => ta σ H fun x H1 => ∃ z : Str, x = .str z ∧ z.length ≤ 4000 ∧ Q (.int (differ (signs z)).length) H1
theorem pe_lenSetT {a : Expr} {ta : TE} {p p2 q pos : Pos} (hc : X.calm = true) (hg : Gl X "len") (hm : X.mg "len" = none) (hg2 : Gl X "set") (hm2 : X.mg "set" = none) (ha : PE X a ta)
    (na : starEach [a] X.env = (false, eval a X.env) :: starEach [] X.env := by rfl) : PE X (.Call (.Name "len" p) [.Call (.Name "set" p2) [a] [] q] [] pos) (tLenSetT ta) := by
  refine ⟨fun pins s σ H Q I h => Call_ (ld_blt I hg hm boot_len ?_)⟩
  refine callWith_builtin1 (args_cons (Call_ (ld_blt I hg2 hm2 boot_set ?_)) rfl) rfl rfl
  refine callWith_type1 (args_cons (thn (ha.run pins s σ H _ I h) fun v s1 ⟨x, H1, I1, r1, q1⟩ => args_nil ?_) na) na rfl
  obtain ⟨z, rfl, few, q1⟩ := q1
  obtain ⟨u, rfl⟩ := r1
  have few' : z.cps.size ≤ 4000 := few
  refine call_setT (I1.ok.hd hc) (by unfold scanBound; omega) fun h' tk has kept => args_nil ?_
  obtain ⟨o, es, ep, t, ho, hex, hd, _, _, _, hf, hn⟩ := has
  have I2 : Inv X pins σ H1 { s1 with heap := h', toks := tk } := I1.kept fun b o e => kept b o (Heap.lt_size e) e
  have le := differ_le (signs z)
  have ll : (signs z).length = z.cps.size := by unfold signs; rw [List.length_map, Array.length_toList]
  exact call_len_set ho hex hd hf (by rw [hn]; omega) ⟨.int (differ (signs z)).length, H1, I2.tok _, ⟨_, by rw [hn]⟩, q1⟩
end WbSet
/-! enumerate(t), t a tuple -/
namespace WbS
open PySem PySem.Spec PyProof.Rows
open AutoSeq1 (wpAny_loadPart')
set_option maxHeartbeats 1000000 in
theorem meets_enumT {v : Value} {o : Obj} {H : Heap → Prop} (B : Begins v o H) :
    Meets (Builtin.«enumerate.__new__» ⟨[.type "enumerate", v], []⟩) (fun _ R s => H s.heap ∧
      R (.ok (.ret (.ref (s.heap.push o).objs.size))) { s with heap := (s.heap.push o).push { cls := .type "enumerate", data := .fields #[.none, .bool false, .ref s.heap.objs.size, rawInt 0, .none, .none] } }) :=
  .of_wp fun prog w A R s h => by
    obtain ⟨hp, g, d, tk, os⟩ := s; obtain ⟨h1, h⟩ := h
    have hsub := sub_enumerate
    have q1 : ∀ {A' : Around} {E : Value → Shared → Prop} {Q : Value → Shared → Prop}, Q (.ref hp.objs.size) ⟨hp.push o, g, d, tk, os⟩ → wpAny (model prog w) A' (pyIter v) Q E ⟨hp, g, d, tk, os⟩ :=
      fun q => B.iter prog w _ _ ⟨hp, g, d, tk, os⟩ _ h1 q
    wp_walk using q1
    refine wpAny_stack_any fun st => wpAny_pure ?_
    split
    · rename_i c _ _ _ _ _
      cases (c == Value.type "enumerate")
      · wp_walk using q1
        exact ⟨_, rfl, h⟩
      · wp_walk using q1
        exact ⟨_, rfl, h⟩
    · wp_walk using q1
      exact ⟨_, rfl, h⟩
section
variable {prog : Program} {w : World} {A : Around} {E : Value → Shared → Prop} {s : Shared}
theorem enum1_begins {v : Value} {o : Obj} {H : Heap → Prop} {Q : Value → Shared → Prop} (B : Begins v o H) (h1 : H s.heap)
    (h : ∀ h', IsEnum h' (s.heap.objs.size + 1) s.heap.objs.size 0 .none → h'.get? s.heap.objs.size = some o → h'.objs.size = s.heap.objs.size + 2 →
      (∀ b o, s.heap.get? b = some o → h'.get? b = some o) → Q (.ref (s.heap.objs.size + 1)) { s with heap := h' }) :
    wpAny (model prog w) A (call (.type "enumerate") [v]) Q E s := by
  refine callType_new F.called_enumerate (by decide) (F.typeCall_enumerate_1 _) (F.newCall_enumerate_1 _) (fun obj => F.args_object_init_2 obj _) F.entry_enumerate_new
    (meets_enumT B) ⟨h1, ?_⟩
  have hz : (s.heap.push o).objs.size = s.heap.objs.size + 1 := Heap.size_push ..
  show _ ∧ _
  rw [hz]
  have he : IsEnum ((s.heap.push o).push { cls := .type "enumerate", data := .fields #[.none, .bool false, .ref s.heap.objs.size, rawInt 0, .none, .none] }) (s.heap.objs.size + 1) s.heap.objs.size 0 .none := by
    have := Heap.get?_push_size (s.heap.push o) (o := { cls := .type "enumerate", data := .fields #[.none, .bool false, .ref s.heap.objs.size, rawInt 0, .none, .none] }) rfl
    rw [hz] at this; exact this
  refine ⟨⟨_, he, rfl⟩, h _ he (Heap.get?_push_of_some _ (Heap.get?_push_size _ B.free)) (by rw [Heap.size_push, hz]) fun b o x => Heap.get?_push_of_some _ (Heap.get?_push_of_some _ x)⟩
end
end WbS
namespace WbS
open PySem PySem.Spec PyProof.Rows L2
/-- the tuple at a as it stands at each turn, each item in a new pair -/
def IteT (K : PySem.W.Frag) (a : Addr) : It :=
  ⟨fun i H => ∃ (xs : List V) (x : V), SqT K H a xs ∧ xs[i]? = some x, fun i H v H' => ∃ T x, v = .ref T ∧ H T = none ∧ H' = upd H T (.tup [.int (i : Nat), x]) ∧ ∀ xs, SqT K H a xs → xs[i]? = some x, fun i H => ∃ xs : List V, SqT K H a xs ∧ xs.length = i⟩
theorem turn_enumT {P : Program} {w : World} {K : PySem.W.Frag} {elts : List Expr} {kk : Nat} {tpos : Pos} (a e it : Addr) :
    Turn P w K (.Tuple elts kk tpos) (IteT K a) [e, it] e (fun i h => (∃ old, IsEnum h e it ((i : Nat) : Int) old) ∧ h.IsTupleIter it a i ∧ e ≠ it ∧ e ≠ a ∧ a ≠ it) where
  mem := by simp
  obj := fun i h st b hb => by
    obtain ⟨⟨old, he⟩, ⟨o, ho, hc, hd⟩, _⟩ := st
    have e' : b = e ∨ b = it := by simpa using hb
    rcases e' with z | z
    · rw [z]; exact ⟨_, he, fun v q => nomatch q⟩
    · rw [z]; exact ⟨o, ho, fun v q => by rw [hd] at q; cases q⟩
  keep := fun i h h' st k => let ⟨⟨old, he⟩, hi, hne⟩ := st; ⟨⟨old, k e (by simp) _ he⟩, hi.at fun o q => k it (by simp) o q, hne⟩
  item := by
    intro X hP hw hK hc i pins s σ H E I hf st hg
    subst hP hw hK
    obtain ⟨⟨old, he⟩, hit, hne, hea, hai⟩ := st
    obtain ⟨xs, x, hq, hx⟩ := hg
    obtain ⟨its, rv, p, hz⟩ := I.tuple hq
    obtain ⟨u, hu, ru⟩ := rv.get hx
    have hel : e < s.heap.objs.size := Heap.lt_size he
    have hil : it < s.heap.objs.size := by obtain ⟨_, q, _⟩ := hit; exact Heap.lt_size q
    have hlt : i < its.toArray.size := by
      have q := List.getElem?_eq_some_iff.mp hu
      obtain ⟨q, _⟩ := q
      simpa using q
    refine wpAny_pyNext_enum_itemD (Draws.tuple (A := X.A.in1) (I.ok.hd hc) it a hai its.toArray) he ⟨hit, p⟩ hlt hne (by simp [hne, hea]) fun x' h' tk hP ho hit' hT hsz hk => ?_
    obtain rfl : x' = u := by
      have q1 : its.toArray[i]? = some x' := hP
      have q2 : its.toArray[i]? = some u := by simpa using hu
      rw [q1] at q2
      exact Option.some.inj q2
    refine ⟨_, rfl, wpAny_letOwnedTupleGo_enum (s := { s with heap := h', toks := tk + 1 }) ho fun h'' he' sb => ?_⟩
    have hT2 : h''.get? s.heap.objs.size = some { cls := .type "tuple", data := .seq #[.int i tk, x'] } := (sb.2 _ (Nat.ne_of_gt hel)).trans hT
    have new : ObjOk X.prog X.w (upd H s.heap.objs.size (.tup [.int (i : Nat), x])) h'' s.heap.objs.size (.tup [.int (i : Nat), x]) :=
      ⟨by show 2 ≤ sizeLine; decide, [.int i tk, x'], .cons ⟨_, rfl⟩ (.cons ru .nil), ⟨_, hT2, rfl, _, rfl⟩⟩
    have I1 : Inv X pins σ (upd H s.heap.objs.size (.tup [.int (i : Nat), x])) { s with heap := h'', toks := tk + 1 } :=
      I.turnedNew (ch := [e, it]) (fun b ob hb q => (sb.2 b (fun z => hb (by simp [z]))).trans (hk b ob (fun z => hb (by simp [z])) (fun z => hb (by simp [z])) q)) hf (Nat.le_refl _) new
    refine ⟨.ref s.heap.objs.size, _, I1, rfl, ⟨_, x, rfl, I.hok.fresh (Nat.le_refl _), rfl, fun ys hy => by rw [I.tuple_inj hy hq]; exact hx⟩, ⟨⟨x', ?_⟩, hit'.1.at fun o q => (sb.2 it (Ne.symm hne)).trans q, hne, hea, hai⟩, fun b hb => ?_⟩
    · have e1 : ((i + 1 : Nat) : Int) = (i : Int) + 1 := by omega
      rw [e1]; exact he'
    · have hb' : b < s.heap.objs.size := by
        have e' : b = e ∨ b = it := by simpa using hb
        rcases e' with z | z
        · rw [z]; exact hel
        · rw [z]; exact hil
      rw [upd_ne (Nat.ne_of_lt hb')]
      exact (hf b hb).1
  done := by
    intro X hP hw hK hc i pins s σ H E I hf st hg
    subst hP hw hK
    obtain ⟨⟨old, he⟩, hit, hne, hea, hai⟩ := st
    obtain ⟨xs, hq, hx⟩ := hg
    obtain ⟨its, rv, p, hz⟩ := I.tuple hq
    obtain ⟨f0, f1, f2, f3, f4, f5⟩ := hf it (by simp)
    have hl := rv.length
    have en : its.toArray.size = i := by simp; omega
    refine wpAny_pyNext_enum_endD (n := its.toArray.size) (Draws.tuple (A := X.A.in1) (I.ok.hd hc) it a hai its.toArray) he ⟨by rw [en]; exact hit, p⟩ fun h' eb => ⟨rfl, I.turned (t' := s.toks) (fun b o hb q => eb b o hb q) f0 f1 f3 f4 f5⟩
  self := fun A i s Q E st h => let ⟨⟨_, he⟩, _⟩ := st; wpAny_pyIter_enum he h
def iEnumT (K : PySem.W.Frag) (ta : TA) : TI := fun σ H R => ta σ H fun vs H1 => ∃ a xs, vs = [.ref a] ∧ SqT K H1 a xs ∧ R (IteT K a) H1
theorem pi_enumT {X : Cx} {e : Expr} {ta : TA} {p pos tpos : Pos} {elts : List Expr} {kk : Nat} (hg : Gl X "enumerate") (hm : X.mg "enumerate" = none) (ha : PA X [e] ta) (hs : starEach [e] X.env = [(false, eval e X.env)] := by rfl) :
    PI X (.Tuple elts kk tpos) (.Call (.Name "enumerate" p) [e] [] pos) (iEnumT X.K ta) := by
  refine ⟨fun pins s σ H R I h => ?_⟩
  refine Call_ (ld_blt I hg hm boot_enumerate (PyProof.Rows.callWith_type1 (thn (ha.run pos pins s σ H _ I h) fun us s1 ⟨vs, H1, I1, r1, q1⟩ => ?_) hs rfl))
  obtain ⟨a, xs, ex, hq, q⟩ := q1
  subst ex
  cases r1 with
  | cons r rr =>
    cases rr
    cases r
    obtain ⟨its, rv, p', hz⟩ := I1.tuple hq
    have hal : a < s1.heap.objs.size := by obtain ⟨_, q, _⟩ := p'; exact Heap.lt_size q
    refine enum1_begins (begins_tuple a its.toArray) p' fun h' he hit hsz hk => wpAny_pyIter_enum he ?_
    have I2 : Inv X pins σ H1 { s1 with heap := h' } := I1.kept (t' := s1.toks) hk
    refine ⟨s1.heap.objs.size + 1, [s1.heap.objs.size + 1, s1.heap.objs.size], _, _, H1, rfl, I2, turn_enumT a (s1.heap.objs.size + 1) s1.heap.objs.size, ⟨⟨.none, he⟩, ⟨_, hit, rfl, rfl⟩, Nat.succ_ne_self _, Nat.ne_of_gt (Nat.lt_succ_of_lt hal), Nat.ne_of_lt hal⟩, fun b hb => ?_, q⟩
    have e' : b = s1.heap.objs.size + 1 ∨ b = s1.heap.objs.size := by simpa using hb
    have hle : s1.heap.objs.size ≤ b := by
      rcases e' with z | z
      · rw [z]; exact Nat.le_add_right _ _
      · rw [z]; exact Nat.le_refl _
    exact I1.fpOk hle (I1.hok.fresh hle)
theorem walk_enumT {K : PySem.W.Frag} {a : Addr} {xs : List V} : Walk (IteT K a) xs.length (fun H => SqT K H a xs) (YPair (fun i => some (.int (i : Nat))) (fun i => xs[i]?)) := by
  refine ⟨fun i _ hi q => ⟨xs, xs[i], q, by simp [hi]⟩, fun _ q => ⟨xs, q, rfl⟩, fun i H v H' _ q y => ?_⟩
  obtain ⟨T, x, h1, h2, h3, h4⟩ := y
  exact ⟨T, .int (i : Nat), x, h1, h2, h3, rfl, h4 xs q⟩
end WbS
set_option maxHeartbeats 1000000
/-! zip of two walks of any kind; then zip(a tuple, a list) -/
namespace Lz
open PySem PySem.Spec PyProof.Rows L2
/-- how one of the two is walked -/
structure Kind2 where
  It : Heap → Addr → Addr → Nat → Prop
  Src : Heap → Addr → Array Value → Prop
  obj : ∀ {h it l k}, It h it l k → ∃ o, h.get? it = some o ∧ ∀ v, o.data ≠ .cell v
  mvIt : ∀ {h h' it l k}, It h it l k → (∀ o, h.get? it = some o → h'.get? it = some o) → It h' it l k
  mvSrc : ∀ {h h' l xs}, Src h l xs → (∀ o, h.get? l = some o → h'.get? l = some o) → Src h' l xs
  item : ∀ {prog : Program} {w : World} {A : Around} {E : Value → Shared → Prop} {s : Shared} {it l : Addr} {i : Nat} {xs : Array Value} {x : Value} {Q : Value → Shared → Prop}, It s.heap it l i → Src s.heap l xs → xs[i]? = some x →
    (∀ h', It h' it l (i + 1) → Heap.SameBut it s.heap h' → Q x { s with heap := h' }) → wpAny (model prog w) A (Builtin.SmallTypes.nextOf (.ref it)) Q E s
  fin : ∀ {prog : Program} {w : World} {A : Around} {E : Value → Shared → Prop} {s : Shared} {it l : Addr} {i : Nat} {xs : Array Value} {Q : Value → Shared → Prop}, A.handled = none → It s.heap it l i → Src s.heap l xs → xs[i]? = none →
    (∀ h' e, Heap.ExtBut it s.heap h' → (∃ o, h'.get? e = some o ∧ o.cls = .type "StopIteration") → E (.ref e) { s with heap := h' }) → wpAny (model prog w) A (Builtin.SmallTypes.nextOf (.ref it)) Q E s
def kTup : Kind2 where
  It := fun h => h.IsTupleIter
  Src := fun h => h.IsTuple
  obj := fun ⟨o, e, _, d⟩ => ⟨o, e, fun v q => by rw [d] at q; cases q⟩
  mvIt := fun z k => z.at k
  mvSrc := fun ⟨o, e, r⟩ k => ⟨o, k o e, r⟩
  item := fun a b c d => RZ.nextOf_tuple_item a b c d
  fin := fun a b c d e => RZ.nextOf_tuple_end a b c d e
def kLst : Kind2 where
  It := fun h => h.IsListIter
  Src := fun h => h.IsList
  obj := fun ⟨o, e, _, d⟩ => ⟨o, e, fun v q => by rw [d] at q; cases q⟩
  mvIt := fun z k => z.at k
  mvSrc := fun ⟨o, e, r⟩ k => ⟨o, k o e, r⟩
  item := fun a b c d => wpAny_nextOf_list_item a b c d
  fin := fun a b c d e => wpAny_nextOf_list_end a b c d e
section
variable {prog : Program} {w : World} {A : Around} {E : Value → Shared → Prop} {s : Shared} {z TI TO i1 i2 l1 l2 : Addr} {k1 k2 : Nat} {xs ys : Array Value} {x y a b : Value} (U V : Kind2)
/-- both walks have an item more -/
theorem next_both {Q : Value → Shared → Prop} (D : ZipApart z TI TO i1 i2 l1 l2) (hz : IsZip s.heap z TI TO .none) (hTI : IsPair s.heap TI (.ref i1) (.ref i2)) (hTO : IsPair s.heap TO a b)
    (h1 : U.It s.heap i1 l1 k1) (h2 : V.It s.heap i2 l2 k2) (g1 : U.Src s.heap l1 xs) (g2 : V.Src s.heap l2 ys) (hx : xs[k1]? = some x) (hy : ys[k2]? = some y)
    (q : ∀ h', IsZip h' z TI TO (rawInt s.heap.objs.size) → IsPair h' TO x y → U.It h' i1 l1 (k1 + 1) → V.It h' i2 l2 (k2 + 1) → IsPair h' s.heap.objs.size x y → h'.objs.size = s.heap.objs.size + 1 →
      (∀ c o, c ≠ z → c ≠ TO → c ≠ i1 → c ≠ i2 → s.heap.get? c = some o → h'.get? c = some o) → Q (.ref s.heap.objs.size) { s with heap := h' }) :
    wpAny (model prog w) A (Builtin.«zip.__next__» ⟨[.ref z], []⟩) (fun fin s' => ∃ v, fin = .done (.ret v) ∧ Q v s') E s := by
  show wpAny _ _ (field (.ref z) 2 >>= _) _ _ _
  refine wpAny_bind (wpAny_field hz rfl (x := .bool false) rfl ?_)
  show wpAny _ _ (field (.ref z) 3 >>= _) _ _ _
  refine wpAny_bind (wpAny_field hz rfl (x := .ref TI) rfl (wpAny_bind (wpAny_seqItems hTI rfl ?_)))
  show wpAny _ _ (Builtin.SmallTypes.ownedTupleIsFree (.ref z) >>= _) _ _ _
  unfold Builtin.SmallTypes.ownedTupleIsFree
  refine wpAny_bind (wpAny_bind (wpAny_field hz rfl (x := .none) rfl (wpAny_pure ?_)))
  simp only [if_true]
  refine wpAny_bind (wpAny_rule (wpAny_bind (wpAny_field hz rfl (x := .ref TO) rfl (wpAny_bind (wpAny_setField_rec hz (by simp) fun ha za sa => wpAny_bind ?_)))))
  replace za : IsZip ha z TI TO .ellipsis := za
  simp only [List.zipIdx_cons, List.zipIdx_nil, List.forIn_cons, List.forIn_nil]
  refine wpAny_bind (wpAny_bind (wpAny_onRaise ?_))
  show wpAny _ _ (Builtin.SmallTypes.nextOf (.ref i1) >>= _) _ _ _
  have ea := sa.extBut
  refine wpAny_bind (U.item (U.mvIt h1 fun o e => ea _ _ D.i1z e) (U.mvSrc g1 fun o e => ea _ _ D.l1z e) hx fun hb u1 sb => wpAny_pure ?_)
  have eb := sb.extBut
  have TOb : IsPair hb TO a b := eb _ _ D.TOi1 (ea _ _ D.TOz hTO)
  refine wpAny_bind (wpAny_seqItems TOb rfl (wpAny_bind (wpAny_updateSeq_pair TOb fun hc TOc sc => ?_)))
  replace TOc : IsPair hc TO x b := TOc
  have ec := sc.extBut
  refine wpAny_bind (wpAny_letGo (wpAny_pure (wpAny_bind (wpAny_bind (wpAny_onRaise ?_)))))
  show wpAny _ _ (Builtin.SmallTypes.nextOf (.ref i2) >>= _) _ _ _
  refine wpAny_bind (V.item (V.mvIt h2 fun o e => ec _ _ D.TOi2.symm (eb _ _ D.i12.symm (ea _ _ D.i2z e))) (V.mvSrc g2 fun o e => ec _ _ D.l2TO (eb _ _ D.l2i1 (ea _ _ D.l2z e))) hy fun hd u2 sd => wpAny_pure ?_)
  have ed := sd.extBut
  have TOd : IsPair hd TO x b := ed _ _ D.TOi2 TOc
  refine wpAny_bind (wpAny_seqItems TOd rfl (wpAny_bind (wpAny_updateSeq_pair TOd fun he TOe se => ?_)))
  replace TOe : IsPair he TO x y := TOe
  have ee := se.extBut
  refine wpAny_bind (wpAny_letGo (wpAny_pure (wpAny_pure (wpAny_bind (wpAny_seqItems TOe rfl (wpAny_bind (wpAny_newTuple ?_)))))))
  have size : he.objs.size = s.heap.objs.size := by rw [se.1, sd.1, sc.1, sb.1, sa.1]
  have ze : IsZip he z TI TO .ellipsis := ee _ _ D.TOz.symm (ed _ _ D.i2z.symm (ec _ _ D.TOz.symm (eb _ _ D.i1z.symm za)))
  have ke : ∀ c o, c ≠ z → c ≠ TO → c ≠ i1 → c ≠ i2 → s.heap.get? c = some o → he.get? c = some o := fun c o n1 n2 n3 n4 e => ee _ _ n2 (ed _ _ n4 (ec _ _ n2 (eb _ _ n3 (ea _ _ n1 e))))
  have v1 : U.It he i1 l1 (k1 + 1) := U.mvIt u1 fun o e => ee _ _ D.TOi1.symm (ed _ _ D.i12 (ec _ _ D.TOi1.symm e))
  have v2 : V.It he i2 l2 (k2 + 1) := V.mvIt u2 fun o e => ee _ _ D.TOi2.symm e
  have zlt : z < he.objs.size := Heap.lt_size ze
  show wpAny _ _ (Builtin.SmallTypes.ownedTupleHandOut (.ref z) (.ref he.objs.size) >>= _) _ _ _
  unfold Builtin.SmallTypes.ownedTupleHandOut
  have zf : IsZip (he.push { cls := .type "tuple", data := .seq #[x, y] }) z TI TO .ellipsis := Heap.get?_push_of_some _ ze
  refine wpAny_bind (wpAny_bind (wpAny_setField_rec zf (by simp) fun hg zg sg => ?_))
  replace zg : IsZip hg z TI TO (rawInt he.objs.size) := zg
  refine wpAny_setField_rec zg (by simp) fun hh zh sh => ?_
  replace zh : IsZip hh z TI TO (rawInt he.objs.size) := zh
  have up : ∀ c o, c ≠ z → he.get? c = some o → hh.get? c = some o := fun c o n e => sh.extBut _ _ n (sg.extBut _ _ n (Heap.get?_push_of_some _ e))
  have pair : IsPair hh he.objs.size x y := sh.extBut _ _ (Nat.ne_of_gt zlt) (sg.extBut _ _ (Nat.ne_of_gt zlt) (Heap.get?_push_size _ rfl))
  have size2 : hh.objs.size = he.objs.size + 1 := by rw [sh.1, sg.1, Heap.size_push]
  rw [size] at zh pair size2
  refine wpAny_pure ⟨_, rfl, ?_⟩
  show Q (.ref he.objs.size) _
  rw [size]
  exact q hh zh (up _ _ D.TOz TOe) (U.mvIt v1 fun o e => up _ o D.i1z e) (V.mvIt v2 fun o e => up _ o D.i2z e) pair size2 fun c o n1 n2 n3 n4 e => up c o n1 (ke c o n1 n2 n3 n4 e)
/-- one of them has none -/
theorem next_none {Q : Fin → Shared → Prop} (hn : A.handled = none) (D : ZipApart z TI TO i1 i2 l1 l2) (hz : IsZip s.heap z TI TO .none) (hTI : IsPair s.heap TI (.ref i1) (.ref i2)) (hTO : IsPair s.heap TO a b)
    (h1 : U.It s.heap i1 l1 k1) (h2 : V.It s.heap i2 l2 k2) (g1 : U.Src s.heap l1 xs) (g2 : V.Src s.heap l2 ys) (over : xs[k1]? = none ∨ ys[k2]? = none)
    (q : ∀ h' e, (∀ c o, c ≠ z → c ≠ TO → c ≠ i1 → c ≠ i2 → s.heap.get? c = some o → h'.get? c = some o) → (∃ o, h'.get? e = some o ∧ o.cls = .type "StopIteration") → E (.ref e) { s with heap := h' }) :
    wpAny (model prog w) A (Builtin.«zip.__next__» ⟨[.ref z], []⟩) Q E s := by
  show wpAny _ _ (field (.ref z) 2 >>= _) _ _ _
  refine wpAny_bind (wpAny_field hz rfl (x := .bool false) rfl ?_)
  show wpAny _ _ (field (.ref z) 3 >>= _) _ _ _
  refine wpAny_bind (wpAny_field hz rfl (x := .ref TI) rfl (wpAny_bind (wpAny_seqItems hTI rfl ?_)))
  show wpAny _ _ (Builtin.SmallTypes.ownedTupleIsFree (.ref z) >>= _) _ _ _
  unfold Builtin.SmallTypes.ownedTupleIsFree
  refine wpAny_bind (wpAny_bind (wpAny_field hz rfl (x := .none) rfl (wpAny_pure ?_)))
  simp only [if_true]
  refine wpAny_bind (wpAny_rule (wpAny_bind (wpAny_field hz rfl (x := .ref TO) rfl (wpAny_bind (wpAny_setField_rec hz (by simp) fun ha za sa => wpAny_bind ?_)))))
  replace za : IsZip ha z TI TO .ellipsis := za
  simp only [List.zipIdx_cons, List.zipIdx_nil, List.forIn_cons, List.forIn_nil]
  refine wpAny_bind (wpAny_bind (wpAny_onRaise ?_))
  show wpAny _ _ (Builtin.SmallTypes.nextOf (.ref i1) >>= _) _ _ _
  have ea := sa.extBut
  have j1 := U.mvIt h1 fun o e => ea _ _ D.i1z e
  have f1 := U.mvSrc g1 fun o e => ea _ _ D.l1z e
  cases hx : xs[k1]? with
  | none =>
    refine wpAny_bind (U.fin hn j1 f1 hx fun hb e eb he => ?_)
    obtain ⟨oe, ho, hc⟩ := he
    have zb : IsZip hb z TI TO .ellipsis := eb _ _ D.i1z.symm za
    have nz : e ≠ z := fun t => by subst t; rw [zb] at ho; cases ho; simp at hc
    exact wpAny_setField_rec zb (by simp) fun hc' _ sc => q hc' e (fun c o n1 _ n3 _ t => sc.extBut _ _ n1 (eb _ _ n3 (ea _ _ n1 t))) ⟨oe, sc.extBut _ _ nz ho, hc⟩
  | some x =>
    have hy : ys[k2]? = none := over.elim (fun t => by rw [hx] at t; cases t) id
    refine wpAny_bind (U.item j1 f1 hx fun hb u1 sb => wpAny_pure ?_)
    have eb := sb.extBut
    have TOb : IsPair hb TO a b := eb _ _ D.TOi1 (ea _ _ D.TOz hTO)
    refine wpAny_bind (wpAny_seqItems TOb rfl (wpAny_bind (wpAny_updateSeq_pair TOb fun hc TOc sc => ?_)))
    have ec := sc.extBut
    refine wpAny_bind (wpAny_letGo (wpAny_pure (wpAny_bind (wpAny_bind (wpAny_onRaise ?_)))))
    show wpAny _ _ (Builtin.SmallTypes.nextOf (.ref i2) >>= _) _ _ _
    refine wpAny_bind (V.fin hn (V.mvIt h2 fun o e => ec _ _ D.TOi2.symm (eb _ _ D.i12.symm (ea _ _ D.i2z e))) (V.mvSrc g2 fun o e => ec _ _ D.l2TO (eb _ _ D.l2i1 (ea _ _ D.l2z e))) hy fun hd e ed he => ?_)
    obtain ⟨oe, ho, hc'⟩ := he
    have zd : IsZip hd z TI TO .ellipsis := ed _ _ D.i2z.symm (ec _ _ D.TOz.symm (eb _ _ D.i1z.symm za))
    have nz : e ≠ z := fun t => by subst t; rw [zd] at ho; cases ho; simp at hc'
    exact wpAny_setField_rec zd (by simp) fun hf _ sf => q hf e (fun c o n1 n2 n3 n4 t => sf.extBut _ _ n1 (ed _ _ n4 (ec _ _ n2 (eb _ _ n3 (ea _ _ n1 t))))) ⟨oe, sf.extBut _ _ nz ho, hc'⟩
end
end Lz
set_option maxHeartbeats 1000000
namespace Lz
open PySem PySem.Spec PyProof.Rows L2
section
variable {prog : Program} {w : World} {A : Around} {E : Value → Shared → Prop} {s : Shared} {z TI TO i1 i2 l1 l2 : Addr} {k1 k2 : Nat} {xs ys : Array Value} {x y a b : Value} (U V : Kind2)
theorem py_both {Q : Option Value → Shared → Prop} (D : ZipApart z TI TO i1 i2 l1 l2) (hz : IsZip s.heap z TI TO .none) (hTI : IsPair s.heap TI (.ref i1) (.ref i2)) (hTO : IsPair s.heap TO a b)
    (h1 : U.It s.heap i1 l1 k1) (h2 : V.It s.heap i2 l2 k2) (g1 : U.Src s.heap l1 xs) (g2 : V.Src s.heap l2 ys) (hx : xs[k1]? = some x) (hy : ys[k2]? = some y)
    (q : ∀ h', IsZip h' z TI TO (rawInt s.heap.objs.size) → IsPair h' TO x y → U.It h' i1 l1 (k1 + 1) → V.It h' i2 l2 (k2 + 1) → IsPair h' s.heap.objs.size x y → h'.objs.size = s.heap.objs.size + 1 →
      (∀ c o, c ≠ z → c ≠ TO → c ≠ i1 → c ≠ i2 → s.heap.get? c = some o → h'.get? c = some o) → Q (some (.ref s.heap.objs.size)) { s with heap := h' }) : wpAny (model prog w) A (pyNext (.ref z)) Q E s := by
  have ty : s.TypeIs (.ref z) "zip" := ⟨_, hz, rfl⟩
  unfold pyNext
  refine wpAny_bind (wpAny_attempt (wpAny_callSpecial?_slot (name := Str.ofString "__next__") ty F.slot_zip_next (wpAny_call_entry F.slot_zip_next ty F.entry_zip_next ?_ (F.args_zip_next_1 _))))
  exact next_both U V D hz hTI hTO h1 h2 g1 g2 hx hy fun h' a1 a2 a3 a4 a5 a6 a7 => wpAny_pure (q h' a1 a2 a3 a4 a5 a6 a7)
theorem py_none {Q : Option Value → Shared → Prop} (hn : A.handled = none) (D : ZipApart z TI TO i1 i2 l1 l2) (hz : IsZip s.heap z TI TO .none) (hTI : IsPair s.heap TI (.ref i1) (.ref i2)) (hTO : IsPair s.heap TO a b)
    (h1 : U.It s.heap i1 l1 k1) (h2 : V.It s.heap i2 l2 k2) (g1 : U.Src s.heap l1 xs) (g2 : V.Src s.heap l2 ys) (over : xs[k1]? = none ∨ ys[k2]? = none)
    (q : ∀ h', (∀ c o, c ≠ z → c ≠ TO → c ≠ i1 → c ≠ i2 → s.heap.get? c = some o → h'.get? c = some o) → Q none { s with heap := h' }) : wpAny (model prog w) A (pyNext (.ref z)) Q E s := by
  have ty : s.TypeIs (.ref z) "zip" := ⟨_, hz, rfl⟩
  unfold pyNext
  refine wpAny_bind (wpAny_attempt (wpAny_callSpecial?_slot (name := Str.ofString "__next__") ty F.slot_zip_next (wpAny_call_entry F.slot_zip_next ty F.entry_zip_next (next_none U V hn D hz hTI hTO h1 h2 g1 g2 over fun h' e hk he => ?_) (F.args_zip_next_1 _))))
  obtain ⟨o, ho, hc⟩ := he
  exact wpAny_bind (wpAny_isInstance (T := "StopIteration") (b := true) ⟨o, ho, hc⟩ isSubtype_stop (wpAny_pure (q _ hk)))
end
/-! ### zip(a tuple, a list) is made -/
abbrev m1 (h : Heap) (l1 : Addr) : Heap := h.push { cls := .type "tuple_iterator", data := .fields #[.ref l1, .int 0 0] }
abbrev m2 (h : Heap) (l1 l2 : Addr) : Heap := (m1 h l1).push { cls := .type "list_iterator", data := .fields #[.ref l2, .int 0 0] }
abbrev m3 (h : Heap) (l1 l2 : Addr) : Heap := (m2 h l1 l2).push { cls := .type "tuple", data := .seq #[.ref h.objs.size, .ref (m1 h l1).objs.size] }
abbrev m4 (h : Heap) (l1 l2 : Addr) : Heap := (m3 h l1 l2).push { cls := .type "tuple", data := .seq #[.none, .none] }
abbrev m5 (h : Heap) (l1 l2 : Addr) : Heap := (m4 h l1 l2).push { cls := .type "zip", data := .fields #[.none, .bool false, .bool false, .ref (m2 h l1 l2).objs.size, .ref (m3 h l1 l2).objs.size] }
theorem new_mixed (l1 l2 : Addr) (xs ys : Array Value) : Meets (Builtin.«zip.__new__» ⟨[.type "zip", .ref l1, .ref l2], []⟩) (fun _ R s => s.heap.IsTuple l1 xs ∧ s.heap.IsList l2 ys ∧ R (.ok (.ret (.ref (m4 s.heap l1 l2).objs.size))) { s with heap := m5 s.heap l1 l2 }) :=
  .of_wp fun prog w A R s h => by
    obtain ⟨hp, gs, dr, tk, os⟩ := s
    obtain ⟨t1, t2, h⟩ := h
    have hsub := sub_zip
    have isT : Heap.IsTuple (Shared.heap ⟨hp, gs, dr, tk, os⟩) l1 xs := t1
    have isL : Heap.IsList (Shared.heap ⟨hp.push { cls := .type "tuple_iterator", data := .fields #[.ref l1, .int 0 0] }, gs, dr, tk, os⟩) l2 ys := Heap.IsList.push t2 _
    wp_walk using wpAny_pyIter_tuple isT, wpAny_pyIter_list isL
    exact ⟨_, rfl, h⟩
section
variable {prog : Program} {w : World} {A : Around} {E : Value → Shared → Prop} {s : Shared}
theorem call_mixed {l1 l2 : Addr} {xs ys : Array Value} {Q : Value → Shared → Prop} (t1 : s.heap.IsTuple l1 xs) (t2 : s.heap.IsList l2 ys)
    (q : ∀ h', IsZip h' (s.heap.objs.size + 4) (s.heap.objs.size + 2) (s.heap.objs.size + 3) .none → IsPair h' (s.heap.objs.size + 2) (.ref s.heap.objs.size) (.ref (s.heap.objs.size + 1)) → IsPair h' (s.heap.objs.size + 3) .none .none →
      h'.IsTupleIter s.heap.objs.size l1 0 → h'.IsListIter (s.heap.objs.size + 1) l2 0 → (∀ c o, s.heap.get? c = some o → h'.get? c = some o) → Q (.ref (s.heap.objs.size + 4)) { s with heap := h' }) :
    wpAny (model prog w) A (call (.type "zip") [.ref l1, .ref l2]) Q E s := by
  refine callType_new F.called_zip (by decide) (F.typeCall_zip_2 _ _) (F.newCall_zip_2 _ _) (fun obj => F.args_object_init_3 obj _ _) F.entry_zip_new (new_mixed l1 l2 xs ys) ⟨t1, t2, ?_⟩
  have n1 : (m1 s.heap l1).objs.size = s.heap.objs.size + 1 := Heap.size_push ..
  have n2 : (m2 s.heap l1 l2).objs.size = s.heap.objs.size + 2 := (Heap.size_push ..).trans (congrArg (· + 1) n1)
  have n3 : (m3 s.heap l1 l2).objs.size = s.heap.objs.size + 3 := (Heap.size_push ..).trans (congrArg (· + 1) n2)
  have n4 : (m4 s.heap l1 l2).objs.size = s.heap.objs.size + 4 := (Heap.size_push ..).trans (congrArg (· + 1) n3)
  have on : ∀ (h : Heap) (o : Obj) {c : Addr} {u : Obj}, h.get? c = some u → (h.push o).get? c = some u := fun _ _ _ _ e => Heap.get?_push_of_some _ e
  have o5 : (m5 s.heap l1 l2).get? (m4 s.heap l1 l2).objs.size = some _ := Heap.get?_push_size _ rfl
  have o4 : (m5 s.heap l1 l2).get? (m3 s.heap l1 l2).objs.size = some _ := on _ _ (Heap.get?_push_size _ rfl)
  have o3 : (m5 s.heap l1 l2).get? (m2 s.heap l1 l2).objs.size = some _ := on _ _ (on _ _ (Heap.get?_push_size _ rfl))
  have o2 : (m5 s.heap l1 l2).get? (m1 s.heap l1).objs.size = some _ := on _ _ (on _ _ (on _ _ (Heap.get?_push_size _ rfl)))
  have o1 : (m5 s.heap l1 l2).get? s.heap.objs.size = some _ := on _ _ (on _ _ (on _ _ (on _ _ (Heap.get?_push_size _ rfl))))
  show _ ∧ _
  rw [n2, n3, n4] at o5
  rw [n1, n2] at o3
  rw [n3] at o4
  rw [n1] at o2
  rw [n4]
  exact ⟨⟨_, o5, rfl⟩, q _ o5 o3 o4 ⟨_, o1, rfl, rfl⟩ ⟨_, o2, rfl, rfl⟩ fun c o e => on _ _ (on _ _ (on _ _ (on _ _ (on _ _ e))))⟩
end
/-! ### its turns -/
def ItzM (K : PySem.W.Frag) (a b : Addr) : It :=
  ⟨fun i H => ∃ (xs ys : List V) (x y : V), SqT K H a xs ∧ SqL K H b ys ∧ xs[i]? = some x ∧ ys[i]? = some y,
    fun i H v H' => ∃ T x y, v = .ref T ∧ H T = none ∧ H' = upd H T (.tup [x, y]) ∧ (∀ xs, SqT K H a xs → xs[i]? = some x) ∧ ∀ ys, SqL K H b ys → ys[i]? = some y,
    fun i H => ∃ xs ys : List V, SqT K H a xs ∧ SqL K H b ys ∧ (xs.length ≤ i ∨ ys.length ≤ i)⟩
theorem five {c z TI TO i1 i2 : Addr} (h : c ∈ [z, TI, TO, i1, i2]) : c = z ∨ c = TI ∨ c = TO ∨ c = i1 ∨ c = i2 := by simpa using h
theorem turn_mixed {P : Program} {w : World} {K : PySem.W.Frag} {elts : List Expr} {kk : Nat} {tpos : Pos} {a b z TI TO i1 i2 : Addr} (D : ZipApart z TI TO i1 i2 a b) :
    Turn P w K (.Tuple elts kk tpos) (ItzM K a b) [z, TI, TO, i1, i2] z (fun i h => IsZip h z TI TO .none ∧ IsPair h TI (.ref i1) (.ref i2) ∧ (∃ x y, IsPair h TO x y) ∧ kTup.It h i1 a i ∧ kLst.It h i2 b i) where
  mem := by simp
  obj := fun i h st c hc => by
    obtain ⟨hz, hTI, ⟨x, y, hTO⟩, j1, j2⟩ := st
    rcases five hc with rfl | rfl | rfl | rfl | rfl
    · exact ⟨_, hz, fun v q => nomatch q⟩
    · exact ⟨_, hTI, fun v q => nomatch q⟩
    · exact ⟨_, hTO, fun v q => nomatch q⟩
    · exact kTup.obj j1
    · exact kLst.obj j2
  keep := fun i h h' st k => by
    obtain ⟨hz, hTI, ⟨x, y, hTO⟩, j1, j2⟩ := st
    exact ⟨k z (by simp) _ hz, k TI (by simp) _ hTI, ⟨x, y, k TO (by simp) _ hTO⟩, kTup.mvIt j1 fun o q => k i1 (by simp) o q, kLst.mvIt j2 fun o q => k i2 (by simp) o q⟩
  item := by
    intro X hP hw hK hc i pins s σ H E I hf st hg
    subst hP hw hK
    obtain ⟨hz, hTI, ⟨x0, y0, hTO⟩, j1, j2⟩ := st
    obtain ⟨xs, ys, x, y, qx, qy, hx, hy⟩ := hg
    obtain ⟨its, rv, p1, _⟩ := I.tuple qx
    obtain ⟨its2, rv2, p2, _⟩ := I.list qy
    obtain ⟨u, hu, ru⟩ := rv.get hx
    obtain ⟨u2, hu2, ru2⟩ := rv2.get hy
    have zlt : z < s.heap.objs.size := Heap.lt_size hz
    refine py_both kTup kLst D hz hTI hTO j1 j2 (show s.heap.IsTuple a its.toArray from p1) p2.isList (x := u) (y := u2) (by simpa using hu) (by simpa using hu2) fun h' z' TO' j1' j2' hT hsz hk => ?_
    refine ⟨_, rfl, wpAny_letOwnedTupleGo_zip (s := { s with heap := h' }) z' fun h'' z'' sb => ?_⟩
    have pair : h''.get? s.heap.objs.size = some { cls := .type "tuple", data := .seq #[u, u2] } := (sb.2 _ (Nat.ne_of_gt zlt)).trans hT
    have nw : ObjOk X.prog X.w (upd H s.heap.objs.size (.tup [x, y])) h'' s.heap.objs.size (.tup [x, y]) := ⟨by show 2 ≤ sizeLine; decide, [u, u2], .cons ru (.cons ru2 .nil), ⟨_, pair, rfl, _, rfl⟩⟩
    have I1 : Inv X pins σ (upd H s.heap.objs.size (.tup [x, y])) { s with heap := h'' } :=
      I.turnedNew (t' := s.toks) (ch := [z, TI, TO, i1, i2]) (fun c o hb q => (sb.2 c (fun t => hb (by simp [t]))).trans (hk c o (fun t => hb (by simp [t])) (fun t => hb (by simp [t])) (fun t => hb (by simp [t])) (fun t => hb (by simp [t])) q)) hf (Nat.le_refl _) nw
    refine ⟨.ref s.heap.objs.size, _, I1, rfl, ⟨_, x, y, rfl, I.hok.fresh (Nat.le_refl _), rfl, fun l hl => by rw [I.tuple_inj hl qx]; exact hx, fun l hl => by rw [I.list_inj hl qy]; exact hy⟩, ⟨z'', ?_, ⟨u, u2, ?_⟩, ?_, ?_⟩, fun c hcm => ?_⟩
    · exact (sb.2 _ D.TIz).trans (hk _ _ D.TIz D.TITO D.TIi1 D.TIi2 hTI)
    · exact (sb.2 _ D.TOz).trans TO'
    · exact kTup.mvIt j1' fun o q => (sb.2 _ D.i1z).trans q
    · exact kLst.mvIt j2' fun o q => (sb.2 _ D.i2z).trans q
    · have lt : c < s.heap.objs.size := by
        rcases five hcm with rfl | rfl | rfl | rfl | rfl
        · exact zlt
        · exact Heap.lt_size hTI
        · exact Heap.lt_size hTO
        · obtain ⟨_, e1, _⟩ := kTup.obj j1
          exact Heap.lt_size e1
        · obtain ⟨_, e2, _⟩ := kLst.obj j2
          exact Heap.lt_size e2
      rw [upd_ne (Nat.ne_of_lt lt)]
      exact (hf c hcm).1
  done := by
    intro X hP hw hK hc i pins s σ H E I hf st hg
    subst hP hw hK
    obtain ⟨hz, hTI, ⟨x0, y0, hTO⟩, j1, j2⟩ := st
    obtain ⟨xs, ys, qx, qy, over⟩ := hg
    obtain ⟨its, rv, p1, _⟩ := I.tuple qx
    obtain ⟨its2, rv2, p2, _⟩ := I.list qy
    have e1 := rv.length
    have e2 := rv2.length
    have none' : its.toArray[i]? = none ∨ its2.toArray[i]? = none := over.imp (fun q => by simp; omega) fun q => by simp; omega
    exact py_none kTup kLst (I.ok.hd hc) D hz hTI hTO j1 j2 (show s.heap.IsTuple a its.toArray from p1) p2.isList none' fun h' hk => ⟨rfl, I.turnedL (t' := s.toks) (ch := [z, TI, TO, i1, i2]) (fun c o hb q =>
      hk c o (fun t => hb (by simp [t])) (fun t => hb (by simp [t])) (fun t => hb (by simp [t])) (fun t => hb (by simp [t])) q) hf⟩
  self := fun A i s Q E st h => wpAny_pyIter_zip st.1 h
def iZipM (K : PySem.W.Frag) (ta : TA) : TI := fun σ H R => ta σ H fun vs H1 => ∃ a b xs ys, vs = [.ref a, .ref b] ∧ SqT K H1 a xs ∧ SqL K H1 b ys ∧ R (ItzM K a b) H1
theorem pi_zipM {X : Cx} {e e2 : Expr} {ta : TA} {p pos tpos : Pos} {elts : List Expr} {kk : Nat} (hg : Gl X "zip") (hm : X.mg "zip" = none) (ha : PA X [e, e2] ta)
    (hs : starEach [e, e2] X.env = (false, eval e X.env) :: starEach [e2] X.env := by rfl) (hpl : (backTo pos (starEach [e2] X.env)).any (·.1) = false := by rfl) :
    PI X (.Tuple elts kk tpos) (.Call (.Name "zip" p) [e, e2] [] pos) (iZipM X.K ta) := by
  refine ⟨fun pins s σ H R I h => Call_ (ld_blt I hg hm PyProof.Rows.boot_zip (PyProof.Rows.callWith_type1 (thn (ha.run pos pins s σ H _ I h) fun us s1 ⟨vs, H1, I1, r1, a, b, xs, ys, ex, qx, qy, q⟩ => ?_) hs hpl))⟩
  subst ex
  cases r1 with
  | cons ra rr =>
    cases rr with
    | cons rb rr =>
      cases rr
      cases ra
      cases rb
      obtain ⟨its, rv, p1, _⟩ := I1.tuple qx
      obtain ⟨its2, rv2, p2, _⟩ := I1.list qy
      obtain ⟨o1, ho1, _⟩ := id p1
      refine call_mixed (show s1.heap.IsTuple a its.toArray from p1) p2.isList fun h' hz hTI hTO j1 j2 hk => wpAny_pyIter_zip hz ?_
      have I2 : Inv X pins σ H1 { s1 with heap := h' } := I1.kept (t' := s1.toks) hk
      refine ⟨s1.heap.objs.size + 4, [s1.heap.objs.size + 4, s1.heap.objs.size + 2, s1.heap.objs.size + 3, s1.heap.objs.size, s1.heap.objs.size + 1], _, _, H1, rfl, I2, turn_mixed (PySem.W.ktu_apart s1.heap.objs.size a b (Heap.lt_size ho1) p2.lt), ⟨hz, hTI, ⟨_, _, hTO⟩, j1, j2⟩, fun c hc => ?_, q⟩
      have le : s1.heap.objs.size ≤ c := by
        rcases five hc with rfl | rfl | rfl | rfl | rfl
        · exact Nat.le_add_right _ _
        · exact Nat.le_add_right _ _
        · exact Nat.le_add_right _ _
        · exact Nat.le_refl _
        · exact Nat.le_add_right _ _
      exact I1.fpOk le (I1.hok.fresh le)
theorem walk_zipM {K : PySem.W.Frag} {a b : Addr} {xs ys : List V} {n : Nat} (hn : n = min xs.length ys.length) : Walk (ItzM K a b) n (fun H => SqT K H a xs ∧ SqL K H b ys) (YPair (fun i => xs[i]?) (fun i => ys[i]?)) := by
  subst hn
  refine ⟨fun i _ hi q => ?_, fun _ q => ⟨xs, ys, q.1, q.2, by omega⟩, fun i H v H' _ q y => ?_⟩
  · have h1 : i < xs.length := by omega
    have h2 : i < ys.length := by omega
    exact ⟨xs, ys, xs[i], ys[i], q.1, q.2, by simp [h1], by simp [h2]⟩
  · obtain ⟨T, x, z, e1, e2, e3, e4, e5⟩ := y
    exact ⟨T, x, z, e1, e2, e3, e4 xs q.1, e5 ys q.2⟩
end Lz
set_option maxHeartbeats 1000000
/-! {k: v for ..} with tuples as keys -/
namespace Lz
open PySem PySem.Spec PyProof.Rows L2
section
variable {X : Cx}
/-- d[t] = v by a comprehension, t a tuple that stands -/
theorem put_tup {pins : List (Addr × Obj)} {σ : L2.St} {H : Hp} {s : Shared} {E : Value → Shared → Prop} {D b : Addr} {kvs : List (List Key × V)} {k : List Key} {v : V} {r : Value} {Q : Unit → Shared → Prop} (hu : X.A.units + 1 < cLine) (I : Inv X pins σ H s) (hD : H D = some (.dT kvs)) (few : kvs.length < sizeLine)
    (hb : H b = some (.tup (k.map kV))) (rv : RelV v r) (q : ∀ s', Inv X pins σ (upd H D (.dT (putK kvs k v))) s' → Q () s') : wpAny (model X.prog X.w) X.A (dictSet D (.ref b) r) Q E s := by
  obtain ⟨z, hd, xs, rel, dd⟩ := dt_of I.hok hD
  have zx : xs.length ≤ sizeLine := by rw [← Paired.length rel]; exact z
  have zl : (putK kvs k v).length ≤ sizeLine := by have := length_putK kvs k v; omega
  refine wpAny_dictSet_heap (hsz := zx) (show X.A.units < cLine by omega) (key_of I.hok hb) dd fun h' dd' same => q _ ?_
  obtain ⟨o, es, ep, ho, h2, h3, h4, _, h5⟩ := dd'
  refine d_write I (by rw [hD]; exact True.intro) same ⟨o, ho⟩ ⟨zl, hd, _, (rel.put k hb rv).keeps fun c ys ec => ?_, o, es, ep, ho, h2, h3, h4, h5⟩
  rw [upd_ne (ne_of ec hD (fun z => nomatch z))]
  exact ec
/-- the reading: D the new dict -/
def tDt (wi : TI) (g : TG) (tt : TT) (tk tv : TE) (vs : List Nat) : TE := fun σ H Q => wi σ H fun J H1 => ∀ D, H1 D = none → ∃ W : Nat → Nat → Hp → Prop, (∃ m, W 0 m (upd H1 D (.dT []))) ∧ ∀ i m H, W i m H →
  (J.stop i H ∧ Q (.ref D) H) ∨ (J.go i H ∧ ∃ Nx : Hp → Prop, (∀ H', Nx H' → ∃ m', m' < m ∧ W (i + 1) m' H') ∧ ∀ x H', J.yld i H x H' → g x (wipe σ vs) H' fun σ2 H2 => wipe σ2 vs = wipe σ vs ∧ tt σ2 H2 fun b H3 =>
    if b = true then tk σ2 H3 fun y H4 => tv σ2 H4 fun z H5 => ∃ kvs k t, y = .ref t ∧ H5 t = some (.tup (k.map kV)) ∧ H5 D = some (.dT kvs) ∧ kvs.length < sizeLine ∧ Nx (upd H5 D (.dT (putK kvs k z))) else Nx H3)
variable {kx vx tg iter : Expr} {ifs : List Expr} {scope : Scope} {own : List (Str × Nat)} {pos : Pos} {wi : TI} {g : TG} {tt : TT} {tk tv : TE}
theorem pe_dcT (hc : X.calm = true) (hu : X.A.units + 1 < cLine) (hN : X.N.Nodup) (hi : PI X tg iter wi) (ok : BlkOk X.N X.env.scope scope own)
    (hg : ∀ (s : Shared) (H : Hp) (C : Addr) (cl : List (Str × Addr)) (fp : List Addr), PG (X.blk s H scope (compEnvC scope cl C X.env) fp) tg g) (ht : ∀ (s : Shared) (H : Hp) (C : Addr) (cl : List (Str × Addr)) (fp : List Addr), PTs (X.blk s H scope (compEnvC scope cl C X.env) fp) ifs tt)
    (hk : ∀ (s : Shared) (H : Hp) (C : Addr) (cl : List (Str × Addr)) (fp : List Addr), PE (X.blk s H scope (compEnvC scope cl C X.env) fp) kx tk) (he : ∀ (s : Shared) (H : Hp) (C : Addr) (cl : List (Str × Addr)) (fp : List Addr), PE (X.blk s H scope (compEnvC scope cl C X.env) fp) vx tv)
    (hs : ∀ x, foldedSetIterable iter X.env x = pure x := by intro _; rfl) : PE X (.DictComp kx vx [⟨tg, iter, ifs, 0⟩] scope pos) (tDt wi g tt tk tv (own.map (·.2))) := by
  refine ⟨fun pins s σ H Q I h => ?_⟩
  rw [arm_eval_DictComp]
  have cells : ∀ y ∈ scope.names, y.2 = .free → ∃ c, X.env.cells.lookup y.1 = some c := fun y hy e => (ok.free y hy e).elim (fun k => I.ok.has _ (.inl k)) fun k => I.ok.has _ (.inr k)
  refine wpAny_comprehension_free rfl hs (closure_ok cells) ok.kind (fun y hy e => by rw [ok.uniq y hy, e]) (thn (hi.run pins s σ H _ I h) fun xv s1 hx => thn hx fun itv s2 h2 => ?_)
  obtain ⟨it, fp, tn, J, H2, e, I2, T, st2, f2, q⟩ := h2
  subst e
  refine wpAny_newObj_type (newEnv_comp ?_)
  -- the new dict
  obtain ⟨D, eD⟩ : ∃ D, D = s2.heap.objs.size := ⟨_, rfl⟩
  have nD : H2 D = none := I2.hok.fresh (Nat.le_of_eq eD.symm)
  obtain ⟨W, ⟨m0, w0⟩, turn⟩ := q D nD
  obtain ⟨s3, es3⟩ : ∃ s3 : Shared, s3 = { s2 with heap := s2.heap.push { cls := .type "dict", data := .dict #[] } } := ⟨_, rfl⟩
  have hp3 : s3.heap = s2.heap.push { cls := .type "dict", data := .dict #[] } := by rw [es3]
  have I3 : Inv X pins σ (upd H2 D (.dT [])) s3 := by
    rw [es3, eD]
    exact I2.laid (t' := s2.toks) (fun b o e => Heap.get?_push_of_some _ e) (Nat.le_refl _) (dt_empty s2.heap I2.big)
  have lt2 : ∀ b ∈ fp, b < s2.heap.objs.size := fun b hb => let ⟨_, e, _⟩ := T.obj _ _ st2 b hb; Heap.lt_size e
  have f3 : ∀ b ∈ fp, FpOk X pins (upd H2 D (.dT [])) b ∧ b < s3.heap.objs.size := fun b hb => by
    have lt := lt2 b hb
    refine ⟨⟨(upd_ne (by rw [eD]; exact Nat.ne_of_lt lt)).trans (f2 b hb).1, (f2 b hb).2⟩, ?_⟩
    rw [hp3, Heap.size_push]
    exact Nat.lt_succ_of_lt lt
  have st3 : tn 0 s3.heap := T.keep _ _ _ st2 fun b _ o e => by rw [hp3]; exact Heap.get?_push_of_some _ e
  have I4 := block_start I3 ok hN f3
  have on : ∀ (P : ∀ (s : Shared) (H : Hp) (C : Addr) (cl : List (Str × Addr)) (fp : List Addr), Prop), (∀ s H C cl fp, P s H C cl fp) → P s3 (upd H2 D (.dT [])) s3.heap.objs.size (cellsFrom (s3.heap.objs.size + 1) scope.names (cloFrom X.env.cells scope.names [])) fp := fun P h => h _ _ _ _ _
  have pg := hg s3 (upd H2 D (.dT [])) s3.heap.objs.size (cellsFrom (s3.heap.objs.size + 1) scope.names (cloFrom X.env.cells scope.names [])) fp
  have pt := ht s3 (upd H2 D (.dT [])) s3.heap.objs.size (cellsFrom (s3.heap.objs.size + 1) scope.names (cloFrom X.env.cells scope.names [])) fp
  have pk := hk s3 (upd H2 D (.dT [])) s3.heap.objs.size (cellsFrom (s3.heap.objs.size + 1) scope.names (cloFrom X.env.cells scope.names [])) fp
  have pe := he s3 (upd H2 D (.dT [])) s3.heap.objs.size (cellsFrom (s3.heap.objs.size + 1) scope.names (cloFrom X.env.cells scope.names [])) fp
  rw [← eD, ← es3]
  generalize hce : compEnvC scope (cellsFrom (s3.heap.objs.size + 1) scope.names (cloFrom X.env.cells scope.names [])) s3.heap.objs.size X.env = ce at I4 pg pt pk pe
  show codeAny _ _ (.compStart (.DictComp kx vx [⟨tg, iter, ifs, 0⟩] scope pos) 0 (.ref it) (.ref D) (compEnvC scope (cellsFrom (s3.heap.objs.size + 1) scope.names (cloFrom X.env.cells scope.names [])) s3.heap.objs.size X.env)) _ { s3 with heap := pushCells (s3.heap.push { cls := .type "dict", data := .dict #[] }) scope.names }
  rw [hce]
  have cL : ce.locals = s3.heap.objs.size := by subst hce; rfl
  have n3 : ∀ b ∈ fp, (upd H2 D (.dT [])) b = none := fun b hb => (f3 b hb).1.1
  generalize upd H2 D (.dT []) = H3 at I3 I4 pg pt pk pe w0 n3 f3
  generalize hs4 : ({ s3 with heap := pushCells (s3.heap.push { cls := .type "dict", data := .dict #[] }) scope.names } : Shared) = s4 at I4 ⊢
  have st4 : tn 0 s4.heap := T.keep _ _ _ st3 fun b _ o e => by rw [← hs4]; exact pushCells_keeps _ _ _ _ (Heap.get?_push_of_some _ e)
  have room : X.A.units + 1 < cLine := hu
  have fpOk : ∀ {σ' : L2.St} {H' : Hp} {s' : Shared}, Inv (X.blk s3 H3 scope ce fp) [] σ' H' s' → (∀ b ∈ fp, H' b = none) → ∀ b ∈ fp, FpOk (X.blk s3 H3 scope ce fp) [] H' b := fun {σ' H' s'} I' n b hb =>
    ⟨n b hb, (I'.ok.exf b hb).1, I'.ok.exfs b hb, .inl hb, fun x c e => (I'.ok.exf b hb).2 x c e, fun p hp => nomatch (show p ∈ ([] : List (Addr × Obj)) from hp)⟩
  refine codeAny_compStart_dict (?loop) (T.self X.A 0 _ _ _ st4 ?loop)
  refine compLoop_anyD (fun n s' => ∃ i H', Inv (X.blk s3 H3 scope ce fp) [] (wipe σ (own.map (·.2))) H' s' ∧ tn i s'.heap ∧ (∀ b ∈ fp, H' b = none) ∧ W i n H') ?_ m0 ⟨0, H3, I4, st4, n3, w0⟩
  rintro n s5 ⟨i, H5, I5, st5, n5, w5⟩
  rcases turn i n H5 w5 with ⟨stop, qq⟩ | ⟨go, Nx, hNx, step⟩
  · refine thnF (T.done (X.blk s3 H3 scope ce fp) rfl rfl rfl hc i [] s5 _ H5 (fun _ _ => False) I5 (fpOk I5 n5) st5 stop) fun r s6 ⟨hr, I6⟩ => ?_
    subst hr
    have back : Inv X pins σ H5 s6 := I3.call' (ch := fp) I6.os I6.base I6.hok I6.bare fun b hb => ⟨(f3 b hb).1.2.2.2.1, (f3 b hb).1.2.1, (f3 b hb).1.2.2.2.2.1, (f3 b hb).1.2.2.2.2.2⟩
    have nC : H5 s3.heap.objs.size = none := cL ▸ (show H5 ce.locals = none from I6.free)
    obtain ⟨m, hn, _⟩ := I6.loc
    have hn : s6.heap.Ns ce.locals m := hn
    rw [cL] at hn
    refine ⟨m, hn, fun h'' sb => ?_⟩
    obtain ⟨f0, f1, f2', f3', f4, f5⟩ := I3.fpOk (Nat.le_refl _) nC
    exact ⟨.ref D, H5, back.turned (t' := s6.toks) (fun b o hb e => (sb.2 b hb).trans e) f0 f1 f3' f4 f5, rfl, qq⟩
  · refine thnF (T.item (X.blk s3 H3 scope ce fp) rfl rfl rfl hc i [] s5 _ H5 (fun _ _ => False) I5 (fpOk I5 n5) st5 go) fun r s6 ⟨u, hr, h6⟩ => ?_
    subst hr
    refine thnF h6 fun _ s7 ⟨x, H7, I7, r7, y7, st7, n7⟩ => ?_
    refine thnF (pg.run _ s7 _ H7 x u _ (I7.pinned (fpOk I7 n7) (T.obj _ _ st7)) r7 (step x H7 y7)) fun _ s8 ⟨σ8, H8, I8, hw8, q8⟩ => ?_
    refine thnF (pt.run _ s8 σ8 H8 _ I8 q8) fun b s9 ⟨H9, I9, q9⟩ => ?_
    have again : ∀ {s' : Shared} {H' : Hp}, Inv (X.blk s3 H3 scope ce fp) ([] ++ pinsAt fp s7.heap) σ8 H' s' → Nx H' → ∃ m, m < n ∧ ∃ i H', Inv (X.blk s3 H3 scope ce fp) [] (wipe σ (own.map (·.2))) H' s' ∧ tn i s'.heap ∧ (∀ b ∈ fp, H' b = none) ∧ W i m H' := fun {s' H'} I' nx => by
      obtain ⟨m', hm, w'⟩ := hNx H' nx
      have pin : ∀ b ∈ fp, ∀ o, s7.heap.get? b = some o → s'.heap.get? b = some o ∧ H' b = none := fun b hb o e =>
        let z := I'.pin (b, o) (List.mem_append_right _ (List.mem_append_right _ (mem_pinsAt hb e)))
        ⟨z.1, z.2.1⟩
      refine ⟨m', hm, i + 1, H', (I'.unpinned (pins := [])).weak (by rw [← hw8, wipe_length]) (fun j v e => ?_), T.keep _ _ _ st7 fun b hb o e => (pin b hb o e).1, fun b hb => ?_, w'⟩
      · rw [← hw8] at e
        exact (wipe_some e).1
      · obtain ⟨o, e, _⟩ := T.obj _ _ st7 b hb
        exact (pin b hb o e).2
    cases b with
    | false =>
      simp only [Bool.false_eq_true, if_false] at q9 ⊢
      exact again I9 q9
    | true =>
      simp only [if_true] at q9 ⊢
      refine thnF (pk.run _ s9 σ8 H9 _ I9 q9) fun z s10 ⟨yk, H10, I10, r10, q10⟩ => ?_
      refine thnF (pe.run _ s10 σ8 H10 _ I10 q10) fun z2 s11 ⟨yv, H11, I11, r11, kvs, k, t, ek, ht, hD, hz, nx⟩ => ?_
      subst ek
      cases (show z = Value.ref t from r10)
      exact put_tup (X := X.blk s3 H3 scope ce fp) room I11 hD hz ht r11 fun s12 I12 => again I12 nx
end
/-- over any walk -/
theorem dt_it {J : It} {n : Nat} {G : Hp → Prop} {Y : Nat → Hp → V → Hp → Prop} (w : Walk J n G Y) {g : TG} {tt : TT} {tk tv : TE} {vs : List Nat} {σ : L2.St} {H1 : Hp} {D : Addr} {Qd : Hp → Prop} (Pv : Nat → Hp → Prop) (h0 : Pv 0 (upd H1 D (.dT []))) (hG : ∀ i H, i ≤ n → Pv i H → G H)
    (hs : ∀ i x H H', i < n → Pv i H → Y i H x H' → g x (wipe σ vs) H' fun σ2 H2 => wipe σ2 vs = wipe σ vs ∧ tt σ2 H2 fun b H3 =>
      if b = true then tk σ2 H3 fun y H4 => tv σ2 H4 fun z H5 => ∃ kvs k t, y = .ref t ∧ H5 t = some (.tup (k.map kV)) ∧ H5 D = some (.dT kvs) ∧ kvs.length < sizeLine ∧ Pv (i + 1) (upd H5 D (.dT (putK kvs k z))) else Pv (i + 1) H3) (hd : ∀ H, Pv n H → Qd H) :
    ∃ W : Nat → Nat → Hp → Prop, (∃ m, W 0 m (upd H1 D (.dT []))) ∧ ∀ i m H, W i m H →
      (J.stop i H ∧ Qd H) ∨ (J.go i H ∧ ∃ Nx : Hp → Prop, (∀ H', Nx H' → ∃ m', m' < m ∧ W (i + 1) m' H') ∧ ∀ x H', J.yld i H x H' → g x (wipe σ vs) H' fun σ2 H2 => wipe σ2 vs = wipe σ vs ∧ tt σ2 H2 fun b H3 =>
        if b = true then tk σ2 H3 fun y H4 => tv σ2 H4 fun z H5 => ∃ kvs k t, y = .ref t ∧ H5 t = some (.tup (k.map kV)) ∧ H5 D = some (.dT kvs) ∧ kvs.length < sizeLine ∧ Nx (upd H5 D (.dT (putK kvs k z))) else Nx H3) := by
  refine ⟨fun i m H => m = n - i ∧ i ≤ n ∧ Pv i H, ⟨n, by simp, Nat.zero_le _, h0⟩, ?_⟩
  rintro i m H ⟨rfl, hi, p⟩
  by_cases lt : i < n
  · exact .inr ⟨w.goes i H lt (hG i H hi p), Pv (i + 1), fun H' p' => ⟨n - (i + 1), by omega, rfl, lt, p'⟩, fun x H' y => hs i x H H' lt p (w.yields i H x H' lt (hG i H hi p) y)⟩
  · have e : i = n := by omega
    subst e
    exact .inl ⟨w.stops H (hG _ H hi p), hd H p⟩
end Lz
namespace Wb
open PySem L2 WbMin WbS
abbrev sIsInt : Stmt := top 8
abbrev sIsWord : Stmt := top 10
abbrev sIsSigns : Stmt := top 11
abbrev sSignOf : Stmt := top 12
/-- a word as it is passed -/
structure IsW (l : List Nat) : Prop where
  low : Low l
  pos : 0 < l.length
  few : l.length ≤ 600
theorem IsW.fits {l : List Nat} (h : IsW l) : (S l).length ≤ sizeLine := by
  rw [S_len, sizeLine_eq]
  have := h.few
  omega
def spIsWord : Sp := fun vs H Q _ => ∃ l : List Nat, vs = [.str (S l)] ∧ IsW l ∧ ∀ H', Same H H' → Q (.bl true) H'
/-- the built-ins that nobody has put another thing in the place of -/
structure Free (mg : Str → Option Value) : Prop where
  int : mg "int" = none
  len : mg "len" = none
  range : mg "range" = none
  divmod : mg "divmod" = none
  abs : mg "abs" = none
  isi : mg "isinstance" = none
  str : mg "str" = none
  all : mg "all" = none
  min : mg "min" = none
  max : mg "max" = none
  set : mg "set" = none
  bool : mg "bool" = none
theorem ifd {p A B : Prop} [Decidable p] (hp : p) (h : A) : if decide p = true then A else B := by
  rw [if_pos (decide_eq_true hp)]
  exact h
theorem ifn {p A B : Prop} [Decidable p] (hp : ¬ p) (h : B) : if decide p = true then A else B := by
  rw [if_neg (fun q => hp (of_decide_eq_true q))]
  exact h
theorem iteS {p A B : Prop} [Decidable p] (hp : ¬ p) (h : A) : if (!decide p) = true then A else B := by
  rw [decide_eq_false hp]
  exact h
theorem Same.new' {q : Addr} {o : HO} {H H' : Hp} (a : Same H H') (n : H q = none) : Same H (L2.upd H' q o) := fun c u h => by
  rw [upd_ne (ne_of_none h n)]
  exact a c u h
/-! ### lists without doubles -/
theorem few_of_sub {α : Type} [DecidableEq α] : ∀ (l xs : List α), xs.Nodup → (∀ x ∈ xs, x ∈ l) → xs.length ≤ l.length
  | [], xs, _, h => by
    cases xs with
    | nil => exact Nat.le_refl _
    | cons x r => exact absurd (h x List.mem_cons_self) (List.not_mem_nil)
  | a :: l, xs, nd, h => by
    have e : (xs.filter fun c => !decide (c = a)).length ≤ l.length := few_of_sub l _ (nd.filter _) fun x hx => by
      obtain ⟨h1, h2⟩ := List.mem_filter.mp hx
      rcases List.mem_cons.mp (h x h1) with q | q
      · simp [q] at h2
      · exact q
    have d : xs.length ≤ (xs.filter fun c => !decide (c = a)).length + 1 := by
      clear e h
      induction xs with
      | nil => exact Nat.zero_le _
      | cons y r ih =>
        obtain ⟨n1, n2⟩ := List.nodup_cons.mp nd
        by_cases q : y = a
        · have e1 : (r.filter fun c => !decide (c = a)) = r := List.filter_eq_self.mpr fun c hc => by
            have : c ≠ a := fun z => n1 (q ▸ z ▸ hc)
            simp [this]
          rw [List.filter_cons_of_neg (by simp [q]), e1] <;> exact Nat.le_refl _
        · rw [List.filter_cons_of_pos (by simp [q])]
          have := ih n2
          simp only [List.length_cons]
          omega
    simp only [List.length_cons]
    omega
theorem same_count {α : Type} [DecidableEq α] {xs ys : List α} (nx : xs.Nodup) (ny : ys.Nodup) (h : ∀ x, x ∈ xs ↔ x ∈ ys) : xs.length = ys.length :=
  Nat.le_antisymm (few_of_sub ys xs nx fun x q => (h x).mp q) (few_of_sub xs ys ny fun x q => (h x).mpr q)
theorem fold_mem (x : Str) : ∀ (xs acc : List Str), x ∈ xs.foldl WbSet.addNew acc ↔ x ∈ acc ∨ x ∈ xs
  | [], acc => by simp
  | y :: r, acc => by
    rw [List.foldl_cons, fold_mem x r, WbSet.addNew_mem, List.mem_cons, or_assoc]
theorem fold_nodup : ∀ (xs acc : List Str), acc.Nodup → (xs.foldl WbSet.addNew acc).Nodup
  | [], _, h => h
  | y :: r, acc, h => fold_nodup r _ (by
    unfold WbSet.addNew
    by_cases q : y ∈ acc
    · rw [if_pos q] <;> exact h
    · rw [if_neg q, List.nodup_append]
      exact ⟨h, by simp, fun a ha b hb e => q (by rw [← List.mem_singleton.mp hb, ← e]; exact ha)⟩)
theorem differ_mem (x : Str) (xs : List Str) : x ∈ WbSet.differ xs ↔ x ∈ xs := by
  unfold WbSet.differ
  rw [fold_mem]
  simp
theorem differ_nodup (xs : List Str) : (WbSet.differ xs).Nodup := fold_nodup xs [] List.nodup_nil
theorem S_inj {l m : List Nat} (h : S l = S m) : l = m := by rw [← S_cps l, h, S_cps]
theorem getD_at {l : List Nat} {i : Nat} (h : i < l.length) : l[i]? = some (l.getD i 0) := by
  rw [List.getD_eq_getElem?_getD, List.getElem?_eq_getElem h] <;> rfl
/-- the signs of a kind, in any order -/
structure Sgs (l : List Nat) : Prop where
  low : Low l
  nd : l.Nodup
  pos : 0 < l.length
  few : l.length ≤ 4
theorem Sgs.w {l : List Nat} (h : Sgs l) : IsW l := ⟨h.low, h.pos, by have := h.few; omega⟩
def spIsSigns : Sp := fun vs H Q _ => ∃ l, vs = [.str (S l)] ∧ Sgs l ∧ ∀ H', Same H H' → Q (.bl true) H'
def spSignOf : Sp := fun vs H Q _ => ∃ (c : Nat) (sg : List Nat), vs = [.str (S [c]), .str (S sg)] ∧ c ∈ sg ∧ Q (.bl true) H
theorem flat_strs (zs : List Str) : (zs.map V.str).all flatV = true := by rw [List.all_map]; exact List.all_eq_true.mpr fun _ _ => rfl
theorem inV_strs (z : Str) (zs : List Str) : inV (.str z) (zs.map V.str) = decide (z ∈ zs) := by
  unfold inV
  rw [List.any_map, Bool.eq_iff_iff, List.any_eq_true, decide_eq_true_iff]
  constructor
  · rintro ⟨y, hy, e⟩
    have e' : (y == z) = true := e
    rw [← beq_iff_eq.mp e']
    exact hy
  · intro h
    exact ⟨z, h, beq_self_eq_true z⟩
theorem take_nd {α : Type} [DecidableEq α] {l : List α} {i : Nat} {x : α} (nd : l.Nodup) (h : l[i]? = some x) : x ∉ l.take i := by
  intro m
  obtain ⟨j, hj, e⟩ := List.getElem_of_mem m
  rw [List.length_take] at hj
  rw [List.getElem_take] at e
  obtain ⟨hi, e2⟩ := List.getElem?_eq_some_iff.mp h
  exact (List.pairwise_iff_getElem.mp nd) j i (by omega) hi (by omega) (e.trans e2.symm)
section
variable {P : Program} {w : World} {K : PySem.W.Frag} {mg : Str → Option Value} {base : Heap} {f fD fS fW : Addr} {fd fdD fdS dW : FuncData}
theorem scIW : FnScope ["value", "sign"] ["value"] (defScope sIsWord) := ⟨rfl, rfl, rfl, by decide +kernel, rfl, by decide +kernel, by decide +kernel⟩
theorem ok_isword (F : Fun K "is_word" "is_word" sIsWord f fd) (Z : Free mg) (t6 : Tok) (g6 : mg "MOST_WORD" = some (.int 600 t6)) : FnOk P w K mg base CX0 1 f fd ["value"] spIsWord := by
  refine F.ok scIW (fun vs H Q E h => ?_) (fun cdv A outer s H vs Q E hr h => ?_)
  · obtain ⟨l, rfl, _⟩ := h
    rfl
  · obtain ⟨l, rfl, W, k⟩ := h
    refine ⟨_, pss_cons (ps_if (PW.pt (pw_or (pt_not (pt_val (pe_callB call_isi (by rfl) Z.isi (by decide +kernel) (pa_cons (pv 0) (pa_cons (pe_bltn (v := .ty "str") (u := .type "str") (by rfl) Z.str (by decide +kernel) rfl) pa_nil)))))
        (pw_or1 (pt_not (pt_chain op_le op_le pe_int (pe_callB call_len_str (by rfl) Z.len PySem.boot_len (pa_cons (pv 0) pa_nil)) (pe_glob (v := .int 600) (by rfl) g6 ⟨_, rfl⟩)))))) (pss_one (ps_never)) pss_nil)
      (pss_one (ps_ret (pe_callB (cr_all rfl) (by rfl) Z.all (by decide +kernel) (pa_cons
        (pe_lc (own := [("sign", 1)]) (g := gName 1) (tt := tYes) rfl scIW.nd (pi_str (pv 0)) (blkOk_by (N := ["value", "sign"]) (sc := defScope sIsWord) (by decide +kernel)) (fun _ _ _ _ _ => pg_name (i := 1) scIW.nd rfl (.inl rfl)) (fun _ _ _ _ _ => pts_nil)
          (fun _ _ _ _ _ => pe_chain op_le_str op_le_str pe_str (pv 1) pe_str)) pa_nil)))), ?_⟩
    have len1 : 1 ≤ ((S l).length : Int) := by rw [S_len]; have := W.pos; omega
    have len2 : ((S l).length : Int) ≤ 600 := by rw [S_len]; have := W.few; omega
    refine ⟨_, rfl, _, _, .type "str", .type "str", true, rfl, .ty "str", .base (.str _), kit_ty (by decide +kernel), true, rfl, ?_⟩
    refine ⟨_, rfl, _, rfl, W.fits, _, _, rfl, rfl, _, rfl, ifd len1 ⟨_, _, rfl, rfl, _, rfl, iteNS len2 ?_⟩⟩
    refine ⟨_, rfl, _, rfl, fun D hD => lc_it walk_str (fun i H3 => H3 D = some (.lst ((List.replicate i true).map V.bl)) ∧ Same H H3) ⟨upd_same, Same.put (Same.refl H) hD⟩ (fun _ _ _ _ => trivial) ?_ ?_⟩
    · rintro i x H3 H3' hi ⟨h1, h2⟩ ⟨rfl, c, hc, rfl⟩
      have mem : c ∈ l := by
        have q := Array.mem_of_getElem? hc
        simpa [S] using q
      have c12 := W.low c mem
      have la : ¬ (([c] : List Nat) < [97]) := by rw [List.cons_lt_cons_iff]; simp; omega
      have lz : ¬ (([122] : List Nat) < [c]) := by rw [List.cons_lt_cons_iff]; simp; omega
      have ea : ("a" : Str).cps.toList = [97] := by decide +kernel
      have ez : ("z" : Str).cps.toList = [122] := by decide +kernel
      refine ⟨rfl, _, rfl, _, _, rfl, rfl, _, rfl, iteS (by rw [ea]; exact la) ⟨_, _, rfl, rfl, ?_⟩⟩
      rw [ez, decide_eq_false (show ¬ (([122] : List Nat) < (⟨#[c]⟩ : Str).cps.toList) from lz)]
      refine ⟨_, h1, ?_, ?_, Same.new' h2 hD⟩
      · rw [List.length_map, List.length_replicate, sizeLine_eq]
        have := W.few
        rw [S_size] at hi
        omega
      · rw [upd_same, List.replicate_succ', List.map_append] <;> rfl
    · rintro H3 ⟨h1, h2⟩
      refine ⟨D, _, rfl, SqL.of h1, ?_⟩
      have e : (List.replicate (S l).cps.size true).all id = true := List.all_eq_true.mpr fun b hb => by rw [List.eq_of_mem_replicate hb] <;> rfl
      show Q (.bl ((List.replicate (S l).cps.size true).all id)) H3
      rw [e]
      exact k H3 h2
theorem scSg : FnScope ["value"] ["value"] (defScope sIsSigns) := ⟨rfl, rfl, rfl, by decide +kernel, rfl, by decide +kernel, by decide +kernel⟩
theorem ok_issigns (F : Fun K "is_signs" "is_signs" sIsSigns f fd) (Z : Free mg) (DW : Def K mg "is_word" sIsWord ["value"] fW dW) (t6 : Tok) (g6 : mg "MOST_WORD" = some (.int 600 t6)) (t4 : Tok) (g4 : mg "MOST_SIGNS" = some (.int 4 t4)) : FnOk P w K mg base CX0 2 f fd ["value"] spIsSigns := by
  have GW : FnOk P w K mg base CX0 1 fW dW ["value"] spIsWord := ok_isword DW.F Z t6 g6
  refine F.ok scSg (fun vs H Q E h => ?_) (fun cdv A outer s H vs Q E hr h => ?_)
  · obtain ⟨l, rfl, _⟩ := h
    rfl
  · obtain ⟨l, rfl, G, k⟩ := h
    refine ⟨_, pss_one (ps_ret (pe_and (pe_call GW hr rfl DW.g DW.kp DW.b .nil pass0 (pa_cons (pv 0) pa_nil)) (pe_and (pe_cmpR op_le (pe_callB call_len_str (by rfl) Z.len PySem.boot_len (pa_cons (pv 0) pa_nil)) (pe_glob (v := .int 4) (by rfl) g4 ⟨_, rfl⟩) (nomark _))
      (pe_one (pe_cmpR op_eq (WbSet.pe_lenSetT rfl (by rfl) Z.len (by rfl) Z.set (pv 0)) (pe_callB call_len_str (by rfl) Z.len PySem.boot_len (pa_cons (pv 0) pa_nil)) (nomark _)))))), ?_⟩
    have few := G.few
    refine ⟨_, rfl, l, rfl, G.w, fun H1 s1 => ⟨true, rfl, _, rfl, _, rfl, G.w.fits, _, _, rfl, rfl, _, rfl, ifd (by rw [S_len]; omega) ?_⟩⟩
    refine ⟨_, rfl, S l, rfl, by rw [S_len]; omega, _, rfl, _, rfl, G.w.fits, rfl, ?_⟩
    have e : (WbSet.differ (WbSet.signs (S l))).length = (S l).length := by
      have nd : (WbSet.signs (S l)).Nodup := by
        unfold WbSet.signs
        rw [S_cps]
        exact List.Pairwise.map _ (fun a b h q => h (by injection q with q; injection q with q; injection q)) G.nd
      rw [same_count (differ_nodup _) nd (fun x => differ_mem x _)]
      unfold WbSet.signs
      rw [List.length_map, S_cps, S_len]
    rw [e, decide_eq_true rfl]
    exact k H1 s1
theorem scSO : FnScope ["value", "signs"] ["value", "signs"] (defScope sSignOf) := ⟨rfl, rfl, rfl, by decide +kernel, rfl, by decide +kernel, by decide +kernel⟩
theorem ok_signof (F : Fun K "is_sign_of" "is_sign_of" sSignOf f fd) (Z : Free mg) : FnOk P w K mg base CX0 1 f fd ["value", "signs"] spSignOf := by
  refine F.ok scSO (fun vs H Q E h => ?_) (fun cdv A outer s H vs Q E hr h => ?_)
  · obtain ⟨c, sg, rfl, _⟩ := h
    rfl
  · obtain ⟨c, sg, rfl, m, k⟩ := h
    refine ⟨_, pss_one (ps_ret (pe_and (pe_callB call_isi (by rfl) Z.isi (by decide +kernel) (pa_cons (pv 0) (pa_cons (pe_bltn (v := .ty "str") (u := .type "str") (by rfl) Z.str (by decide +kernel) rfl) pa_nil)))
      (pe_and (pe_cmpR op_eq (pe_callB call_len_str (by rfl) Z.len PySem.boot_len (pa_cons (pv 0) pa_nil)) pe_int (nomark _)) (pe_one (pe_cmpR op_in_sign (pv 0) (pv 1) rfl))))), ?_⟩
    refine ⟨_, rfl, _, _, .type "str", .type "str", true, rfl, .ty "str", .base (.str _), kit_ty (by decide +kernel), true, rfl, ?_⟩
    refine ⟨_, rfl, _, rfl, (by rw [S_len, sizeLine_eq]; show 1 ≤ _; decide), rfl, _, rfl, ifd (by rw [S_len] <;> rfl) ?_⟩
    refine ⟨_, rfl, _, rfl, c, S sg, rfl, rfl, ?_⟩
    rw [S_cps, decide_eq_true m]
    exact k
end
end Wb
/-! the parts of a loop, asked whether they are right -/
namespace Wb
open PySem L2 WbMin WbS Lz
abbrev sIsName : Stmt := top 13
abbrev sStateOf : Stmt := top 29
abbrev sRowOf : Stmt := top 30
abbrev sTurnOf : Stmt := top 31
/-- a name -/
structure IsNm (l : List Nat) : Prop where
  pos : 0 < l.length
  few : l.length ≤ 8
  hd : 97 ≤ l.getD 0 0 ∧ l.getD 0 0 ≤ 122
  ok : ∀ c ∈ l, (97 ≤ c ∧ c ≤ 122) ∨ (48 ≤ c ∧ c ≤ 57)
theorem IsNm.fits {l : List Nat} (h : IsNm l) : (S l).length ≤ sizeLine := by
  rw [S_len, sizeLine_eq]
  have := h.few
  omega
def spIsName : Sp := fun vs H Q _ => ∃ l, vs = [.str (S l)] ∧ IsNm l ∧ ∀ H', Same H H' → Q (.bl true) H'
def spStateOf : Sp := fun vs H Q _ => ∃ (z : Str) (t : Addr) (st : List Str), vs = [.str z, .ref t] ∧ H t = some (.tup (st.map V.str)) ∧ z ∈ st ∧ Q (.bl true) H
def spIsIntT : Sp := fun vs H Q _ => ∃ i : Int, vs = [.int i] ∧ Q (.bl true) H
def spRowOf : Sp := fun vs H Q _ => ∃ (r t : Addr) (sg : List Nat) (st : List Str) (a b : Str) (c : Nat) (m : Int), vs = [.ref r, .str (S sg), .ref t] ∧ H r = some (.tup [.str a, .str (S [c]), .str b, .int m]) ∧ H t = some (.tup (st.map V.str)) ∧ a ∈ st ∧ b ∈ st ∧ c ∈ sg ∧ Q (.bl true) H
def spTurnOf : Sp := fun vs H Q _ => ∃ (r t : Addr) (st : List Str) (a b : Str) (m : Int), vs = [.ref r, .ref t] ∧ H r = some (.tup [.str a, .str b, .int m]) ∧ H t = some (.tup (st.map V.str)) ∧ a ∈ st ∧ b ∈ st ∧ Q (.bl true) H
theorem iteSn {p A B : Prop} [Decidable p] (hp : p) (h : B) : if (!decide p) = true then A else B := by
  rw [decide_eq_true hp]
  exact h
theorem ifd1 {p A B : Prop} [Decidable p] (hp : ¬ p) (h : A) : if (!decide p) = true then A else B := by
  rw [decide_eq_false hp]
  exact h
theorem iteNN {p A B : Prop} [Decidable p] (hp : ¬ p) (h : B) : if (!(!decide p)) = true then A else B := by
  rw [decide_eq_false hp]
  exact h
theorem all_reps (n : Nat) : (List.replicate n true).all id = true := List.all_eq_true.mpr fun b hb => by rw [List.eq_of_mem_replicate hb] <;> rfl
theorem cps_a : ("a" : Str).cps.toList = [97] := by decide +kernel
theorem cps_z : ("z" : Str).cps.toList = [122] := by decide +kernel
theorem cps_0 : ("0" : Str).cps.toList = [48] := by decide +kernel
theorem cps_9 : ("9" : Str).cps.toList = [57] := by decide +kernel
theorem not_lt1 {c d : Nat} (h : d ≤ c) : ¬ (([c] : List Nat) < [d]) := by
  rw [List.cons_lt_cons_iff]
  simp
  omega
theorem is_lt1 {c d : Nat} (h : c < d) : ([c] : List Nat) < [d] := by
  rw [List.cons_lt_cons_iff]
  exact .inl h
section
variable {P : Program} {w : World} {K : PySem.W.Frag} {mg : Str → Option Value} {base : Heap} {f fS fO fI : Addr} {fd dS dO dI : FuncData}
theorem scII : FnScope ["value"] ["value"] (defScope sIsInt) := ⟨rfl, rfl, rfl, by decide +kernel, rfl, by decide +kernel, by decide +kernel⟩
theorem ok_isintT (F : Fun K "is_integer" "is_integer" sIsInt f fd) (Z : Free mg) : FnOk P w K mg base CX0 1 f fd ["value"] spIsIntT := by
  refine F.ok scII (fun vs H Q E h => ?_) (fun cdv A outer s H vs Q E hr h => ?_)
  · obtain ⟨n, rfl, _⟩ := h
    rfl
  · obtain ⟨n, rfl, k⟩ := h
    refine ⟨_, pss_one (ps_ret (pe_and (pe_callB call_isi (by rfl) Z.isi (by decide +kernel) (pa_cons (pv 0) (pa_cons (pe_bltn (v := .ty "int") (u := .type "int") (by rfl) Z.int (by decide +kernel) rfl) pa_nil)))
      (pe_one (pe_not (pe_callB call_isi (by rfl) Z.isi (by decide +kernel) (pa_cons (pv 0) (pa_cons (pe_bltn (v := .ty "bool") (u := .type "bool") (by rfl) Z.bool (by decide +kernel) rfl) pa_nil))))))), ?_⟩
    exact ⟨_, rfl, _, _, .type "int", .type "int", true, rfl, .ty "int", .base (.int _), kit_ty (by decide +kernel), true, rfl, _, rfl, _, _, .type "int", .type "bool", false, rfl, .ty "bool", .base (.int _), kit_ty (by decide +kernel), _, rfl, k⟩
theorem scNm : FnScope ["value", "character"] ["value"] (defScope sIsName) := ⟨rfl, rfl, rfl, by decide +kernel, rfl, by decide +kernel, by decide +kernel⟩
theorem ok_isname (F : Fun K "is_name" "is_name" sIsName f fd) (Z : Free mg) (t8 : Tok) (g8 : mg "MOST_NAME" = some (.int 8 t8)) : FnOk P w K mg base CX0 1 f fd ["value"] spIsName := by
  refine F.ok scNm (fun vs H Q E h => ?_) (fun cdv A outer s H vs Q E hr h => ?_)
  · obtain ⟨l, rfl, _⟩ := h
    rfl
  · obtain ⟨l, rfl, W, k⟩ := h
    refine ⟨_, pss_cons (ps_if (PW.pt (pw_or (pt_not (pt_val (pe_callB call_isi (by rfl) Z.isi (by decide +kernel) (pa_cons (pv 0) (pa_cons (pe_bltn (v := .ty "str") (u := .type "str") (by rfl) Z.str (by decide +kernel) rfl) pa_nil)))))
        (pw_or (pt_not (pt_chain op_le op_le pe_int (pe_callB call_len_str (by rfl) Z.len PySem.boot_len (pa_cons (pv 0) pa_nil)) (pe_glob (v := .int 8) (by rfl) g8 ⟨_, rfl⟩)))
        (pw_or1 (pt_not (pt_chain op_le_str op_le_str pe_str (pe_ix ix_str (pv 0) pe_int (fun _ _ => rfl)) pe_str)))))) (pss_one ps_never) pss_nil)
      (pss_one (ps_ret (pe_callB (cr_all rfl) (by rfl) Z.all (by decide +kernel) (pa_cons
        (pe_lc (own := [("character", 1)]) (g := gName 1) (tt := tYes) rfl scNm.nd (pi_str (pv 0)) (blkOk_by (N := ["value", "character"]) (sc := defScope sIsName) (by decide +kernel)) (fun _ _ _ _ _ => pg_name (i := 1) scNm.nd rfl (.inl rfl)) (fun _ _ _ _ _ => pts_nil)
          (fun _ _ _ _ _ => pe_or (pe_chain op_le_str op_le_str pe_str (pv 1) pe_str) (pe_one (pe_chain op_le_str op_le_str pe_str (pv 1) pe_str)))) pa_nil)))), ?_⟩
    have pos := W.pos
    have len1 : 1 ≤ ((S l).length : Int) := by rw [S_len]; omega
    have len2 : ((S l).length : Int) ≤ 8 := by rw [S_len]; have := W.few; omega
    refine ⟨_, rfl, _, _, .type "str", .type "str", true, rfl, .ty "str", .base (.str _), kit_ty (by decide +kernel), true, rfl, ?_⟩
    refine ⟨_, rfl, _, rfl, W.fits, _, _, rfl, rfl, _, rfl, ifd len1 ⟨_, _, rfl, rfl, _, rfl, ?_⟩⟩
    refine iteNS len2 ?_
    have hd := W.hd
    refine ⟨_, rfl, _, _, l.getD 0 0, rfl, rfl, W.fits, by rw [S_cps]; exact atI_nat (j := 0) (getD_at pos), _, _, rfl, rfl, _, rfl, ifd1 (by rw [cps_a]; exact not_lt1 hd.1) ⟨_, _, rfl, rfl, ?_⟩⟩
    refine ⟨_, rfl, iteNN (show ¬ (("z" : Str).cps.toList < [l.getD 0 0]) from by rw [cps_z]; exact not_lt1 hd.2) ?_⟩
    refine ⟨_, rfl, _, rfl, fun D hD => lc_it walk_str (fun i H3 => H3 D = some (.lst ((List.replicate i true).map V.bl)) ∧ Same H H3) ⟨upd_same, Same.put (Same.refl H) hD⟩ (fun _ _ _ _ => trivial) ?_ ?_⟩
    · rintro i x H3 H3' hi ⟨h1, h2⟩ ⟨rfl, c, hc, rfl⟩
      have mem : c ∈ l := by
        have q := Array.mem_of_getElem? hc
        simpa [S] using q
      have fin : ∀ t : Bool, t = true → ∃ xs, H3' D = some (.lst xs) ∧ xs.length < sizeLine ∧ (L2.upd H3' D (.lst (xs ++ [.bl t]))) D = some (.lst ((List.replicate (i + 1) true).map V.bl)) ∧ Same H (L2.upd H3' D (.lst (xs ++ [.bl t]))) := by
        rintro _ rfl
        refine ⟨_, h1, ?_, ?_, Same.new' h2 hD⟩
        · rw [List.length_map, List.length_replicate, sizeLine_eq]
          have := W.few
          rw [S_size] at hi
          omega
        · rw [upd_same, List.replicate_succ', List.map_append] <;> rfl
      rcases W.ok c mem with q | q
      · refine ⟨rfl, _, rfl, _, _, rfl, rfl, _, rfl, ifd1 (by rw [cps_a]; exact not_lt1 q.1) ⟨_, _, rfl, rfl, ?_⟩⟩
        have e : (decide (("z" : Str).cps.toList < (⟨#[c]⟩ : Str).cps.toList)) = false := decide_eq_false (by rw [cps_z]; exact not_lt1 q.2)
        refine ⟨true, by rw [e] <;> rfl, fin true rfl⟩
      · refine ⟨rfl, _, rfl, _, _, rfl, rfl, _, rfl, iteSn (show ([c] : List Nat) < ("a" : Str).cps.toList by rw [cps_a]; exact is_lt1 (by omega)) ?_⟩
        refine ⟨false, rfl, ?_⟩
        refine ⟨_, rfl, _, _, rfl, rfl, _, rfl, ifd1 (show ¬ (([c] : List Nat) < ("0" : Str).cps.toList) by rw [cps_0]; exact not_lt1 q.1) ⟨_, _, rfl, rfl, ?_⟩⟩
        have e : (decide (("9" : Str).cps.toList < (⟨#[c]⟩ : Str).cps.toList)) = false := decide_eq_false (by rw [cps_9]; exact not_lt1 q.2)
        exact fin _ (by rw [e] <;> rfl)
    · rintro H3 ⟨h1, h2⟩
      refine ⟨D, _, rfl, SqL.of h1, ?_⟩
      show Q (.bl ((List.replicate (S l).cps.size true).all id)) H3
      rw [all_reps]
      exact k H3 h2
theorem scSt : FnScope ["value", "states"] ["value", "states"] (defScope sStateOf) := ⟨rfl, rfl, rfl, by decide +kernel, rfl, by decide +kernel, by decide +kernel⟩
theorem ok_stateof (F : Fun K "is_state_of" "is_state_of" sStateOf f fd) (Z : Free mg) : FnOk P w K mg base CX0 1 f fd ["value", "states"] spStateOf := by
  refine F.ok scSt (fun vs H Q E h => ?_) (fun cdv A outer s H vs Q E hr h => ?_)
  · obtain ⟨z, t, st, rfl, _⟩ := h
    rfl
  · obtain ⟨z, t, st, rfl, ht, m, k⟩ := h
    refine ⟨_, pss_one (ps_ret (pe_and (pe_callB call_isi (by rfl) Z.isi (by decide +kernel) (pa_cons (pv 0) (pa_cons (pe_bltn (v := .ty "str") (u := .type "str") (by rfl) Z.str (by decide +kernel) rfl) pa_nil)))
      (pe_one (pe_cmpR op_in_seq (pv 0) (pv 1) (by rfl))))), ?_⟩
    refine ⟨_, rfl, _, _, .type "str", .type "str", true, rfl, .ty "str", .base (.str _), kit_ty (by decide +kernel), true, rfl, ?_⟩
    refine ⟨_, rfl, _, rfl, t, _, rfl, .inr (SqT.of ht), rfl, flat_strs _, ?_⟩
    rw [inV_strs, decide_eq_true m]
    exact k
theorem scRo : FnScope ["value", "signs", "states", "state", "sign", "further", "amount"] ["value", "signs", "states"] (defScope sRowOf) := ⟨rfl, rfl, rfl, by decide +kernel, rfl, by decide +kernel, by decide +kernel⟩
theorem ok_rowof (F : Fun K "is_row_of" "is_row_of" sRowOf f fd) (Z : Free mg) (mT : mg "tuple" = none) (DS : Def K mg "is_state_of" sStateOf ["value", "states"] fS dS) (DO : Def K mg "is_sign_of" sSignOf ["value", "signs"] fO dO) (DI : Def K mg "is_integer" sIsInt ["value"] fI dI) : FnOk P w K mg base CX0 2 f fd ["value", "signs", "states"] spRowOf := by
  have GS : FnOk P w K mg base CX0 1 fS dS ["value", "states"] spStateOf := ok_stateof DS.F Z
  have GO : FnOk P w K mg base CX0 1 fO dO ["value", "signs"] spSignOf := ok_signof DO.F Z
  have GI : FnOk P w K mg base CX0 1 fI dI ["value"] spIsIntT := ok_isintT DI.F Z
  refine F.ok scRo (fun vs H Q E h => ?_) (fun cdv A outer s H vs Q E hr h => ?_)
  · obtain ⟨r, t, sg, st, a, b, c, m, rfl, _⟩ := h
    rfl
  · obtain ⟨r, t, sg, st, a, b, c, m, rfl, hR, ht, ha, hb, hc, k⟩ := h
    refine ⟨_, pss_cons (ps_if (PW.pt (pw_or (pt_not (pt_val (pe_callB call_isi (by rfl) Z.isi (by decide +kernel) (pa_cons (pv 0) (pa_cons (pe_bltn (v := .ty "tuple") (u := .type "tuple") (by rfl) mT (by decide +kernel) rfl) pa_nil)))))
        (pw_or1 (pt_cmpR op_ne (pe_callB call_len_seq (by rfl) Z.len PySem.boot_len (pa_cons (pv 0) pa_nil)) pe_int (nomark _))))) (pss_one ps_never) pss_nil)
      (pss_cons (ps_asg (pv 0) (pg_tup (by rfl) (pgs_cons (pg_name (i := 3) scRo.nd rfl (.inl rfl)) (pgs_cons (pg_name (i := 4) scRo.nd rfl (.inl rfl)) (pgs_cons (pg_name (i := 5) scRo.nd rfl (.inl rfl)) (pgs_cons (pg_name (i := 6) scRo.nd rfl (.inl rfl)) pgs_nil))))))
      (pss_cons (ps_if (PW.pt (pw_or (pt_not (pt_val (pe_call GS hr rfl DS.g DS.kp DS.b .nil pass0 (pa_cons (pv 3) (pa_cons (pv 2) pa_nil)))))
        (pw_or1 (pt_not (pt_val (pe_call GO hr rfl DO.g DO.kp DO.b .nil pass0 (pa_cons (pv 4) (pa_cons (pv 1) pa_nil)))))))) (pss_one ps_never) pss_nil)
      (pss_one (ps_ret (pe_and (pe_call GS hr rfl DS.g DS.kp DS.b .nil pass0 (pa_cons (pv 5) (pa_cons (pv 2) pa_nil))) (pe_one (pe_call GI hr rfl DI.g DI.kp DI.b .nil pass0 (pa_cons (pv 6) pa_nil)))))))), ?_⟩
    refine ⟨_, rfl, _, _, .type "tuple", .type "tuple", true, rfl, .ty "tuple", .base (.tup hR), kit_ty (by decide +kernel), true, rfl, ?_⟩
    refine ⟨_, rfl, r, _, rfl, .inr (SqT.of hR), rfl, _, rfl, iteNS rfl ?_⟩
    refine ⟨_, rfl, r, _, rfl, SqT.of hR, rfl, _, _, rfl, _, _, rfl, _, _, rfl, _, _, rfl, rfl, ?_⟩
    refine ⟨_, rfl, _, rfl, _, t, st, rfl, ht, ha, true, rfl, _, rfl, _, rfl, c, sg, rfl, hc, true, rfl, ?_⟩
    refine ⟨_, rfl, _, rfl, _, t, st, rfl, ht, hb, true, rfl, _, rfl, m, rfl, ?_⟩
    exact k
theorem scTn : FnScope ["value", "states", "state", "further", "amount"] ["value", "states"] (defScope sTurnOf) := ⟨rfl, rfl, rfl, by decide +kernel, rfl, by decide +kernel, by decide +kernel⟩
theorem ok_turnof (F : Fun K "is_turn_of" "is_turn_of" sTurnOf f fd) (Z : Free mg) (mT : mg "tuple" = none) (DS : Def K mg "is_state_of" sStateOf ["value", "states"] fS dS) (DI : Def K mg "is_integer" sIsInt ["value"] fI dI) : FnOk P w K mg base CX0 2 f fd ["value", "states"] spTurnOf := by
  have GS : FnOk P w K mg base CX0 1 fS dS ["value", "states"] spStateOf := ok_stateof DS.F Z
  have GI : FnOk P w K mg base CX0 1 fI dI ["value"] spIsIntT := ok_isintT DI.F Z
  refine F.ok scTn (fun vs H Q E h => ?_) (fun cdv A outer s H vs Q E hr h => ?_)
  · obtain ⟨r, t, st, a, b, m, rfl, _⟩ := h
    rfl
  · obtain ⟨r, t, st, a, b, m, rfl, hR, ht, ha, hb, k⟩ := h
    refine ⟨_, pss_cons (ps_if (PW.pt (pw_or (pt_not (pt_val (pe_callB call_isi (by rfl) Z.isi (by decide +kernel) (pa_cons (pv 0) (pa_cons (pe_bltn (v := .ty "tuple") (u := .type "tuple") (by rfl) mT (by decide +kernel) rfl) pa_nil)))))
        (pw_or1 (pt_cmpR op_ne (pe_callB call_len_seq (by rfl) Z.len PySem.boot_len (pa_cons (pv 0) pa_nil)) pe_int (nomark _))))) (pss_one ps_never) pss_nil)
      (pss_cons (ps_asg (pv 0) (pg_tup (by rfl) (pgs_cons (pg_name (i := 2) scTn.nd rfl (.inl rfl)) (pgs_cons (pg_name (i := 3) scTn.nd rfl (.inl rfl)) (pgs_cons (pg_name (i := 4) scTn.nd rfl (.inl rfl)) pgs_nil)))))
      (pss_one (ps_ret (pe_and (pe_call GS hr rfl DS.g DS.kp DS.b .nil pass0 (pa_cons (pv 2) (pa_cons (pv 1) pa_nil))) (pe_and (pe_call GS hr rfl DS.g DS.kp DS.b .nil pass0 (pa_cons (pv 3) (pa_cons (pv 1) pa_nil))) (pe_one (pe_call GI hr rfl DI.g DI.kp DI.b .nil pass0 (pa_cons (pv 4) pa_nil)))))))), ?_⟩
    refine ⟨_, rfl, _, _, .type "tuple", .type "tuple", true, rfl, .ty "tuple", .base (.tup hR), kit_ty (by decide +kernel), true, rfl, ?_⟩
    refine ⟨_, rfl, r, _, rfl, .inr (SqT.of hR), rfl, _, rfl, iteNS rfl ?_⟩
    refine ⟨_, rfl, r, _, rfl, SqT.of hR, rfl, _, _, rfl, _, _, rfl, _, _, rfl, rfl, ?_⟩
    refine ⟨_, rfl, _, rfl, _, t, st, rfl, ht, ha, true, rfl, _, rfl, _, rfl, _, t, st, rfl, ht, hb, true, rfl, _, rfl, m, rfl, ?_⟩
    exact k
end
end Wb
/-! first_wrong of texts and of pairs -/
namespace Wb
open PySem L2 WbMin WbS Lz
abbrev sFirst : Stmt := top 14
theorem un65 {k : Nat} {A : Around} (r : Room k A) : A.units + 65 < cLine := by have := r.un; omega
/-- tuples that stand -/
def Tups (H : Hp) : List Addr → List (List V) → Prop
  | [], [] => True
  | a :: as, x :: xs => H a = some (.tup x) ∧ Tups H as xs
  | _, _ => False
theorem Tups.length {H : Hp} : ∀ {as : List Addr} {xs : List (List V)}, Tups H as xs → as.length = xs.length
  | [], [], _ => rfl
  | _ :: _, _ :: _, h => congrArg (· + 1) (Tups.length h.2)
  | [], _ :: _, h => h.elim
  | _ :: _, [], h => h.elim
theorem Tups.same {H H' : Hp} (s : Same H H') : ∀ {as : List Addr} {xs : List (List V)}, Tups H as xs → Tups H' as xs
  | [], [], _ => trivial
  | _ :: _, _ :: _, h => ⟨s _ _ h.1, Tups.same s h.2⟩
  | [], _ :: _, h => h.elim
  | _ :: _, [], h => h.elim
theorem Tups.get {H : Hp} : ∀ {as : List Addr} {xs : List (List V)} {i : Nat} {a : Addr} {x : List V}, Tups H as xs → as[i]? = some a → xs[i]? = some x → H a = some (.tup x)
  | [], _, _, _, _, _, h, _ => nomatch h
  | _ :: _, [], _, _, _, h, _, _ => h.elim
  | b :: as, y :: xs, 0, a, x, h, e, f => by
    cases e
    cases f
    exact h.1
  | b :: as, y :: xs, i + 1, a, x, h, e, f => Tups.get h.2 e f
theorem Tups.snoc {H : Hp} {a : Addr} {x : List V} (n : H a = some (.tup x)) : ∀ {as : List Addr} {xs : List (List V)}, Tups H as xs → Tups H (as ++ [a]) (xs ++ [x])
  | [], [], _ => ⟨n, trivial⟩
  | _ :: _, _ :: _, h => ⟨h.1, Tups.snoc n h.2⟩
  | [], _ :: _, h => h.elim
  | _ :: _, [], h => h.elim
theorem Tups.take {H : Hp} : ∀ {as : List Addr} {xs : List (List V)} (i : Nat), Tups H as xs → Tups H (as.take i) (xs.take i)
  | [], [], i, _ => by rw [List.take_nil, List.take_nil]; exact trivial
  | [], _ :: _, _, h => h.elim
  | _ :: _, [], _, h => h.elim
  | _ :: _, _ :: _, 0, _ => trivial
  | _ :: _, _ :: _, i + 1, h => ⟨h.1, Tups.take i h.2⟩
/-- two texts, as data and as a value -/
def pD (p : Str × Str) : PyData := .tuple [.str p.1, .str p.2]
def pV (p : Str × Str) : List V := [.str p.1, .str p.2]
theorem dp_pair {K : PySem.W.Frag} {H : Hp} {a : Addr} {p : Str × Str} (h : H a = some (.tup (pV p))) : Dp K H (.ref a) (pD p) := .tup (SqT.of h) (.cons (.str _) (.cons (.str _) .nil))
theorem dp_pairs {K : PySem.W.Frag} {H : Hp} : ∀ {as : List Addr} {ps : List (Str × Str)}, Tups H as (ps.map pV) → DpAll K H (as.map V.ref) (ps.map pD)
  | [], [], _ => .nil
  | _ :: _, _ :: _, h => .cons (dp_pair h.1) (dp_pairs h.2)
  | [], _ :: _, h => h.elim
  | _ :: _, [], h => h.elim
def okP (p : Str × Str) : Prop := PyData.strOk p.1 = true ∧ PyData.strOk p.2 = true
theorem can_pairs : ∀ {ps : List (Str × Str)}, (∀ p ∈ ps, okP p) → PyData.canLayAll0 (ps.map pD) = true
  | [], _ => rfl
  | p :: r, h => by
    show ((PyData.strOk p.1 && (PyData.strOk p.2 && true)) && PyData.canLayAll0 (r.map pD)) = true
    rw [(h p List.mem_cons_self).1, (h p List.mem_cons_self).2, can_pairs fun y q => h y (List.mem_cons_of_mem _ q)] <;> rfl
theorem depth_pairs : ∀ ps : List (Str × Str), PyData.depthAll (ps.map pD) ≤ 1
  | [] => Nat.zero_le _
  | p :: r => by
    show max 1 (PyData.depthAll (r.map pD)) ≤ 1
    have := depth_pairs r
    omega
theorem shaped_pairs {ps : List (Str × Str)} (h : ∀ p ∈ ps, okP p) : SeqAt.shaped (.list (ps.map pD)) = true := by
  have d : PyData.depth (.list (ps.map pD)) ≤ 64 := by
    show PyData.depthAll (ps.map pD) + 1 ≤ 64
    have := depth_pairs ps
    omega
  unfold SeqAt.shaped
  rw [decide_eq_true d]
  show (PyData.canLayAll0 (ps.map pD) && true) = true
  rw [can_pairs h] <;> rfl
theorem shaped_pair {p : Str × Str} (h : okP p) : SeqAt.shaped (pD p) = true := by
  show ((PyData.strOk p.1 && (PyData.strOk p.2 && true)) && decide (_ ≤ 64)) = true
  rw [h.1, h.2] <;> rfl
theorem eqv_pair (p q : Str × Str) : PyData.eqv (pD p) (pD q) = decide (p = q) := by
  show ((p.1 == q.1) && ((p.2 == q.2) && true)) = decide (p = q)
  rw [Bool.eq_iff_iff]
  simp [Prod.ext_iff]
theorem any_pair (p : Str × Str) (ps : List (Str × Str)) : ((ps.map pD).any fun z => PyData.eqv z (pD p)) = decide (p ∈ ps) := by
  rw [List.any_map, Bool.eq_iff_iff, List.any_eq_true, decide_eq_true_iff]
  constructor
  · rintro ⟨y, hy, e⟩
    have e' : PyData.eqv (pD y) (pD p) = true := e
    rw [eqv_pair] at e'
    rw [← of_decide_eq_true e']
    exact hy
  · intro h
    exact ⟨p, h, by show PyData.eqv (pD p) (pD p) = true; rw [eqv_pair, decide_eq_true rfl]⟩
def spFirst : Sp := fun vs H Q _ => ∃ (t L : Addr) (ps : List Str), vs = [.ref t, .ref L] ∧ H t = some (.tup (ps.map V.str)) ∧ H L = some (.lst ((List.replicate ps.length true).map V.bl)) ∧ ps.Nodup ∧ ∀ H', Same H H' → Q .non H'
def spFirstL : Sp := fun vs H Q _ => ∃ (t L : Addr) (ps : List Str), vs = [.ref t, .ref L] ∧ H t = some (.lst (ps.map V.str)) ∧ H L = some (.lst ((List.replicate ps.length true).map V.bl)) ∧ ps.Nodup ∧ ∀ H', Same H H' → Q .non H'
def spFirstP : Sp := fun vs H Q _ => ∃ (t L : Addr) (as : List Addr) (ps : List (Str × Str)), vs = [.ref t, .ref L] ∧ H t = some (.lst (as.map V.ref)) ∧ Tups H as (ps.map pV) ∧ H L = some (.lst ((List.replicate ps.length true).map V.bl)) ∧ ps.Nodup ∧ (∀ p ∈ ps, okP p) ∧ ∀ H', Same H H' → Q .non H'
section
variable {P : Program} {w : World} {K : PySem.W.Frag} {mg : Str → Option Value} {base : Heap} {f : Addr} {fd : FuncData}
theorem scFw : FnScope ["values", "right", "index", "value"] ["values", "right"] (defScope sFirst) := ⟨rfl, rfl, rfl, by decide +kernel, rfl, by decide +kernel, by decide +kernel⟩
theorem ok_first (F : Fun K "first_wrong" "first_wrong" sFirst f fd) (mE : mg "enumerate" = none) : FnOk P w K mg base CX0 1 f fd ["values", "right"] spFirst := by
  refine F.ok scFw (fun vs H Q E h => ?_) (fun cdv A outer s H vs Q E hr h => ?_)
  · obtain ⟨t, L, ps, rfl, _⟩ := h
    rfl
  · obtain ⟨t, L, ps, rfl, ht, hL, nd, k⟩ := h
    refine ⟨_, pss_cons (ps_for PassesOwn.never rfl (pi_enumT (by rfl) mE (pa_cons (pv 0) pa_nil)) (pg_tup (by rfl) (pgs_cons (pg_name (i := 2) scFw.nd rfl (.inl rfl)) (pgs_cons (pg_name (i := 3) scFw.nd rfl (.inl rfl)) pgs_nil)))
        (pss_one (ps_if (PW.pt (pw_or (pt_not (pt_val (pe_ix ix_list (pv 1) (pv 2) (fun _ _ => rfl)))) (pw_or1 (pt_cmpR op_in_seq (pv 3) (pe_slice sl_tup (pv 0) po_none (po_some (pv 2))) (by rfl))))) (pss_one ps_never) pss_nil)))
      (pss_one (ps_ret pe_non)), ?_⟩
    refine ⟨_, rfl, t, _, rfl, SqT.of ht, for_it walk_enumT (fun i σ H' => ∃ v2 v3 : Option V, σ = [some (.ref t), some (.ref L), v2, v3] ∧ Same H H') ⟨none, none, rfl, Same.refl H⟩ (fun _ _ _ _ h => by obtain ⟨_, _, _, h⟩ := h; exact SqT.of (h _ _ ht)) ?_ ?_⟩
    · rintro i x σ H2 H3 hi ⟨v2, v3, rfl, s2⟩ ⟨T, a, b, rfl, hT, rfl, ea, eb⟩
      cases ea
      dsimp only at eb
      rw [List.getElem?_map] at eb
      obtain ⟨z, hz, rfl⟩ := Option.map_eq_some_iff.mp eb
      have hi' : i < ps.length := by rw [List.length_map] at hi; exact hi
      have sT := Same.put (o := .tup [.int (i : Nat), .str z]) s2 hT
      refine ⟨T, _, rfl, SqT.of upd_same, rfl, _, _, rfl, _, _, rfl, rfl, ?_⟩
      refine ⟨_, rfl, _, rfl, L, _, _, .bl true, rfl, rfl, SqL.of (sT _ _ hL), ?_, true, rfl, ?_⟩
      · refine atI_nat ?_
        rw [List.getElem?_map, List.getElem?_replicate, if_pos hi'] <;> rfl
      have ec : cutV (ps.map V.str) none (some ((i : Nat) : Int)) = (ps.take i).map V.str := by
        unfold cutV
        rw [HT.sIx_none, HT.sIx_nat, List.length_map, Nat.min_eq_left (Nat.le_of_lt hi')]
        show (ps.map V.str).take i = _
        rw [List.map_take]
      refine ⟨_, rfl, _, rfl, _, rfl, _, rfl, t, _, rfl, SqT.of (sT _ _ ht), ?_, fun u hu => ?_⟩
      · rintro ⟨_, q⟩
        rw [HT.sIx_nat, List.length_map] at q
        omega
      · rw [ec]
        refine ⟨u, _, rfl, .inr (SqT.of upd_same), rfl, flat_strs _, _, rfl, ?_⟩
        have no : inV (.str z) ((ps.take i).map V.str) = false := by
          rw [inV_strs]
          exact decide_eq_false (take_nd nd hz)
        show if inV (.str z) ((ps.take i).map V.str) = true then _ else _
        rw [no, if_neg Bool.false_ne_true]
        exact ⟨_, _, rfl, Same.put sT hu⟩
    · rintro σ H2 ⟨v2, v3, rfl, s2⟩
      exact k H2 s2
theorem ok_firstL (F : Fun K "first_wrong" "first_wrong" sFirst f fd) (mE : mg "enumerate" = none) : FnOk P w K mg base CX0 1 f fd ["values", "right"] spFirstL := by
  refine F.ok scFw (fun vs H Q E h => ?_) (fun cdv A outer s H vs Q E hr h => ?_)
  · obtain ⟨t, L, ps, rfl, _⟩ := h
    rfl
  · obtain ⟨t, L, ps, rfl, ht, hL, nd, k⟩ := h
    refine ⟨_, pss_cons (ps_for PassesOwn.never rfl (pi_enum (by rfl) mE (pa_cons (pv 0) pa_nil)) (pg_tup (by rfl) (pgs_cons (pg_name (i := 2) scFw.nd rfl (.inl rfl)) (pgs_cons (pg_name (i := 3) scFw.nd rfl (.inl rfl)) pgs_nil)))
        (pss_one (ps_if (PW.pt (pw_or (pt_not (pt_val (pe_ix ix_list (pv 1) (pv 2) (fun _ _ => rfl)))) (pw_or1 (pt_cmpR op_in_seq (pv 3) (pe_slice sl_list (pv 0) po_none (po_some (pv 2))) (by rfl))))) (pss_one ps_never) pss_nil)))
      (pss_one (ps_ret pe_non)), ?_⟩
    refine ⟨_, rfl, t, _, rfl, SqL.of ht, for_it walk_enum (fun i σ H' => ∃ v2 v3 : Option V, σ = [some (.ref t), some (.ref L), v2, v3] ∧ Same H H') ⟨none, none, rfl, Same.refl H⟩ (fun _ _ _ _ h => by obtain ⟨_, _, _, h⟩ := h; exact SqL.of (h _ _ ht)) ?_ ?_⟩
    · rintro i x σ H2 H3 hi ⟨v2, v3, rfl, s2⟩ ⟨T, a, b, rfl, hT, rfl, ea, eb⟩
      cases ea
      dsimp only at eb
      rw [List.getElem?_map] at eb
      obtain ⟨z, hz, rfl⟩ := Option.map_eq_some_iff.mp eb
      have hi' : i < ps.length := by rw [List.length_map] at hi; exact hi
      have sT := Same.put (o := .tup [.int (i : Nat), .str z]) s2 hT
      refine ⟨T, _, rfl, SqT.of upd_same, rfl, _, _, rfl, _, _, rfl, rfl, ?_⟩
      refine ⟨_, rfl, _, rfl, L, _, _, .bl true, rfl, rfl, SqL.of (sT _ _ hL), ?_, true, rfl, ?_⟩
      · refine atI_nat ?_
        rw [List.getElem?_map, List.getElem?_replicate, if_pos hi'] <;> rfl
      have ec : cutV (ps.map V.str) none (some ((i : Nat) : Int)) = (ps.take i).map V.str := by
        unfold cutV
        rw [HT.sIx_none, HT.sIx_nat, List.length_map, Nat.min_eq_left (Nat.le_of_lt hi')]
        show (ps.map V.str).take i = _
        rw [List.map_take]
      refine ⟨_, rfl, _, rfl, _, rfl, _, rfl, t, _, rfl, SqL.of (sT _ _ ht), fun u hu => ?_⟩
      · rw [ec]
        refine ⟨u, _, rfl, .inl (SqL.of upd_same), rfl, flat_strs _, _, rfl, ?_⟩
        have no : inV (.str z) ((ps.take i).map V.str) = false := by
          rw [inV_strs]
          exact decide_eq_false (take_nd nd hz)
        show if inV (.str z) ((ps.take i).map V.str) = true then _ else _
        rw [no, if_neg Bool.false_ne_true]
        exact ⟨_, _, rfl, Same.put sT hu⟩
    · rintro σ H2 ⟨v2, v3, rfl, s2⟩
      exact k H2 s2
theorem ok_firstP (F : Fun K "first_wrong" "first_wrong" sFirst f fd) (mE : mg "enumerate" = none) : FnOk P w K mg base CX0 1 f fd ["values", "right"] spFirstP := by
  refine F.ok scFw (fun vs H Q E h => ?_) (fun cdv A outer s H vs Q E hr h => ?_)
  · obtain ⟨t, L, as, ps, rfl, _⟩ := h
    rfl
  · obtain ⟨t, L, as, ps, rfl, ht, hT0, hL, nd, oks, k⟩ := h
    have len : as.length = ps.length := by rw [hT0.length, List.length_map]
    refine ⟨_, pss_cons (ps_for PassesOwn.never rfl (pi_enum (by rfl) mE (pa_cons (pv 0) pa_nil)) (pg_tup (by rfl) (pgs_cons (pg_name (i := 2) scFw.nd rfl (.inl rfl)) (pgs_cons (pg_name (i := 3) scFw.nd rfl (.inl rfl)) pgs_nil)))
        (pss_one (ps_if (PW.pt (pw_or (pt_not (pt_val (pe_ix ix_list (pv 1) (pv 2) (fun _ _ => rfl)))) (pw_or1 (pt_cmpR (op_inD (un65 hr)) (pv 3) (pe_slice sl_list (pv 0) po_none (po_some (pv 2))) (by rfl))))) (pss_one ps_never) pss_nil)))
      (pss_one (ps_ret pe_non)), ?_⟩
    refine ⟨_, rfl, t, _, rfl, SqL.of ht, for_it walk_enum (fun i σ H' => ∃ v2 v3 : Option V, σ = [some (.ref t), some (.ref L), v2, v3] ∧ Same H H') ⟨none, none, rfl, Same.refl H⟩ (fun _ _ _ _ h => by obtain ⟨_, _, _, h⟩ := h; exact SqL.of (h _ _ ht)) ?_ ?_⟩
    · rintro i x σ H2 H3 hi ⟨v2, v3, rfl, s2⟩ ⟨T, a, b, rfl, hT, rfl, ea, eb⟩
      cases ea
      dsimp only at eb
      rw [List.getElem?_map] at eb
      obtain ⟨z, hz, rfl⟩ := Option.map_eq_some_iff.mp eb
      have hi' : i < as.length := by rw [List.length_map] at hi; exact hi
      have hip : i < ps.length := by omega
      have sT := Same.put (o := .tup [.int (i : Nat), .ref z]) s2 hT
      refine ⟨T, _, rfl, SqT.of upd_same, rfl, _, _, rfl, _, _, rfl, rfl, ?_⟩
      refine ⟨_, rfl, _, rfl, L, _, _, .bl true, rfl, rfl, SqL.of (sT _ _ hL), ?_, true, rfl, ?_⟩
      · refine atI_nat ?_
        rw [List.getElem?_map, List.getElem?_replicate, if_pos hip] <;> rfl
      have ec : cutV (as.map V.ref) none (some ((i : Nat) : Int)) = (as.take i).map V.ref := by
        unfold cutV
        rw [HT.sIx_none, HT.sIx_nat, List.length_map, Nat.min_eq_left (Nat.le_of_lt hi')]
        show (as.map V.ref).take i = _
        rw [List.map_take]
      refine ⟨_, rfl, _, rfl, _, rfl, _, rfl, t, _, rfl, SqL.of (sT _ _ ht), fun u hu => ?_⟩
      · rw [ec]
        obtain ⟨p, hp⟩ : ∃ p, ps[i]? = some p := ⟨ps[i], List.getElem?_eq_getElem hip⟩
        have sU := Same.put (o := .lst ((as.take i).map V.ref)) sT hu
        have tu := hT0.same sU
        have tz : _ = some (HO.tup (pV p)) := tu.get hz (by rw [List.getElem?_map, hp] <;> rfl)
        have tt := tu.take i
        rw [← List.map_take] at tt
        refine ⟨pD p, (ps.take i).map pD, dp_pair tz, .lst (SqL.of upd_same) (dp_pairs tt), shaped_pair (oks p (List.mem_of_getElem? hp)), shaped_pairs (fun q hq => oks q (List.mem_of_mem_take hq)), _, rfl, ?_⟩
        have no : (((ps.take i).map pD).any fun z => PyData.eqv z (pD p)) = false := by
          rw [any_pair]
          exact decide_eq_false (take_nd nd hp)
        rw [no]
        exact ⟨_, _, rfl, sU⟩
    · rintro σ H2 ⟨v2, v3, rfl, s2⟩
      exact k H2 s2
end
end Wb
/-! the parts of a loop, checked -/
namespace Wb
open PySem L2 WbMin WbS Lz
abbrev sChSt : Stmt := top 32
abbrev sChRo : Stmt := top 33
abbrev sChTu : Stmt := top 34
abbrev sChYe : Stmt := top 35
/-- the names of states -/
structure Sts (st : List Str) : Prop where
  of : ∀ z ∈ st, ∃ l, z = S l ∧ IsNm l
  nd : st.Nodup
  pos : 0 < st.length
  few : st.length ≤ 6
/-- a row of a loop: state, sign, next state, amount -/
structure Row where
  a : Str
  c : Nat
  b : Str
  m : Int
def Row.v (r : Row) : List V := [.str r.a, .str (S [r.c]), .str r.b, .int r.m]
def Row.k (r : Row) : Str × Str := (r.a, S [r.c])
/-- a turn: state, next state, amount -/
structure Trn where
  a : Str
  b : Str
  m : Int
def Trn.v (r : Trn) : List V := [.str r.a, .str r.b, .int r.m]
def spChSt : Sp := fun vs H Q _ => ∃ (t : Addr) (st : List Str), vs = [.ref t] ∧ H t = some (.tup (st.map V.str)) ∧ Sts st ∧ ∀ H', Same H H' → Q .non H'
def spChYe : Sp := fun vs H Q _ => ∃ (y t : Addr) (ye st : List Str), vs = [.ref y, .ref t] ∧ H y = some (.tup (ye.map V.str)) ∧ H t = some (.tup (st.map V.str)) ∧ (∀ z ∈ ye, z ∈ st) ∧ ye.Nodup ∧ ye.length ≤ 6 ∧ ∀ H', Same H H' → Q .non H'
def spChTu : Sp := fun vs H Q _ => ∃ (y t : Addr) (as : List Addr) (tn : List Trn) (st : List Str), vs = [.ref y, .ref t] ∧ H y = some (.tup (as.map V.ref)) ∧ Tups H as (tn.map Trn.v) ∧ H t = some (.tup (st.map V.str)) ∧ (∀ r ∈ tn, r.a ∈ st ∧ r.b ∈ st) ∧ (tn.map Trn.a).Nodup ∧ tn.length ≤ 6 ∧ ∀ H', Same H H' → Q .non H'
def spChRo : Sp := fun vs H Q _ => ∃ (y t : Addr) (sg : List Nat) (as : List Addr) (rw : List Row) (st : List Str), vs = [.ref y, .str (S sg), .ref t] ∧ H y = some (.tup (as.map V.ref)) ∧ Tups H as (rw.map Row.v) ∧ H t = some (.tup (st.map V.str)) ∧ (∀ r ∈ rw, r.a ∈ st ∧ r.c ∈ sg ∧ r.b ∈ st) ∧ (rw.map Row.k).Nodup ∧ (∀ r ∈ rw, okP r.k) ∧ sg.length ≤ 4 ∧ st.length ≤ 6 ∧ rw.length = sg.length * st.length ∧ ∀ H', Same H H' → Q .non H'
theorem whole_le {n : Nat} {k : Nat} (h : n ≤ k) : HT.sIx n n (some (k : Int)) = n := by
  rw [HT.sIx_nat]
  omega
section
variable {P : Program} {w : World} {K : PySem.W.Frag} {mg : Str → Option Value} {base : Heap} {f fN fF fS fO fI fR : Addr} {fd dN dF dS dO dI dR : FuncData}
theorem scCS : FnScope ["states", "first", "wrong", "state"] ["states"] (defScope sChSt) := ⟨rfl, rfl, rfl, by decide +kernel, rfl, by decide +kernel, by decide +kernel⟩
theorem ok_chst (F : Fun K "check_states" "check_states" sChSt f fd) (Z : Free mg) (mT : mg "tuple" = none) (mE : mg "enumerate" = none) (t8 : Tok) (g8 : mg "MOST_NAME" = some (.int 8 t8)) (t6 : Tok) (g6 : mg "MOST_STATES" = some (.int 6 t6)) (DN : Def K mg "is_name" sIsName ["value"] fN dN) (DF : Def K mg "first_wrong" sFirst ["values", "right"] fF dF) : FnOk P w K mg base CX0 2 f fd ["states"] spChSt := by
  have GN : FnOk P w K mg base CX0 1 fN dN ["value"] spIsName := ok_isname DN.F Z t8 g8
  have GF : FnOk P w K mg base CX0 1 fF dF ["values", "right"] spFirst := ok_first DF.F mE
  refine F.ok scCS (fun vs H Q E h => ?_) (fun cdv A outer s H vs Q E hr h => ?_)
  · obtain ⟨t, st, rfl, _⟩ := h
    rfl
  · obtain ⟨t, st, rfl, ht, G, k⟩ := h
    refine ⟨_, pss_cons (ps_if (PW.pt (pw_or (pt_not (pt_val (pe_callB call_isi (by rfl) Z.isi (by decide +kernel) (pa_cons (pv 0) (pa_cons (pe_bltn (v := .ty "tuple") (u := .type "tuple") (by rfl) mT (by decide +kernel) rfl) pa_nil))))) (pw_or1 (pt_cmpR op_eq (pe_callB call_len_seq (by rfl) Z.len PySem.boot_len (pa_cons (pv 0) pa_nil)) pe_int (nomark _))))) (pss_one ps_never) pss_nil)
      (pss_cons (ps_set (i := 1) scCS.nd rfl (.inl rfl) (pe_slice sl_tupA (pv 0) po_none (po_some (pe_glob (v := .int 6) (by rfl) g6 ⟨_, rfl⟩))))
      (pss_cons (ps_set (i := 2) scCS.nd rfl (.inl rfl) (pe_call GF hr rfl DF.g DF.kp DF.b .nil pass0 (pa_cons (pv 1) (pa_cons
          (pe_lc (own := [("state", 3)]) (g := gName 3) (tt := tYes) rfl scCS.nd (pi_tup (pv 1)) (blkOk_by (N := ["states", "first", "wrong", "state"]) (sc := defScope sChSt) (by decide +kernel)) (fun _ _ _ _ _ => pg_name (i := 3) scCS.nd rfl (.inl rfl)) (fun _ _ _ _ _ => pts_nil)
            (fun _ _ _ _ _ => pe_call GN hr rfl DN.g DN.kp DN.b .nil pass0 (pa_cons (pv 3) pa_nil))) pa_nil))))
      (pss_cons (ps_if (pt_cmpR op_notN (pv 2) pe_non (nomark _)) (pss_one ps_never) pss_nil)
      (pss_one (ps_if (pt_cmpR op_gt (pe_callB call_len_seq (by rfl) Z.len PySem.boot_len (pa_cons (pv 0) pa_nil)) (pe_glob (v := .int 6) (by rfl) g6 ⟨_, rfl⟩) (nomark _)) (pss_one ps_never) pss_nil))))), ?_⟩
    have few := G.few
    have pos := G.pos
    refine ⟨_, rfl, _, _, .type "tuple", .type "tuple", true, rfl, .ty "tuple", .base (.tup ht), kit_ty (by decide +kernel), true, rfl, ?_⟩
    refine ⟨_, rfl, t, _, rfl, .inr (SqT.of ht), rfl, _, rfl, ifn (fun e => by injection e with e; rw [List.length_map] at e; omega) ?_⟩
    refine ⟨_, rfl, _, rfl, t, _, rfl, SqT.of ht, fun _ => ?_, fun no => absurd ⟨rfl, whole_le (by rw [List.length_map]; exact few)⟩ no⟩
    refine ⟨_, rfl, _, rfl, t, rfl, ⟨_, SqT.of ht⟩, fun D hD => lc_it (walk_tup (xs := st.map V.str)) (fun i H3 => H3 D = some (.lst ((List.replicate i true).map V.bl)) ∧ Same H H3) ⟨upd_same, Same.put (Same.refl H) hD⟩ (fun _ _ _ h => SqT.of (h.2 _ _ ht)) ?_ ?_⟩
    · rintro i x H3 H3' hi ⟨h1, h2⟩ ⟨rfl, hx⟩
      rw [List.getElem?_map] at hx
      obtain ⟨z, hz, rfl⟩ := Option.map_eq_some_iff.mp hx
      rw [List.length_map] at hi
      obtain ⟨l, rfl, N⟩ := G.of z (List.mem_of_getElem? hz)
      refine ⟨rfl, _, rfl, l, rfl, N, fun H4 s4 => ⟨_, s4 _ _ h1, ?_, ?_, Same.new' (h2.trans s4) hD⟩⟩
      · rw [List.length_map, List.length_replicate, sizeLine_eq]
        omega
      · rw [upd_same, List.replicate_succ', List.map_append] <;> rfl
    · rintro H3 ⟨h1, h2⟩
      rw [List.length_map] at h1
      refine ⟨t, D, st, rfl, h2 _ _ ht, h1, G.nd, fun H4 s4 => ?_⟩
      refine ⟨_, rfl, rfl, _, rfl, ?_⟩
      show if (!decide (V.non = V.non)) = true then _ else _
      rw [decide_eq_true rfl]
      refine iteF ⟨_, rfl, t, _, rfl, .inr (SqT.of ((h2.trans s4) _ _ ht)), _, _, rfl, rfl, _, rfl, ifn (by rw [List.length_map]; omega) ?_⟩
      exact k H4 (h2.trans s4)
theorem scCY : FnScope ["yes", "states", "wrong", "state"] ["yes", "states"] (defScope sChYe) := ⟨rfl, rfl, rfl, by decide +kernel, rfl, by decide +kernel, by decide +kernel⟩
theorem ok_chye (F : Fun K "check_yes" "check_yes" sChYe f fd) (Z : Free mg) (mT : mg "tuple" = none) (mE : mg "enumerate" = none) (DS : Def K mg "is_state_of" sStateOf ["value", "states"] fS dS) (DF : Def K mg "first_wrong" sFirst ["values", "right"] fF dF) : FnOk P w K mg base CX0 2 f fd ["yes", "states"] spChYe := by
  have GS : FnOk P w K mg base CX0 1 fS dS ["value", "states"] spStateOf := ok_stateof DS.F Z
  have GF : FnOk P w K mg base CX0 1 fF dF ["values", "right"] spFirst := ok_first DF.F mE
  refine F.ok scCY (fun vs H Q E h => ?_) (fun cdv A outer s H vs Q E hr h => ?_)
  · obtain ⟨y, t, ye, st, rfl, _⟩ := h
    rfl
  · obtain ⟨y, t, ye, st, rfl, hy, ht, sub, nd, few, k⟩ := h
    refine ⟨_, pss_cons (ps_if (pt_not (pt_val (pe_callB call_isi (by rfl) Z.isi (by decide +kernel) (pa_cons (pv 0) (pa_cons (pe_bltn (v := .ty "tuple") (u := .type "tuple") (by rfl) mT (by decide +kernel) rfl) pa_nil))))) (pss_one ps_never) pss_nil)
      (pss_cons (ps_set (i := 2) scCY.nd rfl (.inl rfl) (pe_call GF hr rfl DF.g DF.kp DF.b .nil pass0 (pa_cons (pv 0) (pa_cons
          (pe_lc (own := [("state", 3)]) (g := gName 3) (tt := tYes) rfl scCY.nd (pi_tup (pv 0)) (blkOk_by (N := ["yes", "states", "wrong", "state"]) (sc := defScope sChYe) (by decide +kernel)) (fun _ _ _ _ _ => pg_name (i := 3) scCY.nd rfl (.inl rfl)) (fun _ _ _ _ _ => pts_nil)
            (fun _ _ _ _ _ => pe_call GS hr rfl DS.g DS.kp DS.b .nil pass0 (pa_cons (pv 3) (pa_cons (pv 1) pa_nil)))) pa_nil))))
      (pss_one (ps_if (pt_cmpR op_notN (pv 2) pe_non (nomark _)) (pss_one ps_never) pss_nil))), ?_⟩
    refine ⟨_, rfl, _, _, .type "tuple", .type "tuple", true, rfl, .ty "tuple", .base (.tup hy), kit_ty (by decide +kernel), true, rfl, ?_⟩
    refine ⟨_, rfl, _, rfl, y, rfl, ⟨_, SqT.of hy⟩, fun D hD => lc_it (walk_tup (xs := ye.map V.str)) (fun i H3 => H3 D = some (.lst ((List.replicate i true).map V.bl)) ∧ Same H H3) ⟨upd_same, Same.put (Same.refl H) hD⟩ (fun _ _ _ h => SqT.of (h.2 _ _ hy)) ?_ ?_⟩
    · rintro i x H3 H3' hi ⟨h1, h2⟩ ⟨rfl, hx⟩
      rw [List.getElem?_map] at hx
      obtain ⟨z, hz, rfl⟩ := Option.map_eq_some_iff.mp hx
      rw [List.length_map] at hi
      refine ⟨rfl, _, rfl, _, rfl, z, t, st, rfl, h2 _ _ ht, sub z (List.mem_of_getElem? hz), _, h1, ?_, ?_, Same.new' h2 hD⟩
      · rw [List.length_map, List.length_replicate, sizeLine_eq]
        omega
      · rw [upd_same, List.replicate_succ', List.map_append] <;> rfl
    · rintro H3 ⟨h1, h2⟩
      rw [List.length_map] at h1
      refine ⟨y, D, ye, rfl, h2 _ _ hy, h1, nd, fun H4 s4 => ?_⟩
      refine ⟨_, rfl, rfl, _, rfl, ?_⟩
      show if (!decide (V.non = V.non)) = true then _ else _
      rw [decide_eq_true rfl]
      exact iteF (k H4 (h2.trans s4))
abbrev NCT : List Str := ["turns", "states", "right", "wrong", "turn", "fine"]
theorem scCT : FnScope NCT ["turns", "states"] (defScope sChTu) := ⟨rfl, rfl, rfl, by decide +kernel, rfl, by decide +kernel, by decide +kernel⟩
theorem ok_chtu (F : Fun K "check_turns" "check_turns" sChTu f fd) (Z : Free mg) (mT : mg "tuple" = none) (mE : mg "enumerate" = none) (mZ : mg "zip" = none) (DR : Def K mg "is_turn_of" sTurnOf ["value", "states"] fR dR) (DS : Def K mg "is_state_of" sStateOf ["value", "states"] fS dS) (DI : Def K mg "is_integer" sIsInt ["value"] fI dI) (DF : Def K mg "first_wrong" sFirst ["values", "right"] fF dF) : FnOk P w K mg base CX0 3 f fd ["turns", "states"] spChTu := by
  have GR : FnOk P w K mg base CX0 2 fR dR ["value", "states"] spTurnOf := ok_turnof DR.F Z mT DS DI
  have GF : FnOk P w K mg base CX0 1 fF dF ["values", "right"] spFirstL := ok_firstL DF.F mE
  refine F.ok scCT (fun vs H Q E h => ?_) (fun cdv A outer s H vs Q E hr h => ?_)
  · obtain ⟨y, t, as, tn, st, rfl, _⟩ := h
    rfl
  · obtain ⟨y, t, as, tn, st, rfl, hy, hT, ht, sub, nd, few, k⟩ := h
    have hr1 : Room 1 _ := hr.mono (by decide)
    have len : as.length = tn.length := by rw [hT.length, List.length_map]
    refine ⟨_, pss_cons (ps_if (pt_not (pt_val (pe_callB call_isi (by rfl) Z.isi (by decide +kernel) (pa_cons (pv 0) (pa_cons (pe_bltn (v := .ty "tuple") (u := .type "tuple") (by rfl) mT (by decide +kernel) rfl) pa_nil))))) (pss_one ps_never) pss_nil)
      (pss_cons (ps_setLc (i := 2) (own := [("turn", 4)]) (g := gName 4) (tt := tYes) rfl scCT.nd rfl rfl (sw_true rfl rfl rfl (by decide +kernel)) (pi_tup (pv 0)) (blkOk_by (N := NCT) (sc := defScope sChTu) (by decide +kernel)) (fun _ _ _ _ _ => pg_name (i := 4) scCT.nd rfl (.inl rfl)) (fun _ _ _ _ _ => pts_nil)
            (fun _ _ _ _ _ => pe_call GR hr rfl DR.g DR.kp DR.b .nil pass0 (pa_cons (pv 4) (pa_cons (pv 1) pa_nil))))
      (pss_cons (ps_set (i := 3) scCT.nd rfl (.inl rfl) (pe_call GF hr1 rfl DF.g DF.kp DF.b .nil pass0 (pa_cons
          (pe_lc (own := [("turn", 4), ("fine", 5)]) (g := gTup K 2 (gCons (gName 4) (gCons (gName 5) gNil))) (tt := tYes) rfl scCT.nd (pi_zipM (by rfl) mZ (pa_cons (pv 0) (pa_cons (pv 2) pa_nil))) (blkOk_by (N := NCT) (sc := defScope sChTu) (by decide +kernel)) (fun _ _ _ _ _ => pg_tup (by rfl) (pgs_cons (pg_name (i := 4) scCT.nd rfl (.inl rfl)) (pgs_cons (pg_name (i := 5) scCT.nd rfl (.inl rfl)) pgs_nil))) (fun _ _ _ _ _ => pts_nil)
            (fun _ _ _ _ _ => pe_ifExp (pt_val (pv 5)) (pe_ix (show IxR _ (rIxT K) from ix_tup) (pv 4) pe_int (fun _ _ => rfl)) pe_non)) (pa_cons (pv 2) pa_nil))))
      (pss_one (ps_if (pt_cmpR op_notN (pv 3) pe_non (nomark _)) (pss_one ps_never) pss_nil)))), ?_⟩
    refine ⟨_, rfl, _, _, .type "tuple", .type "tuple", true, rfl, .ty "tuple", .base (.tup hy), kit_ty (by decide +kernel), true, rfl, ?_⟩
    refine ⟨_, rfl, y, rfl, ⟨_, SqT.of hy⟩, fun D hD => lc_it (walk_tup (xs := as.map V.ref)) (fun i H3 => H3 D = some (.lst ((List.replicate i true).map V.bl)) ∧ Same H H3) ⟨upd_same, Same.put (Same.refl H) hD⟩ (fun _ _ _ h => SqT.of (h.2 _ _ hy)) ?_ ?_⟩
    · rintro i x H3 H3' hi ⟨h1, h2⟩ ⟨rfl, hx⟩
      rw [List.getElem?_map] at hx
      obtain ⟨r, hz, rfl⟩ := Option.map_eq_some_iff.mp hx
      rw [List.length_map] at hi
      have hi' : i < tn.length := by omega
      have hr' : tn[i]? = some tn[i] := List.getElem?_eq_getElem hi'
      have hv := (hT.same h2).get hz (by rw [List.getElem?_map, hr'] <;> rfl)
      obtain ⟨m1, m2⟩ := sub tn[i] (List.getElem_mem hi')
      refine ⟨rfl, _, rfl, _, rfl, r, t, st, _, _, _, rfl, hv, h2 _ _ ht, m1, m2, _, h1, ?_, ?_, Same.new' h2 hD⟩
      · rw [List.length_map, List.length_replicate, sizeLine_eq]
        omega
      · rw [upd_same, List.replicate_succ', List.map_append] <;> rfl
    · rintro H3 ⟨h1, h2⟩
      rw [List.length_map] at h1
      have hy3 := h2 _ _ hy
      have hT3 := hT.same h2
      refine ⟨_, rfl, _, rfl, y, D, _, _, rfl, SqT.of hy3, SqL.of h1, fun D2 hD2 => lc_it (walk_zipM (n := tn.length) (xs := as.map V.ref) (ys := (List.replicate as.length true).map V.bl) (by rw [List.length_map, List.length_map, List.length_replicate]; omega)) (fun i H4 => H4 D2 = some (.lst (((tn.take i).map Trn.a).map V.str)) ∧ Same H3 H4) ⟨upd_same, Same.put (Same.refl H3) hD2⟩ (fun _ _ _ h => ⟨SqT.of (h.2 _ _ hy3), SqL.of (h.2 _ _ h1)⟩) ?_ ?_⟩
      · rintro i x H4 H5 hi ⟨g1, g2⟩ ⟨T, a, b, rfl, nT, rfl, ea, eb⟩
        dsimp only at ea eb
        rw [List.getElem?_map] at ea
        obtain ⟨r, hz, rfl⟩ := Option.map_eq_some_iff.mp ea
        rw [List.getElem?_map, List.getElem?_replicate, if_pos (by omega)] at eb
        cases eb
        have hr' : tn[i]? = some tn[i] := List.getElem?_eq_getElem hi
        have sT := Same.put (o := .tup [.ref r, .bl true]) g2 nT
        have hv := (hT3.same sT).get hz (by rw [List.getElem?_map, hr'] <;> rfl)
        have nDT : D2 ≠ T := ne_of_none g1 nT
        refine ⟨T, _, rfl, SqT.of upd_same, rfl, _, _, rfl, _, _, rfl, rfl, ?_⟩
        have e1 : ((tn.take i).map Trn.a).map V.str ++ [V.str tn[i].a] = ((tn.take (i + 1)).map Trn.a).map V.str := by
          rw [List.take_succ, hr', List.map_append, List.map_append] <;> rfl
        refine ⟨rfl, _, rfl, true, rfl, _, rfl, _, _, _, _, rfl, rfl, SqT.of hv, atI_nat (j := 0) rfl, _, (upd_ne nDT).trans g1, ?_, ?_, Same.new' sT hD2⟩
        · rw [List.length_map, List.length_map, List.length_take, sizeLine_eq]
          omega
        · rw [upd_same]
          exact congrArg (fun z => some (HO.lst z)) e1
      · rintro H4 ⟨g1, g2⟩
        rw [List.take_length] at g1
        refine ⟨_, rfl, D2, D, tn.map Trn.a, rfl, g1, ?_, nd, fun H5 s5 => ?_⟩
        · rw [List.length_map, ← len]
          exact g2 _ _ h1
        refine ⟨_, rfl, rfl, _, rfl, ?_⟩
        show if (!decide (V.non = V.non)) = true then _ else _
        rw [decide_eq_true rfl]
        exact iteF (k H5 ((h2.trans g2).trans s5))
end
end Wb
/-! the rows of a loop, checked -/
namespace Wb
open PySem L2 WbMin WbS Lz
theorem Tups.upd {H : Hp} {D : Addr} {o : HO} : ∀ {as : List Addr} {xs : List (List V)}, (∀ c ∈ as, c ≠ D) → Tups H as xs → Tups (L2.upd H D o) as xs
  | [], [], _, _ => trivial
  | a :: as, _ :: _, n, h => ⟨(upd_ne (n a List.mem_cons_self)).trans h.1, Tups.upd (fun c q => n c (List.mem_cons_of_mem _ q)) h.2⟩
  | [], _ :: _, _, h => h.elim
  | _ :: _, [], _, h => h.elim
section
variable {P : Program} {w : World} {K : PySem.W.Frag} {mg : Str → Option Value} {base : Heap} {f fN fF fS fO fI fR : Addr} {fd dN dF dS dO dI dR : FuncData}
abbrev NCR : List Str := ["rows", "signs", "states", "right", "wrong", "row", "fine"]
theorem scCR : FnScope NCR ["rows", "signs", "states"] (defScope sChRo) := ⟨rfl, rfl, rfl, by decide +kernel, rfl, by decide +kernel, by decide +kernel⟩
theorem ok_chro (F : Fun K "check_rows" "check_rows" sChRo f fd) (Z : Free mg) (mT : mg "tuple" = none) (mE : mg "enumerate" = none) (mZ : mg "zip" = none) (DR : Def K mg "is_row_of" sRowOf ["value", "signs", "states"] fR dR) (DS : Def K mg "is_state_of" sStateOf ["value", "states"] fS dS) (DO : Def K mg "is_sign_of" sSignOf ["value", "signs"] fO dO) (DI : Def K mg "is_integer" sIsInt ["value"] fI dI) (DF : Def K mg "first_wrong" sFirst ["values", "right"] fF dF) : FnOk P w K mg base CX0 3 f fd ["rows", "signs", "states"] spChRo := by
  have GR : FnOk P w K mg base CX0 2 fR dR ["value", "signs", "states"] spRowOf := ok_rowof DR.F Z mT DS DO DI
  have GF : FnOk P w K mg base CX0 1 fF dF ["values", "right"] spFirstP := ok_firstP DF.F mE
  refine F.ok scCR (fun vs H Q E h => ?_) (fun cdv A outer s H vs Q E hr h => ?_)
  · obtain ⟨y, t, sg, as, tn, st, rfl, _⟩ := h
    rfl
  · obtain ⟨y, t, sg, as, tn, st, rfl, hy, hT, ht, sub, nd, oks, fs, fst, lenR, k⟩ := h
    have hr1 : Room 1 _ := hr.mono (by decide)
    have len : as.length = tn.length := by rw [hT.length, List.length_map]
    have small : tn.length ≤ 24 := by rw [lenR]; exact Nat.mul_le_mul fs fst
    refine ⟨_, pss_cons (ps_if (pt_not (pt_val (pe_callB call_isi (by rfl) Z.isi (by decide +kernel) (pa_cons (pv 0) (pa_cons (pe_bltn (v := .ty "tuple") (u := .type "tuple") (by rfl) mT (by decide +kernel) rfl) pa_nil))))) (pss_one ps_never) pss_nil)
      (pss_cons (ps_setLc (i := 3) (own := [("row", 5)]) (g := gName 5) (tt := tYes) rfl scCR.nd rfl rfl (sw_true rfl rfl rfl (by decide +kernel)) (pi_tup (pv 0)) (blkOk_by (N := NCR) (sc := defScope sChRo) (by decide +kernel)) (fun _ _ _ _ _ => pg_name (i := 5) scCR.nd rfl (.inl rfl)) (fun _ _ _ _ _ => pts_nil)
            (fun _ _ _ _ _ => pe_call GR hr rfl DR.g DR.kp DR.b .nil pass0 (pa_cons (pv 5) (pa_cons (pv 1) (pa_cons (pv 2) pa_nil)))))
      (pss_cons (ps_set (i := 4) scCR.nd rfl (.inl rfl) (pe_call GF hr1 rfl DF.g DF.kp DF.b .nil pass0 (pa_cons
          (pe_lc (own := [("row", 5), ("fine", 6)]) (g := gTup K 2 (gCons (gName 5) (gCons (gName 6) gNil))) (tt := tYes) rfl scCR.nd (pi_zipM (by rfl) mZ (pa_cons (pv 0) (pa_cons (pv 3) pa_nil))) (blkOk_by (N := NCR) (sc := defScope sChRo) (by decide +kernel)) (fun _ _ _ _ _ => pg_tup (by rfl) (pgs_cons (pg_name (i := 5) scCR.nd rfl (.inl rfl)) (pgs_cons (pg_name (i := 6) scCR.nd rfl (.inl rfl)) pgs_nil))) (fun _ _ _ _ _ => pts_nil)
            (fun _ _ _ _ _ => pe_ifExp (pt_val (pv 6)) (pe_slice (show SlR _ (rSlT K) from sl_tup) (pv 5) po_none (po_some pe_int)) pe_non)) (pa_cons (pv 3) pa_nil))))
      (pss_cons (ps_if (pt_cmpR op_notN (pv 4) pe_non (nomark _)) (pss_one ps_never) pss_nil)
      (pss_one (ps_if (pt_cmpR op_lt (pe_callB call_len_seq (by rfl) Z.len PySem.boot_len (pa_cons (pv 0) pa_nil)) (pe_op op_mul (pe_callB call_len_str (by rfl) Z.len PySem.boot_len (pa_cons (pv 1) pa_nil)) (pe_callB call_len_seq (by rfl) Z.len PySem.boot_len (pa_cons (pv 2) pa_nil))) (nomark _)) (pss_one ps_never) pss_nil))))), ?_⟩
    refine ⟨_, rfl, _, _, .type "tuple", .type "tuple", true, rfl, .ty "tuple", .base (.tup hy), kit_ty (by decide +kernel), true, rfl, ?_⟩
    refine ⟨_, rfl, y, rfl, ⟨_, SqT.of hy⟩, fun D hD => lc_it (walk_tup (xs := as.map V.ref)) (fun i H3 => H3 D = some (.lst ((List.replicate i true).map V.bl)) ∧ Same H H3) ⟨upd_same, Same.put (Same.refl H) hD⟩ (fun _ _ _ h => SqT.of (h.2 _ _ hy)) ?_ ?_⟩
    · rintro i x H3 H3' hi ⟨h1, h2⟩ ⟨rfl, hx⟩
      rw [List.getElem?_map] at hx
      obtain ⟨r, hz, rfl⟩ := Option.map_eq_some_iff.mp hx
      rw [List.length_map] at hi
      have hi' : i < tn.length := by omega
      have hr' : tn[i]? = some tn[i] := List.getElem?_eq_getElem hi'
      have hv := (hT.same h2).get hz (by rw [List.getElem?_map, hr'] <;> rfl)
      obtain ⟨m1, m2, m3⟩ := sub tn[i] (List.getElem_mem hi')
      refine ⟨rfl, _, rfl, _, rfl, _, rfl, r, t, sg, st, _, _, _, _, rfl, hv, h2 _ _ ht, m1, m3, m2, _, h1, ?_, ?_, Same.new' h2 hD⟩
      · rw [List.length_map, List.length_replicate, sizeLine_eq]
        omega
      · rw [upd_same, List.replicate_succ', List.map_append] <;> rfl
    · rintro H3 ⟨h1, h2⟩
      rw [List.length_map] at h1
      have hy3 := h2 _ _ hy
      have hT3 := hT.same h2
      refine ⟨_, rfl, _, rfl, y, D, _, _, rfl, SqT.of hy3, SqL.of h1, fun D2 hD2 => lc_it (walk_zipM (n := tn.length) (xs := as.map V.ref) (ys := (List.replicate as.length true).map V.bl) (by rw [List.length_map, List.length_map, List.length_replicate]; omega)) (fun i H4 => ∃ bs : List Addr, H4 D2 = some (.lst (bs.map V.ref)) ∧ Tups H4 bs (((tn.take i).map Row.k).map pV) ∧ (∀ c ∈ bs, c ≠ D2) ∧ Same H3 H4) ⟨[], upd_same, trivial, (fun _ q => nomatch q), Same.put (Same.refl H3) hD2⟩ (fun _ _ _ h => by obtain ⟨_, _, _, _, h⟩ := h; exact ⟨SqT.of (h _ _ hy3), SqL.of (h _ _ h1)⟩) ?_ ?_⟩
      · rintro i x H4 H5 hi ⟨bs, g1, g3, g4, g2⟩ ⟨T, a, b, rfl, nT, rfl, ea, eb⟩
        dsimp only at ea eb
        rw [List.getElem?_map] at ea
        obtain ⟨r, hz, rfl⟩ := Option.map_eq_some_iff.mp ea
        rw [List.getElem?_map, List.getElem?_replicate, if_pos (by omega)] at eb
        cases eb
        have hr' : tn[i]? = some tn[i] := List.getElem?_eq_getElem hi
        have s0 := Same.put (o := .tup [.ref r, .bl true]) (Same.refl H4) nT
        have sT := g2.trans s0
        have hv := (hT3.same sT).get hz (by rw [List.getElem?_map, hr'] <;> rfl)
        have lb : bs.length = i := by rw [g3.length, List.length_map, List.length_map, List.length_take]; omega
        refine ⟨T, _, rfl, SqT.of upd_same, rfl, _, _, rfl, _, _, rfl, rfl, ?_⟩
        refine ⟨rfl, _, rfl, true, rfl, _, rfl, _, rfl, r, _, rfl, SqT.of hv, fun q => absurd (show HT.sIx 4 4 (some 2) = 4 from q.2) (by decide), fun u hu => ?_⟩
        have s5 := Same.put (o := .tup (cutV (Row.v tn[i]) none (some 2))) s0 hu
        refine ⟨_, s5 _ _ g1, ?_, bs ++ [u], ?_, ?_, ?_, ?_⟩
        · rw [List.length_map, sizeLine_eq]
          omega
        · rw [upd_same, List.map_append] <;> rfl
        · have e1 : ((tn.take (i + 1)).map Row.k).map pV = ((tn.take i).map Row.k).map pV ++ [pV tn[i].k] := by
            rw [List.take_add_one, hr', List.map_append, List.map_append] <;> rfl
          rw [e1]
          have nu : u ≠ D2 := fun z => ne_of_none (s0 _ _ g1) hu z.symm
          have n2 : ∀ c ∈ bs ++ [u], c ≠ D2 := fun c hc => (List.mem_append.mp hc).elim (g4 c) fun q => by rw [List.mem_singleton.mp q]; exact nu
          exact Tups.upd n2 (Tups.snoc upd_same (g3.same s5))
        · intro c hc
          exact (List.mem_append.mp hc).elim (g4 c) fun q z => ne_of_none (s0 _ _ g1) hu (((List.mem_singleton.mp q).symm.trans z).symm)
        · exact Same.new' (g2.trans s5) hD2
      · rintro H4 ⟨bs, g1, g3, g4, g2⟩
        rw [List.take_length] at g3
        have ht4 := (h2.trans g2) _ _ ht
        refine ⟨_, rfl, D2, D, bs, tn.map Row.k, rfl, g1, g3, ?_, nd, ?_, fun H5 s5 => ?_⟩
        · rw [List.length_map, ← len]
          exact g2 _ _ h1
        · intro p hp
          obtain ⟨r, hr5, rfl⟩ := List.mem_map.mp hp
          exact oks r hr5
        refine ⟨_, rfl, rfl, _, rfl, ?_⟩
        show if (!decide (V.non = V.non)) = true then _ else _
        rw [decide_eq_true rfl]
        refine iteF ?_
        have s6 := (h2.trans g2).trans s5
        have fitS : (S sg).length ≤ sizeLine := by rw [S_len, sizeLine_eq]; omega
        refine ⟨_, rfl, y, _, rfl, .inr (SqT.of (s6 _ _ hy)), _, rfl, _, rfl, fitS, _, rfl, t, _, rfl, .inr (SqT.of (s6 _ _ ht)), _, _, rfl, rfl, .inl ?_, _, _, rfl, rfl, _, rfl, ifn ?_ (k H5 s6)⟩
        · rw [S_len]
          omega
        · rw [S_len, List.length_map, List.length_map, len, lenR]
          push_cast
          omega
end
end Wb
/-! the parts of a loop, put in order -/
namespace Wb
open PySem L2 WbMin WbS Lz
abbrev sOrRo : Stmt := top 36
abbrev sOrTu : Stmt := top 37
abbrev sOrYe : Stmt := top 38
section
variable {κ : Type} [DecidableEq κ]
theorem valV_zip_none : ∀ {ks : List κ} {vs : List V} {k : κ}, k ∉ ks → valV (ks.zip vs) k = none
  | [], _, _, _ => rfl
  | _ :: _, [], _, _ => rfl
  | a :: ks, v :: vs, k, h => by
    rw [List.zip_cons_cons, valV_neg (fun e => h (by rw [← e]; exact List.mem_cons_self))]
    exact valV_zip_none fun q => h (List.mem_cons_of_mem _ q)
theorem valV_zip_get : ∀ {ks : List κ} {vs : List V} {i : Nat} {k : κ} {v : V}, ks.Nodup → ks[i]? = some k → vs[i]? = some v → valV (ks.zip vs) k = some v
  | [], _, _, _, _, _, h, _ => nomatch h
  | _ :: _, [], _, _, _, _, _, h => nomatch h
  | a :: ks, v :: vs, 0, k, w, _, h, e => by
    cases h
    cases e
    rw [List.zip_cons_cons, valV_pos rfl]
  | a :: ks, v :: vs, i + 1, k, w, nd, h, e => by
    have n := List.nodup_cons.mp nd
    rw [List.zip_cons_cons, valV_neg (fun z => n.1 (by rw [show a = k from z]; exact List.mem_of_getElem? h))]
    exact valV_zip_get n.2 h e
theorem putK_zip {ks : List κ} {vs : List V} {k : κ} {v : V} (h : k ∉ ks) (l : ks.length = vs.length) : putK (ks.zip vs) k v = (ks ++ [k]).zip (vs ++ [v]) := by
  rw [putK_new v (valV_zip_none h), List.zip_append l] <;> rfl
end
theorem un2 {k : Nat} {A : Around} (r : Room k A) : A.units + 1 < cLine := by have := r.un; omega
/-- keys of a dict -/
def kk (p : Str × Str) : List Key := [.inr p.1, .inr p.2]
theorem kk_inj {p q : Str × Str} (h : kk p = kk q) : p = q := by
  cases p
  cases q
  injection h with h1 h2
  injection h2 with h2 _
  injection h1 with h1
  injection h2 with h2
  dsimp only at h1 h2
  subst h1
  subst h2
  rfl
theorem nodup_kk {ps : List (Str × Str)} (h : ps.Nodup) : (ps.map kk).Nodup := List.Pairwise.map _ (fun _ _ n e => n (kk_inj e)) h
theorem it_go {J : It} {n : Nat} {G : Hp → Prop} {Y : Nat → Hp → V → Hp → Prop} (w : Walk J n G Y) (Pv : Nat → Hp → Prop) {H0 : Hp} {Qd : Hp → Prop} {body : V → Hp → (Hp → Prop) → Prop} (h0 : Pv 0 H0) (hl : ∀ i H, i ≤ n → Pv i H → G H)
    (hs : ∀ i x H H', i < n → Pv i H → Y i H x H' → body x H' (Pv (i + 1))) (hd : ∀ H, Pv n H → Qd H) :
    ∃ W : Nat → Nat → Hp → Prop, (∃ m, W 0 m H0) ∧ ∀ i m H, W i m H → (J.stop i H ∧ Qd H) ∨ (J.go i H ∧ ∃ Nx : Hp → Prop, (∀ H', Nx H' → ∃ m', m' < m ∧ W (i + 1) m' H') ∧ ∀ x H', J.yld i H x H' → body x H' Nx) := by
  refine ⟨fun i m H => m = n - i ∧ i ≤ n ∧ Pv i H, ⟨n, by simp, Nat.zero_le _, h0⟩, ?_⟩
  rintro i m H ⟨rfl, hi, p⟩
  have q := hl i H hi p
  by_cases hlt : i < n
  · exact .inr ⟨w.goes i H hlt q, Pv (i + 1), fun H' p' => ⟨n - (i + 1), by omega, rfl, hlt, p'⟩, fun x H' y => hs i x H H' hlt p (w.yields i H x H' hlt q y)⟩
  · have e : i = n := by omega
    subst e
    exact .inl ⟨w.stops H q, hd H p⟩
theorem none_of_same {H H' : Hp} {l : Addr} (s : Same H H') (n : H' l = none) : H l = none := by
  cases e : H l with
  | none => rfl
  | some o =>
    rw [s _ _ e] at n
    cases n
theorem not_taken {α β : Type} [DecidableEq α] {f : α → β} (inj : ∀ {a b}, f a = f b → a = b) {l : List α} {i : Nat} {x : α} (nd : l.Nodup) (h : l[i]? = some x) : f x ∉ (l.take i).map f := fun m => by
  obtain ⟨q, hq, e⟩ := List.mem_map.mp m
  exact take_nd nd h (inj e ▸ hq)
theorem take_snoc_map {α β : Type} {f : α → β} {l : List α} {i : Nat} {x : α} (h : l[i]? = some x) : (l.take (i + 1)).map f = (l.take i).map f ++ [f x] := by
  rw [List.take_add_one, h, List.map_append] <;> rfl
/-- bs: the rows by state and sign -/
def RowsBy (st : List Str) (sg : List Nat) (ks : List (Str × Str)) (as bs : List Addr) : Prop := bs.length = st.length * sg.length ∧
  ∀ (i j : Nat) (z : Str) (c : Nat), st[i]? = some z → sg[j]? = some c → ∃ (m : Nat) (a : Addr), ks[m]? = some (z, S [c]) ∧ as[m]? = some a ∧ bs[i * sg.length + j]? = some a
def spOrRo : Sp := fun vs H Q _ => ∃ (y t : Addr) (sg : List Nat) (as bs : List Addr) (rw : List Row) (st : List Str), vs = [.ref y, .str (S sg), .ref t] ∧ H y = some (.tup (as.map V.ref)) ∧ Tups H as (rw.map Row.v) ∧ H t = some (.tup (st.map V.str)) ∧ (rw.map Row.k).Nodup ∧ rw.length ≤ 24 ∧
  RowsBy st sg (rw.map Row.k) as bs ∧ bs.length ≤ 24 ∧ ∀ r H', H r = none → Same H H' → H' r = some (.tup (bs.map V.ref)) → Q (.ref r) H'
section
variable {P : Program} {w : World} {K : PySem.W.Frag} {mg : Str → Option Value} {base : Heap} {f : Addr} {fd : FuncData}
abbrev NOR : List Str := ["rows", "signs", "states", "found", "row", "state", "sign"]
theorem scOR : FnScope NOR ["rows", "signs", "states"] (defScope sOrRo) := ⟨rfl, rfl, rfl, by decide +kernel, rfl, by decide +kernel, by decide +kernel⟩
set_option maxHeartbeats 0 in
theorem ok_orro (F : Fun K "ordered_rows" "ordered_rows" sOrRo f fd) (mT : mg "tuple" = none) : FnOk P w K mg base CX0 1 f fd ["rows", "signs", "states"] spOrRo := by
  refine F.ok scOR (fun vs H Q E h => ?_) (fun cdv A outer s H vs Q E hr h => ?_)
  · obtain ⟨y, t, sg, as, bs, rw, st, rfl, _⟩ := h
    rfl
  · obtain ⟨y, t, sg, as, bs, tn, st, rfl, hy, hT, ht, nd, small, R, bl, k⟩ := h
    have len : as.length = tn.length := by rw [hT.length, List.length_map]
    refine ⟨_, pss_cons (ps_set (i := 3) scOR.nd rfl (.inr rfl) (pe_dcT (own := [("row", 4)]) (g := gName 4) (tt := tYes) rfl (un2 hr) scOR.nd (pi_tup (pv 0)) (blkOk_by (N := NOR) (sc := defScope sOrRo) (by decide +kernel)) (fun _ _ _ _ _ => pg_name (i := 4) scOR.nd rfl (.inl rfl)) (fun _ _ _ _ _ => pts_nil)
        (fun _ _ _ _ _ => pe_slice (show SlR _ (rSlT K) from sl_tup) (pv 4) po_none (po_some pe_int)) (fun _ _ _ _ _ => pv 4)))
      (pss_one (ps_ret (pe_callTy call_tuple_of (by rfl) mT (by decide +kernel) (pa_cons
      (pe_lc2 (own := [("state", 5), ("sign", 6)]) (vs1 := [6]) (g := gName 5) (g1 := gName 6) (tt := tYes) (tt1 := tYes) rfl scOR.nd (pi_tup (pv 2)) (blkOk_by (N := NOR) (sc := defScope sOrRo) (by decide +kernel)) (by decide) (fun _ _ _ _ _ => pg_name (i := 5) scOR.nd rfl (.inl rfl)) (fun _ _ _ _ _ => pts_nil)
        (fun _ _ _ _ _ => pi_str (pv 1)) (fun _ _ _ _ _ => pg_name (i := 6) scOR.nd rfl (.inl rfl)) (fun _ _ _ _ _ => pts_nil) (fun _ _ _ _ _ => pe_dget (un2 hr) (pv 3) (pe_tup (pa_cons (pv 5) (pa_cons (pv 6) pa_nil))) (fun _ _ => rfl))) pa_nil)))), ?_⟩
    refine ⟨_, rfl, y, rfl, ⟨_, SqT.of hy⟩, fun D hD => dt_it (walk_tup (xs := as.map V.ref)) (fun i H3 => H3 D = some (.dT ((((tn.map Row.k).take i).map kk).zip ((as.take i).map V.ref))) ∧ Same H H3) ⟨upd_same, Same.put (Same.refl H) hD⟩ (fun _ _ _ h => SqT.of (h.2 _ _ hy)) ?_ ?_⟩
    · rintro i x H3 H3' hi ⟨h1, h2⟩ ⟨rfl, hx⟩
      rw [List.getElem?_map] at hx
      obtain ⟨r, hz, rfl⟩ := Option.map_eq_some_iff.mp hx
      rw [List.length_map] at hi
      have hi' : i < tn.length := by omega
      have hr' : tn[i]? = some tn[i] := List.getElem?_eq_getElem hi'
      have hk' : (tn.map Row.k)[i]? = some tn[i].k := by rw [List.getElem?_map, hr'] <;> rfl
      have hv := (hT.same h2).get hz (by rw [List.getElem?_map, hr'] <;> rfl)
      have lz : (((tn.map Row.k).take i).map kk).length = ((as.take i).map V.ref).length := by
        rw [List.length_map, List.length_map, List.length_take, List.length_take, List.length_map, len]
      refine ⟨rfl, _, rfl, _, rfl, r, _, rfl, SqT.of hv, fun q => absurd (show HT.sIx 4 4 (some 2) = 4 from q.2) (by decide), fun u hu => ?_⟩
      have s5 := Same.put (o := .tup (cutV (Row.v tn[i]) none (some 2))) (Same.refl H3') hu
      refine ⟨_, rfl, _, kk tn[i].k, u, rfl, upd_same, s5 _ _ h1, ?_, ?_, Same.new' (h2.trans s5) hD⟩
      · rw [List.length_zip, List.length_map, List.length_map, List.length_take, List.length_take, sizeLine_eq]
        omega
      · rw [upd_same, putK_zip (not_taken kk_inj nd hk') lz, take_snoc_map hk', take_snoc_map hz]
    · rintro H3 ⟨h1, h2⟩
      rw [List.length_map, List.take_length, List.take_of_length_le (by rw [List.length_map]; omega)] at h1
      have ht3 := h2 _ _ ht
      obtain ⟨lb, R⟩ := R
      refine ⟨_, rfl, t, rfl, ⟨_, SqT.of ht3⟩, fun D2 hD2 => it_go (walk_tup (xs := st.map V.str)) (fun i H4 => H4 D2 = some (.lst ((bs.take (i * sg.length)).map V.ref)) ∧ Same H3 H4) ⟨by rw [Nat.zero_mul]; exact upd_same, Same.put (Same.refl H3) hD2⟩ (fun _ _ _ h => SqT.of (h.2 _ _ ht3)) ?_ ?_⟩
      · rintro i x H4 H4' hi ⟨g1, g2⟩ ⟨rfl, hx⟩
        rw [List.getElem?_map] at hx
        obtain ⟨z, hz, rfl⟩ := Option.map_eq_some_iff.mp hx
        refine ⟨rfl, _, rfl, _, rfl, it_go walk_str (fun j H5 => H5 D2 = some (.lst ((bs.take (i * sg.length + j)).map V.ref)) ∧ Same H3 H5) ⟨g1, g2⟩ (fun _ _ _ _ => trivial) ?_ ?_⟩
        · rintro j x H5 H5' hj ⟨e1, e2⟩ ⟨rfl, c, hc, rfl⟩
          have hc' : sg[j]? = some c := by simpa [S] using hc
          obtain ⟨m, a, m1, m2, m3⟩ := R i j z c hz hc'
          have val : valV (((tn.map Row.k).map kk).zip (as.map V.ref)) (kk (z, S [c])) = some (.ref a) := valV_zip_get (nodup_kk nd) (by rw [List.getElem?_map, m1] <;> rfl) (by rw [List.getElem?_map, m2] <;> rfl)
          refine ⟨rfl, _, rfl, _, rfl, _, rfl, (by rw [sizeLine_eq]; show 2 ≤ _; decide), fun u hu => ?_⟩
          have s6 := Same.put (o := .tup [.str z, .str (S [c])]) (Same.refl H5') hu
          refine ⟨D, .ref a, rfl, val ▸ DGet.t (k := kk (z, S [c])) ((e2.trans s6) _ _ h1) upd_same, ?_⟩
          refine ⟨_, s6 _ _ e1, ?_, ?_, Same.new' (e2.trans s6) hD2⟩
          · rw [List.length_map, sizeLine_eq]
            have := List.length_take_le' (i * sg.length + j) bs
            omega
          · rw [upd_same, ← Nat.add_assoc, take_snoc_map m3]
        · rintro H5 ⟨e1, e2⟩
          rw [S_size] at e1
          refine ⟨?_, e2⟩
          rw [e1, Nat.add_mul, Nat.one_mul]
      · rintro H4 ⟨g1, g2⟩
        rw [List.length_map, List.take_of_length_le (by rw [lb]; exact Nat.le_refl _)] at g1
        exact ⟨D2, _, rfl, .inl ⟨SqL.of g1, fun l hl => k l _ (none_of_same (h2.trans g2) hl) (Same.put (h2.trans g2) hl) upd_same⟩⟩
end
end Wb
/-! turns and yes states, put in order -/
namespace Wb
open PySem L2 WbMin WbS Lz
theorem dc_it {J : It} {n : Nat} {G : Hp → Prop} {Y : Nat → Hp → V → Hp → Prop} (w : Walk J n G Y) {g : TG} {tt : TT} {tk tv : TE} {vs : List Nat} {σ : L2.St} {H1 : Hp} {D : Addr} {Qd : Hp → Prop} (Pv : Nat → Hp → Prop) (h0 : Pv 0 (L2.upd H1 D (.dK []))) (hG : ∀ i H, i ≤ n → Pv i H → G H)
    (hs : ∀ i x H H', i < n → Pv i H → Y i H x H' → g x (wipe σ vs) H' fun σ2 H2 => wipe σ2 vs = wipe σ vs ∧ tt σ2 H2 fun b H3 =>
      if b = true then tk σ2 H3 fun y H4 => tv σ2 H4 fun z H5 => ∃ kvs k, y = kV k ∧ H5 D = some (.dK kvs) ∧ kvs.length < sizeLine ∧ Pv (i + 1) (L2.upd H5 D (.dK (putK kvs k z))) else Pv (i + 1) H3) (hd : ∀ H, Pv n H → Qd H) :
    ∃ W : Nat → Nat → Hp → Prop, (∃ m, W 0 m (L2.upd H1 D (.dK []))) ∧ ∀ i m H, W i m H →
      (J.stop i H ∧ Qd H) ∨ (J.go i H ∧ ∃ Nx : Hp → Prop, (∀ H', Nx H' → ∃ m', m' < m ∧ W (i + 1) m' H') ∧ ∀ x H', J.yld i H x H' → g x (wipe σ vs) H' fun σ2 H2 => wipe σ2 vs = wipe σ vs ∧ tt σ2 H2 fun b H3 =>
        if b = true then tk σ2 H3 fun y H4 => tv σ2 H4 fun z H5 => ∃ kvs k, y = kV k ∧ H5 D = some (.dK kvs) ∧ kvs.length < sizeLine ∧ Nx (L2.upd H5 D (.dK (putK kvs k z))) else Nx H3) := by
  refine ⟨fun i m H => m = n - i ∧ i ≤ n ∧ Pv i H, ⟨n, by simp, Nat.zero_le _, h0⟩, ?_⟩
  rintro i m H ⟨rfl, hi, p⟩
  by_cases lt : i < n
  · exact .inr ⟨w.goes i H lt (hG i H hi p), Pv (i + 1), fun H' p' => ⟨n - (i + 1), by omega, rfl, lt, p'⟩, fun x H' y => hs i x H H' lt p (w.yields i H x H' lt (hG i H hi p) y)⟩
  · have e : i = n := by omega
    subst e
    exact .inl ⟨w.stops H (hG _ H hi p), hd H p⟩
/-- the key that a text is -/
def k1 (z : Str) : Key := .inr z
theorem k1_inj {p q : Str} (h : k1 p = k1 q) : p = q := by
  injection h
theorem nodup_k1 {ps : List Str} (h : ps.Nodup) : (ps.map k1).Nodup := List.Pairwise.map _ (fun _ _ n e => n (k1_inj e)) h
/-- the turn of a state -/
def turnOf (tn : List Trn) (z : Str) : Trn := (tn.find? fun r => decide (r.a = z)).getD ⟨z, z, 0⟩
theorem turnOf_at {tn : List Trn} (nd : (tn.map Trn.a).Nodup) {i : Nat} {r : Trn} (h : tn[i]? = some r) : turnOf tn r.a = r := by
  unfold turnOf
  induction tn generalizing i with
  | nil => cases h
  | cons q tn ih =>
    have n := List.nodup_cons.mp (show (q.a :: tn.map Trn.a).Nodup from nd)
    cases i with
    | zero =>
      cases h
      rw [List.find?_cons_of_pos (by simp)] <;> rfl
    | succ i =>
      rw [List.find?_cons_of_neg]
      · exact ih n.2 h
      · intro e
        exact n.1 (by rw [of_decide_eq_true e]; exact List.mem_map_of_mem (List.mem_of_getElem? h))
def spOrTu : Sp := fun vs H Q _ => ∃ (y t : Addr) (as : List Addr) (tn : List Trn) (st : List Str), vs = [.ref y, .ref t] ∧ H y = some (.tup (as.map V.ref)) ∧ Tups H as (tn.map Trn.v) ∧ H t = some (.tup (st.map V.str)) ∧ (tn.map Trn.a).Nodup ∧ tn.length ≤ 6 ∧ st.length ≤ 6 ∧
  ∀ r bs H', H r = none → Same H H' → H' r = some (.tup (bs.map V.ref)) → Tups H' bs ((st.map (turnOf tn)).map Trn.v) → Q (.ref r) H'
def spOrYe : Sp := fun vs H Q _ => ∃ (y t : Addr) (ye st : List Str), vs = [.ref y, .ref t] ∧ H y = some (.tup (ye.map V.str)) ∧ H t = some (.tup (st.map V.str)) ∧ st.length ≤ 6 ∧
  ∀ r H', H r = none → Same H H' → H' r = some (.tup ((st.filter fun z => decide (z ∈ ye)).map V.str)) → Q (.ref r) H'
section
variable {P : Program} {w : World} {K : PySem.W.Frag} {mg : Str → Option Value} {base : Heap} {f : Addr} {fd : FuncData}
abbrev NOY : List Str := ["yes", "states", "state"]
theorem scOY : FnScope NOY ["yes", "states"] (defScope sOrYe) := ⟨rfl, rfl, rfl, by decide +kernel, rfl, by decide +kernel, by decide +kernel⟩
theorem ok_orye (F : Fun K "ordered_yes" "ordered_yes" sOrYe f fd) (mT : mg "tuple" = none) : FnOk P w K mg base CX0 1 f fd ["yes", "states"] spOrYe := by
  refine F.ok scOY (fun vs H Q E h => ?_) (fun cdv A outer s H vs Q E hr h => ?_)
  · obtain ⟨y, t, ye, st, rfl, _⟩ := h
    rfl
  · obtain ⟨y, t, ye, st, rfl, hy, ht, few, k⟩ := h
    refine ⟨_, pss_one (ps_ret (pe_callTy call_tuple_of (by rfl) mT (by decide +kernel) (pa_cons
      (pe_lc (own := [("state", 2)]) (g := gName 2) rfl scOY.nd (pi_tup (pv 1)) (blkOk_by (N := NOY) (sc := defScope sOrYe) (by decide +kernel)) (fun _ _ _ _ _ => pg_name (i := 2) scOY.nd rfl (.inl rfl)) (fun _ _ _ _ _ => pts_one (pt_cmpR (show OpR _ _ (rIn K false) from op_in_seq) (pv 2) (pv 0) (by rfl)))
        (fun _ _ _ _ _ => pv 2)) pa_nil))), ?_⟩
    refine ⟨_, rfl, t, rfl, ⟨_, SqT.of ht⟩, fun D hD => lc_it (walk_tup (xs := st.map V.str)) (fun i H3 => H3 D = some (.lst (((st.take i).filter fun z => decide (z ∈ ye)).map V.str)) ∧ Same H H3) ⟨upd_same, Same.put (Same.refl H) hD⟩ (fun _ _ _ h => SqT.of (h.2 _ _ ht)) ?_ ?_⟩
    · rintro i x H3 H3' hi ⟨h1, h2⟩ ⟨rfl, hx⟩
      rw [List.getElem?_map] at hx
      obtain ⟨z, hz, rfl⟩ := Option.map_eq_some_iff.mp hx
      refine ⟨rfl, _, rfl, _, rfl, y, _, rfl, .inr (SqT.of (h2 _ _ hy)), rfl, flat_strs _, _, rfl, ?_⟩
      rw [show inV (.str z) (ye.map V.str) = decide (z ∈ ye) from inV_strs z ye]
      refine ite2 (fun q => ?_) (fun q => ?_)
      · refine ⟨_, rfl, _, h1, ?_, ?_, Same.new' h2 hD⟩
        · rw [List.length_map, sizeLine_eq]
          have := List.length_filter_le (fun z => decide (z ∈ ye)) (st.take i)
          have := List.length_take_le' i st
          omega
        · rw [upd_same, List.take_add_one, hz, List.filter_append, List.map_append]
          rw [show ((some z).toList.filter fun z => decide (z ∈ ye)) = [z] from List.filter_cons_of_pos q] <;> rfl
      · refine ⟨?_, h2⟩
        rw [h1, List.take_add_one, hz, List.filter_append, show ((some z).toList.filter fun z => decide (z ∈ ye)) = [] from List.filter_cons_of_neg q, List.append_nil]
    · rintro H3 ⟨h1, h2⟩
      rw [List.length_map, List.take_length] at h1
      exact ⟨D, _, rfl, .inl ⟨SqL.of h1, fun l hl => k l _ (none_of_same h2 hl) (Same.put h2 hl) upd_same⟩⟩
abbrev NOT : List Str := ["turns", "states", "found", "turn", "state"]
theorem scOT : FnScope NOT ["turns", "states"] (defScope sOrTu) := ⟨rfl, rfl, rfl, by decide +kernel, rfl, by decide +kernel, by decide +kernel⟩
theorem ok_ortu (F : Fun K "ordered_turns" "ordered_turns" sOrTu f fd) (mT : mg "tuple" = none) : FnOk P w K mg base CX0 1 f fd ["turns", "states"] spOrTu := by
  refine F.ok scOT (fun vs H Q E h => ?_) (fun cdv A outer s H vs Q E hr h => ?_)
  · obtain ⟨y, t, as, tn, st, rfl, _⟩ := h
    rfl
  · obtain ⟨y, t, as, tn, st, rfl, hy, hT, ht, nd, few, fst, k⟩ := h
    have len : as.length = tn.length := by rw [hT.length, List.length_map]
    refine ⟨_, pss_cons (ps_set (i := 2) scOT.nd rfl (.inr rfl) (pe_dc (own := [("turn", 3)]) (g := gName 3) (tt := tYes) rfl scOT.nd (pi_tup (pv 0)) (blkOk_by (N := NOT) (sc := defScope sOrTu) (by decide +kernel)) (fun _ _ _ _ _ => pg_name (i := 3) scOT.nd rfl (.inl rfl)) (fun _ _ _ _ _ => pts_nil)
        (fun _ _ _ _ _ => pe_ix (show IxR _ (rIxT K) from ix_tup) (pv 3) pe_int (fun _ _ => rfl)) (fun _ _ _ _ _ => pv 3)))
      (pss_one (ps_ret (pe_callTy call_tuple_of (by rfl) mT (by decide +kernel) (pa_cons
      (pe_lc (own := [("state", 4)]) (g := gName 4) (tt := tYes) rfl scOT.nd (pi_tup (pv 1)) (blkOk_by (N := NOT) (sc := defScope sOrTu) (by decide +kernel)) (fun _ _ _ _ _ => pg_name (i := 4) scOT.nd rfl (.inl rfl)) (fun _ _ _ _ _ => pts_nil)
        (fun _ _ _ _ _ => pe_dget2 (un2 hr) (pv 2) (pv 4) (pe_tup (pa_cons (pv 4) (pa_cons (pv 4) (pa_cons pe_int pa_nil)))) ⟨rfl, rfl, rfl, rfl⟩)) pa_nil)))), ?_⟩
    refine ⟨_, rfl, y, rfl, ⟨_, SqT.of hy⟩, fun D hD => dc_it (walk_tup (xs := as.map V.ref)) (fun i H3 => H3 D = some (.dK ((((tn.map Trn.a).take i).map k1).zip ((as.take i).map V.ref))) ∧ Same H H3) ⟨upd_same, Same.put (Same.refl H) hD⟩ (fun _ _ _ h => SqT.of (h.2 _ _ hy)) ?_ ?_⟩
    · rintro i x H3 H3' hi ⟨h1, h2⟩ ⟨rfl, hx⟩
      rw [List.getElem?_map] at hx
      obtain ⟨r, hz, rfl⟩ := Option.map_eq_some_iff.mp hx
      rw [List.length_map] at hi
      have hi' : i < tn.length := by omega
      have hr' : tn[i]? = some tn[i] := List.getElem?_eq_getElem hi'
      have hk' : (tn.map Trn.a)[i]? = some tn[i].a := by rw [List.getElem?_map, hr'] <;> rfl
      have hv := (hT.same h2).get hz (by rw [List.getElem?_map, hr'] <;> rfl)
      have lz : (((tn.map Trn.a).take i).map k1).length = ((as.take i).map V.ref).length := by
        rw [List.length_map, List.length_map, List.length_take, List.length_take, List.length_map, len]
      refine ⟨rfl, _, rfl, _, _, _, _, rfl, rfl, SqT.of hv, atI_nat (j := 0) rfl, _, rfl, _, k1 tn[i].a, rfl, h1, ?_, ?_, Same.new' h2 hD⟩
      · rw [List.length_zip, List.length_map, List.length_map, List.length_take, List.length_take, sizeLine_eq]
        omega
      · rw [upd_same, putK_zip (not_taken k1_inj nd hk') lz, take_snoc_map hk', take_snoc_map hz]
    · rintro H3 ⟨h1, h2⟩
      rw [List.length_map, List.take_length, List.take_of_length_le (by rw [List.length_map]; omega)] at h1
      have ht3 := h2 _ _ ht
      refine ⟨_, rfl, t, rfl, ⟨_, SqT.of ht3⟩, fun D2 hD2 => lc_it (walk_tup (xs := st.map V.str)) (fun i H4 => ∃ bs : List Addr, H4 D2 = some (.lst (bs.map V.ref)) ∧ Tups H4 bs (((st.take i).map (turnOf tn)).map Trn.v) ∧ (∀ c ∈ bs, c ≠ D2) ∧ Same H3 H4) ⟨[], upd_same, trivial, (fun _ q => nomatch q), Same.put (Same.refl H3) hD2⟩ (fun _ _ _ h => by obtain ⟨_, _, _, _, h⟩ := h; exact SqT.of (h _ _ ht3)) ?_ ?_⟩
      · rintro i x H4 H4' hi ⟨bs, g1, g3, g4, g2⟩ ⟨rfl, hx⟩
        rw [List.getElem?_map] at hx
        obtain ⟨z, hz, rfl⟩ := Option.map_eq_some_iff.mp hx
        rw [List.length_map] at hi
        have lb : bs.length = i := by rw [g3.length, List.length_map, List.length_map, List.length_take]; omega
        refine ⟨rfl, _, rfl, D, rfl, .inl ⟨_, .inl (g2 _ _ h1)⟩, _, rfl, _, rfl, _, rfl, ?_⟩
        refine ⟨(by rw [sizeLine_eq]; show 3 ≤ _; decide), fun u hu => ?_⟩
        have s6 := Same.put (o := .tup [.str z, .str z, .int 0]) (Same.refl H4') hu
        have fin : ∀ (c : Addr) (r : Trn), L2.upd H4' u (.tup [.str z, .str z, .int 0]) c = some (.tup r.v) → turnOf tn z = r → ∃ acc, L2.upd H4' u (.tup [.str z, .str z, .int 0]) D2 = some (.lst acc) ∧ acc.length < sizeLine ∧ ∃ bs, L2.upd (L2.upd H4' u (.tup [.str z, .str z, .int 0])) D2 (.lst (acc ++ [.ref c])) D2 = some (.lst (bs.map V.ref)) ∧
            Tups (L2.upd (L2.upd H4' u (.tup [.str z, .str z, .int 0])) D2 (.lst (acc ++ [.ref c]))) bs (((st.take (i + 1)).map (turnOf tn)).map Trn.v) ∧ (∀ c ∈ bs, c ≠ D2) ∧ Same H3 (L2.upd (L2.upd H4' u (.tup [.str z, .str z, .int 0])) D2 (.lst (acc ++ [.ref c]))) := by
          intro c r hc e
          have nc : c ≠ D2 := fun q => by
            rw [q, s6 _ _ g1] at hc
            cases hc
          have n2 : ∀ a ∈ bs ++ [c], a ≠ D2 := fun a ha => (List.mem_append.mp ha).elim (g4 a) fun q => by rw [List.mem_singleton.mp q]; exact nc
          refine ⟨_, s6 _ _ g1, ?_, bs ++ [c], ?_, ?_, n2, Same.new' (g2.trans s6) hD2⟩
          · rw [List.length_map, sizeLine_eq]
            omega
          · rw [upd_same, List.map_append] <;> rfl
          · have e1 : ((st.take (i + 1)).map (turnOf tn)).map Trn.v = ((st.take i).map (turnOf tn)).map Trn.v ++ [r.v] := by
              rw [List.take_add_one, hz, List.map_append, List.map_append, ← e] <;> rfl
            rw [e1]
            exact Tups.upd n2 (Tups.snoc hc (g3.same s6))
        by_cases m : z ∈ tn.map Trn.a
        · obtain ⟨r, hr5, rfl⟩ := List.mem_map.mp m
          obtain ⟨j, hj, ej⟩ := List.getElem_of_mem hr5
          have ej' : tn[j]? = some r := by rw [List.getElem?_eq_getElem hj, ej]
          have ea : as[j]? = some as[j] := List.getElem?_eq_getElem (by omega)
          have val : valV (((tn.map Trn.a).map k1).zip (as.map V.ref)) (k1 r.a) = some (.ref as[j]) := valV_zip_get (i := j) (nodup_k1 nd) (by rw [List.getElem?_map, List.getElem?_map, ej'] <;> rfl) (by rw [List.getElem?_map, ea] <;> rfl)
          have hv := ((hT.same (h2.trans g2)).same s6).get ea (by rw [List.getElem?_map, ej'] <;> rfl)
          exact ⟨some (.ref as[j]), val ▸ DGet.k (k := k1 r.a) ((g2.trans s6) _ _ h1), fin _ r hv (turnOf_at nd ej')⟩
        · have val : valV (((tn.map Trn.a).map k1).zip (as.map V.ref)) (k1 z) = none := valV_zip_none fun q => by
            obtain ⟨y', hy', e⟩ := List.mem_map.mp q
            exact m (k1_inj e ▸ hy')
          have no : turnOf tn z = ⟨z, z, 0⟩ := by
            unfold turnOf
            rw [List.find?_eq_none.mpr fun r hr5 e => m (by rw [← of_decide_eq_true e]; exact List.mem_map_of_mem hr5)] <;> rfl
          exact ⟨none, val ▸ DGet.k (k := k1 z) ((g2.trans s6) _ _ h1), fin u ⟨z, z, 0⟩ upd_same no⟩
      · rintro H4 ⟨bs, g1, g3, g4, g2⟩
        rw [List.length_map, List.take_length] at g3
        refine ⟨D2, _, rfl, .inl ⟨SqL.of g1, fun l hl => k l bs _ (none_of_same (h2.trans g2) hl) (Same.put (h2.trans g2) hl) upd_same (g3.same (Same.put (Same.refl H4) hl))⟩⟩
end
end Wb
/-! a loop in numbers -/
namespace Wb
open PySem L2 WbMin WbS Lz
abbrev sTaInit : Stmt := inClass (top 47) 0
abbrev sTaGone : Stmt := inClass (top 47) 1
/-- a loop: signs, names of states, next states, amounts, turns, their amounts, yes states -/
structure LD where
  sg : List Nat
  st : List Str
  nx : Nat → Nat → Nat
  am : Nat → Nat → Int
  tn : Nat → Nat
  ta : Nat → Int
  ys : Nat → Bool
def LD.n (L : LD) : Nat := L.st.length
def LD.nm (L : LD) (i : Nat) : Str := L.st.getD i (S [])
structure LD.Ok (L : LD) : Prop where
  sgs : Sgs L.sg
  sts : Sts L.st
  nxlt : ∀ i c, i < L.n → c ∈ L.sg → L.nx i c < L.n
  tnlt : ∀ i, i < L.n → L.tn i < L.n
def LD.row (L : LD) (i c : Nat) : Row := ⟨L.nm i, c, L.nm (L.nx i c), L.am i c⟩
def LD.rows (L : LD) : List Row := (List.range L.n).flatMap fun i => L.sg.map (L.row i)
def LD.turn (L : LD) (i : Nat) : Trn := ⟨L.nm i, L.nm (L.tn i), L.ta i⟩
def LD.turns (L : LD) : List Trn := (List.range L.n).map L.turn
def LD.yes (L : LD) : List Str := ((List.range L.n).filter L.ys).map L.nm
/-- what a row of a loop reads -/
def RowAt (H : Hp) (q : Addr) (L : LD) : Prop := ∃ (t r u y : Addr) (as bs : List Addr), H q = some (.tup [.str (S L.sg), .ref t, .ref r, .ref u, .ref y]) ∧ H t = some (.tup (L.st.map V.str)) ∧ H r = some (.tup (as.map V.ref)) ∧ Tups H as (L.rows.map Row.v) ∧ H u = some (.tup (bs.map V.ref)) ∧ Tups H bs (L.turns.map Trn.v) ∧ H y = some (.tup (L.yes.map V.str))
def tf (dN dX dA tX tA tY : Addr) : List (Str × V) := putF "says" (.ref tY) (putF "turn_amounts" (.ref tA) (putF "turn_nexts" (.ref tX) (putF "amounts" (.ref dA) (putF "nexts" (.ref dX) (putF "number" (.ref dN) [])))))
def kS (c : Nat) : Key := .inr (S [c])
/-- the table stands -/
def TableAt (C : Addr) (H : Hp) (r : Addr) (L : LD) : Prop := ∃ (dx dN dX dA tX tA tY : Addr) (xs as : List Addr), H r = some (.ins C dx (tf dN dX dA tX tA tY)) ∧
  H dX = some (.dK ((L.sg.map kS).zip (xs.map V.ref))) ∧ Tups H xs (L.sg.map fun c => (List.range L.n).map fun i => V.int (L.nx i c : Nat)) ∧
  H dA = some (.dK ((L.sg.map kS).zip (as.map V.ref))) ∧ Tups H as (L.sg.map fun c => (List.range L.n).map fun i => V.int (L.am i c)) ∧
  H tX = some (.tup ((List.range L.n).map fun i => V.int (L.tn i : Nat))) ∧ H tA = some (.tup ((List.range L.n).map fun i => V.int (L.ta i))) ∧ H tY = some (.tup ((List.range L.n).map fun i => V.bl (L.ys i)))
def spTaInit (C : Addr) : Sp := fun vs H Q _ => ∃ (H0 : Hp) (r dx q : Addr) (L : LD), vs = [.ref r, .ref q] ∧ L.Ok ∧ RowAt H q L ∧ Same H0 H ∧ H0 r = none ∧ H r = some (.ins C dx []) ∧ ∀ H' : Hp, Same H0 H' → TableAt C H' r L → Q .non H'
/-- what the top has written of the class -/
structure TTxt (K : PySem.W.Frag) (mg : Str → Option Value) (C : Addr) : Prop where
  cl : Cls K C
  n1 : NoAttr K C "number"
  n2 : NoAttr K C "nexts"
  n3 : NoAttr K C "amounts"
  n4 : NoAttr K C "turn_nexts"
  n5 : NoAttr K C "turn_amounts"
  n6 : NoAttr K C "says"
/-! ### the mathematics of rows -/
theorem filt_one {c : Nat} : ∀ {sg : List Nat}, sg.Nodup → c ∈ sg → (sg.filter fun x => decide (x = c)) = [c]
  | [], _, h => nomatch h
  | a :: sg, nd, h => by
    have n := List.nodup_cons.mp nd
    by_cases q : a = c
    · subst q
      have e : (sg.filter fun x => decide (x = a)) = [] := List.filter_eq_nil_iff.mpr fun x hx e => n.1 ((of_decide_eq_true e) ▸ hx)
      rw [List.filter_cons_of_pos (by simp), e]
    · rw [List.filter_cons_of_neg (by simp [q])]
      exact filt_one n.2 ((List.mem_cons.mp h).resolve_left fun e => q e.symm)
theorem filt_rows {c i : Nat} (L : LD) (nd : L.sg.Nodup) (h : c ∈ L.sg) : ((L.sg.map (L.row i)).filter fun r => decide (r.c = c)) = [L.row i c] := by
  rw [List.filter_map, show ((fun r : Row => decide (r.c = c)) ∘ L.row i) = fun x => decide (x = c) from rfl, filt_one nd h] <;> rfl
theorem flat_one {α β : Type} (g : α → β) : ∀ l : List α, (l.flatMap fun i => [g i]) = l.map g
  | [] => rfl
  | x :: l => by rw [List.flatMap_cons, flat_one g l] <;> rfl
theorem rows_filter {L : LD} (nd : L.sg.Nodup) {c : Nat} (h : c ∈ L.sg) : (L.rows.filter fun r => decide (r.c = c)) = (List.range L.n).map fun i => L.row i c := by
  unfold LD.rows
  rw [List.filter_flatMap, ← flat_one]
  congr 1
  funext i
  exact filt_rows L nd h
theorem rows_mem {L : LD} {r : Row} (h : r ∈ L.rows) : ∃ i c, i < L.n ∧ c ∈ L.sg ∧ r = L.row i c := by
  obtain ⟨i, hi, h⟩ := List.mem_flatMap.mp h
  obtain ⟨c, hc, rfl⟩ := List.mem_map.mp h
  exact ⟨i, c, List.mem_range.mp hi, hc, rfl⟩
theorem rows_length (L : LD) : L.rows.length = L.n * L.sg.length := by
  unfold LD.rows
  rw [List.length_flatMap, show ((List.range L.n).map fun a => (L.sg.map (L.row a)).length) = List.replicate L.n L.sg.length from by
    rw [List.map_eq_replicate_iff.mpr (fun _ _ => List.length_map ..), List.length_range], List.sum_replicate_nat]
def nums (L : LD) : List (Key × V) := (L.st.map k1).zip ((List.range L.n).map fun i => V.int (i : Nat))
theorem nm_at {L : LD} {j : Nat} (h : j < L.n) : L.st[j]? = some (L.nm j) := by
  unfold LD.nm
  rw [List.getD_eq_getElem?_getD, List.getElem?_eq_getElem h] <;> rfl
theorem num_at {L : LD} (O : L.Ok) {j : Nat} (h : j < L.n) : valV (nums L) (k1 (L.nm j)) = some (.int (j : Nat)) :=
  valV_zip_get (i := j) (nodup_k1 O.sts.nd) (by rw [List.getElem?_map, nm_at h] <;> rfl) (by rw [List.getElem?_map, List.getElem?_range h] <;> rfl)
theorem kS_inj {p q : Nat} (h : kS p = kS q) : p = q := by
  injection h with h
  have := S_inj h
  injection this
def nmV (L : LD) (r : Row) : V := (valV (nums L) (k1 r.b)).getD .non
theorem nmV_row {L : LD} (O : L.Ok) {i c : Nat} (hi : i < L.n) (hc : c ∈ L.sg) : nmV L (L.row i c) = .int (L.nx i c : Nat) := by
  unfold nmV
  rw [show (L.row i c).b = L.nm (L.nx i c) from rfl, num_at O (O.nxlt i c hi hc)] <;> rfl
def byC (L : LD) (c k : Nat) : List Row := (L.rows.take k).filter fun r => decide (r.c = c)
theorem byC_yes {L : LD} {c k : Nat} {r : Row} (h : L.rows[k]? = some r) (e : r.c = c) : byC L c (k + 1) = byC L c k ++ [r] := by
  unfold byC
  rw [List.take_add_one, h, List.filter_append, show ((some r).toList.filter fun r => decide (r.c = c)) = [r] from List.filter_cons_of_pos (decide_eq_true e)]
theorem byC_no {L : LD} {c k : Nat} {r : Row} (h : L.rows[k]? = some r) (e : r.c ≠ c) : byC L c (k + 1) = byC L c k := by
  unfold byC
  rw [List.take_add_one, h, List.filter_append, show ((some r).toList.filter fun r => decide (r.c = c)) = [] from List.filter_cons_of_neg (fun q => e (of_decide_eq_true q)), List.append_nil]
theorem byC_few {L : LD} {c k : Nat} : (byC L c k).length ≤ L.rows.length := Nat.le_trans (List.length_filter_le _ _) (List.length_take_le' k _)
theorem byC_all {L : LD} (nd : L.sg.Nodup) {c : Nat} (h : c ∈ L.sg) : byC L c L.rows.length = (List.range L.n).map fun i => L.row i c := by
  unfold byC
  rw [List.take_length, rows_filter nd h]
theorem rows_few {L : LD} (O : L.Ok) : L.rows.length ≤ 24 := by
  rw [rows_length]
  exact Nat.mul_le_mul O.sts.few O.sgs.few
theorem sign_eq {a c : Nat} : decide (V.str (S [a]) = V.str (S [c])) = decide (a = c) := by
  rw [decide_eq_decide]
  constructor
  · intro e
    injection e with e
    have := S_inj e
    injection this
  · rintro rfl
    rfl
theorem turns_length (L : LD) : L.turns.length = L.n := by
  unfold LD.turns
  rw [List.length_map, List.length_range]
theorem turns_at {L : LD} {k : Nat} (h : k < L.n) : L.turns[k]? = some (L.turn k) := by
  unfold LD.turns
  rw [List.getElem?_map, List.getElem?_range h] <;> rfl
theorem bs_len {L : LD} {H : Hp} {bs : List Addr} (h : Tups H bs (L.turns.map Trn.v)) : bs.length = L.n := by
  rw [h.length, List.length_map, turns_length]
theorem nm_inj {L : LD} (O : L.Ok) {i j : Nat} (hi : i < L.n) (hj : j < L.n) (h : L.nm i = L.nm j) : i = j := by
  have a := nm_at hi
  have b := nm_at hj
  rw [h] at a
  exact (List.getElem?_inj hi O.sts.nd).mp (a.trans b.symm)
theorem yes_at {L : LD} (O : L.Ok) {k : Nat} (h : k < L.n) : decide (L.nm k ∈ L.yes) = L.ys k := by
  rw [Bool.eq_iff_iff, decide_eq_true_iff]
  unfold LD.yes
  constructor
  · intro m
    obtain ⟨j, hj, e⟩ := List.mem_map.mp m
    obtain ⟨j1, j2⟩ := List.mem_filter.mp hj
    rw [← nm_inj O (List.mem_range.mp j1) h e]
    exact j2
  · intro m
    exact List.mem_map.mpr ⟨k, List.mem_filter.mpr ⟨List.mem_range.mpr h, m⟩, rfl⟩
/-- the parts of a row stand -/
structure Prt (L : LD) (t rr u y : Addr) (as bs : List Addr) (H : Hp) : Prop where
  ht : H t = some (.tup (L.st.map V.str))
  hr : H rr = some (.tup (as.map V.ref))
  hT : Tups H as (L.rows.map Row.v)
  hu : H u = some (.tup (bs.map V.ref))
  hU : Tups H bs (L.turns.map Trn.v)
  hy : H y = some (.tup (L.yes.map V.str))
theorem Tups.but {H H' : Hp} {p : Addr} {o : HO} (no : ∀ x, o ≠ .tup x) (hp : H p = some o) (s : But p H H') : ∀ {as : List Addr} {xs : List (List V)}, Tups H as xs → Tups H' as xs
  | [], [], _ => trivial
  | a :: _, x :: _, h => ⟨s _ _ (ne_of h.1 hp fun e => no x e.symm) h.1, Tups.but no hp s h.2⟩
  | [], _ :: _, h => h.elim
  | _ :: _, [], h => h.elim
theorem Prt.but {L : LD} {t rr u y : Addr} {as bs : List Addr} {H H' : Hp} {p : Addr} {o : HO} (no : ∀ x, o ≠ .tup x) (hp : H p = some o) (s : But p H H') (h : Prt L t rr u y as bs H) : Prt L t rr u y as bs H' :=
  ⟨s _ _ (ne_of h.ht hp fun e => no _ e.symm) h.ht, s _ _ (ne_of h.hr hp fun e => no _ e.symm) h.hr, h.hT.but no hp s, s _ _ (ne_of h.hu hp fun e => no _ e.symm) h.hu, h.hU.but no hp s, s _ _ (ne_of h.hy hp fun e => no _ e.symm) h.hy⟩
theorem Prt.same {L : LD} {t rr u y : Addr} {as bs : List Addr} {H H' : Hp} (s : Same H H') (h : Prt L t rr u y as bs H) : Prt L t rr u y as bs H' :=
  ⟨s _ _ h.ht, s _ _ h.hr, h.hT.same s, s _ _ h.hu, h.hU.same s, s _ _ h.hy⟩
theorem k_in_S {l : List Nat} {i : Nat} {c : Nat} (h : (S l).cps[i]? = some c) : l[i]? = some c := by simpa [S] using h
def rTupOf (K : PySem.W.Frag) : List V → Hp → VK → Prop := fun xs H Q => ∃ p ys, xs = [.ref p] ∧ ((SqL K H p ys ∧ ∀ l, H l = none → Q (.ref l) (L2.upd H l (.tup ys))) ∨ (SqT K H p ys ∧ Q (.ref p) H))
section
variable {P : Program} {w : World} {K : PySem.W.Frag} {mg : Str → Option Value} {base : Heap} {f C : Addr} {fd : FuncData}
abbrev NTI : List Str := ["self", "row", "signs", "states", "rows", "turns", "yes", "at", "state", "sign", "told"]
theorem scTI : FnScope NTI ["self", "row"] (defScope sTaInit) := ⟨rfl, rfl, rfl, by decide +kernel, rfl, by decide +kernel, by decide +kernel⟩
def scNx : Scope := { kind := .function, names := [(".0", .local), ("sign", .cell), ("tuple", .globalImplicit), ("rows", .cell), ("self", .cell)], isGenerator := false, isCoroutine := false }
def scAm : Scope := { kind := .function, names := [(".0", .local), ("sign", .cell), ("tuple", .globalImplicit), ("rows", .cell)], isGenerator := false, isCoroutine := false }
set_option maxHeartbeats 0 in
theorem ok_tainit (F : Fun K "__init__" "Table.__init__" sTaInit f fd) (T : TTxt K mg C) (Z : Free mg) (mT : mg "tuple" = none) (mE : mg "enumerate" = none) : FnOk P w K mg base CX0 1 f fd ["self", "row"] (spTaInit C) := by
  refine F.ok scTI (fun vs H Q E h => ?_) (fun cdv A outer s H vs Q E hr h => ?_)
  · obtain ⟨H0, r, dx, q, L, rfl, _⟩ := h
    rfl
  · obtain ⟨H0, r, dx, q, L, rfl, O, RA, s0, r0, hp, k⟩ := h
    refine ⟨_, pss_cons (ps_asg (pv 1) (pg_tup (by rfl) (pgs_cons (pg_name (i := 2) scTI.nd rfl (.inl rfl)) (pgs_cons (pg_name (i := 3) scTI.nd rfl (.inl rfl)) (pgs_cons (pg_name (i := 4) scTI.nd rfl (.inr rfl)) (pgs_cons (pg_name (i := 5) scTI.nd rfl (.inl rfl)) (pgs_cons (pg_name (i := 6) scTI.nd rfl (.inr rfl)) pgs_nil)))))))
      (pss_cons (ps_fld (pv 0) (pe_dc (own := [("at", 7), ("state", 8)]) (g := gTup K 2 (gCons (gName 7) (gCons (gName 8) gNil))) (tt := tYes) rfl scTI.nd (pi_enumT (by rfl) mE (pa_cons (pv 3) pa_nil)) (blkOk_by (N := NTI) (sc := defScope sTaInit) (by decide +kernel)) (fun _ _ _ _ _ => pg_tup (by rfl) (pgs_cons (pg_name (i := 7) scTI.nd rfl (.inl rfl)) (pgs_cons (pg_name (i := 8) scTI.nd rfl (.inl rfl)) pgs_nil))) (fun _ _ _ _ _ => pts_nil)
        (fun _ _ _ _ _ => pv 8) (fun _ _ _ _ _ => pv 7)) rfl)
      (pss_cons (ps_fld (pv 0) (pe_dc (own := [("sign", 9)]) (g := gName 9) (tt := tYes) rfl scTI.nd (pi_str (pv 2)) (blkOk_by (N := NTI) (sc := defScope sTaInit) (by decide +kernel)) (fun _ _ _ _ _ => pg_name (i := 9) scTI.nd rfl (.inr rfl)) (fun _ _ _ _ _ => pts_nil)
        (fun _ _ _ _ _ => pv 9) (fun _ _ _ _ _ => pe_callTy (show CallR _ (.type "tuple") (rTupOf K) from call_tuple_of) (by rfl) mT (by decide +kernel) (pa_cons (by
            refine pe_lc (wi := iTup K (tVar 4)) (own := [("told", 10)]) (g := gName 10) rfl scTI.nd ?hi (blkOk_by (N := NTI) (sc := scNx) (by decide +kernel)) (fun _ _ _ _ _ => pg_name (i := 10) scTI.nd rfl (.inl rfl)) (fun _ _ _ _ _ => pts_one (pt_cmpR op_eq (pe_ix (show IxR _ (rIxT K) from ix_tup) (pv 10) pe_int (fun _ _ => rfl)) (pv 9) (nomark _)))
              (fun _ _ _ _ _ => pe_dget (un2 hr) (show PE _ _ (tFld K (tVar 0) "number") from pe_fld (pv 0) rfl) (pe_ix (show IxR _ (rIxT K) from ix_tup) (pv 10) pe_int (fun _ _ => rfl)) (fun _ _ => rfl))
            case hi => exact pi_tup (pv 4)) pa_nil))) rfl)
      (pss_cons (ps_fld (pv 0) (pe_dc (own := [("sign", 9)]) (g := gName 9) (tt := tYes) rfl scTI.nd (pi_str (pv 2)) (blkOk_by (N := NTI) (sc := defScope sTaInit) (by decide +kernel)) (fun _ _ _ _ _ => pg_name (i := 9) scTI.nd rfl (.inr rfl)) (fun _ _ _ _ _ => pts_nil)
        (fun _ _ _ _ _ => pv 9) (fun _ _ _ _ _ => pe_callTy (show CallR _ (.type "tuple") (rTupOf K) from call_tuple_of) (by rfl) mT (by decide +kernel) (pa_cons (by
            refine pe_lc (wi := iTup K (tVar 4)) (own := [("told", 10)]) (g := gName 10) rfl scTI.nd ?hi (blkOk_by (N := NTI) (sc := scAm) (by decide +kernel)) (fun _ _ _ _ _ => pg_name (i := 10) scTI.nd rfl (.inl rfl)) (fun _ _ _ _ _ => pts_one (pt_cmpR op_eq (pe_ix (show IxR _ (rIxT K) from ix_tup) (pv 10) pe_int (fun _ _ => rfl)) (pv 9) (nomark _)))
              (fun _ _ _ _ _ => pe_ix (show IxR _ (rIxT K) from ix_tup) (pv 10) pe_int (fun _ _ => rfl))
            case hi => exact pi_tup (pv 4)) pa_nil))) rfl)
      (pss_cons (ps_fld (pv 0) (pe_callTy call_tuple_of (by rfl) mT (by decide +kernel) (pa_cons (pe_lc (own := [("told", 10)]) (g := gName 10) (tt := tYes) rfl scTI.nd (pi_tup (pv 5)) (blkOk_by (N := NTI) (sc := defScope sTaInit) (by decide +kernel)) (fun _ _ _ _ _ => pg_name (i := 10) scTI.nd rfl (.inl rfl)) (fun _ _ _ _ _ => pts_nil)
        (fun _ _ _ _ _ => pe_dget (un2 hr) (show PE _ _ (tFld K (tVar 0) "number") from pe_fld (pv 0) rfl) (pe_ix (show IxR _ (rIxT K) from ix_tup) (pv 10) pe_int (fun _ _ => rfl)) (fun _ _ => rfl))) pa_nil)) rfl)
      (pss_cons (ps_fld (pv 0) (pe_callTy call_tuple_of (by rfl) mT (by decide +kernel) (pa_cons (pe_lc (own := [("told", 10)]) (g := gName 10) (tt := tYes) rfl scTI.nd (pi_tup (pv 5)) (blkOk_by (N := NTI) (sc := defScope sTaInit) (by decide +kernel)) (fun _ _ _ _ _ => pg_name (i := 10) scTI.nd rfl (.inl rfl)) (fun _ _ _ _ _ => pts_nil)
        (fun _ _ _ _ _ => pe_ix (show IxR _ (rIxT K) from ix_tup) (pv 10) pe_int (fun _ _ => rfl))) pa_nil)) rfl)
      (pss_one (ps_fld (pv 0) (pe_callTy call_tuple_of (by rfl) mT (by decide +kernel) (pa_cons (pe_lc (own := [("state", 8)]) (g := gName 8) (tt := tYes) rfl scTI.nd (pi_tup (pv 3)) (blkOk_by (N := NTI) (sc := defScope sTaInit) (by decide +kernel)) (fun _ _ _ _ _ => pg_name (i := 8) scTI.nd rfl (.inl rfl)) (fun _ _ _ _ _ => pts_nil)
        (fun _ _ _ _ _ => pe_cmpR (show OpR _ _ (rIn K false) from op_in_seq) (pv 8) (pv 6) (by rfl))) pa_nil)) rfl))))))), ?_⟩
    obtain ⟨t, rr, u, y, as, bs, hq, ht, hrw, hT, hu, hU, hy⟩ := RA
    refine ⟨_, rfl, q, _, rfl, SqT.of hq, rfl, _, _, rfl, _, _, rfl, _, _, rfl, _, _, rfl, _, _, rfl, rfl, ?_⟩
    have pr : Prt L t rr u y as bs H := ⟨ht, hrw, hT, hu, hU, hy⟩
    have sf := O.sts.few
    have n6 : L.n ≤ 6 := sf
    have sg4 := O.sgs.few
    -- number
    refine ⟨_, rfl, t, _, rfl, SqT.of ht, fun dN hN => dc_it (WbS.walk_enumT (xs := L.st.map V.str)) (fun i H3 => H3 dN = some (.dK (((L.st.take i).map k1).zip ((List.range i).map fun i => V.int (i : Nat)))) ∧ Same H H3) ⟨upd_same, Same.put (Same.refl H) hN⟩ (fun _ _ _ h => SqT.of (h.2 _ _ ht)) ?_ ?_⟩
    · rintro i x H3 H4 hi ⟨h1, h2⟩ ⟨T', a, b, rfl, nT, rfl, ea, eb⟩
      cases ea
      dsimp only at eb
      rw [List.getElem?_map] at eb
      obtain ⟨z, hz, rfl⟩ := Option.map_eq_some_iff.mp eb
      rw [List.length_map] at hi
      have s3 := Same.put (o := .tup [.int (i : Nat), .str z]) (Same.refl H3) nT
      refine ⟨T', _, rfl, SqT.of upd_same, rfl, _, _, rfl, _, _, rfl, rfl, ?_⟩
      refine ⟨rfl, _, rfl, _, rfl, _, k1 z, rfl, s3 _ _ h1, ?_, ?_, Same.new' (h2.trans s3) hN⟩
      · rw [List.length_zip, List.length_map, List.length_map, List.length_range, List.length_take, sizeLine_eq]
        omega
      · rw [upd_same, putK_zip (not_taken k1_inj O.sts.nd hz) (by rw [List.length_map, List.length_map, List.length_range, List.length_take]; omega), take_snoc_map hz, List.range_succ, List.map_append] <;> rfl
    · rintro H1 ⟨h1, h2⟩
      rw [List.length_map, List.take_length] at h1
      have hN1 : H1 dN = some (.dK (nums L)) := h1
      have hr1 := h2 _ _ hp
      refine ⟨_, rfl, r, C, dx, _, rfl, hr1, T.cl, T.n1, (by show 0 < 1000; decide), ?_⟩
      have B1 : But r H (L2.upd H1 r (.ins C dx (putF "number" (.ref dN) []))) := But.here (But.of h2)
      have S1 : Same H0 (L2.upd H1 r (.ins C dx (putF "number" (.ref dN) []))) := Same.new' (s0.trans h2) r0
      have hN2 : (L2.upd H1 r (.ins C dx (putF "number" (.ref dN) []))) dN = some (.dK (nums L)) := (upd_ne (ne_of hN1 hr1 (by intro q; cases q))).trans hN1
      have hr2 : (L2.upd H1 r (.ins C dx (putF "number" (.ref dN) []))) r = some (.ins C dx (putF "number" (.ref dN) [])) := upd_same
      generalize L2.upd H1 r (.ins C dx (putF "number" (.ref dN) [])) = H2 at B1 S1 hN2 hr2 ⊢
      have pr2 : Prt L t rr u y as bs H2 := pr.but (fun x => by intro q; cases q) hp B1
      clear h1 hN1 hr1
      -- nexts
      refine ⟨_, rfl, _, rfl, fun dX hX => dc_it walk_str (fun i H3 => ∃ xs : List Addr, H3 dX = some (.dK (((L.sg.take i).map kS).zip (xs.map V.ref))) ∧ Tups H3 xs ((L.sg.take i).map fun c => (List.range L.n).map fun i => V.int (L.nx i c : Nat)) ∧ Same H2 H3) ⟨[], upd_same, trivial, Same.put (Same.refl H2) hX⟩ (fun _ _ _ _ => trivial) ?_ ?_⟩
      · rintro i x H3 H4 hi ⟨xs, h1, h3, h4⟩ ⟨rfl, c, hc, rfl⟩
        have hc' : L.sg[i]? = some c := k_in_S hc
        rw [S_size] at hi
        have cm : c ∈ L.sg := List.mem_of_getElem? hc'
        have pr3 := pr2.same h4
        have lx : xs.length = i := by rw [h3.length, List.length_map, List.length_take]; omega
        have la : as.length = L.rows.length := by rw [pr.hT.length, List.length_map]
        refine ⟨rfl, _, rfl, _, rfl, rr, rfl, ⟨_, SqT.of pr3.hr⟩, fun D hD => lc_it (walk_tup (xs := as.map V.ref)) (fun k H5 => H5 D = some (.lst ((byC L c k).map (nmV L))) ∧ Same H4 H5) ⟨upd_same, Same.put (Same.refl H4) hD⟩ (fun _ _ _ h => SqT.of (h.2 _ _ pr3.hr)) ?_ ?_⟩
        · rintro k' x H5 H6 hk ⟨g1, g2⟩ ⟨rfl, hx⟩
          rw [List.getElem?_map] at hx
          obtain ⟨b, hb, rfl⟩ := Option.map_eq_some_iff.mp hx
          rw [List.length_map] at hk
          have hrw' : L.rows[k']? = some L.rows[k'] := List.getElem?_eq_getElem (by omega)
          generalize L.rows[k'] = ρ at hrw'
          have hv := (pr3.same g2).hT.get hb (by rw [List.getElem?_map, hrw'] <;> rfl)
          obtain ⟨i', c', hi', hc'', rfl⟩ := rows_mem (List.mem_of_getElem? hrw')
          have hr3 := g2 _ _ (h4 _ _ hr2)
          have hN3 := g2 _ _ (h4 _ _ hN2)
          refine ⟨rfl, _, rfl, _, _, _, _, rfl, rfl, SqT.of hv, atI_nat (j := 1) rfl, _, rfl, rfl, _, rfl, ?_⟩
          show if decide (V.str (S [c']) = V.str (S [c])) = true then _ else _
          rw [sign_eq]
          refine ite2 (fun e => ?_) (fun e => ?_)
          · have val := num_at O (O.nxlt i' c' hi' hc'')
            refine ⟨_, rfl, r, C, dx, _, _, rfl, hr3, T.cl, T.n1, by rw [lookup_putF, if_pos rfl], _, rfl, _, _, _, _, rfl, rfl, SqT.of hv, atI_nat (j := 2) rfl, dN, .int (L.nx i' c' : Nat), rfl, val ▸ DGet.k (k := k1 (L.nm (L.nx i' c'))) hN3, _, g1, ?_, ?_, Same.new' g2 hD⟩
            · rw [List.length_map, sizeLine_eq]
              have := byC_few (L := L) (c := c) (k := k')
              have := rows_few O
              omega
            · rw [upd_same, byC_yes hrw' (of_decide_eq_true e), List.map_append, ← nmV_row O hi' hc''] <;> rfl
          · exact ⟨by rw [g1, byC_no hrw' (fun q => e (decide_eq_true q))], g2⟩
        · rintro H5 ⟨g1, g2⟩
          have e2 : (byC L c as.length).map (nmV L) = (List.range L.n).map fun i => V.int (L.nx i c : Nat) := by
            rw [la, byC_all O.sgs.nd cm, List.map_map]
            exact List.map_congr_left fun j hj => nmV_row O (List.mem_range.mp hj) cm
          rw [List.length_map, e2] at g1
          refine ⟨D, _, rfl, .inl ⟨SqL.of g1, fun l hl => ?_⟩⟩
          have s5 := Same.put (o := .tup ((List.range L.n).map fun i => V.int (L.nx i c : Nat))) g2 hl
          refine ⟨_, kS c, rfl, s5 _ _ h1, ?_, xs ++ [l], ?_, ?_, Same.new' (h4.trans s5) hX⟩
          · rw [List.length_zip, List.length_map, List.length_map, List.length_take, sizeLine_eq]
            omega
          · rw [upd_same, putK_zip (not_taken kS_inj O.sgs.nd hc') (by rw [List.length_map, List.length_map, List.length_take]; omega), take_snoc_map hc', List.map_append] <;> rfl
          · rw [take_snoc_map hc']
            exact Tups.but (fun x => by intro q; cases q) (s5 _ _ h1) (But.here (But.refl dX _)) (Tups.snoc upd_same (h3.same s5))
      · rintro H3 ⟨xs, h1, h3, h4⟩
        rw [S_size, List.take_length] at h1 h3
        refine ⟨_, rfl, r, C, dx, _, rfl, h4 _ _ hr2, T.cl, T.n2, (by show 1 < 1000; decide), ?_⟩
        have hr3 := h4 _ _ hr2
        generalize ef : putF "nexts" (.ref dX) (putF "number" (.ref dN) []) = fs3
        have lk3 : fs3.lookup ("number" : Str) = some (.ref dN) := by rw [← ef, lookup_putF, if_neg (by decide +kernel), lookup_putF, if_pos rfl]
        have ln3 : fs3.length = 2 := by rw [← ef] <;> rfl
        have B2 : But r H (L2.upd H3 r (.ins C dx fs3)) := But.here (B1.trans (But.of h4))
        have S2 : Same H0 (L2.upd H3 r (.ins C dx fs3)) := Same.new' (S1.trans h4) r0
        have hN4 : (L2.upd H3 r (.ins C dx fs3)) dN = some (.dK (nums L)) := (upd_ne (ne_of (h4 _ _ hN2) hr3 (by intro q; cases q))).trans (h4 _ _ hN2)
        have hX4 : (L2.upd H3 r (.ins C dx fs3)) dX = some (.dK ((L.sg.map kS).zip (xs.map V.ref))) := (upd_ne (ne_of h1 hr3 (by intro q; cases q))).trans h1
        have hx4 : Tups (L2.upd H3 r (.ins C dx fs3)) xs (L.sg.map fun c => (List.range L.n).map fun i => V.int (L.nx i c : Nat)) := Tups.but (fun x => by intro q; cases q) hr3 (But.here (But.refl r _)) h3
        have hr4 : (L2.upd H3 r (.ins C dx fs3)) r = some (.ins C dx fs3) := upd_same
        generalize L2.upd H3 r (.ins C dx fs3) = H4 at B2 S2 hN4 hX4 hx4 hr4 ⊢
        have pr4 : Prt L t rr u y as bs H4 := pr.but (fun x => by intro q; cases q) hp B2
        clear h1 h3 h4 hr3 B1 S1 hN2 hr2 pr2 hX
        -- amounts
        refine ⟨_, rfl, _, rfl, fun dA hA => dc_it walk_str (fun i H3 => ∃ xs : List Addr, H3 dA = some (.dK (((L.sg.take i).map kS).zip (xs.map V.ref))) ∧ Tups H3 xs ((L.sg.take i).map fun c => (List.range L.n).map fun i => V.int (L.am i c)) ∧ Same H4 H3) ⟨[], upd_same, trivial, Same.put (Same.refl H4) hA⟩ (fun _ _ _ _ => trivial) ?_ ?_⟩
        · rintro i x H5 H6 hi ⟨xs2, h1, h3, h4⟩ ⟨rfl, c, hc, rfl⟩
          have hc' : L.sg[i]? = some c := k_in_S hc
          rw [S_size] at hi
          have cm : c ∈ L.sg := List.mem_of_getElem? hc'
          have pr3 := pr4.same h4
          have lx : xs2.length = i := by rw [h3.length, List.length_map, List.length_take]; omega
          have la : as.length = L.rows.length := by rw [pr.hT.length, List.length_map]
          refine ⟨rfl, _, rfl, _, rfl, rr, rfl, ⟨_, SqT.of pr3.hr⟩, fun D hD => lc_it (walk_tup (xs := as.map V.ref)) (fun k H7 => H7 D = some (.lst ((byC L c k).map fun r => V.int r.m)) ∧ Same H6 H7) ⟨upd_same, Same.put (Same.refl H6) hD⟩ (fun _ _ _ h => SqT.of (h.2 _ _ pr3.hr)) ?_ ?_⟩
          · rintro k' x H7 H8 hk ⟨g1, g2⟩ ⟨rfl, hx⟩
            rw [List.getElem?_map] at hx
            obtain ⟨b, hb, rfl⟩ := Option.map_eq_some_iff.mp hx
            rw [List.length_map] at hk
            have hrw' : L.rows[k']? = some L.rows[k'] := List.getElem?_eq_getElem (by omega)
            generalize L.rows[k'] = ρ at hrw'
            have hv := (pr3.same g2).hT.get hb (by rw [List.getElem?_map, hrw'] <;> rfl)
            obtain ⟨i', c', hi', hc'', rfl⟩ := rows_mem (List.mem_of_getElem? hrw')
            refine ⟨rfl, _, rfl, _, _, _, _, rfl, rfl, SqT.of hv, atI_nat (j := 1) rfl, _, rfl, rfl, _, rfl, ?_⟩
            show if decide (V.str (S [c']) = V.str (S [c])) = true then _ else _
            rw [sign_eq]
            refine ite2 (fun e => ?_) (fun e => ?_)
            · refine ⟨_, rfl, _, _, _, _, rfl, rfl, SqT.of hv, atI_nat (j := 3) rfl, _, g1, ?_, ?_, Same.new' g2 hD⟩
              · rw [List.length_map, sizeLine_eq]
                have := byC_few (L := L) (c := c) (k := k')
                have := rows_few O
                omega
              · rw [upd_same, byC_yes hrw' (of_decide_eq_true e), List.map_append] <;> rfl
            · exact ⟨by rw [g1, byC_no hrw' (fun q => e (decide_eq_true q))], g2⟩
          · rintro H7 ⟨g1, g2⟩
            have e2 : ((byC L c as.length).map fun r => V.int r.m) = (List.range L.n).map fun i => V.int (L.am i c) := by
              rw [la, byC_all O.sgs.nd cm, List.map_map]
              rfl
            rw [List.length_map, e2] at g1
            refine ⟨D, _, rfl, .inl ⟨SqL.of g1, fun l hl => ?_⟩⟩
            have s5 := Same.put (o := .tup ((List.range L.n).map fun i => V.int (L.am i c))) g2 hl
            refine ⟨_, kS c, rfl, s5 _ _ h1, ?_, xs2 ++ [l], ?_, ?_, Same.new' (h4.trans s5) hA⟩
            · rw [List.length_zip, List.length_map, List.length_map, List.length_take, sizeLine_eq]
              omega
            · rw [upd_same, putK_zip (not_taken kS_inj O.sgs.nd hc') (by rw [List.length_map, List.length_map, List.length_take]; omega), take_snoc_map hc', List.map_append] <;> rfl
            · rw [take_snoc_map hc']
              exact Tups.but (fun x => by intro q; cases q) (s5 _ _ h1) (But.here (But.refl dA _)) (Tups.snoc upd_same (h3.same s5))
        · rintro H5 ⟨xs2, h1, h3, h4⟩
          rw [S_size, List.take_length] at h1 h3
          refine ⟨_, rfl, r, C, dx, _, rfl, h4 _ _ hr4, T.cl, T.n3, (by omega), ?_⟩
          have lk3 := lk3
          have ln4 : (3 : Nat) = 3 := rfl
          have hrH := h4 _ _ hr4
          generalize ef4 : putF "amounts" (.ref dA) fs3 = fs4
          have lk4 : fs4.lookup ("number" : Str) = some (.ref dN) := by rw [← ef4, lookup_putF, if_neg (by decide +kernel)]; exact lk3
          have B4 : But r H (L2.upd H5 r (.ins C dx fs4)) := But.here (B2.trans (But.of h4))
          have S4 : Same H0 (L2.upd H5 r (.ins C dx fs4)) := Same.new' (S2.trans h4) r0
          have hN14 : (L2.upd H5 r (.ins C dx fs4)) dN = some (.dK (nums L)) := (upd_ne (ne_of (h4 _ _ hN4) hrH (by intro q; cases q))).trans (h4 _ _ hN4)
          have hX14 : (L2.upd H5 r (.ins C dx fs4)) dX = some (.dK ((L.sg.map kS).zip (xs.map V.ref))) := (upd_ne (ne_of (h4 _ _ hX4) hrH (by intro q; cases q))).trans (h4 _ _ hX4)
          have hx14 : Tups (L2.upd H5 r (.ins C dx fs4)) xs (L.sg.map fun c => (List.range L.n).map fun i => V.int (L.nx i c : Nat)) := Tups.but (fun x => by intro q; cases q) hrH (But.here (But.refl r _)) (hx4.same h4)
          have hA14 : (L2.upd H5 r (.ins C dx fs4)) dA = some (.dK ((L.sg.map kS).zip (xs2.map V.ref))) := (upd_ne (ne_of h1 hrH (by intro q; cases q))).trans h1
          have ha14 : Tups (L2.upd H5 r (.ins C dx fs4)) xs2 (L.sg.map fun c => (List.range L.n).map fun i => V.int (L.am i c)) := Tups.but (fun x => by intro q; cases q) hrH (But.here (But.refl r _)) h3
          have hr14 : (L2.upd H5 r (.ins C dx fs4)) r = some (.ins C dx fs4) := upd_same
          generalize L2.upd H5 r (.ins C dx fs4) = H14 at B4 S4 hN14 hX14 hx14 hA14 ha14 hr14 ⊢
          have pr14 : Prt L t rr u y as bs H14 := pr.but (fun x => by intro q; cases q) hp B4
          -- turn_nexts
          refine ⟨_, rfl, u, rfl, ⟨_, SqT.of pr14.hu⟩, fun D hD => lc_it (walk_tup (xs := bs.map V.ref)) (fun k H5 => H5 D = some (.lst ((List.range k).map fun i => V.int (L.tn i : Nat))) ∧ Same H14 H5) ⟨upd_same, Same.put (Same.refl H14) hD⟩ (fun _ _ _ h => SqT.of (h.2 _ _ pr14.hu)) ?_ ?_⟩
          · rintro k' x H5 H6 hk ⟨g1, g2⟩ ⟨rfl, hx⟩
            rw [List.getElem?_map] at hx
            obtain ⟨b, hb, rfl⟩ := Option.map_eq_some_iff.mp hx
            rw [List.length_map] at hk
            have hk6 : k' < L.n := by have q := pr.hU.length; rw [List.length_map, turns_length] at q; omega
            have hv := (pr14.same g2).hU.get hb (by rw [List.getElem?_map, turns_at hk6] <;> rfl)
            refine ⟨rfl, _, rfl, r, C, dx, _, _, rfl, g2 _ _ hr14, T.cl, T.n1, lk4, _, rfl, _, _, _, _, rfl, rfl, SqT.of hv, atI_nat (j := 1) rfl, dN, .int (L.tn k' : Nat), rfl, num_at O (O.tnlt k' hk6) ▸ DGet.k (k := k1 (L.nm (L.tn k'))) (g2 _ _ hN14), _, g1, ?_, ?_, Same.new' g2 hD⟩
            · rw [List.length_map, List.length_range, sizeLine_eq]
              omega
            · rw [upd_same, List.range_succ, List.map_append] <;> rfl
          · rintro H7 ⟨g1, g2⟩
            rw [List.length_map, bs_len pr.hU] at g1
            refine ⟨D, _, rfl, .inl ⟨SqL.of g1, fun tX hl => ?_⟩⟩
            have s5 := Same.put (o := .tup ((List.range L.n).map fun i => V.int (L.tn i : Nat))) g2 hl
            have hl5 : (L2.upd H7 tX (.tup ((List.range L.n).map fun i => V.int (L.tn i : Nat)))) tX = some (.tup ((List.range L.n).map fun i => V.int (L.tn i : Nat))) := upd_same
            generalize L2.upd H7 tX (.tup ((List.range L.n).map fun i => V.int (L.tn i : Nat))) = H8 at s5 hl5 ⊢
            refine ⟨_, rfl, r, C, dx, _, rfl, s5 _ _ hr14, T.cl, T.n4, (by rw [← ef4, ← ef]; show 3 < 1000; decide), ?_⟩
            have hrH := s5 _ _ hr14
            generalize ef5 : putF "turn_nexts" (.ref tX) fs4 = fs5
            have lk5 : fs5.lookup ("number" : Str) = some (.ref dN) := by rw [← ef5, lookup_putF, if_neg (by decide +kernel)]; exact lk4
            have B5 : But r H (L2.upd H8 r (.ins C dx fs5)) := But.here (B4.trans (But.of s5))
            have S5 : Same H0 (L2.upd H8 r (.ins C dx fs5)) := Same.new' (S4.trans s5) r0
            have hN15 : (L2.upd H8 r (.ins C dx fs5)) dN = some (.dK (nums L)) := (upd_ne (ne_of (s5 _ _ hN14) hrH (by intro q; cases q))).trans (s5 _ _ hN14)
            have hX15 : (L2.upd H8 r (.ins C dx fs5)) dX = some (.dK ((L.sg.map kS).zip (xs.map V.ref))) := (upd_ne (ne_of (s5 _ _ hX14) hrH (by intro q; cases q))).trans (s5 _ _ hX14)
            have hx15 : Tups (L2.upd H8 r (.ins C dx fs5)) xs (L.sg.map fun c => (List.range L.n).map fun i => V.int (L.nx i c : Nat)) := Tups.but (fun x => by intro q; cases q) hrH (But.here (But.refl r _)) (hx14.same s5)
            have hA15 : (L2.upd H8 r (.ins C dx fs5)) dA = some (.dK ((L.sg.map kS).zip (xs2.map V.ref))) := (upd_ne (ne_of (s5 _ _ hA14) hrH (by intro q; cases q))).trans (s5 _ _ hA14)
            have ha15 : Tups (L2.upd H8 r (.ins C dx fs5)) xs2 (L.sg.map fun c => (List.range L.n).map fun i => V.int (L.am i c)) := Tups.but (fun x => by intro q; cases q) hrH (But.here (But.refl r _)) (ha14.same s5)
            have hTX15 : (L2.upd H8 r (.ins C dx fs5)) tX = some (.tup ((List.range L.n).map fun i => V.int (L.tn i : Nat))) := (upd_ne (ne_of hl5 hrH (by intro q; cases q))).trans hl5
            have hr15 : (L2.upd H8 r (.ins C dx fs5)) r = some (.ins C dx fs5) := upd_same
            generalize L2.upd H8 r (.ins C dx fs5) = H15 at B5 S5 hN15 hX15 hx15 hA15 ha15 hTX15 hr15 ⊢
            have pr15 : Prt L t rr u y as bs H15 := pr.but (fun x => by intro q; cases q) hp B5
            -- turn_amounts
            refine ⟨_, rfl, u, rfl, ⟨_, SqT.of pr15.hu⟩, fun D hD => lc_it (walk_tup (xs := bs.map V.ref)) (fun k H5 => H5 D = some (.lst ((List.range k).map fun i => V.int (L.ta i))) ∧ Same H15 H5) ⟨upd_same, Same.put (Same.refl H15) hD⟩ (fun _ _ _ h => SqT.of (h.2 _ _ pr15.hu)) ?_ ?_⟩
            · rintro k' x H5 H6 hk ⟨g1, g2⟩ ⟨rfl, hx⟩
              rw [List.getElem?_map] at hx
              obtain ⟨b, hb, rfl⟩ := Option.map_eq_some_iff.mp hx
              rw [List.length_map] at hk
              have hk6 : k' < L.n := by have q := pr.hU.length; rw [List.length_map, turns_length] at q; omega
              have hv := (pr15.same g2).hU.get hb (by rw [List.getElem?_map, turns_at hk6] <;> rfl)
              refine ⟨rfl, _, rfl, _, _, _, _, rfl, rfl, SqT.of hv, atI_nat (j := 2) rfl, _, g1, ?_, ?_, Same.new' g2 hD⟩
              · rw [List.length_map, List.length_range, sizeLine_eq]
                omega
              · rw [upd_same, List.range_succ, List.map_append] <;> rfl
            · rintro H7 ⟨g1, g2⟩
              rw [List.length_map, bs_len pr.hU] at g1
              refine ⟨D, _, rfl, .inl ⟨SqL.of g1, fun tA hl => ?_⟩⟩
              have s5 := Same.put (o := .tup ((List.range L.n).map fun i => V.int (L.ta i))) g2 hl
              have hl5 : (L2.upd H7 tA (.tup ((List.range L.n).map fun i => V.int (L.ta i)))) tA = some (.tup ((List.range L.n).map fun i => V.int (L.ta i))) := upd_same
              generalize L2.upd H7 tA (.tup ((List.range L.n).map fun i => V.int (L.ta i))) = H8 at s5 hl5 ⊢
              refine ⟨_, rfl, r, C, dx, _, rfl, s5 _ _ hr15, T.cl, T.n5, (by rw [← ef5, ← ef4, ← ef]; show 4 < 1000; decide), ?_⟩
              have hrH := s5 _ _ hr15
              generalize ef6 : putF "turn_amounts" (.ref tA) fs5 = fs6
              have lk6 : fs6.lookup ("number" : Str) = some (.ref dN) := by rw [← ef6, lookup_putF, if_neg (by decide +kernel)]; exact lk5
              have B6 : But r H (L2.upd H8 r (.ins C dx fs6)) := But.here (B5.trans (But.of s5))
              have S6 : Same H0 (L2.upd H8 r (.ins C dx fs6)) := Same.new' (S5.trans s5) r0
              have hN16 : (L2.upd H8 r (.ins C dx fs6)) dN = some (.dK (nums L)) := (upd_ne (ne_of (s5 _ _ hN15) hrH (by intro q; cases q))).trans (s5 _ _ hN15)
              have hX16 : (L2.upd H8 r (.ins C dx fs6)) dX = some (.dK ((L.sg.map kS).zip (xs.map V.ref))) := (upd_ne (ne_of (s5 _ _ hX15) hrH (by intro q; cases q))).trans (s5 _ _ hX15)
              have hx16 : Tups (L2.upd H8 r (.ins C dx fs6)) xs (L.sg.map fun c => (List.range L.n).map fun i => V.int (L.nx i c : Nat)) := Tups.but (fun x => by intro q; cases q) hrH (But.here (But.refl r _)) (hx15.same s5)
              have hA16 : (L2.upd H8 r (.ins C dx fs6)) dA = some (.dK ((L.sg.map kS).zip (xs2.map V.ref))) := (upd_ne (ne_of (s5 _ _ hA15) hrH (by intro q; cases q))).trans (s5 _ _ hA15)
              have ha16 : Tups (L2.upd H8 r (.ins C dx fs6)) xs2 (L.sg.map fun c => (List.range L.n).map fun i => V.int (L.am i c)) := Tups.but (fun x => by intro q; cases q) hrH (But.here (But.refl r _)) (ha15.same s5)
              have hTX16 : (L2.upd H8 r (.ins C dx fs6)) tX = some (.tup ((List.range L.n).map fun i => V.int (L.tn i : Nat))) := (upd_ne (ne_of (s5 _ _ hTX15) hrH (by intro q; cases q))).trans (s5 _ _ hTX15)
              have hTA16 : (L2.upd H8 r (.ins C dx fs6)) tA = some (.tup ((List.range L.n).map fun i => V.int (L.ta i))) := (upd_ne (ne_of hl5 hrH (by intro q; cases q))).trans hl5
              have hr16 : (L2.upd H8 r (.ins C dx fs6)) r = some (.ins C dx fs6) := upd_same
              generalize L2.upd H8 r (.ins C dx fs6) = H16 at B6 S6 hN16 hX16 hx16 hA16 ha16 hTX16 hTA16 hr16 ⊢
              have pr16 : Prt L t rr u y as bs H16 := pr.but (fun x => by intro q; cases q) hp B6
              -- says
              refine ⟨_, rfl, t, rfl, ⟨_, SqT.of pr16.ht⟩, fun D hD => lc_it (walk_tup (xs := L.st.map V.str)) (fun k H5 => H5 D = some (.lst ((List.range k).map fun i => V.bl (L.ys i))) ∧ Same H16 H5) ⟨upd_same, Same.put (Same.refl H16) hD⟩ (fun _ _ _ h => SqT.of (h.2 _ _ pr16.ht)) ?_ ?_⟩
              · rintro k' x H5 H6 hk ⟨g1, g2⟩ ⟨rfl, hx⟩
                rw [List.getElem?_map] at hx
                rw [List.length_map] at hk
                rw [nm_at (L := L) hk] at hx
                cases hx
                refine ⟨rfl, _, rfl, _, rfl, y, _, rfl, .inr (SqT.of ((pr16.same g2).hy)), rfl, flat_strs _, _, g1, ?_, ?_, Same.new' g2 hD⟩
                · rw [List.length_map, List.length_range, sizeLine_eq]
                  omega
                · rw [upd_same, inV_strs, yes_at O hk, List.range_succ, List.map_append] <;> rfl
              · rintro H7 ⟨g1, g2⟩
                rw [List.length_map, show L.st.length = L.n from rfl] at g1
                refine ⟨D, _, rfl, .inl ⟨SqL.of g1, fun tY hl => ?_⟩⟩
                have s5 := Same.put (o := .tup ((List.range L.n).map fun i => V.bl (L.ys i))) g2 hl
                have hl5 : (L2.upd H7 tY (.tup ((List.range L.n).map fun i => V.bl (L.ys i)))) tY = some (.tup ((List.range L.n).map fun i => V.bl (L.ys i))) := upd_same
                generalize L2.upd H7 tY (.tup ((List.range L.n).map fun i => V.bl (L.ys i))) = H8 at s5 hl5 ⊢
                refine ⟨_, rfl, r, C, dx, _, rfl, s5 _ _ hr16, T.cl, T.n6, (by rw [← ef6, ← ef5, ← ef4, ← ef]; show 5 < 1000; decide), ?_⟩
                have hrH := s5 _ _ hr16
                generalize ef7 : putF "says" (.ref tY) fs6 = fs7
                have lk7 : fs7.lookup ("number" : Str) = some (.ref dN) := by rw [← ef7, lookup_putF, if_neg (by decide +kernel)]; exact lk6
                have B7 : But r H (L2.upd H8 r (.ins C dx fs7)) := But.here (B6.trans (But.of s5))
                have S7 : Same H0 (L2.upd H8 r (.ins C dx fs7)) := Same.new' (S6.trans s5) r0
                have hN17 : (L2.upd H8 r (.ins C dx fs7)) dN = some (.dK (nums L)) := (upd_ne (ne_of (s5 _ _ hN16) hrH (by intro q; cases q))).trans (s5 _ _ hN16)
                have hX17 : (L2.upd H8 r (.ins C dx fs7)) dX = some (.dK ((L.sg.map kS).zip (xs.map V.ref))) := (upd_ne (ne_of (s5 _ _ hX16) hrH (by intro q; cases q))).trans (s5 _ _ hX16)
                have hx17 : Tups (L2.upd H8 r (.ins C dx fs7)) xs (L.sg.map fun c => (List.range L.n).map fun i => V.int (L.nx i c : Nat)) := Tups.but (fun x => by intro q; cases q) hrH (But.here (But.refl r _)) (hx16.same s5)
                have hA17 : (L2.upd H8 r (.ins C dx fs7)) dA = some (.dK ((L.sg.map kS).zip (xs2.map V.ref))) := (upd_ne (ne_of (s5 _ _ hA16) hrH (by intro q; cases q))).trans (s5 _ _ hA16)
                have ha17 : Tups (L2.upd H8 r (.ins C dx fs7)) xs2 (L.sg.map fun c => (List.range L.n).map fun i => V.int (L.am i c)) := Tups.but (fun x => by intro q; cases q) hrH (But.here (But.refl r _)) (ha16.same s5)
                have hTX17 : (L2.upd H8 r (.ins C dx fs7)) tX = some (.tup ((List.range L.n).map fun i => V.int (L.tn i : Nat))) := (upd_ne (ne_of (s5 _ _ hTX16) hrH (by intro q; cases q))).trans (s5 _ _ hTX16)
                have hTA17 : (L2.upd H8 r (.ins C dx fs7)) tA = some (.tup ((List.range L.n).map fun i => V.int (L.ta i))) := (upd_ne (ne_of (s5 _ _ hTA16) hrH (by intro q; cases q))).trans (s5 _ _ hTA16)
                have hTY17 : (L2.upd H8 r (.ins C dx fs7)) tY = some (.tup ((List.range L.n).map fun i => V.bl (L.ys i))) := (upd_ne (ne_of hl5 hrH (by intro q; cases q))).trans hl5
                have hr17 : (L2.upd H8 r (.ins C dx fs7)) r = some (.ins C dx fs7) := upd_same
                generalize L2.upd H8 r (.ins C dx fs7) = H17 at B7 S7 hN17 hX17 hx17 hA17 ha17 hTX17 hTA17 hTY17 hr17 ⊢
                have pr17 : Prt L t rr u y as bs H17 := pr.but (fun x => by intro q; cases q) hp B7
                refine k H17 S7 ⟨dx, dN, dX, dA, tX, tA, tY, xs, xs2, ?_, hX17, hx17, hA17, ha17, hTX17, hTA17, hTY17⟩
                rw [hr17, ← ef7, ← ef6, ← ef5, ← ef4, ← ef] <;> rfl
end
end Wb
/-! one round by the table -/
namespace Wb
open PySem L2 WbMin WbS Lz
def LD.stp (L : LD) (p : Nat × Int) (c : Nat) : Nat × Int := (L.nx p.1 c, p.2 + L.am p.1 c)
def LD.wk (L : LD) (w : List Nat) (i : Nat) : Nat × Int := w.foldl L.stp (i, 0)
def LD.gone (L : LD) (w : List Nat) (i : Nat) : Nat × Int := (L.tn (L.wk w i).1, (L.wk w i).2 + L.ta (L.wk w i).1)
theorem wk_lt {L : LD} (O : L.Ok) {i : Nat} (hi : i < L.n) : ∀ {w : List Nat}, (∀ c ∈ w, c ∈ L.sg) → (L.wk w i).1 < L.n := by
  intro w
  unfold LD.wk
  have gen : ∀ (w : List Nat) (p : Nat × Int), p.1 < L.n → (∀ c ∈ w, c ∈ L.sg) → (w.foldl L.stp p).1 < L.n := by
    intro w
    induction w with
    | nil => exact fun p h _ => h
    | cons c w ih => exact fun p h hw => ih _ (O.nxlt _ _ h (hw c List.mem_cons_self)) fun d hd => hw d (List.mem_cons_of_mem _ hd)
  exact fun hw => gen w (i, 0) hi hw
theorem gone_lt {L : LD} (O : L.Ok) {i : Nat} (hi : i < L.n) {w : List Nat} (hw : ∀ c ∈ w, c ∈ L.sg) : (L.gone w i).1 < L.n := O.tnlt _ (wk_lt O hi hw)
theorem TableAt.same {C : Addr} {H H' : Hp} {r : Addr} {L : LD} (s : Same H H') (h : TableAt C H r L) : TableAt C H' r L := by
  obtain ⟨dx, dN, dX, dA, tX, tA, tY, xs, as, h0, hX, hx, hA, ha, hTX, hTA, hTY⟩ := h
  exact ⟨dx, dN, dX, dA, tX, tA, tY, xs, as, s _ _ h0, s _ _ hX, hx.same s, s _ _ hA, ha.same s, s _ _ hTX, s _ _ hTA, s _ _ hTY⟩
theorem TableAt.but {C D : Addr} {H H' : Hp} {r tb dx : Addr} {fs : List (Str × V)} {L : LD} (h : TableAt C H tb L) (n : tb ≠ r) (hr : H r = some (.ins D dx fs)) (s : But r H H') : TableAt C H' tb L := by
  obtain ⟨dx, dN, dX, dA, tX, tA, tY, xs, as, h0, hX, hx, hA, ha, hTX, hTA, hTY⟩ := h
  exact ⟨dx, dN, dX, dA, tX, tA, tY, xs, as, s _ _ n h0, s _ _ (ne_of hX hr (by intro q; cases q)) hX, hx.but (fun x => by intro q; cases q) hr s, s _ _ (ne_of hA hr (by intro q; cases q)) hA, ha.but (fun x => by intro q; cases q) hr s, s _ _ (ne_of hTX hr (by intro q; cases q)) hTX, s _ _ (ne_of hTA hr (by intro q; cases q)) hTA, s _ _ (ne_of hTY hr (by intro q; cases q)) hTY⟩
theorem ne_of_none' {H : Hp} {a b : Addr} {o : HO} (h : H a = some o) (h' : H b = none) : b ≠ a := (ne_of_none h h').symm
theorem map_get {α β : Type} {g : α → β} {l : List α} {j : Nat} {x : α} (h : l[j]? = some x) : (l.map g)[j]? = some (g x) := by
  rw [List.getElem?_map, h] <;> rfl
section
variable {P : Program} {w : World} {K : PySem.W.Frag} {mg : Str → Option Value} {base : Heap} {f C : Addr} {fd : FuncData}
end
end Wb
/-! where a map leads, again and again -/
namespace Wb
open PySem L2 WbMin WbS Lz
abbrev sCoInit : Stmt := inClass (top 40) 0
abbrev sCoPlace : Stmt := inClass (top 40) 1
abbrev sCoBehind : Stmt := inClass (top 40) 2
/-- the state behind m rounds -/
def it (g : Nat → Nat) : Nat → Nat
  | 0 => 0
  | m + 1 => g (it g m)
theorem it_lt {g : Nat → Nat} {n : Nat} (h0 : 0 < n) (h : ∀ i, i < n → g i < n) : ∀ m, it g m < n
  | 0 => h0
  | m + 1 => h _ (it_lt h0 h m)
theorem it_add {g : Nat → Nat} {a b : Nat} (h : it g a = it g b) : ∀ d, it g (a + d) = it g (b + d)
  | 0 => h
  | d + 1 => congrArg g (it_add h d)
/-- what a course knows: k states, those from h on come again -/
structure Crs (g : Nat → Nat) (n k h : Nat) : Prop where
  lt : h < k
  le : k ≤ n
  eq : it g k = it g h
  nd : ∀ i j, i < j → j < k → it g i ≠ it g j
theorem Crs.mul {g : Nat → Nat} {n k h : Nat} (c : Crs g n k h) : ∀ (q m : Nat), h ≤ m → it g (m + q * (k - h)) = it g m
  | 0, m, _ => by rw [Nat.zero_mul, Nat.add_zero]
  | q + 1, m, hm => by
    have e : m + (q + 1) * (k - h) = k + (m - h + q * (k - h)) := by
      have := c.lt
      rw [Nat.add_mul]
      omega
    rw [e, it_add c.eq, show h + (m - h + q * (k - h)) = m + q * (k - h) by omega, Crs.mul c q m hm]
theorem Crs.place {g : Nat → Nat} {n k h m : Nat} (c : Crs g n k h) (hm : k ≤ m) : h + (m - h) % (k - h) < k ∧ it g (h + (m - h) % (k - h)) = it g m := by
  have lt := c.lt
  have pos : 0 < k - h := by omega
  have := Nat.mod_lt (m - h) pos
  refine ⟨by omega, ?_⟩
  have e := c.mul ((m - h) / (k - h)) (h + (m - h) % (k - h)) (by omega)
  have d := Nat.mod_add_div (m - h) (k - h)
  rw [Nat.mul_comm] at d
  rw [← e]
  congr 1
  omega
def nat (g : Nat → Nat) (k : Nat) : List V := (List.range k).map fun m => V.int (it g m : Nat)
def cf (p : Addr) (h k : Nat) : List (Str × V) := putF "again" (.int ((k : Int) - (h : Int))) (putF "head" (.int (h : Nat)) (putF "path" (.ref p) []))
/-- the course stands -/
def CourseAt (C : Addr) (H : Hp) (r : Addr) (g : Nat → Nat) (k h : Nat) : Prop := ∃ dx p, H r = some (.ins C dx (cf p h k)) ∧ H p = some (.lst (nat g k))
theorem CourseAt.same {C : Addr} {H H' : Hp} {r : Addr} {g : Nat → Nat} {k h : Nat} (s : Same H H') : CourseAt C H r g k h → CourseAt C H' r g k h := fun ⟨dx, p, a, b⟩ => ⟨dx, p, s _ _ a, s _ _ b⟩
structure CTxt (K : PySem.W.Frag) (mg : Str → Option Value) (C : Addr) : Prop where
  cl : Cls K C
  n1 : NoAttr K C "path"
  n2 : NoAttr K C "head"
  n3 : NoAttr K C "again"
section
variable {X : Cx}
end
section
variable {P : Program} {w : World} {K : PySem.W.Frag} {mg : Str → Option Value} {base : Heap} {f fP C : Addr} {fd dP : FuncData}
end
end Wb
/-! sorted texts: one order alone -/
namespace Wb
open PySem L2 WbMin WbS
theorem not_lt_trans {a b c : List Nat} (h1 : ¬ b < a) (h2 : ¬ c < b) : ¬ c < a := fun q => by
  have h1' : a ≤ b := h1
  have h2' : b ≤ c := h2
  exact List.le_trans h1' h2' q
def leS (a b : Str) : Prop := ¬ b.cps.toList < a.cps.toList
theorem leS_trans {a b c : Str} (h1 : leS a b) (h2 : leS b c) : leS a c := not_lt_trans h1 h2
theorem lt_of_ltCps {a b : List Nat} : PySem.Spec.ltCps a b = false ↔ ¬ a < b := by
  rw [PyProof.Rows.ltCps_eq, decide_eq_false_iff_not]
theorem rising_pw : ∀ (l : List Str) (p : Str), PyProof.Rows.risingS p l = true → (p :: l).Pairwise leS
  | [], p, _ => List.pairwise_singleton _ _
  | x :: r, p, h => by
    have h' : (!PySem.Spec.ltCps x.cps.toList p.cps.toList && PyProof.Rows.risingS x r) = true := h
    rw [Bool.and_eq_true, Bool.not_eq_true'] at h'
    have px : leS p x := lt_of_ltCps.mp h'.1
    have ih := rising_pw r x h'.2
    refine List.pairwise_cons.mpr ⟨fun y hy => ?_, ih⟩
    rcases List.mem_cons.mp hy with rfl | hy
    · exact px
    · exact leS_trans px ((List.pairwise_cons.mp ih).1 y hy)
theorem sorted_pw : ∀ {l : List Str}, PyProof.Rows.sortedS l = true → l.Pairwise leS
  | [], _ => .nil
  | x :: r, h => rising_pw r x h
theorem leS_anti {a b : Str} (h1 : leS a b) (h2 : leS b a) : a = b := by
  have e : a.cps.toList = b.cps.toList := List.le_antisymm h1 h2
  rw [← S_of a, ← S_of b, e]
theorem sort_unique : ∀ {ys zs : List Str}, ys.Pairwise leS → zs.Pairwise leS → ys.Perm zs → ys = zs
  | [], zs, _, _, p => (List.Perm.nil_eq p)
  | y :: r, [], _, _, p => by cases List.Perm.eq_nil p
  | y :: r, z :: t, h1, h2, p => by
    have my : y ∈ z :: t := p.mem_iff.mp List.mem_cons_self
    have mz : z ∈ y :: r := p.mem_iff.mpr List.mem_cons_self
    have e : y = z := by
      rcases List.mem_cons.mp my with e | my
      · exact e
      · rcases List.mem_cons.mp mz with e | mz
        · exact e.symm
        · exact leS_anti ((List.pairwise_cons.mp h1).1 z mz) ((List.pairwise_cons.mp h2).1 y my)
    subst e
    rw [sort_unique (List.pairwise_cons.mp h1).2 (List.pairwise_cons.mp h2).2 (List.Perm.cons_inv p)]
/-- two sorted orders of the same texts -/
theorem sorted_same {ys zs : List Str} (h1 : PyProof.Rows.sortedS ys = true) (h2 : PyProof.Rows.sortedS zs = true) (p : ys.Perm zs) : ys = zs := sort_unique (sorted_pw h1) (sorted_pw h2) p
theorem perm_codes {ys : List Str} {l : List Nat} (h : ys.Perm (l.map sOne)) : ∃ m : List Nat, m.Perm l ∧ ys = m.map sOne := by
  have dec : ∀ c, (sOne c).cps.getD 0 0 = c := fun c => rfl
  refine ⟨ys.map fun z => z.cps.getD 0 0, ?_, ?_⟩
  · have q := h.map fun z => z.cps.getD 0 0
    rw [List.map_map, show (fun z : Str => z.cps.getD 0 0) ∘ sOne = id from funext dec, List.map_id] at q
    exact q
  · rw [List.map_map]
    have q : ∀ y ∈ ys, (sOne ∘ fun z : Str => z.cps.getD 0 0) y = y := fun y hy => by
      obtain ⟨c, _, rfl⟩ := List.mem_map.mp (h.mem_iff.mp hy)
      rfl
    exact (List.map_id' ys ▸ List.map_congr_left q).symm
theorem map_one {a b : List Nat} (h : a.map sOne = b.map sOne) : a = b := by
  have dec : ∀ l : List Nat, (l.map sOne).map (fun z : Str => z.cps.getD 0 0) = l := fun l => by
    rw [List.map_map, show (fun z : Str => z.cps.getD 0 0) ∘ sOne = id from funext fun _ => rfl, List.map_id]
  rw [← dec a, h, dec]
theorem sg_same {a b c : List Nat} (h1 : PyProof.Rows.sortedS (a.map sOne) = true) (h2 : PyProof.Rows.sortedS (b.map sOne) = true) (p1 : a.Perm c) (p2 : b.Perm c) : a = b :=
  map_one (sorted_same h1 h2 ((p1.trans p2.symm).map sOne))
theorem Sgs.perm {a b : List Nat} (h : Sgs b) (p : a.Perm b) : Sgs a := ⟨fun c hc => h.low c (p.mem_iff.mp hc), p.nodup_iff.mpr h.nd, by rw [p.length_eq]; exact h.pos, by rw [p.length_eq]; exact h.few⟩
end Wb
/-! a loop is made -/
namespace Wb
open PySem L2 WbMin WbS Lz
abbrev sLoInit : Stmt := inClass (top 49) 0
abbrev sLoRow : Stmt := inClass (top 49) 6
abbrev sLoAnswer : Stmt := inClass (top 49) 9
abbrev sLoState : Stmt := inClass (top 49) 10
abbrev sLoText : Stmt := inClass (top 49) 14
abbrev sLoGone : Stmt := inClass (top 49) 15
abbrev sLoOf : Stmt := inClass (top 49) 16
theorem FunD_ok' {P : Program} {w : World} {K : PySem.W.Frag} {mg : Str → Option Value} {base : Heap} {x qual : Str} {params : Arguments} {body : List Stmt} {scope : Scope} {dvs : List V} {kws : List (Str × V)} {f : Addr} {fd : FuncData} {N ps : List Str} {k : Nat} {sp : Sp} (F : FunD K x qual params body scope dvs kws f fd) (S : FnScope N ps scope) (len : ∀ vs H Q E, sp vs H Q E → vs.length = ps.length)
    (hbody : ∀ (cdv : Value) (A : Around) (outer : List Env) (s : Shared) (H : Hp) (vs : List V) (Q : VK) (E : XK), Room k (A.deeper (PyProof.Rows.envOfC qual scope s.heap.objs.size f cdv)) → sp vs H Q E →
      ∃ t, PSs (cxOf CX0 P w K mg base N qual scope f cdv A outer s H E).nox body t ∧ t { nx := fun _ H' => Q .non H', rt := Q } (start N vs) H) : FnOk P w K mg base CX0 (k + 1) f fd ps sp :=
  F.ok S len fun cdv A outer s H vs Q E hr hsp => by
    obtain ⟨t, h, q⟩ := hbody cdv A outer s H vs Q E hr hsp
    exact ⟨t, h.nox, q⟩
/-- n positional values, keywords by name; the positional defaults stand in a tuple -/
theorem FunD_kbk {K : PySem.W.Frag} {x qual : Str} {params : Arguments} {body : List Stmt} {scope : Scope} {dvs : List V} {kws : List (Str × V)} {f : Addr} {fd : FuncData} {ps : List Str} (F : FunD K x qual params body scope dvs kws f fd) (n : Nat) (ks : List Str) (g : {α : Type} → List α → List α → List α → List α) (hd : dvs ≠ [])
    (hrel : ∀ {vs ds zs : List V} {us its ws : List Value}, Vals vs us → Vals ds its → Vals zs ws → Vals (g vs ds zs) (g us its ws))
    (h : ∀ (T : Addr) (kV doc pm : Value) (an : Option Addr) (cdv ct : Value) (us its ws : List Value), us.length = n → its.length = dvs.length → ws.length = ks.length →
      ∃ k, bindArgs (PySem.W.fnOf x qual params body scope (.ref T) kV doc pm an cdv ct) ⟨us, ks.zip ws⟩ = seqItems? (.ref T) >>= k ∧ k (some its.toArray) = pure (ps.zip (g us its ws))) :
    ∃ its : List Value, KBn K fd ps n ks (fun us ws => g us its ws) (fun vs zs => g vs dvs zs) := by
  obtain ⟨oc, od, dV, kV, doc, pm, an, cdv, ct, osl, rfl, lk, hcd, hD, hK⟩ := F.ex
  rcases hD with ⟨e, _⟩ | ⟨_, T, o, its, m, rfl, lT, oT, rT⟩
  · exact absurd e hd
  · refine ⟨its, ⟨fun s us ws X l1 l2 => ?_, fun r1 r2 => hrel r1 rT r2⟩⟩
    obtain ⟨k, e1, e2⟩ := h T kV doc pm an cdv ct us its ws l1 rT.length.symm l2
    refine BindsTo.of_looks fun M => ?_
    rw [e1]
    exact looks_items X lT oT (.of_pure e2)
/-- Loop(signs, states, rows, turns, yes=yes) -/
def gL {α : Type} : List α → List α → List α → List α
  | [r, a, b, c, d], _, [y] => [r, a, b, c, d, y]
  | _, _, _ => []
theorem gL_rel {vs ds zs : List V} {us its ws : List Value} (a : Vals vs us) (b : Vals ds its) (c : Vals zs ws) : Vals (gL vs ds zs) (gL us its ws) := by
  cases a with
  | nil => exact .nil
  | cons p1 a => cases a with
    | nil => exact .nil
    | cons p2 a => cases a with
      | nil => exact .nil
      | cons p3 a => cases a with
        | nil => exact .nil
        | cons p4 a => cases a with
          | nil => exact .nil
          | cons p5 a => cases a with
            | cons _ _ => exact .nil
            | nil => cases c with
              | nil => exact .nil
              | cons q t => cases t with
                | cons _ _ => exact .nil
                | nil => exact .cons p1 (.cons p2 (.cons p3 (.cons p4 (.cons p5 (.cons q .nil)))))
def lf (z : Str) (t rr u y tb : Addr) : List (Str × V) := putF "_table" (.ref tb) (putF "_yes" (.ref y) (putF "_turns" (.ref u) (putF "_rows" (.ref rr) (putF "_states" (.ref t) (putF "_signs" (.str z) [])))))
theorem lf_look (z : Str) (t rr u y tb : Addr) : (lf z t rr u y tb).lookup ("_signs" : Str) = some (.str z) ∧ (lf z t rr u y tb).lookup ("_states" : Str) = some (.ref t) ∧ (lf z t rr u y tb).lookup ("_rows" : Str) = some (.ref rr) ∧ (lf z t rr u y tb).lookup ("_turns" : Str) = some (.ref u) ∧ (lf z t rr u y tb).lookup ("_yes" : Str) = some (.ref y) ∧ (lf z t rr u y tb).lookup ("_table" : Str) = some (.ref tb) := by
  unfold lf
  refine ⟨?_, ?_, ?_, ?_, ?_, ?_⟩ <;> repeat (first | rw [lookup_putF, if_neg (by decide +kernel)] | rw [lookup_putF, if_pos rfl])
/-- a loop stands at r: its class C, its table's class T -/
def LoopAt (C T : Addr) (H : Hp) (r : Addr) (L : LD) : Prop := ∃ (dx t rr u y tb : Addr) (as bs : List Addr), H r = some (.ins C dx (lf (S L.sg) t rr u y tb)) ∧ Prt L t rr u y as bs H ∧ TableAt T H tb L
theorem LoopAt.same {C T : Addr} {H H' : Hp} {r : Addr} {L : LD} (s : Same H H') : LoopAt C T H r L → LoopAt C T H' r L := fun ⟨dx, t, rr, u, y, tb, as, bs, a, b, c⟩ => ⟨dx, t, rr, u, y, tb, as, bs, s _ _ a, b.same s, c.same s⟩
/-- what the top has written of Loop -/
structure LTxt (K : PySem.W.Frag) (mg : Str → Option Value) (C : Addr) : Prop where
  cl : Cls K C
  n1 : NoAttr K C "_signs"
  n2 : NoAttr K C "_states"
  n3 : NoAttr K C "_rows"
  n4 : NoAttr K C "_turns"
  n5 : NoAttr K C "_yes"
  n6 : NoAttr K C "_table"
structure LA where
  (C T O fI fW fAn fSt fTx fGo fOf pW tI tG cI cP cB : Addr)
  (dI dW dAn dSt dTx dGo dOf etI etG ecI ecP ecB : FuncData)
  (signs signof first isword isname isint intfrom stateof rowof turnof chst chro chtu chye orro ortu orye : Addr)
  (dsigns dsignof dfirst disword disname disint dintfrom dstateof drowof dturnof dchst dchro dchtu dchye dorro dortu dorye : FuncData)
/-- what the top has written of loops, tables and courses -/
structure LoopF (K : PySem.W.Frag) (mg : Str → Option Value) (A : LA) (e : Addr) : Prop where
  L : LTxt K mg A.C
  T : TTxt K mg A.T
  O : CTxt K mg A.O
  gT : mg "Table" = some (.ref A.T)
  gO : mg "Course" = some (.ref A.O)
  gL : mg "Loop" = some (.ref A.C)
  ML : Mk K A.C A.fI
  MT : Mk K A.T A.tI
  MO : Mk K A.O A.cI
  FI : ∃ y : V, FunD K "__init__" "Loop.__init__" (defArgs sLoInit) (defBody sLoInit) (defScope sLoInit) [.ref e] [("yes", y)] A.fI A.dI
  kI : ∃ its : List Value, KBn K A.dI ["self", "signs", "states", "rows", "turns", "yes"] 5 ["yes"] (fun us ws => Wb.gL us its ws) (fun vs zs => Wb.gL vs [.ref e] zs)
  FW : Fun K "row" "Loop.row" sLoRow A.fW A.dW
  bW : Binds K A.dW ["self"] []
  hW : PropOf K A.C "row" A.pW A.fW
  FAn : Fun K "answer" "Loop.answer" sLoAnswer A.fAn A.dAn
  bAn : Binds K A.dAn ["self", "text", "lap"] []
  mAn : Meth K A.C "answer" A.fAn
  FSt : Fun K "state" "Loop.state" sLoState A.fSt A.dSt
  bSt : Binds K A.dSt ["self", "text", "rounds"] []
  mSt : Meth K A.C "state" A.fSt
  FTx : Fun K "_check_text" "Loop._check_text" sLoText A.fTx A.dTx
  bTx : Binds K A.dTx ["self", "text"] []
  mTx : Meth K A.C "_check_text" A.fTx
  FGo : Fun K "_gone" "Loop._gone" sLoGone A.fGo A.dGo
  bGo : Binds K A.dGo ["self", "text"] []
  mGo : Meth K A.C "_gone" A.fGo
  FOf : Fun K "_answer_of" "Loop._answer_of" sLoOf A.fOf A.dOf
  bOf : Binds K A.dOf ["self", "course", "counts", "lap"] []
  mOf : Meth K A.C "_answer_of" A.fOf
  TI : Fun K "__init__" "Table.__init__" sTaInit A.tI A.etI
  bTI : Binds K A.etI ["self", "row"] []
  TG : Fun K "gone" "Table.gone" sTaGone A.tG A.etG
  bTG : Binds K A.etG ["self", "text", "start"] []
  mTG : Meth K A.T "gone" A.tG
  OI : Fun K "__init__" "Course.__init__" sCoInit A.cI A.ecI
  bOI : Binds K A.ecI ["self", "leads"] []
  OP : Fun K "place" "Course.place" sCoPlace A.cP A.ecP
  bOP : Binds K A.ecP ["self", "rounds"] []
  mOP : Meth K A.O "place" A.cP
  OB : Fun K "behind" "Course.behind" sCoBehind A.cB A.ecB
  bOB : Binds K A.ecB ["self", "rounds"] []
  mOB : Meth K A.O "behind" A.cB
  signs : Def K mg "is_signs" sIsSigns ["value"] A.signs A.dsigns
  signof : Def K mg "is_sign_of" sSignOf ["value", "signs"] A.signof A.dsignof
  first : Def K mg "first_wrong" sFirst ["values", "right"] A.first A.dfirst
  isword : Def K mg "is_word" sIsWord ["value"] A.isword A.disword
  isname : Def K mg "is_name" sIsName ["value"] A.isname A.disname
  isint : Def K mg "is_integer" sIsInt ["value"] A.isint A.disint
  stateof : Def K mg "is_state_of" sStateOf ["value", "states"] A.stateof A.dstateof
  rowof : Def K mg "is_row_of" sRowOf ["value", "signs", "states"] A.rowof A.drowof
  turnof : Def K mg "is_turn_of" sTurnOf ["value", "states"] A.turnof A.dturnof
  chst : Def K mg "check_states" sChSt ["states"] A.chst A.dchst
  chro : Def K mg "check_rows" sChRo ["rows", "signs", "states"] A.chro A.dchro
  chtu : Def K mg "check_turns" sChTu ["turns", "states"] A.chtu A.dchtu
  chye : Def K mg "check_yes" sChYe ["yes", "states"] A.chye A.dchye
  orro : Def K mg "ordered_rows" sOrRo ["rows", "signs", "states"] A.orro A.dorro
  ortu : Def K mg "ordered_turns" sOrTu ["turns", "states"] A.ortu A.dortu
  orye : Def K mg "ordered_yes" sOrYe ["yes", "states"] A.orye A.dorye
  w600 : ∃ t : Tok, mg "MOST_WORD" = some (.int 600 t)
  w4 : ∃ t : Tok, mg "MOST_SIGNS" = some (.int 4 t)
  w8 : ∃ t : Tok, mg "MOST_NAME" = some (.int 8 t)
  w6 : ∃ t : Tok, mg "MOST_STATES" = some (.int 6 t)
  tup : mg "tuple" = none
  enum : mg "enumerate" = none
  zip : mg "zip" = none
  sort : mg "sorted" = none
/-! ### the mathematics -/
theorem nm_mem {L : LD} {i : Nat} (h : i < L.n) : L.nm i ∈ L.st := List.mem_of_getElem? (nm_at h)
theorem rows_key_nd {L : LD} (O : L.Ok) : (L.rows.map Row.k).Nodup := by
  unfold LD.rows
  rw [List.map_flatMap]
  have inner : ∀ i, ((L.sg.map (L.row i)).map Row.k) = L.sg.map fun c => (L.nm i, S [c]) := fun i => by rw [List.map_map] <;> rfl
  have e : ((List.range L.n).flatMap fun i => (L.sg.map (L.row i)).map Row.k) = (List.range L.n).flatMap fun i => L.sg.map fun c => (L.nm i, S [c]) := by
    congr 1
    funext i
    exact inner i
  rw [e]
  have gen : ∀ l : List Nat, l.Nodup → (∀ i ∈ l, i < L.n) → (l.flatMap fun i => L.sg.map fun c => (L.nm i, S [c])).Nodup := by
    intro l
    induction l with
    | nil => exact fun _ _ => List.nodup_nil
    | cons a l ih =>
      intro nd hl
      obtain ⟨h1, h2⟩ := List.nodup_cons.mp nd
      rw [List.flatMap_cons, List.nodup_append]
      refine ⟨List.Pairwise.map _ (fun b c h q => h (by
        injection q with _ q
        have := S_inj q
        injection this)) O.sgs.nd, ih h2 fun i hi => hl i (List.mem_cons_of_mem _ hi), fun x hx y hy q => ?_⟩
      subst q
      obtain ⟨c, _, rfl⟩ := List.mem_map.mp hx
      obtain ⟨b, hb, hy⟩ := List.mem_flatMap.mp hy
      obtain ⟨d, _, q⟩ := List.mem_map.mp hy
      injection q with q _
      have := nm_inj O (hl b (List.mem_cons_of_mem _ hb)) (hl a List.mem_cons_self) q
      exact h1 (this ▸ hb)
  exact gen _ List.nodup_range fun i hi => List.mem_range.mp hi
theorem rows_at {L : LD} {i j : Nat} {c : Nat} (hi : i < L.n) (hc : L.sg[j]? = some c) : L.rows[i * L.sg.length + j]? = some (L.row i c) := by
  have hj : j < L.sg.length := (List.getElem?_eq_some_iff.mp hc).1
  unfold LD.rows
  have gen : ∀ (l : List Nat) (i : Nat), i < l.length → (l.flatMap fun i => L.sg.map (L.row i))[i * L.sg.length + j]? = some (L.row (l.getD i 0) c) := by
    intro l
    induction l with
    | nil => exact fun _ h => nomatch h
    | cons a l ih =>
      intro i hi
      rw [List.flatMap_cons]
      cases i with
      | zero =>
        rw [Nat.zero_mul, Nat.zero_add, List.getElem?_append_left (by rw [List.length_map]; exact hj), List.getElem?_map, hc] <;> rfl
      | succ i =>
        rw [List.getElem?_append_right (by rw [List.length_map, Nat.add_mul]; omega), List.length_map, show (i + 1) * L.sg.length + j - L.sg.length = i * L.sg.length + j by rw [Nat.add_mul]; omega]
        exact ih i (by simpa using hi)
  have q := gen (List.range L.n) i (by rw [List.length_range]; exact hi)
  rw [q, List.getD_eq_getElem?_getD, List.getElem?_range hi] <;> rfl
theorem ok_st {L : LD} (O : L.Ok) {z : Str} (h : z ∈ L.st) : PyData.strOk z = true := by
  obtain ⟨l, rfl, N⟩ := O.sts.of z h
  unfold PyData.strOk
  rw [Array.all_eq_true]
  intro i hi
  have m : (S l).cps[i] ∈ l := by
    have q : (S l).cps[i] ∈ (S l).cps.toList := Array.mem_toList_iff.mpr (Array.getElem_mem hi)
    rwa [S_cps] at q
  have q := N.ok _ m
  simp only [decide_eq_true_eq]
  omega
theorem ok_sign {L : LD} (O : L.Ok) {c : Nat} (h : c ∈ L.sg) : PyData.strOk (S [c]) = true := by
  have q := O.sgs.low c h
  unfold PyData.strOk
  rw [Array.all_eq_true]
  intro i hi
  have m : (S [c]).cps[i] ∈ [c] := by
    have q : (S [c]).cps[i] ∈ (S [c]).cps.toList := Array.mem_toList_iff.mpr (Array.getElem_mem hi)
    rwa [S_cps] at q
  rw [List.mem_singleton.mp m]
  simp only [decide_eq_true_eq]
  omega
theorem rows_by {L : LD} (O : L.Ok) {as : List Addr} (len : as.length = L.rows.length) : RowsBy L.st L.sg (L.rows.map Row.k) as as := by
  refine ⟨by rw [len, rows_length] <;> rfl, fun i j z c hz hc => ?_⟩
  have hi : i < L.n := (List.getElem?_eq_some_iff.mp hz).1
  have e : L.nm i = z := Option.some.inj ((nm_at hi).symm.trans hz)
  have q := rows_at hi hc
  have lt : i * L.sg.length + j < L.rows.length := (List.getElem?_eq_some_iff.mp q).1
  refine ⟨i * L.sg.length + j, as[i * L.sg.length + j]'(by omega), ?_, List.getElem?_eq_getElem _, List.getElem?_eq_getElem _⟩
  rw [List.getElem?_map, q, ← e] <;> rfl
theorem turns_a {L : LD} : L.turns.map Trn.a = L.st := by
  refine List.ext_getElem? fun i => ?_
  rw [List.getElem?_map]
  by_cases h : i < L.n
  · rw [turns_at h, nm_at h] <;> rfl
  · have h' : ¬ i < L.st.length := h
    rw [List.getElem?_eq_none (by rw [turns_length]; omega), List.getElem?_eq_none (by omega)] <;> rfl
theorem turns_by {L : LD} (O : L.Ok) : L.st.map (turnOf L.turns) = L.turns := by
  refine List.ext_getElem? fun i => ?_
  rw [List.getElem?_map]
  by_cases h : i < L.n
  · rw [turns_at h, nm_at h]
    exact congrArg some (turnOf_at (i := i) (by rw [turns_a]; exact O.sts.nd) (turns_at h))
  · have h' : ¬ i < L.st.length := h
    rw [List.getElem?_eq_none (l := L.st) (by omega), List.getElem?_eq_none (l := L.turns) (by rw [turns_length]; omega)] <;> rfl
theorem yes_filter {L : LD} (O : L.Ok) : (L.st.filter fun z => decide (z ∈ L.yes)) = L.yes := by
  have e : L.st = (List.range L.n).map L.nm := by
    refine List.ext_getElem? fun i => ?_
    by_cases h : i < L.n
    · rw [nm_at h, List.getElem?_map, List.getElem?_range h] <;> rfl
    · have h' : ¬ i < L.st.length := h
      rw [List.getElem?_eq_none (by omega), List.getElem?_eq_none (by rw [List.length_map, List.length_range]; omega)]
  conv => lhs; rw [e]
  rw [List.filter_map]
  unfold LD.yes
  congr 1
  refine List.filter_congr fun i hi => ?_
  exact yes_at O (List.mem_range.mp hi)
theorem yes_sub {L : LD} : ∀ z ∈ L.yes, z ∈ L.st := fun z hz => by
  obtain ⟨i, hi, rfl⟩ := List.mem_map.mp hz
  exact nm_mem (List.mem_range.mp (List.mem_filter.mp hi).1)
theorem yes_nd {L : LD} (O : L.Ok) : L.yes.Nodup := by
  rw [← yes_filter O]
  exact O.sts.nd.filter _
theorem yes_few {L : LD} (O : L.Ok) : L.yes.length ≤ 6 := by
  rw [← yes_filter O]
  exact Nat.le_trans (List.length_filter_le _ _) O.sts.few
end Wb
/-! a loop is made: the defs -/
namespace Wb
open PySem L2 WbMin WbS Lz
theorem Prt.row {L : LD} {t rr u y q : Addr} {as bs : List Addr} {H : Hp} (h : Prt L t rr u y as bs H) (e : H q = some (.tup [.str (S L.sg), .ref t, .ref rr, .ref u, .ref y])) : RowAt H q L :=
  ⟨t, rr, u, y, as, bs, e, h.ht, h.hr, h.hT, h.hu, h.hU, h.hy⟩
def spLoRow (C : Addr) : Sp := fun vs H Q _ => ∃ (r dx t rr u y : Addr) (fs : List (Str × V)) (z : Str), vs = [.ref r] ∧ H r = some (.ins C dx fs) ∧ fs.lookup ("_signs" : Str) = some (.str z) ∧ fs.lookup ("_states" : Str) = some (.ref t) ∧ fs.lookup ("_rows" : Str) = some (.ref rr) ∧ fs.lookup ("_turns" : Str) = some (.ref u) ∧ fs.lookup ("_yes" : Str) = some (.ref y) ∧
  ∀ q, H q = none → Q (.ref q) (L2.upd H q (.tup [.str z, .ref t, .ref rr, .ref u, .ref y]))
def spLoInit (C T : Addr) : Sp := fun vs H Q _ => ∃ (H0 : Hp) (r dx t rr u y : Addr) (as bs : List Addr) (L : LD), vs = [.ref r, .str (S L.sg), .ref t, .ref rr, .ref u, .ref y] ∧ L.Ok ∧ PyProof.Rows.sortedS (L.sg.map sOne) = true ∧ Prt L t rr u y as bs H ∧ Same H0 H ∧ H0 r = none ∧ H r = some (.ins C dx []) ∧
  ∀ H' : Hp, Same H0 H' → LoopAt C T H' r L → Q .non H'
section
variable {P : Program} {w : World} {K : PySem.W.Frag} {mg : Str → Option Value} {base : Heap} {A : LA} {e : Addr}
theorem scLR : FnScope ["self"] ["self"] (defScope sLoRow) := ⟨rfl, rfl, rfl, by decide +kernel, rfl, by decide +kernel, by decide +kernel⟩
theorem ok_lorow (D : LoopF K mg A e) : FnOk P w K mg base CX0 1 A.fW A.dW ["self"] (spLoRow A.C) := by
  refine D.FW.ok scLR (fun vs H Q E h => ?_) (fun cdv A' outer s H vs Q E hr h => ?_)
  · obtain ⟨r, dx, t, rr, u, y, fs, z, rfl, _⟩ := h
    rfl
  · obtain ⟨r, dx, t, rr, u, y, fs, z, rfl, h0, l1, l2, l3, l4, l5, k⟩ := h
    refine ⟨_, pss_one (ps_ret (pe_tup (pa_cons (pe_fld (pv 0) rfl) (pa_cons (pe_fld (pv 0) rfl) (pa_cons (pe_fld (pv 0) rfl) (pa_cons (pe_fld (pv 0) rfl) (pa_cons (pe_fld (pv 0) rfl) pa_nil))))))), ?_⟩
    exact ⟨_, rfl, r, A.C, dx, _, _, rfl, h0, D.L.cl, D.L.n1, l1, _, rfl, r, A.C, dx, _, _, rfl, h0, D.L.cl, D.L.n2, l2, _, rfl, r, A.C, dx, _, _, rfl, h0, D.L.cl, D.L.n3, l3, _, rfl, r, A.C, dx, _, _, rfl, h0, D.L.cl, D.L.n4, l4, _, rfl, r, A.C, dx, _, _, rfl, h0, D.L.cl, D.L.n5, l5, (by show 5 ≤ sizeLine; decide), fun q hq => k q hq⟩
theorem scLI : FnScope ["self", "signs", "states", "rows", "turns", "yes"] ["self", "signs", "states", "rows", "turns", "yes"] (defScope sLoInit) := ⟨rfl, rfl, rfl, by decide +kernel, rfl, by decide +kernel, by decide +kernel⟩
set_option maxHeartbeats 0 in
theorem ok_loinit (D : LoopF K mg A e) (Z : Free mg) : FnOk P w K mg base CX0 4 A.fI A.dI ["self", "signs", "states", "rows", "turns", "yes"] (spLoInit A.C A.T) := by
  obtain ⟨t600, g600⟩ := D.w600
  obtain ⟨t4, g4⟩ := D.w4
  obtain ⟨t8, g8⟩ := D.w8
  obtain ⟨t6, g6⟩ := D.w6
  have GS : FnOk P w K mg base CX0 2 A.signs A.dsigns ["value"] spIsSigns := ok_issigns D.signs.F Z D.isword t600 g600 t4 g4
  have G1 : FnOk P w K mg base CX0 2 A.chst A.dchst ["states"] spChSt := ok_chst D.chst.F Z D.tup D.enum t8 g8 t6 g6 D.isname D.first
  have G2 : FnOk P w K mg base CX0 3 A.chro A.dchro ["rows", "signs", "states"] spChRo := ok_chro D.chro.F Z D.tup D.enum D.zip D.rowof D.stateof D.signof D.isint D.first
  have G3 : FnOk P w K mg base CX0 3 A.chtu A.dchtu ["turns", "states"] spChTu := ok_chtu D.chtu.F Z D.tup D.enum D.zip D.turnof D.stateof D.isint D.first
  have G4 : FnOk P w K mg base CX0 2 A.chye A.dchye ["yes", "states"] spChYe := ok_chye D.chye.F Z D.tup D.enum D.stateof D.first
  have O1 : FnOk P w K mg base CX0 1 A.orro A.dorro ["rows", "signs", "states"] spOrRo := ok_orro D.orro.F D.tup
  have O2 : FnOk P w K mg base CX0 1 A.ortu A.dortu ["turns", "states"] spOrTu := ok_ortu D.ortu.F D.tup
  have O3 : FnOk P w K mg base CX0 1 A.orye A.dorye ["yes", "states"] spOrYe := ok_orye D.orye.F D.tup
  have GT : FnOk P w K mg base CX0 1 A.tI A.etI ["self", "row"] (spTaInit A.T) := ok_tainit D.TI D.T Z D.tup D.enum
  have GW : FnOk P w K mg base CX0 1 A.fW A.dW ["self"] (spLoRow A.C) := ok_lorow D
  obtain ⟨_, FI⟩ := D.FI
  refine FunD_ok' FI scLI (fun vs H Q E h => ?_) (fun cdv A' outer s H vs Q E hr h => ?_)
  · obtain ⟨H0, r, dx, t, rr, u, y, as, bs, L, rfl, _⟩ := h
    rfl
  · obtain ⟨H0, r, dx, t, rr, u, y, as, bs, L, rfl, O, srtL, pr, s0, r0, hp, k⟩ := h
    have hr1 : Room 1 _ := hr.mono (by decide)
    have hr2 : Room 2 _ := hr.mono (by decide)
    refine ⟨_, pss_cons (ps_if (pt_not (pt_val (pe_call GS hr2 rfl D.signs.g D.signs.kp D.signs.b .nil pass0 (pa_cons (pv 1) pa_nil)))) (pss_one ps_never) pss_nil)
      (pss_cons (ps_expr (pe_call G1 hr2 rfl D.chst.g D.chst.kp D.chst.b .nil pass0 (pa_cons (pv 2) pa_nil)))
      (pss_cons (ps_expr (pe_call G2 hr rfl D.chro.g D.chro.kp D.chro.b .nil pass0 (pa_cons (pv 3) (pa_cons (pv 1) (pa_cons (pv 2) pa_nil)))))
      (pss_cons (ps_expr (pe_call G3 hr rfl D.chtu.g D.chtu.kp D.chtu.b .nil pass0 (pa_cons (pv 4) (pa_cons (pv 2) pa_nil))))
      (pss_cons (ps_expr (pe_call G4 hr2 rfl D.chye.g D.chye.kp D.chye.b .nil pass0 (pa_cons (pv 5) (pa_cons (pv 2) pa_nil))))
      (pss_cons (ps_fld (pv 0) (pe_join pe_str (pe_callB (call_sortedTx rfl) (by rfl) D.sort (by decide +kernel) (pa_cons (pv 1) pa_nil))) rfl)
      (pss_cons (ps_fld (pv 0) (pv 2) rfl)
      (pss_cons (ps_fld (pv 0) (pe_call O1 hr1 rfl D.orro.g D.orro.kp D.orro.b .nil pass0 (pa_cons (pv 3) (pa_cons (pe_fld (pv 0) rfl) (pa_cons (pv 2) pa_nil)))) rfl)
      (pss_cons (ps_fld (pv 0) (pe_call O2 hr1 rfl D.ortu.g D.ortu.kp D.ortu.b .nil pass0 (pa_cons (pv 4) (pa_cons (pv 2) pa_nil))) rfl)
      (pss_cons (ps_fld (pv 0) (pe_call O3 hr1 rfl D.orye.g D.orye.kp D.orye.b .nil pass0 (pa_cons (pv 5) (pa_cons (pv 2) pa_nil))) rfl)
      (pss_one (ps_fld (pv 0) (pe_make D.MT GT hr2 rfl D.gT D.bTI .nil pass0 (pa_cons (pe_prop (pv 0) D.L.cl D.hW GW hr2 D.bW .nil pass0 rfl) pa_nil)) rfl))))))))))), ?_⟩
    have sf := O.sts.few
    have sgf := O.sgs.few
    have few := rows_few O
    have lenA : as.length = L.rows.length := by rw [pr.hT.length, List.length_map]
    have tl := turns_length L
    have n6 : L.n ≤ 6 := sf
    refine ⟨_, rfl, L.sg, rfl, O.sgs, fun H1 s1 => ⟨true, rfl, ?_⟩⟩
    have p1 := pr.same s1
    refine ⟨_, rfl, t, L.st, rfl, p1.ht, O.sts, fun H2 s2 => ?_⟩
    have p2 := p1.same s2
    refine ⟨_, rfl, _, rfl, _, rfl, rr, t, L.sg, as, L.rows, L.st, rfl, p2.hr, p2.hT, p2.ht, ?_, rows_key_nd O, ?_, sgf, sf, ?_, fun H3 s3 => ?_⟩
    · intro ρ hρ
      obtain ⟨i, c, hi, hc, rfl⟩ := rows_mem hρ
      exact ⟨nm_mem hi, hc, nm_mem (O.nxlt i c hi hc)⟩
    · intro ρ hρ
      obtain ⟨i, c, hi, hc, rfl⟩ := rows_mem hρ
      exact ⟨ok_st O (nm_mem hi), ok_sign O hc⟩
    · rw [rows_length, Nat.mul_comm] <;> rfl
    have p3 := p2.same s3
    refine ⟨_, rfl, _, rfl, u, t, bs, L.turns, L.st, rfl, p3.hu, p3.hU, p3.ht, ?_, by rw [turns_a]; exact O.sts.nd, by omega, fun H4 s4 => ?_⟩
    · intro ρ hρ
      obtain ⟨i, hi, rfl⟩ := List.mem_map.mp hρ
      have hi := List.mem_range.mp hi
      exact ⟨nm_mem hi, nm_mem (O.tnlt i hi)⟩
    have p4 := p3.same s4
    refine ⟨_, rfl, _, rfl, y, t, L.yes, L.st, rfl, p4.hy, p4.ht, yes_sub, yes_nd O, yes_few O, fun H5 s5 => ?_⟩
    have s05 : Same H H5 := (((s1.trans s2).trans s3).trans s4).trans s5
    have S5 : Same H0 H5 := s0.trans s05
    have hr5 : H5 r = some (.ins A.C dx []) := s05 _ _ hp
    clear p1 p2 p3 p4 s1 s2 s3 s4 s5
    -- signs
    have pos := O.sgs.pos
    refine ⟨⟨_, rfl⟩, _, rfl, S L.sg, rfl, by rw [S_len]; omega, fun ys p perm srt hp' => ?_⟩
    rw [S_cps] at perm
    obtain ⟨sg, hsg, rfl⟩ := perm_codes perm
    obtain rfl : sg = L.sg := sg_same srt srtL hsg (.refl _)
    have nrp : r ≠ p := ne_of_none hr5 hp'
    refine ⟨_, p, L.sg.map sOne, rfl, rfl, .inl (SqL.of upd_same), ?_, ?_⟩
    · have e1 : ((L.sg.map sOne).map fun x => x.length) = List.replicate L.sg.length 1 := by
        rw [List.map_map]
        exact List.map_eq_replicate_iff.mpr fun _ _ => rfl
      have e2 : (Str.ofString "").length = 0 := by decide +kernel
      rw [e1, e2, List.sum_replicate_nat]
      omega
    have ej : Txt.join (Str.ofString "") (L.sg.map sOne) = S L.sg := join_one pos
    rw [ej]
    refine ⟨_, rfl, r, A.C, dx, _, rfl, (upd_ne nrp).trans hr5, D.L.cl, D.L.n1, (by show 0 < 1000; decide), ?_⟩
    have B6 : But r H (L2.upd (L2.upd H5 p (.lst ((L.sg.map sOne).map V.str))) r (.ins A.C dx (putF "_signs" (.str (S L.sg)) []))) := But.here ((But.of s05).upd hp')
    have S6 : Same H0 (L2.upd (L2.upd H5 p (.lst ((L.sg.map sOne).map V.str))) r (.ins A.C dx (putF "_signs" (.str (S L.sg)) []))) := Same.new' (Same.put S5 hp') r0
    have hr6 : (L2.upd (L2.upd H5 p (.lst ((L.sg.map sOne).map V.str))) r (.ins A.C dx (putF "_signs" (.str (S L.sg)) []))) r = some (.ins A.C dx (putF "_signs" (.str (S L.sg)) [])) := upd_same
    generalize L2.upd (L2.upd H5 p (.lst ((L.sg.map sOne).map V.str))) r (.ins A.C dx (putF "_signs" (.str (S L.sg)) [])) = H6 at B6 S6 hr6 ⊢
    -- states
    refine ⟨_, rfl, _, rfl, r, A.C, dx, _, rfl, hr6, D.L.cl, D.L.n2, (by show 1 < 1000; decide), ?_⟩
    have B7 : But r H (L2.upd H6 r (.ins A.C dx (putF "_states" (.ref t) (putF "_signs" (.str (S L.sg)) [])))) := But.here B6
    have S7 : Same H0 (L2.upd H6 r (.ins A.C dx (putF "_states" (.ref t) (putF "_signs" (.str (S L.sg)) [])))) := Same.new' S6 r0
    have hr7 : (L2.upd H6 r (.ins A.C dx (putF "_states" (.ref t) (putF "_signs" (.str (S L.sg)) [])))) r = some (.ins A.C dx (putF "_states" (.ref t) (putF "_signs" (.str (S L.sg)) []))) := upd_same
    generalize L2.upd H6 r (.ins A.C dx (putF "_states" (.ref t) (putF "_signs" (.str (S L.sg)) []))) = H7 at B7 S7 hr7 ⊢
    have p7 : Prt L t rr u y as bs H7 := pr.but (fun x => by intro q; cases q) hp B7
    -- rows
    refine ⟨_, rfl, _, rfl, r, A.C, dx, _, _, rfl, hr7, D.L.cl, D.L.n1, (by rw [lookup_putF, if_neg (by decide +kernel), lookup_putF, if_pos rfl]), _, rfl, rr, t, L.sg, as, as, L.rows, L.st, rfl, p7.hr, p7.hT, p7.ht, rows_key_nd O, few, rows_by O lenA, by omega, fun rr' H8 n8 s8 hrr => ?_⟩
    refine ⟨_, rfl, r, A.C, dx, _, rfl, s8 _ _ hr7, D.L.cl, D.L.n3, (by show 2 < 1000; decide), ?_⟩
    have nrr : rr' ≠ r := ne_of_none' hr7 n8
    generalize e8 : putF "_rows" (.ref rr') (putF "_states" (.ref t) (putF "_signs" (.str (S L.sg)) [])) = fs8
    have B8 : But r H (L2.upd H8 r (.ins A.C dx fs8)) := But.here (B7.trans (But.of s8))
    have S8 : Same H0 (L2.upd H8 r (.ins A.C dx fs8)) := Same.new' (S7.trans s8) r0
    have hr8 : (L2.upd H8 r (.ins A.C dx fs8)) r = some (.ins A.C dx fs8) := upd_same
    have hrr8 : (L2.upd H8 r (.ins A.C dx fs8)) rr' = some (.tup (as.map V.ref)) := (upd_ne nrr).trans hrr
    generalize L2.upd H8 r (.ins A.C dx fs8) = H9 at B8 S8 hr8 hrr8 ⊢
    have p8 : Prt L t rr u y as bs H9 := pr.but (fun x => by intro q; cases q) hp B8
    -- turns
    refine ⟨_, rfl, _, rfl, u, t, bs, L.turns, L.st, rfl, p8.hu, p8.hU, p8.ht, by rw [turns_a]; exact O.sts.nd, by omega, sf, fun u' bs' H10 n10 s10 hu' hU' => ?_⟩
    rw [turns_by O] at hU'
    refine ⟨_, rfl, r, A.C, dx, _, rfl, s10 _ _ hr8, D.L.cl, D.L.n4, (by rw [← e8]; show 3 < 1000; decide), ?_⟩
    have nuu : u' ≠ r := ne_of_none' hr8 n10
    generalize e10 : putF "_turns" (.ref u') fs8 = fs10
    have B10 : But r H (L2.upd H10 r (.ins A.C dx fs10)) := But.here (B8.trans (But.of s10))
    have S10 : Same H0 (L2.upd H10 r (.ins A.C dx fs10)) := Same.new' (S8.trans s10) r0
    have hr10 : (L2.upd H10 r (.ins A.C dx fs10)) r = some (.ins A.C dx fs10) := upd_same
    have hrr10 : (L2.upd H10 r (.ins A.C dx fs10)) rr' = some (.tup (as.map V.ref)) := (upd_ne nrr).trans (s10 _ _ hrr8)
    have hu10 : (L2.upd H10 r (.ins A.C dx fs10)) u' = some (.tup (bs'.map V.ref)) := (upd_ne nuu).trans hu'
    have hU10 : Tups (L2.upd H10 r (.ins A.C dx fs10)) bs' (L.turns.map Trn.v) := Tups.but (fun x => by intro q; cases q) (s10 _ _ hr8) (But.here (But.refl r _)) hU'
    generalize L2.upd H10 r (.ins A.C dx fs10) = H11 at B10 S10 hr10 hrr10 hu10 hU10 ⊢
    have p10 : Prt L t rr u y as bs H11 := pr.but (fun x => by intro q; cases q) hp B10
    -- yes
    refine ⟨_, rfl, _, rfl, y, t, L.yes, L.st, rfl, p10.hy, p10.ht, sf, fun y' H12 n12 s12 hy' => ?_⟩
    rw [yes_filter O] at hy'
    refine ⟨_, rfl, r, A.C, dx, _, rfl, s12 _ _ hr10, D.L.cl, D.L.n5, (by rw [← e10, ← e8]; show 4 < 1000; decide), ?_⟩
    have nyy : y' ≠ r := ne_of_none' hr10 n12
    generalize e12 : putF "_yes" (.ref y') fs10 = fs12
    have B12 : But r H (L2.upd H12 r (.ins A.C dx fs12)) := But.here (B10.trans (But.of s12))
    have S12 : Same H0 (L2.upd H12 r (.ins A.C dx fs12)) := Same.new' (S10.trans s12) r0
    have hr12 : (L2.upd H12 r (.ins A.C dx fs12)) r = some (.ins A.C dx fs12) := upd_same
    have hy12 : (L2.upd H12 r (.ins A.C dx fs12)) y' = some (.tup (L.yes.map V.str)) := (upd_ne nyy).trans hy'
    have hrr12 : (L2.upd H12 r (.ins A.C dx fs12)) rr' = some (.tup (as.map V.ref)) := (upd_ne nrr).trans (s12 _ _ hrr10)
    have hu12 : (L2.upd H12 r (.ins A.C dx fs12)) u' = some (.tup (bs'.map V.ref)) := (upd_ne nuu).trans (s12 _ _ hu10)
    have hU12 : Tups (L2.upd H12 r (.ins A.C dx fs12)) bs' (L.turns.map Trn.v) := Tups.but (fun x => by intro q; cases q) (s12 _ _ hr10) (But.here (But.refl r _)) (hU10.same s12)
    generalize L2.upd H12 r (.ins A.C dx fs12) = H13 at B12 S12 hr12 hy12 hrr12 hu12 hU12 ⊢
    have p12 : Prt L t rr u y as bs H13 := pr.but (fun x => by intro q; cases q) hp B12
    have q12 : Prt L t rr' u' y' as bs' H13 := ⟨p12.ht, hrr12, p12.hT, hu12, hU12, hy12⟩
    -- the table
    have look : fs12.lookup ("_signs" : Str) = some (.str (S L.sg)) ∧ fs12.lookup ("_states" : Str) = some (.ref t) ∧ fs12.lookup ("_rows" : Str) = some (.ref rr') ∧ fs12.lookup ("_turns" : Str) = some (.ref u') ∧ fs12.lookup ("_yes" : Str) = some (.ref y') := by
      rw [← e12, ← e10, ← e8]
      refine ⟨?_, ?_, ?_, ?_, ?_⟩ <;> repeat (first | rw [lookup_putF, if_neg (by decide +kernel)] | rw [lookup_putF, if_pos rfl])
    obtain ⟨k1, k2, k3, k4, k5⟩ := look
    refine ⟨_, rfl, r, dx, _, rfl, hr12, r, dx, t, rr', u', y', _, _, rfl, hr12, k1, k2, k3, k4, k5, fun q hq tb dxt htb hdx ne => ?_⟩
    have sq := Same.put (o := .tup [.str (S L.sg), .ref t, .ref rr', .ref u', .ref y']) (Same.refl H13) hq
    have hq14 : (L2.upd H13 q (.tup [.str (S L.sg), .ref t, .ref rr', .ref u', .ref y'])) q = some (.tup [.str (S L.sg), .ref t, .ref rr', .ref u', .ref y']) := upd_same
    generalize L2.upd H13 q (.tup [.str (S L.sg), .ref t, .ref rr', .ref u', .ref y']) = H14 at sq hq14 htb hdx ⊢
    have sm : Same H14 (L2.upd (L2.upd H14 dxt (.own tb)) tb (.ins A.T dxt [])) := Same.new' (Same.new' (Same.refl H14) hdx) htb
    refine ⟨H14, tb, dxt, q, L, rfl, O, ((q12.same sq).same sm).row (sm _ _ hq14), sm, htb, upd_same, fun H15 s15 TA => ⟨rfl, ?_⟩⟩
    have s16 := sq.trans s15
    have ntb : tb ≠ r := ne_of_none' (sq _ _ hr12) htb
    refine ⟨_, rfl, r, A.C, dx, _, rfl, s16 _ _ hr12, D.L.cl, D.L.n6, (by rw [← e12, ← e10, ← e8]; show 5 < 1000; decide), ?_⟩
    have hr16 := s16 _ _ hr12
    refine k _ (Same.new' (S12.trans s16) r0) ⟨dx, t, rr', u', y', tb, as, bs', ?_, ?_, ?_⟩
    · rw [upd_same, ← e12, ← e10, ← e8] <;> rfl
    · exact (q12.same s16).but (o := .ins A.C dx fs12) (fun x => by intro q; cases q) hr16 (But.here (But.refl r _))
    · exact TA.but ntb hr16 (But.here (But.refl r _))
end
end Wb
/-! a loop is asked -/
namespace Wb
open PySem L2 WbMin WbS Lz
abbrev sIsIntF : Stmt := top 9
/-- where a round leads, and its count -/
def LD.lead (L : LD) (w : List Nat) (i : Nat) : Nat := (L.gone w i).1
def LD.cnt (L : LD) (w : List Nat) (i : Nat) : Int := (L.gone w i).2
theorem lf_none (z : Str) (t rr u y tb : Addr) : (lf z t rr u y tb).lookup ("_check_text" : Str) = none ∧ (lf z t rr u y tb).lookup ("_gone" : Str) = none ∧ (lf z t rr u y tb).lookup ("_answer_of" : Str) = none ∧ (lf z t rr u y tb).lookup ("answer" : Str) = none ∧ (lf z t rr u y tb).lookup ("state" : Str) = none := by
  unfold lf
  refine ⟨?_, ?_, ?_, ?_, ?_⟩ <;> (repeat rw [lookup_putF, if_neg (by decide +kernel)]) <;> rfl
section
variable {P : Program} {w : World} {K : PySem.W.Frag} {mg : Str → Option Value} {base : Heap} {A : LA} {e : Addr} {f fI : Addr} {fd dI : FuncData}
end
end Wb
/-! the ways of a statement, an expression and a test brought together -/
namespace Lz
open PySem PySem.Spec PyProof.Rows L2
section
variable {X : Cx}
def tJoin (t : TS) : TS := fun D σ H => ∃ T : L2.St → Hp → Prop, t { D with nx := T } σ H ∧ ∀ σ' H', T σ' H' → D.nx σ' H'
theorem ps_join {st : Stmt} {t : TS} (h : PS X st t) : PS X st (tJoin t) := by
  refine ⟨fun pins s σ H D I ⟨T, q, k⟩ => thn (h.run pins s σ H _ I q) fun f s' z => ?_⟩
  cases f with
  | next => obtain ⟨σ', H', I', w⟩ := z; exact ⟨σ', H', I', k _ _ w⟩
  | ret u => exact z
  | brk => exact z
  | cont => exact z
end
end Lz
namespace Wb
open PySem L2 WbMin WbS Lz
abbrev sName : Stmt := top 59
abbrev sNames : Stmt := top 60
abbrev sAmount : Stmt := top 61
def spName : Sp := fun vs H Q _ => ∃ (p F : Addr) (zs : List Str), vs = [.ref p, .ref F] ∧ PoolAt H p ∧ H F = some (.lst (zs.map V.str)) ∧ (∀ z ∈ zs, ∃ l, z = S l ∧ IsNm l) ∧ zs.length ≤ 8 ∧
  ∀ (l : List Nat) (H' : Hp), IsNm l → S l ∉ zs → PoolAt H' p → But p H H' → Q (.str (S l)) H'
def spNames : Sp := fun vs H Q _ => ∃ (p : Addr) (m : Nat), vs = [.ref p, .int (m : Nat)] ∧ 0 < m ∧ m ≤ 6 ∧ PoolAt H p ∧
  ∀ (a : Addr) (st : List Str) (H' : Hp), Sts st → st.length = m → H' a = some (.lst (st.map V.str)) → H a = none → PoolAt H' p → But p H H' → Q (.ref a) H'
def spAmount : Sp := fun vs H Q _ => ∃ (p : Addr) (b : Bool), vs = [.ref p, .bl b] ∧ PoolAt H p ∧ ∀ (m : Int) (H' : Hp), m.natAbs < 2 ^ 110 → PoolAt H' p → But p H H' → Q (.int m) H'
theorem join_any (l : List Nat) : Txt.join (Str.ofString "") (l.map one) = S l := by
  cases l with
  | cons c l => exact join_one (Nat.succ_pos _)
  | nil =>
    have e0 : (Str.ofString "" : Str) = S [] := by decide +kernel
    rw [e0]
    show Builtin.Str.glued (S []) [] = S []
    rw [StrLaws.glued_eq_join] <;> rfl
theorem pool_ne {H : Hp} {p F : Addr} {zs : List Str} (hp : PoolAt H p) (h : H F = some (.lst (zs.map V.str))) : F ≠ p := by
  obtain ⟨x, y, z, e3, _⟩ := hp
  intro q
  subst q
  rw [e3] at h
  injection h with q
  injection q with q
  cases zs with
  | nil => cases q
  | cons a zs => cases q
theorem nat_of {d : Int} (h : 0 ≤ d) : ∃ n : Nat, d = (n : Int) := ⟨d.toNat, (Int.toNat_of_nonneg h).symm⟩
def marks : List Nat := abc ++ (List.range 10).map (· + 48)
theorem marks_is : ("abcdefghijklmnopqrstuvwxyz0123456789" : Str) = S marks := by decide +kernel
theorem marks_len : marks.length = 36 := rfl
theorem marks_ok : ∀ c ∈ marks, (97 ≤ c ∧ c ≤ 122) ∨ (48 ≤ c ∧ c ≤ 57) := by unfold marks abc; decide
theorem marks_lo : ∀ i, i < 26 → 97 ≤ marks.getD i 0 ∧ marks.getD i 0 ≤ 122 := by unfold marks abc; decide
theorem cut_to {l : List Nat} {i : Nat} : cutS (S l) none (some (i : Int)) = S (l.take i) := by
  show S _ = S _
  rw [HT.sIx_none, HT.sIx_nat, S_len, S_cps, List.drop_zero, Nat.sub_zero]
  refine congrArg S ?_
  by_cases h : i ≤ l.length
  · rw [Nat.min_eq_left h]
  · rw [Nat.min_eq_right (by omega), List.take_length, List.take_of_length_le (by omega)]
theorem cut_from {l : List Nat} {i : Nat} : cutS (S l) (some (i : Int)) none = S (l.drop i) := by
  show S _ = S _
  rw [HT.sIx_none, HT.sIx_nat, S_len, S_cps]
  refine congrArg S ?_
  by_cases h : i ≤ l.length
  · rw [Nat.min_eq_left h]
    exact List.take_of_length_le (by rw [List.length_drop]; omega)
  · rw [Nat.min_eq_right (by omega), Nat.sub_self, List.take_zero, List.drop_eq_nil_of_le (by omega)]
theorem eqv_nil {α : Type} (f : α → PyData) : ∀ zs : List α, PyData.eqv (.list (zs.map f)) (.list []) = zs.isEmpty
  | [] => rfl
  | _ :: _ => rfl
theorem dp_strs {K : PySem.W.Frag} {H : Hp} : ∀ zs : List Str, DpAll K H (zs.map V.str) (zs.map PyData.str)
  | [] => .nil
  | z :: r => .cons (.str z) (dp_strs r)
theorem can_strs : ∀ {zs : List Str}, (∀ z ∈ zs, PyData.strOk z = true) → PyData.canLayAll0 (zs.map PyData.str) = true
  | [], _ => rfl
  | z :: r, h => by
    show (PyData.strOk z && PyData.canLayAll0 (r.map PyData.str)) = true
    rw [h z List.mem_cons_self, can_strs fun y q => h y (List.mem_cons_of_mem _ q)] <;> rfl
theorem shaped_strs {zs : List Str} (h : ∀ z ∈ zs, PyData.strOk z = true) : SeqAt.shaped (.list (zs.map PyData.str)) = true := by
  have d : PyData.depth (.list (zs.map PyData.str)) = 1 := by
    show PyData.depthAll (zs.map PyData.str) + 1 = 1
    rw [depthAll_strs]
  unfold SeqAt.shaped
  rw [d]
  show (PyData.canLayAll0 (zs.map PyData.str) && decide (1 ≤ 64)) = true
  rw [can_strs h] <;> rfl
theorem ok_codes {l : List Nat} (h : ∀ c ∈ l, c < 1000) : PyData.strOk (S l) = true := by
  unfold PyData.strOk
  rw [Array.all_eq_true]
  intro i hi
  have m : (S l).cps[i] ∈ l := by
    have q : (S l).cps[i] ∈ (S l).cps.toList := Array.mem_toList_iff.mpr (Array.getElem_mem hi)
    rwa [S_cps] at q
  have q := h _ m
  simp only [decide_eq_true_eq]
  omega
theorem IsNm.low {l : List Nat} (h : IsNm l) : ∀ c ∈ l, c < 1000 := fun c hc => by
  have := h.ok c hc
  omega
/-- the spare names -/
def spare : List Str := (marks.take 9).map fun c => S [122, c]
theorem spare_nm : ∀ z ∈ spare, ∃ l, z = S l ∧ IsNm l := fun z hz => by
  obtain ⟨c, hc, rfl⟩ := List.mem_map.mp hz
  refine ⟨_, rfl, by show 0 < 2; decide, by show 2 ≤ 8; decide, ⟨by show 97 ≤ 122; decide, by show 122 ≤ 122; decide⟩, fun d hd => ?_⟩
  rcases List.mem_cons.mp hd with rfl | hd
  · exact .inl ⟨by decide, by decide⟩
  · rw [List.mem_singleton.mp hd]
    exact marks_ok c (List.mem_of_mem_take hc)
theorem spare_nd : spare.Nodup := List.Pairwise.map _ (fun a b n e => n (by
  have q := S_inj e
  injection q with _ q
  injection q)) (show (marks.take 9).Nodup by unfold marks abc; decide)
theorem spare_len : spare.length = 9 := rfl
theorem spare_left {zs : List Str} (h : zs.length ≤ 8) (x : Str) : 0 < ((x :: spare).filter fun z => !decide (z ∈ zs)).length := by
  apply Nat.pos_of_ne_zero
  intro e
  have all : ∀ z ∈ spare, z ∈ zs := fun z hz => by
    have q := List.filter_eq_nil_iff.mp (List.eq_nil_of_length_eq_zero e) z (List.mem_cons_of_mem _ hz)
    simpa using q
  have := few_of_sub zs spare spare_nd all
  rw [spare_len] at this
  omega
section
variable {P : Program} {w : World} {K : PySem.W.Frag} {mg : Str → Option Value} {base : Heap} {f fD fN : Addr} {fd fdD dN : FuncData}
abbrev NNm : List Str := ["_law_pool_here", "_law_found", "_law_marks", "_law_near", "_law_turn", "_law_old", "_law_at", "_law_spares", "_law_mate", "_law_mark"]
theorem scNN : FnScope NNm ["_law_pool_here", "_law_found"] (defScope sName) := ⟨rfl, rfl, rfl, by decide +kernel, rfl, by decide +kernel, by decide +kernel⟩
set_option maxHeartbeats 0 in
theorem ok_name (F : Fun K "_law_name" "_law_name" sName f fd) (D : Def K mg "_law_draw" sDraw ["_law_pool_here", "_law_many"] fD fdD) (Z : Free mg) : FnOk P w K mg base CX0 2 f fd ["_law_pool_here", "_law_found"] spName := by
  have G : FnOk P w K mg base CX0 1 fD fdD ["_law_pool_here", "_law_many"] spDraw := ok_draw D.F Z.int Z.divmod
  refine F.ok scNN (fun vs H Q E h => ?_) (fun cdv A outer s H vs Q E hr h => ?_)
  · obtain ⟨p, F, zs, rfl, _⟩ := h
    rfl
  · obtain ⟨p, F, zs, rfl, hp, hF, nms, few, k⟩ := h
    refine ⟨_, pss_cons (ps_set (i := 2) scNN.nd rfl (.inr rfl) pe_str)
      (pss_cons (ps_set (i := 3) scNN.nd rfl (.inl rfl) (pe_ix ix_str (pv 2) (pe_call G hr rfl D.g D.kp D.b .nil pass0 (pa_cons (pv 0) (pa_cons pe_int pa_nil))) (fun _ _ => rfl)))
      (pss_cons (ps_set (i := 3) scNN.nd rfl (.inl rfl) (pe_op op_add_str (pv 3) (pe_join pe_str
        (pe_lc (own := [("_law_turn", 4)]) (g := gName 4) (tt := tYes) rfl scNN.nd (pi_range1 rfl Z.range (pa_cons (pe_call G hr rfl D.g D.kp D.b .nil pass0 (pa_cons (pv 0) (pa_cons pe_int pa_nil))) pa_nil))
          (blkOk_by (N := NNm) (sc := defScope sName) (by decide +kernel)) (fun _ _ _ _ _ => pg_name (i := 4) scNN.nd rfl (.inl rfl)) (fun _ _ _ _ _ => pts_nil)
          (fun _ _ _ _ _ => pe_ix ix_str (pv 2) (pe_call G hr rfl D.g D.kp D.b .nil pass0 (pa_cons (pv 0) (pa_cons pe_int pa_nil))) (fun _ _ => rfl))))))
      (pss_cons (ps_join (ps_if (PW.pt (pw_and (pt_cmpR (op_neD hr.units) (pv 1) (pe_lst pa_nil) (nomark _)) (pw_and1 (pt_cmpR op_gt (pe_call G hr rfl D.g D.kp D.b .nil pass0 (pa_cons (pv 0) (pa_cons pe_int pa_nil))) pe_int (nomark _)))))
        (pss_cons (ps_set (i := 5) scNN.nd rfl (.inl rfl) (pe_ix ix_list (pv 1) (pe_call G hr rfl D.g D.kp D.b .nil pass0 (pa_cons (pv 0) (pa_cons (pe_callB call_len_seq (by rfl) Z.len PySem.boot_len (pa_cons (pv 1) pa_nil)) pa_nil))) (fun _ _ => rfl)))
        (pss_cons (ps_set (i := 6) scNN.nd rfl (.inl rfl) (pe_op op_add pe_int (pe_call G hr rfl D.g D.kp D.b .nil pass0 (pa_cons (pv 0) (pa_cons (pe_callB call_len_str (by rfl) Z.len PySem.boot_len (pa_cons (pv 5) pa_nil)) pa_nil)))))
        (pss_one (ps_set (i := 3) scNN.nd rfl (.inl rfl) (pe_slice sl_str (pe_op op_add_str (pe_op op_add_str (pe_slice sl_str (pv 5) po_none (po_some (pv 6))) (pe_ix ix_str (pv 2) (pe_call G hr rfl D.g D.kp D.b .nil pass0 (pa_cons (pv 0) (pa_cons pe_int pa_nil))) (fun _ _ => rfl)))
          (pe_slice sl_str (pv 5) (po_some (pe_op op_add (pv 6) (pe_call G hr rfl D.g D.kp D.b .nil pass0 (pa_cons (pv 0) (pa_cons pe_int pa_nil))))) po_none)) po_none (po_some pe_int)))))) pss_nil))
      (pss_cons (ps_setLc (i := 7) (own := [("_law_mate", 8)]) (g := gName 8) rfl scNN.nd rfl rfl (sw_true rfl rfl rfl (by decide +kernel)) (pi_list (pe_op op_cat (pe_lst (pa_cons (pv 3) pa_nil))
          (pe_lc (own := [("_law_mark", 9)]) (g := gName 9) (tt := tYes) rfl scNN.nd (pi_str (pe_slice sl_str (pv 2) po_none (po_some pe_int))) (blkOk_by (N := NNm) (sc := defScope sName) (by decide +kernel)) (fun _ _ _ _ _ => pg_name (i := 9) scNN.nd rfl (.inl rfl)) (fun _ _ _ _ _ => pts_nil) (fun _ _ _ _ _ => pe_op op_add_str pe_str (pv 9)))))
          (blkOk_by (N := NNm) (sc := defScope sName) (by decide +kernel)) (fun _ _ _ _ _ => pg_name (i := 8) scNN.nd rfl (.inl rfl)) (fun _ _ _ _ _ => pts_one (pt_cmpR (show OpR _ _ (rIn K true) from op_notIn_seq) (pv 8) (pv 1) (by rfl))) (fun _ _ _ _ _ => pv 8))
      (pss_one (ps_ret (pe_ix ix_list (pv 7) pe_int (fun _ _ => rfl)))))))), ?_⟩
    have sM : ("abcdefghijklmnopqrstuvwxyz0123456789" : Str).length ≤ sizeLine := by rw [marks_is, S_len, marks_len, sizeLine_eq]; decide
    have pick : ∀ {e : Int}, 0 ≤ e → e < 36 → ∃ c ∈ marks, atI ("abcdefghijklmnopqrstuvwxyz0123456789" : Str).cps.toList e = some c := fun {e} e0 e1 => by
      obtain ⟨i, rfl⟩ := nat_of e0
      refine ⟨marks.getD i 0, ?_, ?_⟩
      · have q := getD_at (l := marks) (i := i) (by rw [marks_len]; omega)
        exact List.mem_of_getElem? q
      · rw [marks_is, S_cps]
        exact atI_nat (getD_at (by rw [marks_len]; omega))
    have nF := pool_ne hp hF
    refine ⟨_, rfl, _, rfl, p, _, rfl, by decide, by decide, hp, fun d H1 d0 d1 hp1 b1 => ?_⟩
    obtain ⟨i0, rfl⟩ := nat_of d0
    have i0' : i0 < 26 := by omega
    refine ⟨_, _, marks.getD i0 0, rfl, rfl, sM, by rw [marks_is, S_cps]; exact atI_nat (getD_at (by rw [marks_len]; omega)), ?_⟩
    have c0 := marks_lo i0 i0'
    generalize marks.getD i0 0 = c at c0 ⊢
    refine ⟨_, rfl, ⟨_, rfl⟩, _, rfl, p, _, rfl, by decide, by decide, hp1, fun m H2 m0 m1 hp2 b2 => ?_⟩
    have b2 := b1.trans b2
    refine ⟨_, rfl, by omega, by omega, fun D0 hD => ?_⟩
    have hD0 : H D0 = none := b2.free hD (hp2.ne hD)
    have nD := hp2.ne hD
    refine lc_it walk_range (fun i H3 => ∃ l : List Nat, H3 D0 = some (.lst (l.map vOne)) ∧ l.length = i ∧ (∀ c ∈ l, c ∈ marks) ∧ PoolAt H3 p ∧ But p H H3) ⟨[], upd_same, rfl, (fun c hc => nomatch hc), hp2.up hD, b2.upd hD⟩ (fun _ _ _ _ => trivial) ?_ ?_
    · rintro i x H3 H3' hi ⟨l, h1, ll, sub, h2, h3⟩ ⟨rfl, rfl⟩
      refine ⟨rfl, _, rfl, _, rfl, p, _, rfl, by decide, by decide, h2, fun e H4 e0 e1 hp4 b4 => ?_⟩
      obtain ⟨c, cm, hat⟩ := pick e0 e1
      refine ⟨_, _, c, rfl, rfl, sM, hat, _, b4 D0 _ nD h1, ?_, l ++ [c], ?_, ?_, fun z hz => ?_, hp4.put nD, (h3.trans b4).new hD0⟩
      · rw [List.length_map, sizeLine_eq]; omega
      · rw [upd_same, List.map_append] <;> rfl
      · rw [List.length_append, ll] <;> rfl
      · rcases List.mem_append.mp hz with hz | hz
        · exact sub z hz
        · rw [List.mem_singleton.mp hz]
          exact cm
    · rintro H3 ⟨l, h1, ll, sub, hp3, b3⟩
      have l7 : l.length ≤ 7 := by omega
      have h1' : H3 D0 = some (.lst ((l.map one).map V.str)) := by rw [h1, List.map_map] <;> rfl
      refine ⟨_, D0, l.map one, rfl, rfl, .inl (SqL.of h1'), ?_, ?_⟩
      · have e1 : ((l.map one).map fun x => x.length) = List.replicate l.length 1 := by
          rw [List.map_map]
          exact List.map_eq_replicate_iff.mpr fun _ _ => rfl
        have e2 : (Str.ofString "").length = 0 := by decide +kernel
        rw [e1, e2, List.sum_replicate_nat]
        omega
      rw [join_any]
      refine ⟨_, _, rfl, rfl, by rw [S_len, sizeLine_eq]; show 1 + l.length ≤ 16777216; omega, ?_⟩
      have en : (⟨#[c]⟩ : Str) ++ S l = S (c :: l) := by
        rw [show (⟨#[c]⟩ : Str) = S [c] from rfl, S_add] <;> rfl
      rw [en]
      have nm0 : IsNm (c :: l) := ⟨Nat.succ_pos _, by show l.length + 1 ≤ 8; omega, c0, fun d hd => by
        rcases List.mem_cons.mp hd with rfl | hd
        · exact .inl c0
        · exact marks_ok d (sub d hd)⟩
      refine ⟨fun σ H' => ∃ (l : List Nat) (v5 v6 : Option V), σ = [some (.ref p), some (.ref F), some (.str ("abcdefghijklmnopqrstuvwxyz0123456789" : Str)), some (.str (S l)), none, v5, v6, none, none, none] ∧ IsNm l ∧ PoolAt H' p ∧ But p H H', ?_, ?_⟩
      · have hF3 := b3 F _ nF hF
        refine ⟨_, rfl, by show 0 ≤ sizeLine; decide, fun M hM => ?_⟩
        have nM := hp3.ne hM
        have hF4 : (L2.upd H3 M (.lst [])) F = some (.lst (zs.map V.str)) := ((But.refl p H3).upd hM) _ _ nF hF3
        have hp4 := hp3.put (o := .lst []) nM
        have b4 := b3.upd (o := .lst []) hM
        have hM4 : (L2.upd H3 M (.lst [])) M = some (.lst []) := upd_same
        generalize L2.upd H3 M (.lst []) = H4 at hF4 hp4 b4 hM4 ⊢
        have oks : ∀ z ∈ zs, PyData.strOk z = true := fun z hz => by
          obtain ⟨l, rfl, N⟩ := nms z hz
          exact ok_codes N.low
        refine ⟨.list (zs.map PyData.str), .list [], .lst (SqL.of hF4) (dp_strs zs), .lst (SqL.of hM4) .nil, shaped_strs oks, rfl, _, rfl, ?_⟩
        rw [eqv_nil]
        show if (!zs.isEmpty) = true then _ else _
        cases hz : zs.isEmpty with
        | true => exact iteF (iteF ⟨c :: l, none, none, rfl, nm0, hp4, b4⟩)
        | false =>
          refine iteT ?_
          have zpos : 0 < zs.length := by
            cases zs with
            | nil => cases hz
            | cons _ _ => exact Nat.succ_pos _
          refine ⟨_, rfl, p, _, rfl, by decide, by decide, hp4, fun d H5 d0 d1 hp5 b5 => ?_⟩
          have b45 := b4.trans b5
          refine ⟨_, _, rfl, rfl, _, rfl, ite2 (fun _ => ?_) (fun _ => ⟨c :: l, none, none, rfl, nm0, hp5, b45⟩)⟩
          have hF5 := b5 F _ nF hF4
          refine ⟨_, rfl, _, rfl, _, rfl, F, _, rfl, .inl (SqL.of hF5), p, _, rfl, by rw [List.length_map]; omega, by rw [List.length_map]; omega, hp5, fun e H6 e0 e1 hp6 b6 => ?_⟩
          rw [List.length_map] at e1
          obtain ⟨j, rfl⟩ := nat_of e0
          have hj : j < zs.length := by omega
          have ez : zs[j]? = some zs[j] := List.getElem?_eq_getElem hj
          obtain ⟨lo, eo, No⟩ := nms _ (List.mem_of_getElem? ez)
          rw [eo] at ez
          have b56 := b45.trans b6
          have npos := No.pos
          have nfew := No.few
          refine ⟨F, _, _, _, rfl, rfl, SqL.of (b6 F _ nF hF5), atI_nat (map_get (g := V.str) ez), ?_⟩
          refine ⟨_, rfl, _, rfl, _, rfl, No.fits, p, _, rfl, by rw [S_len]; omega, by rw [S_len]; omega, hp6, fun e H7 e0 e1 hp7 b7 => ?_⟩
          rw [S_len] at e1
          obtain ⟨a, rfl⟩ := nat_of e0
          have ha : a < lo.length := by omega
          have b67 := b56.trans b7
          refine ⟨_, _, rfl, rfl, ?_⟩
          have e1a : (1 : Int) + (a : Int) = ((1 + a : Nat) : Int) := by omega
          refine ⟨_, rfl, _, rfl, _, rfl, S lo, rfl, No.fits, ?_⟩
          rw [e1a, cut_to]
          refine ⟨_, rfl, _, rfl, p, _, rfl, by decide, by decide, hp7, fun e H8 e0 e1 hp8 b8 => ?_⟩
          obtain ⟨x, xm, hat⟩ := pick e0 e1
          have b78 := b67.trans b8
          refine ⟨_, _, x, rfl, rfl, sM, hat, ?_⟩
          refine ⟨_, _, rfl, rfl, by rw [S_len, sizeLine_eq, List.length_take]; show _ + 1 ≤ 16777216; omega, ?_⟩
          rw [show (⟨#[x]⟩ : Str) = S [x] from rfl, S_add]
          refine ⟨_, rfl, _, rfl, _, rfl, p, _, rfl, by decide, by decide, hp8, fun e H9 e0 e1 hp9 b9 => ?_⟩
          obtain ⟨b, rfl⟩ := nat_of e0
          have b89 := b78.trans b9
          refine ⟨_, _, rfl, rfl, _, rfl, S lo, rfl, No.fits, ?_⟩
          have e1b : (1 : Int) + (a : Int) + (b : Int) = ((1 + a + b : Nat) : Int) := by omega
          rw [e1b, cut_from]
          refine ⟨_, _, rfl, rfl, by rw [S_len, S_len, sizeLine_eq, List.length_append, List.length_take, List.length_drop]; show _ + 1 + _ ≤ 16777216; omega, ?_⟩
          rw [S_add]
          refine ⟨8, rfl, _, rfl, by rw [S_len, sizeLine_eq, List.length_append, List.length_append, List.length_take, List.length_drop]; show _ + 1 + _ ≤ 16777216; omega, ?_⟩
          rw [show (8 : Int) = ((8 : Nat) : Int) from rfl, cut_to]
          refine ⟨((lo.take (1 + a) ++ [x]) ++ lo.drop (1 + a + b)).take 8, _, _, rfl, ?_, hp9, b89⟩
          cases lo with
          | nil => exact absurd npos (Nat.lt_irrefl 0)
          | cons y lo =>
            rw [show 1 + a = a + 1 from Nat.add_comm 1 a, List.take_succ_cons]
            refine ⟨?_, ?_, ?_, fun d hd => ?_⟩
            · show 0 < (y :: _).length
              exact Nat.succ_pos _
            · rw [List.length_take]; omega
            · exact No.hd
            · have hd := List.mem_of_mem_take hd
              rcases List.mem_append.mp hd with hd | hd
              · rcases List.mem_append.mp hd with hd | hd
                · exact No.ok d (by
                    rcases List.mem_cons.mp hd with rfl | hd
                    · exact List.mem_cons_self
                    · exact List.mem_cons_of_mem _ (List.mem_of_mem_take hd))
                · rw [List.mem_singleton.mp hd]
                  exact marks_ok x xm
              · exact No.ok d (List.mem_of_mem_drop hd)
      · rintro σ H4 ⟨l, v5, v6, rfl, N, hp4, b4⟩
        have hF4 := b4 F _ nF hF
        refine ⟨_, rfl, by show 1 ≤ sizeLine; decide, fun M hM => ?_⟩
        have nM := hp4.ne hM
        have hM5 : (L2.upd H4 M (.lst [.str (S l)])) M = some (.lst [.str (S l)]) := upd_same
        have hp5 := hp4.put (o := .lst [.str (S l)]) nM
        have b5 := b4.upd (o := .lst [.str (S l)]) hM
        generalize L2.upd H4 M (.lst [.str (S l)]) = H5 at hM5 hp5 b5 ⊢
        refine ⟨_, rfl, 9, rfl, _, rfl, sM, _, rfl, fun E0 hE => ?_⟩
        have nE := hp5.ne hE
        rw [show (9 : Int) = ((9 : Nat) : Int) from rfl, marks_is, cut_to]
        refine lc_it walk_str (fun i H6 => H6 E0 = some (.lst ((((marks.take 9).take i).map fun c => S [122, c]).map V.str)) ∧ Same H5 H6) ⟨upd_same, Same.put (Same.refl H5) hE⟩ (fun _ _ _ _ => trivial) ?_ ?_
        · rintro i x H6 H6' hi ⟨g1, g2⟩ ⟨rfl, c, hc, rfl⟩
          have hc' : (marks.take 9)[i]? = some c := k_in_S hc
          rw [S_size] at hi
          have l9 : (marks.take 9).length = 9 := rfl
          refine ⟨rfl, _, rfl, _, _, rfl, rfl, by show 1 + 1 ≤ sizeLine; decide, _, g1, ?_, ?_, Same.new' g2 hE⟩
          · rw [List.length_map, List.length_map, List.length_take, sizeLine_eq]
            omega
          · rw [upd_same, take_more hc', List.map_append, List.map_append] <;> rfl
        · rintro H6 ⟨g1, g2⟩
          have g1 : H6 E0 = some (.lst (spare.map V.str)) := g1
          have hM6 := g2 _ _ hM5
          have hp6 : PoolAt H6 p := by
            obtain ⟨a, b, c, e, r⟩ := hp5
            exact ⟨a, b, c, g2 _ _ e, r⟩
          have b6 := b5.trans (But.of g2)
          refine ⟨M, E0, _, _, rfl, rfl, hM6, g1, by rw [List.length_map, spare_len, sizeLine_eq]; show 1 + 9 ≤ 16777216; decide, fun C0 hC => ?_⟩
          have nC := hp6.ne hC
          have hC7 : (L2.upd H6 C0 (.lst ([.str (S l)] ++ spare.map V.str))) C0 = some (.lst ((S l :: spare).map V.str)) := upd_same
          have hp7 := hp6.put (o := .lst ([.str (S l)] ++ spare.map V.str)) nC
          have b7 := b6.upd (o := .lst ([.str (S l)] ++ spare.map V.str)) hC
          generalize L2.upd H6 C0 (.lst ([.str (S l)] ++ spare.map V.str)) = H7 at hC7 hp7 b7 ⊢
          refine ⟨C0, rfl, ⟨_, SqL.of hC7⟩, fun R hR => ?_⟩
          have nR := hp7.ne hR
          have hF7 := b7 F _ nF hF
          refine lc_it (walk_list (xs := (S l :: spare).map V.str)) (fun i H8 => H8 R = some (.lst ((((S l :: spare).take i).filter fun z => !decide (z ∈ zs)).map V.str)) ∧ Same H7 H8) ⟨upd_same, Same.put (Same.refl H7) hR⟩ (fun _ _ _ h => SqL.of (h.2 _ _ hC7)) ?_ ?_
          · rintro i x H8 H8' hi ⟨q1, q2⟩ ⟨rfl, hx⟩
            rw [List.getElem?_map] at hx
            obtain ⟨z, hz, rfl⟩ := Option.map_eq_some_iff.mp hx
            refine ⟨rfl, _, rfl, _, rfl, F, _, rfl, .inl (SqL.of (q2 _ _ hF7)), rfl, flat_strs _, _, rfl, ?_⟩
            rw [inV_strs]
            refine ite2 (fun e => ?_) (fun e => ?_)
            · refine ⟨_, rfl, _, q1, ?_, ?_, Same.new' q2 hR⟩
              · rw [List.length_map, sizeLine_eq]
                have h1 := List.length_filter_le (fun z => !decide (z ∈ zs)) ((S l :: spare).take i)
                have h2 := List.length_take_le' i (S l :: spare)
                have h3 : (S l :: spare).length = 10 := rfl
                omega
              · rw [upd_same, take_more hz, List.filter_append, show ([z].filter fun z => !decide (z ∈ zs)) = [z] from List.filter_cons_of_pos e, List.map_append] <;> rfl
            · refine ⟨?_, q2⟩
              rw [q1, take_more hz, List.filter_append, show ([z].filter fun z => !decide (z ∈ zs)) = [] from List.filter_cons_of_neg e, List.append_nil]
          · rintro H8 ⟨q1, q2⟩
            rw [List.length_map, List.take_length] at q1
            have pos := spare_left few (S l)
            have hz : ((S l :: spare).filter fun z => !decide (z ∈ zs))[0]? = some _ := List.getElem?_eq_getElem pos
            generalize ((S l :: spare).filter fun z => !decide (z ∈ zs))[0] = z at hz
            have mz := List.mem_of_getElem? hz
            obtain ⟨z1, z2⟩ := List.mem_filter.mp mz
            have z3 : z ∉ zs := by simpa using z2
            have hp8 : PoolAt H8 p := by
              obtain ⟨a, b, c, e, r⟩ := hp7
              exact ⟨a, b, c, q2 _ _ e, r⟩
            refine ⟨_, rfl, R, _, _, _, rfl, rfl, SqL.of q1, atI_nat (j := 0) (map_get (g := V.str) hz), ?_⟩
            rcases List.mem_cons.mp z1 with rfl | z1
            · exact k l H8 N z3 hp8 (b7.trans (But.of q2))
            · obtain ⟨l', rfl, N'⟩ := spare_nm z z1
              exact k l' H8 N' z3 hp8 (b7.trans (But.of q2))
end
end Wb
/-! drawn names and amounts -/
namespace Wb
open PySem L2 WbMin WbS Lz
section
variable {P : Program} {w : World} {K : PySem.W.Frag} {mg : Str → Option Value} {base : Heap} {f fD fN : Addr} {fd fdD dN : FuncData}
abbrev NNs : List Str := ["_law_pool_here", "_law_many", "_law_found", "_law_turn"]
theorem scNs : FnScope NNs ["_law_pool_here", "_law_many"] (defScope sNames) := ⟨rfl, rfl, rfl, by decide +kernel, rfl, by decide +kernel, by decide +kernel⟩
theorem ok_names (F : Fun K "_law_names" "_law_names" sNames f fd) (D : Def K mg "_law_draw" sDraw ["_law_pool_here", "_law_many"] fD fdD) (DN : Def K mg "_law_name" sName ["_law_pool_here", "_law_found"] fN dN) (Z : Free mg) : FnOk P w K mg base CX0 3 f fd ["_law_pool_here", "_law_many"] spNames := by
  have G : FnOk P w K mg base CX0 2 fN dN ["_law_pool_here", "_law_found"] spName := ok_name DN.F D Z
  refine F.ok scNs (fun vs H Q E h => ?_) (fun cdv A outer s H vs Q E hr h => ?_)
  · obtain ⟨p, m, rfl, _⟩ := h
    rfl
  · obtain ⟨p, m, rfl, m0, m6, hp, k⟩ := h
    refine ⟨_, pss_cons (ps_set (i := 2) scNs.nd rfl (.inl rfl) (pe_lst pa_nil))
      (pss_cons (ps_for PassesOwn.never rfl (pi_range1 rfl Z.range (pa_cons (pv 1) pa_nil)) (pg_name (i := 3) scNs.nd rfl (.inl rfl))
        (pss_one (ps_expr (pe_bm PySem.F.plainAttrs_list PySem.F.slot_list_append PySem.F.type_list_append mt_append (pv 2) (pa_cons (pe_call G hr rfl DN.g DN.kp DN.b .nil pass0 (pa_cons (pv 0) (pa_cons (pv 2) pa_nil))) pa_nil)))))
      (pss_one (ps_ret (pv 2)))), ?_⟩
    refine ⟨by show 0 ≤ sizeLine; decide, fun a ha => ?_⟩
    have na := hp.ne ha
    refine ⟨_, rfl, _, rfl, by omega, by omega, for_it walk_range (fun i σ H' => ∃ (zs : List Str) (v3 : Option V), σ = [some (.ref p), some (.int (m : Nat)), some (.ref a), v3] ∧ zs.length = i ∧ zs.Nodup ∧ (∀ z ∈ zs, ∃ l, z = S l ∧ IsNm l) ∧ H' a = some (.lst (zs.map V.str)) ∧ PoolAt H' p ∧ But p H H')
      ⟨[], none, rfl, rfl, List.nodup_nil, (fun z hz => nomatch hz), upd_same, hp.put na, (But.refl p H).upd ha⟩ (fun _ _ _ _ _ => trivial) ?_ ?_⟩
    · rintro i x σ H2 H3 hi ⟨zs, v3, rfl, lz, nd, nms, h1, hp2, b2⟩ ⟨rfl, rfl⟩
      refine ⟨_, rfl, .inl ⟨rfl, _, SqL.of h1⟩, _, rfl, _, rfl, p, a, zs, rfl, hp2, h1, nms, by omega, fun l H4 N new hp4 b4 => ?_⟩
      refine ⟨a, _, _, rfl, rfl, b4 a _ na h1, by rw [List.length_map, sizeLine_eq]; omega, zs ++ [S l], _, rfl, ?_, ?_, ?_, ?_, hp4.put na, (b2.trans b4).new ha⟩
      · rw [List.length_append, lz] <;> rfl
      · rw [List.nodup_append]
        exact ⟨nd, by simp, fun x hx y hy q => new (by rw [← List.mem_singleton.mp hy, ← q]; exact hx)⟩
      · intro z hz
        rcases List.mem_append.mp hz with hz | hz
        · exact nms z hz
        · rw [List.mem_singleton.mp hz]
          exact ⟨l, rfl, N⟩
      · rw [upd_same, List.map_append] <;> rfl
    · rintro σ H2 ⟨zs, v3, rfl, lz, nd, nms, h1, hp2, b2⟩
      exact ⟨_, rfl, k a zs H2 ⟨nms, nd, by omega, by omega⟩ (by omega) h1 ha hp2 b2⟩
theorem scAmt : FnScope ["_law_pool_here", "_law_great", "_law_way"] ["_law_pool_here", "_law_great"] (defScope sAmount) := ⟨rfl, rfl, rfl, by decide +kernel, rfl, by decide +kernel, by decide +kernel⟩
theorem ok_amount (F : Fun K "_law_amount" "_law_amount" sAmount f fd) (D : Def K mg "_law_draw" sDraw ["_law_pool_here", "_law_many"] fD fdD) (Z : Free mg) : FnOk P w K mg base CX0 2 f fd ["_law_pool_here", "_law_great"] spAmount := by
  have G : FnOk P w K mg base CX0 1 fD fdD ["_law_pool_here", "_law_many"] spDraw := ok_draw D.F Z.int Z.divmod
  refine F.ok scAmt (fun vs H Q E h => ?_) (fun cdv A outer s H vs Q E hr h => ?_)
  · obtain ⟨p, b, rfl, _⟩ := h
    rfl
  · obtain ⟨p, b, rfl, hp, k⟩ := h
    refine ⟨_, pss_cons (ps_set (i := 2) scAmt.nd rfl (.inl rfl) (pe_call G hr rfl D.g D.kp D.b .nil pass0 (pa_cons (pv 0) (pa_cons pe_int pa_nil))))
      (pss_cons (ps_if (pt_cmpR op_lt (pv 2) pe_int (nomark _)) (pss_one (ps_ret (pe_op op_sub (pe_call G hr rfl D.g D.kp D.b .nil pass0 (pa_cons (pv 0) (pa_cons pe_int pa_nil))) pe_int))) pss_nil)
      (pss_cons (ps_if (PW.pt (pw_or (pt_cmpR op_lt (pv 2) pe_int (nomark _)) (pw_or1 (pt_not (pt_val (pv 1)))))) (pss_one (ps_ret (pe_op op_sub (pe_call G hr rfl D.g D.kp D.b .nil pass0 (pa_cons (pv 0) (pa_cons pe_int pa_nil))) pe_int))) pss_nil)
      (pss_one (ps_ret (pe_ix ix_list (pe_lst (pa_cons (pe_op op_pow pe_int pe_int) (pa_cons (pe_op op_sub (pe_un un_neg (pe_op op_pow pe_int pe_int)) pe_int) (pa_cons (pe_op op_add (pe_op op_pow pe_int pe_int) pe_int) (pa_cons (pe_un un_neg (pe_op op_pow pe_int pe_int)) pa_nil)))))
        (pe_call G hr rfl D.g D.kp D.b .nil pass0 (pa_cons (pv 0) (pa_cons pe_int pa_nil))) (fun _ _ => rfl)))))), ?_⟩
    refine ⟨_, rfl, p, _, rfl, by decide, by decide, hp, fun d H1 d0 d1 hp1 b1 => ?_⟩
    refine ⟨_, rfl, _, _, rfl, rfl, _, rfl, ite2 (fun _ => ?_) (fun _ => ?_)⟩
    · exact ⟨_, rfl, p, _, rfl, by decide, by decide, hp1, fun e H2 e0 e1 hp2 b2 => ⟨_, _, rfl, rfl, k _ H2 (by omega) hp2 (b1.trans b2)⟩⟩
    · refine ⟨_, rfl, _, _, rfl, rfl, _, rfl, ite2 (fun _ => iteT ?_) (fun _ => ?_)⟩
      · exact ⟨_, rfl, p, _, rfl, by decide, by decide, hp1, fun e H2 e0 e1 hp2 b2 => ⟨_, _, rfl, rfl, k _ H2 (by omega) hp2 (b1.trans b2)⟩⟩
      · refine ⟨_, rfl, b, rfl, ite2 (fun _ => ?_) (fun _ => ?_)⟩
        · exact ⟨_, rfl, p, _, rfl, by decide, by decide, hp1, fun e H2 e0 e1 hp2 b2 => ⟨_, _, rfl, rfl, k _ H2 (by omega) hp2 (b1.trans b2)⟩⟩
        · have c1 : L2.CPow 10 20 := by refine ⟨?_, ?_, ?_⟩ <;> decide
          have c2 : L2.CPow 10 30 := by refine ⟨?_, ?_, ?_⟩ <;> decide
          refine ⟨_, _, rfl, rfl, c1, _, _, rfl, rfl, c1, _, rfl, _, _, rfl, rfl, _, _, rfl, rfl, c2, _, _, rfl, rfl, _, _, rfl, rfl, c2, _, rfl, by show 4 ≤ sizeLine; decide, fun l hl => ?_⟩
          have nl := hp1.ne hl
          refine ⟨_, rfl, p, _, rfl, by decide, by decide, hp1.put nl, fun e H2 e0 e1 hp2 b2 => ?_⟩
          have bb := (b1.upd hl).trans b2
          have hl2 := b2 l _ nl upd_same
          obtain ⟨j, rfl⟩ := nat_of e0
          have c : j = 0 ∨ j = 1 ∨ j = 2 ∨ j = 3 := by omega
          rcases c with rfl | rfl | rfl | rfl
          · exact ⟨l, _, _, _, rfl, rfl, SqL.of hl2, atI_nat (j := 0) rfl, k _ H2 (by decide +kernel) hp2 bb⟩
          · exact ⟨l, _, _, _, rfl, rfl, SqL.of hl2, atI_nat (j := 1) rfl, k _ H2 (by decide +kernel) hp2 bb⟩
          · exact ⟨l, _, _, _, rfl, rfl, SqL.of hl2, atI_nat (j := 2) rfl, k _ H2 (by decide +kernel) hp2 bb⟩
          · exact ⟨l, _, _, _, rfl, rfl, SqL.of hl2, atI_nat (j := 3) rfl, k _ H2 (by decide +kernel) hp2 bb⟩
end
end Wb
/-! a model of a loop is drawn -/
namespace Wb
open PySem L2 WbMin WbS Lz
abbrev sModel : Stmt := top 62
/-- what stands at a state and a sign, at a state -/
def Entry2 (H : Hp) (kvs : List (List Key × V)) (z : Str) (c : Nat) (y : Str) (m : Int) : Prop := ∃ t, valV kvs (kk (z, S [c])) = some (.ref t) ∧ H t = some (.tup [.str y, .int m])
def Entry1 (H : Hp) (kvs : List (Key × V)) (z y : Str) (m : Int) : Prop := ∃ t, valV kvs (k1 z) = some (.ref t) ∧ H t = some (.tup [.str y, .int m])
/-- tuples stay -/
def Tk (H H' : Hp) : Prop := ∀ b x, H b = some (.tup x) → H' b = some (.tup x)
theorem Tk.refl (H : Hp) : Tk H H := fun _ _ h => h
theorem Tk.trans {H H1 H2 : Hp} (a : Tk H H1) (b : Tk H1 H2) : Tk H H2 := fun c x h => b c x (a c x h)
theorem Tk.of {H H' : Hp} (s : Same H H') : Tk H H' := fun b _ h => s b _ h
theorem pool_other {H : Hp} {p b : Addr} {o : HO} (hp : PoolAt H p) (h : H b = some o) (n : ∀ x y z : Int, o ≠ .lst [.int x, .int y, .int z]) : b ≠ p := by
  obtain ⟨x, y, z, e, _⟩ := hp
  intro q
  subst q
  rw [e] at h
  exact n x y z (Option.some.inj h).symm
theorem Tk.but {H H' : Hp} {p : Addr} (hp : PoolAt H p) (s : But p H H') : Tk H H' := fun b x h => s b _ (pool_other hp h (fun _ _ _ q => by cases q)) h
theorem Tk.put {H : Hp} {S : Addr} {o o' : HO} (h : H S = some o) (n : ∀ x, o ≠ .tup x) : Tk H (L2.upd H S o') := fun b x e => by
  rw [upd_ne (ne_of e h (n x).symm)]
  exact e
theorem Tk.new {H : Hp} {S : Addr} {o' : HO} (h : H S = none) : Tk H (L2.upd H S o') := fun b x e => by
  rw [upd_ne (ne_of_none e h)]
  exact e
theorem Entry2.tk {H H' : Hp} {kvs : List (List Key × V)} {z y : Str} {c : Nat} {m : Int} (s : Tk H H') : Entry2 H kvs z c y m → Entry2 H' kvs z c y m := fun ⟨t, a, b⟩ => ⟨t, a, s _ _ b⟩
theorem Entry1.tk {H H' : Hp} {kvs : List (Key × V)} {z y : Str} {m : Int} (s : Tk H H') : Entry1 H kvs z y m → Entry1 H' kvs z y m := fun ⟨t, a, b⟩ => ⟨t, a, s _ _ b⟩
/-- a model of a loop stands: letters, states, steps, ends, yes states -/
def MdAt (H : Hp) (q : Addr) (L : LD) : Prop := ∃ (A Sd Ed O : Addr) (kvs : List (List Key × V)) (ws : List (Key × V)), H q = some (.lst [.str (S L.sg), .ref A, .ref Sd, .ref Ed, .ref O]) ∧ H A = some (.lst (L.st.map V.str)) ∧ H Sd = some (.dT kvs) ∧ H Ed = some (.dK ws) ∧
  (∀ i c, i < L.n → c ∈ L.sg → Entry2 H kvs (L.nm i) c (L.nm (L.nx i c)) (L.am i c)) ∧ (∀ i, i < L.n → Entry1 H ws (L.nm i) (L.nm (L.tn i)) (L.ta i)) ∧ H O = some (.lst (L.yes.map V.str))
theorem MdAt.but {H H' : Hp} {p q : Addr} {L : LD} (hp : PoolAt H p) (s : But p H H') : MdAt H q L → MdAt H' q L := fun ⟨A, Sd, Ed, O, kvs, ws, h0, hA, hS, hE, e2, e1, hO⟩ =>
  have tk := Tk.but hp s
  ⟨A, Sd, Ed, O, kvs, ws, s _ _ (pool_other hp h0 fun _ _ _ q => by cases q) h0, s _ _ (pool_ne hp hA) hA, s _ _ (pool_other hp hS fun _ _ _ q => by cases q) hS, s _ _ (pool_other hp hE fun _ _ _ q => by cases q) hE,
    fun i c hi hc => (e2 i c hi hc).tk tk, fun i hi => (e1 i hi).tk tk, s _ _ (pool_ne hp hO) hO⟩
theorem MdAt.same {H H' : Hp} {q : Addr} {L : LD} (s : Same H H') : MdAt H q L → MdAt H' q L := fun ⟨A, Sd, Ed, O, kvs, ws, h0, hA, hS, hE, e2, e1, hO⟩ =>
  ⟨A, Sd, Ed, O, kvs, ws, s _ _ h0, s _ _ hA, s _ _ hS, s _ _ hE, fun i c hi hc => (e2 i c hi hc).tk (Tk.of s), fun i hi => (e1 i hi).tk (Tk.of s), s _ _ hO⟩
/-- amounts that are not too great -/
structure LD.Small (L : LD) : Prop where
  am : ∀ i c, i < L.n → c ∈ L.sg → (L.am i c).natAbs < 2 ^ 110
  ta : ∀ i, i < L.n → (L.ta i).natAbs < 2 ^ 110
def spModel : Sp := fun vs H Q _ => ∃ (p : Addr) (a : List Nat) (m : Int) (b : Bool), vs = [.ref p, .str (S a), .int m, .bl b] ∧ Sgs a ∧ 0 < m ∧ m ≤ 6 ∧ PoolAt H p ∧
  ∀ (q : Addr) (L : LD) (H' : Hp), L.Ok → L.Small → L.sg = a → (L.n : Int) ≤ m → MdAt H' q L → H q = none → PoolAt H' p → But p H H' → Q (.ref q) H'
/-- the entries of the pairs that are done -/
def E2s (H : Hp) (kvs : List (List Key × V)) (nm : Nat → Str) (n : Nat) (nx : Nat → Nat → Nat) (am : Nat → Nat → Int) (Dn : Nat → Nat → Prop) : Prop := ∀ i c, Dn i c → nx i c < n ∧ (am i c).natAbs < 2 ^ 110 ∧ Entry2 H kvs (nm i) c (nm (nx i c)) (am i c)
def E1s (H : Hp) (ws : List (Key × V)) (nm : Nat → Str) (n : Nat) (tn : Nat → Nat) (ta : Nat → Int) (k : Nat) : Prop := ∀ i, i < k → tn i < n ∧ (ta i).natAbs < 2 ^ 110 ∧ Entry1 H ws (nm i) (nm (tn i)) (ta i)
theorem E2s.tk {H H' : Hp} {kvs : List (List Key × V)} {nm : Nat → Str} {n : Nat} {nx : Nat → Nat → Nat} {am : Nat → Nat → Int} {Dn : Nat → Nat → Prop} (s : Tk H H') (h : E2s H kvs nm n nx am Dn) : E2s H' kvs nm n nx am Dn := fun i c d => ⟨(h i c d).1, (h i c d).2.1, (h i c d).2.2.tk s⟩
theorem E1s.tk {H H' : Hp} {ws : List (Key × V)} {nm : Nat → Str} {n : Nat} {tn : Nat → Nat} {ta : Nat → Int} {k : Nat} (s : Tk H H') (h : E1s H ws nm n tn ta k) : E1s H' ws nm n tn ta k := fun i d => ⟨(h i d).1, (h i d).2.1, (h i d).2.2.tk s⟩
theorem kk_eq {z y : Str} {a c : Nat} (h : kk (z, S [a]) = kk (y, S [c])) : z = y ∧ a = c := by
  have q := kk_inj h
  injection q with q1 q2
  refine ⟨q1, ?_⟩
  have := S_inj q2
  injection this
theorem E2s.put {H : Hp} {kvs : List (List Key × V)} {nm : Nat → Str} {n : Nat} {nx : Nat → Nat → Nat} {am : Nat → Nat → Int} {Dn Dn' : Nat → Nat → Prop} (h : E2s H kvs nm n nx am Dn) {i c e : Nat} {m : Int} {t : Addr} (ht : H t = some (.tup [.str (nm e), .int m])) (he : e < n) (hm : m.natAbs < 2 ^ 110) (hd : ∀ i' c', Dn' i' c' → Dn i' c' ∨ (nm i' = nm i ∧ c' = c)) :
    ∃ nx' am', E2s H (putK kvs (kk (nm i, S [c])) (.ref t)) nm n nx' am' Dn' := by
  refine ⟨fun i' c' => if nm i' = nm i ∧ c' = c then e else nx i' c', fun i' c' => if nm i' = nm i ∧ c' = c then m else am i' c', fun i' c' d => ?_⟩
  dsimp only
  by_cases q : nm i' = nm i ∧ c' = c
  · rw [if_pos q, if_pos q]
    refine ⟨he, hm, t, ?_, ht⟩
    rw [valV_put, if_pos (by rw [q.1, q.2])]
  · rw [if_neg q, if_neg q]
    have h0 := h i' c' ((hd i' c' d).resolve_right q)
    obtain ⟨t', a, b⟩ := h0.2.2
    refine ⟨h0.1, h0.2.1, t', ?_, b⟩
    rw [valV_put, if_neg fun z => q (kk_eq z)]
    exact a
theorem E1s.put {H : Hp} {ws : List (Key × V)} {nm : Nat → Str} {n : Nat} {tn : Nat → Nat} {ta : Nat → Int} {k : Nat} (h : E1s H ws nm n tn ta k) {e : Nat} {m : Int} {t : Addr} (ht : H t = some (.tup [.str (nm e), .int m])) (he : e < n) (hm : m.natAbs < 2 ^ 110) :
    ∃ tn' ta', E1s H (putK ws (k1 (nm k)) (.ref t)) nm n tn' ta' (k + 1) := by
  refine ⟨fun i' => if nm i' = nm k then e else tn i', fun i' => if nm i' = nm k then m else ta i', fun i' d => ?_⟩
  dsimp only
  by_cases q : nm i' = nm k
  · rw [if_pos q, if_pos q]
    refine ⟨he, hm, t, ?_, ht⟩
    rw [valV_put, if_pos (by rw [q])]
  · rw [if_neg q, if_neg q]
    have h0 := h i' (by
      have : i' ≠ k := fun z => q (by rw [z])
      omega)
    obtain ⟨t', a, b⟩ := h0.2.2
    refine ⟨h0.1, h0.2.1, t', ?_, b⟩
    rw [valV_put, if_neg fun z => q (k1_inj z)]
    exact a
/-- the same state once more -/
theorem E1s.over {H : Hp} {ws : List (Key × V)} {nm : Nat → Str} {n : Nat} {tn : Nat → Nat} {ta : Nat → Int} {k : Nat} (h : E1s H ws nm n tn ta (k + 1)) {e : Nat} {m : Int} {t : Addr} (ht : H t = some (.tup [.str (nm e), .int m])) (he : e < n) (hm : m.natAbs < 2 ^ 110) :
    ∃ tn' ta', E1s H (putK ws (k1 (nm k)) (.ref t)) nm n tn' ta' (k + 1) := E1s.put (k := k) (fun i d => h i (by omega)) ht he hm
theorem sub_filter_more {ys : Nat → Bool} {i : Nat} {b : Bool} {g : Nat → V} : (((List.range (i + 1)).filter fun j => if j = i then b else ys j).map g) = ((List.range i).filter ys).map g ++ (if b = true then [g i] else []) := by
  rw [List.range_succ, List.filter_append, List.map_append]
  congr 1
  · congr 1
    refine List.filter_congr fun j hj => ?_
    rw [if_neg (by have := List.mem_range.mp hj; omega)]
  · cases b with
    | false => rw [List.filter_cons_of_neg (by simp)] <;> rfl
    | true => rw [List.filter_cons_of_pos (by simp)] <;> rfl
def nmOf (st : List Str) (i : Nat) : Str := st.getD i (S [])
theorem nmOf_at {st : List Str} {i : Nat} (h : i < st.length) : st[i]? = some (nmOf st i) := by
  unfold nmOf
  rw [List.getD_eq_getElem?_getD, List.getElem?_eq_getElem h] <;> rfl
/-- a model while it is drawn -/
structure MSt (H H' : Hp) (p A Sd Ed : Addr) (st : List Str) (Dn : Nat → Nat → Prop) (k l1 l2 : Nat) : Prop where
  ex : ∃ (kvs : List (List Key × V)) (ws : List (Key × V)) (nx : Nat → Nat → Nat) (am : Nat → Nat → Int) (tn : Nat → Nat) (ta : Nat → Int), H' Sd = some (.dT kvs) ∧ H' Ed = some (.dK ws) ∧ kvs.length ≤ l1 ∧ ws.length ≤ l2 ∧ E2s H' kvs (nmOf st) st.length nx am Dn ∧ E1s H' ws (nmOf st) st.length tn ta k
  hA : H' A = some (.lst (st.map V.str))
  hp : PoolAt H' p
  b : But p H H'
  nS : H Sd = none
  nE : H Ed = none
section
variable {H H1 H2 : Hp} {p A Sd Ed : Addr} {st : List Str} {Dn Dn' : Nat → Nat → Prop} {k l1 l2 : Nat}
theorem MSt.but (q : MSt H H1 p A Sd Ed st Dn k l1 l2) (hp : PoolAt H2 p) (s : But p H1 H2) : MSt H H2 p A Sd Ed st Dn k l1 l2 := by
  obtain ⟨⟨kvs, ws, nx, am, tn, ta, hS, hE, c1, c2, e2, e1⟩, hA, hp1, b, nS, nE⟩ := q
  have tk := Tk.but hp1 s
  exact ⟨⟨kvs, ws, nx, am, tn, ta, s _ _ (pool_other hp1 hS fun _ _ _ q => by cases q) hS, s _ _ (pool_other hp1 hE fun _ _ _ q => by cases q) hE, c1, c2, e2.tk tk, e1.tk tk⟩, s _ _ (pool_ne hp1 hA) hA, hp, b.trans s, nS, nE⟩
theorem MSt.new (q : MSt H H1 p A Sd Ed st Dn k l1 l2) {t : Addr} {o : HO} (h : H1 t = none) : MSt H (L2.upd H1 t o) p A Sd Ed st Dn k l1 l2 := by
  obtain ⟨⟨kvs, ws, nx, am, tn, ta, hS, hE, c1, c2, e2, e1⟩, hA, hp1, b, nS, nE⟩ := q
  have tk : Tk H1 (L2.upd H1 t o) := Tk.new h
  have s : Same H1 (L2.upd H1 t o) := Same.put (Same.refl H1) h
  exact ⟨⟨kvs, ws, nx, am, tn, ta, s _ _ hS, s _ _ hE, c1, c2, e2.tk tk, e1.tk tk⟩, s _ _ hA, hp1.up h, b.upd h, nS, nE⟩
theorem MSt.up (q : MSt H H1 p A Sd Ed st Dn k l1 l2) {R : Addr} {o : HO} {xs : List V} (h : H1 R = some (.lst xs)) (nA : R ≠ A) (np : R ≠ p) (n0 : H R = none) : MSt H (L2.upd H1 R o) p A Sd Ed st Dn k l1 l2 := by
  obtain ⟨⟨kvs, ws, nx, am, tn, ta, hS, hE, c1, c2, e2, e1⟩, hA, hp1, b, nS, nE⟩ := q
  have tk : Tk H1 (L2.upd H1 R o) := Tk.put h (fun x => by intro z; cases z)
  exact ⟨⟨kvs, ws, nx, am, tn, ta, (upd_ne (ne_of hS h (by intro z; cases z))).trans hS, (upd_ne (ne_of hE h (by intro z; cases z))).trans hE, c1, c2, e2.tk tk, e1.tk tk⟩, (upd_ne nA.symm).trans hA, hp1.put np, b.new n0, nS, nE⟩
theorem MSt.put2 (q : MSt H H1 p A Sd Ed st Dn k l1 l2) {i c e : Nat} {m : Int} {t u : Addr} (ht : H1 t = some (.tup [.str (nmOf st e), .int m])) (hu : H1 u = some (.tup [.str (nmOf st i), .str (S [c])])) (he : e < st.length) (hm : m.natAbs < 2 ^ 110) (hd : ∀ i' c', Dn' i' c' → Dn i' c' ∨ (nmOf st i' = nmOf st i ∧ c' = c)) (hl : l1 < 100) :
    ∃ H4, DPut H1 Sd (.ref u) (.ref t) H4 ∧ MSt H H4 p A Sd Ed st Dn' k (l1 + 1) l2 := by
  obtain ⟨⟨kvs, ws, nx, am, tn, ta, hS, hE, c1, c2, e2, e1⟩, hA, hp1, b, nS, nE⟩ := q
  have nSp : Sd ≠ p := pool_other hp1 hS fun _ _ _ q => by cases q
  refine ⟨_, DPut.t (k := kk (nmOf st i, S [c])) hS hu (by rw [sizeLine_eq]; omega), ?_⟩
  have tk : Tk H1 (L2.upd H1 Sd (.dT (putK kvs (kk (nmOf st i, S [c])) (.ref t)))) := Tk.put hS (fun x => by intro z; cases z)
  obtain ⟨nx', am', e2'⟩ := e2.put ht he hm hd
  refine ⟨⟨_, ws, nx', am', tn, ta, upd_same, (upd_ne (ne_of hE hS (by intro z; cases z))).trans hE, ?_, c2, e2'.tk tk, e1.tk tk⟩, (upd_ne (ne_of hA hS (by intro z; cases z))).trans hA, hp1.put nSp, b.new nS, nS, nE⟩
  exact Nat.le_trans (length_putK kvs _ _) (by omega)
theorem MSt.put1 (q : MSt H H1 p A Sd Ed st Dn k l1 l2) {e : Nat} {m : Int} {t : Addr} (ht : H1 t = some (.tup [.str (nmOf st e), .int m])) (he : e < st.length) (hm : m.natAbs < 2 ^ 110) (hl : l2 < 100) :
    ∃ H4, DPut H1 Ed (.str (nmOf st k)) (.ref t) H4 ∧ MSt H H4 p A Sd Ed st Dn (k + 1) l1 (l2 + 1) := by
  obtain ⟨⟨kvs, ws, nx, am, tn, ta, hS, hE, c1, c2, e2, e1⟩, hA, hp1, b, nS, nE⟩ := q
  have nEp : Ed ≠ p := pool_other hp1 hE fun _ _ _ q => by cases q
  refine ⟨_, DPut.k (k := k1 (nmOf st k)) hE (by rw [sizeLine_eq]; omega), ?_⟩
  have tk : Tk H1 (L2.upd H1 Ed (.dK (putK ws (k1 (nmOf st k)) (.ref t)))) := Tk.put hE (fun x => by intro z; cases z)
  obtain ⟨tn', ta', e1'⟩ := e1.put ht he hm
  refine ⟨⟨kvs, _, nx, am, tn', ta', (upd_ne (ne_of hS hE (by intro z; cases z))).trans hS, upd_same, c1, ?_, e2.tk tk, e1'.tk tk⟩, (upd_ne (ne_of hA hE (by intro z; cases z))).trans hA, hp1.put nEp, b.new nE, nS, nE⟩
  exact Nat.le_trans (length_putK ws _ _) (by omega)
theorem MSt.over (q : MSt H H1 p A Sd Ed st Dn (k + 1) l1 l2) {e : Nat} {m : Int} {t : Addr} (ht : H1 t = some (.tup [.str (nmOf st e), .int m])) (he : e < st.length) (hm : m.natAbs < 2 ^ 110) (hl : l2 < 100) :
    ∃ H4, DPut H1 Ed (.str (nmOf st k)) (.ref t) H4 ∧ MSt H H4 p A Sd Ed st Dn (k + 1) l1 (l2 + 1) := by
  obtain ⟨⟨kvs, ws, nx, am, tn, ta, hS, hE, c1, c2, e2, e1⟩, hA, hp1, b, nS, nE⟩ := q
  exact MSt.put1 (k := k) ⟨⟨kvs, ws, nx, am, tn, ta, hS, hE, c1, c2, e2, fun i d => e1 i (by omega)⟩, hA, hp1, b, nS, nE⟩ ht he hm hl
theorem MSt.less (q : MSt H H1 p A Sd Ed st Dn k l1 l2) (h : ∀ i c, Dn' i c → Dn i c) {l1' l2' : Nat} (a : l1 ≤ l1') (b : l2 ≤ l2') : MSt H H1 p A Sd Ed st Dn' k l1' l2' := by
  obtain ⟨⟨kvs, ws, nx, am, tn, ta, hS, hE, c1, c2, e2, e1⟩, hA, hp1, b', nS, nE⟩ := q
  exact ⟨⟨kvs, ws, nx, am, tn, ta, hS, hE, Nat.le_trans c1 a, Nat.le_trans c2 b, fun i c d => e2 i c (h i c d), e1⟩, hA, hp1, b', nS, nE⟩
end
section
variable {P : Program} {w : World} {K : PySem.W.Frag} {mg : Str → Option Value} {base : Heap} {f fD fN fNs fA : Addr} {fd fdD dN dNs dA : FuncData}
abbrev NMo : List Str := ["_law_pool_here", "_law_abc", "_law_most", "_law_great", "_law_posts", "_law_steps", "_law_ends", "_law_post", "_law_mark", "_law_oks"]
theorem scMod : FnScope NMo ["_law_pool_here", "_law_abc", "_law_most", "_law_great"] (defScope sModel) := ⟨rfl, rfl, rfl, by decide +kernel, rfl, by decide +kernel, by decide +kernel⟩
set_option maxHeartbeats 0 in
theorem ok_model (F : Fun K "_law_model" "_law_model" sModel f fd) (D : Def K mg "_law_draw" sDraw ["_law_pool_here", "_law_many"] fD fdD) (DN : Def K mg "_law_name" sName ["_law_pool_here", "_law_found"] fN dN) (DS : Def K mg "_law_names" sNames ["_law_pool_here", "_law_many"] fNs dNs) (DA : Def K mg "_law_amount" sAmount ["_law_pool_here", "_law_great"] fA dA) (Z : Free mg) :
    FnOk P w K mg base CX0 4 f fd ["_law_pool_here", "_law_abc", "_law_most", "_law_great"] spModel := by
  have G : FnOk P w K mg base CX0 1 fD fdD ["_law_pool_here", "_law_many"] spDraw := ok_draw D.F Z.int Z.divmod
  have GS : FnOk P w K mg base CX0 3 fNs dNs ["_law_pool_here", "_law_many"] spNames := ok_names DS.F D DN Z
  have GA : FnOk P w K mg base CX0 2 fA dA ["_law_pool_here", "_law_great"] spAmount := ok_amount DA.F D Z
  refine F.ok scMod (fun vs H Q E h => ?_) (fun cdv A' outer s H vs Q E hr h => ?_)
  · obtain ⟨p, a, m, b, rfl, _⟩ := h
    rfl
  · obtain ⟨p, a, m, b, rfl, sg, m0, m6, hp, k⟩ := h
    have hr1 : Room 1 _ := hr.mono (by decide)
    have hr2 : Room 2 _ := hr.mono (by decide)
    refine ⟨_, pss_cons (ps_set (i := 4) scMod.nd rfl (.inl rfl) (pe_call GS hr rfl DS.g DS.kp DS.b .nil pass0 (pa_cons (pv 0) (pa_cons (pe_op op_add pe_int (pe_call G hr1 rfl D.g D.kp D.b .nil pass0 (pa_cons (pv 0) (pa_cons (pv 2) pa_nil)))) pa_nil))))
      (pss_cons (ps_par (i := 5) (j := 6) rfl scMod.nd rfl rfl (by decide) rfl rfl (pa_cons pe_dnewT (pa_cons pe_dnewK pa_nil)) (by rfl))
      (pss_cons (ps_for PassesOwn.never rfl (pi_list (pv 4)) (pg_name (i := 7) scMod.nd rfl (.inl rfl))
        (pss_cons (ps_for PassesOwn.never rfl (pi_str (pv 1)) (pg_name (i := 8) scMod.nd rfl (.inl rfl))
          (pss_one (ps_dput (un2 hr) (pv 5) (pe_tup (pa_cons (pv 7) (pa_cons (pv 8) pa_nil))) (pe_tup (pa_cons (pe_ix ix_list (pv 4) (pe_call G hr1 rfl D.g D.kp D.b .nil pass0 (pa_cons (pv 0) (pa_cons (pe_callB call_len_seq (by rfl) Z.len PySem.boot_len (pa_cons (pv 4) pa_nil)) pa_nil))) (fun _ _ => rfl)) (pa_cons (pe_call GA hr2 rfl DA.g DA.kp DA.b .nil pass0 (pa_cons (pv 0) (pa_cons (pv 3) pa_nil))) pa_nil))) rfl)))
        (pss_cons (ps_dput (un2 hr) (pv 6) (pv 7) (pe_tup (pa_cons (pv 7) (pa_cons pe_int pa_nil))) rfl)
        (pss_one (ps_if (pt_cmpR op_gt (pe_call G hr1 rfl D.g D.kp D.b .nil pass0 (pa_cons (pv 0) (pa_cons pe_int pa_nil))) pe_int (nomark _))
          (pss_one (ps_dput (un2 hr) (pv 6) (pv 7) (pe_tup (pa_cons (pe_ix ix_list (pv 4) (pe_call G hr1 rfl D.g D.kp D.b .nil pass0 (pa_cons (pv 0) (pa_cons (pe_callB call_len_seq (by rfl) Z.len PySem.boot_len (pa_cons (pv 4) pa_nil)) pa_nil))) (fun _ _ => rfl)) (pa_cons (pe_call GA hr2 rfl DA.g DA.kp DA.b .nil pass0 (pa_cons (pv 0) (pa_cons (pv 3) pa_nil))) pa_nil))) rfl)) pss_nil)))))
      (pss_cons (ps_setLc (i := 9) (own := [("_law_post", 7)]) (g := gName 7) rfl scMod.nd rfl rfl (sw_true rfl rfl rfl (by decide +kernel)) (pi_list (pv 4)) (blkOk_by (N := NMo) (sc := defScope sModel) (by decide +kernel))
          (fun _ _ _ _ _ => pg_name (i := 7) scMod.nd rfl (.inl rfl)) (fun _ _ _ _ _ => pts_one (pt_cmpR op_eq (pe_call G hr1 rfl D.g D.kp D.b .nil pass0 (pa_cons (pv 0) (pa_cons pe_int pa_nil))) pe_int (nomark _))) (fun _ _ _ _ _ => pv 7))
      (pss_one (ps_ret (pe_lst (pa_cons (pv 1) (pa_cons (pv 4) (pa_cons (pv 5) (pa_cons (pv 6) (pa_cons (pv 9) pa_nil))))))))))), ?_⟩
    refine ⟨_, rfl, _, rfl, _, rfl, p, m, rfl, m0, by omega, hp, fun d H1 d0 d1 hp1 b1 => ?_⟩
    obtain ⟨j, rfl⟩ := nat_of d0
    have e1j : V.int ((1 : Int) + (j : Int)) = V.int ((1 + j : Nat) : Int) := by rw [show (1 : Int) + (j : Int) = ((1 + j : Nat) : Int) by omega]
    refine ⟨_, _, rfl, rfl, p, 1 + j, congrArg (fun z => [V.ref p, z]) e1j, by omega, by omega, hp1, fun A st H2 T lst fA nA0 hp2 b2 => ?_⟩
    intro Sd hS Ed hE
    refine ⟨_, _, rfl, ?_⟩
    have b12 := b1.trans b2
    have nS : H Sd = none := b12.free hS (hp2.ne hS)
    have hp3 := hp2.up (o := .dT []) hS
    have b3 := b12.upd (o := .dT []) hS
    have nE : H Ed = none := b3.free hE (hp3.ne hE)
    have sS : Same H2 (L2.upd H2 Sd (.dT [])) := Same.put (Same.refl _) hS
    have sE : Same (L2.upd H2 Sd (.dT [])) (L2.upd (L2.upd H2 Sd (.dT [])) Ed (.dK [])) := Same.put (Same.refl _) hE
    have M3 : MSt H (L2.upd (L2.upd H2 Sd (.dT [])) Ed (.dK [])) p A Sd Ed st (fun i c => i < 0 ∧ c ∈ a) 0 0 0 :=
      ⟨⟨[], [], fun _ _ => 0, fun _ _ => 0, fun _ => 0, fun _ => 0, sE _ _ upd_same, upd_same, Nat.le_refl _, Nat.le_refl _, fun _ _ d => absurd d.1 (Nat.not_lt_zero _), fun _ d => absurd d (Nat.not_lt_zero _)⟩, sE _ _ (sS _ _ fA), hp3.up hE, b3.upd hE, nS, nE⟩
    generalize L2.upd (L2.upd H2 Sd (.dT [])) Ed (.dK []) = H3 at M3 ⊢
    have n6 : st.length ≤ 6 := T.few
    have npos := T.pos
    have a4 := sg.few
    refine ⟨_, rfl, A, rfl, ⟨_, SqL.of M3.hA⟩, for_it (walk_list (xs := st.map V.str)) (fun i σ H' => ∃ v7 v8 : Option V, σ = [some (.ref p), some (.str (S a)), some (.int m), some (.bl b), some (.ref A), some (.ref Sd), some (.ref Ed), v7, v8, none] ∧ MSt H H' p A Sd Ed st (fun i' c => i' < i ∧ c ∈ a) i (i * 4) (i * 2))
      ⟨none, none, rfl, M3⟩ (fun _ _ _ _ h => by obtain ⟨_, _, _, h⟩ := h; exact SqL.of h.hA) ?_ ?_⟩
    · rintro i x σ H4 H4' hi ⟨v7, v8, rfl, M4⟩ ⟨rfl, hx⟩
      rw [List.length_map] at hi
      have ez := nmOf_at hi
      have hx' : x = .str (nmOf st i) := Option.some.inj (hx.symm.trans (map_get ez))
      subst hx'
      have i6 : i < 6 := by omega
      have M4' : MSt H H4' p A Sd Ed st (fun i' c => (i' < i ∧ c ∈ a) ∨ (i' = i ∧ c ∈ a.take 0)) i (i * 4 + 0) (i * 2) := M4.less (fun i' c d => d.elim id fun z => by cases z.2) (Nat.le_refl _) (Nat.le_refl _)
      refine ⟨_, rfl, _, rfl, for_it walk_str (fun j σ H' => ∃ v8 : Option V, σ = [some (.ref p), some (.str (S a)), some (.int m), some (.bl b), some (.ref A), some (.ref Sd), some (.ref Ed), some (.str (nmOf st i)), v8, none] ∧ MSt H H' p A Sd Ed st (fun i' c => (i' < i ∧ c ∈ a) ∨ (i' = i ∧ c ∈ a.take j)) i (i * 4 + j) (i * 2))
        ⟨v8, rfl, M4'⟩ (fun _ _ _ _ _ => trivial) ?_ ?_⟩
      · rintro j x σ H5 H5' hj ⟨v8, rfl, M5⟩ ⟨rfl, c, hc, rfl⟩
        have hc' : a[j]? = some c := k_in_S hc
        rw [S_size] at hj
        refine ⟨_, rfl, _, rfl, _, rfl, A, _, rfl, .inl (SqL.of M5.hA), p, _, rfl, by rw [List.length_map]; omega, by rw [List.length_map]; omega, M5.hp, fun d H6 d0 d1 hp6 b6 => ?_⟩
        rw [List.length_map] at d1
        obtain ⟨e, rfl⟩ := nat_of d0
        have he : e < st.length := by omega
        have M6 := M5.but hp6 b6
        refine ⟨A, _, _, _, rfl, rfl, SqL.of M6.hA, atI_nat (map_get (nmOf_at he)), _, rfl, _, rfl, p, b, rfl, M6.hp, fun z H7 zs7 hp7 b7 => ⟨by show 2 ≤ sizeLine; decide, fun t ht => ?_⟩⟩
        have M7 := (M6.but hp7 b7).new (o := .tup [.str (nmOf st e), .int z]) ht
        have ht7 : (L2.upd H7 t (.tup [.str (nmOf st e), .int z])) t = some (.tup [.str (nmOf st e), .int z]) := upd_same
        generalize L2.upd H7 t (.tup [.str (nmOf st e), .int z]) = H8 at M7 ht7 ⊢
        refine ⟨_, rfl, _, rfl, _, rfl, by show 2 ≤ sizeLine; decide, fun u hu => ?_⟩
        have M8 := M7.new (o := .tup [.str (nmOf st i), .str (S [c])]) hu
        have ht8 : (L2.upd H8 u (.tup [.str (nmOf st i), .str (S [c])])) t = some (.tup [.str (nmOf st e), .int z]) := (upd_ne (ne_of_none ht7 hu)).trans ht7
        obtain ⟨H9, dp, M9⟩ := M8.put2 (Dn' := fun i' c => (i' < i ∧ c ∈ a) ∨ (i' = i ∧ c ∈ a.take (j + 1))) ht8 upd_same he zs7 (fun i' c' d => by
          rcases d with d | ⟨d1, d2⟩
          · exact .inl (.inl d)
          · rw [take_more hc'] at d2
            rcases List.mem_append.mp d2 with d2 | d2
            · exact .inl (.inr ⟨d1, d2⟩)
            · exact .inr ⟨by rw [d1], List.mem_singleton.mp d2⟩) (by omega)
        exact ⟨Sd, H9, rfl, dp, _, rfl, M9⟩
      · rintro σ H5 ⟨v8, rfl, M5⟩
        rw [S_size] at M5
        have M5 := M5.less (Dn' := fun i' c => i' < i + 1 ∧ c ∈ a) (l1' := (i + 1) * 4) (fun i' c d => by
          by_cases q : i' < i
          · exact .inl ⟨q, d.2⟩
          · exact .inr ⟨by omega, by rw [List.take_length]; exact d.2⟩) (by omega) (Nat.le_refl _)
        refine ⟨_, rfl, by show 2 ≤ sizeLine; decide, fun t ht => ?_⟩
        have M6 := M5.new (o := .tup [.str (nmOf st i), .int 0]) ht
        obtain ⟨H7, dp, M7⟩ := M6.put1 (e := i) upd_same hi (by decide) (by omega)
        refine ⟨_, rfl, _, rfl, Ed, H7, rfl, dp, ?_⟩
        refine ⟨_, rfl, p, _, rfl, by decide, by decide, M7.hp, fun d H8 d0 d1 hp8 b8 => ?_⟩
        have M8 := M7.but hp8 b8
        refine ⟨_, _, rfl, rfl, _, rfl, ite2 (fun _ => ?_) (fun _ => ?_)⟩
        · refine ⟨_, rfl, _, rfl, _, rfl, A, _, rfl, .inl (SqL.of M8.hA), p, _, rfl, by rw [List.length_map]; omega, by rw [List.length_map]; omega, M8.hp, fun d H9 d0 d1 hp9 b9 => ?_⟩
          rw [List.length_map] at d1
          obtain ⟨e, rfl⟩ := nat_of d0
          have he : e < st.length := by omega
          have M9 := M8.but hp9 b9
          refine ⟨A, _, _, _, rfl, rfl, SqL.of M9.hA, atI_nat (map_get (nmOf_at he)), _, rfl, _, rfl, p, b, rfl, M9.hp, fun z H10 zs10 hp10 b10 => ⟨by show 2 ≤ sizeLine; decide, fun t ht => ?_⟩⟩
          have M10 := (M9.but hp10 b10).new (o := .tup [.str (nmOf st e), .int z]) ht
          obtain ⟨H11, dp, M11⟩ := M10.over (e := e) upd_same he zs10 (by omega)
          exact ⟨_, rfl, _, rfl, Ed, H11, rfl, dp, _, _, rfl, M11.less (fun _ _ d => d) (Nat.le_refl _) (by omega)⟩
        · exact ⟨_, _, rfl, M8.less (fun _ _ d => d) (Nat.le_refl _) (by omega)⟩
    · rintro σ H4 ⟨v7, v8, rfl, M4⟩
      rw [List.length_map] at M4
      refine ⟨_, rfl, A, rfl, ⟨_, SqL.of M4.hA⟩, fun R hR => ?_⟩
      have nRp := M4.hp.ne hR
      have nRA : R ≠ A := ne_of_none' M4.hA hR
      have R0 : H R = none := M4.b.free hR nRp
      refine lc_it (walk_list (xs := st.map V.str)) (fun i H5 => ∃ ys : Nat → Bool, H5 R = some (.lst (((List.range i).filter ys).map fun j => V.str (nmOf st j))) ∧ MSt H H5 p A Sd Ed st (fun i' c => i' < st.length ∧ c ∈ a) st.length (st.length * 4) (st.length * 2)) ⟨fun _ => false, upd_same, M4.new hR⟩ (fun _ _ _ h => by obtain ⟨_, _, h⟩ := h; exact SqL.of h.hA) ?_ ?_
      · rintro i x H5 H5' hi ⟨ys, h1, M5⟩ ⟨rfl, hx⟩
        rw [List.length_map] at hi
        have hx' : x = .str (nmOf st i) := Option.some.inj (hx.symm.trans (map_get (nmOf_at hi)))
        subst hx'
        refine ⟨rfl, _, rfl, p, _, rfl, by decide, by decide, M5.hp, fun d H6 d0 d1 hp6 b6 => ?_⟩
        have M6 := M5.but hp6 b6
        have h6 := b6 R _ nRp h1
        refine ⟨rfl, _, rfl, ite2 (fun _ => ?_) (fun _ => ?_)⟩
        · refine ⟨_, rfl, _, h6, ?_, fun j => if j = i then true else ys j, ?_, M6.up h6 nRA nRp R0⟩
          · rw [List.length_map, sizeLine_eq]
            have := List.length_filter_le ys (List.range i)
            rw [List.length_range] at this
            omega
          · rw [upd_same, sub_filter_more (g := fun j => V.str (nmOf st j)), if_pos rfl]
        · refine ⟨fun j => if j = i then false else ys j, ?_, M6⟩
          rw [h6, sub_filter_more (g := fun j => V.str (nmOf st j)), if_neg (by decide), List.append_nil]
      · rintro H5 ⟨ys, h1, M5⟩
        rw [List.length_map] at h1
        refine ⟨_, rfl, _, rfl, _, rfl, _, rfl, _, rfl, by show 5 ≤ sizeLine; decide, fun q hq => ?_⟩
        have nq := M5.hp.ne hq
        have q0 : H q = none := M5.b.free hq nq
        have s6 : Same H5 (L2.upd H5 q (.lst [.str (S a), .ref A, .ref Sd, .ref Ed, .ref R])) := Same.put (Same.refl _) hq
        have M6 := M5.new (o := .lst [.str (S a), .ref A, .ref Sd, .ref Ed, .ref R]) hq
        obtain ⟨⟨kvs, ws, nx, am, tn, ta, gS, gE, c1, c2, e2, e1⟩, gA, gp, gb, _, _⟩ := M6
        refine k q ⟨a, st, nx, am, tn, ta, ys⟩ _ ⟨sg, T, fun i c hi hc => (e2 i c ⟨hi, hc⟩).1, fun i hi => (e1 i hi).1⟩ ⟨fun i c hi hc => (e2 i c ⟨hi, hc⟩).2.1, fun i hi => (e1 i hi).2.1⟩ rfl (show ((st.length : Nat) : Int) ≤ m by omega) ⟨A, Sd, Ed, R, kvs, ws, upd_same, gA, gS, gE, fun i c hi hc => (e2 i c ⟨hi, hc⟩).2.2, fun i hi => (e1 i hi).2.2, ?_⟩ q0 gp gb
        rw [s6 _ _ h1]
        unfold LD.yes
        rw [List.map_map] <;> rfl
end
end Wb
/-! a list unpacked into names -/
namespace Lz
open PySem PySem.W PySem.Spec PyProof.Rows
section
variable {prog : Program} {w : World} {A : Around} {E : Value → Shared → Prop} {I l : Addr} {St : Nat → Shared → Prop} {items : Array Value} {s : Shared}
theorem draw_walk (W : WalksS prog w A I [I, l] [I] (fun a b => b = a) items.size (fun i v => items[i]? = some v) St) : ∀ (n i : Nat) (s : Shared) (Q : List Value → Shared → Prop), St i s → i + n ≤ items.size →
    (∀ s', St (i + n) s' → Moved [I] (fun a b => b = a) s s' → Q ((items.toList.drop i).take n) s') → wpAny (model prog w) A (draw (.ref I) n) Q E s
  | 0, i, s, Q, st, _, k => by
    show wpAny _ _ (pure []) Q E s
    exact wpAny_pure (k s st (Moved.refl fun _ => rfl))
  | n + 1, i, s, Q, st, le, k => by
    have lt : i < items.size := by omega
    show wpAny _ _ (pyNext (.ref I) >>= _) Q E s
    refine wpAny_bind (W.item i s _ _ lt st fun v s1 hv st1 mv => ?_)
    refine wpAny_bind (wpAny_holding (draw_walk W n (i + 1) s1 _ st1 (by omega) fun s2 st2 mv2 => wpAny_pure ?_))
    have e : items.toList.drop i = v :: items.toList.drop (i + 1) := by
      have q : items.toList[i]? = some v := by rw [Array.getElem?_toList]; exact hv
      exact (List.drop_eq_getElem?_toList_append).trans (by rw [q] <;> rfl)
    have q := k s2 (by rw [show i + (n + 1) = i + 1 + n by omega]; exact st2) (Moved.trans W.gtrans mv mv2)
    rw [e, List.take_succ_cons] at q
    exact q
theorem unpack_list {targets : List (Bool × (Value → Sem Unit))} {Q : Unit → Shared → Prop} (calm : A.handled = none) (il : s.heap.IsList l items) (hn : targets.length = items.size) (hstar : targets.findIdx? (·.1) = none)
    (h : ∀ h' tk, (∀ b o, s.heap.get? b = some o → h'.get? b = some o) → wpAny (model prog w) A (assignInOrder (targets.map (·.2)) items.toList) Q E { s with heap := h', toks := tk }) : wpAny (model prog w) A (unpack (.ref l) targets) Q E s := by
  have lt : l < s.heap.objs.size := by obtain ⟨_, e, _⟩ := il; exact Heap.lt_size e
  unfold unpack
  rw [hn, hstar]
  refine wpAny_bind (wpAny_holding ?_)
  unfold unpackItems
  refine wpAny_bind ?_
  unfold notIterableAtAll
  refine wpAny_bind (wpAny_specialOf il.typeIs F.slot_list_iter.lookup (wpAny_pure ?_))
  simp only [Bool.false_eq_true, if_false]
  refine wpAny_bind (wpAny_holding (wpAny_pyIter_list il ?_))
  have i1 : (s.heap.push { cls := .type "list_iterator", data := .fields #[.ref l, .int 0 0] }).IsListIter s.heap.objs.size l 0 := ⟨_, Heap.get?_push_size _ rfl, rfl, rfl⟩
  refine wpAny_bind (wpAny_holding (draw_walk (Walks.list (A := A) calm s.heap.objs.size l (Nat.ne_of_lt lt) items).toS items.size 0 _ _ ⟨i1, il.push _⟩ (by omega) fun s1 st1 mv1 => ?_))
  have all : List.take items.size (List.drop 0 items.toList) = items.toList := by
    rw [List.drop_zero] ; exact List.take_of_length_le (by simp)
  rw [all, if_neg (by simp)]
  rw [Nat.zero_add] at st1
  refine wpAny_bind (wpAny_holding ((Walks.list (A := A) calm s.heap.objs.size l (Nat.ne_of_lt lt) items).toS.done s1 _ _ st1 fun s2 mv2 => ?_))
  simp only [Option.isSome_none, Bool.false_eq_true, if_false]
  obtain ⟨h2, tk2, e2, kept⟩ := moved_old (s := s) rfl rfl (Moved.trans (fun a b c p q => q.trans p) mv1 mv2)
  subst e2
  exact wpAny_pure (h h2 tk2 kept)
end
end Lz
namespace Lz
open PySem PySem.Spec PyProof.Rows L2
section
variable {X : Cx}
/-- a, b, c = e, e a list -/
def gUnp (K : PySem.W.Frag) (n : Nat) (t : TGs) : TG := fun v σ H Q => ∃ a xs, v = .ref a ∧ SqL K H a xs ∧ xs.length = n ∧ t xs σ H Q
theorem pg_unp {es : List Expr} {c : Nat} {t : TGs} {n : Nat} {pos : Pos} (hc : X.calm = true) (h : PGs X es t) (hn : (assignEach es X.env).length = n := by rfl) (hst : (assignEach es X.env).findIdx? (·.1) = none := by rfl) : PG X (.Tuple es c pos) (gUnp X.K n t) := by
  refine ⟨fun pins s σ H v u Q I r hw => ?_⟩
  obtain ⟨a, xs, rfl, hq, hl, hw⟩ := hw
  cases r
  obtain ⟨its, rv, pl, hz⟩ := I.list hq
  rw [assign_Tuple]
  refine wpAny_bind (wpAny_standAt (unpack_list (I.ok.hd hc) pl.isList (by simp [hn, ← hl, rv.length]) hst fun h' tk kept => ?_))
  exact h.run pins _ σ H xs _ Q (I.kept (t' := tk) kept) (by simpa using rv) hw
end
end Lz
/-! all that a loop is made of, in its one order; the program's loop -/
namespace Wb
open PySem L2 WbMin WbS Lz
abbrev sLine : Stmt := top 63
def LD.srt (L : LD) (sg : List Nat) : LD := { L with sg := sg }
theorem LD.Ok.srt {L : LD} (O : L.Ok) {sg : List Nat} (p : sg.Perm L.sg) : (L.srt sg).Ok :=
  ⟨⟨fun c hc => O.sgs.low c (p.mem_iff.mp hc), p.nodup_iff.mpr O.sgs.nd, by show 0 < sg.length; rw [p.length_eq]; exact O.sgs.pos, by show sg.length ≤ 4; rw [p.length_eq]; exact O.sgs.few⟩, O.sts, fun i c hi hc => O.nxlt i c hi (p.mem_iff.mp hc), O.tnlt⟩
def spLine : Sp := fun vs H Q _ => ∃ (q : Addr) (L : LD), vs = [.ref q] ∧ L.Ok ∧ MdAt H q L ∧
  ∀ (r : Addr) (sg : List Nat) (H' : Hp), sg.Perm L.sg → PyProof.Rows.sortedS (sg.map sOne) = true → RowAt H' r (L.srt sg) → H r = none → Same H H' → Q (.ref r) H'
theorem rows_take {L : LD} (i : Nat) : ((List.range (i + 1)).flatMap fun i => L.sg.map (L.row i)) = ((List.range i).flatMap fun i => L.sg.map (L.row i)) ++ L.sg.map (L.row i) := by
  rw [List.range_succ, List.flatMap_append, List.flatMap_cons, List.flatMap_nil, List.append_nil]
theorem Tups.append {H : Hp} : ∀ {as bs : List Addr} {xs ys : List (List V)}, Tups H as xs → Tups H bs ys → Tups H (as ++ bs) (xs ++ ys)
  | [], _, [], _, _, h => h
  | _ :: _, _, _ :: _, _, h, g => ⟨h.1, Tups.append h.2 g⟩
  | [], _, _ :: _, _, h, _ => h.elim
  | _ :: _, _, [], _, h, _ => h.elim
section
variable {P : Program} {w : World} {K : PySem.W.Frag} {mg : Str → Option Value} {base : Heap} {f fL : Addr} {fd dL : FuncData} {A : LA} {e : Addr}
abbrev NLi : List Str := ["_law_model_here", "_law_abc", "_law_posts", "_law_steps", "_law_ends", "_law_oks", "_law_lines", "_law_post", "_law_closings", "_law_mark"]
theorem scLi : FnScope NLi ["_law_model_here"] (defScope sLine) := ⟨rfl, rfl, rfl, by decide +kernel, rfl, by decide +kernel, by decide +kernel⟩
set_option maxHeartbeats 0 in
theorem ok_line (F : Fun K "_law_line" "_law_line" sLine f fd) (mT : mg "tuple" = none) (mS : mg "sorted" = none) : FnOk P w K mg base CX0 1 f fd ["_law_model_here"] spLine := by
  refine F.ok scLi (fun vs H Q E h => ?_) (fun cdv A outer s H vs Q E hr h => ?_)
  · obtain ⟨q, L, rfl, _⟩ := h
    rfl
  · obtain ⟨q, L, rfl, O, M, k⟩ := h
    refine ⟨_, pss_cons (ps_asg (pv 0) (pg_unp rfl (pgs_cons (pg_name (i := 1) scLi.nd rfl (.inl rfl)) (pgs_cons (pg_name (i := 2) scLi.nd rfl (.inl rfl)) (pgs_cons (pg_name (i := 3) scLi.nd rfl (.inr rfl)) (pgs_cons (pg_name (i := 4) scLi.nd rfl (.inr rfl)) (pgs_cons (pg_name (i := 5) scLi.nd rfl (.inr rfl)) pgs_nil)))))))
      (pss_cons (ps_set (i := 1) scLi.nd rfl (.inl rfl) (pe_join pe_str (pe_callB (call_sortedTx rfl) (by rfl) mS (by decide +kernel) (pa_cons (pv 1) pa_nil))))
      (pss_cons (ps_set (i := 6) scLi.nd rfl (.inl rfl) (pe_lst pa_nil))
      (pss_cons (ps_for PassesOwn.never rfl (pi_list (pv 2)) (pg_name (i := 7) scLi.nd rfl (.inr rfl))
        (pss_one (ps_set (i := 6) scLi.nd rfl (.inl rfl) (pe_op op_cat (pv 6)
          (pe_lc (own := [("_law_mark", 9)]) (g := gName 9) (tt := tYes) rfl scLi.nd (pi_str (pv 1)) (blkOk_by (N := NLi) (sc := defScope sLine) (by decide +kernel)) (fun _ _ _ _ _ => pg_name (i := 9) scLi.nd rfl (.inl rfl)) (fun _ _ _ _ _ => pts_nil)
            (fun _ _ _ _ _ => pe_op (show OpR _ _ (rCatT K) from op_catT) (pe_tup (pa_cons (pv 7) (pa_cons (pv 9) pa_nil))) (pe_dget (un2 hr) (pv 3) (pe_tup (pa_cons (pv 7) (pa_cons (pv 9) pa_nil))) (fun _ _ => rfl))))))))
      (pss_cons (ps_setLc (i := 8) (own := [("_law_post", 7)]) (g := gName 7) (tt := tYes) rfl scLi.nd rfl rfl (sw_true rfl rfl rfl (by decide +kernel)) (pi_list (pv 2)) (blkOk_by (N := NLi) (sc := defScope sLine) (by decide +kernel)) (fun _ _ _ _ _ => pg_name (i := 7) scLi.nd rfl (.inl rfl)) (fun _ _ _ _ _ => pts_nil)
          (fun _ _ _ _ _ => pe_op (show OpR _ _ (rCatT K) from op_catT) (pe_tup (pa_cons (pv 7) pa_nil)) (pe_dget (un2 hr) (pv 4) (pv 7) (fun _ _ => rfl))))
      (pss_one (ps_ret (pe_tup (pa_cons (pv 1) (pa_cons (pe_callTy call_tuple_of (by rfl) mT (by decide +kernel) (pa_cons (pv 2) pa_nil)) (pa_cons (pe_callTy call_tuple_of (by rfl) mT (by decide +kernel) (pa_cons (pv 6) pa_nil)) (pa_cons (pe_callTy call_tuple_of (by rfl) mT (by decide +kernel) (pa_cons (pv 8) pa_nil))
        (pa_cons (pe_callTy call_tuple_of (by rfl) mT (by decide +kernel) (pa_cons (pe_lc (own := [("_law_post", 7)]) (g := gName 7) rfl scLi.nd (pi_list (pv 2)) (blkOk_by (N := NLi) (sc := defScope sLine) (by decide +kernel)) (fun _ _ _ _ _ => pg_name (i := 7) scLi.nd rfl (.inl rfl)) (fun _ _ _ _ _ => pts_one (pt_cmpR (show OpR _ _ (rIn K false) from op_in_seq) (pv 7) (pv 5) (by rfl))) (fun _ _ _ _ _ => pv 7)) pa_nil)) pa_nil)))))))))))), ?_⟩
    obtain ⟨A, Sd, Ed, Ok, kvs, ws, h0, hA, hS, hE, e2, e1, hO⟩ := M
    have pos := O.sgs.pos
    have sgf := O.sgs.few
    have stf : L.st.length ≤ 6 := O.sts.few
    refine ⟨_, rfl, q, _, rfl, SqL.of h0, rfl, _, _, rfl, _, _, rfl, _, _, rfl, _, _, rfl, _, _, rfl, rfl, ?_⟩
    refine ⟨⟨_, rfl⟩, _, rfl, S L.sg, rfl, by rw [S_len]; omega, fun ys p perm srt hp' => ?_⟩
    rw [S_cps] at perm
    obtain ⟨sg, hsg, rfl⟩ := perm_codes perm
    have lsg : sg.length = L.sg.length := hsg.length_eq
    have s1 : Same H (L2.upd H p (.lst ((sg.map sOne).map V.str))) := Same.put (Same.refl H) hp'
    refine ⟨_, p, sg.map sOne, rfl, rfl, .inl (SqL.of upd_same), ?_, ?_⟩
    · have e1 : ((sg.map sOne).map fun x => x.length) = List.replicate sg.length 1 := by
        rw [List.map_map]
        exact List.map_eq_replicate_iff.mpr fun _ _ => rfl
      have e2 : (Str.ofString "").length = 0 := by decide +kernel
      rw [e1, e2, List.sum_replicate_nat]
      omega
    have ej : Txt.join (Str.ofString "") (sg.map sOne) = S sg := join_one (by omega)
    rw [ej]
    generalize L2.upd H p (.lst ((sg.map sOne).map V.str)) = H1 at s1 ⊢
    refine ⟨by show 0 ≤ sizeLine; decide, fun l0 hl0 => ?_⟩
    have s2 := Same.put (o := .lst []) s1 hl0
    have hl2 : (L2.upd H1 l0 (.lst [])) l0 = some (.lst []) := upd_same
    generalize L2.upd H1 l0 (.lst []) = H2 at s2 hl2 ⊢
    refine ⟨_, rfl, A, rfl, ⟨_, SqL.of (s2 _ _ hA)⟩, for_it (walk_list (xs := L.st.map V.str)) (fun i σ H' => ∃ (lr : Addr) (as : List Addr) (v7 : Option V), σ = [some (.ref q), some (.str (S sg)), some (.ref A), some (.ref Sd), some (.ref Ed), some (.ref Ok), some (.ref lr), v7, none, none] ∧ H' lr = some (.lst (as.map V.ref)) ∧ Tups H' as (((List.range i).flatMap fun i => sg.map ((L.srt sg).row i)).map Row.v) ∧ as.length = i * sg.length ∧ Same H H')
      ⟨l0, [], none, rfl, hl2, trivial, (Nat.zero_mul _).symm, s2⟩ (fun _ _ _ _ h => by obtain ⟨_, _, _, _, _, _, _, h⟩ := h; exact SqL.of (h _ _ hA)) ?_ ?_⟩
    · rintro i x σ H3 H3' hi ⟨lr, as, v7, rfl, h1, h2, la, s3⟩ ⟨rfl, hx⟩
      rw [List.length_map] at hi
      have hi : i < L.n := hi
      have hx' : x = .str (L.nm i) := Option.some.inj (hx.symm.trans (map_get (nm_at hi)))
      subst hx'
      refine ⟨_, rfl, _, rfl, _, rfl, fun D hD => lc_it walk_str (fun j H4 => ∃ bs : List Addr, H4 D = some (.lst (bs.map V.ref)) ∧ Tups H4 bs (((sg.take j).map ((L.srt sg).row i)).map Row.v) ∧ bs.length = j ∧ Same H3' H4) ⟨[], upd_same, trivial, rfl, Same.put (Same.refl _) hD⟩ (fun _ _ _ _ => trivial) ?_ ?_⟩
      · rintro j x H4 H4' hj ⟨bs, g1, g2, lb, g3⟩ ⟨rfl, c, hc, rfl⟩
        have hc' : sg[j]? = some c := k_in_S hc
        rw [S_size] at hj
        have cm : c ∈ L.sg := hsg.mem_iff.mp (List.mem_of_getElem? hc')
        have s4 := s3.trans g3
        refine ⟨rfl, _, rfl, _, rfl, by show 2 ≤ sizeLine; decide, fun u hu => ?_⟩
        have s5 := Same.put (o := .tup [.str (L.nm i), .str ⟨#[c]⟩]) s4 hu
        have g5 := Same.put (o := .tup [.str (L.nm i), .str ⟨#[c]⟩]) g3 hu
        have gD5 : (L2.upd H4' u (.tup [.str (L.nm i), .str ⟨#[c]⟩])) D = some (.lst (bs.map V.ref)) := (upd_ne (ne_of_none g1 hu)).trans g1
        have hu5 : (L2.upd H4' u (.tup [.str (L.nm i), .str ⟨#[c]⟩])) u = some (.tup [.str (L.nm i), .str ⟨#[c]⟩]) := upd_same
        have g25 := g2.same (Same.put (o := .tup [.str (L.nm i), .str ⟨#[c]⟩]) (Same.refl _) hu)
        generalize L2.upd H4' u (.tup [.str (L.nm i), .str ⟨#[c]⟩]) = H5 at s5 g5 gD5 hu5 g25 ⊢
        refine ⟨_, rfl, _, rfl, _, rfl, by show 2 ≤ sizeLine; decide, fun u2 hu2 => ?_⟩
        have s6 := Same.put (o := .tup [.str (L.nm i), .str ⟨#[c]⟩]) s5 hu2
        have g6 := Same.put (o := .tup [.str (L.nm i), .str ⟨#[c]⟩]) g5 hu2
        have gD6 : (L2.upd H5 u2 (.tup [.str (L.nm i), .str ⟨#[c]⟩])) D = some (.lst (bs.map V.ref)) := (upd_ne (ne_of_none gD5 hu2)).trans gD5
        have hu6 : (L2.upd H5 u2 (.tup [.str (L.nm i), .str ⟨#[c]⟩])) u = some (.tup [.str (L.nm i), .str ⟨#[c]⟩]) := (upd_ne (ne_of_none hu5 hu2)).trans hu5
        have hu26 : (L2.upd H5 u2 (.tup [.str (L.nm i), .str ⟨#[c]⟩])) u2 = some (.tup [.str (L.nm i), .str ⟨#[c]⟩]) := upd_same
        have g26 := g25.same (Same.put (o := .tup [.str (L.nm i), .str ⟨#[c]⟩]) (Same.refl _) hu2)
        generalize L2.upd H5 u2 (.tup [.str (L.nm i), .str ⟨#[c]⟩]) = H6 at s6 g6 gD6 hu6 hu26 g26 ⊢
        obtain ⟨t, val, ht⟩ := e2 i c hi cm
        refine ⟨Sd, .ref t, rfl, val ▸ DGet.t (k := kk (L.nm i, S [c])) (s6 _ _ hS) hu26, ?_⟩
        refine ⟨u, t, _, _, rfl, rfl, SqT.of hu6, SqT.of (s6 _ _ ht), List.cons_ne_nil _ _, by show 4 ≤ sizeLine; decide, (fun z => nomatch z), fun _ z hz => ?_⟩
        have s7 := Same.put (o := .tup ([.str (L.nm i), .str ⟨#[c]⟩] ++ [.str (L.nm (L.nx i c)), .int (L.am i c)])) (Same.refl H6) hz
        refine ⟨_, s7 _ _ gD6, by rw [List.length_map, sizeLine_eq]; omega, bs ++ [z], ?_, ?_, by rw [List.length_append, lb] <;> rfl, ?_⟩
        · rw [upd_same, List.map_append] <;> rfl
        · rw [take_more hc', List.map_append, List.map_append]
          exact Tups.but (fun x => by intro q; cases q) (s7 _ _ gD6) (But.here (But.refl D _)) (Tups.snoc upd_same (g26.same s7))
        · exact Same.new' (g6.trans s7) hD
      · rintro H4 ⟨bs, g1, g2, lb, g3⟩
        rw [S_size, List.take_length] at g2
        rw [S_size] at lb
        refine ⟨lr, D, _, _, rfl, rfl, g3 _ _ h1, g1, ?_, fun lr' hlr => ?_⟩
        · rw [List.length_map, List.length_map, la, lb, sizeLine_eq]
          have : i * sg.length ≤ 5 * 4 := Nat.mul_le_mul (by omega) (by omega)
          omega
        · have s5 := Same.put (o := .lst (as.map V.ref ++ bs.map V.ref)) (Same.refl H4) hlr
          refine ⟨lr', as ++ bs, _, rfl, ?_, ?_, ?_, (s3.trans g3).trans s5⟩
          · rw [upd_same, List.map_append]
          · rw [show ((List.range (i + 1)).flatMap fun i => sg.map ((L.srt sg).row i)) = _ from rows_take (L := L.srt sg) i, List.map_append]
            exact Tups.append ((h2.same g3).same s5) (g2.same s5)
          · rw [List.length_append, la, lb, Nat.add_mul, Nat.one_mul]
    · rintro σ H3 ⟨lr, as, v7, rfl, h1, h2, la, s3⟩
      rw [List.length_map] at h2 la
      have h2 : Tups H3 as ((L.srt sg).rows.map Row.v) := h2
      refine ⟨_, rfl, A, rfl, ⟨_, SqL.of (s3 _ _ hA)⟩, fun D hD => lc_it (walk_list (xs := L.st.map V.str)) (fun i H4 => ∃ bs : List Addr, H4 D = some (.lst (bs.map V.ref)) ∧ Tups H4 bs (((List.range i).map L.turn).map Trn.v) ∧ bs.length = i ∧ Same H3 H4) ⟨[], upd_same, trivial, rfl, Same.put (Same.refl _) hD⟩ (fun _ _ _ h => by obtain ⟨_, _, _, _, h⟩ := h; exact SqL.of (h _ _ (s3 _ _ hA))) ?_ ?_⟩
      · rintro i x H4 H4' hi ⟨bs, g1, g2, lb, g3⟩ ⟨rfl, hx⟩
        rw [List.length_map] at hi
        have hi : i < L.n := hi
        have hx' : x = .str (L.nm i) := Option.some.inj (hx.symm.trans (map_get (nm_at hi)))
        subst hx'
        have s4 := s3.trans g3
        refine ⟨rfl, _, rfl, by show 1 ≤ sizeLine; decide, fun u hu => ?_⟩
        have s5 := Same.put (o := .tup [.str (L.nm i)]) s4 hu
        have g5 := Same.put (o := .tup [.str (L.nm i)]) g3 hu
        have gD5 : (L2.upd H4' u (.tup [.str (L.nm i)])) D = some (.lst (bs.map V.ref)) := (upd_ne (ne_of_none g1 hu)).trans g1
        have hu5 : (L2.upd H4' u (.tup [.str (L.nm i)])) u = some (.tup [.str (L.nm i)]) := upd_same
        have g25 := g2.same (Same.put (o := .tup [.str (L.nm i)]) (Same.refl _) hu)
        generalize L2.upd H4' u (.tup [.str (L.nm i)]) = H5 at s5 g5 gD5 hu5 g25 ⊢
        obtain ⟨t, val, ht⟩ := e1 i hi
        refine ⟨_, rfl, _, rfl, Ed, .ref t, rfl, val ▸ DGet.k (k := k1 (L.nm i)) (s5 _ _ hE), ?_⟩
        refine ⟨u, t, _, _, rfl, rfl, SqT.of hu5, SqT.of (s5 _ _ ht), List.cons_ne_nil _ _, by show 3 ≤ sizeLine; decide, (fun z => nomatch z), fun _ z hz => ?_⟩
        have s7 := Same.put (o := .tup ([.str (L.nm i)] ++ [.str (L.nm (L.tn i)), .int (L.ta i)])) (Same.refl H5) hz
        refine ⟨_, s7 _ _ gD5, by rw [List.length_map, sizeLine_eq]; omega, bs ++ [z], ?_, ?_, by rw [List.length_append, lb] <;> rfl, ?_⟩
        · rw [upd_same, List.map_append] <;> rfl
        · rw [List.range_succ, List.map_append, List.map_append]
          exact Tups.but (fun x => by intro q; cases q) (s7 _ _ gD5) (But.here (But.refl D _)) (Tups.snoc upd_same (g25.same s7))
        · exact Same.new' (g5.trans s7) hD
      · rintro H4 ⟨bs, g1, g2, lb, g3⟩
        rw [List.length_map] at g2 lb
        have g2 : Tups H4 bs ((L.srt sg).turns.map Trn.v) := g2
        have s4 := s3.trans g3
        refine ⟨_, rfl, _, rfl, A, _, rfl, .inl ⟨SqL.of (s4 _ _ hA), fun tA htA => ?_⟩⟩
        have s5 := Same.put (o := .tup (L.st.map V.str)) (Same.refl H4) htA
        have r5 : (L2.upd H4 tA (.tup (L.st.map V.str))) tA = some (.tup (L.st.map V.str)) := upd_same
        generalize L2.upd H4 tA (.tup (L.st.map V.str)) = H5 at s5 r5 ⊢
        refine ⟨_, rfl, lr, _, rfl, .inl ⟨SqL.of (s5 _ _ (g3 _ _ h1)), fun tR htR => ?_⟩⟩
        have s6 := Same.put (o := .tup (as.map V.ref)) (Same.refl H5) htR
        have r6 : (L2.upd H5 tR (.tup (as.map V.ref))) tR = some (.tup (as.map V.ref)) := upd_same
        generalize L2.upd H5 tR (.tup (as.map V.ref)) = H6 at s6 r6 ⊢
        have s46 := s5.trans s6
        refine ⟨_, rfl, D, _, rfl, .inl ⟨SqL.of (s46 _ _ g1), fun tU htU => ?_⟩⟩
        have s7 := Same.put (o := .tup (bs.map V.ref)) (Same.refl H6) htU
        have r7 : (L2.upd H6 tU (.tup (bs.map V.ref))) tU = some (.tup (bs.map V.ref)) := upd_same
        generalize L2.upd H6 tU (.tup (bs.map V.ref)) = H7 at s7 r7 ⊢
        have s47 := s46.trans s7
        have s07 := s4.trans s47
        refine ⟨_, rfl, A, rfl, ⟨_, SqL.of (s07 _ _ hA)⟩, fun D2 hD2 => lc_it (walk_list (xs := L.st.map V.str)) (fun i H8 => H8 D2 = some (.lst (((L.st.take i).filter fun z => decide (z ∈ L.yes)).map V.str)) ∧ Same H7 H8) ⟨upd_same, Same.put (Same.refl _) hD2⟩ (fun _ _ _ h => SqL.of (h.2 _ _ (s07 _ _ hA))) ?_ ?_⟩
        · rintro i x H8 H8' hi ⟨y1, y2⟩ ⟨rfl, hx⟩
          rw [List.length_map] at hi
          have hx' : x = .str (L.nm i) := Option.some.inj (hx.symm.trans (map_get (nm_at hi)))
          subst hx'
          refine ⟨rfl, _, rfl, _, rfl, Ok, _, rfl, .inl (SqL.of (y2 _ _ (s07 _ _ hO))), rfl, flat_strs _, _, rfl, ?_⟩
          rw [show inV (.str (L.nm i)) (L.yes.map V.str) = decide (L.nm i ∈ L.yes) from inV_strs _ _]
          refine ite2 (fun q => ?_) (fun q => ?_)
          · refine ⟨_, rfl, _, y1, ?_, ?_, Same.new' y2 hD2⟩
            · rw [List.length_map, sizeLine_eq]
              have := List.length_filter_le (fun z => decide (z ∈ L.yes)) (L.st.take i)
              have := List.length_take_le' i L.st
              omega
            · rw [upd_same, take_more (nm_at hi), List.filter_append, List.map_append]
              rw [show ([L.nm i].filter fun z => decide (z ∈ L.yes)) = [L.nm i] from List.filter_cons_of_pos q] <;> rfl
          · refine ⟨?_, y2⟩
            rw [y1, take_more (nm_at hi), List.filter_append, show ([L.nm i].filter fun z => decide (z ∈ L.yes)) = [] from List.filter_cons_of_neg q, List.append_nil]
        · rintro H8 ⟨y1, y2⟩
          rw [List.length_map, List.take_length, yes_filter O] at y1
          refine ⟨D2, _, rfl, .inl ⟨SqL.of y1, fun tY htY => ?_⟩⟩
          have s9 := Same.put (o := .tup (L.yes.map V.str)) (Same.refl H8) htY
          have r9 : (L2.upd H8 tY (.tup (L.yes.map V.str))) tY = some (.tup (L.yes.map V.str)) := upd_same
          generalize L2.upd H8 tY (.tup (L.yes.map V.str)) = H9 at s9 r9 ⊢
          have s79 := y2.trans s9
          refine ⟨by show 5 ≤ sizeLine; decide, fun r hr0 => ?_⟩
          have s10 := Same.put (o := .tup [.str (S sg), .ref tA, .ref tR, .ref tU, .ref tY]) (Same.refl H9) hr0
          have s010 : Same H (L2.upd H9 r (.tup [.str (S sg), .ref tA, .ref tR, .ref tU, .ref tY])) := (s07.trans s79).trans s10
          have z7 := s79.trans s10
          have z6 := s7.trans z7
          have z5 := s6.trans z6
          have z4 := s5.trans z5
          exact k r sg _ hsg srt ⟨tA, tR, tU, tY, as, bs, upd_same, z5 _ _ r5, z6 _ _ r6, (h2.same g3).same z4, z7 _ _ r7, g2.same z4, s10 _ _ r9⟩ (none_of_same (s07.trans s79) hr0) s010
end
end Wb
/-! what a loop's answers hang on: the map of a word alone -/
namespace Wb
open PySem L2 WbMin WbS Lz
/-- the names of the first states -/
def LD.nms (L : LD) (w : List Nat) (k : Nat) : List Str := (List.range k).map fun m => L.nm (it (L.lead w) m)
theorem it_congr {g g' : Nat → Nat} {n : Nat} (h0 : 0 < n) (lt : ∀ i, i < n → g i < n) (h : ∀ i, i < n → g i = g' i) : ∀ m, it g m = it g' m
  | 0 => rfl
  | m + 1 => by
    show g (it g m) = g' (it g' m)
    rw [← it_congr h0 lt h m]
    exact h _ (it_lt h0 lt m)
theorem fold_fst (L : LD) : ∀ (w : List Nat) (p p' : Nat × Int), p.1 = p'.1 → (w.foldl L.stp p).1 = (w.foldl L.stp p').1
  | [], _, _, h => h
  | c :: w, p, p', h => fold_fst L w _ _ (by show L.nx p.1 c = L.nx p'.1 c; rw [h])
theorem wk_app (L : LD) (u v : List Nat) (i : Nat) : (L.wk (u ++ v) i).1 = (L.wk v (L.wk u i).1).1 := by
  unfold LD.wk
  rw [List.foldl_append]
  exact fold_fst L v _ _ rfl
theorem lead_of {L : LD} {u v : List Nat} {i : Nat} (h : (L.wk u i).1 = (L.wk v i).1) : L.lead u i = L.lead v i := congrArg L.tn h
/-- a word that leads from each state where the other one leads -/
def Alike (L : LD) (u v : List Nat) : Prop := ∀ i, i < L.n → (L.wk u i).1 = (L.wk v i).1
theorem Alike.left {L : LD} {u v w : List Nat} (h : Alike L u v) : Alike L (u ++ w) (v ++ w) := fun i hi => by rw [wk_app, wk_app, h i hi]
theorem Alike.right {L : LD} (O : L.Ok) {u v w : List Nat} (hw : ∀ c ∈ w, c ∈ L.sg) (h : Alike L u v) : Alike L (w ++ u) (w ++ v) := fun i hi => by rw [wk_app, wk_app, h _ (wk_lt O hi hw)]
theorem Alike.it {L : LD} (O : L.Ok) {u v : List Nat} (hu : ∀ c ∈ u, c ∈ L.sg) (h : Alike L u v) (m : Nat) : it (L.lead u) m = it (L.lead v) m :=
  it_congr O.sts.pos (fun i hi => gone_lt O hi hu) (fun i hi => lead_of (h i hi)) m
theorem LoopAt.but {C T : Addr} {H H' : Hp} {p r : Addr} {L : LD} (hp : PoolAt H p) (s : But p H H') : LoopAt C T H r L → LoopAt C T H' r L := by
  rintro ⟨dx, t, rr, u, y, tb, as, bs, h0, pr, dx', dN, dX, dA, tX, tA, tY, xs, as', g0, hX, hx, hA, ha, hTX, hTA, hTY⟩
  obtain ⟨a, b, c, e, _⟩ := id hp
  have no : ∀ x, HO.lst [V.int a, .int b, .int c] ≠ HO.tup x := fun x q => by cases q
  exact ⟨dx, t, rr, u, y, tb, as, bs, s _ _ (pool_other hp h0 fun _ _ _ q => by cases q) h0, pr.but no e s, dx', dN, dX, dA, tX, tA, tY, xs, as', s _ _ (pool_other hp g0 fun _ _ _ q => by cases q) g0, s _ _ (pool_other hp hX fun _ _ _ q => by cases q) hX, hx.but no e s,
    s _ _ (pool_other hp hA fun _ _ _ q => by cases q) hA, ha.but no e s, s _ _ (pool_other hp hTX fun _ _ _ q => by cases q) hTX, s _ _ (pool_other hp hTA fun _ _ _ q => by cases q) hTA, s _ _ (pool_other hp hTY fun _ _ _ q => by cases q) hTY⟩
theorem LoopAt.hd {C T : Addr} {H : Hp} {r : Addr} {L : LD} (h : LoopAt C T H r L) : ∃ (dx : Addr) (fs : List (Str × V)), H r = some (.ins C dx fs) ∧ fs.lookup ("answer" : Str) = none ∧ fs.lookup ("state" : Str) = none := by
  obtain ⟨dx, t, rr, u, y, tb, as, bs, h0, pr, TA⟩ := h
  obtain ⟨_, _, _, x4, x5⟩ := lf_none (S L.sg) t rr u y tb
  exact ⟨dx, _, h0, x4, x5⟩
theorem MdAt.hd {H : Hp} {q : Addr} {L : LD} (h : MdAt H q L) : ∃ A Sd Ed O : Addr, H q = some (.lst [.str (S L.sg), .ref A, .ref Sd, .ref Ed, .ref O]) ∧ H A = some (.lst (L.st.map V.str)) ∧ H O = some (.lst (L.yes.map V.str)) := by
  obtain ⟨A, Sd, Ed, O, kvs, ws, h0, hA, hS, hE, e2, e1, hO⟩ := h
  exact ⟨A, Sd, Ed, O, h0, hA, hO⟩
theorem PoolAt.same {H H' : Hp} {p : Addr} (h : PoolAt H p) (s : Same H H') : PoolAt H' p := by
  obtain ⟨a, b, c, e, r⟩ := h
  exact ⟨a, b, c, s _ _ e, r⟩
end Wb
/-! totals of a loop: the mathematics -/
namespace Wb
open PySem L2 WbMin WbS Lz
theorem LD.Small.srt {L : LD} (s : L.Small) {sg : List Nat} (p : sg.Perm L.sg) : (L.srt sg).Small := ⟨fun i c hi hc => s.am i c hi (p.mem_iff.mp hc), s.ta⟩
def LD.cf (L : LD) (w : List Nat) (m : Nat) : Int := L.cnt w (it (L.lead w) m)
end Wb
/-! the face of a thing: a def that calls itself, over things of any kind -/
namespace Wb
open PySem L2
abbrev sFace : Stmt := top 57
theorem Same.new2 {q : Addr} {o : HO} {H H' : Hp} (a : Same H H') (n : H q = none) : Same H (L2.upd H' q o) := fun c u h => by
  rw [upd_ne (ne_of_none h n)]
  exact a c u h
/-! ### data stay -/
theorem SqT.stay {K : PySem.W.Frag} {H H' : Hp} {a : Addr} {xs : List V} (s : Same H H') (h : SqT K H a xs) : SqT K H' a xs := by
  rcases h with (q | ⟨o, q⟩) | q
  · exact .inl (.inl (s _ _ q))
  · exact .inl (.inr ⟨o, s _ _ q⟩)
  · exact .inr q
mutual
theorem Dp.stay {K : PySem.W.Frag} {H H' : Hp} (s : Same H H') : ∀ {v : V} {d : PyData}, Dp K H v d → Dp K H' v d
  | _, _, .non => .non
  | _, _, .bl b => .bl b
  | _, _, .int i => .int i
  | _, _, .str x => .str x
  | _, _, .lst h r => .lst (s.seq h) (DpAll.stay s r)
  | _, _, .tup h r => .tup (SqT.stay s h) (DpAll.stay s r)
theorem DpAll.stay {K : PySem.W.Frag} {H H' : Hp} (s : Same H H') : ∀ {vs : List V} {ds : List PyData}, DpAll K H vs ds → DpAll K H' vs ds
  | _, _, .nil => .nil
  | _, _, .cons h r => .cons (Dp.stay s h) (DpAll.stay s r)
end
theorem DpAll.snoc {K : PySem.W.Frag} {H : Hp} {v : V} {d : PyData} : ∀ {vs : List V} {ds : List PyData}, DpAll K H vs ds → Dp K H v d → DpAll K H (vs ++ [v]) (ds ++ [d])
  | _, _, .nil, h => .cons h .nil
  | _, _, .cons h r, q => .cons h (DpAll.snoc r q)
/-! ### what a thing is, by the face that it has -/
def plainD (d : PyData) : PyData := .list [.str "plain", d]
/-- a thing without parts -/
inductive Leaf : V → PyData → Prop
  | non : Leaf .non (plainD .none)
  | bl (b : Bool) : Leaf (.bl b) (.list [.str "truth", .bool b])
  | int (i : Int) : Leaf (.int i) (plainD (.int i))
  | str (x : Str) : Leaf (.str x) (plainD (.str x))
inductive Both {α β : Type} (R : α → β → Prop) : List α → List β → Prop
  | nil : Both R [] []
  | cons {x : α} {y : β} {xs : List α} {ys : List β} (h : R x y) (r : Both R xs ys) : Both R (x :: xs) (y :: ys)
theorem Both.imp {α β : Type} {R R' : α → β → Prop} (f : ∀ x y, R x y → R' x y) : ∀ {xs : List α} {ys : List β}, Both R xs ys → Both R' xs ys
  | _, _, .nil => .nil
  | _, _, .cons h r => .cons (f _ _ h) (Both.imp f r)
theorem Both.len {α β : Type} {R : α → β → Prop} : ∀ {xs : List α} {ys : List β}, Both R xs ys → xs.length = ys.length
  | _, _, .nil => rfl
  | _, _, .cons _ r => congrArg (· + 1) (Both.len r)
theorem Both.get {α β : Type} {R : α → β → Prop} : ∀ {xs : List α} {ys : List β} {i : Nat} {x : α}, Both R xs ys → xs[i]? = some x → ∃ y, ys[i]? = some y ∧ R x y
  | _, _, _, _, .nil, h => by cases h
  | _, _, 0, _, .cons h _, e => by cases e; exact ⟨_, rfl, h⟩
  | _ :: _, _ :: _, i + 1, _, .cons _ r, e => Both.get (i := i) r e
def keyD (k : Str) (d : PyData) : PyData := .list [plainD (.str k), d]
def kvsOf (ks : List Str) (xs : List V) : List (Key × V) := List.zipWith (fun k x => (Sum.inr k, x)) ks xs
/-- all but what lies at a -/
def cut (H : Hp) (a : Addr) : Hp := fun b => if b = a then none else H b
theorem cut_same {H H' : Hp} {a : Addr} (s : Same H H') : Same (cut H a) (cut H' a) := fun b o h => by
  unfold cut at h ⊢
  by_cases e : b = a
  · rw [if_pos e] at h
    cases h
  · rw [if_neg e] at h ⊢
    exact s _ _ h
theorem cutH_to {H H' : Hp} {a : Addr} (s : ∀ b o, b ≠ a → H b = some o → H' b = some o) : Same (cut H a) H' := fun b o h => by
  unfold cut at h
  by_cases e : b = a
  · rw [if_pos e] at h
    cases h
  · rw [if_neg e] at h
    exact s _ _ e h
/-- at most n parts within parts; d the face -/
def Thing (H : Hp) : Nat → V → PyData → Prop
  | 0, _, _ => False
  | n + 1, v, d => Leaf v d ∨ (∃ (a : Addr) (xs : List V) (ds : List PyData), v = .ref a ∧ H a = some (.lst xs) ∧ xs.length ≤ 1000 ∧ Both (Thing H n) xs ds ∧ d = .list (.str "list" :: ds))
    ∨ (∃ (a : Addr) (xs : List V) (ds : List PyData), v = .ref a ∧ H a = some (.tup xs) ∧ xs.length ≤ 1000 ∧ Both (Thing H n) xs ds ∧ d = .list (.str "tuple" :: ds))
    ∨ (∃ (a : Addr) (ks : List Str) (xs : List V) (ds : List PyData), v = .ref a ∧ H a = some (.dK (kvsOf ks xs)) ∧ ks.Nodup ∧ ks.length = xs.length ∧ xs.length ≤ 1000 ∧ Both (Thing (cut H a) n) xs ds ∧ d = .list (.str "dict" :: List.zipWith keyD ks ds))
theorem Thing.same {H H' : Hp} (s : Same H H') : ∀ {n : Nat} {v : V} {d : PyData}, Thing H n v d → Thing H' n v d
  | 0, _, _, h => h.elim
  | _ + 1, _, _, .inl h => .inl h
  | _ + 1, _, _, .inr (.inl ⟨a, xs, ds, e, h, l, r, q⟩) => .inr (.inl ⟨a, xs, ds, e, s _ _ h, l, r.imp fun _ _ z => Thing.same s z, q⟩)
  | _ + 1, _, _, .inr (.inr (.inl ⟨a, xs, ds, e, h, l, r, q⟩)) => .inr (.inr (.inl ⟨a, xs, ds, e, s _ _ h, l, r.imp fun _ _ z => Thing.same s z, q⟩))
  | _ + 1, _, _, .inr (.inr (.inr ⟨a, ks, xs, ds, e, h, nd, l1, l, r, q⟩)) => .inr (.inr (.inr ⟨a, ks, xs, ds, e, s _ _ h, nd, l1, l, r.imp fun _ _ z => Thing.same (cut_same s) z, q⟩))
/-- what is new in H' -/
def New (H H' : Hp) : Hp := fun b => match H b with
  | none => H' b
  | some _ => none
theorem New.at {H H' : Hp} {b : Addr} (h : H b = none) : New H H' b = H' b := by
  unfold New
  rw [h]
theorem New.inv {H H' : Hp} {b : Addr} {o : HO} (h : New H H' b = some o) : H b = none ∧ H' b = some o := by
  unfold New at h
  cases e : H b with
  | none =>
    rw [e] at h
    exact ⟨rfl, h⟩
  | some u =>
    rw [e] at h
    cases h
theorem New.sub {H H' : Hp} : Same (New H H') H' := fun _ _ h => (New.inv h).2
theorem New.mono {A B A' B' : Hp} (f : ∀ b o, A b = none → B b = some o → A' b = none ∧ B' b = some o) : Same (New A B) (New A' B') := fun b o h => by
  obtain ⟨h1, h2⟩ := New.inv h
  obtain ⟨g1, g2⟩ := f b o h1 h2
  rw [New.at g1]
  exact g2
def spFace (K : PySem.W.Frag) (n : Nat) : Sp := fun vs H Q _ => ∃ (v : V) (d : PyData), vs = [v] ∧ Thing H n v d ∧ ∀ (a : Addr) (H' : Hp), H a = none → Same H H' → Dp K (New H H') (.ref a) d → Q (.ref a) H'
abbrev NF : List Str := ["_law_thing", "_law_part", "_law_key"]
theorem scFace : FnScope NF ["_law_thing"] (defScope sFace) := ⟨rfl, rfl, rfl, by decide +kernel, rfl, by decide +kernel, by decide +kernel⟩
structure FreeT (mg : Str → Option Value) : Prop where
  isi : mg "isinstance" = none
  tup : mg "tuple" = none
  lst : mg "list" = none
  dct : mg "dict" = none
  bool : mg "bool" = none
theorem leaf_ty {K : PySem.W.Frag} {H : Hp} {v : V} {d : PyData} (h : Leaf v d) : ∃ (t : String) (b : Bool) (d' : PyData), TyX K H v (.type t) ∧ PySem.W.kitOne K (.type t) (.type "tuple") = some false ∧ PySem.W.kitOne K (.type t) (.type "list") = some false ∧
    PySem.W.kitOne K (.type t) (.type "dict") = some false ∧ PySem.W.kitOne K (.type t) (.type "bool") = some b ∧ d = .list [.str (if b = true then "truth" else "plain"), d'] ∧ ∀ H', Dp K H' v d' := by
  cases h with
  | non => exact ⟨_, _, _, .base .non, kit_ty (by decide +kernel), kit_ty (by decide +kernel), kit_ty (by decide +kernel), kit_ty (r := false) (by decide +kernel), rfl, fun _ => .non⟩
  | bl b => exact ⟨_, _, _, .base (.bl b), kit_ty (by decide +kernel), kit_ty (by decide +kernel), kit_ty (by decide +kernel), kit_ty (r := true) (by decide +kernel), rfl, fun _ => .bl b⟩
  | int i => exact ⟨_, _, _, .base (.int i), kit_ty (by decide +kernel), kit_ty (by decide +kernel), kit_ty (by decide +kernel), kit_ty (r := false) (by decide +kernel), rfl, fun _ => .int i⟩
  | str x => exact ⟨_, _, _, .base (.str x), kit_ty (by decide +kernel), kit_ty (by decide +kernel), kit_ty (by decide +kernel), kit_ty (r := false) (by decide +kernel), rfl, fun _ => .str x⟩
theorem free_of {H H' : Hp} {q : Addr} (s : Same H H') (n : H' q = none) : H q = none := by
  cases e : H q with
  | none => rfl
  | some o =>
    rw [s _ _ e] at n
    cases n
/-- the list of faces grows in D -/
def FacePv (K : PySem.W.Frag) (B : Hp) (D : Addr) (ds : List PyData) (i : Nat) (H : Hp) : Prop := ∃ ys : List V, H D = some (.lst ys) ∧ ys.length = i ∧ DpAll K (New (upd B D (.lst [])) H) ys (ds.take i) ∧ Same B H
theorem FacePv.same {K : PySem.W.Frag} {B H : Hp} {D : Addr} {ds : List PyData} {i : Nat} (h : FacePv K B D ds i H) (_ : B D = none) : Same B H := h.choose_spec.2.2.2
theorem FacePv.start {K : PySem.W.Frag} {B : Hp} {D : Addr} {ds : List PyData} (hD : B D = none) : FacePv K B D ds 0 (upd B D (.lst [])) := ⟨[], upd_same, rfl, by rw [List.take_zero]; exact .nil, Same.new2 (Same.refl _) hD⟩
theorem FacePv.grow {K : PySem.W.Frag} {B H H5 : Hp} {D : Addr} {ds : List PyData} {i : Nat} {v : V} {y : PyData} (h : FacePv K B D ds i H) (hD : B D = none) (hy : ds[i]? = some y) (s5 : Same H H5)
    (d5 : ∀ ys, H D = some (.lst ys) → Dp K (New (upd B D (.lst [])) (upd H5 D (.lst (ys ++ [v])))) v y) (few : i < 16777216) : ∃ acc, H5 D = some (.lst acc) ∧ acc.length < sizeLine ∧ FacePv K B D ds (i + 1) (upd H5 D (.lst (acc ++ [v]))) := by
  obtain ⟨ys, e1, e2, e3, e4⟩ := h
  refine ⟨ys, s5 _ _ e1, by rw [sizeLine_eq]; omega, ys ++ [v], upd_same, by rw [List.length_append, e2] <;> rfl, ?_, Same.new2 (e4.trans s5) hD⟩
  rw [List.take_add_one, hy]
  refine DpAll.snoc (DpAll.stay (New.mono fun b o h1 h2 => ⟨h1, ?_⟩) e3) (d5 ys e1)
  have n : b ≠ D := fun z => by
    rw [z, upd_same] at h1
    cases h1
  rw [upd_ne n]
  exact s5 _ _ h2
/-- what is new since later is new since earlier -/
theorem new_in {B H H5 : Hp} {D : Addr} {o : HO} (hB : Same B H) {ys : List V} (hD : H D = some (.lst ys)) : Same (New H H5) (New (upd B D (.lst [])) (upd H5 D o)) := New.mono fun b u h1 h2 => by
  have n : b ≠ D := fun z => by
    rw [z, hD] at h1
    cases h1
  refine ⟨?_, ?_⟩
  · rw [upd_ne n]
    exact free_of hB h1
  · rw [upd_ne n]
    exact h2
theorem FacePv.step {K : PySem.W.Frag} {B H H5 : Hp} {D : Addr} {ds : List PyData} {i : Nat} {c : Addr} {y : PyData} (h : FacePv K B D ds i H) (hD : B D = none) (hy : ds[i]? = some y) (_ : H c = none) (s5 : Same H H5) (d5 : Dp K (New H H5) (.ref c) y) (few : i < 16777216) :
    ∃ acc, H5 D = some (.lst acc) ∧ acc.length < sizeLine ∧ FacePv K B D ds (i + 1) (upd H5 D (.lst (acc ++ [.ref c]))) :=
  h.grow hD hy s5 (fun ys e => Dp.stay (new_in (h.same hD) e) d5) few
theorem FacePv.done {K : PySem.W.Frag} {H H3 : Hp} {L D : Addr} {ds : List PyData} {w : Str} {n : Nat} {Q : VK} (h : FacePv K (upd H L (.lst [.str w])) D ds n H3) (hD : upd H L (.lst [.str w]) D = none) (hL : H L = none) (len : n = ds.length) (few : n ≤ 1000)
    (k : ∀ (a : Addr) (H' : Hp), H a = none → Same H H' → Dp K (New H H') (.ref a) (.list (.str w :: ds)) → Q (.ref a) H') : rCat (.ref L) (.ref D) H3 Q := by
  obtain ⟨ys, e1, e2, e3, e4⟩ := h
  have s0 : Same H H3 := (Same.new2 (Same.refl H) hL).trans e4
  refine ⟨L, D, _, ys, rfl, rfl, e4 _ _ upd_same, e1, by rw [sizeLine_eq, e2]; show 1 + n ≤ _; omega, fun M hM => ?_⟩
  have nM := free_of s0 hM
  refine k M _ nM (Same.new2 s0 nM) ?_
  refine .lst (SqL.of ((New.at nM).trans upd_same)) (.cons (.str _) ?_)
  rw [show ds.take n = ds by rw [len, List.take_length]] at e3
  refine DpAll.stay (New.mono fun b o h1 h2 => ?_) e3
  have n1 : b ≠ D := fun z => by
    rw [z, upd_same] at h1
    cases h1
  rw [upd_ne n1] at h1
  have n2 : b ≠ L := fun z => by
    rw [z, upd_same] at h1
    cases h1
  rw [upd_ne n2] at h1
  refine ⟨h1, ?_⟩
  rw [upd_ne (ne_of_none h2 hM)]
  exact h2
theorem FacePv.unlock {K : PySem.W.Frag} {B H3 : Hp} {a D : Addr} {ds : List PyData} {n : Nat} {u : HO} {od : Obj} (h : FacePv K (upd B a (.frz od u)) D ds n H3) (hD : upd B a (.frz od u) D = none) (ha : B a = some u) : FacePv K B D ds n (upd H3 a u) := by
  obtain ⟨ys, e1, e2, e3, e4⟩ := h
  have nD : D ≠ a := fun z => by
    rw [z, upd_same] at hD
    cases hD
  refine ⟨ys, (upd_ne nD).trans e1, e2, DpAll.stay (New.mono fun b o h1 h2 => ?_) e3, fun b o h => ?_⟩
  · have n1 : b ≠ D := fun z => by
      rw [z, upd_same] at h1
      cases h1
    rw [upd_ne n1] at h1
    have n2 : b ≠ a := fun z => by
      rw [z, upd_same] at h1
      cases h1
    rw [upd_ne n2] at h1
    rw [upd_ne n1, upd_ne n2]
    exact ⟨h1, h2⟩
  · by_cases e : b = a
    · rw [e, upd_same]
      rw [e, ha] at h
      exact h
    · rw [upd_ne e]
      exact e4 _ _ ((upd_ne e).trans h)
theorem kvs_at {ks : List Str} {xs : List V} {i : Nat} {kk : Key} {vv : V} (h : (kvsOf ks xs)[i]? = some (kk, vv)) : ∃ kt, kk = Sum.inr kt ∧ ks[i]? = some kt ∧ xs[i]? = some vv := by
  unfold kvsOf at h
  rw [List.getElem?_zipWith] at h
  cases h1 : ks[i]? with
  | none =>
    rw [h1] at h
    cases h
  | some kt =>
    cases h2 : xs[i]? with
    | none =>
      rw [h1, h2] at h
      cases h
    | some x =>
      rw [h1, h2] at h
      cases h
      exact ⟨kt, rfl, rfl, rfl⟩
theorem valV_at : ∀ {ks : List Str} {xs : List V} {i : Nat} {kt : Str} {vv : V}, ks.Nodup → ks.length = xs.length → ks[i]? = some kt → xs[i]? = some vv → valV (kvsOf ks xs) (Sum.inr kt) = some vv
  | [], _, _, _, _, _, _, h, _ => by cases h
  | _ :: _, [], _, _, _, _, h, _, _ => by cases h
  | k :: ks, x :: xs, 0, kt, vv, _, _, h1, h2 => by
    cases h1
    cases h2
    show ((List.find? _ ((Sum.inr k, x) :: kvsOf ks xs)).map (·.2)) = some x
    rw [List.find?_cons_of_pos (by simp)] <;> rfl
  | k :: ks, x :: xs, i + 1, kt, vv, nd, len, h1, h2 => by
    obtain ⟨n1, n2⟩ := List.nodup_cons.mp nd
    have h1' : ks[i]? = some kt := h1
    have ne : k ≠ kt := fun z => n1 (z ▸ List.mem_of_getElem? h1')
    have ih := valV_at (ks := ks) (xs := xs) (i := i) n2 (Nat.succ.inj len) h1' h2
    show ((List.find? _ ((Sum.inr k, x) :: kvsOf ks xs)).map (·.2)) = some vv
    rw [List.find?_cons_of_neg (by simpa using ne)]
    exact ih
section
variable {P : Program} {w : World} {K : PySem.W.Frag} {mg : Str → Option Value} {base : Heap} {f : Addr} {fd : FuncData}
theorem face_none : FnOk P w K mg base CX0 1 f fd ["_law_thing"] (spFace K 0) :=
  ⟨fun vs H Q E h => by obtain ⟨v, d, rfl, z, _⟩ := h; exact z.elim, fun A outer s H args us vs Q E hr e0 hb hv h => by obtain ⟨v, d, rfl, z, _⟩ := h; exact z.elim⟩
set_option maxHeartbeats 0 in
theorem face_more {n : Nat} (D : Fun K "_law_face" "_law_face" sFace f fd) (g : mg "_law_face" = some (.ref f)) (kp : PySem.W.keepIn K (.ref f) = true) (b : Binds K fd ["_law_thing"] []) (Z : FreeT mg)
    (G : FnOk P w K mg base CX0 (n + 1) f fd ["_law_thing"] (spFace K n)) : FnOk P w K mg base CX0 (n + 2) f fd ["_law_thing"] (spFace K (n + 1)) := by
  refine D.ok scFace (fun vs H Q E h => ?_) (fun cdv A outer s H vs Q E hr h => ?_)
  · obtain ⟨v, d, rfl, _⟩ := h
    rfl
  · obtain ⟨v, d, rfl, th, k⟩ := h
    refine ⟨_, pss_cons (ps_if (pt_val (pe_callB call_isi (by rfl) Z.isi (by decide +kernel) (pa_cons (pv 0) (pa_cons (pe_bltn (v := .ty "tuple") (u := .type "tuple") (by rfl) Z.tup (by decide +kernel) rfl) pa_nil))))
        (pss_one (ps_ret (pe_op op_cat (pe_lst (pa_cons pe_str pa_nil))
          (pe_lc (own := [("_law_part", 1)]) (g := gName 1) (tt := tYes) rfl scFace.nd (pi_tup (pv 0)) (blkOk_by (N := NF) (sc := defScope sFace) (by decide +kernel)) (fun _ _ _ _ _ => pg_name (i := 1) scFace.nd rfl (.inl rfl)) (fun _ _ _ _ _ => pts_nil)
            (fun _ _ _ _ _ => pe_call G hr rfl g kp b .nil pass0 (pa_cons (pv 1) pa_nil)))))) pss_nil)
      (pss_cons (ps_if (pt_val (pe_callB call_isi (by rfl) Z.isi (by decide +kernel) (pa_cons (pv 0) (pa_cons (pe_bltn (v := .ty "list") (u := .type "list") (by rfl) Z.lst (by decide +kernel) rfl) pa_nil))))
        (pss_one (ps_ret (pe_op op_cat (pe_lst (pa_cons pe_str pa_nil))
          (pe_lc (own := [("_law_part", 1)]) (g := gName 1) (tt := tYes) rfl scFace.nd (pi_list (pv 0)) (blkOk_by (N := NF) (sc := defScope sFace) (by decide +kernel)) (fun _ _ _ _ _ => pg_name (i := 1) scFace.nd rfl (.inl rfl)) (fun _ _ _ _ _ => pts_nil)
            (fun _ _ _ _ _ => pe_call G hr rfl g kp b .nil pass0 (pa_cons (pv 1) pa_nil)))))) pss_nil)
      (pss_cons (ps_if (pt_val (pe_callB call_isi (by rfl) Z.isi (by decide +kernel) (pa_cons (pv 0) (pa_cons (pe_bltn (v := .ty "dict") (u := .type "dict") (by rfl) Z.dct (by decide +kernel) rfl) pa_nil))))
        (pss_one (ps_ret (pe_op op_cat (pe_lst (pa_cons pe_str pa_nil))
          (pe_lock (pe_lc (own := [("_law_key", 2)]) (g := gName 2) (tt := tYes) rfl scFace.nd (pi_keys (pv 0)) (blkOk_by (N := NF) (sc := defScope sFace) (by decide +kernel)) (fun _ _ _ _ _ => pg_name (i := 2) scFace.nd rfl (.inl rfl)) (fun _ _ _ _ _ => pts_nil)
            (fun _ _ _ _ _ => pe_lst (pa_cons (pe_call G hr rfl g kp b .nil pass0 (pa_cons (pv 2) pa_nil)) (pa_cons (pe_call G hr rfl g kp b .nil pass0 (pa_cons (pe_dget (hu_of hr) (pv 0) (pv 2) (fun _ _ => rfl)) pa_nil)) pa_nil)))))))) pss_nil)
      (pss_one (ps_ret (pe_lst (pa_cons (pe_ifExp (pt_val (pe_callB call_isi (by rfl) Z.isi (by decide +kernel) (pa_cons (pv 0) (pa_cons (pe_bltn (v := .ty "bool") (u := .type "bool") (by rfl) Z.bool (by decide +kernel) rfl) pa_nil)))) pe_str pe_str) (pa_cons (pv 0) pa_nil))))))), ?_⟩
    rcases th with lf | ⟨a, xs, ds, rfl, ha, few, parts, rfl⟩ | ⟨a, xs, ds, rfl, ha, few, parts, rfl⟩ | ⟨a, ks, xs, ds, rfl, ha, nd, len, few, parts, rfl⟩
    · obtain ⟨t, c, d', ty, k1, k2, k3, k4, rfl, dp⟩ := leaf_ty (K := K) (H := H) lf
      refine ⟨_, rfl, _, _, .type t, .type "tuple", false, rfl, .ty "tuple", ty, k1, false, rfl, iteF ?_⟩
      refine ⟨_, rfl, _, _, .type t, .type "list", false, rfl, .ty "list", ty, k2, false, rfl, iteF ?_⟩
      refine ⟨_, rfl, _, _, .type t, .type "dict", false, rfl, .ty "dict", ty, k3, false, rfl, iteF ?_⟩
      refine ⟨_, rfl, _, _, .type t, .type "bool", c, rfl, .ty "bool", ty, k4, c, rfl, ?_⟩
      cases c with
      | true => exact iteT ⟨_, rfl, (by show 2 ≤ sizeLine; decide), fun q hq => k q _ hq (Same.new2 (Same.refl H) hq) (.lst (SqL.of ((New.at hq).trans upd_same)) (.cons (.str _) (.cons (dp _) .nil)))⟩
      | false => exact iteF ⟨_, rfl, (by show 2 ≤ sizeLine; decide), fun q hq => k q _ hq (Same.new2 (Same.refl H) hq) (.lst (SqL.of ((New.at hq).trans upd_same)) (.cons (.str _) (.cons (dp _) .nil)))⟩
    · refine ⟨_, rfl, _, _, .type "list", .type "tuple", false, rfl, .ty "tuple", .base (.lst ha), kit_ty (by decide +kernel), false, rfl, iteF ?_⟩
      refine ⟨_, rfl, _, _, .type "list", .type "list", true, rfl, .ty "list", .base (.lst ha), kit_ty (by decide +kernel), true, rfl, iteT ?_⟩
      have mk : ∀ L, H L = none → Same H (upd H L (.lst [.str "list"])) := fun L hL => Same.new2 (Same.refl H) hL
      refine ⟨(by show 1 ≤ sizeLine; decide), fun L hL => ⟨_, rfl, a, rfl, ⟨xs, SqL.of (mk L hL _ _ ha)⟩, fun D hD => ?_⟩⟩
      refine lc_it (walk_list (xs := xs)) (FacePv K (upd H L (.lst [.str "list"])) D ds) (FacePv.start hD) (fun i H3 _ q => SqL.of (q.same hD _ _ (mk L hL _ _ ha))) ?_ ?_
      · rintro i x H3 H3' hi q ⟨rfl, hx⟩
        obtain ⟨y, hy, th⟩ := parts.get hx
        refine ⟨rfl, _, rfl, x, y, rfl, th.same ((mk L hL).trans (q.same hD)), fun c H5 hc s5 d5 => q.step hD hy hc s5 d5 (by omega)⟩
      · rintro H3 q
        exact q.done hD hL parts.len few k
    · refine ⟨_, rfl, _, _, .type "tuple", .type "tuple", true, rfl, .ty "tuple", .base (.tup ha), kit_ty (by decide +kernel), true, rfl, iteT ?_⟩
      have mk : ∀ L, H L = none → Same H (upd H L (.lst [.str "tuple"])) := fun L hL => Same.new2 (Same.refl H) hL
      refine ⟨(by show 1 ≤ sizeLine; decide), fun L hL => ⟨_, rfl, a, rfl, ⟨xs, SqT.of (mk L hL _ _ ha)⟩, fun D hD => ?_⟩⟩
      refine lc_it (walk_tup (xs := xs)) (FacePv K (upd H L (.lst [.str "tuple"])) D ds) (FacePv.start hD) (fun i H3 _ q => SqT.of (q.same hD _ _ (mk L hL _ _ ha))) ?_ ?_
      · rintro i x H3 H3' hi q ⟨rfl, hx⟩
        obtain ⟨y, hy, th⟩ := parts.get hx
        refine ⟨rfl, _, rfl, x, y, rfl, th.same ((mk L hL).trans (q.same hD)), fun c H5 hc s5 d5 => q.step hD hy hc s5 d5 (by omega)⟩
      · rintro H3 q
        exact q.done hD hL parts.len few k
    · refine ⟨_, rfl, _, _, .type "dict", .type "tuple", false, rfl, .ty "tuple", .base (.dK ha), kit_ty (by decide +kernel), false, rfl, iteF ?_⟩
      refine ⟨_, rfl, _, _, .type "dict", .type "list", false, rfl, .ty "list", .base (.dK ha), kit_ty (by decide +kernel), false, rfl, iteF ?_⟩
      refine ⟨_, rfl, _, _, .type "dict", .type "dict", true, rfl, .ty "dict", .base (.dK ha), kit_ty (by decide +kernel), true, rfl, iteT ?_⟩
      have mk : ∀ L, H L = none → Same H (upd H L (.lst [.str "dict"])) := fun L hL => Same.new2 (Same.refl H) hL
      refine ⟨(by show 1 ≤ sizeLine; decide), fun L hL => ⟨a, .dK (kvsOf ks xs), mk L hL _ _ ha, trivial, fun od => ⟨_, rfl, a, od, rfl, .inl ⟨_, upd_same, fun D hD => ?_⟩⟩⟩⟩
      have klen : (kvsOf ks xs).length = xs.length := by unfold kvsOf; rw [List.length_zipWith]; omega
      have dlen : (List.zipWith keyD ks ds).length = xs.length := by have := parts.len; rw [List.length_zipWith]; omega
      refine lc_it (walk_keys (kvs := kvsOf ks xs)) (FacePv K (upd (upd H L (.lst [.str "dict"])) a (.frz od (.dK (kvsOf ks xs)))) D (List.zipWith keyD ks ds)) (FacePv.start hD) (fun i H3 _ q => q.same hD _ _ upd_same) ?_ ?_
      · rintro i x H3 H3' hi q ⟨rfl, kk, vv, hk, rfl⟩
        obtain ⟨kt, rfl, ek, ev⟩ := kvs_at hk
        obtain ⟨y, hy, th⟩ := parts.get ev
        have s3 := q.same hD
        have lo : Same (cut H a) H3' := cutH_to fun b o n h => s3 _ _ ((upd_ne n).trans (mk L hL _ _ h))
        refine ⟨rfl, _, rfl, .str kt, plainD (.str kt), rfl, ?_, fun c H5 hc s5 d5 => ⟨_, rfl, _, rfl, a, _, rfl, .inl ⟨kvsOf ks xs, Sum.inr kt, .inr ⟨od, s5 _ _ (s3 _ _ upd_same)⟩, rfl, (valV_at nd len ek ev).symm⟩, vv, y, rfl, th.same (lo.trans s5), fun c2 H6 hc2 s6 d6 => ?_⟩⟩
        · cases n with
          | zero => exact th.elim
          | succ m => exact .inl (.str kt)
        · refine ⟨(by show 2 ≤ sizeLine; decide), fun E hE => ?_⟩
          have s56 := s5.trans s6
          have nE3 := free_of s56 hE
          refine q.grow hD (y := keyD kt y) ?_ (s56.trans (Same.new2 (Same.refl _) hE)) (fun ys e => ?_) (by omega)
          · rw [List.getElem?_zipWith, ek, hy] <;> rfl
          · have nDE : E ≠ D := fun z => by
              rw [z, e] at nE3
              cases nE3
            have nB := free_of (q.same hD) nE3
            refine .lst (SqL.of (xs := [.ref c, .ref c2]) ((New.at (by rw [upd_ne nDE]; exact nB)).trans ?_)) (.cons (Dp.stay ?_ d5) (.cons (Dp.stay ?_ d6) .nil))
            · rw [upd_ne nDE, upd_same]
            · refine New.mono fun b o h1 h2 => ?_
              have n : b ≠ D := fun z => by
                rw [z, e] at h1
                cases h1
              have n2 : b ≠ E := ne_of_none (s6 _ _ h2) hE
              rw [upd_ne n, upd_ne n, upd_ne n2]
              exact ⟨free_of s3 h1, s6 _ _ h2⟩
            · refine New.mono fun b o h1 h2 => ?_
              have h1' := free_of s5 h1
              have n : b ≠ D := fun z => by
                rw [z, e] at h1'
                cases h1'
              have n2 : b ≠ E := ne_of_none h2 hE
              rw [upd_ne n, upd_ne n, upd_ne n2]
              exact ⟨free_of s3 h1', h2⟩
      · rintro H3 q
        refine ⟨q.same hD _ _ upd_same, (q.unlock hD (mk L hL _ _ ha)).done ?_ hL (klen.trans dlen.symm) (by omega) k⟩
        have nD : D ≠ a := fun z => by
          rw [z, upd_same] at hD
          cases hD
        exact (upd_ne nD).symm.trans hD
theorem ok_face (D' : Def K mg "_law_face" sFace ["_law_thing"] f fd) (Z : FreeT mg) : ∀ n, FnOk P w K mg base CX0 (n + 1) f fd ["_law_thing"] (spFace K n)
  | 0 => face_none
  | n + 1 => face_more D'.F D'.g D'.kp D'.b Z (ok_face D' Z n)
end
end Wb
/-! a loop is made of parts in any order -/
namespace Wb
open PySem L2 WbMin WbS Lz
/-- the parts as they are told -/
structure PrtG (st : List Str) (rw : List Row) (tn : List Trn) (ye : List Str) (t rr u y : Addr) (as bs : List Addr) (H : Hp) : Prop where
  ht : H t = some (.tup (st.map V.str))
  hr : H rr = some (.tup (as.map V.ref))
  hT : Tups H as (rw.map Row.v)
  hu : H u = some (.tup (bs.map V.ref))
  hU : Tups H bs (tn.map Trn.v)
  hy : H y = some (.tup (ye.map V.str))
section
variable {st : List Str} {rw : List Row} {tn : List Trn} {ye : List Str} {t rr u y : Addr} {as bs : List Addr} {H H' : Hp}
theorem PrtG.same (s : Same H H') (h : PrtG st rw tn ye t rr u y as bs H) : PrtG st rw tn ye t rr u y as bs H' := ⟨s _ _ h.ht, s _ _ h.hr, h.hT.same s, s _ _ h.hu, h.hU.same s, s _ _ h.hy⟩
theorem PrtG.but {p : Addr} {o : HO} (no : ∀ x, o ≠ .tup x) (hp : H p = some o) (s : But p H H') (h : PrtG st rw tn ye t rr u y as bs H) : PrtG st rw tn ye t rr u y as bs H' :=
  ⟨s _ _ (ne_of h.ht hp fun e => no _ e.symm) h.ht, s _ _ (ne_of h.hr hp fun e => no _ e.symm) h.hr, h.hT.but no hp s, s _ _ (ne_of h.hu hp fun e => no _ e.symm) h.hu, h.hU.but no hp s, s _ _ (ne_of h.hy hp fun e => no _ e.symm) h.hy⟩
end
/-- some of the things that stand, in another order -/
theorem picks {H : Hp} {as : List Addr} {rw : List Row} (hT : Tups H as (rw.map Row.v)) : ∀ l : List Row, (∀ x ∈ l, x ∈ rw) → ∃ bs, Tups H bs (l.map Row.v) ∧ ∀ (p : Nat) (x : Row), l[p]? = some x → ∃ (m : Nat) (a : Addr), rw[m]? = some x ∧ as[m]? = some a ∧ bs[p]? = some a
  | [], _ => ⟨[], trivial, fun p x h => by simp at h⟩
  | x :: l, h => by
    obtain ⟨bs, h1, h2⟩ := picks hT l fun y hy => h y (List.mem_cons_of_mem _ hy)
    obtain ⟨m, hm, em⟩ := List.getElem_of_mem (h x List.mem_cons_self)
    have em' : rw[m]? = some x := by rw [List.getElem?_eq_getElem hm, em]
    have la : as.length = rw.length := by rw [hT.length, List.length_map]
    have ea : as[m]? = some (as[m]'(by omega)) := List.getElem?_eq_getElem (by omega)
    refine ⟨as[m]'(by omega) :: bs, ⟨hT.get ea (by rw [List.getElem?_map, em'] <;> rfl), h1⟩, fun p y hp => ?_⟩
    cases p with
    | zero =>
      cases hp
      exact ⟨m, _, em', ea, rfl⟩
    | succ p => exact h2 p y hp
/-- what is asked of the parts -/
structure Told (L : LD) (sg0 : List Nat) (rw : List Row) (tn : List Trn) (ye : List Str) : Prop where
  sgP : sg0.Perm L.sg
  rwP : rw.Perm L.rows
  tnd : (tn.map Trn.a).Nodup
  tin : ∀ ρ ∈ tn, ρ.a ∈ L.st ∧ ρ.b ∈ L.st
  tnE : L.st.map (turnOf tn) = L.turns
  tfew : tn.length ≤ 6
  ynd : ye.Nodup
  yin : ∀ z ∈ ye, z ∈ L.st
  yeE : (L.st.filter fun z => decide (z ∈ ye)) = L.yes
  yfew : ye.length ≤ 6
def spLoInitG (C T : Addr) : Sp := fun vs H Q _ => ∃ (H0 : Hp) (r dx t rr u y : Addr) (as bs : List Addr) (L : LD) (sg0 : List Nat) (rw : List Row) (tn : List Trn) (ye : List Str), vs = [.ref r, .str (S sg0), .ref t, .ref rr, .ref u, .ref y] ∧ L.Ok ∧ PyProof.Rows.sortedS (L.sg.map sOne) = true ∧ Told L sg0 rw tn ye ∧ PrtG L.st rw tn ye t rr u y as bs H ∧ Same H0 H ∧ H0 r = none ∧ H r = some (.ins C dx []) ∧
  ∀ H' : Hp, Same H0 H' → LoopAt C T H' r L → Q .non H'
section
variable {P : Program} {w : World} {K : PySem.W.Frag} {mg : Str → Option Value} {base : Heap} {A : LA} {e : Addr}
set_option maxHeartbeats 0 in
theorem ok_loinitG (D : LoopF K mg A e) (Z : Free mg) : FnOk P w K mg base CX0 4 A.fI A.dI ["self", "signs", "states", "rows", "turns", "yes"] (spLoInitG A.C A.T) := by
  obtain ⟨t600, g600⟩ := D.w600
  obtain ⟨t4, g4⟩ := D.w4
  obtain ⟨t8, g8⟩ := D.w8
  obtain ⟨t6, g6⟩ := D.w6
  have GS : FnOk P w K mg base CX0 2 A.signs A.dsigns ["value"] spIsSigns := ok_issigns D.signs.F Z D.isword t600 g600 t4 g4
  have G1 : FnOk P w K mg base CX0 2 A.chst A.dchst ["states"] spChSt := ok_chst D.chst.F Z D.tup D.enum t8 g8 t6 g6 D.isname D.first
  have G2 : FnOk P w K mg base CX0 3 A.chro A.dchro ["rows", "signs", "states"] spChRo := ok_chro D.chro.F Z D.tup D.enum D.zip D.rowof D.stateof D.signof D.isint D.first
  have G3 : FnOk P w K mg base CX0 3 A.chtu A.dchtu ["turns", "states"] spChTu := ok_chtu D.chtu.F Z D.tup D.enum D.zip D.turnof D.stateof D.isint D.first
  have G4 : FnOk P w K mg base CX0 2 A.chye A.dchye ["yes", "states"] spChYe := ok_chye D.chye.F Z D.tup D.enum D.stateof D.first
  have O1 : FnOk P w K mg base CX0 1 A.orro A.dorro ["rows", "signs", "states"] spOrRo := ok_orro D.orro.F D.tup
  have O2 : FnOk P w K mg base CX0 1 A.ortu A.dortu ["turns", "states"] spOrTu := ok_ortu D.ortu.F D.tup
  have O3 : FnOk P w K mg base CX0 1 A.orye A.dorye ["yes", "states"] spOrYe := ok_orye D.orye.F D.tup
  have GT : FnOk P w K mg base CX0 1 A.tI A.etI ["self", "row"] (spTaInit A.T) := ok_tainit D.TI D.T Z D.tup D.enum
  have GW : FnOk P w K mg base CX0 1 A.fW A.dW ["self"] (spLoRow A.C) := ok_lorow D
  obtain ⟨_, FI⟩ := D.FI
  refine FunD_ok' FI scLI (fun vs H Q E h => ?_) (fun cdv A' outer s H vs Q E hr h => ?_)
  · obtain ⟨H0, r, dx, t, rr, u, y, as, bs, L, sg0, rw, tn, ye, rfl, _⟩ := h
    rfl
  · obtain ⟨H0, r, dx, t, rr, u, y, as, bs, L, sg0, rw, tn, ye, rfl, O, srtL, TL, pr, s0, r0, hp, k⟩ := h
    have hr1 : Room 1 _ := hr.mono (by decide)
    have hr2 : Room 2 _ := hr.mono (by decide)
    refine ⟨_, pss_cons (ps_if (pt_not (pt_val (pe_call GS hr2 rfl D.signs.g D.signs.kp D.signs.b .nil pass0 (pa_cons (pv 1) pa_nil)))) (pss_one ps_never) pss_nil)
      (pss_cons (ps_expr (pe_call G1 hr2 rfl D.chst.g D.chst.kp D.chst.b .nil pass0 (pa_cons (pv 2) pa_nil)))
      (pss_cons (ps_expr (pe_call G2 hr rfl D.chro.g D.chro.kp D.chro.b .nil pass0 (pa_cons (pv 3) (pa_cons (pv 1) (pa_cons (pv 2) pa_nil)))))
      (pss_cons (ps_expr (pe_call G3 hr rfl D.chtu.g D.chtu.kp D.chtu.b .nil pass0 (pa_cons (pv 4) (pa_cons (pv 2) pa_nil))))
      (pss_cons (ps_expr (pe_call G4 hr2 rfl D.chye.g D.chye.kp D.chye.b .nil pass0 (pa_cons (pv 5) (pa_cons (pv 2) pa_nil))))
      (pss_cons (ps_fld (pv 0) (pe_join pe_str (pe_callB (call_sortedTx rfl) (by rfl) D.sort (by decide +kernel) (pa_cons (pv 1) pa_nil))) rfl)
      (pss_cons (ps_fld (pv 0) (pv 2) rfl)
      (pss_cons (ps_fld (pv 0) (pe_call O1 hr1 rfl D.orro.g D.orro.kp D.orro.b .nil pass0 (pa_cons (pv 3) (pa_cons (pe_fld (pv 0) rfl) (pa_cons (pv 2) pa_nil)))) rfl)
      (pss_cons (ps_fld (pv 0) (pe_call O2 hr1 rfl D.ortu.g D.ortu.kp D.ortu.b .nil pass0 (pa_cons (pv 4) (pa_cons (pv 2) pa_nil))) rfl)
      (pss_cons (ps_fld (pv 0) (pe_call O3 hr1 rfl D.orye.g D.orye.kp D.orye.b .nil pass0 (pa_cons (pv 5) (pa_cons (pv 2) pa_nil))) rfl)
      (pss_one (ps_fld (pv 0) (pe_make D.MT GT hr2 rfl D.gT D.bTI .nil pass0 (pa_cons (pe_prop (pv 0) D.L.cl D.hW GW hr2 D.bW .nil pass0 rfl) pa_nil)) rfl))))))))))), ?_⟩
    have sf := O.sts.few
    have sgf := O.sgs.few
    have few := rows_few O
    have lrw : rw.length = L.rows.length := TL.rwP.length_eq
    have lenA : as.length = rw.length := by rw [pr.hT.length, List.length_map]
    have tl := turns_length L
    have n6 : L.n ≤ 6 := sf
    have lsg : sg0.length = L.sg.length := TL.sgP.length_eq
    have pos := O.sgs.pos
    have G0 : Sgs sg0 := ⟨fun c hc => O.sgs.low c (TL.sgP.mem_iff.mp hc), TL.sgP.nodup_iff.mpr O.sgs.nd, by omega, by omega⟩
    have tfew := TL.tfew
    have yfew := TL.yfew
    obtain ⟨bs0, pT, pk⟩ := picks pr.hT L.rows fun x hx => TL.rwP.mem_iff.mpr hx
    have lbs : bs0.length = L.rows.length := by rw [pT.length, List.length_map]
    have knd : (rw.map Row.k).Nodup := (TL.rwP.map Row.k).nodup_iff.mpr (rows_key_nd O)
    have RB : RowsBy L.st L.sg (rw.map Row.k) as bs0 := by
      refine ⟨by rw [lbs, rows_length] <;> rfl, fun i j z c hz hc => ?_⟩
      have hi : i < L.n := (List.getElem?_eq_some_iff.mp hz).1
      have e : L.nm i = z := Option.some.inj ((nm_at hi).symm.trans hz)
      obtain ⟨m, a, m1, m2, m3⟩ := pk _ _ (rows_at hi hc)
      refine ⟨m, a, ?_, m2, m3⟩
      rw [List.getElem?_map, m1, ← e] <;> rfl
    refine ⟨_, rfl, sg0, rfl, G0, fun H1 s1 => ⟨true, rfl, ?_⟩⟩
    have p1 := pr.same s1
    refine ⟨_, rfl, t, L.st, rfl, p1.ht, O.sts, fun H2 s2 => ?_⟩
    have p2 := p1.same s2
    refine ⟨_, rfl, _, rfl, _, rfl, rr, t, sg0, as, rw, L.st, rfl, p2.hr, p2.hT, p2.ht, ?_, knd, ?_, by omega, sf, ?_, fun H3 s3 => ?_⟩
    · intro ρ hρ
      obtain ⟨i, c, hi, hc, rfl⟩ := rows_mem (TL.rwP.mem_iff.mp hρ)
      exact ⟨nm_mem hi, TL.sgP.mem_iff.mpr hc, nm_mem (O.nxlt i c hi hc)⟩
    · intro ρ hρ
      obtain ⟨i, c, hi, hc, rfl⟩ := rows_mem (TL.rwP.mem_iff.mp hρ)
      exact ⟨ok_st O (nm_mem hi), ok_sign O hc⟩
    · rw [lrw, rows_length, lsg, Nat.mul_comm] <;> rfl
    have p3 := p2.same s3
    refine ⟨_, rfl, _, rfl, u, t, bs, tn, L.st, rfl, p3.hu, p3.hU, p3.ht, TL.tin, TL.tnd, tfew, fun H4 s4 => ?_⟩
    have p4 := p3.same s4
    refine ⟨_, rfl, _, rfl, y, t, ye, L.st, rfl, p4.hy, p4.ht, TL.yin, TL.ynd, yfew, fun H5 s5 => ?_⟩
    have s05 : Same H H5 := (((s1.trans s2).trans s3).trans s4).trans s5
    have S5 : Same H0 H5 := s0.trans s05
    have hr5 : H5 r = some (.ins A.C dx []) := s05 _ _ hp
    clear p1 p2 p3 p4 s1 s2 s3 s4 s5
    -- signs
    refine ⟨⟨_, rfl⟩, _, rfl, S sg0, rfl, by rw [S_len]; omega, fun ys p perm srt hp' => ?_⟩
    rw [S_cps] at perm
    obtain ⟨sg, hsg, rfl⟩ := perm_codes perm
    obtain rfl : sg = L.sg := sg_same srt srtL (hsg.trans TL.sgP) (.refl _)
    have nrp : r ≠ p := ne_of_none hr5 hp'
    refine ⟨_, p, L.sg.map sOne, rfl, rfl, .inl (SqL.of upd_same), ?_, ?_⟩
    · have e1 : ((L.sg.map sOne).map fun x => x.length) = List.replicate L.sg.length 1 := by
        rw [List.map_map]
        exact List.map_eq_replicate_iff.mpr fun _ _ => rfl
      have e2 : (Str.ofString "").length = 0 := by decide +kernel
      rw [e1, e2, List.sum_replicate_nat]
      omega
    have ej : Txt.join (Str.ofString "") (L.sg.map sOne) = S L.sg := join_one pos
    rw [ej]
    refine ⟨_, rfl, r, A.C, dx, _, rfl, (upd_ne nrp).trans hr5, D.L.cl, D.L.n1, (by show 0 < 1000; decide), ?_⟩
    have B6 : But r H (L2.upd (L2.upd H5 p (.lst ((L.sg.map sOne).map V.str))) r (.ins A.C dx (putF "_signs" (.str (S L.sg)) []))) := But.here ((But.of s05).upd hp')
    have S6 : Same H0 (L2.upd (L2.upd H5 p (.lst ((L.sg.map sOne).map V.str))) r (.ins A.C dx (putF "_signs" (.str (S L.sg)) []))) := Same.new' (Same.put S5 hp') r0
    have hr6 : (L2.upd (L2.upd H5 p (.lst ((L.sg.map sOne).map V.str))) r (.ins A.C dx (putF "_signs" (.str (S L.sg)) []))) r = some (.ins A.C dx (putF "_signs" (.str (S L.sg)) [])) := upd_same
    generalize L2.upd (L2.upd H5 p (.lst ((L.sg.map sOne).map V.str))) r (.ins A.C dx (putF "_signs" (.str (S L.sg)) [])) = H6 at B6 S6 hr6 ⊢
    -- states
    refine ⟨_, rfl, _, rfl, r, A.C, dx, _, rfl, hr6, D.L.cl, D.L.n2, (by show 1 < 1000; decide), ?_⟩
    have B7 : But r H (L2.upd H6 r (.ins A.C dx (putF "_states" (.ref t) (putF "_signs" (.str (S L.sg)) [])))) := But.here B6
    have S7 : Same H0 (L2.upd H6 r (.ins A.C dx (putF "_states" (.ref t) (putF "_signs" (.str (S L.sg)) [])))) := Same.new' S6 r0
    have hr7 : (L2.upd H6 r (.ins A.C dx (putF "_states" (.ref t) (putF "_signs" (.str (S L.sg)) [])))) r = some (.ins A.C dx (putF "_states" (.ref t) (putF "_signs" (.str (S L.sg)) []))) := upd_same
    generalize L2.upd H6 r (.ins A.C dx (putF "_states" (.ref t) (putF "_signs" (.str (S L.sg)) []))) = H7 at B7 S7 hr7 ⊢
    have p7 : PrtG L.st rw tn ye t rr u y as bs H7 := pr.but (fun x => by intro q; cases q) hp B7
    -- rows
    refine ⟨_, rfl, _, rfl, r, A.C, dx, _, _, rfl, hr7, D.L.cl, D.L.n1, (by rw [lookup_putF, if_neg (by decide +kernel), lookup_putF, if_pos rfl]), _, rfl, rr, t, L.sg, as, bs0, rw, L.st, rfl, p7.hr, p7.hT, p7.ht, knd, by omega, RB, by omega, fun rr' H8 n8 s8 hrr => ?_⟩
    refine ⟨_, rfl, r, A.C, dx, _, rfl, s8 _ _ hr7, D.L.cl, D.L.n3, (by show 2 < 1000; decide), ?_⟩
    have nrr : rr' ≠ r := ne_of_none' hr7 n8
    generalize e8 : putF "_rows" (.ref rr') (putF "_states" (.ref t) (putF "_signs" (.str (S L.sg)) [])) = fs8
    have B8 : But r H (L2.upd H8 r (.ins A.C dx fs8)) := But.here (B7.trans (But.of s8))
    have S8 : Same H0 (L2.upd H8 r (.ins A.C dx fs8)) := Same.new' (S7.trans s8) r0
    have hr8 : (L2.upd H8 r (.ins A.C dx fs8)) r = some (.ins A.C dx fs8) := upd_same
    have hrr8 : (L2.upd H8 r (.ins A.C dx fs8)) rr' = some (.tup (bs0.map V.ref)) := (upd_ne nrr).trans hrr
    generalize L2.upd H8 r (.ins A.C dx fs8) = H9 at B8 S8 hr8 hrr8 ⊢
    have p8 : PrtG L.st rw tn ye t rr u y as bs H9 := pr.but (fun x => by intro q; cases q) hp B8
    -- turns
    refine ⟨_, rfl, _, rfl, u, t, bs, tn, L.st, rfl, p8.hu, p8.hU, p8.ht, TL.tnd, tfew, sf, fun u' bs' H10 n10 s10 hu' hU' => ?_⟩
    rw [TL.tnE] at hU'
    refine ⟨_, rfl, r, A.C, dx, _, rfl, s10 _ _ hr8, D.L.cl, D.L.n4, (by rw [← e8]; show 3 < 1000; decide), ?_⟩
    have nuu : u' ≠ r := ne_of_none' hr8 n10
    generalize e10 : putF "_turns" (.ref u') fs8 = fs10
    have B10 : But r H (L2.upd H10 r (.ins A.C dx fs10)) := But.here (B8.trans (But.of s10))
    have S10 : Same H0 (L2.upd H10 r (.ins A.C dx fs10)) := Same.new' (S8.trans s10) r0
    have hr10 : (L2.upd H10 r (.ins A.C dx fs10)) r = some (.ins A.C dx fs10) := upd_same
    have hrr10 : (L2.upd H10 r (.ins A.C dx fs10)) rr' = some (.tup (bs0.map V.ref)) := (upd_ne nrr).trans (s10 _ _ hrr8)
    have hu10 : (L2.upd H10 r (.ins A.C dx fs10)) u' = some (.tup (bs'.map V.ref)) := (upd_ne nuu).trans hu'
    have hU10 : Tups (L2.upd H10 r (.ins A.C dx fs10)) bs' (L.turns.map Trn.v) := Tups.but (fun x => by intro q; cases q) (s10 _ _ hr8) (But.here (But.refl r _)) hU'
    generalize L2.upd H10 r (.ins A.C dx fs10) = H11 at B10 S10 hr10 hrr10 hu10 hU10 ⊢
    have p10 : PrtG L.st rw tn ye t rr u y as bs H11 := pr.but (fun x => by intro q; cases q) hp B10
    -- yes
    refine ⟨_, rfl, _, rfl, y, t, ye, L.st, rfl, p10.hy, p10.ht, sf, fun y' H12 n12 s12 hy' => ?_⟩
    rw [TL.yeE] at hy'
    refine ⟨_, rfl, r, A.C, dx, _, rfl, s12 _ _ hr10, D.L.cl, D.L.n5, (by rw [← e10, ← e8]; show 4 < 1000; decide), ?_⟩
    have nyy : y' ≠ r := ne_of_none' hr10 n12
    generalize e12 : putF "_yes" (.ref y') fs10 = fs12
    have B12 : But r H (L2.upd H12 r (.ins A.C dx fs12)) := But.here (B10.trans (But.of s12))
    have S12 : Same H0 (L2.upd H12 r (.ins A.C dx fs12)) := Same.new' (S10.trans s12) r0
    have hr12 : (L2.upd H12 r (.ins A.C dx fs12)) r = some (.ins A.C dx fs12) := upd_same
    have hy12 : (L2.upd H12 r (.ins A.C dx fs12)) y' = some (.tup (L.yes.map V.str)) := (upd_ne nyy).trans hy'
    have hrr12 : (L2.upd H12 r (.ins A.C dx fs12)) rr' = some (.tup (bs0.map V.ref)) := (upd_ne nrr).trans (s12 _ _ hrr10)
    have hu12 : (L2.upd H12 r (.ins A.C dx fs12)) u' = some (.tup (bs'.map V.ref)) := (upd_ne nuu).trans (s12 _ _ hu10)
    have hU12 : Tups (L2.upd H12 r (.ins A.C dx fs12)) bs' (L.turns.map Trn.v) := Tups.but (fun x => by intro q; cases q) (s12 _ _ hr10) (But.here (But.refl r _)) (hU10.same s12)
    generalize L2.upd H12 r (.ins A.C dx fs12) = H13 at B12 S12 hr12 hy12 hrr12 hu12 hU12 ⊢
    have p12 : PrtG L.st rw tn ye t rr u y as bs H13 := pr.but (fun x => by intro q; cases q) hp B12
    have q12 : Prt L t rr' u' y' bs0 bs' H13 := ⟨p12.ht, hrr12, pT.but (fun x => by intro q; cases q) hp B12, hu12, hU12, hy12⟩
    -- the table
    have look : fs12.lookup ("_signs" : Str) = some (.str (S L.sg)) ∧ fs12.lookup ("_states" : Str) = some (.ref t) ∧ fs12.lookup ("_rows" : Str) = some (.ref rr') ∧ fs12.lookup ("_turns" : Str) = some (.ref u') ∧ fs12.lookup ("_yes" : Str) = some (.ref y') := by
      rw [← e12, ← e10, ← e8]
      refine ⟨?_, ?_, ?_, ?_, ?_⟩ <;> repeat (first | rw [lookup_putF, if_neg (by decide +kernel)] | rw [lookup_putF, if_pos rfl])
    obtain ⟨k1, k2, k3, k4, k5⟩ := look
    refine ⟨_, rfl, r, dx, _, rfl, hr12, r, dx, t, rr', u', y', _, _, rfl, hr12, k1, k2, k3, k4, k5, fun q hq tb dxt htb hdx ne => ?_⟩
    have sq := Same.put (o := .tup [.str (S L.sg), .ref t, .ref rr', .ref u', .ref y']) (Same.refl H13) hq
    have hq14 : (L2.upd H13 q (.tup [.str (S L.sg), .ref t, .ref rr', .ref u', .ref y'])) q = some (.tup [.str (S L.sg), .ref t, .ref rr', .ref u', .ref y']) := upd_same
    generalize L2.upd H13 q (.tup [.str (S L.sg), .ref t, .ref rr', .ref u', .ref y']) = H14 at sq hq14 htb hdx ⊢
    have sm : Same H14 (L2.upd (L2.upd H14 dxt (.own tb)) tb (.ins A.T dxt [])) := Same.new' (Same.new' (Same.refl H14) hdx) htb
    refine ⟨H14, tb, dxt, q, L, rfl, O, ((q12.same sq).same sm).row (sm _ _ hq14), sm, htb, upd_same, fun H15 s15 TA => ⟨rfl, ?_⟩⟩
    have s16 := sq.trans s15
    have ntb : tb ≠ r := ne_of_none' (sq _ _ hr12) htb
    refine ⟨_, rfl, r, A.C, dx, _, rfl, s16 _ _ hr12, D.L.cl, D.L.n6, (by rw [← e12, ← e10, ← e8]; show 5 < 1000; decide), ?_⟩
    have hr16 := s16 _ _ hr12
    refine k _ (Same.new' (S12.trans s16) r0) ⟨dx, t, rr', u', y', tb, bs0, bs', ?_, ?_, ?_⟩
    · rw [upd_same, ← e12, ← e10, ← e8] <;> rfl
    · exact (q12.same s16).but (o := .ins A.C dx fs12) (fun x => by intro q; cases q) hr16 (But.here (But.refl r _))
    · exact TA.but ntb hr16 (But.here (But.refl r _))
end
end Wb
/-! a loop that begins in another state: the mathematics -/
namespace Wb
open PySem L2 WbMin WbS Lz
theorem st_is (L : LD) : L.st = (List.range L.n).map L.nm := by
  refine List.ext_getElem? fun i => ?_
  by_cases h : i < L.n
  · rw [nm_at h, List.getElem?_map, List.getElem?_range h] <;> rfl
  · have h' : ¬ i < L.st.length := h
    rw [List.getElem?_eq_none (by omega), List.getElem?_eq_none (by rw [List.length_map, List.length_range]; omega)]
theorem flatMap_congr' {α β : Type} {f g : α → List β} : ∀ {l : List α}, (∀ x ∈ l, f x = g x) → l.flatMap f = l.flatMap g
  | [], _ => rfl
  | x :: l, h => by rw [List.flatMap_cons, List.flatMap_cons, h x List.mem_cons_self, flatMap_congr' fun y hy => h y (List.mem_cons_of_mem _ hy)]
/-! ### what it does -/
section
variable {L : LD} {b k : Nat} {w : List Nat} (O : L.Ok) (hb : b = it (L.lead w) k) (hw : ∀ c ∈ w, c ∈ L.sg)
include O hb hw
end
end Wb
/-! what an own class's special methods are worth: len(o), bool(o), str(o), o == p, o != p, o an instance of a class of the program's own -/
namespace WbO
open PySem PySem.W PySem.Spec PyProof.Rows
section
variable {prog : Program} {w : World} {A : Around} {E : Value → Shared → Prop} {s : Shared} {K : Frag} {x C f : Addr} {ox : Obj} {od : Option Obj}
/-- bool(o) by its truth -/
theorem call_bool {Q : Value → Shared → Prop} (h : wpAny (model prog w) A.in1.in1 (truthy (.ref x)) (fun b s' => Q (.bool b) s') E s) : wpAny (model prog w) A (call (.type "bool") [.ref x]) Q E s := by
  refine callType_codes (T := "bool") (Bi := Builtin.«object.__init__») (Q₁ := fun r s1 => ∃ b, r = .bool b ∧ Q r s1) F.called_bool (F.typeCall_bool_1 _) PySem.F.entry_object_init ?_ ?_
  · refine codeAny_of_tree ?_
    show wpAny _ A.in1.in1 (do checkBuiltinCall "bool.__new__" ⟨[.type "bool", .ref x], []⟩; again (.builtin "bool.__new__" ⟨[.type "bool", .ref x], []⟩)) _ _ s
    refine wpAny_bind (wpAny_of_eq (F.newCall_bool_1 _) (wpAny_pure ⟨plainId_quiet (by decide +kernel) _, codeAny_builtin F.entry_bool_new ?_⟩))
    rw [Around.under_plainId (by decide +kernel) _]
    unfold Builtin.«bool.__new__»
    obtain ⟨hp, g, d, tk, os⟩ := s
    have f1 := F.conv_sub_bool
    repeat (any_goals (first | assumption | (with_reducible refine wpAny_bind (m := truthy (.ref x)) (wpAny_mono h (fun b s1 q => ?_) fun _ _ e => e)) | wp_step))
    exact ⟨b, rfl, q⟩
  · rintro obj s1 ⟨b, rfl, q⟩
    exact ⟨PySem.typeIs_bool _ _, PySem.F.args_object_init_2 _ _, object_init_meets F.called_bool.init.lookup F.called_bool.made (by decide) prog w A.in1 _ s1 ⟨PySem.typeIs_bool _ _, rfl, q⟩⟩
/-- the body of object.__ne__ at an object with an own __eq__ -/
theorem body_ne {b : Value} {Q : PySem.Fin → Shared → Prop} (hu : A.units < cLine) (X : K.In s.heap) (I : InstAt s.heap x ox C od) (hs : findIn K (.ref C) "__eq__" = some (some (.ref f))) (hf : isFn K (.ref f) = true)
    (h : wpAny (model prog w) A (call (.ref f) [.ref x, b]) (fun v s' => ∃ c, v = .bool c ∧ Q (.done (.ret (.bool (!c)))) s') E s) : wpAny (model prog w) A (Builtin.«object.__ne__» ⟨[.ref x, b], []⟩) Q E s := by
  have go : wpAny (model prog w) A (callSpecialIfBound? (.ref x) (Str.ofString "__eq__") [b]) (fun r s' => ∃ c, r = some (.bool c) ∧ Q (.done (.ret (.bool (!c)))) s') E s :=
    ifBound_K X I hs hf (wpAny_mono h (fun v s' q => by obtain ⟨c, rfl, q⟩ := q; exact ⟨c, rfl, q⟩) fun _ _ e => e)
  unfold Builtin.«object.__ne__»
  obtain ⟨hp, g, d, tk, os⟩ := s
  repeat (first | with_reducible refine wpAny_cRoomFor hu ?_ | (with_reducible refine wpAny_bind (m := callSpecialIfBound? (.ref x) (Str.ofString "__eq__") [b]) (wpAny_mono go (fun r s' q => ?_) fun _ _ e => e)) | wp_step)
  obtain ⟨c, rfl, q⟩ := q
  show wpAny _ _ (truthy (.bool c) >>= fun z => ret (.bool !z)) _ _ _
  exact wpAny_bind (wpAny_truthy_bool (wpAny_pure q))
/-- a special method that is a built-in -/
theorem bound_builtin {M : Model} {id : String} {name : Str} {args : List Value} {Q : Option Value → Shared → Prop} (X : K.In s.heap) (I : InstAt s.heap x ox C od) (hs : findIn K (.ref C) name = some (some (.builtin id))) (hb : ∀ self, bindSpecial (.builtin id) self = pure (.builtin id, [self]))
    (h : wpAny M A (call (.builtin id) (.ref x :: args)) (fun v => Q (some v)) E s) : wpAny M A (callSpecialIfBound? (.ref x) name args) Q E s := by
  have last : wpAny M A (call (.builtin id) ([.ref x] ++ args) >>= fun v => pure (some v)) Q E s := wpAny_bind (wpAny_mono h (fun v s1 q => wpAny_pure q) fun _ _ q => q)
  simp only [callSpecialIfBound?, bindSpecialIfBound?]
  refine wpAny_holding (wpAny_bind (wpAny_bind (wpAny_bind (I.type.here ((looks_findIn X hs).here (wpAny_bind (wpAny_askSetting (wpAny_ite ?_))))))))
  split
  · exact wpAny_bind ((Looks.of_pure (hb _)).here (wpAny_pure (by exact last)))
  · exact wpAny_tryCatch (wpAny_bind ((Looks.of_pure (hb _)).here (wpAny_pure (by exact last))))
/-- o != p by o's own __eq__ -/
theorem ne_own {b tb : Value} {Q : Value → Shared → Prop} (hu : A.units + 1 < cLine) (X : K.In s.heap) (I : InstAt s.heap x ox C od) (hb : Looks (model prog w) s.heap (typeOf b) tb) (nf : notFirst K C tb = true)
    (hn : findIn K (.ref C) "__ne__" = some (some (.builtin "object.__ne__"))) (hm : mroIn K C (.type "object") = some true) (hs : findIn K (.ref C) "__eq__" = some (some (.ref f))) (hf : isFn K (.ref f) = true)
    (h : wpAny (model prog w) A.in1 (call (.ref f) [.ref x, b]) (fun v s' => ∃ c, v = .bool c ∧ Q (.bool (!c)) s') E s) : wpAny (model prog w) A (richCompare .NotEq (.ref x) b) Q E s := by
  have one : wpAny (model prog w) A (tryCompare (.ref x) (cmpInfo .NotEq).2.1 b) (fun r s1 => ∃ v, r = some v ∧ Q v s1) E s := by
    unfold tryCompare
    refine wpAny_bind (bound_builtin X I hn PySem.F.cmp_object.ne.bind ?_)
    refine wpAny_call (codeAny_call_builtin PySem.F.cmp_object.ne.plain PySem.F.cmpEntry_ne (check_slot (i := "object.__ne__") (owner := "object") (n := "__ne__") (by decide +kernel) (by decide +kernel) (I.type.andThen (looks_mroIn X hm)) (PySem.F.cmpArgs_ne _ _) ?_))
    refine body_ne (by show A.units + 1 < cLine; exact hu) X I hs hf (wpAny_mono h (fun v s1 q => ?_) fun _ _ e => e)
    obtain ⟨c, rfl, q⟩ := q
    exact ⟨c, rfl, wpAny_pure ⟨_, rfl, q⟩⟩
  unfold richCompare ; simp only [oneThing_ref]
  refine wpAny_holding (wpAny_bind (wpAny_cRoomFor (Nat.lt_of_succ_lt hu) (wpAny_bind (I.type.here (wpAny_bind (hb.here ?_))))))
  split
  · rename_i q
    have e : subIn K tb (.ref C) = some false := by
      rcases Bool.or_eq_true_iff.mp nf with e | e
      · rw [beq_iff_eq.mp e] at q ; simp at q
      · exact beq_iff_eq.mp e
    refine wpAny_bind ((looks_subIn X e).here ?_) ; simp only [Bool.false_eq_true, if_false]
    exact wpAny_bind (wpAny_mono one (fun r s1 z => by obtain ⟨v, rfl, hq⟩ := z; exact wpAny_pure hq) fun _ _ e => e)
  · refine wpAny_bind (wpAny_pure ?_) ; simp only [Bool.false_eq_true, if_false]
    exact wpAny_bind (wpAny_mono one (fun r s1 z => by obtain ⟨v, rfl, hq⟩ := z; exact wpAny_pure hq) fun _ _ e => e)
end
end WbO
namespace WbO
open PySem PySem.Spec PyProof.Rows L2
section
variable {X : Cx} {CX : CXT} {k : Nat} {C g : Addr} {fd : FuncData} {ps : List Str} {sp : Sp} {E : XK}
/-- a def called at values, anywhere deeper -/
theorem run_at {pins : List (Addr × Obj)} {σ : L2.St} {H : Hp} {s : Shared} {Q : VK} {vs : List V} {us : List Value} {A' : Around} {E' : Value → Shared → Prop} (F : FnOk X.prog X.w X.K X.mg X.base CX k g fd ps sp) (hr : Room k A') (e0 : Env0 X.prog X.w X.K X.mg X.base A' X.stack s H)
    (hb : Binds X.K fd ps []) (hx : Passes CX X.nox E) (I : Inv X pins σ H s) (r : Vals vs us) (h : sp vs H Q E) : wpAny (model X.prog X.w) A' (call (.ref g) us) (EP X pins σ Q) E' s := by
  have hl : (us ++ ([] : List Value)).length = ps.length := by rw [List.append_nil, ← r.length]; exact F.len _ _ _ _ h
  have hB := hb s us I.kIn hl
  rw [List.append_nil] at hB
  refine wpAny_call (codeAny_mono (F.run A' X.stack s H ⟨us, []⟩ us vs Q E hr e0 hB r h) fun r s' hq => ?_)
  cases r with
  | error er => exact (hx pins σ H s er s' (I.wish _) hq).elim
  | ok fl =>
    cases fl with
    | ret u => exact I.after hq
    | next => exact hq.elim
    | brk => exact hq.elim
    | cont => exact hq.elim
end
end WbO
/-! a loop made without turns: the default is an empty tuple that the top has written -/
namespace Wb
open PySem L2 WbMin WbS Lz
/-- an empty tuple that the top has written -/
structure E0 (K : PySem.W.Frag) (u : Addr) : Prop where
  sq : ∀ H : Hp, SqT K H u []
  ty : ∀ H : Hp, TyX K H (.ref u) (.type "tuple")
theorem e0_of {K : PySem.W.Frag} {u : Addr} {od : Option Addr} {n : Nat} {sl : Array (Option Value)} (h : K.lookup u = some ⟨.type "tuple", od, .seq #[] n, sl⟩) : E0 K u :=
  ⟨fun _ => .inr ⟨_, #[], n, h, rfl, rfl, Nat.zero_le _, .nil⟩, fun _ => .kTuple h rfl⟩
def spChTu0 (K : PySem.W.Frag) : Sp := fun vs H Q _ => ∃ (y t : Addr) (st : List Str), vs = [.ref y, .ref t] ∧ E0 K y ∧ H t = some (.tup (st.map V.str)) ∧ ∀ H', Same H H' → Q .non H'
def spOrTu0 (K : PySem.W.Frag) : Sp := fun vs H Q _ => ∃ (y t : Addr) (st : List Str), vs = [.ref y, .ref t] ∧ E0 K y ∧ H t = some (.tup (st.map V.str)) ∧ st.length ≤ 6 ∧
  ∀ r bs H', H r = none → Same H H' → H' r = some (.tup (bs.map V.ref)) → Tups H' bs ((st.map (turnOf [])).map Trn.v) → Q (.ref r) H'
structure Prt0 (K : PySem.W.Frag) (st : List Str) (rw : List Row) (ye : List Str) (t rr u y : Addr) (as : List Addr) (H : Hp) : Prop where
  ht : H t = some (.tup (st.map V.str))
  hr : H rr = some (.tup (as.map V.ref))
  hT : Tups H as (rw.map Row.v)
  hu : E0 K u
  hy : H y = some (.tup (ye.map V.str))
section
variable {K : PySem.W.Frag} {st : List Str} {rw : List Row} {ye : List Str} {t rr u y : Addr} {as : List Addr} {H H' : Hp}
theorem Prt0.same (s : Same H H') (h : Prt0 K st rw ye t rr u y as H) : Prt0 K st rw ye t rr u y as H' := ⟨s _ _ h.ht, s _ _ h.hr, h.hT.same s, h.hu, s _ _ h.hy⟩
theorem Prt0.but {p : Addr} {o : HO} (no : ∀ x, o ≠ .tup x) (hp : H p = some o) (s : But p H H') (h : Prt0 K st rw ye t rr u y as H) : Prt0 K st rw ye t rr u y as H' :=
  ⟨s _ _ (ne_of h.ht hp fun e => no _ e.symm) h.ht, s _ _ (ne_of h.hr hp fun e => no _ e.symm) h.hr, h.hT.but no hp s, h.hu, s _ _ (ne_of h.hy hp fun e => no _ e.symm) h.hy⟩
end
/-- the loop whose turns change nothing -/
def LD.bare (L : LD) : LD := { L with tn := fun i => i, ta := fun _ => 0 }
theorem LD.Ok.bare {L : LD} (O : L.Ok) : L.bare.Ok := ⟨O.sgs, O.sts, O.nxlt, fun _ h => h⟩
theorem LD.Small.bare {L : LD} (s : L.Small) : L.bare.Small := ⟨s.am, fun _ _ => by show (0 : Int).natAbs < 2 ^ 110; decide⟩
section
variable {P : Program} {w : World} {K : PySem.W.Frag} {mg : Str → Option Value} {base : Heap} {f fR fS fI fF : Addr} {fd dR dS dI dF : FuncData}
theorem ok_chtu0 (F : Fun K "check_turns" "check_turns" sChTu f fd) (Z : Free mg) (mT : mg "tuple" = none) (mE : mg "enumerate" = none) (mZ : mg "zip" = none) (DR : Def K mg "is_turn_of" sTurnOf ["value", "states"] fR dR) (DS : Def K mg "is_state_of" sStateOf ["value", "states"] fS dS) (DI : Def K mg "is_integer" sIsInt ["value"] fI dI) (DF : Def K mg "first_wrong" sFirst ["values", "right"] fF dF) : FnOk P w K mg base CX0 3 f fd ["turns", "states"] (spChTu0 K) := by
  have GR : FnOk P w K mg base CX0 2 fR dR ["value", "states"] spTurnOf := ok_turnof DR.F Z mT DS DI
  have GF : FnOk P w K mg base CX0 1 fF dF ["values", "right"] spFirstL := ok_firstL DF.F mE
  refine F.ok scCT (fun vs H Q E h => ?_) (fun cdv A outer s H vs Q E hr h => ?_)
  · obtain ⟨y, t, st, rfl, _⟩ := h
    rfl
  · obtain ⟨y, t, st, rfl, hy, ht, k⟩ := h
    have hr1 : Room 1 _ := hr.mono (by decide)
    refine ⟨_, pss_cons (ps_if (pt_not (pt_val (pe_callB call_isi (by rfl) Z.isi (by decide +kernel) (pa_cons (pv 0) (pa_cons (pe_bltn (v := .ty "tuple") (u := .type "tuple") (by rfl) mT (by decide +kernel) rfl) pa_nil))))) (pss_one ps_never) pss_nil)
      (pss_cons (ps_setLc (i := 2) (own := [("turn", 4)]) (g := gName 4) (tt := tYes) rfl scCT.nd rfl rfl (sw_true rfl rfl rfl (by decide +kernel)) (pi_tup (pv 0)) (blkOk_by (N := NCT) (sc := defScope sChTu) (by decide +kernel)) (fun _ _ _ _ _ => pg_name (i := 4) scCT.nd rfl (.inl rfl)) (fun _ _ _ _ _ => pts_nil)
            (fun _ _ _ _ _ => pe_call GR hr rfl DR.g DR.kp DR.b .nil pass0 (pa_cons (pv 4) (pa_cons (pv 1) pa_nil))))
      (pss_cons (ps_set (i := 3) scCT.nd rfl (.inl rfl) (pe_call GF hr1 rfl DF.g DF.kp DF.b .nil pass0 (pa_cons
          (pe_lc (own := [("turn", 4), ("fine", 5)]) (g := gTup K 2 (gCons (gName 4) (gCons (gName 5) gNil))) (tt := tYes) rfl scCT.nd (pi_zipM (by rfl) mZ (pa_cons (pv 0) (pa_cons (pv 2) pa_nil))) (blkOk_by (N := NCT) (sc := defScope sChTu) (by decide +kernel)) (fun _ _ _ _ _ => pg_tup (by rfl) (pgs_cons (pg_name (i := 4) scCT.nd rfl (.inl rfl)) (pgs_cons (pg_name (i := 5) scCT.nd rfl (.inl rfl)) pgs_nil))) (fun _ _ _ _ _ => pts_nil)
            (fun _ _ _ _ _ => pe_ifExp (pt_val (pv 5)) (pe_ix (show IxR _ (rIxT K) from ix_tup) (pv 4) pe_int (fun _ _ => rfl)) pe_non)) (pa_cons (pv 2) pa_nil))))
      (pss_one (ps_if (pt_cmpR op_notN (pv 3) pe_non (nomark _)) (pss_one ps_never) pss_nil)))), ?_⟩
    refine ⟨_, rfl, _, _, .type "tuple", .type "tuple", true, rfl, .ty "tuple", hy.ty _, kit_ty (by decide +kernel), true, rfl, ?_⟩
    refine ⟨_, rfl, y, rfl, ⟨_, hy.sq _⟩, fun D hD => lc_it (walk_tup (xs := [])) (fun i H3 => H3 D = some (.lst []) ∧ Same H H3) ⟨upd_same, Same.put (Same.refl H) hD⟩ (fun _ _ _ h => hy.sq _) ?_ ?_⟩
    · rintro i x H3 H3' hi
      exact absurd hi (Nat.not_lt_zero _)
    · rintro H3 ⟨h1, h2⟩
      refine ⟨_, rfl, _, rfl, y, D, _, _, rfl, hy.sq _, SqL.of h1, fun D2 hD2 => lc_it (walk_zipM (n := 0) (xs := []) (ys := []) rfl) (fun i H4 => H4 D2 = some (.lst []) ∧ Same H3 H4) ⟨upd_same, Same.put (Same.refl H3) hD2⟩ (fun _ _ _ h => ⟨hy.sq _, SqL.of (h.2 _ _ h1)⟩) ?_ ?_⟩
      · rintro i x H4 H5 hi
        exact absurd hi (Nat.not_lt_zero _)
      · rintro H4 ⟨g1, g2⟩
        refine ⟨_, rfl, D2, D, [], rfl, g1, g2 _ _ h1, List.nodup_nil, fun H5 s5 => ?_⟩
        refine ⟨_, rfl, rfl, _, rfl, ?_⟩
        show if (!decide (V.non = V.non)) = true then _ else _
        rw [decide_eq_true rfl]
        exact iteF (k H5 ((h2.trans g2).trans s5))
set_option maxHeartbeats 0 in
theorem ok_ortu0 (F : Fun K "ordered_turns" "ordered_turns" sOrTu f fd) (mT : mg "tuple" = none) : FnOk P w K mg base CX0 1 f fd ["turns", "states"] (spOrTu0 K) := by
  refine F.ok scOT (fun vs H Q E h => ?_) (fun cdv A outer s H vs Q E hr h => ?_)
  · obtain ⟨y, t, st, rfl, _⟩ := h
    rfl
  · obtain ⟨y, t, st, rfl, hy, ht, fst, k⟩ := h
    refine ⟨_, pss_cons (ps_set (i := 2) scOT.nd rfl (.inr rfl) (pe_dc (own := [("turn", 3)]) (g := gName 3) (tt := tYes) rfl scOT.nd (pi_tup (pv 0)) (blkOk_by (N := NOT) (sc := defScope sOrTu) (by decide +kernel)) (fun _ _ _ _ _ => pg_name (i := 3) scOT.nd rfl (.inl rfl)) (fun _ _ _ _ _ => pts_nil)
        (fun _ _ _ _ _ => pe_ix (show IxR _ (rIxT K) from ix_tup) (pv 3) pe_int (fun _ _ => rfl)) (fun _ _ _ _ _ => pv 3)))
      (pss_one (ps_ret (pe_callTy call_tuple_of (by rfl) mT (by decide +kernel) (pa_cons
      (pe_lc (own := [("state", 4)]) (g := gName 4) (tt := tYes) rfl scOT.nd (pi_tup (pv 1)) (blkOk_by (N := NOT) (sc := defScope sOrTu) (by decide +kernel)) (fun _ _ _ _ _ => pg_name (i := 4) scOT.nd rfl (.inl rfl)) (fun _ _ _ _ _ => pts_nil)
        (fun _ _ _ _ _ => pe_dget2 (un2 hr) (pv 2) (pv 4) (pe_tup (pa_cons (pv 4) (pa_cons (pv 4) (pa_cons pe_int pa_nil)))) ⟨rfl, rfl, rfl, rfl⟩)) pa_nil)))), ?_⟩
    refine ⟨_, rfl, y, rfl, ⟨_, hy.sq _⟩, fun D hD => dc_it (walk_tup (xs := [])) (fun i H3 => H3 D = some (.dK []) ∧ Same H H3) ⟨upd_same, Same.put (Same.refl H) hD⟩ (fun _ _ _ h => hy.sq _) ?_ ?_⟩
    · rintro i x H3 H3' hi
      exact absurd hi (Nat.not_lt_zero _)
    · rintro H3 ⟨h1, h2⟩
      have ht3 := h2 _ _ ht
      refine ⟨_, rfl, t, rfl, ⟨_, SqT.of ht3⟩, fun D2 hD2 => lc_it (walk_tup (xs := st.map V.str)) (fun i H4 => ∃ bs : List Addr, H4 D2 = some (.lst (bs.map V.ref)) ∧ Tups H4 bs (((st.take i).map (turnOf [])).map Trn.v) ∧ (∀ c ∈ bs, c ≠ D2) ∧ Same H3 H4) ⟨[], upd_same, trivial, (fun _ q => nomatch q), Same.put (Same.refl H3) hD2⟩ (fun _ _ _ h => by obtain ⟨_, _, _, _, h⟩ := h; exact SqT.of (h _ _ ht3)) ?_ ?_⟩
      · rintro i x H4 H4' hi ⟨bs, g1, g3, g4, g2⟩ ⟨rfl, hx⟩
        rw [List.getElem?_map] at hx
        obtain ⟨z, hz, rfl⟩ := Option.map_eq_some_iff.mp hx
        rw [List.length_map] at hi
        have lb : bs.length = i := by rw [g3.length, List.length_map, List.length_map, List.length_take]; omega
        refine ⟨rfl, _, rfl, D, rfl, .inl ⟨_, .inl (g2 _ _ h1)⟩, _, rfl, _, rfl, _, rfl, ?_⟩
        refine ⟨(by rw [sizeLine_eq]; show 3 ≤ _; decide), fun u hu => ?_⟩
        have s6 := Same.put (o := .tup [.str z, .str z, .int 0]) (Same.refl H4') hu
        have nc : u ≠ D2 := fun q => by
          rw [q, g1] at hu
          cases hu
        have n2 : ∀ a ∈ bs ++ [u], a ≠ D2 := fun a ha => (List.mem_append.mp ha).elim (g4 a) fun q => by rw [List.mem_singleton.mp q]; exact nc
        refine ⟨none, DGet.k (k := k1 z) (kvs := []) ((g2.trans s6) _ _ h1), ?_⟩
        refine ⟨_, s6 _ _ g1, ?_, bs ++ [u], ?_, ?_, n2, Same.new' (g2.trans s6) hD2⟩
        · rw [List.length_map, sizeLine_eq]
          omega
        · rw [upd_same, List.map_append] <;> rfl
        · have e1 : ((st.take (i + 1)).map (turnOf [])).map Trn.v = ((st.take i).map (turnOf [])).map Trn.v ++ [[V.str z, .str z, .int 0]] := by
            rw [List.take_add_one, hz, List.map_append, List.map_append] <;> rfl
          rw [e1]
          exact Tups.upd n2 (Tups.snoc upd_same (g3.same s6))
      · rintro H4 ⟨bs, g1, g3, g4, g2⟩
        rw [List.length_map, List.take_length] at g3
        refine ⟨D2, _, rfl, .inl ⟨SqL.of g1, fun l hl => k l bs _ (none_of_same (h2.trans g2) hl) (Same.put (h2.trans g2) hl) upd_same (g3.same (Same.put (Same.refl H4) hl))⟩⟩
end
section
variable {P : Program} {w : World} {K : PySem.W.Frag} {mg : Str → Option Value} {base : Heap} {A : LA} {e : Addr}
end
end Wb
/-! a loop with another row, another turn: the mathematics -/
namespace Wb
open PySem L2 WbMin WbS Lz
/-- state i goes on to state j at sign c, counting m -/
def LD.setR (L : LD) (i c j : Nat) (m : Int) : LD := { L with nx := fun a d => if a = i ∧ d = c then j else L.nx a d, am := fun a d => if a = i ∧ d = c then m else L.am a d }
/-- state i turns to state j, counting m -/
def LD.setT (L : LD) (i j : Nat) (m : Int) : LD := { L with tn := fun a => if a = i then j else L.tn a, ta := fun a => if a = i then m else L.ta a }
section
variable {L : LD} {i c j : Nat} {m : Int}
theorem LD.Ok.setR (O : L.Ok) (hj : j < L.n) : (L.setR i c j m).Ok := ⟨O.sgs, O.sts, fun a d ha hd => by
  show (if a = i ∧ d = c then j else L.nx a d) < L.n
  split
  · exact hj
  · exact O.nxlt a d ha hd, O.tnlt⟩
theorem LD.Ok.setT (O : L.Ok) (hj : j < L.n) : (L.setT i j m).Ok := ⟨O.sgs, O.sts, O.nxlt, fun a ha => by
  show (if a = i then j else L.tn a) < L.n
  split
  · exact hj
  · exact O.tnlt a ha⟩
/-- the row that is put there -/
def LD.newR (L : LD) (i c j : Nat) (m : Int) : Row := ⟨L.nm i, c, L.nm j, m⟩
def LD.newT (L : LD) (i j : Nat) (m : Int) : Trn := ⟨L.nm i, L.nm j, m⟩
theorem setR_row (O : L.Ok) (hi : i < L.n) {a d : Nat} (ha : a < L.n) : (L.setR i c j m).row a d = if (L.row a d).a = L.nm i ∧ (L.row a d).c = c then L.newR i c j m else L.row a d := by
  show (⟨L.nm a, d, L.nm (if a = i ∧ d = c then j else L.nx a d), if a = i ∧ d = c then m else L.am a d⟩ : Row) = if L.nm a = L.nm i ∧ d = c then _ else _
  by_cases h : a = i ∧ d = c
  · obtain ⟨rfl, rfl⟩ := h
    rw [if_pos ⟨rfl, rfl⟩, if_pos ⟨rfl, rfl⟩, if_pos ⟨rfl, rfl⟩] <;> rfl
  · have h' : ¬ (L.nm a = L.nm i ∧ d = c) := fun q => h ⟨nm_inj O ha hi q.1, q.2⟩
    rw [if_neg h, if_neg h, if_neg h'] <;> rfl
/-- the rows: each in its place, the one of this state and sign put anew -/
theorem setR_rows (O : L.Ok) (hi : i < L.n) : (L.setR i c j m).rows = L.rows.map fun ρ => if ρ.a = L.nm i ∧ ρ.c = c then L.newR i c j m else ρ := by
  unfold LD.rows
  rw [List.map_flatMap]
  show (List.range L.n).flatMap (fun a => L.sg.map ((L.setR i c j m).row a)) = _
  refine flatMap_congr' fun a ha => ?_
  rw [List.map_map]
  exact List.map_congr_left fun d _ => setR_row O hi (List.mem_range.mp ha)
theorem setT_turns (O : L.Ok) (hi : i < L.n) : (L.setT i j m).turns = L.turns.map fun ρ => if ρ.a = L.nm i then L.newT i j m else ρ := by
  unfold LD.turns
  rw [List.map_map]
  show (List.range L.n).map (L.setT i j m).turn = _
  refine List.map_congr_left fun a ha => ?_
  have ha := List.mem_range.mp ha
  show (⟨L.nm a, L.nm (if a = i then j else L.tn a), if a = i then m else L.ta a⟩ : Trn) = if L.nm a = L.nm i then _ else _
  by_cases h : a = i
  · subst h
    rw [if_pos rfl, if_pos rfl, if_pos rfl] <;> rfl
  · have h' : ¬ L.nm a = L.nm i := fun q => h (nm_inj O ha hi q)
    rw [if_neg h, if_neg h, if_neg h'] <;> rfl
end
end Wb
/-! o == v, o != v with a v of any type (out of k08's WbE) -/
namespace WbO
open PySem PySem.Spec PyProof.Rows L2
section
variable {X : Cx} {CX : CXT} {k : Nat} {C g : Addr} {fd : FuncData} {ps : List Str} {sp : Sp} {E : XK}
def rEqX (K : PySem.W.Frag) (C : Addr) (sp : Sp) (E : XK) : R2 := fun x y H Q => ∃ (a dx : Addr) (fs : List (Str × V)) (t : Value), x = .ref a ∧ H a = some (.ins C dx fs) ∧ TyX K H y t ∧ PySem.W.notFirst K C t = true ∧ sp [.ref a, y] H Q E
theorem op_eqX (hs : PySem.W.findIn X.K (.ref C) "__eq__" = some (some (.ref g))) (hf : PySem.W.isFn X.K (.ref g) = true) (F : FnOk X.prog X.w X.K X.mg X.base CX k g fd ps sp) (hr : Room k X.A) (hb : Binds X.K fd ps []) (hx : Passes CX X.nox E) : OpR X (compareOp .Eq) (rEqX X.K C sp E) := by
  intro pins s σ H x y v u Q I rx ry h
  obtain ⟨a, dx, fs, t, rfl, ha, ty, nf, q⟩ := h
  cases (show v = Value.ref a from rx)
  obtain ⟨mA, O, _⟩ := ins_get I.hok ha
  obtain ⟨od, J, _⟩ := O.look
  obtain ⟨m, hF⟩ := I.fr
  obtain ⟨P, Z, pp, _⟩ := kit_of I ry ty
  show wpAny (model X.prog X.w) X.A (richCompare .Eq (.ref a) u) _ _ s
  refine PySem.W.cmp_K (op := .Eq) (tb := t) hr.units0 hF I.ok.mod.kin J (Z.ty _ _ I.kIn pp) nf hs hf (wpAny_mono (run_at (vs := [.ref a, y]) (us := [.ref a, u]) F hr I.env0 hb hx I (.cons rfl (.cons ry .nil)) q) (fun w s' z => ?_) fun _ _ x => x)
  obtain ⟨z', H', I', rz, qz⟩ := z
  exact SlX.cmpback rz ⟨z', H', I', rz, qz⟩
def rNeX (K : PySem.W.Frag) (C : Addr) (sp : Sp) (E : XK) : R2 := fun x y H Q => ∃ (a dx : Addr) (fs : List (Str × V)) (t : Value), x = .ref a ∧ H a = some (.ins C dx fs) ∧ TyX K H y t ∧ PySem.W.notFirst K C t = true ∧ sp [.ref a, y] H (fun v H' => ∃ c : Bool, v = .bl c ∧ Q (.bl (!c)) H') E
theorem op_neX (hn : PySem.W.findIn X.K (.ref C) "__ne__" = some (some (.builtin "object.__ne__"))) (hm : PySem.W.mroIn X.K C (.type "object") = some true) (hs : PySem.W.findIn X.K (.ref C) "__eq__" = some (some (.ref g))) (hf : PySem.W.isFn X.K (.ref g) = true)
    (F : FnOk X.prog X.w X.K X.mg X.base CX k g fd ps sp) (hr : Room (k + 1) X.A) (hb : Binds X.K fd ps []) (hx : Passes CX X.nox E) : OpR X (compareOp .NotEq) (rNeX X.K C sp E) := by
  intro pins s σ H x y v u Q I rx ry h
  obtain ⟨a, dx, fs, t, rfl, ha, ty, nf, q⟩ := h
  cases (show v = Value.ref a from rx)
  obtain ⟨mA, O, _⟩ := ins_get I.hok ha
  obtain ⟨od, J, _⟩ := O.look
  obtain ⟨P, Z, pp, _⟩ := kit_of I ry ty
  have un := hr.units
  show wpAny (model X.prog X.w) X.A (richCompare .NotEq (.ref a) u) _ _ s
  refine ne_own (by omega) I.kIn J (Z.ty _ _ I.kIn pp) nf hn hm hs hf (wpAny_mono (run_at (vs := [.ref a, y]) (us := [.ref a, u]) F hr.in1 I.env0.in1 hb hx I (.cons rfl (.cons ry .nil)) q) (fun w s' z => ?_) fun _ _ x => x)
  obtain ⟨z', H', I', rz, c, rfl, qz⟩ := z
  cases (show w = Value.bool c from rz)
  exact ⟨c, rfl, .bl (!c), H', I', rfl, qz⟩
end
end WbO
/-! faces and data of a loop's row, for laws that reach no total (out of LxK, LxD, LxE) -/
namespace Wb
open PySem L2 WbMin WbS Lz WbO
theorem str_tuple : PyData.strOk ("tuple" : Str) = true := by decide +kernel
theorem str_plain : PyData.strOk ("plain" : Str) = true := by decide +kernel
theorem int_lay (c : Int) : (plainD (.int c)).canLay0 = true := by
  show ((PyData.strOk "plain") && (true && true)) = true
  rw [str_plain] <;> rfl
theorem shaped_of {d : PyData} (h : d.canLay0 = true) (n : PyData.depth d ≤ 64) : SeqAt.shaped d = true := by
  unfold SeqAt.shaped
  rw [h, decide_eq_true n] <;> rfl
theorem Thing.up : ∀ {n : Nat} {H : Hp} {v : V} {d : PyData}, Thing H n v d → Thing H (n + 1) v d
  | 0, _, _, _, h => h.elim
  | _ + 1, _, _, _, .inl h => .inl h
  | _ + 1, _, _, _, .inr (.inl ⟨a, xs, ds, e, h, l, r, q⟩) => .inr (.inl ⟨a, xs, ds, e, h, l, r.imp fun _ _ z => Thing.up z, q⟩)
  | _ + 1, _, _, _, .inr (.inr (.inl ⟨a, xs, ds, e, h, l, r, q⟩)) => .inr (.inr (.inl ⟨a, xs, ds, e, h, l, r.imp fun _ _ z => Thing.up z, q⟩))
  | _ + 1, _, _, _, .inr (.inr (.inr ⟨a, ks, xs, ds, e, h, nd, l1, l, r, q⟩)) => .inr (.inr (.inr ⟨a, ks, xs, ds, e, h, nd, l1, l, r.imp fun _ _ z => Thing.up z, q⟩))
theorem lay_map {α : Type} {g : α → PyData} : ∀ {l : List α}, (∀ x ∈ l, (g x).canLay0 = true) → PyData.canLayAll0 (l.map g) = true
  | [], _ => rfl
  | x :: r, h => by
    show ((g x).canLay0 && PyData.canLayAll0 (r.map g)) = true
    rw [h x List.mem_cons_self, lay_map fun y q => h y (List.mem_cons_of_mem _ q)] <;> rfl
theorem depth_map {α : Type} {g : α → PyData} {n : Nat} : ∀ {l : List α}, (∀ x ∈ l, PyData.depth (g x) ≤ n) → PyData.depthAll (l.map g) ≤ n
  | [], _ => Nat.zero_le _
  | x :: r, h => by
    show max (PyData.depth (g x)) (PyData.depthAll (r.map g)) ≤ n
    have h1 := h x List.mem_cons_self
    have h2 := depth_map (n := n) fun y q => h y (List.mem_cons_of_mem _ q)
    omega
/-- the face of a tuple -/
def tupD (ds : List PyData) : PyData := .list (.str "tuple" :: ds)
theorem tup_lay {ds : List PyData} (h : PyData.canLayAll0 ds = true) : (tupD ds).canLay0 = true := by
  show ((PyData.strOk "tuple") && PyData.canLayAll0 ds) = true
  rw [str_tuple, h] <;> rfl
theorem tup_depth {ds : List PyData} {n : Nat} (h : PyData.depthAll ds ≤ n) : PyData.depth (tupD ds) ≤ n + 1 := by
  show max 0 (PyData.depthAll ds) + 1 ≤ n + 1
  omega
/-- things that stand one beside the other -/
theorem both_map {α : Type} {R : V → PyData → Prop} {g : α → V} {d : α → PyData} : ∀ {l : List α}, (∀ x ∈ l, R (g x) (d x)) → Both R (l.map g) (l.map d)
  | [], _ => .nil
  | x :: _, h => .cons (h x List.mem_cons_self) (both_map fun y q => h y (List.mem_cons_of_mem _ q))
theorem both_tups {α : Type} {R : V → PyData → Prop} {H : Hp} {g : α → List V} {d : α → PyData} : ∀ {as : List Addr} {l : List α}, Tups H as (l.map g) → (∀ a, ∀ x ∈ l, H a = some (.tup (g x)) → R (.ref a) (d x)) → Both R (as.map V.ref) (l.map d)
  | [], [], _, _ => .nil
  | _ :: _, x :: _, h, k => .cons (k _ x List.mem_cons_self h.1) (both_tups h.2 fun a y q => k a y (List.mem_cons_of_mem _ q))
  | [], _ :: _, h, _ => h.elim
  | _ :: _, [], h, _ => h.elim
theorem dp_tups {α : Type} {K : PySem.W.Frag} {H : Hp} {g : α → List V} {d : α → PyData} : ∀ {as : List Addr} {l : List α}, Tups H as (l.map g) → (∀ a, ∀ x ∈ l, H a = some (.tup (g x)) → Dp K H (.ref a) (d x)) → DpAll K H (as.map V.ref) (l.map d)
  | [], [], _, _ => .nil
  | _ :: _, x :: _, h, k => .cons (k _ x List.mem_cons_self h.1) (dp_tups h.2 fun a y q => k a y (List.mem_cons_of_mem _ q))
  | [], _ :: _, h, _ => h.elim
  | _ :: _, [], h, _ => h.elim
/-! ### rows -/
def strF (z : Str) : PyData := plainD (.str z)
theorem strF_lay {z : Str} (h : PyData.strOk z = true) : (strF z).canLay0 = true := by
  show ((PyData.strOk "plain") && (PyData.strOk z && true)) = true
  rw [str_plain, h] <;> rfl
def rowF (r : Row) : PyData := tupD [strF r.a, strF (S [r.c]), strF r.b, plainD (.int r.m)]
def trnF (r : Trn) : PyData := tupD [strF r.a, strF r.b, plainD (.int r.m)]
def loopF (L : LD) : PyData := tupD [strF (S L.sg), tupD (L.st.map strF), tupD (L.rows.map rowF), tupD (L.turns.map trnF), tupD (L.yes.map strF)]
theorem strs_both {H : Hp} {n : Nat} (zs : List Str) : Both (Thing H (n + 1)) (zs.map V.str) (zs.map strF) := both_map fun z _ => .inl (.str z)
theorem loopF_thing {H : Hp} {q : Addr} {L : LD} (O : L.Ok) (h : RowAt H q L) : Thing H 4 (.ref q) (loopF L) := by
  obtain ⟨t, r, u, y, as, bs, h0, ht, hr, hT, hu, hU, hy⟩ := h
  have sf : L.st.length ≤ 6 := O.sts.few
  have few := rows_few O
  have yf := yes_few O
  have la : as.length = L.rows.length := by rw [hT.length, List.length_map]
  have lb : bs.length = L.n := by rw [hU.length, List.length_map, turns_length]
  have lb6 : L.n ≤ 6 := O.sts.few
  refine .inr (.inr (.inl ⟨q, _, _, rfl, h0, by show 5 ≤ 1000; decide, ?_, rfl⟩))
  refine .cons (.inl (.str _)) (.cons ?_ (.cons ?_ (.cons ?_ (.cons ?_ .nil))))
  · exact .inr (.inr (.inl ⟨t, _, _, rfl, ht, by rw [List.length_map]; omega, strs_both _, rfl⟩))
  · refine .inr (.inr (.inl ⟨r, _, _, rfl, hr, by rw [List.length_map]; omega, both_tups (g := Row.v) (d := rowF) hT fun a ρ _ ha => ?_, rfl⟩))
    exact .inr (.inr (.inl ⟨a, _, _, rfl, ha, by show 4 ≤ 1000; decide, .cons (.inl (.str _)) (.cons (.inl (.str _)) (.cons (.inl (.str _)) (.cons (.inl (.int _)) .nil))), rfl⟩))
  · refine .inr (.inr (.inl ⟨u, _, _, rfl, hu, by rw [List.length_map]; omega, both_tups (g := Trn.v) (d := trnF) hU fun a ρ _ ha => ?_, rfl⟩))
    exact .inr (.inr (.inl ⟨a, _, _, rfl, ha, by show 3 ≤ 1000; decide, .cons (.inl (.str _)) (.cons (.inl (.str _)) (.cons (.inl (.int _)) .nil)), rfl⟩))
  · exact .inr (.inr (.inl ⟨y, _, _, rfl, hy, by rw [List.length_map]; omega, strs_both _, rfl⟩))
theorem sg_ok {L : LD} (O : L.Ok) : PyData.strOk (S L.sg) = true := ok_codes fun c hc => by
  have := O.sgs.low c hc
  omega
theorem all4 {a b c d : PyData} (h1 : a.canLay0 = true) (h2 : b.canLay0 = true) (h3 : c.canLay0 = true) (h4 : d.canLay0 = true) : PyData.canLayAll0 [a, b, c, d] = true := by
  show (a.canLay0 && (b.canLay0 && (c.canLay0 && (d.canLay0 && true)))) = true
  rw [h1, h2, h3, h4] <;> rfl
theorem all3 {a b c : PyData} (h1 : a.canLay0 = true) (h2 : b.canLay0 = true) (h3 : c.canLay0 = true) : PyData.canLayAll0 [a, b, c] = true := by
  show (a.canLay0 && (b.canLay0 && (c.canLay0 && true))) = true
  rw [h1, h2, h3] <;> rfl
theorem all5 {a b c d e : PyData} (h1 : a.canLay0 = true) (h2 : b.canLay0 = true) (h3 : c.canLay0 = true) (h4 : d.canLay0 = true) (h5 : e.canLay0 = true) : PyData.canLayAll0 [a, b, c, d, e] = true := by
  show (a.canLay0 && (b.canLay0 && (c.canLay0 && (d.canLay0 && (e.canLay0 && true))))) = true
  rw [h1, h2, h3, h4, h5] <;> rfl
theorem loopF_lay {L : LD} (O : L.Ok) : (loopF L).canLay0 = true := by
  refine tup_lay (all5 (strF_lay (sg_ok O)) (tup_lay (lay_map fun z hz => strF_lay (ok_st O hz))) (tup_lay (lay_map fun ρ hρ => ?_)) (tup_lay (lay_map fun ρ hρ => ?_)) (tup_lay (lay_map fun z hz => strF_lay (ok_st O (yes_sub z hz)))))
  · obtain ⟨i, c, hi, hc, rfl⟩ := rows_mem hρ
    exact tup_lay (all4 (strF_lay (ok_st O (nm_mem hi))) (strF_lay (ok_sign O hc)) (strF_lay (ok_st O (nm_mem (O.nxlt i c hi hc)))) (int_lay _))
  · obtain ⟨i, hi, rfl⟩ := List.mem_map.mp hρ
    have hi := List.mem_range.mp hi
    exact tup_lay (all3 (strF_lay (ok_st O (nm_mem hi))) (strF_lay (ok_st O (nm_mem (O.tnlt i hi)))) (int_lay _))
theorem strF_depth (z : Str) : PyData.depth (strF z) ≤ 1 := Nat.le_refl _
theorem loopF_depth (L : LD) : PyData.depth (loopF L) ≤ 5 := by
  have d1 : PyData.depth (tupD (L.st.map strF)) ≤ 2 := tup_depth (depth_map fun z _ => strF_depth z)
  have d2 : PyData.depth (tupD (L.rows.map rowF)) ≤ 3 := tup_depth (depth_map fun _ _ => show 2 ≤ 2 from Nat.le_refl _)
  have d3 : PyData.depth (tupD (L.turns.map trnF)) ≤ 3 := tup_depth (depth_map fun _ _ => show 2 ≤ 2 from Nat.le_refl _)
  have d4 : PyData.depth (tupD (L.yes.map strF)) ≤ 2 := tup_depth (depth_map fun z _ => strF_depth z)
  refine tup_depth (n := 4) ?_
  show max (PyData.depth (strF (S L.sg))) (max (PyData.depth (tupD (L.st.map strF))) (max (PyData.depth (tupD (L.rows.map rowF))) (max (PyData.depth (tupD (L.turns.map trnF))) (max (PyData.depth (tupD (L.yes.map strF))) 0)))) ≤ 4
  have := strF_depth (S L.sg)
  omega
theorem loopF_shaped {L : LD} (O : L.Ok) : SeqAt.shaped (loopF L) = true := shaped_of (loopF_lay O) (Nat.le_trans (loopF_depth L) (by decide))
theorem loopF_eqv {L : LD} (O : L.Ok) : PyData.eqv (loopF L) (loopF L) = true := SeqAt.eqv_refl _ (loopF_lay O)
/-! ### a row as data -/
def strP (z : Str) : PyData := .str z
def rowP (r : Row) : PyData := .tuple [.str r.a, .str (S [r.c]), .str r.b, .int r.m]
def trnP (r : Trn) : PyData := .tuple [.str r.a, .str r.b, .int r.m]
def loopP (L : LD) : PyData := .tuple [.str (S L.sg), .tuple (L.st.map strP), .tuple (L.rows.map rowP), .tuple (L.turns.map trnP), .tuple (L.yes.map strP)]
theorem dp_strP {K : PySem.W.Frag} {H : Hp} : ∀ zs : List Str, DpAll K H (zs.map V.str) (zs.map strP)
  | [] => .nil
  | z :: zs => .cons (.str z) (dp_strP zs)
theorem loopP_dp {K : PySem.W.Frag} {H : Hp} {q t rr u y : Addr} {as bs : List Addr} {L : LD} (pr : Prt L t rr u y as bs H) (hq : H q = some (.tup [.str (S L.sg), .ref t, .ref rr, .ref u, .ref y])) : Dp K H (.ref q) (loopP L) := by
  refine .tup (SqT.of hq) (.cons (.str _) (.cons (.tup (SqT.of pr.ht) (dp_strP _)) (.cons (.tup (SqT.of pr.hr) (dp_tups (g := Row.v) (d := rowP) pr.hT fun a r _ h => ?_)) (.cons (.tup (SqT.of pr.hu) (dp_tups (g := Trn.v) (d := trnP) pr.hU fun a r _ h => ?_)) (.cons (.tup (SqT.of pr.hy) (dp_strP _)) .nil)))))
  · exact .tup (SqT.of h) (.cons (.str _) (.cons (.str _) (.cons (.str _) (.cons (.int _) .nil))))
  · exact .tup (SqT.of h) (.cons (.str _) (.cons (.str _) (.cons (.int _) .nil)))
theorem loopP_lay {L : LD} (O : L.Ok) : (loopP L).canLay0 = true := by
  refine all5 (sg_ok O) (lay_map fun z hz => ok_st O hz) (lay_map fun ρ hρ => ?_) (lay_map fun ρ hρ => ?_) (lay_map fun z hz => ok_st O (yes_sub z hz))
  · obtain ⟨i, c, hi, hc, rfl⟩ := rows_mem hρ
    exact all4 (ok_st O (nm_mem hi)) (ok_sign O hc) (ok_st O (nm_mem (O.nxlt i c hi hc))) rfl
  · obtain ⟨i, hi, rfl⟩ := List.mem_map.mp hρ
    have hi := List.mem_range.mp hi
    exact all3 (ok_st O (nm_mem hi)) (ok_st O (nm_mem (O.tnlt i hi))) rfl
theorem loopP_shaped {L : LD} (O : L.Ok) : SeqAt.shaped (loopP L) = true := by
  refine shaped_of (loopP_lay O) ?_
  have d1 := depth_map (g := strP) (n := 0) (l := L.st) fun _ _ => show 0 ≤ 0 from Nat.le_refl _
  have d2 := depth_map (g := rowP) (n := 1) (l := L.rows) fun _ _ => show 1 ≤ 1 from Nat.le_refl _
  have d3 := depth_map (g := trnP) (n := 1) (l := L.turns) fun _ _ => show 1 ≤ 1 from Nat.le_refl _
  have d4 := depth_map (g := strP) (n := 0) (l := L.yes) fun _ _ => show 0 ≤ 0 from Nat.le_refl _
  show max 0 (max (PyData.depthAll (L.st.map strP) + 1) (max (PyData.depthAll (L.rows.map rowP) + 1) (max (PyData.depthAll (L.turns.map trnP) + 1) (max (PyData.depthAll (L.yes.map strP) + 1) 0)))) + 1 ≤ 64
  omega
theorem loopP_eqv {L : LD} (O : L.Ok) : PyData.eqv (loopP L) (loopP L) = true := SeqAt.eqv_refl _ (loopP_lay O)
/-! ### equal as data: the same -/
theorem eqvAll_inj {α : Type} {f : α → PyData} (inj : ∀ x y, PyData.eqv (f x) (f y) = true → x = y) : ∀ {a b : List α}, PyData.eqvAll (a.map f) (b.map f) = true → a = b
  | [], [], _ => rfl
  | [], _ :: _, h => by simp [PyData.eqvAll] at h
  | _ :: _, [], h => by simp [PyData.eqvAll] at h
  | x :: a, y :: b, h => by
    rw [List.map_cons, List.map_cons, PyData.eqvAll, Bool.and_eq_true] at h
    rw [inj x y h.1, eqvAll_inj inj h.2]
theorem strP_inj (x y : Str) (h : PyData.eqv (strP x) (strP y) = true) : x = y := by
  simp only [strP, PyData.eqv] at h
  simpa using h
theorem rowP_inj (x y : Row) (h : PyData.eqv (rowP x) (rowP y) = true) : x = y := by
  simp only [rowP, PyData.eqv, PyData.eqvAll, Bool.and_eq_true, Bool.and_true] at h
  obtain ⟨h1, h2, h3, h4⟩ := h
  obtain ⟨a, c, b, m⟩ := x
  obtain ⟨a', c', b', m'⟩ := y
  have e1 : a = a' := by simpa using h1
  have e2 : S [c] = S [c'] := by simpa using h2
  have e3 : b = b' := by simpa using h3
  have e4 : m = m' := by simpa using h4
  have e5 := S_inj e2
  injection e5 with e5
  rw [e1, e3, e4, e5]
theorem trnP_inj (x y : Trn) (h : PyData.eqv (trnP x) (trnP y) = true) : x = y := by
  simp only [trnP, PyData.eqv, PyData.eqvAll, Bool.and_eq_true, Bool.and_true] at h
  obtain ⟨h1, h3, h4⟩ := h
  obtain ⟨a, b, m⟩ := x
  obtain ⟨a', b', m'⟩ := y
  have e1 : a = a' := by simpa using h1
  have e3 : b = b' := by simpa using h3
  have e4 : m = m' := by simpa using h4
  rw [e1, e3, e4]
/-- two loops of one row -/
structure SameRow (A B : LD) : Prop where
  sg : A.sg = B.sg
  st : A.st = B.st
  rows : A.rows = B.rows
  turns : A.turns = B.turns
  yes : A.yes = B.yes
theorem SameRow.data {A B : LD} (h : SameRow A B) : loopP A = loopP B := by
  unfold loopP
  rw [h.sg, h.st, h.rows, h.turns, h.yes]
theorem SameRow.face {A B : LD} (h : SameRow A B) : loopF A = loopF B := by
  unfold loopF
  rw [h.sg, h.st, h.rows, h.turns, h.yes]
theorem eqv_same {A B : LD} (h : PyData.eqv (loopP A) (loopP B) = true) : SameRow A B := by
  simp only [loopP, PyData.eqv, PyData.eqvAll, Bool.and_eq_true, Bool.and_true] at h
  obtain ⟨h1, h2, h3, h4, h5⟩ := h
  have e1 : S A.sg = S B.sg := by simpa using h1
  exact ⟨S_inj e1, eqvAll_inj strP_inj h2, eqvAll_inj rowP_inj h3, eqvAll_inj trnP_inj h4, eqvAll_inj strP_inj h5⟩
theorem eqv_other {A B : LD} (h : ¬ SameRow A B) : PyData.eqv (loopP A) (loopP B) = false := by
  cases e : PyData.eqv (loopP A) (loopP B) with
  | false => rfl
  | true => exact absurd (eqv_same e) h
end Wb
/-! a loop == a loop, == anything else; states; bool -/
namespace Wb
open PySem L2 WbMin WbS Lz WbO
abbrev sLoEq : Stmt := inClass (top 49) 17
abbrev sLoStates : Stmt := inClass (top 49) 2
structure EqA where
  (fEq fSs pSs : Addr)
  (dEq dSs : FuncData)
/-- what isinstance and == ask of Loop -/
structure IsiF (K : PySem.W.Frag) (C : Addr) : Prop where
  hcl : PySem.W.findIn K (.ref C) "__class__" = some (some (.builtin "object.__class__"))
  hgt : PySem.W.specialIn K (.builtin "object.__class__") "__get__" = some (some (.builtin "getset_descriptor.__get__"))
  htk : PySem.W.takesIn K (.builtin "object.__class__") = some true
  hob : PySem.W.mroIn K C (.type "object") = some true
structure EqF (K : PySem.W.Frag) (mg : Str → Option Value) (A : LA) (B : EqA) : Prop where
  F : Fun K "__eq__" "Loop.__eq__" sLoEq B.fEq B.dEq
  b : Binds K B.dEq ["self", "other"] []
  at_ : PySem.W.findIn K (.ref A.C) "__eq__" = some (some (.ref B.fEq))
  fn : PySem.W.isFn K (.ref B.fEq) = true
  nf : PySem.W.notFirst K A.C (.ref A.C) = true
def spLoEqX (K : PySem.W.Frag) (C T : Addr) : Sp := fun vs H Q _ => ∃ (a : Addr) (y : V) (La : LD), vs = [.ref a, y] ∧ LoopAt C T H a La ∧ La.Ok ∧
  ((∃ (b : Addr) (Lb : LD), y = .ref b ∧ LoopAt C T H b Lb ∧ Lb.Ok ∧ ∀ H', Same H H' → Q (.bl (PyData.eqv (loopP La) (loopP Lb))) H') ∨ (∃ t : Value, TyX K H y t ∧ PySem.W.kitOne K t (.ref C) = some false ∧ Q (.bl false) H))
section
variable {P : Program} {w : World} {K : PySem.W.Frag} {mg : Str → Option Value} {base : Heap} {A : LA} {B : EqA} {e : Addr}
theorem kit_self {K : PySem.W.Frag} {C : Addr} : PySem.W.kitOne K (.ref C) (.ref C) = some true := by
  unfold PySem.W.kitOne
  rw [if_pos (beq_self_eq_true _)]
theorem isi_loop {D : LTxt K mg A.C} {H : Hp} {r : Addr} {L : LD} (I : IsiF K A.C) (LA0 : LoopAt A.C A.T H r L) : TyX K H (.ref r) (.ref A.C) := by
  obtain ⟨dx, t, rr, u, y, tb, as, bs, h0, pr, TA⟩ := LA0
  exact .base (.ins h0 D.cl I.hcl I.hgt I.htk I.hob)
theorem scLE : FnScope ["self", "other"] ["self", "other"] (defScope sLoEq) := ⟨rfl, rfl, rfl, by decide +kernel, rfl, by decide +kernel, by decide +kernel⟩
set_option maxHeartbeats 0 in
theorem ok_loeqX (D : LoopF K mg A e) (Z : Free mg) (EF : EqF K mg A B) (I : IsiF K A.C) : FnOk P w K mg base CX0 3 B.fEq B.dEq ["self", "other"] (spLoEqX K A.C A.T) := by
  have GW : FnOk P w K mg base CX0 1 A.fW A.dW ["self"] (spLoRow A.C) := ok_lorow D
  refine EF.F.ok scLE (fun vs H Q E h => ?_) (fun cdv A' outer s H vs Q E hr h => ?_)
  · obtain ⟨a, y, La, rfl, _⟩ := h
    rfl
  · obtain ⟨a, yv, L, rfl, LA0, O, h⟩ := h
    refine ⟨_, pss_one (ps_ret (pe_and (pe_callB call_isi (by rfl) Z.isi (by decide +kernel) (pa_cons (pv 1) (pa_cons (pe_glob (v := .ref A.C) (by rfl) D.gL rfl) pa_nil)))
      (pe_one (pe_cmpR (op_eqD hr.units) (pe_prop (pv 0) D.L.cl D.hW GW hr D.bW .nil pass0 rfl) (pe_prop (pv 1) D.L.cl D.hW GW hr D.bW .nil pass0 rfl) (nomark _))))), ?_⟩
    rcases h with ⟨b, M, rfl, LB0, O2, k⟩ | ⟨t, ty, kf, k⟩
    · obtain ⟨dx, t, rr, u, y, tb, as, bs, h0, pr, TA⟩ := id LA0
      obtain ⟨dx2, t2, rr2, u2, y2, tb2, as2, bs2, g0, pr2, TA2⟩ := id LB0
      obtain ⟨l1, l2, l3, l4, l5, l6⟩ := lf_look (S L.sg) t rr u y tb
      obtain ⟨m1, m2, m3, m4, m5, m6⟩ := lf_look (S M.sg) t2 rr2 u2 y2 tb2
      refine ⟨_, rfl, _, _, .ref A.C, .ref A.C, true, rfl, .own A.C, isi_loop (D := D.L) I LB0, kit_self, true, rfl, ?_⟩
      refine ⟨_, rfl, a, dx, _, rfl, h0, a, dx, t, rr, u, y, _, _, rfl, h0, l1, l2, l3, l4, l5, fun q hq => ?_⟩
      have s1 := Same.put (o := .tup [.str (S L.sg), .ref t, .ref rr, .ref u, .ref y]) (Same.refl H) hq
      have hq1 : (L2.upd H q (.tup [.str (S L.sg), .ref t, .ref rr, .ref u, .ref y])) q = some (.tup [.str (S L.sg), .ref t, .ref rr, .ref u, .ref y]) := upd_same
      generalize L2.upd H q (.tup [.str (S L.sg), .ref t, .ref rr, .ref u, .ref y]) = H1 at s1 hq1 ⊢
      refine ⟨_, rfl, b, dx2, _, rfl, s1 _ _ g0, b, dx2, t2, rr2, u2, y2, _, _, rfl, s1 _ _ g0, m1, m2, m3, m4, m5, fun q2 hq2 => ?_⟩
      have s2 := Same.put (o := .tup [.str (S M.sg), .ref t2, .ref rr2, .ref u2, .ref y2]) s1 hq2
      have hqq : (L2.upd H1 q2 (.tup [.str (S M.sg), .ref t2, .ref rr2, .ref u2, .ref y2])) q = some (.tup [.str (S L.sg), .ref t, .ref rr, .ref u, .ref y]) := (upd_ne (ne_of_none hq1 hq2)).trans hq1
      have hq22 : (L2.upd H1 q2 (.tup [.str (S M.sg), .ref t2, .ref rr2, .ref u2, .ref y2])) q2 = some (.tup [.str (S M.sg), .ref t2, .ref rr2, .ref u2, .ref y2]) := upd_same
      generalize L2.upd H1 q2 (.tup [.str (S M.sg), .ref t2, .ref rr2, .ref u2, .ref y2]) = H2 at s2 hqq hq22 ⊢
      exact ⟨_, _, loopP_dp (pr.same s2) hqq, loopP_dp (pr2.same s2) hq22, loopP_shaped O, loopP_shaped O2, k H2 s2⟩
    · exact ⟨_, rfl, _, _, t, .ref A.C, false, rfl, .own A.C, ty, kf, false, rfl, k⟩
end
end Wb
/-! Loop.made of a loop's row -/
namespace WbO
open PySem PySem.Spec PyProof.Rows L2
section
variable {X : Cx} {CX : CXT} {k i n : Nat} {C f : Addr} {fd : FuncData} {ps ks : List Str} {sp : Sp} {E : XK} {x : Str} {pp pos : Pos} {e : Expr} {es : List Expr} {kws : List Keyword} {t tk : TA} {g : List Value → List Value → List Value} {gV : List V → List V → List V}
/-- c(e, .., k = v, ..), the class at C in slot i -/
def tMakeLK (i : Nat) (C : Addr) (n m : Nat) (sp : Sp) (gV : List V → List V → List V) (E : XK) (t tk : TA) : TE := fun σ H Q => σ[i]? = some (some (.ref C)) ∧ tMakeK C n m sp gV E t tk σ H Q
theorem pe_makeLK (M : Mk X.K C f) (F : FnOk X.prog X.w X.K X.mg X.base CX k f fd ps sp) (hr : Room (k + 1) X.A) (hN : X.N[i]? = some x) (hv : Vis X.env.scope x) (hb : KBn X.K fd ps (n + 1) ks g gV) (hx : Passes CX X E) (ha : PA X (e :: es) t) (hkw : PK X kws tk)
    (hall : (backToKw pos (keywordEach kws X.env)).all (·.1.isSome) = true := by rfl) (hks : (backToKw pos (keywordEach kws X.env)).filterMap (·.1) = ks := by rfl) (hdb : (x == ("__debug__" : Str)) = false := by decide) (hcd : (x == ("__classdict__" : Str)) = false := by decide)
    (he : starEach (e :: es) X.env = (false, eval e X.env) :: starEach es X.env := by rfl) (hpl : ((backTo pos (starEach (e :: es) X.env)).any (·.1) || (backToKw pos (keywordEach kws X.env)).any (·.1.isNone)) = false := by rfl) :
    PE X (.Call (.Name x pp) (e :: es) kws pos) (tMakeLK i C n ks.length sp gV E t tk) := by
  refine ⟨fun pins s σ H Q I h => ?_⟩
  obtain ⟨hs, ht⟩ := h
  refine wpAny_Call_Name_kw (thn ((pe_var (pos := pp) hN hv hdb hcd).run pins s σ H (fun v H1 => v = .ref C ∧ H1 = H) I ⟨.ref C, hs, rfl, rfl⟩) fun u s1 ⟨v, H1, I1, r1, q1⟩ => ?_)
  obtain ⟨rfl, rfl⟩ := q1
  cases r1
  refine PySem.W.callWith_KW (h₀ := X.base) I1.ok.mod.kin M.kp hall (thn (ha.run pos pins s1 σ _ _ I1 ht) fun us s2 ⟨vs, H2, I2, r, q⟩ => ?_) hpl he
  refine thn (hkw.run pos pins s2 σ H2 _ I2 q) fun ws s3 ⟨zs, H3, I3, rz, l1, l2, q2⟩ => ⟨I3.kIn, ?_⟩
  rw [hks]
  exact run_makeK M F hr hb hx I3 r rz l1 l2 q2
end
end WbO
namespace Wb
open PySem L2 WbMin WbS Lz WbO
abbrev sLoMade : Stmt := inClass (top 49) 7
structure MadA where
  (fMa : Addr)
  (dMa : FuncData)
structure MadF (K : PySem.W.Frag) (A : LA) (B : MadA) : Prop where
  F : Fun K "made" "Loop.made" sLoMade B.fMa B.dMa
def spLoMade (C T : Addr) : Sp := fun vs H Q _ => ∃ (w : Addr) (L : LD), vs = [.ref C, .ref w] ∧ L.Ok ∧ PyProof.Rows.sortedS (L.sg.map sOne) = true ∧ RowAt H w L ∧ ∀ (r : Addr) (H' : Hp), H r = none → Same H H' → LoopAt C T H' r L → Q (.ref r) H'
theorem rowP_dp {K : PySem.W.Frag} {H : Hp} {q : Addr} {L : LD} (h : RowAt H q L) : Dp K H (.ref q) (loopP L) := by
  obtain ⟨t, rr, u, y, as, bs, h0, ht, hrr, hT, hu, hU, hy⟩ := h
  exact loopP_dp ⟨ht, hrr, hT, hu, hU, hy⟩ h0
theorem RowAt.same {H H' : Hp} {q : Addr} {L : LD} (s : Same H H') : RowAt H q L → RowAt H' q L := fun ⟨t, rr, u, y, as, bs, h0, ht, hrr, hT, hu, hU, hy⟩ => ⟨t, rr, u, y, as, bs, s _ _ h0, s _ _ ht, s _ _ hrr, hT.same s, s _ _ hu, hU.same s, s _ _ hy⟩
section
variable {P : Program} {w : World} {K : PySem.W.Frag} {mg : Str → Option Value} {base : Heap} {A : LA} {B : MadA} {e : Addr}
theorem scMade : FnScope ["cls", "row", "signs", "states", "rows", "turns", "yes", "loop"] ["cls", "row"] (defScope sLoMade) := ⟨rfl, rfl, rfl, by decide +kernel, rfl, by decide +kernel, by decide +kernel⟩
set_option maxHeartbeats 0 in
theorem ok_lomade (MF : MadF K A B) (D : LoopF K mg A e) (Z : Free mg) : FnOk P w K mg base CX0 6 B.fMa B.dMa ["cls", "row"] (spLoMade A.C A.T) := by
  have GI : FnOk P w K mg base CX0 4 A.fI A.dI ["self", "signs", "states", "rows", "turns", "yes"] (spLoInit A.C A.T) := ok_loinit D Z
  have GW : FnOk P w K mg base CX0 1 A.fW A.dW ["self"] (spLoRow A.C) := ok_lorow D
  obtain ⟨its, kI⟩ := D.kI
  refine MF.F.ok scMade (fun vs H Q E h => ?_) (fun cdv A' outer s H vs Q E hr h => ?_)
  · obtain ⟨w, L, rfl, _⟩ := h
    rfl
  · obtain ⟨w, L, rfl, O, srt, RA, k⟩ := h
    have hr1 : Room 1 _ := hr.mono (by decide)
    have hr2 : Room 2 _ := hr.mono (by decide)
    refine ⟨_, pss_cons (ps_if (PW.pt (pw_or (pt_not (pt_val (pe_callB call_isi (by rfl) Z.isi (by decide +kernel) (pa_cons (pv 1) (pa_cons (pe_bltn (v := .ty "tuple") (u := .type "tuple") (by rfl) D.tup (by decide +kernel) rfl) pa_nil)))))
        (pw_or1 (pt_cmpR op_ne (pe_callB call_len_seq (by rfl) Z.len PySem.boot_len (pa_cons (pv 1) pa_nil)) pe_int (nomark _))))) (pss_one ps_never) pss_nil)
      (pss_cons (ps_asg (pv 1) (pg_tup (by rfl) (pgs_cons (pg_name (i := 2) scMade.nd rfl (.inl rfl)) (pgs_cons (pg_name (i := 3) scMade.nd rfl (.inl rfl)) (pgs_cons (pg_name (i := 4) scMade.nd rfl (.inl rfl)) (pgs_cons (pg_name (i := 5) scMade.nd rfl (.inl rfl)) (pgs_cons (pg_name (i := 6) scMade.nd rfl (.inl rfl)) pgs_nil)))))))
      (pss_cons (ps_try_thru0 (pss_one (ps_set (i := 7) scMade.nd rfl (.inl rfl) (pe_makeLK (i := 0) D.ML GI hr rfl (.inl rfl) kI pass0 (pa_cons (pv 2) (pa_cons (pv 3) (pa_cons (pv 4) (pa_cons (pv 5) pa_nil)))) (pk_cons (pv 6) pk_nil)))))
      (pss_cons (ps_if (pt_cmpR (op_neD hr.units) (pe_prop (pv 7) D.L.cl D.hW GW hr2 D.bW .nil pass0 rfl) (pv 1) (nomark _)) (pss_one ps_never) pss_nil)
      (pss_one (ps_ret (pv 7)))))), ?_⟩
    obtain ⟨t, rr, u, y, as, bs, h0, ht, hrr, hT, hu, hU, hy⟩ := id RA
    have pr : Prt L t rr u y as bs H := ⟨ht, hrr, hT, hu, hU, hy⟩
    refine ⟨_, rfl, _, _, .type "tuple", .type "tuple", true, rfl, .ty "tuple", .base (.tup h0), kit_ty (by decide +kernel), true, rfl, ?_⟩
    refine ⟨_, rfl, w, _, rfl, .inr (SqT.of h0), rfl, _, rfl, ?_⟩
    refine iteNS rfl ?_
    refine ⟨_, rfl, w, _, rfl, SqT.of h0, rfl, _, _, rfl, _, _, rfl, _, _, rfl, _, _, rfl, _, _, rfl, rfl, ?_⟩
    refine ⟨rfl, _, rfl, _, rfl, _, rfl, _, rfl, _, rfl, rfl, rfl, fun x dx hx hdx ne => ?_⟩
    have sm : Same H (L2.upd (L2.upd H dx (.own x)) x (.ins A.C dx [])) := Same.new' (Same.put (Same.refl H) hdx) hx
    refine ⟨H, x, dx, t, rr, u, y, as, bs, L, rfl, O, srt, pr.same sm, sm, hx, upd_same, fun H2 s2 LA0 => ⟨rfl, ?_⟩⟩
    obtain ⟨dx2, t2, rr2, u2, y2, tb, as2, bs2, g0, pr2, TA2⟩ := id LA0
    obtain ⟨m1, m2, m3, m4, m5, m6⟩ := lf_look (S L.sg) t2 rr2 u2 y2 tb
    refine ⟨_, rfl, x, dx2, _, rfl, g0, x, dx2, t2, rr2, u2, y2, _, _, rfl, g0, m1, m2, m3, m4, m5, fun q hq => ⟨_, rfl, ?_⟩⟩
    have s3 := Same.put (o := .tup [.str (S L.sg), .ref t2, .ref rr2, .ref u2, .ref y2]) (Same.refl H2) hq
    have hq3 : (L2.upd H2 q (.tup [.str (S L.sg), .ref t2, .ref rr2, .ref u2, .ref y2])) q = some (.tup [.str (S L.sg), .ref t2, .ref rr2, .ref u2, .ref y2]) := upd_same
    generalize L2.upd H2 q (.tup [.str (S L.sg), .ref t2, .ref rr2, .ref u2, .ref y2]) = H3 at s3 hq3 ⊢
    refine ⟨_, _, loopP_dp (pr2.same s3) hq3, rowP_dp (RA.same (s2.trans s3)), loopP_shaped O, loopP_shaped O, ?_⟩
    rw [loopP_eqv O]
    exact ⟨_, rfl, iteF ⟨_, rfl, k x H3 hx (s2.trans s3) (LA0.same s3)⟩⟩
end
end Wb
/-! a loop made of three values: turns and yes left out; all five by name -/
namespace Wb
open PySem L2 WbMin WbS Lz
def spChYe0 (K : PySem.W.Frag) : Sp := fun vs H Q _ => ∃ (y t : Addr) (st : List Str), vs = [.ref y, .ref t] ∧ E0 K y ∧ H t = some (.tup (st.map V.str)) ∧ ∀ H', Same H H' → Q .non H'
def spOrYe0 (K : PySem.W.Frag) : Sp := fun vs H Q _ => ∃ (y t : Addr) (st : List Str), vs = [.ref y, .ref t] ∧ E0 K y ∧ H t = some (.tup (st.map V.str)) ∧ st.length ≤ 6 ∧
  ∀ r H', H r = none → Same H H' → H' r = some (.tup ([] : List V)) → Q (.ref r) H'
structure Prt00 (K : PySem.W.Frag) (st : List Str) (rw : List Row) (t rr u y : Addr) (as : List Addr) (H : Hp) : Prop where
  ht : H t = some (.tup (st.map V.str))
  hr : H rr = some (.tup (as.map V.ref))
  hT : Tups H as (rw.map Row.v)
  hu : E0 K u
  hy : E0 K y
section
variable {K : PySem.W.Frag} {st : List Str} {rw : List Row} {t rr u y : Addr} {as : List Addr} {H H' : Hp}
theorem Prt00.same (s : Same H H') (h : Prt00 K st rw t rr u y as H) : Prt00 K st rw t rr u y as H' := ⟨s _ _ h.ht, s _ _ h.hr, h.hT.same s, h.hu, h.hy⟩
theorem Prt00.but {p : Addr} {o : HO} (no : ∀ x, o ≠ .tup x) (hp : H p = some o) (s : But p H H') (h : Prt00 K st rw t rr u y as H) : Prt00 K st rw t rr u y as H' :=
  ⟨s _ _ (ne_of h.ht hp fun e => no _ e.symm) h.ht, s _ _ (ne_of h.hr hp fun e => no _ e.symm) h.hr, h.hT.but no hp s, h.hu, h.hy⟩
end
def spLoInit00 (K : PySem.W.Frag) (C T : Addr) : Sp := fun vs H Q _ => ∃ (H0 : Hp) (r dx t rr u y : Addr) (as : List Addr) (L : LD) (sg0 : List Nat) (rw : List Row), vs = [.ref r, .str (S sg0), .ref t, .ref rr, .ref u, .ref y] ∧ L.Ok ∧ PyProof.Rows.sortedS (L.sg.map sOne) = true ∧ Told L sg0 rw [] [] ∧ Prt00 K L.st rw t rr u y as H ∧ Same H0 H ∧ H0 r = none ∧ H r = some (.ins C dx []) ∧
  ∀ H' : Hp, Same H0 H' → LoopAt C T H' r L → Q .non H'
/-- the loop whose turns change nothing, without yes states -/
def LD.blank (L : LD) : LD := { L with tn := fun i => i, ta := fun _ => 0, ys := fun _ => false }
theorem LD.Ok.blank {L : LD} (O : L.Ok) : L.blank.Ok := ⟨O.sgs, O.sts, O.nxlt, fun _ h => h⟩
theorem blank_yes (L : LD) : L.blank.yes = [] := by
  show ((List.range L.n).filter fun _ => false).map L.nm = []
  rw [List.filter_eq_nil_iff.mpr fun _ _ => Bool.false_ne_true] <;> rfl
theorem blank_told {L : LD} {sg0 : List Nat} {rw : List Row} (p : sg0.Perm L.sg) (q : rw.Perm L.rows) : Told L.blank sg0 rw [] [] := by
  refine ⟨p, q, List.nodup_nil, (fun _ h => nomatch h), ?_, Nat.zero_le _, List.nodup_nil, (fun _ h => nomatch h), ?_, Nat.zero_le _⟩
  · show L.st.map (turnOf []) = L.blank.turns
    rw [st_is L, List.map_map]
    rfl
  · rw [blank_yes]
    exact List.filter_eq_nil_iff.mpr fun _ _ => by simp
section
variable {P : Program} {w : World} {K : PySem.W.Frag} {mg : Str → Option Value} {base : Heap} {f fR fS fI fF : Addr} {fd dR dS dI dF : FuncData}
def spFirst0 (K : PySem.W.Frag) : Sp := fun vs H Q _ => ∃ (t L : Addr), vs = [.ref t, .ref L] ∧ E0 K t ∧ ∀ H', Same H H' → Q .non H'
theorem ok_first0 (F : Fun K "first_wrong" "first_wrong" sFirst f fd) (mE : mg "enumerate" = none) : FnOk P w K mg base CX0 1 f fd ["values", "right"] (spFirst0 K) := by
  refine F.ok scFw (fun vs H Q E h => ?_) (fun cdv A outer s H vs Q E hr h => ?_)
  · obtain ⟨t, L, rfl, _⟩ := h
    rfl
  · obtain ⟨t, L, rfl, ht, k⟩ := h
    refine ⟨_, pss_cons (ps_for PassesOwn.never rfl (pi_enumT (by rfl) mE (pa_cons (pv 0) pa_nil)) (pg_tup (by rfl) (pgs_cons (pg_name (i := 2) scFw.nd rfl (.inl rfl)) (pgs_cons (pg_name (i := 3) scFw.nd rfl (.inl rfl)) pgs_nil)))
        (pss_one (ps_if (PW.pt (pw_or (pt_not (pt_val (pe_ix ix_list (pv 1) (pv 2) (fun _ _ => rfl)))) (pw_or1 (pt_cmpR op_in_seq (pv 3) (pe_slice sl_tup (pv 0) po_none (po_some (pv 2))) (by rfl))))) (pss_one ps_never) pss_nil)))
      (pss_one (ps_ret pe_non)), ?_⟩
    refine ⟨_, rfl, t, [], rfl, ht.sq _, for_it walk_enumT (fun i σ H' => σ = [some (.ref t), some (.ref L), none, none] ∧ Same H H') ⟨rfl, Same.refl H⟩ (fun _ _ _ _ h => ht.sq _) ?_ ?_⟩
    · rintro i x σ H2 H3 hi
      exact absurd hi (Nat.not_lt_zero _)
    · rintro σ H2 ⟨rfl, s2⟩
      exact k H2 s2
theorem ok_chye0 (F : Fun K "check_yes" "check_yes" sChYe f fd) (Z : Free mg) (mT : mg "tuple" = none) (mE : mg "enumerate" = none) (DS : Def K mg "is_state_of" sStateOf ["value", "states"] fS dS) (DF : Def K mg "first_wrong" sFirst ["values", "right"] fF dF) : FnOk P w K mg base CX0 2 f fd ["yes", "states"] (spChYe0 K) := by
  have GS : FnOk P w K mg base CX0 1 fS dS ["value", "states"] spStateOf := ok_stateof DS.F Z
  have GF : FnOk P w K mg base CX0 1 fF dF ["values", "right"] (spFirst0 K) := ok_first0 DF.F mE
  refine F.ok scCY (fun vs H Q E h => ?_) (fun cdv A outer s H vs Q E hr h => ?_)
  · obtain ⟨y, t, st, rfl, _⟩ := h
    rfl
  · obtain ⟨y, t, st, rfl, hy, ht, k⟩ := h
    refine ⟨_, pss_cons (ps_if (pt_not (pt_val (pe_callB call_isi (by rfl) Z.isi (by decide +kernel) (pa_cons (pv 0) (pa_cons (pe_bltn (v := .ty "tuple") (u := .type "tuple") (by rfl) mT (by decide +kernel) rfl) pa_nil))))) (pss_one ps_never) pss_nil)
      (pss_cons (ps_set (i := 2) scCY.nd rfl (.inl rfl) (pe_call GF hr rfl DF.g DF.kp DF.b .nil pass0 (pa_cons (pv 0) (pa_cons
          (pe_lc (own := [("state", 3)]) (g := gName 3) (tt := tYes) rfl scCY.nd (pi_tup (pv 0)) (blkOk_by (N := ["yes", "states", "wrong", "state"]) (sc := defScope sChYe) (by decide +kernel)) (fun _ _ _ _ _ => pg_name (i := 3) scCY.nd rfl (.inl rfl)) (fun _ _ _ _ _ => pts_nil)
            (fun _ _ _ _ _ => pe_call GS hr rfl DS.g DS.kp DS.b .nil pass0 (pa_cons (pv 3) (pa_cons (pv 1) pa_nil)))) pa_nil))))
      (pss_one (ps_if (pt_cmpR op_notN (pv 2) pe_non (nomark _)) (pss_one ps_never) pss_nil))), ?_⟩
    refine ⟨_, rfl, _, _, .type "tuple", .type "tuple", true, rfl, .ty "tuple", hy.ty _, kit_ty (by decide +kernel), true, rfl, ?_⟩
    refine ⟨_, rfl, _, rfl, y, rfl, ⟨_, hy.sq _⟩, fun D hD => lc_it (walk_tup (xs := [])) (fun i H3 => Same H H3) (Same.put (Same.refl H) hD) (fun _ _ _ h => hy.sq _) ?_ ?_⟩
    · rintro i x H3 H3' hi
      exact absurd hi (Nat.not_lt_zero _)
    · rintro H3 h2
      refine ⟨y, D, rfl, hy, fun H4 s4 => ?_⟩
      refine ⟨_, rfl, rfl, _, rfl, ?_⟩
      show if (!decide (V.non = V.non)) = true then _ else _
      rw [decide_eq_true rfl]
      exact iteF (k H4 (h2.trans s4))
theorem ok_orye0 (F : Fun K "ordered_yes" "ordered_yes" sOrYe f fd) (mT : mg "tuple" = none) : FnOk P w K mg base CX0 1 f fd ["yes", "states"] (spOrYe0 K) := by
  refine F.ok scOY (fun vs H Q E h => ?_) (fun cdv A outer s H vs Q E hr h => ?_)
  · obtain ⟨y, t, st, rfl, _⟩ := h
    rfl
  · obtain ⟨y, t, st, rfl, hy, ht, few, k⟩ := h
    refine ⟨_, pss_one (ps_ret (pe_callTy call_tuple_of (by rfl) mT (by decide +kernel) (pa_cons
      (pe_lc (own := [("state", 2)]) (g := gName 2) rfl scOY.nd (pi_tup (pv 1)) (blkOk_by (N := NOY) (sc := defScope sOrYe) (by decide +kernel)) (fun _ _ _ _ _ => pg_name (i := 2) scOY.nd rfl (.inl rfl)) (fun _ _ _ _ _ => pts_one (pt_cmpR (show OpR _ _ (rIn K false) from op_in_seq) (pv 2) (pv 0) (by rfl)))
        (fun _ _ _ _ _ => pv 2)) pa_nil))), ?_⟩
    refine ⟨_, rfl, t, rfl, ⟨_, SqT.of ht⟩, fun D hD => lc_it (walk_tup (xs := st.map V.str)) (fun i H3 => H3 D = some (.lst []) ∧ Same H H3) ⟨upd_same, Same.put (Same.refl H) hD⟩ (fun _ _ _ h => SqT.of (h.2 _ _ ht)) ?_ ?_⟩
    · rintro i x H3 H3' hi ⟨h1, h2⟩ ⟨rfl, hx⟩
      rw [List.getElem?_map] at hx
      obtain ⟨z, hz, rfl⟩ := Option.map_eq_some_iff.mp hx
      refine ⟨rfl, _, rfl, _, rfl, y, [], rfl, .inr (hy.sq _), rfl, rfl, _, rfl, ?_⟩
      rw [show inV (.str z) [] = false from rfl]
      exact iteF ⟨h1, h2⟩
    · rintro H3 ⟨h1, h2⟩
      exact ⟨D, _, rfl, .inl ⟨SqL.of h1, fun l hl => k l _ (none_of_same h2 hl) (Same.put h2 hl) upd_same⟩⟩
end
section
variable {P : Program} {w : World} {K : PySem.W.Frag} {mg : Str → Option Value} {base : Heap} {A : LA} {e : Addr}
set_option maxHeartbeats 0 in
theorem ok_loinit00 (D : LoopF K mg A e) (Z : Free mg) : FnOk P w K mg base CX0 4 A.fI A.dI ["self", "signs", "states", "rows", "turns", "yes"] (spLoInit00 K A.C A.T) := by
  obtain ⟨t600, g600⟩ := D.w600
  obtain ⟨t4, g4⟩ := D.w4
  obtain ⟨t8, g8⟩ := D.w8
  obtain ⟨t6, g6⟩ := D.w6
  have GS : FnOk P w K mg base CX0 2 A.signs A.dsigns ["value"] spIsSigns := ok_issigns D.signs.F Z D.isword t600 g600 t4 g4
  have G1 : FnOk P w K mg base CX0 2 A.chst A.dchst ["states"] spChSt := ok_chst D.chst.F Z D.tup D.enum t8 g8 t6 g6 D.isname D.first
  have G2 : FnOk P w K mg base CX0 3 A.chro A.dchro ["rows", "signs", "states"] spChRo := ok_chro D.chro.F Z D.tup D.enum D.zip D.rowof D.stateof D.signof D.isint D.first
  have G3 : FnOk P w K mg base CX0 3 A.chtu A.dchtu ["turns", "states"] (spChTu0 K) := ok_chtu0 D.chtu.F Z D.tup D.enum D.zip D.turnof D.stateof D.isint D.first
  have G4 : FnOk P w K mg base CX0 2 A.chye A.dchye ["yes", "states"] (spChYe0 K) := ok_chye0 D.chye.F Z D.tup D.enum D.stateof D.first
  have O1 : FnOk P w K mg base CX0 1 A.orro A.dorro ["rows", "signs", "states"] spOrRo := ok_orro D.orro.F D.tup
  have O2 : FnOk P w K mg base CX0 1 A.ortu A.dortu ["turns", "states"] (spOrTu0 K) := ok_ortu0 D.ortu.F D.tup
  have O3 : FnOk P w K mg base CX0 1 A.orye A.dorye ["yes", "states"] (spOrYe0 K) := ok_orye0 D.orye.F D.tup
  have GT : FnOk P w K mg base CX0 1 A.tI A.etI ["self", "row"] (spTaInit A.T) := ok_tainit D.TI D.T Z D.tup D.enum
  have GW : FnOk P w K mg base CX0 1 A.fW A.dW ["self"] (spLoRow A.C) := ok_lorow D
  obtain ⟨_, FI⟩ := D.FI
  refine FunD_ok' FI scLI (fun vs H Q E h => ?_) (fun cdv A' outer s H vs Q E hr h => ?_)
  · obtain ⟨H0, r, dx, t, rr, u, y, as, L, sg0, rw, rfl, _⟩ := h
    rfl
  · obtain ⟨H0, r, dx, t, rr, u, y, as, L, sg0, rw, rfl, O, srtL, TL, pr, s0, r0, hp, k⟩ := h
    have hr1 : Room 1 _ := hr.mono (by decide)
    have hr2 : Room 2 _ := hr.mono (by decide)
    refine ⟨_, pss_cons (ps_if (pt_not (pt_val (pe_call GS hr2 rfl D.signs.g D.signs.kp D.signs.b .nil pass0 (pa_cons (pv 1) pa_nil)))) (pss_one ps_never) pss_nil)
      (pss_cons (ps_expr (pe_call G1 hr2 rfl D.chst.g D.chst.kp D.chst.b .nil pass0 (pa_cons (pv 2) pa_nil)))
      (pss_cons (ps_expr (pe_call G2 hr rfl D.chro.g D.chro.kp D.chro.b .nil pass0 (pa_cons (pv 3) (pa_cons (pv 1) (pa_cons (pv 2) pa_nil)))))
      (pss_cons (ps_expr (pe_call G3 hr rfl D.chtu.g D.chtu.kp D.chtu.b .nil pass0 (pa_cons (pv 4) (pa_cons (pv 2) pa_nil))))
      (pss_cons (ps_expr (pe_call G4 hr2 rfl D.chye.g D.chye.kp D.chye.b .nil pass0 (pa_cons (pv 5) (pa_cons (pv 2) pa_nil))))
      (pss_cons (ps_fld (pv 0) (pe_join pe_str (pe_callB (call_sortedTx rfl) (by rfl) D.sort (by decide +kernel) (pa_cons (pv 1) pa_nil))) rfl)
      (pss_cons (ps_fld (pv 0) (pv 2) rfl)
      (pss_cons (ps_fld (pv 0) (pe_call O1 hr1 rfl D.orro.g D.orro.kp D.orro.b .nil pass0 (pa_cons (pv 3) (pa_cons (pe_fld (pv 0) rfl) (pa_cons (pv 2) pa_nil)))) rfl)
      (pss_cons (ps_fld (pv 0) (pe_call O2 hr1 rfl D.ortu.g D.ortu.kp D.ortu.b .nil pass0 (pa_cons (pv 4) (pa_cons (pv 2) pa_nil))) rfl)
      (pss_cons (ps_fld (pv 0) (pe_call O3 hr1 rfl D.orye.g D.orye.kp D.orye.b .nil pass0 (pa_cons (pv 5) (pa_cons (pv 2) pa_nil))) rfl)
      (pss_one (ps_fld (pv 0) (pe_make D.MT GT hr2 rfl D.gT D.bTI .nil pass0 (pa_cons (pe_prop (pv 0) D.L.cl D.hW GW hr2 D.bW .nil pass0 rfl) pa_nil)) rfl))))))))))), ?_⟩
    have sf := O.sts.few
    have sgf := O.sgs.few
    have few := rows_few O
    have lrw : rw.length = L.rows.length := TL.rwP.length_eq
    have lenA : as.length = rw.length := by rw [pr.hT.length, List.length_map]
    have tl := turns_length L
    have n6 : L.n ≤ 6 := sf
    have lsg : sg0.length = L.sg.length := TL.sgP.length_eq
    have pos := O.sgs.pos
    have G0 : Sgs sg0 := ⟨fun c hc => O.sgs.low c (TL.sgP.mem_iff.mp hc), TL.sgP.nodup_iff.mpr O.sgs.nd, by omega, by omega⟩
    have tfew := TL.tfew
    have yfew := TL.yfew
    obtain ⟨bs0, pT, pk⟩ := picks pr.hT L.rows fun x hx => TL.rwP.mem_iff.mpr hx
    have lbs : bs0.length = L.rows.length := by rw [pT.length, List.length_map]
    have knd : (rw.map Row.k).Nodup := (TL.rwP.map Row.k).nodup_iff.mpr (rows_key_nd O)
    have RB : RowsBy L.st L.sg (rw.map Row.k) as bs0 := by
      refine ⟨by rw [lbs, rows_length] <;> rfl, fun i j z c hz hc => ?_⟩
      have hi : i < L.n := (List.getElem?_eq_some_iff.mp hz).1
      have e : L.nm i = z := Option.some.inj ((nm_at hi).symm.trans hz)
      obtain ⟨m, a, m1, m2, m3⟩ := pk _ _ (rows_at hi hc)
      refine ⟨m, a, ?_, m2, m3⟩
      rw [List.getElem?_map, m1, ← e] <;> rfl
    refine ⟨_, rfl, sg0, rfl, G0, fun H1 s1 => ⟨true, rfl, ?_⟩⟩
    have p1 := pr.same s1
    refine ⟨_, rfl, t, L.st, rfl, p1.ht, O.sts, fun H2 s2 => ?_⟩
    have p2 := p1.same s2
    refine ⟨_, rfl, _, rfl, _, rfl, rr, t, sg0, as, rw, L.st, rfl, p2.hr, p2.hT, p2.ht, ?_, knd, ?_, by omega, sf, ?_, fun H3 s3 => ?_⟩
    · intro ρ hρ
      obtain ⟨i, c, hi, hc, rfl⟩ := rows_mem (TL.rwP.mem_iff.mp hρ)
      exact ⟨nm_mem hi, TL.sgP.mem_iff.mpr hc, nm_mem (O.nxlt i c hi hc)⟩
    · intro ρ hρ
      obtain ⟨i, c, hi, hc, rfl⟩ := rows_mem (TL.rwP.mem_iff.mp hρ)
      exact ⟨ok_st O (nm_mem hi), ok_sign O hc⟩
    · rw [lrw, rows_length, lsg, Nat.mul_comm] <;> rfl
    have p3 := p2.same s3
    refine ⟨_, rfl, _, rfl, u, t, L.st, rfl, p3.hu, p3.ht, fun H4 s4 => ?_⟩
    have p4 := p3.same s4
    refine ⟨_, rfl, _, rfl, y, t, L.st, rfl, p4.hy, p4.ht, fun H5 s5 => ?_⟩
    have s05 : Same H H5 := (((s1.trans s2).trans s3).trans s4).trans s5
    have S5 : Same H0 H5 := s0.trans s05
    have hr5 : H5 r = some (.ins A.C dx []) := s05 _ _ hp
    clear p1 p2 p3 p4 s1 s2 s3 s4 s5
    -- signs
    refine ⟨⟨_, rfl⟩, _, rfl, S sg0, rfl, by rw [S_len]; omega, fun ys p perm srt hp' => ?_⟩
    rw [S_cps] at perm
    obtain ⟨sg, hsg, rfl⟩ := perm_codes perm
    obtain rfl : sg = L.sg := sg_same srt srtL (hsg.trans TL.sgP) (.refl _)
    have nrp : r ≠ p := ne_of_none hr5 hp'
    refine ⟨_, p, L.sg.map sOne, rfl, rfl, .inl (SqL.of upd_same), ?_, ?_⟩
    · have e1 : ((L.sg.map sOne).map fun x => x.length) = List.replicate L.sg.length 1 := by
        rw [List.map_map]
        exact List.map_eq_replicate_iff.mpr fun _ _ => rfl
      have e2 : (Str.ofString "").length = 0 := by decide +kernel
      rw [e1, e2, List.sum_replicate_nat]
      omega
    have ej : Txt.join (Str.ofString "") (L.sg.map sOne) = S L.sg := join_one pos
    rw [ej]
    refine ⟨_, rfl, r, A.C, dx, _, rfl, (upd_ne nrp).trans hr5, D.L.cl, D.L.n1, (by show 0 < 1000; decide), ?_⟩
    have B6 : But r H (L2.upd (L2.upd H5 p (.lst ((L.sg.map sOne).map V.str))) r (.ins A.C dx (putF "_signs" (.str (S L.sg)) []))) := But.here ((But.of s05).upd hp')
    have S6 : Same H0 (L2.upd (L2.upd H5 p (.lst ((L.sg.map sOne).map V.str))) r (.ins A.C dx (putF "_signs" (.str (S L.sg)) []))) := Same.new' (Same.put S5 hp') r0
    have hr6 : (L2.upd (L2.upd H5 p (.lst ((L.sg.map sOne).map V.str))) r (.ins A.C dx (putF "_signs" (.str (S L.sg)) []))) r = some (.ins A.C dx (putF "_signs" (.str (S L.sg)) [])) := upd_same
    generalize L2.upd (L2.upd H5 p (.lst ((L.sg.map sOne).map V.str))) r (.ins A.C dx (putF "_signs" (.str (S L.sg)) [])) = H6 at B6 S6 hr6 ⊢
    -- states
    refine ⟨_, rfl, _, rfl, r, A.C, dx, _, rfl, hr6, D.L.cl, D.L.n2, (by show 1 < 1000; decide), ?_⟩
    have B7 : But r H (L2.upd H6 r (.ins A.C dx (putF "_states" (.ref t) (putF "_signs" (.str (S L.sg)) [])))) := But.here B6
    have S7 : Same H0 (L2.upd H6 r (.ins A.C dx (putF "_states" (.ref t) (putF "_signs" (.str (S L.sg)) [])))) := Same.new' S6 r0
    have hr7 : (L2.upd H6 r (.ins A.C dx (putF "_states" (.ref t) (putF "_signs" (.str (S L.sg)) [])))) r = some (.ins A.C dx (putF "_states" (.ref t) (putF "_signs" (.str (S L.sg)) []))) := upd_same
    generalize L2.upd H6 r (.ins A.C dx (putF "_states" (.ref t) (putF "_signs" (.str (S L.sg)) []))) = H7 at B7 S7 hr7 ⊢
    have p7 : Prt00 K L.st rw t rr u y as H7 := pr.but (fun x => by intro q; cases q) hp B7
    -- rows
    refine ⟨_, rfl, _, rfl, r, A.C, dx, _, _, rfl, hr7, D.L.cl, D.L.n1, (by rw [lookup_putF, if_neg (by decide +kernel), lookup_putF, if_pos rfl]), _, rfl, rr, t, L.sg, as, bs0, rw, L.st, rfl, p7.hr, p7.hT, p7.ht, knd, by omega, RB, by omega, fun rr' H8 n8 s8 hrr => ?_⟩
    refine ⟨_, rfl, r, A.C, dx, _, rfl, s8 _ _ hr7, D.L.cl, D.L.n3, (by show 2 < 1000; decide), ?_⟩
    have nrr : rr' ≠ r := ne_of_none' hr7 n8
    generalize e8 : putF "_rows" (.ref rr') (putF "_states" (.ref t) (putF "_signs" (.str (S L.sg)) [])) = fs8
    have B8 : But r H (L2.upd H8 r (.ins A.C dx fs8)) := But.here (B7.trans (But.of s8))
    have S8 : Same H0 (L2.upd H8 r (.ins A.C dx fs8)) := Same.new' (S7.trans s8) r0
    have hr8 : (L2.upd H8 r (.ins A.C dx fs8)) r = some (.ins A.C dx fs8) := upd_same
    have hrr8 : (L2.upd H8 r (.ins A.C dx fs8)) rr' = some (.tup (bs0.map V.ref)) := (upd_ne nrr).trans hrr
    generalize L2.upd H8 r (.ins A.C dx fs8) = H9 at B8 S8 hr8 hrr8 ⊢
    have p8 : Prt00 K L.st rw t rr u y as H9 := pr.but (fun x => by intro q; cases q) hp B8
    -- turns
    refine ⟨_, rfl, _, rfl, u, t, L.st, rfl, p8.hu, p8.ht, sf, fun u' bs' H10 n10 s10 hu' hU' => ?_⟩
    rw [TL.tnE] at hU'
    refine ⟨_, rfl, r, A.C, dx, _, rfl, s10 _ _ hr8, D.L.cl, D.L.n4, (by rw [← e8]; show 3 < 1000; decide), ?_⟩
    have nuu : u' ≠ r := ne_of_none' hr8 n10
    generalize e10 : putF "_turns" (.ref u') fs8 = fs10
    have B10 : But r H (L2.upd H10 r (.ins A.C dx fs10)) := But.here (B8.trans (But.of s10))
    have S10 : Same H0 (L2.upd H10 r (.ins A.C dx fs10)) := Same.new' (S8.trans s10) r0
    have hr10 : (L2.upd H10 r (.ins A.C dx fs10)) r = some (.ins A.C dx fs10) := upd_same
    have hrr10 : (L2.upd H10 r (.ins A.C dx fs10)) rr' = some (.tup (bs0.map V.ref)) := (upd_ne nrr).trans (s10 _ _ hrr8)
    have hu10 : (L2.upd H10 r (.ins A.C dx fs10)) u' = some (.tup (bs'.map V.ref)) := (upd_ne nuu).trans hu'
    have hU10 : Tups (L2.upd H10 r (.ins A.C dx fs10)) bs' (L.turns.map Trn.v) := Tups.but (fun x => by intro q; cases q) (s10 _ _ hr8) (But.here (But.refl r _)) hU'
    generalize L2.upd H10 r (.ins A.C dx fs10) = H11 at B10 S10 hr10 hrr10 hu10 hU10 ⊢
    have p10 : Prt00 K L.st rw t rr u y as H11 := pr.but (fun x => by intro q; cases q) hp B10
    -- yes
    refine ⟨_, rfl, _, rfl, y, t, L.st, rfl, p10.hy, p10.ht, sf, fun y' H12 n12 s12 hy' => ?_⟩
    rw [show ([] : List V) = L.yes.map V.str by rw [← TL.yeE, List.filter_eq_nil_iff.mpr fun _ _ => by simp] <;> rfl] at hy'
    refine ⟨_, rfl, r, A.C, dx, _, rfl, s12 _ _ hr10, D.L.cl, D.L.n5, (by rw [← e10, ← e8]; show 4 < 1000; decide), ?_⟩
    have nyy : y' ≠ r := ne_of_none' hr10 n12
    generalize e12 : putF "_yes" (.ref y') fs10 = fs12
    have B12 : But r H (L2.upd H12 r (.ins A.C dx fs12)) := But.here (B10.trans (But.of s12))
    have S12 : Same H0 (L2.upd H12 r (.ins A.C dx fs12)) := Same.new' (S10.trans s12) r0
    have hr12 : (L2.upd H12 r (.ins A.C dx fs12)) r = some (.ins A.C dx fs12) := upd_same
    have hy12 : (L2.upd H12 r (.ins A.C dx fs12)) y' = some (.tup (L.yes.map V.str)) := (upd_ne nyy).trans hy'
    have hrr12 : (L2.upd H12 r (.ins A.C dx fs12)) rr' = some (.tup (bs0.map V.ref)) := (upd_ne nrr).trans (s12 _ _ hrr10)
    have hu12 : (L2.upd H12 r (.ins A.C dx fs12)) u' = some (.tup (bs'.map V.ref)) := (upd_ne nuu).trans (s12 _ _ hu10)
    have hU12 : Tups (L2.upd H12 r (.ins A.C dx fs12)) bs' (L.turns.map Trn.v) := Tups.but (fun x => by intro q; cases q) (s12 _ _ hr10) (But.here (But.refl r _)) (hU10.same s12)
    generalize L2.upd H12 r (.ins A.C dx fs12) = H13 at B12 S12 hr12 hy12 hrr12 hu12 hU12 ⊢
    have p12 : Prt00 K L.st rw t rr u y as H13 := pr.but (fun x => by intro q; cases q) hp B12
    have q12 : Prt L t rr' u' y' bs0 bs' H13 := ⟨p12.ht, hrr12, pT.but (fun x => by intro q; cases q) hp B12, hu12, hU12, hy12⟩
    -- the table
    have look : fs12.lookup ("_signs" : Str) = some (.str (S L.sg)) ∧ fs12.lookup ("_states" : Str) = some (.ref t) ∧ fs12.lookup ("_rows" : Str) = some (.ref rr') ∧ fs12.lookup ("_turns" : Str) = some (.ref u') ∧ fs12.lookup ("_yes" : Str) = some (.ref y') := by
      rw [← e12, ← e10, ← e8]
      refine ⟨?_, ?_, ?_, ?_, ?_⟩ <;> repeat (first | rw [lookup_putF, if_neg (by decide +kernel)] | rw [lookup_putF, if_pos rfl])
    obtain ⟨k1, k2, k3, k4, k5⟩ := look
    refine ⟨_, rfl, r, dx, _, rfl, hr12, r, dx, t, rr', u', y', _, _, rfl, hr12, k1, k2, k3, k4, k5, fun q hq tb dxt htb hdx ne => ?_⟩
    have sq := Same.put (o := .tup [.str (S L.sg), .ref t, .ref rr', .ref u', .ref y']) (Same.refl H13) hq
    have hq14 : (L2.upd H13 q (.tup [.str (S L.sg), .ref t, .ref rr', .ref u', .ref y'])) q = some (.tup [.str (S L.sg), .ref t, .ref rr', .ref u', .ref y']) := upd_same
    generalize L2.upd H13 q (.tup [.str (S L.sg), .ref t, .ref rr', .ref u', .ref y']) = H14 at sq hq14 htb hdx ⊢
    have sm : Same H14 (L2.upd (L2.upd H14 dxt (.own tb)) tb (.ins A.T dxt [])) := Same.new' (Same.new' (Same.refl H14) hdx) htb
    refine ⟨H14, tb, dxt, q, L, rfl, O, ((q12.same sq).same sm).row (sm _ _ hq14), sm, htb, upd_same, fun H15 s15 TA => ⟨rfl, ?_⟩⟩
    have s16 := sq.trans s15
    have ntb : tb ≠ r := ne_of_none' (sq _ _ hr12) htb
    refine ⟨_, rfl, r, A.C, dx, _, rfl, s16 _ _ hr12, D.L.cl, D.L.n6, (by rw [← e12, ← e10, ← e8]; show 5 < 1000; decide), ?_⟩
    have hr16 := s16 _ _ hr12
    refine k _ (Same.new' (S12.trans s16) r0) ⟨dx, t, rr', u', y', tb, bs0, bs', ?_, ?_, ?_⟩
    · rw [upd_same, ← e12, ← e10, ← e8] <;> rfl
    · exact (q12.same s16).but (o := .ins A.C dx fs12) (fun x => by intro q; cases q) hr16 (But.here (But.refl r _))
    · exact TA.but ntb hr16 (But.here (But.refl r _))

end
end Wb
/-! things of any kind shuffled: a text, a tuple, a list -/
namespace WbT
open PySem PySem.Spec PyProof.Rows L2
section
variable {X : Cx}
theorem vals_signs : ∀ (l : List Nat) (us : List Value), us.length = l.length → (∀ (j : Nat) (v : Value), us[j]? = some v → ∃ c t, l[j]? = some c ∧ v = Value.str ⟨#[c]⟩ t) → Vals (l.map fun c => V.str ⟨#[c]⟩) us
  | [], [], _, _ => .nil
  | [], _ :: _, h, _ => by cases h
  | _ :: _, [], h, _ => by cases h
  | c :: l, u :: us, h, k => by
    obtain ⟨c', t, e1, e2⟩ := k 0 u rfl
    cases e1
    exact .cons ⟨t, e2⟩ (vals_signs l us (Nat.succ.inj h) fun j v q => k (j + 1) v q)
/-- list(z) of a text -/
theorem call_listS (hc : X.calm = true) : CallR X (.type "list") (fun xs H Q => ∃ z : Str, xs = [.str z] ∧ z.length ≤ sizeLine ∧ ∀ p, H p = none → Q (.ref p) (upd H p (.lst (z.cps.toList.map fun c => V.str ⟨#[c]⟩)))) := by
  intro pins s σ H xs us Q I r h
  obtain ⟨z, rfl, fits, q⟩ := h
  obtain ⟨u, rfl, t, rfl⟩ := vals1 r
  refine call_list_str (hn := fits) (I.ok.hd hc) z t fun h' tk acc c kept new items => ?_
  have rel : Vals (z.cps.toList.map fun c => V.str ⟨#[c]⟩) acc.toList := vals_signs _ _ (by rw [Array.length_toList, Array.length_toList]; exact items.1) fun j v e => by
    obtain ⟨c, u, e1, e2⟩ := items.2 j v (by rw [← Array.getElem?_toList]; exact e)
    exact ⟨c, u, by rw [Array.getElem?_toList]; exact e1, e2⟩
  have fits' : (z.cps.toList.map fun c => V.str ⟨#[c]⟩).length ≤ sizeLine := by rw [List.length_map, Array.length_toList]; exact fits
  exact ⟨.ref s.heap.objs.size, _, I.laid (t' := tk) kept (Nat.le_refl _) (show ObjOk X.prog X.w _ h' _ (.lst _) from ⟨fits', acc.toList, c, rel, new⟩), rfl, q _ (I.hok.fresh (Nat.le_refl _))⟩
end
end WbT
namespace Wb
open PySem L2 WbMin WbS Lz WbO WbT
abbrev sShuf : Stmt := top 56
theorem seq_nat {i n : Nat} (h : i < n) : seqIndex? (i : Int) n = some i := by
  unfold seqIndex?
  have h0 : ¬ ((i : Int) < 0) := by omega
  have h1 : ((i : Int) < (n : Int)) := by omega
  simp [h0, h1]
theorem perm_erase {α : Type} : ∀ {l : List α} {i : Nat} {x : α}, l[i]? = some x → (x :: l.eraseIdx i).Perm l
  | [], _, _, h => by cases h
  | y :: l, 0, x, h => by cases h; exact .refl _
  | y :: l, i + 1, x, h => by
    have ih := perm_erase (l := l) (i := i) h
    show (x :: y :: l.eraseIdx i).Perm (y :: l)
    exact (List.Perm.swap y x _).trans (ih.cons y)
/-- what stands at a text, a tuple, a list -/
inductive Its (H : Hp) : V → List V → Prop
  | str (l : List Nat) : Its H (.str (S l)) (l.map vOne)
  | tup {a : Addr} {xs : List V} (h : H a = some (.tup xs)) : Its H (.ref a) xs
  | lst {a : Addr} {xs : List V} (h : H a = some (.lst xs)) (n : ∀ x y z : Int, xs ≠ [.int x, .int y, .int z]) : Its H (.ref a) xs
theorem Its.but {H H' : Hp} {p : Addr} (hp : PoolAt H p) (b : But p H H') {v : V} {xs : List V} (h : Its H v xs) : Its H' v xs := by
  cases h with
  | str l => exact .str l
  | tup h => exact .tup (b _ _ (pool_other hp h fun _ _ _ q => by cases q) h)
  | lst h n => exact .lst (b _ _ (pool_other hp h fun x y z q => n x y z (by injection q)) h) n
def spShufA : Sp := fun vs H Q _ => ∃ (p : Addr) (v : V) (xs : List V), vs = [.ref p, v] ∧ Its H v xs ∧ xs.length ≤ 600 ∧ PoolAt H p ∧ ∀ (a : Addr) (ys : List V) (H' : Hp), H' a = some (.lst ys) → a ≠ p → ys.Perm xs → PoolAt H' p → But p H H' → Q (.ref a) H'
section
variable {P : Program} {w : World} {K : PySem.W.Frag} {mg : Str → Option Value} {base : Heap} {f fD : Addr} {fd fdD : FuncData}
theorem scSh : FnScope ["_law_pool_here", "_law_things", "_law_rest", "_law_found", "_law_turn"] ["_law_pool_here", "_law_things"] (defScope sShuf) := ⟨rfl, rfl, rfl, by decide +kernel, rfl, by decide +kernel, by decide +kernel⟩
/-- list(x), len(x) of such a thing -/
@[irreducible] def rLst (K : PySem.W.Frag) : List V → Hp → VK → Prop := fun xs H Q => (∃ p ys, xs = [.ref p] ∧ (SqL K H p ys ∨ SqT K H p ys) ∧ ∀ l, H l = none → Q (.ref l) (upd H l (.lst ys))) ∨ (∃ z : Str, xs = [.str z] ∧ z.length ≤ sizeLine ∧ ∀ p, H p = none → Q (.ref p) (upd H p (.lst (z.cps.toList.map fun c => V.str ⟨#[c]⟩))))
@[irreducible] def rLen (K : PySem.W.Frag) : List V → Hp → VK → Prop := fun xs H Q => (∃ p ys, xs = [.ref p] ∧ (SqL K H p ys ∨ SqT K H p ys) ∧ Q (.int ys.length) H) ∨ (∃ z, xs = [.str z] ∧ z.length ≤ sizeLine ∧ Q (.int z.length) H)
theorem its_lst {H : Hp} {v : V} {xs : List V} {Q : VK} (h : Its H v xs) (few : xs.length ≤ 600) (k : ∀ l, H l = none → Q (.ref l) (L2.upd H l (.lst xs))) : rLst K [v] H Q := by
  unfold rLst
  cases h with
  | str l =>
    refine .inr ⟨_, rfl, ?_, fun p hp => ?_⟩
    · rw [S_len, sizeLine_eq]
      rw [List.length_map] at few
      omega
    · rw [S_cps]
      exact k p hp
  | tup h => exact .inl ⟨_, _, rfl, .inr (SqT.of h), k⟩
  | lst h n => exact .inl ⟨_, _, rfl, .inl (SqL.of h), k⟩
theorem its_len {H : Hp} {v : V} {xs : List V} {Q : VK} (h : Its H v xs) (few : xs.length ≤ 600) (k : Q (.int xs.length) H) : rLen K [v] H Q := by
  unfold rLen
  cases h with
  | str l =>
    rw [List.length_map] at few k
    refine .inr ⟨_, rfl, ?_, ?_⟩
    · rw [S_len, sizeLine_eq]
      omega
    · rw [S_len]
      exact k
  | tup h => exact .inl ⟨_, _, rfl, .inr (SqT.of h), k⟩
  | lst h n => exact .inl ⟨_, _, rfl, .inl (SqL.of h), k⟩
theorem cr_lst {X : Cx} (hc : X.calm = true) : CallR X (.type "list") (rLst X.K) := by
  unfold rLst
  exact CallR.or call_list_of (call_listS hc)
theorem cr_len {X : Cx} : CallR X (.builtin "len") (rLen X.K) := by
  unfold rLen
  exact CallR.or call_len_seq call_len_str
set_option maxHeartbeats 0 in
theorem ok_shufA (F : Fun K "_law_shuffled" "_law_shuffled" sShuf f fd) (D : Def K mg "_law_draw" sDraw ["_law_pool_here", "_law_many"] fD fdD) (Z : Free mg) (mL : mg "list" = none) : FnOk P w K mg base CX0 2 f fd ["_law_pool_here", "_law_things"] spShufA := by
  have G : FnOk P w K mg base CX0 1 fD fdD ["_law_pool_here", "_law_many"] spDraw := ok_draw D.F Z.int Z.divmod
  refine F.ok scSh (fun vs H Q E h => ?_) (fun cdv A outer s H vs Q E hr h => ?_)
  · obtain ⟨p, v, xs, rfl, _⟩ := h
    rfl
  · obtain ⟨p, v, xs, rfl, hL, z1, hp, k⟩ := h
    refine ⟨_, pss_cons (ps_par (i := 2) (j := 3) (by rfl) scSh.nd rfl rfl (by decide) rfl rfl (pa_cons (pe_callTy (show CallR _ _ (rLst K) from cr_lst rfl) (by rfl) mL (by decide +kernel) (pa_cons (pv 1) pa_nil)) (pa_cons (pe_lst pa_nil) pa_nil)) (by rfl))
      (pss_cons (ps_for PassesOwn.never rfl (pi_range1 rfl Z.range (pa_cons (pe_callB (show CallR _ _ (rLen K) from cr_len) (by rfl) Z.len PySem.boot_len (pa_cons (pv 1) pa_nil)) pa_nil)) (pg_name (i := 4) scSh.nd rfl (.inl rfl))
        (pss_one (ps_expr (pe_bm PySem.F.plainAttrs_list PySem.F.slot_list_append PySem.F.type_list_append mt_append (pv 3) (pa_cons
          (pe_bm PySem.F.plainAttrs_list PySem.F.slot_list_pop PySem.F.type_list_pop mt_popAt (pv 2) (pa_cons (pe_call G hr rfl D.g D.kp D.b .nil pass0 (pa_cons (pv 0) (pa_cons (pe_callB call_len_seq (by rfl) Z.len PySem.boot_len (pa_cons (pv 2) pa_nil)) pa_nil))) pa_nil)) pa_nil)))))
      (pss_one (ps_ret (pv 3)))), ?_⟩
    refine ⟨_, rfl, its_lst hL z1 fun R hR => ?_⟩
    refine ⟨(by show 0 ≤ sizeLine; decide), fun F0 hF => ⟨_, _, rfl, ?_⟩⟩
    have nR := hp.ne hR
    have hF1 := hF
    have nFR : F0 ≠ R := fun z => by
      rw [z, upd_same] at hF
      cases hF
    rw [upd_ne nFR] at hF1
    have nF := hp.ne hF1
    have b0 : But p H (L2.upd (L2.upd H R (.lst xs)) F0 (.lst [])) := ((But.refl p H).upd (o := .lst xs) hR).upd (o := .lst []) hF
    refine ⟨_, rfl, its_len (hL.but hp b0) z1 ?_⟩
    refine ⟨_, rfl, by omega, by omega, for_it walk_range
      (fun i σ H' => ∃ (rest found : List V) (v4 : Option V), σ = [some (.ref p), some v, some (.ref R), some (.ref F0), v4] ∧ H' R = some (.lst rest) ∧ H' F0 = some (.lst found) ∧ (found ++ rest).Perm xs ∧ rest.length + i = xs.length ∧ found.length = i ∧ PoolAt H' p ∧ But p H H')
      ⟨xs, [], none, rfl, ?_, upd_same, .refl _, rfl, rfl, (hp.put nR).put nF, b0⟩ (fun _ _ _ _ _ => trivial) ?_ ?_⟩
    · rw [upd_ne nFR.symm, upd_same]
    · rintro i x σ H2 H2' hi ⟨rest, found, v4, rfl, h1, h2, pm, r1, r2, hp2, b2⟩ ⟨rfl, rfl⟩
      refine ⟨_, rfl, .inl ⟨rfl, _, SqL.of h2⟩, _, rfl, .inl ⟨rfl, _, SqL.of h1⟩, _, rfl, _, rfl, R, _, rfl, .inl (SqL.of h1), p, _, rfl, ?_, ?_, hp2, fun e H3 e0 e1 hp3 b3 => ?_⟩
      · omega
      · omega
      · obtain ⟨j, rfl⟩ := nat_of e0
        have hj : j < rest.length := by omega
        have g1 := b3 R _ nR h1
        have g2 := b3 F0 _ nF h2
        obtain ⟨z, hz⟩ : ∃ z, rest[j]? = some z := ⟨_, List.getElem?_eq_getElem hj⟩
        refine ⟨R, _, _, j, z, rfl, rfl, g1, by omega, by omega, seq_nat hj, hz, F0, _, _, rfl, rfl, (upd_ne nFR).trans g2, ?_, ?_⟩
        · rw [sizeLine_eq]; omega
        · refine ⟨rest.eraseIdx j, found ++ [z], _, rfl, ?_, upd_same, ?_, ?_, ?_, (hp3.put nR).put nF, ?_⟩
          · rw [upd_ne nFR.symm, upd_same]
          · rw [List.append_assoc]
            exact ((perm_erase hz).append_left found).trans pm
          · rw [List.length_eraseIdx, if_pos hj]; omega
          · rw [List.length_append, r2] <;> rfl
          · exact ((b2.trans b3).new hR).new hF1
    · rintro σ H2 ⟨rest, found, v4, rfl, h1, h2, pm, r1, r2, hp2, b2⟩
      have e0 : rest = [] := List.eq_nil_of_length_eq_zero (by omega)
      subst e0
      rw [List.append_nil] at pm
      exact ⟨_, rfl, k F0 found H2 h2 nF pm hp2 b2⟩
end
end Wb
/-! the parts of a loop told in any order: _law_parts -/
namespace Wb
open PySem L2 WbMin WbS Lz WbO WbT
abbrev sParts : Stmt := top 64
theorem perm_map {α β : Type} (f : α → β) : ∀ {xs ys : List β}, xs.Perm ys → ∀ l : List α, xs = l.map f → ∃ l', l.Perm l' ∧ ys = l'.map f
  | _, _, .nil, l, e => ⟨l, .refl _, e⟩
  | _, _, .cons x p, l, e => by
    cases l with
    | nil => cases e
    | cons a l =>
      injection e with e1 e2
      obtain ⟨l', q, e'⟩ := perm_map f p l e2
      exact ⟨a :: l', q.cons a, by rw [e', e1] <;> rfl⟩
  | _, _, .swap x y r, l, e => by
    cases l with
    | nil => cases e
    | cons a l =>
      injection e with e1 e2
      cases l with
      | nil => cases e2
      | cons b l =>
        injection e2 with e2 e3
        exact ⟨b :: a :: l, .swap _ _ _, by rw [e1, e2, e3] <;> rfl⟩
  | _, _, .trans p q, l, e => by
    obtain ⟨l1, p1, e1⟩ := perm_map f p l e
    obtain ⟨l2, p2, e2⟩ := perm_map f q l1 e1
    exact ⟨l2, p1.trans p2, e2⟩
theorem tups_perm {H : Hp} : ∀ {as bs : List Addr}, as.Perm bs → ∀ {xs : List (List V)}, Tups H as xs → ∃ ys, xs.Perm ys ∧ Tups H bs ys
  | _, _, .nil, xs, h => ⟨xs, .refl _, h⟩
  | _, _, .cons a p, xs, h => by
    cases xs with
    | nil => exact h.elim
    | cons x xs =>
      obtain ⟨ys, q, h'⟩ := tups_perm p h.2
      exact ⟨x :: ys, q.cons x, h.1, h'⟩
  | _, _, .swap a b r, xs, h => by
    cases xs with
    | nil => exact h.elim
    | cons x xs =>
      cases xs with
      | nil => exact h.2.elim
      | cons y xs => exact ⟨y :: x :: xs, .swap _ _ _, h.2.1, h.1, h.2.2⟩
  | _, _, .trans p q, xs, h => by
    obtain ⟨ys, p1, h1⟩ := tups_perm p h
    obtain ⟨zs, p2, h2⟩ := tups_perm q h1
    exact ⟨zs, p1.trans p2, h2⟩
/-- references shuffled, with what stands there -/
theorem refs_perm {α : Type} {g : α → List V} {H : Hp} {as : List Addr} {l : List α} (h : Tups H as (l.map g)) {ys : List V} (p : ys.Perm (as.map V.ref)) : ∃ (bs : List Addr) (m : List α), ys = bs.map V.ref ∧ m.Perm l ∧ Tups H bs (m.map g) := by
  obtain ⟨bs, p1, e1⟩ := perm_map V.ref p.symm as rfl
  obtain ⟨zs, p2, h2⟩ := tups_perm p1 h
  obtain ⟨m, p3, e3⟩ := perm_map g p2 l rfl
  exact ⟨bs, m, e1, p3.symm, e3 ▸ h2⟩
/-- turns of which some that stay are left out -/
structure Some6 (L : LD) (k : Nat) (tn : List Trn) : Prop where
  sub : tn.Sublist (L.turns.take k)
  all : ∀ ρ ∈ L.turns.take k, ρ ∈ tn ∨ (ρ.b = ρ.a ∧ ρ.m = 0)
theorem turnOf_mem {tn : List Trn} (nd : (tn.map Trn.a).Nodup) {ρ : Trn} (h : ρ ∈ tn) : turnOf tn ρ.a = ρ := by
  obtain ⟨i, hi, e⟩ := List.getElem_of_mem h
  exact turnOf_at nd (i := i) (by rw [List.getElem?_eq_getElem hi, e])
theorem turnOf_not {tn : List Trn} {z : Str} (h : ∀ ρ ∈ tn, ρ.a ≠ z) : turnOf tn z = ⟨z, z, 0⟩ := by
  unfold turnOf
  rw [List.find?_eq_none.mpr fun ρ hρ q => h ρ hρ (of_decide_eq_true q)] <;> rfl
theorem Some6.told {L : LD} (O : L.Ok) {tn tn' : List Trn} (h : Some6 L L.n tn) (p : tn'.Perm tn) : (tn'.map Trn.a).Nodup ∧ (∀ ρ ∈ tn', ρ.a ∈ L.st ∧ ρ.b ∈ L.st) ∧ L.st.map (turnOf tn') = L.turns ∧ tn'.length ≤ 6 := by
  have tl := turns_length L
  have n6 : L.n ≤ 6 := O.sts.few
  have sub : tn.Sublist L.turns := by
    have := h.sub
    rwa [List.take_of_length_le (by omega)] at this
  have all : ∀ ρ ∈ L.turns, ρ ∈ tn ∨ (ρ.b = ρ.a ∧ ρ.m = 0) := by
    have := h.all
    rwa [List.take_of_length_le (by omega)] at this
  have nd0 : (L.turns.map Trn.a).Nodup := by rw [turns_a]; exact O.sts.nd
  have nd : (tn'.map Trn.a).Nodup := (p.map Trn.a).nodup_iff.mpr ((sub.map Trn.a).nodup nd0)
  refine ⟨nd, fun ρ hρ => ?_, ?_, ?_⟩
  · obtain ⟨i, hi, rfl⟩ := List.mem_map.mp (sub.subset (p.mem_iff.mp hρ))
    have hi := List.mem_range.mp hi
    exact ⟨nm_mem hi, nm_mem (O.tnlt i hi)⟩
  · rw [st_is L, List.map_map]
    refine List.map_congr_left fun i hi => ?_
    have hi := List.mem_range.mp hi
    show turnOf tn' (L.nm i) = L.turn i
    have mem : L.turn i ∈ L.turns := List.mem_map.mpr ⟨i, List.mem_range.mpr hi, rfl⟩
    rcases all _ mem with h1 | ⟨h1, h2⟩
    · exact turnOf_mem nd (p.mem_iff.mpr h1)
    · by_cases q : L.turn i ∈ tn
      · exact turnOf_mem nd (p.mem_iff.mpr q)
      · have e : L.turn i = ⟨L.nm i, L.nm i, 0⟩ := by
          have e1 : (L.turn i).b = L.nm i := h1
          have e2 : (L.turn i).m = 0 := h2
          show (⟨L.nm i, (L.turn i).b, (L.turn i).m⟩ : Trn) = _
          rw [e1, e2]
        rw [turnOf_not fun ρ hρ z => ?_, e]
        obtain ⟨j, hj, rfl⟩ := List.mem_map.mp (sub.subset (p.mem_iff.mp hρ))
        have hj := List.mem_range.mp hj
        have ij : j = i := nm_inj O hj hi z
        subst ij
        exact q (p.mem_iff.mp hρ)
  · have := p.length_eq
    have := sub.length_le
    omega
theorem Tups.tk {H H' : Hp} (s : Tk H H') : ∀ {as : List Addr} {xs : List (List V)}, Tups H as xs → Tups H' as xs
  | [], [], _ => trivial
  | _ :: _, _ :: _, h => ⟨s _ _ h.1, Tups.tk s h.2⟩
  | [], _ :: _, h => h.elim
  | _ :: _, [], h => h.elim
theorem PrtG.tk {st : List Str} {rw : List Row} {tn : List Trn} {ye : List Str} {t rr u y : Addr} {as bs : List Addr} {H H' : Hp} (s : Tk H H') (h : PrtG st rw tn ye t rr u y as bs H) : PrtG st rw tn ye t rr u y as bs H' :=
  ⟨s _ _ h.ht, s _ _ h.hr, h.hT.tk s, s _ _ h.hu, h.hU.tk s, s _ _ h.hy⟩
theorem Some6.more {L : LD} {k : Nat} {tn : List Trn} (h : Some6 L k tn) (hk : k < L.n) : Some6 L (k + 1) (tn ++ [L.turn k]) := by
  have e := take_more (turns_at hk)
  refine ⟨?_, fun ρ hρ => ?_⟩
  · rw [e]
    exact h.sub.append (List.Sublist.refl _)
  · rw [e] at hρ
    rcases List.mem_append.mp hρ with q | q
    · exact (h.all ρ q).imp (fun z => List.mem_append.mpr (.inl z)) id
    · exact .inl (List.mem_append.mpr (.inr q))
theorem Some6.less {L : LD} {k : Nat} {tn : List Trn} (h : Some6 L k tn) (hk : k < L.n) (q : (L.turn k).b = (L.turn k).a ∧ (L.turn k).m = 0) : Some6 L (k + 1) tn := by
  have e := take_more (turns_at hk)
  refine ⟨?_, fun ρ hρ => ?_⟩
  · rw [e]
    exact h.sub.trans (List.sublist_append_left _ _)
  · rw [e] at hρ
    rcases List.mem_append.mp hρ with z | z
    · exact h.all ρ z
    · rw [List.mem_singleton.mp z]
      exact .inr q
def endP (b : Str) (m : Int) : PyData := .tuple [.str b, .int m]
theorem endP_eqv {a b : Str} {m : Int} (h : PyData.eqv (endP b m) (endP a 0) = true) : b = a ∧ m = 0 := by
  simp only [endP, PyData.eqv, PyData.eqvAll, Bool.and_eq_true, Bool.and_true] at h
  exact ⟨by simpa using h.1, by simpa using h.2⟩
theorem endP_shaped {b : Str} {m : Int} (h : PyData.strOk b = true) : SeqAt.shaped (endP b m) = true := by
  refine shaped_of ?_ (show 1 ≤ 64 by decide)
  show (PyData.strOk b && (true && true)) = true
  rw [h] <;> rfl
def spParts : Sp := fun vs H Q _ => ∃ (p q : Addr) (L : LD), vs = [.ref p, .ref q] ∧ L.Ok ∧ MdAt H q L ∧ PoolAt H p ∧
  ∀ (a : Addr) (sg sg0 : List Nat) (rw : List Row) (tn : List Trn) (ye : List Str) (t rr u y : Addr) (as bs : List Addr) (H' : Hp), H' a = some (.lst [.str (S sg0), .ref t, .ref rr, .ref u, .ref y]) → a ≠ p → sg.Perm L.sg → PyProof.Rows.sortedS (sg.map sOne) = true → Told (L.srt sg) sg0 rw tn ye → PrtG L.st rw tn ye t rr u y as bs H' → PoolAt H' p → But p H H' → Q (.ref a) H'
section
variable {P : Program} {w : World} {K : PySem.W.Frag} {mg : Str → Option Value} {base : Heap} {f fD fS fL : Addr} {fd dD dS dL : FuncData}
abbrev NPa : List Str := ["_law_pool_here", "_law_model_here", "_law_line_here", "_law_ends", "_law_abc", "_law_lines", "_law_part"]
theorem scPa : FnScope NPa ["_law_pool_here", "_law_model_here"] (defScope sParts) := ⟨rfl, rfl, rfl, by decide +kernel, rfl, by decide +kernel, by decide +kernel⟩
set_option maxHeartbeats 0 in
theorem ok_parts (F : Fun K "_law_parts" "_law_parts" sParts f fd) (DD : Def K mg "_law_draw" sDraw ["_law_pool_here", "_law_many"] fD dD) (DS : Def K mg "_law_shuffled" sShuf ["_law_pool_here", "_law_things"] fS dS) (DL : Def K mg "_law_line" sLine ["_law_model_here"] fL dL) (Z : Free mg) (mL : mg "list" = none) (mT : mg "tuple" = none) (mS : mg "sorted" = none) : FnOk P w K mg base CX0 3 f fd ["_law_pool_here", "_law_model_here"] spParts := by
  have GD : FnOk P w K mg base CX0 1 fD dD ["_law_pool_here", "_law_many"] spDraw := ok_draw DD.F Z.int Z.divmod
  have GS : FnOk P w K mg base CX0 2 fS dS ["_law_pool_here", "_law_things"] spShufA := ok_shufA DS.F DD Z mL
  have GL : FnOk P w K mg base CX0 1 fL dL ["_law_model_here"] spLine := ok_line DL.F mT mS
  refine F.ok scPa (fun vs H Q E h => ?_) (fun cdv A outer s H vs Q E hr h => ?_)
  · obtain ⟨p, q, L, rfl, _⟩ := h
    rfl
  · obtain ⟨p, q, L, rfl, O, MD, hp, k⟩ := h
    have hr1 : Room 1 _ := hr.mono (by decide)
    refine ⟨_, pss_cons (ps_set (i := 2) scPa.nd rfl (.inl rfl) (pe_call GL hr1 rfl DL.g DL.kp DL.b .nil pass0 (pa_cons (pv 1) pa_nil)))
      (pss_cons (ps_setLc (i := 3) (own := [("_law_part", 6)]) (g := gName 6) rfl scPa.nd rfl rfl (sw_true rfl rfl rfl (by decide +kernel)) (pi_tup (pe_ix ix_tup (pv 2) pe_int (fun _ _ => rfl))) (blkOk_by (N := NPa) (sc := defScope sParts) (by decide +kernel)) (fun _ _ _ _ _ => pg_name (i := 6) scPa.nd rfl (.inl rfl))
          (fun _ _ _ _ _ => pts_one (PW.pt (pw_or (pt_cmpR (show OpR _ _ (rNeD K) from op_neD hr.units) (pe_slice (show SlR _ (rSlT K) from sl_tup) (pv 6) (po_some pe_int) po_none) (pe_tup (pa_cons (pe_ix (show IxR _ (rIxT K) from ix_tup) (pv 6) pe_int (fun _ _ => rfl)) (pa_cons pe_int pa_nil))) (nomark _))
            (pw_or1 (pt_cmpR op_eq (pe_call GD hr1 rfl DD.g DD.kp DD.b .nil pass0 (pa_cons (pv 0) (pa_cons pe_int pa_nil))) pe_int (nomark _))))))
          (fun _ _ _ _ _ => pv 6))
      (pss_cons (ps_set (i := 4) scPa.nd rfl (.inl rfl) (pe_join pe_str (pe_call GS hr rfl DS.g DS.kp DS.b .nil pass0 (pa_cons (pv 0) (pa_cons (pe_ix ix_tup (pv 2) pe_int (fun _ _ => rfl)) pa_nil)))))
      (pss_cons (ps_set (i := 5) scPa.nd rfl (.inl rfl) (pe_callTy call_tuple_of (by rfl) mT (by decide +kernel) (pa_cons (pe_call GS hr rfl DS.g DS.kp DS.b .nil pass0 (pa_cons (pv 0) (pa_cons (pe_ix ix_tup (pv 2) pe_int (fun _ _ => rfl)) pa_nil))) pa_nil)))
      (pss_one (ps_ret (pe_lst (pa_cons (pv 4) (pa_cons (pe_ix ix_tup (pv 2) pe_int (fun _ _ => rfl)) (pa_cons (pv 5)
        (pa_cons (pe_callTy call_tuple_of (by rfl) mT (by decide +kernel) (pa_cons (pe_call GS hr rfl DS.g DS.kp DS.b .nil pass0 (pa_cons (pv 0) (pa_cons (pv 3) pa_nil))) pa_nil))
        (pa_cons (pe_callTy call_tuple_of (by rfl) mT (by decide +kernel) (pa_cons (pe_call GS hr rfl DS.g DS.kp DS.b .nil pass0 (pa_cons (pv 0) (pa_cons (pe_ix ix_tup (pv 2) pe_int (fun _ _ => rfl)) pa_nil))) pa_nil)) pa_nil))))))))))), ?_⟩
    refine ⟨_, rfl, q, L, rfl, O, MD, fun ql sg H1 psg srt RA n1 s1 => ?_⟩
    have OS := O.srt psg
    have sgp : 0 < sg.length := OS.sgs.pos
    have sgf : sg.length ≤ 4 := OS.sgs.few
    have n6 : L.n ≤ 6 := O.sts.few
    have tl := turns_length L
    obtain ⟨t, rr, u, y, as, bs, h0, ht, hrr, hT, hu, hU, hy⟩ := RA
    have hU : Tups H1 bs (L.turns.map Trn.v) := hU
    have lb : bs.length = L.n := by rw [hU.length, List.length_map, tl]
    have rf := rows_few OS
    have la : as.length = (L.srt sg).rows.length := by rw [hT.length, List.length_map]
    have yf := yes_few OS
    have hp1 := hp.same s1
    have b1 : But p H H1 := But.of s1
    have ix : ∀ {H' : Hp} {j : Nat} {v : V}, [V.str (S sg), .ref t, .ref rr, .ref u, .ref y][j]? = some v → atI [V.str (S sg), .ref t, .ref rr, .ref u, .ref y] (j : Int) = some v := fun h => atI_nat h
    -- the turns
    refine ⟨_, rfl, ql, _, _, _, rfl, rfl, SqT.of h0, atI_nat (j := 3) rfl, u, rfl, ⟨_, SqT.of hu⟩, fun D hD => ?_⟩
    have nD : D ≠ p := hp1.ne hD
    refine lc_it (walk_tup (xs := bs.map V.ref)) (fun i H5 => ∃ (cs : List Addr) (tn : List Trn), H5 D = some (.lst (cs.map V.ref)) ∧ Tups H5 cs (tn.map Trn.v) ∧ Some6 L i tn ∧ cs.length ≤ i ∧ PoolAt H5 p ∧ But p H1 H5)
      ⟨[], [], upd_same, trivial, ⟨List.nil_sublist _, fun _ z => nomatch z⟩, Nat.le_refl _, hp1.up hD, (But.refl p H1).upd hD⟩ (fun _ _ _ h => by obtain ⟨_, _, _, _, _, _, _, b⟩ := h; exact SqT.of (Tk.but hp1 b _ _ hu)) ?_ ?_
    · rintro i x H5 H5' hi ⟨cs, tn, y1, y2, sm, lc, hp5, b5⟩ ⟨rfl, hx⟩
      rw [List.length_map] at hi
      rw [List.getElem?_map] at hx
      obtain ⟨b, hb, rfl⟩ := Option.map_eq_some_iff.mp hx
      have hi : i < L.n := by omega
      have hDf : H1 D = none := hD
      have hbv : H5' b = some (.tup [.str (L.nm i), .str (L.nm (L.tn i)), .int (L.ta i)]) := Tk.but hp1 b5 _ _ (hU.get hb (by rw [List.getElem?_map, turns_at hi] <;> rfl))
      have add : ∀ H9, H9 D = some (.lst (cs.map V.ref)) → Tups H9 cs (tn.map Trn.v) → PoolAt H9 p → But p H1 H9 → H9 b = some (.tup [.str (L.nm i), .str (L.nm (L.tn i)), .int (L.ta i)]) → ∃ acc, H9 D = some (.lst acc) ∧ acc.length < sizeLine ∧ ∃ (cs' : List Addr) (tn' : List Trn), (L2.upd H9 D (.lst (acc ++ [V.ref b]))) D = some (.lst (cs'.map V.ref)) ∧ Tups (L2.upd H9 D (.lst (acc ++ [V.ref b]))) cs' (tn'.map Trn.v) ∧ Some6 L (i + 1) tn' ∧ cs'.length ≤ i + 1 ∧ PoolAt (L2.upd H9 D (.lst (acc ++ [V.ref b]))) p ∧ But p H1 (L2.upd H9 D (.lst (acc ++ [V.ref b]))) := by
        intro H9 z1 z2 z3 z4 z5
        refine ⟨_, z1, by rw [List.length_map, sizeLine_eq]; omega, cs ++ [b], tn ++ [L.turn i], by rw [upd_same, List.map_append] <;> rfl, ?_, sm.more hi, by rw [List.length_append]; show cs.length + 1 ≤ _; omega, z3.put nD, z4.new hDf⟩
        rw [List.map_append]
        exact Tups.but (fun x => by intro q; cases q) z1 (But.here (But.refl D _)) (Tups.snoc z5 z2)
      refine ⟨rfl, _, rfl, _, rfl, b, _, rfl, SqT.of hbv, ?_, fun d1 hd1 => ?_⟩
      · rintro ⟨q, _⟩
        exact absurd (show HT.sIx 3 0 (some 1) = 0 from q) (by decide)
      rw [show cutV [V.str (L.nm i), .str (L.nm (L.tn i)), .int (L.ta i)] (some 1) none = [.str (L.nm (L.tn i)), .int (L.ta i)] from rfl]
      have s6 := Same.put (o := .tup [.str (L.nm (L.tn i)), .int (L.ta i)]) (Same.refl H5') hd1
      have h6 : (L2.upd H5' d1 (.tup [.str (L.nm (L.tn i)), .int (L.ta i)])) d1 = some (.tup [.str (L.nm (L.tn i)), .int (L.ta i)]) := upd_same
      generalize L2.upd H5' d1 (.tup [.str (L.nm (L.tn i)), .int (L.ta i)]) = H6 at s6 h6 ⊢
      refine ⟨_, rfl, b, _, _, _, rfl, rfl, SqT.of (s6 _ _ hbv), atI_nat (j := 0) rfl, by show 2 ≤ sizeLine; decide, fun d2 hd2 => ?_⟩
      have s7 := Same.put (o := .tup [.str (L.nm i), .int 0]) s6 hd2
      have h67 := (Same.put (o := .tup [.str (L.nm i), .int 0]) (Same.refl H6) hd2) _ _ h6
      have h7 : (L2.upd H6 d2 (.tup [.str (L.nm i), .int 0])) d2 = some (.tup [.str (L.nm i), .int 0]) := upd_same
      generalize L2.upd H6 d2 (.tup [.str (L.nm i), .int 0]) = H7 at s7 h67 h7 ⊢
      have hp7 := hp5.same s7
      have b7 := b5.trans (But.of s7)
      refine ⟨endP (L.nm (L.tn i)) (L.ta i), endP (L.nm i) 0, .tup (SqT.of h67) (.cons (.str _) (.cons (.int _) .nil)), .tup (SqT.of h7) (.cons (.str _) (.cons (.int _) .nil)), endP_shaped (ok_st O (nm_mem (O.tnlt i hi))), endP_shaped (ok_st O (nm_mem hi)), _, rfl, ?_⟩
      cases e : PyData.eqv (endP (L.nm (L.tn i)) (L.ta i)) (endP (L.nm i) 0) with
      | false => exact iteT (iteT ⟨_, rfl, add H7 (s7 _ _ y1) (y2.same s7) hp7 b7 (s7 _ _ hbv)⟩)
      | true =>
        have eq := endP_eqv e
        refine iteF ⟨_, rfl, p, _, rfl, by decide, by decide, hp7, fun d H8 d0 d1' hp8 b8 => ⟨rfl, _, rfl, ?_⟩⟩
        refine ite2 (fun _ => ?_) (fun _ => ?_)
        · exact ⟨_, rfl, add H8 (b8 _ _ nD (s7 _ _ y1)) ((y2.same s7).tk (Tk.but hp7 b8)) hp8 (b7.trans b8) (Tk.but hp7 b8 _ _ (s7 _ _ hbv))⟩
        · exact ⟨cs, tn, b8 _ _ nD (s7 _ _ y1), (y2.same s7).tk (Tk.but hp7 b8), sm.less hi eq, by omega, hp8, b7.trans b8⟩
    rintro H5 ⟨cs, tn0, y1, y2, sm, lc, hp5, b5⟩
    rw [List.length_map, lb] at sm lc
    have k15 := Tk.but hp1 b5
    -- the signs
    refine ⟨⟨_, rfl⟩, _, rfl, _, rfl, ql, _, _, _, rfl, rfl, SqT.of (k15 _ _ h0), atI_nat (j := 0) rfl, p, _, _, rfl, .str sg, by rw [List.length_map]; omega, hp5, fun a1 ys1 H6 ha1 na1 pm1 hp6 b6 => ?_⟩
    obtain ⟨sg0, psg0, rfl⟩ := perm_map vOne pm1.symm sg rfl
    have ls0 : sg0.length = sg.length := psg0.length_eq.symm
    have ha1' : H6 a1 = some (.lst ((sg0.map one).map V.str)) := by rw [ha1, List.map_map] <;> rfl
    refine ⟨_, a1, sg0.map one, rfl, rfl, .inl (SqL.of ha1'), ?_, ?_⟩
    · have e1 : ((sg0.map one).map fun x => x.length) = List.replicate sg0.length 1 := by
        rw [List.map_map]
        exact List.map_eq_replicate_iff.mpr fun _ _ => rfl
      have e2 : (Str.ofString "").length = 0 := by decide +kernel
      rw [e1, e2, List.sum_replicate_nat]
      omega
    rw [join_any]
    have k16 := k15.trans (Tk.but hp5 b6)
    -- the rows
    refine ⟨_, rfl, _, rfl, ql, _, _, _, rfl, rfl, SqT.of (k16 _ _ h0), atI_nat (j := 2) rfl, p, _, _, rfl, .tup (k16 _ _ hrr), by rw [List.length_map]; omega, hp6, fun a2 ys2 H7 ha2 na2 pm2 hp7 b7 => ⟨a2, _, rfl, .inl ⟨SqL.of ha2, fun t2 ht2 => ?_⟩⟩⟩
    have k17 := k16.trans (Tk.but hp6 b7)
    obtain ⟨as2, rw2, rfl, prw, hT2⟩ := refs_perm (hT.tk k17) pm2
    have s8 := Same.put (o := .tup (as2.map V.ref)) (Same.refl H7) ht2
    have h8 : (L2.upd H7 t2 (.tup (as2.map V.ref))) t2 = some (.tup (as2.map V.ref)) := upd_same
    generalize L2.upd H7 t2 (.tup (as2.map V.ref)) = H8 at s8 h8 ⊢
    have hp8 := hp7.same s8
    have k18 := k17.trans (Tk.of s8)
    have y8 := s8 _ _ (b7 _ _ nD (b6 _ _ nD y1))
    have k58 : Tk H5 H8 := ((Tk.but hp5 b6).trans (Tk.but hp6 b7)).trans (Tk.of s8)
    -- the turns shuffled, the yes states
    refine ⟨_, rfl, _, rfl, ql, _, _, _, rfl, rfl, SqT.of (k18 _ _ h0), atI_nat (j := 1) rfl, _, rfl, _, rfl, _, rfl, p, _, _, rfl, .lst y8 (fun a b c z => by cases cs with | nil => cases z | cons x l => cases z), by rw [List.length_map]; omega, hp8, fun a3 ys3 H9 ha3 na3 pm3 hp9 b9 => ⟨a3, _, rfl, .inl ⟨SqL.of ha3, fun t3 ht3 => ?_⟩⟩⟩
    obtain ⟨bs2, tn2, rfl, ptn, hU2⟩ := refs_perm (y2.tk (k58.trans (Tk.but hp8 b9))) pm3
    have s10 := Same.put (o := .tup (bs2.map V.ref)) (Same.refl H9) ht3
    have h10 : (L2.upd H9 t3 (.tup (bs2.map V.ref))) t3 = some (.tup (bs2.map V.ref)) := upd_same
    generalize L2.upd H9 t3 (.tup (bs2.map V.ref)) = H10 at s10 h10 ⊢
    have hp10 := hp9.same s10
    have k810 : Tk H8 H10 := (Tk.but hp8 b9).trans (Tk.of s10)
    have k110 := k18.trans k810
    refine ⟨_, rfl, _, rfl, ql, _, _, _, rfl, rfl, SqT.of (k110 _ _ h0), atI_nat (j := 4) rfl, p, _, _, rfl, .tup (k110 _ _ hy), by rw [List.length_map]; omega, hp10, fun a4 ys4 H11 ha4 na4 pm4 hp11 b11 => ⟨a4, _, rfl, .inl ⟨SqL.of ha4, fun t4 ht4 => ?_⟩⟩⟩
    obtain ⟨ye, pye, rfl⟩ := perm_map V.str pm4.symm _ rfl
    have s12 := Same.put (o := .tup (ye.map V.str)) (Same.refl H11) ht4
    have h12 : (L2.upd H11 t4 (.tup (ye.map V.str))) t4 = some (.tup (ye.map V.str)) := upd_same
    generalize L2.upd H11 t4 (.tup (ye.map V.str)) = H12 at s12 h12 ⊢
    refine ⟨by show 5 ≤ sizeLine; decide, fun a ha => ?_⟩
    have s13 := Same.put (o := .lst [.str (S sg0), .ref t, .ref t2, .ref t3, .ref t4]) s12 ha
    have k1013 : Tk H10 (L2.upd H12 a (.lst [.str (S sg0), .ref t, .ref t2, .ref t3, .ref t4])) := (Tk.but hp10 b11).trans (Tk.of s13)
    have k813 := k810.trans k1013
    obtain ⟨n1', n2', n3', n4'⟩ := sm.told O ptn
    have hp12 := hp11.same s12
    refine k a sg sg0 rw2 tn2 ye t t2 t3 t4 as2 bs2 _ upd_same (hp12.ne ha) psg srt ⟨psg0.symm, prw, n1', n2', n3', n4', ?_, ?_, ?_, ?_⟩ ⟨(k18.trans k813) _ _ ht, k813 _ _ h8, (hT2.same s8).tk k813, k1013 _ _ h10, (hU2.same s10).tk k1013, (Same.put (Same.refl H12) ha) _ _ h12⟩ (hp11.same s13) ?_
    · exact pye.symm.nodup_iff.mpr (yes_nd OS)
    · exact fun z hz => yes_sub z (pye.symm.mem_iff.mp hz)
    · have e : ((L.srt sg).st.filter fun z => decide (z ∈ ye)) = ((L.srt sg).st.filter fun z => decide (z ∈ (L.srt sg).yes)) := List.filter_congr fun z _ => by
        rw [decide_eq_decide]
        exact pye.symm.mem_iff
      rw [e]
      exact yes_filter OS
    · rw [← pye.length_eq]
      exact yf
    · exact b1.trans (b5.trans (b6.trans (b7.trans ((But.of s8).trans (b9.trans ((But.of s10).trans (b11.trans (But.of s13))))))))
end
end Wb
/-! the properties of a loop; _law_is_loop -/
namespace Wb
open PySem L2 WbMin WbS Lz WbO
abbrev sIsLoop : Stmt := top 65
abbrev sLoSigns : Stmt := inClass (top 49) 1
abbrev sLoRows : Stmt := inClass (top 49) 3
abbrev sLoTurns : Stmt := inClass (top 49) 4
abbrev sLoYes : Stmt := inClass (top 49) 5
structure PrA where
  (fSg fSs fRw fTu fYe pSg pSs pRw pTu pYe : Addr)
  (dSg dSs dRw dTu dYe : FuncData)
/-- what the top has written of the five properties -/
structure PrpF (K : PySem.W.Frag) (A : LA) (B : PrA) : Prop where
  FSg : Fun K "signs" "Loop.signs" sLoSigns B.fSg B.dSg
  bSg : Binds K B.dSg ["self"] []
  hSg : PropOf K A.C "signs" B.pSg B.fSg
  FSs : Fun K "states" "Loop.states" sLoStates B.fSs B.dSs
  bSs : Binds K B.dSs ["self"] []
  hSs : PropOf K A.C "states" B.pSs B.fSs
  FRw : Fun K "rows" "Loop.rows" sLoRows B.fRw B.dRw
  bRw : Binds K B.dRw ["self"] []
  hRw : PropOf K A.C "rows" B.pRw B.fRw
  FTu : Fun K "turns" "Loop.turns" sLoTurns B.fTu B.dTu
  bTu : Binds K B.dTu ["self"] []
  hTu : PropOf K A.C "turns" B.pTu B.fTu
  FYe : Fun K "yes" "Loop.yes" sLoYes B.fYe B.dYe
  bYe : Binds K B.dYe ["self"] []
  hYe : PropOf K A.C "yes" B.pYe B.fYe
def spLoFld (C : Addr) (k : Str) : Sp := fun vs H Q _ => ∃ (r dx : Addr) (fs : List (Str × V)) (v : V), vs = [.ref r] ∧ H r = some (.ins C dx fs) ∧ fs.lookup k = some v ∧ Q v H
def spIsLoop (C T : Addr) : Sp := fun vs H Q _ => ∃ (r q : Addr) (L M : LD), vs = [.ref r, .ref q] ∧ LoopAt C T H r L ∧ L.Ok ∧ RowAt H q M ∧ M.Ok ∧ SameRow L M ∧ ∀ H', Same H H' → Q (.bl true) H'
section
variable {P : Program} {w : World} {K : PySem.W.Frag} {mg : Str → Option Value} {base : Heap} {A : LA} {B : PrA} {e f fF : Addr} {fd dF : FuncData}
theorem scP1 : FnScope ["self"] ["self"] (defScope sLoSigns) := ⟨rfl, rfl, rfl, by decide +kernel, rfl, by decide +kernel, by decide +kernel⟩
theorem scP2 : FnScope ["self"] ["self"] (defScope sLoStates) := ⟨rfl, rfl, rfl, by decide +kernel, rfl, by decide +kernel, by decide +kernel⟩
theorem scP3 : FnScope ["self"] ["self"] (defScope sLoRows) := ⟨rfl, rfl, rfl, by decide +kernel, rfl, by decide +kernel, by decide +kernel⟩
theorem scP4 : FnScope ["self"] ["self"] (defScope sLoTurns) := ⟨rfl, rfl, rfl, by decide +kernel, rfl, by decide +kernel, by decide +kernel⟩
theorem scP5 : FnScope ["self"] ["self"] (defScope sLoYes) := ⟨rfl, rfl, rfl, by decide +kernel, rfl, by decide +kernel, by decide +kernel⟩
theorem ok_losg (D : LoopF K mg A e) (PF : PrpF K A B) : FnOk P w K mg base CX0 1 B.fSg B.dSg ["self"] (spLoFld A.C "_signs") := by
  refine PF.FSg.ok scP1 (fun vs H Q E h => ?_) (fun cdv A' outer s H vs Q E hr h => ?_)
  · obtain ⟨r, dx, fs, v, rfl, _⟩ := h
    rfl
  · obtain ⟨r, dx, fs, v, rfl, h0, l, k⟩ := h
    exact ⟨_, pss_one (ps_ret (pe_fld (pv 0) rfl)), _, rfl, r, A.C, dx, _, _, rfl, h0, D.L.cl, D.L.n1, l, k⟩
theorem ok_loss (D : LoopF K mg A e) (PF : PrpF K A B) : FnOk P w K mg base CX0 1 B.fSs B.dSs ["self"] (spLoFld A.C "_states") := by
  refine PF.FSs.ok scP2 (fun vs H Q E h => ?_) (fun cdv A' outer s H vs Q E hr h => ?_)
  · obtain ⟨r, dx, fs, v, rfl, _⟩ := h
    rfl
  · obtain ⟨r, dx, fs, v, rfl, h0, l, k⟩ := h
    exact ⟨_, pss_one (ps_ret (pe_fld (pv 0) rfl)), _, rfl, r, A.C, dx, _, _, rfl, h0, D.L.cl, D.L.n2, l, k⟩
theorem ok_lorw (D : LoopF K mg A e) (PF : PrpF K A B) : FnOk P w K mg base CX0 1 B.fRw B.dRw ["self"] (spLoFld A.C "_rows") := by
  refine PF.FRw.ok scP3 (fun vs H Q E h => ?_) (fun cdv A' outer s H vs Q E hr h => ?_)
  · obtain ⟨r, dx, fs, v, rfl, _⟩ := h
    rfl
  · obtain ⟨r, dx, fs, v, rfl, h0, l, k⟩ := h
    exact ⟨_, pss_one (ps_ret (pe_fld (pv 0) rfl)), _, rfl, r, A.C, dx, _, _, rfl, h0, D.L.cl, D.L.n3, l, k⟩
theorem ok_lotu (D : LoopF K mg A e) (PF : PrpF K A B) : FnOk P w K mg base CX0 1 B.fTu B.dTu ["self"] (spLoFld A.C "_turns") := by
  refine PF.FTu.ok scP4 (fun vs H Q E h => ?_) (fun cdv A' outer s H vs Q E hr h => ?_)
  · obtain ⟨r, dx, fs, v, rfl, _⟩ := h
    rfl
  · obtain ⟨r, dx, fs, v, rfl, h0, l, k⟩ := h
    exact ⟨_, pss_one (ps_ret (pe_fld (pv 0) rfl)), _, rfl, r, A.C, dx, _, _, rfl, h0, D.L.cl, D.L.n4, l, k⟩
theorem ok_loye (D : LoopF K mg A e) (PF : PrpF K A B) : FnOk P w K mg base CX0 1 B.fYe B.dYe ["self"] (spLoFld A.C "_yes") := by
  refine PF.FYe.ok scP5 (fun vs H Q E h => ?_) (fun cdv A' outer s H vs Q E hr h => ?_)
  · obtain ⟨r, dx, fs, v, rfl, _⟩ := h
    rfl
  · obtain ⟨r, dx, fs, v, rfl, h0, l, k⟩ := h
    exact ⟨_, pss_one (ps_ret (pe_fld (pv 0) rfl)), _, rfl, r, A.C, dx, _, _, rfl, h0, D.L.cl, D.L.n5, l, k⟩
theorem scIs : FnScope ["_law_loop", "_law_line_here", "_law_told"] ["_law_loop", "_law_line_here"] (defScope sIsLoop) := ⟨rfl, rfl, rfl, by decide +kernel, rfl, by decide +kernel, by decide +kernel⟩
set_option maxHeartbeats 0 in
theorem ok_isloop (F : Fun K "_law_is_loop" "_law_is_loop" sIsLoop f fd) (DF : Def K mg "_law_face" sFace ["_law_thing"] fF dF) (D : LoopF K mg A e) (PF : PrpF K A B) (ZT : FreeT mg) : FnOk P w K mg base CX0 6 f fd ["_law_loop", "_law_line_here"] (spIsLoop A.C A.T) := by
  have GF : FnOk P w K mg base CX0 5 fF dF ["_law_thing"] (spFace K 4) := ok_face DF ZT 4
  have GW : FnOk P w K mg base CX0 1 A.fW A.dW ["self"] (spLoRow A.C) := ok_lorow D
  have G1 : FnOk P w K mg base CX0 1 B.fSg B.dSg ["self"] (spLoFld A.C "_signs") := ok_losg D PF
  have G2 : FnOk P w K mg base CX0 1 B.fSs B.dSs ["self"] (spLoFld A.C "_states") := ok_loss D PF
  have G3 : FnOk P w K mg base CX0 1 B.fRw B.dRw ["self"] (spLoFld A.C "_rows") := ok_lorw D PF
  have G4 : FnOk P w K mg base CX0 1 B.fTu B.dTu ["self"] (spLoFld A.C "_turns") := ok_lotu D PF
  have G5 : FnOk P w K mg base CX0 1 B.fYe B.dYe ["self"] (spLoFld A.C "_yes") := ok_loye D PF
  refine F.ok scIs (fun vs H Q E h => ?_) (fun cdv A' outer s H vs Q E hr h => ?_)
  · obtain ⟨r, q, L, M, rfl, _⟩ := h
    rfl
  · obtain ⟨r, q, L, M, rfl, LA0, O, RA, OM, sm, k⟩ := h
    have hr2 : Room 2 _ := hr.mono (by decide)
    refine ⟨_, pss_cons (ps_set (i := 2) scIs.nd rfl (.inl rfl) (pe_tup (pa_cons (pe_prop (pv 0) D.L.cl PF.hSg G1 hr2 PF.bSg .nil pass0 rfl) (pa_cons (pe_prop (pv 0) D.L.cl PF.hSs G2 hr2 PF.bSs .nil pass0 rfl) (pa_cons (pe_prop (pv 0) D.L.cl PF.hRw G3 hr2 PF.bRw .nil pass0 rfl) (pa_cons (pe_prop (pv 0) D.L.cl PF.hTu G4 hr2 PF.bTu .nil pass0 rfl) (pa_cons (pe_prop (pv 0) D.L.cl PF.hYe G5 hr2 PF.bYe .nil pass0 rfl) pa_nil)))))))
      (pss_one (ps_ret (pe_and (pe_cmpR (op_eqD hr.units) (pe_call GF hr rfl DF.g DF.kp DF.b .nil pass0 (pa_cons (pv 2) pa_nil)) (pe_call GF hr rfl DF.g DF.kp DF.b .nil pass0 (pa_cons (pv 1) pa_nil)) (nomark _))
        (pe_one (pe_cmpR (op_eqD hr.units) (pe_call GF hr rfl DF.g DF.kp DF.b .nil pass0 (pa_cons (pe_prop (pv 0) D.L.cl D.hW GW hr2 D.bW .nil pass0 rfl) pa_nil)) (pe_call GF hr rfl DF.g DF.kp DF.b .nil pass0 (pa_cons (pv 1) pa_nil)) (nomark _)))))), ?_⟩
    obtain ⟨dx, t, rr, u, y, tb, as, bs, h0, pr, TA⟩ := id LA0
    obtain ⟨l1, l2, l3, l4, l5, l6⟩ := lf_look (S L.sg) t rr u y tb
    refine ⟨_, rfl, r, dx, _, rfl, h0, r, dx, _, _, rfl, h0, l1, _, rfl, r, dx, _, rfl, h0, r, dx, _, _, rfl, h0, l2, _, rfl, r, dx, _, rfl, h0, r, dx, _, _, rfl, h0, l3, _, rfl, r, dx, _, rfl, h0, r, dx, _, _, rfl, h0, l4, _, rfl, r, dx, _, rfl, h0, r, dx, _, _, rfl, h0, l5, by show 5 ≤ sizeLine; decide, fun w hw => ?_⟩
    have s1 := Same.put (o := .tup [.str (S L.sg), .ref t, .ref rr, .ref u, .ref y]) (Same.refl H) hw
    have RW : RowAt (L2.upd H w (.tup [.str (S L.sg), .ref t, .ref rr, .ref u, .ref y])) w L := (pr.same s1).row upd_same
    generalize L2.upd H w (.tup [.str (S L.sg), .ref t, .ref rr, .ref u, .ref y]) = H1 at s1 RW ⊢
    have fe : loopF M = loopF L := sm.face.symm
    refine ⟨_, rfl, .ref w, loopF L, rfl, loopF_thing O RW, fun f1 H2 n2 s2 dp1 => ?_⟩
    refine ⟨_, rfl, .ref q, loopF M, rfl, loopF_thing OM ((RA.same s1).same s2), fun f2 H3 n3 s3 dp2 => ?_⟩
    refine ⟨loopF L, loopF M, Dp.stay s3 (Dp.stay New.sub dp1), Dp.stay New.sub dp2, loopF_shaped O, loopF_shaped OM, ?_⟩
    rw [fe, loopF_eqv O]
    refine ⟨true, rfl, ?_⟩
    have s13 := (s1.trans s2).trans s3
    have h3 := s13 _ _ h0
    refine ⟨_, rfl, r, dx, _, rfl, h3, r, dx, t, rr, u, y, _, _, rfl, h3, l1, l2, l3, l4, l5, fun v hv => ?_⟩
    have s4 := Same.put (o := .tup [.str (S L.sg), .ref t, .ref rr, .ref u, .ref y]) s13 hv
    have RV : RowAt (L2.upd H3 v (.tup [.str (S L.sg), .ref t, .ref rr, .ref u, .ref y])) v L := (pr.same s4).row upd_same
    generalize L2.upd H3 v (.tup [.str (S L.sg), .ref t, .ref rr, .ref u, .ref y]) = H4 at s4 RV ⊢
    refine ⟨.ref v, loopF L, rfl, loopF_thing O RV, fun f3 H5 n5 s5 dp3 => ?_⟩
    refine ⟨_, rfl, .ref q, loopF M, rfl, loopF_thing OM ((RA.same s4).same s5), fun f4 H6 n6 s6 dp4 => ?_⟩
    refine ⟨loopF L, loopF M, Dp.stay s6 (Dp.stay New.sub dp3), Dp.stay New.sub dp4, loopF_shaped O, loopF_shaped OM, ?_⟩
    rw [fe, loopF_eqv O]
    exact k H6 ((s4.trans s5).trans s6)
end
end Wb
/-! the line of a model whose yes states stand in any order (out of LpQ) -/
namespace Wb
open PySem L2 WbMin WbS Lz
/-- a model whose yes states are told by a list in any order -/
def MdG (H : Hp) (q : Addr) (L : LD) (os : List Str) : Prop := ∃ (A Sd Ed O : Addr) (kvs : List (List Key × V)) (ws : List (Key × V)), H q = some (.lst [.str (S L.sg), .ref A, .ref Sd, .ref Ed, .ref O]) ∧ H A = some (.lst (L.st.map V.str)) ∧ H Sd = some (.dT kvs) ∧ H Ed = some (.dK ws) ∧
  (∀ i c, i < L.n → c ∈ L.sg → Entry2 H kvs (L.nm i) c (L.nm (L.nx i c)) (L.am i c)) ∧ (∀ i, i < L.n → Entry1 H ws (L.nm i) (L.nm (L.tn i)) (L.ta i)) ∧ H O = some (.lst (os.map V.str))
def spLineG : Sp := fun vs H Q _ => ∃ (q : Addr) (L : LD) (os : List Str), vs = [.ref q] ∧ L.Ok ∧ MdG H q L os ∧ (L.st.filter fun z => decide (z ∈ os)) = L.yes ∧
  ∀ (r : Addr) (sg : List Nat) (H' : Hp), sg.Perm L.sg → PyProof.Rows.sortedS (sg.map sOne) = true → RowAt H' r (L.srt sg) → H r = none → Same H H' → Q (.ref r) H'
section
variable {P : Program} {w : World} {K : PySem.W.Frag} {mg : Str → Option Value} {base : Heap} {f fL : Addr} {fd dL : FuncData} {A : LA} {e : Addr}
set_option maxHeartbeats 0 in
theorem ok_lineG (F : Fun K "_law_line" "_law_line" sLine f fd) (mT : mg "tuple" = none) (mS : mg "sorted" = none) : FnOk P w K mg base CX0 1 f fd ["_law_model_here"] spLineG := by
  refine F.ok scLi (fun vs H Q E h => ?_) (fun cdv A outer s H vs Q E hr h => ?_)
  · obtain ⟨q, L, os, rfl, _⟩ := h
    rfl
  · obtain ⟨q, L, os, rfl, O, M, hos, k⟩ := h
    refine ⟨_, pss_cons (ps_asg (pv 0) (pg_unp rfl (pgs_cons (pg_name (i := 1) scLi.nd rfl (.inl rfl)) (pgs_cons (pg_name (i := 2) scLi.nd rfl (.inl rfl)) (pgs_cons (pg_name (i := 3) scLi.nd rfl (.inr rfl)) (pgs_cons (pg_name (i := 4) scLi.nd rfl (.inr rfl)) (pgs_cons (pg_name (i := 5) scLi.nd rfl (.inr rfl)) pgs_nil)))))))
      (pss_cons (ps_set (i := 1) scLi.nd rfl (.inl rfl) (pe_join pe_str (pe_callB (call_sortedTx rfl) (by rfl) mS (by decide +kernel) (pa_cons (pv 1) pa_nil))))
      (pss_cons (ps_set (i := 6) scLi.nd rfl (.inl rfl) (pe_lst pa_nil))
      (pss_cons (ps_for PassesOwn.never rfl (pi_list (pv 2)) (pg_name (i := 7) scLi.nd rfl (.inr rfl))
        (pss_one (ps_set (i := 6) scLi.nd rfl (.inl rfl) (pe_op op_cat (pv 6)
          (pe_lc (own := [("_law_mark", 9)]) (g := gName 9) (tt := tYes) rfl scLi.nd (pi_str (pv 1)) (blkOk_by (N := NLi) (sc := defScope sLine) (by decide +kernel)) (fun _ _ _ _ _ => pg_name (i := 9) scLi.nd rfl (.inl rfl)) (fun _ _ _ _ _ => pts_nil)
            (fun _ _ _ _ _ => pe_op (show OpR _ _ (rCatT K) from op_catT) (pe_tup (pa_cons (pv 7) (pa_cons (pv 9) pa_nil))) (pe_dget (un2 hr) (pv 3) (pe_tup (pa_cons (pv 7) (pa_cons (pv 9) pa_nil))) (fun _ _ => rfl))))))))
      (pss_cons (ps_setLc (i := 8) (own := [("_law_post", 7)]) (g := gName 7) (tt := tYes) rfl scLi.nd rfl rfl (sw_true rfl rfl rfl (by decide +kernel)) (pi_list (pv 2)) (blkOk_by (N := NLi) (sc := defScope sLine) (by decide +kernel)) (fun _ _ _ _ _ => pg_name (i := 7) scLi.nd rfl (.inl rfl)) (fun _ _ _ _ _ => pts_nil)
          (fun _ _ _ _ _ => pe_op (show OpR _ _ (rCatT K) from op_catT) (pe_tup (pa_cons (pv 7) pa_nil)) (pe_dget (un2 hr) (pv 4) (pv 7) (fun _ _ => rfl))))
      (pss_one (ps_ret (pe_tup (pa_cons (pv 1) (pa_cons (pe_callTy call_tuple_of (by rfl) mT (by decide +kernel) (pa_cons (pv 2) pa_nil)) (pa_cons (pe_callTy call_tuple_of (by rfl) mT (by decide +kernel) (pa_cons (pv 6) pa_nil)) (pa_cons (pe_callTy call_tuple_of (by rfl) mT (by decide +kernel) (pa_cons (pv 8) pa_nil))
        (pa_cons (pe_callTy call_tuple_of (by rfl) mT (by decide +kernel) (pa_cons (pe_lc (own := [("_law_post", 7)]) (g := gName 7) rfl scLi.nd (pi_list (pv 2)) (blkOk_by (N := NLi) (sc := defScope sLine) (by decide +kernel)) (fun _ _ _ _ _ => pg_name (i := 7) scLi.nd rfl (.inl rfl)) (fun _ _ _ _ _ => pts_one (pt_cmpR (show OpR _ _ (rIn K false) from op_in_seq) (pv 7) (pv 5) (by rfl))) (fun _ _ _ _ _ => pv 7)) pa_nil)) pa_nil)))))))))))), ?_⟩
    obtain ⟨A, Sd, Ed, Ok, kvs, ws, h0, hA, hS, hE, e2, e1, hO⟩ := M
    have pos := O.sgs.pos
    have sgf := O.sgs.few
    have stf : L.st.length ≤ 6 := O.sts.few
    refine ⟨_, rfl, q, _, rfl, SqL.of h0, rfl, _, _, rfl, _, _, rfl, _, _, rfl, _, _, rfl, _, _, rfl, rfl, ?_⟩
    refine ⟨⟨_, rfl⟩, _, rfl, S L.sg, rfl, by rw [S_len]; omega, fun ys p perm srt hp' => ?_⟩
    rw [S_cps] at perm
    obtain ⟨sg, hsg, rfl⟩ := perm_codes perm
    have lsg : sg.length = L.sg.length := hsg.length_eq
    have s1 : Same H (L2.upd H p (.lst ((sg.map sOne).map V.str))) := Same.put (Same.refl H) hp'
    refine ⟨_, p, sg.map sOne, rfl, rfl, .inl (SqL.of upd_same), ?_, ?_⟩
    · have e1 : ((sg.map sOne).map fun x => x.length) = List.replicate sg.length 1 := by
        rw [List.map_map]
        exact List.map_eq_replicate_iff.mpr fun _ _ => rfl
      have e2 : (Str.ofString "").length = 0 := by decide +kernel
      rw [e1, e2, List.sum_replicate_nat]
      omega
    have ej : Txt.join (Str.ofString "") (sg.map sOne) = S sg := join_one (by omega)
    rw [ej]
    generalize L2.upd H p (.lst ((sg.map sOne).map V.str)) = H1 at s1 ⊢
    refine ⟨by show 0 ≤ sizeLine; decide, fun l0 hl0 => ?_⟩
    have s2 := Same.put (o := .lst []) s1 hl0
    have hl2 : (L2.upd H1 l0 (.lst [])) l0 = some (.lst []) := upd_same
    generalize L2.upd H1 l0 (.lst []) = H2 at s2 hl2 ⊢
    refine ⟨_, rfl, A, rfl, ⟨_, SqL.of (s2 _ _ hA)⟩, for_it (walk_list (xs := L.st.map V.str)) (fun i σ H' => ∃ (lr : Addr) (as : List Addr) (v7 : Option V), σ = [some (.ref q), some (.str (S sg)), some (.ref A), some (.ref Sd), some (.ref Ed), some (.ref Ok), some (.ref lr), v7, none, none] ∧ H' lr = some (.lst (as.map V.ref)) ∧ Tups H' as (((List.range i).flatMap fun i => sg.map ((L.srt sg).row i)).map Row.v) ∧ as.length = i * sg.length ∧ Same H H')
      ⟨l0, [], none, rfl, hl2, trivial, (Nat.zero_mul _).symm, s2⟩ (fun _ _ _ _ h => by obtain ⟨_, _, _, _, _, _, _, h⟩ := h; exact SqL.of (h _ _ hA)) ?_ ?_⟩
    · rintro i x σ H3 H3' hi ⟨lr, as, v7, rfl, h1, h2, la, s3⟩ ⟨rfl, hx⟩
      rw [List.length_map] at hi
      have hi : i < L.n := hi
      have hx' : x = .str (L.nm i) := Option.some.inj (hx.symm.trans (map_get (nm_at hi)))
      subst hx'
      refine ⟨_, rfl, _, rfl, _, rfl, fun D hD => lc_it walk_str (fun j H4 => ∃ bs : List Addr, H4 D = some (.lst (bs.map V.ref)) ∧ Tups H4 bs (((sg.take j).map ((L.srt sg).row i)).map Row.v) ∧ bs.length = j ∧ Same H3' H4) ⟨[], upd_same, trivial, rfl, Same.put (Same.refl _) hD⟩ (fun _ _ _ _ => trivial) ?_ ?_⟩
      · rintro j x H4 H4' hj ⟨bs, g1, g2, lb, g3⟩ ⟨rfl, c, hc, rfl⟩
        have hc' : sg[j]? = some c := k_in_S hc
        rw [S_size] at hj
        have cm : c ∈ L.sg := hsg.mem_iff.mp (List.mem_of_getElem? hc')
        have s4 := s3.trans g3
        refine ⟨rfl, _, rfl, _, rfl, by show 2 ≤ sizeLine; decide, fun u hu => ?_⟩
        have s5 := Same.put (o := .tup [.str (L.nm i), .str ⟨#[c]⟩]) s4 hu
        have g5 := Same.put (o := .tup [.str (L.nm i), .str ⟨#[c]⟩]) g3 hu
        have gD5 : (L2.upd H4' u (.tup [.str (L.nm i), .str ⟨#[c]⟩])) D = some (.lst (bs.map V.ref)) := (upd_ne (ne_of_none g1 hu)).trans g1
        have hu5 : (L2.upd H4' u (.tup [.str (L.nm i), .str ⟨#[c]⟩])) u = some (.tup [.str (L.nm i), .str ⟨#[c]⟩]) := upd_same
        have g25 := g2.same (Same.put (o := .tup [.str (L.nm i), .str ⟨#[c]⟩]) (Same.refl _) hu)
        generalize L2.upd H4' u (.tup [.str (L.nm i), .str ⟨#[c]⟩]) = H5 at s5 g5 gD5 hu5 g25 ⊢
        refine ⟨_, rfl, _, rfl, _, rfl, by show 2 ≤ sizeLine; decide, fun u2 hu2 => ?_⟩
        have s6 := Same.put (o := .tup [.str (L.nm i), .str ⟨#[c]⟩]) s5 hu2
        have g6 := Same.put (o := .tup [.str (L.nm i), .str ⟨#[c]⟩]) g5 hu2
        have gD6 : (L2.upd H5 u2 (.tup [.str (L.nm i), .str ⟨#[c]⟩])) D = some (.lst (bs.map V.ref)) := (upd_ne (ne_of_none gD5 hu2)).trans gD5
        have hu6 : (L2.upd H5 u2 (.tup [.str (L.nm i), .str ⟨#[c]⟩])) u = some (.tup [.str (L.nm i), .str ⟨#[c]⟩]) := (upd_ne (ne_of_none hu5 hu2)).trans hu5
        have hu26 : (L2.upd H5 u2 (.tup [.str (L.nm i), .str ⟨#[c]⟩])) u2 = some (.tup [.str (L.nm i), .str ⟨#[c]⟩]) := upd_same
        have g26 := g25.same (Same.put (o := .tup [.str (L.nm i), .str ⟨#[c]⟩]) (Same.refl _) hu2)
        generalize L2.upd H5 u2 (.tup [.str (L.nm i), .str ⟨#[c]⟩]) = H6 at s6 g6 gD6 hu6 hu26 g26 ⊢
        obtain ⟨t, val, ht⟩ := e2 i c hi cm
        refine ⟨Sd, .ref t, rfl, val ▸ DGet.t (k := kk (L.nm i, S [c])) (s6 _ _ hS) hu26, ?_⟩
        refine ⟨u, t, _, _, rfl, rfl, SqT.of hu6, SqT.of (s6 _ _ ht), List.cons_ne_nil _ _, by show 4 ≤ sizeLine; decide, (fun z => nomatch z), fun _ z hz => ?_⟩
        have s7 := Same.put (o := .tup ([.str (L.nm i), .str ⟨#[c]⟩] ++ [.str (L.nm (L.nx i c)), .int (L.am i c)])) (Same.refl H6) hz
        refine ⟨_, s7 _ _ gD6, by rw [List.length_map, sizeLine_eq]; omega, bs ++ [z], ?_, ?_, by rw [List.length_append, lb] <;> rfl, ?_⟩
        · rw [upd_same, List.map_append] <;> rfl
        · rw [take_more hc', List.map_append, List.map_append]
          exact Tups.but (fun x => by intro q; cases q) (s7 _ _ gD6) (But.here (But.refl D _)) (Tups.snoc upd_same (g26.same s7))
        · exact Same.new' (g6.trans s7) hD
      · rintro H4 ⟨bs, g1, g2, lb, g3⟩
        rw [S_size, List.take_length] at g2
        rw [S_size] at lb
        refine ⟨lr, D, _, _, rfl, rfl, g3 _ _ h1, g1, ?_, fun lr' hlr => ?_⟩
        · rw [List.length_map, List.length_map, la, lb, sizeLine_eq]
          have : i * sg.length ≤ 5 * 4 := Nat.mul_le_mul (by omega) (by omega)
          omega
        · have s5 := Same.put (o := .lst (as.map V.ref ++ bs.map V.ref)) (Same.refl H4) hlr
          refine ⟨lr', as ++ bs, _, rfl, ?_, ?_, ?_, (s3.trans g3).trans s5⟩
          · rw [upd_same, List.map_append]
          · rw [show ((List.range (i + 1)).flatMap fun i => sg.map ((L.srt sg).row i)) = _ from rows_take (L := L.srt sg) i, List.map_append]
            exact Tups.append ((h2.same g3).same s5) (g2.same s5)
          · rw [List.length_append, la, lb, Nat.add_mul, Nat.one_mul]
    · rintro σ H3 ⟨lr, as, v7, rfl, h1, h2, la, s3⟩
      rw [List.length_map] at h2 la
      have h2 : Tups H3 as ((L.srt sg).rows.map Row.v) := h2
      refine ⟨_, rfl, A, rfl, ⟨_, SqL.of (s3 _ _ hA)⟩, fun D hD => lc_it (walk_list (xs := L.st.map V.str)) (fun i H4 => ∃ bs : List Addr, H4 D = some (.lst (bs.map V.ref)) ∧ Tups H4 bs (((List.range i).map L.turn).map Trn.v) ∧ bs.length = i ∧ Same H3 H4) ⟨[], upd_same, trivial, rfl, Same.put (Same.refl _) hD⟩ (fun _ _ _ h => by obtain ⟨_, _, _, _, h⟩ := h; exact SqL.of (h _ _ (s3 _ _ hA))) ?_ ?_⟩
      · rintro i x H4 H4' hi ⟨bs, g1, g2, lb, g3⟩ ⟨rfl, hx⟩
        rw [List.length_map] at hi
        have hi : i < L.n := hi
        have hx' : x = .str (L.nm i) := Option.some.inj (hx.symm.trans (map_get (nm_at hi)))
        subst hx'
        have s4 := s3.trans g3
        refine ⟨rfl, _, rfl, by show 1 ≤ sizeLine; decide, fun u hu => ?_⟩
        have s5 := Same.put (o := .tup [.str (L.nm i)]) s4 hu
        have g5 := Same.put (o := .tup [.str (L.nm i)]) g3 hu
        have gD5 : (L2.upd H4' u (.tup [.str (L.nm i)])) D = some (.lst (bs.map V.ref)) := (upd_ne (ne_of_none g1 hu)).trans g1
        have hu5 : (L2.upd H4' u (.tup [.str (L.nm i)])) u = some (.tup [.str (L.nm i)]) := upd_same
        have g25 := g2.same (Same.put (o := .tup [.str (L.nm i)]) (Same.refl _) hu)
        generalize L2.upd H4' u (.tup [.str (L.nm i)]) = H5 at s5 g5 gD5 hu5 g25 ⊢
        obtain ⟨t, val, ht⟩ := e1 i hi
        refine ⟨_, rfl, _, rfl, Ed, .ref t, rfl, val ▸ DGet.k (k := k1 (L.nm i)) (s5 _ _ hE), ?_⟩
        refine ⟨u, t, _, _, rfl, rfl, SqT.of hu5, SqT.of (s5 _ _ ht), List.cons_ne_nil _ _, by show 3 ≤ sizeLine; decide, (fun z => nomatch z), fun _ z hz => ?_⟩
        have s7 := Same.put (o := .tup ([.str (L.nm i)] ++ [.str (L.nm (L.tn i)), .int (L.ta i)])) (Same.refl H5) hz
        refine ⟨_, s7 _ _ gD5, by rw [List.length_map, sizeLine_eq]; omega, bs ++ [z], ?_, ?_, by rw [List.length_append, lb] <;> rfl, ?_⟩
        · rw [upd_same, List.map_append] <;> rfl
        · rw [List.range_succ, List.map_append, List.map_append]
          exact Tups.but (fun x => by intro q; cases q) (s7 _ _ gD5) (But.here (But.refl D _)) (Tups.snoc upd_same (g25.same s7))
        · exact Same.new' (g5.trans s7) hD
      · rintro H4 ⟨bs, g1, g2, lb, g3⟩
        rw [List.length_map] at g2 lb
        have g2 : Tups H4 bs ((L.srt sg).turns.map Trn.v) := g2
        have s4 := s3.trans g3
        refine ⟨_, rfl, _, rfl, A, _, rfl, .inl ⟨SqL.of (s4 _ _ hA), fun tA htA => ?_⟩⟩
        have s5 := Same.put (o := .tup (L.st.map V.str)) (Same.refl H4) htA
        have r5 : (L2.upd H4 tA (.tup (L.st.map V.str))) tA = some (.tup (L.st.map V.str)) := upd_same
        generalize L2.upd H4 tA (.tup (L.st.map V.str)) = H5 at s5 r5 ⊢
        refine ⟨_, rfl, lr, _, rfl, .inl ⟨SqL.of (s5 _ _ (g3 _ _ h1)), fun tR htR => ?_⟩⟩
        have s6 := Same.put (o := .tup (as.map V.ref)) (Same.refl H5) htR
        have r6 : (L2.upd H5 tR (.tup (as.map V.ref))) tR = some (.tup (as.map V.ref)) := upd_same
        generalize L2.upd H5 tR (.tup (as.map V.ref)) = H6 at s6 r6 ⊢
        have s46 := s5.trans s6
        refine ⟨_, rfl, D, _, rfl, .inl ⟨SqL.of (s46 _ _ g1), fun tU htU => ?_⟩⟩
        have s7 := Same.put (o := .tup (bs.map V.ref)) (Same.refl H6) htU
        have r7 : (L2.upd H6 tU (.tup (bs.map V.ref))) tU = some (.tup (bs.map V.ref)) := upd_same
        generalize L2.upd H6 tU (.tup (bs.map V.ref)) = H7 at s7 r7 ⊢
        have s47 := s46.trans s7
        have s07 := s4.trans s47
        refine ⟨_, rfl, A, rfl, ⟨_, SqL.of (s07 _ _ hA)⟩, fun D2 hD2 => lc_it (walk_list (xs := L.st.map V.str)) (fun i H8 => H8 D2 = some (.lst (((L.st.take i).filter fun z => decide (z ∈ os)).map V.str)) ∧ Same H7 H8) ⟨upd_same, Same.put (Same.refl _) hD2⟩ (fun _ _ _ h => SqL.of (h.2 _ _ (s07 _ _ hA))) ?_ ?_⟩
        · rintro i x H8 H8' hi ⟨y1, y2⟩ ⟨rfl, hx⟩
          rw [List.length_map] at hi
          have hx' : x = .str (L.nm i) := Option.some.inj (hx.symm.trans (map_get (nm_at hi)))
          subst hx'
          refine ⟨rfl, _, rfl, _, rfl, Ok, _, rfl, .inl (SqL.of (y2 _ _ (s07 _ _ hO))), rfl, flat_strs _, _, rfl, ?_⟩
          rw [show inV (.str (L.nm i)) (os.map V.str) = decide (L.nm i ∈ os) from inV_strs _ _]
          refine ite2 (fun q => ?_) (fun q => ?_)
          · refine ⟨_, rfl, _, y1, ?_, ?_, Same.new' y2 hD2⟩
            · rw [List.length_map, sizeLine_eq]
              have := List.length_filter_le (fun z => decide (z ∈ os)) (L.st.take i)
              have := List.length_take_le' i L.st
              omega
            · rw [upd_same, take_more (nm_at hi), List.filter_append, List.map_append]
              rw [show ([L.nm i].filter fun z => decide (z ∈ os)) = [L.nm i] from List.filter_cons_of_pos q] <;> rfl
          · refine ⟨?_, y2⟩
            rw [y1, take_more (nm_at hi), List.filter_append, show ([L.nm i].filter fun z => decide (z ∈ os)) = [] from List.filter_cons_of_neg q, List.append_nil]
        · rintro H8 ⟨y1, y2⟩
          rw [List.length_map, List.take_length, hos] at y1
          refine ⟨D2, _, rfl, .inl ⟨SqL.of y1, fun tY htY => ?_⟩⟩
          have s9 := Same.put (o := .tup (L.yes.map V.str)) (Same.refl H8) htY
          have r9 : (L2.upd H8 tY (.tup (L.yes.map V.str))) tY = some (.tup (L.yes.map V.str)) := upd_same
          generalize L2.upd H8 tY (.tup (L.yes.map V.str)) = H9 at s9 r9 ⊢
          have s79 := y2.trans s9
          refine ⟨by show 5 ≤ sizeLine; decide, fun r hr0 => ?_⟩
          have s10 := Same.put (o := .tup [.str (S sg), .ref tA, .ref tR, .ref tU, .ref tY]) (Same.refl H9) hr0
          have s010 : Same H (L2.upd H9 r (.tup [.str (S sg), .ref tA, .ref tR, .ref tU, .ref tY])) := (s07.trans s79).trans s10
          have z7 := s79.trans s10
          have z6 := s7.trans z7
          have z5 := s6.trans z6
          have z4 := s5.trans z5
          exact k r sg _ hsg srt ⟨tA, tR, tU, tY, as, bs, upd_same, z5 _ _ r5, z6 _ _ r6, (h2.same g3).same z4, z7 _ _ r7, g2.same z4, s10 _ _ r9⟩ (none_of_same (s07.trans s79) hr0) s010
end
end Wb
/-! loops of another row: the mathematics; _law_other -/
namespace Wb
open PySem L2 WbMin WbS Lz WbO WbT
abbrev sOther : Stmt := top 66
section
variable {L : LD}
theorem nd_at {α : Type} : ∀ {l : List α}, l.Nodup → ∀ {i j : Nat}, l[i]? = l[j]? → i < l.length → i = j
  | [], _, _, _, _, h => absurd h (Nat.not_lt_zero _)
  | _ :: _, _, 0, 0, _, _ => rfl
  | x :: l, nd, 0, j + 1, e, _ => by
    have e : some x = l[j]? := e
    exact absurd (List.mem_of_getElem? e.symm) (List.nodup_cons.mp nd).1
  | x :: l, nd, i + 1, 0, e, _ => by
    have e : l[i]? = some x := e
    exact absurd (List.mem_of_getElem? e) (List.nodup_cons.mp nd).1
  | _ :: l, nd, i + 1, j + 1, e, h => congrArg (· + 1) (nd_at (List.nodup_cons.mp nd).2 (i := i) (j := j) e (Nat.lt_of_succ_lt_succ h))
/-- one yes state put in or left out -/
def LD.flip (L : LD) (k : Nat) : LD := { L with ys := fun i => if i = k then !L.ys i else L.ys i }
theorem LD.Ok.flip (O : L.Ok) (k : Nat) : (L.flip k).Ok := ⟨O.sgs, O.sts, O.nxlt, O.tnlt⟩
theorem flip_other (O : L.Ok) {k : Nat} (hk : k < L.n) : ¬ SameRow (L.flip k) L := fun h => by
  have h1 : decide (L.nm k ∈ L.yes) = L.ys k := yes_at O hk
  have h2 : decide (L.nm k ∈ (L.flip k).yes) = (L.flip k).ys k := yes_at (O.flip k) hk
  have e : (L.flip k).ys k = !L.ys k := if_pos rfl
  rw [h.yes, h1, e] at h2
  cases q : L.ys k <;> rw [q] at h2 <;> cases h2
theorem rows_set (O : L.Ok) {i j c b : Nat} {m : Int} (hi : i < L.n) (hc : L.sg[j]? = some c) : (L.setR i c b m).rows = L.rows.set (i * L.sg.length + j) (L.newR i c b m) := by
  rw [setR_rows O hi]
  have nd := rows_key_nd O
  have ha := rows_at hi hc
  refine List.ext_getElem? fun q => ?_
  rw [List.getElem?_map, List.getElem?_set]
  by_cases e : i * L.sg.length + j = q
  · subst e
    have lt := (List.getElem?_eq_some_iff.mp ha).1
    rw [ha, if_pos rfl, if_pos lt, Option.map_some, if_pos ⟨rfl, rfl⟩]
  · rw [if_neg e]
    cases h : L.rows[q]? with
    | none => rfl
    | some ρ =>
      rw [Option.map_some, if_neg]
      rintro ⟨h1, h2⟩
      refine e ?_
      have k1 : (L.rows.map Row.k)[i * L.sg.length + j]? = some (L.nm i, S [c]) := by rw [List.getElem?_map, ha] <;> rfl
      have k2 : (L.rows.map Row.k)[q]? = some (L.nm i, S [c]) := by
        rw [List.getElem?_map, h, Option.map_some]
        show some (ρ.a, S [ρ.c]) = _
        rw [h1, h2]
      obtain ⟨l1, g1⟩ := List.getElem?_eq_some_iff.mp k1
      obtain ⟨l2, g2⟩ := List.getElem?_eq_some_iff.mp k2
      exact nd_at nd (k1.trans k2.symm) l1
theorem turns_set (O : L.Ok) {i b : Nat} {m : Int} (hi : i < L.n) : (L.setT i b m).turns = L.turns.set i (L.newT i b m) := by
  rw [setT_turns O hi]
  have nd : (L.turns.map Trn.a).Nodup := by rw [turns_a]; exact O.sts.nd
  have ha := turns_at hi
  refine List.ext_getElem? fun q => ?_
  rw [List.getElem?_map, List.getElem?_set]
  by_cases e : i = q
  · subst e
    have lt := (List.getElem?_eq_some_iff.mp ha).1
    rw [ha, if_pos rfl, if_pos lt, Option.map_some, if_pos (show (L.turn i).a = L.nm i from rfl)]
  · rw [if_neg e]
    cases h : L.turns[q]? with
    | none => rfl
    | some ρ =>
      rw [Option.map_some, if_neg]
      intro h1
      refine e ?_
      have k1 : (L.turns.map Trn.a)[i]? = some (L.nm i) := by rw [List.getElem?_map, ha] <;> rfl
      have k2 : (L.turns.map Trn.a)[q]? = some (L.nm i) := by rw [List.getElem?_map, h, Option.map_some, h1]
      obtain ⟨l1, g1⟩ := List.getElem?_eq_some_iff.mp k1
      obtain ⟨l2, g2⟩ := List.getElem?_eq_some_iff.mp k2
      exact nd_at nd (k1.trans k2.symm) l1
theorem setR_other (O : L.Ok) {i j c b : Nat} {m : Int} (hi : i < L.n) (hc : L.sg[j]? = some c) (ne : L.nm b ≠ L.nm (L.nx i c) ∨ m ≠ L.am i c) : ¬ SameRow (L.setR i c b m) L := fun h => by
  have e := h.rows
  rw [rows_set O hi hc] at e
  have ha := rows_at hi hc
  have lt := (List.getElem?_eq_some_iff.mp ha).1
  have q := congrArg (fun l => l[i * L.sg.length + j]?) e
  simp only [List.getElem?_set, if_pos, if_pos lt, ha] at q
  have q := Option.some.inj q
  have q1 : L.nm b = L.nm (L.nx i c) := congrArg Row.b q
  have q2 : m = L.am i c := congrArg Row.m q
  exact ne.elim (fun z => z q1) fun z => z q2
theorem setT_other (O : L.Ok) {i b : Nat} {m : Int} (hi : i < L.n) (ne : m ≠ L.ta i) : ¬ SameRow (L.setT i b m) L := fun h => by
  have e := h.turns
  rw [turns_set O hi] at e
  have ha := turns_at hi
  have lt := (List.getElem?_eq_some_iff.mp ha).1
  have q := congrArg (fun l => l[i]?) e
  simp only [List.getElem?_set, if_pos, if_pos lt, ha] at q
  exact ne (congrArg Trn.m (Option.some.inj q))
theorem flip_one (n1 : L.n = 1) : (L.yes = [] ∧ (L.flip 0).yes = L.st) ∨ (L.yes = L.st ∧ (L.flip 0).yes = []) := by
  have e1 : L.st = [L.nm 0] := by
    rw [st_is L, n1]
    rfl
  have e2 : L.yes = ([0].filter L.ys).map L.nm := by
    unfold LD.yes
    rw [n1]
    rfl
  have e3 : (L.flip 0).yes = ([0].filter (L.flip 0).ys).map L.nm := by
    show ((List.range L.n).filter (L.flip 0).ys).map L.nm = _
    rw [n1]
    rfl
  have e4 : (L.flip 0).ys 0 = !L.ys 0 := by
    show (if 0 = 0 then !L.ys 0 else L.ys 0) = _
    rw [if_pos rfl]
  rw [e1, e2, e3]
  cases q : L.ys 0 with
  | false =>
    rw [q] at e4
    exact .inl ⟨by rw [List.filter_cons_of_neg (by rw [q]; simp)] <;> rfl, by rw [List.filter_cons_of_pos (by rw [e4]; rfl)] <;> rfl⟩
  | true =>
    rw [q] at e4
    exact .inr ⟨by rw [List.filter_cons_of_pos q] <;> rfl, by rw [List.filter_cons_of_neg (by rw [e4]; simp)] <;> rfl⟩
theorem other_st (O : L.Ok) (n2 : 2 ≤ L.n) (b : Nat) : ∃ z e, (L.st.filter fun z => decide (z ≠ L.nm b))[0]? = some z ∧ e < L.n ∧ z = L.nm e ∧ L.nm e ≠ L.nm b := by
  have ex : ∃ e, e < L.n ∧ L.nm e ≠ L.nm b := by
    by_cases q : L.nm 0 = L.nm b
    · refine ⟨1, by omega, fun z => ?_⟩
      have := nm_inj O (i := 1) (j := 0) (by omega) (by omega) (z.trans q.symm)
      omega
    · exact ⟨0, by omega, q⟩
  obtain ⟨e, he, ne⟩ := ex
  have mem : L.nm e ∈ L.st.filter fun z => decide (z ≠ L.nm b) := List.mem_filter.mpr ⟨nm_mem he, decide_eq_true ne⟩
  have pos := List.length_pos_of_mem mem
  have h0 := List.getElem?_eq_getElem pos
  have m0 := List.mem_filter.mp (List.getElem_mem pos)
  obtain ⟨d, hd, ed⟩ := List.getElem_of_mem m0.1
  have hd' : d < L.n := hd
  have e2 : L.nm d = (L.st.filter fun z => decide (z ≠ L.nm b))[0] := by
    have := nm_at hd'
    rw [List.getElem?_eq_getElem hd, ed] at this
    exact (Option.some.inj this).symm
  exact ⟨_, d, h0, hd', e2.symm, by rw [e2]; exact of_decide_eq_true m0.2⟩
/-- the states told from the second one on, the first one last -/
def LD.rot (L : LD) : LD := { sg := L.sg, st := L.st.drop 1 ++ L.st.take 1, nx := fun i c => (L.nx ((i + 1) % L.n) c + (L.n - 1)) % L.n, am := fun i c => L.am ((i + 1) % L.n) c, tn := fun i => (L.tn ((i + 1) % L.n) + (L.n - 1)) % L.n, ta := fun i => L.ta ((i + 1) % L.n), ys := fun i => L.ys ((i + 1) % L.n) }
theorem rot_n (L : LD) (h : 0 < L.n) : L.rot.n = L.n := by
  show (L.st.drop 1 ++ L.st.take 1).length = L.st.length
  have h : 0 < L.st.length := h
  rw [List.length_append, List.length_drop, List.length_take]
  omega
theorem rot_nm (h : 0 < L.n) {i : Nat} (hi : i < L.n) : L.rot.nm i = L.nm ((i + 1) % L.n) := by
  have hn : L.rot.n = L.n := rot_n L h
  have e1 : L.rot.st[i]? = some (L.rot.nm i) := nm_at (by omega)
  have e2 : L.st[(i + 1) % L.n]? = some (L.nm ((i + 1) % L.n)) := nm_at (Nat.mod_lt _ h)
  have h' : 0 < L.st.length := h
  have hi' : i < L.st.length := hi
  have e3 : (L.st.drop 1 ++ L.st.take 1)[i]? = L.st[(i + 1) % L.st.length]? := by
    by_cases q : i + 1 < L.st.length
    · rw [List.getElem?_append_left (by rw [List.length_drop]; omega), List.getElem?_drop, Nat.mod_eq_of_lt q, Nat.add_comm]
    · have e : i + 1 = L.st.length := by omega
      rw [List.getElem?_append_right (by rw [List.length_drop]; omega), e, Nat.mod_self, List.length_drop, List.getElem?_take, show i - (L.st.length - 1) = 0 by omega, if_pos Nat.one_pos]
  have e4 : some (L.rot.nm i) = some (L.nm ((i + 1) % L.n)) := e1.symm.trans (e3.trans e2)
  exact Option.some.inj e4
theorem rot_back {n x : Nat} (hx : x < n) : ((x + (n - 1)) % n + 1) % n = x := by
  rw [Nat.add_mod, Nat.mod_mod, ← Nat.add_mod, show x + (n - 1) + 1 = x + n by omega, Nat.add_mod_right, Nat.mod_eq_of_lt hx]
theorem LD.Ok.rot (O : L.Ok) : L.rot.Ok := by
  have h : 0 < L.n := O.sts.pos
  have hn := rot_n L h
  have pm : (L.st.drop 1 ++ L.st.take 1).Perm L.st := List.perm_append_comm.trans (by rw [List.take_append_drop])
  refine ⟨O.sgs, ?_, fun i c hi hc => ?_, fun i hi => ?_⟩
  · exact ⟨fun z hz => O.sts.of z (pm.mem_iff.mp hz), pm.nodup_iff.mpr O.sts.nd, by show 0 < L.rot.n; rw [hn]; exact h, by show L.rot.n ≤ 6; rw [hn]; exact O.sts.few⟩
  · rw [hn]
    exact Nat.mod_lt _ h
  · rw [hn]
    exact Nat.mod_lt _ h
theorem rot_other (O : L.Ok) (h2 : 2 ≤ L.n) : ¬ SameRow L.rot L := fun h => by
  have h0 : 0 < L.n := O.sts.pos
  have e := rot_nm h0 h0
  have e1 : L.rot.nm 0 = L.nm 0 := by
    show L.rot.st.getD 0 (S []) = L.st.getD 0 (S [])
    rw [h.st]
  rw [e1, Nat.mod_eq_of_lt (by omega)] at e
  have := nm_inj O h0 (by omega) e
  omega
end
theorem ifJ {a b : Int} {A B : Prop} (h : a = b) (k : A) : if decide (V.int a = V.int b) = true then A else B := by
  rw [h, decide_eq_true rfl, if_pos rfl]
  exact k
theorem ifK {a b : Int} {A B : Prop} (h : a ≠ b) (k : B) : if decide (V.int a = V.int b) = true then A else B := by
  rw [decide_eq_false fun z => h (by injection z), if_neg Bool.false_ne_true]
  exact k
theorem ifG {a b : Int} {A B : Prop} (h : ¬ a < b) (k : B) : if decide (a < b) = true then A else B := by
  rw [decide_eq_false h, if_neg Bool.false_ne_true]
  exact k
theorem ifH {a b : Int} {A B : Prop} (h : a < b) (k : A) : if decide (a < b) = true then A else B := by
  rw [decide_eq_true h, if_pos rfl]
  exact k
theorem ixN_at {n j : Nat} (hj : j < n) : ixN n (j : Int) = some j := by
  unfold ixN
  rw [if_pos (by omega), if_pos (by omega)]
  simp
theorem tups_set {H : Hp} {z : Addr} {x : List V} (hz : H z = some (.tup x)) : ∀ {as : List Addr} {xs : List (List V)} (j : Nat), Tups H as xs → Tups H (as.set j z) (xs.set j x)
  | [], [], _, _ => trivial
  | _ :: _, _ :: _, 0, h => ⟨hz, h.2⟩
  | _ :: _, _ :: _, j + 1, h => ⟨h.1, tups_set hz j h.2⟩
  | [], _ :: _, _, h => h.elim
  | _ :: _, [], _, h => h.elim
def spOther : Sp := fun vs H Q _ => ∃ (p q : Addr) (L : LD), vs = [.ref p, .ref q] ∧ L.Ok ∧ MdAt H q L ∧ PoolAt H p ∧
  ∀ (r : Addr) (sg : List Nat) (M : LD) (H' : Hp), sg.Perm L.sg → PyProof.Rows.sortedS (sg.map sOne) = true → M.Ok → M.sg = sg → RowAt H' r M → ¬ SameRow M (L.srt sg) → PoolAt H' p → But p H H' → Q (.ref r) H'
section
variable {P : Program} {w : World} {K : PySem.W.Frag} {mg : Str → Option Value} {base : Heap} {f fD fL : Addr} {fd dD dL : FuncData}
abbrev NOt : List Str := ["_law_pool_here", "_law_model_here", "_law_line_here", "_law_way", "_law_lines", "_law_ends", "_law_oks", "_law_at", "_law_k", "_law_posts", "_law_later", "_law_post"]
theorem estO (p q : Addr) : L2.start NOt [V.ref p, V.ref q] = [some (V.ref p), some (V.ref q), none, none, none, none, none, none, none, none, none, none] := rfl
theorem scOt : FnScope NOt ["_law_pool_here", "_law_model_here"] (defScope sOther) := ⟨rfl, rfl, rfl, by decide +kernel, rfl, by decide +kernel, by decide +kernel⟩
set_option maxHeartbeats 0 in
theorem ok_other (F : Fun K "_law_other" "_law_other" sOther f fd) (DD : Def K mg "_law_draw" sDraw ["_law_pool_here", "_law_many"] fD dD) (DL : Def K mg "_law_line" sLine ["_law_model_here"] fL dL) (Z : Free mg) (mL : mg "list" = none) (mT : mg "tuple" = none) (mS : mg "sorted" = none) : FnOk P w K mg base CX0 2 f fd ["_law_pool_here", "_law_model_here"] spOther := by
  have GD : FnOk P w K mg base CX0 1 fD dD ["_law_pool_here", "_law_many"] spDraw := ok_draw DD.F Z.int Z.divmod
  have GL : FnOk P w K mg base CX0 1 fL dL ["_law_model_here"] spLine := ok_line DL.F mT mS
  have GG : FnOk P w K mg base CX0 1 fL dL ["_law_model_here"] spLineG := ok_lineG DL.F mT mS
  refine F.ok scOt (fun vs H Q E h => ?_) (fun cdv A outer s H vs Q E hr h => ?_)
  · obtain ⟨p, q, L, rfl, _⟩ := h
    rfl
  · obtain ⟨p, q, L, rfl, O, MD, hp, k⟩ := h
    refine ⟨_, pss_cons (ps_set (i := 2) scOt.nd rfl (.inr rfl) (pe_call GL hr rfl DL.g DL.kp DL.b .nil pass0 (pa_cons (pv 1) pa_nil)))
      (pss_cons (ps_set (i := 3) scOt.nd rfl (.inl rfl) (pe_call GD hr rfl DD.g DD.kp DD.b .nil pass0 (pa_cons (pv 0) (pa_cons pe_int pa_nil))))
      (pss_cons (ps_asg (pe_tup (pa_cons (pe_callTy call_list_of (by rfl) mL (by decide +kernel) (pa_cons (pe_ix ix_tup (pv 2) pe_int (fun _ _ => rfl)) pa_nil)) (pa_cons (pe_callTy call_list_of (by rfl) mL (by decide +kernel) (pa_cons (pe_ix ix_tup (pv 2) pe_int (fun _ _ => rfl)) pa_nil)) (pa_cons (pe_callTy call_list_of (by rfl) mL (by decide +kernel) (pa_cons (pe_ix ix_tup (pv 2) pe_int (fun _ _ => rfl)) pa_nil)) pa_nil))))
          (pg_tup (by rfl) (pgs_cons (pg_name (i := 4) scOt.nd rfl (by first | exact .inl rfl | exact .inr rfl)) (pgs_cons (pg_name (i := 5) scOt.nd rfl (by first | exact .inl rfl | exact .inr rfl)) (pgs_cons (pg_name (i := 6) scOt.nd rfl (by first | exact .inl rfl | exact .inr rfl)) pgs_nil)))))
      (pss_cons (ps_asg (pe_tup (pa_cons (pe_call GD hr rfl DD.g DD.kp DD.b .nil pass0 (pa_cons (pv 0) (pa_cons (pe_callB call_len_seq (by rfl) Z.len PySem.boot_len (pa_cons (pv 4) pa_nil)) pa_nil))) (pa_cons (pe_call GD hr rfl DD.g DD.kp DD.b .nil pass0 (pa_cons (pv 0) (pa_cons (pe_callB call_len_seq (by rfl) Z.len PySem.boot_len (pa_cons (pv 5) pa_nil)) pa_nil))) pa_nil)))
          (pg_tup (by rfl) (pgs_cons (pg_name (i := 7) scOt.nd rfl (by first | exact .inl rfl | exact .inr rfl)) (pgs_cons (pg_name (i := 8) scOt.nd rfl (by first | exact .inl rfl | exact .inr rfl)) pgs_nil))))
      (pss_cons (ps_if (pt_cmpR op_eq (pv 3) pe_int (nomark _)) (pss_one (ps_asg (pe_op (show OpR _ _ (rCatT K) from op_catT) (pe_slice sl_tup (pe_ix ix_list (pv 4) (pv 7) (fun _ _ => rfl)) po_none (po_some pe_int)) (pe_tup (pa_cons (pe_op op_add (pe_ix ix_tup (pe_ix ix_list (pv 4) (pv 7) (fun _ _ => rfl)) pe_int (fun _ _ => rfl)) pe_int) pa_nil))) (pg_sub (pv 4) (pv 7) set_list))) pss_nil)
      (pss_cons (ps_if (pt_cmpR op_eq (pv 3) pe_int (nomark _)) (pss_one (ps_asg (pe_op (show OpR _ _ (rCatT K) from op_catT) (pe_slice sl_tup (pe_ix ix_list (pv 5) (pv 8) (fun _ _ => rfl)) po_none (po_some pe_int)) (pe_tup (pa_cons (pe_op op_sub (pe_ix ix_tup (pe_ix ix_list (pv 5) (pv 8) (fun _ _ => rfl)) pe_int (fun _ _ => rfl)) pe_int) pa_nil))) (pg_sub (pv 5) (pv 8) set_list))) pss_nil)
      (pss_cons (ps_if (pt_cmpR op_eq (pv 3) pe_int (nomark _)) (pss_one (ps_set (i := 6) scOt.nd rfl (.inr rfl) (pe_lc (own := [("_law_post", 11)]) (g := gName 11) rfl scOt.nd (pi_tup (pe_ix ix_tup (pv 2) pe_int (fun _ _ => rfl))) (blkOk_by (N := NOt) (sc := defScope sOther) (by decide +kernel)) (fun _ _ _ _ _ => pg_name (i := 11) scOt.nd rfl (.inl rfl))
          (fun _ _ _ _ _ => pts_one (pt_cmpR op_ne (pe_cmpR (show OpR _ _ (rIn K false) from op_in_seq) (pv 11) (pv 6) (by rfl)) (pe_cmpR op_eq (pv 11) (pe_ix (show IxR _ (rIxT K) from ix_tup) (pe_ix (show IxR _ (rIxT K) from ix_tup) (pv 2) pe_int (fun _ _ => rfl)) (pv 8) (fun _ _ => rfl)) (nomark _)) (nomark _)))
          (fun _ _ _ _ _ => pv 11)))) pss_nil)
      (pss_cons (ps_if (PW.pt (pw_and (pt_cmpR op_gt (pv 3) pe_int (nomark _)) (pw_and1 (pt_cmpR op_eq (pe_callB call_len_seq (by rfl) Z.len PySem.boot_len (pa_cons (pe_ix ix_tup (pv 2) pe_int (fun _ _ => rfl)) pa_nil)) pe_int (nomark _)))))
          (pss_one (ps_ret (pe_op (show OpR _ _ (rCatT K) from op_catT) (pe_slice sl_tup (pv 2) po_none (po_some pe_int)) (pe_tup (pa_cons (pe_slice (show SlR _ (rSlA K) from sl_tupA) (pe_ix ix_tup (pv 2) pe_int (fun _ _ => rfl)) (po_some (pe_callB call_len_seq (by rfl) Z.len PySem.boot_len (pa_cons (pv 6) pa_nil))) po_none) pa_nil))))) pss_nil)
      (pss_cons (ps_if (pt_cmpR op_eq (pv 3) pe_int (nomark _))
          (pss_cons (ps_set (i := 9) scOt.nd rfl (.inl rfl) (pe_op op_cat (pe_slice sl_list (pe_ix ix_list (pv 1) pe_int (fun _ _ => rfl)) (po_some pe_int) po_none) (pe_slice sl_list (pe_ix ix_list (pv 1) pe_int (fun _ _ => rfl)) po_none (po_some pe_int))))
          (pss_one (ps_ret (pe_call GG hr rfl DL.g DL.kp DL.b .nil pass0 (pa_cons (pe_lst (pa_cons (pe_ix ix_list (pv 1) pe_int (fun _ _ => rfl)) (pa_cons (pv 9) (pa_cons (pe_ix ix_list (pv 1) pe_int (fun _ _ => rfl)) (pa_cons (pe_ix ix_list (pv 1) pe_int (fun _ _ => rfl)) (pa_cons (pe_ix ix_list (pv 1) pe_int (fun _ _ => rfl)) pa_nil)))))) pa_nil))))) pss_nil)
      (pss_cons (ps_if (pt_cmpR op_eq (pv 3) pe_int (nomark _))
          (pss_cons (ps_setLc (i := 10) (own := [("_law_post", 11)]) (g := gName 11) rfl scOt.nd rfl rfl (sw_true rfl rfl rfl (by decide +kernel)) (pi_tup (pe_ix ix_tup (pv 2) pe_int (fun _ _ => rfl))) (blkOk_by (N := NOt) (sc := defScope sOther) (by decide +kernel)) (fun _ _ _ _ _ => pg_name (i := 11) scOt.nd rfl (.inl rfl))
              (fun _ _ _ _ _ => pts_one (pt_cmpR op_ne (pv 11) (pe_ix (show IxR _ (rIxT K) from ix_tup) (pe_ix (show IxR _ (rIxL K) from ix_list) (pv 4) (pv 7) (fun _ _ => rfl)) pe_int (fun _ _ => rfl)) (nomark _)))
              (fun _ _ _ _ _ => pv 11))
          (pss_one (ps_asg (pe_op (show OpR _ _ (rCatT K) from op_catT) (pe_slice sl_tup (pe_ix ix_list (pv 4) (pv 7) (fun _ _ => rfl)) po_none (po_some pe_int)) (pe_tup (pa_cons (pe_ix ix_list (pv 10) pe_int (fun _ _ => rfl)) (pa_cons (pe_ix ix_tup (pe_ix ix_list (pv 4) (pv 7) (fun _ _ => rfl)) pe_int (fun _ _ => rfl)) pa_nil)))) (pg_sub (pv 4) (pv 7) set_list)))) pss_nil)
      (pss_one (ps_ret (pe_tup (pa_cons (pe_ix ix_tup (pv 2) pe_int (fun _ _ => rfl)) (pa_cons (pe_ix ix_tup (pv 2) pe_int (fun _ _ => rfl)) (pa_cons (pe_callTy call_tuple_of (by rfl) mT (by decide +kernel) (pa_cons (pv 4) pa_nil)) (pa_cons (pe_callTy call_tuple_of (by rfl) mT (by decide +kernel) (pa_cons (pv 5) pa_nil)) (pa_cons (pe_callTy call_tuple_of (by rfl) mT (by decide +kernel) (pa_cons (pv 6) pa_nil)) pa_nil))))))))))))))))), ?_⟩
    refine ⟨_, rfl, q, L, rfl, O, MD, fun ql sg H1 psg srt RA n1 s1 => ?_⟩
    have OS := O.srt psg
    have sgp : 0 < sg.length := OS.sgs.pos
    have sgf : sg.length ≤ 4 := OS.sgs.few
    have n0 : 0 < L.n := O.sts.pos
    have n6 : L.n ≤ 6 := O.sts.few
    have tl := turns_length L
    obtain ⟨t, rr, u, y, as, bs, h0, ht, hrr, hT, hu, hU, hy⟩ := RA
    have ht : H1 t = some (.tup (L.st.map V.str)) := ht
    have hy : H1 y = some (.tup (L.yes.map V.str)) := hy
    have hU : Tups H1 bs (L.turns.map Trn.v) := hU
    have lb : bs.length = L.n := by rw [hU.length, List.length_map, tl]
    have rf := rows_few OS
    have la : as.length = L.n * sg.length := by
      rw [hT.length, List.length_map, rows_length]
      rfl
    have la0 : 0 < as.length := by rw [la]; exact Nat.mul_pos n0 sgp
    have la1 : as.length ≤ 6 * 4 := by rw [la]; exact Nat.mul_le_mul n6 sgf
    have yf : L.yes.length ≤ 6 := yes_few O
    have hp1 := hp.same s1
    have b1 : But p H H1 := But.of s1
    refine ⟨_, rfl, p, _, rfl, by decide, by decide, hp1, fun w H2 w0 w5 hp2 b2 => ?_⟩
    have k2 := Tk.but hp1 b2
    -- lists
    refine ⟨_, rfl, ql, _, _, _, rfl, rfl, SqT.of (k2 _ _ h0), atI_nat (j := 2) rfl, rr, _, rfl, .inr (SqT.of (k2 _ _ hrr)), fun l4 hl4 => ?_⟩
    have s3 := Same.put (o := .lst (as.map V.ref)) (Same.refl H2) hl4
    have h4 : (L2.upd H2 l4 (.lst (as.map V.ref))) l4 = some (.lst (as.map V.ref)) := upd_same
    generalize L2.upd H2 l4 (.lst (as.map V.ref)) = H3 at s3 h4 ⊢
    have k3 := k2.trans (Tk.of s3)
    refine ⟨_, rfl, ql, _, _, _, rfl, rfl, SqT.of (k3 _ _ h0), atI_nat (j := 3) rfl, u, _, rfl, .inr (SqT.of (k3 _ _ hu)), fun l5 hl5 => ?_⟩
    have ne45 : l4 ≠ l5 := ne_of_none h4 hl5
    have s4 := Same.put (o := .lst (bs.map V.ref)) (Same.refl H3) hl5
    have h5 : (L2.upd H3 l5 (.lst (bs.map V.ref))) l5 = some (.lst (bs.map V.ref)) := upd_same
    generalize L2.upd H3 l5 (.lst (bs.map V.ref)) = H4 at s4 h5 ⊢
    have k4 := k3.trans (Tk.of s4)
    have h4 := s4 _ _ h4
    refine ⟨_, rfl, ql, _, _, _, rfl, rfl, SqT.of (k4 _ _ h0), atI_nat (j := 4) rfl, y, _, rfl, .inr (SqT.of (k4 _ _ hy)), fun l6 hl6 => ?_⟩
    have ne46 : l4 ≠ l6 := ne_of_none h4 hl6
    have ne56 : l5 ≠ l6 := ne_of_none h5 hl6
    have s5 := Same.put (o := .lst (L.yes.map V.str)) (Same.refl H4) hl6
    have h6 : (L2.upd H4 l6 (.lst (L.yes.map V.str))) l6 = some (.lst (L.yes.map V.str)) := upd_same
    generalize L2.upd H4 l6 (.lst (L.yes.map V.str)) = H5 at s5 h6 ⊢
    have h4 := s5 _ _ h4
    have h5 := s5 _ _ h5
    refine ⟨by show 3 ≤ sizeLine; decide, fun t1 ht1 => ?_⟩
    have s6 := Same.put (o := .tup [.ref l4, .ref l5, .ref l6]) (Same.refl H5) ht1
    have g1 : (L2.upd H5 t1 (.tup [.ref l4, .ref l5, .ref l6])) t1 = some (.tup [.ref l4, .ref l5, .ref l6]) := upd_same
    generalize L2.upd H5 t1 (.tup [.ref l4, .ref l5, .ref l6]) = H6 at s6 g1 ⊢
    refine ⟨t1, _, rfl, SqT.of g1, rfl, _, _, rfl, _, _, rfl, _, _, rfl, rfl, ?_⟩
    have h4 := s6 _ _ h4
    have h5 := s6 _ _ h5
    have h6 := s6 _ _ h6
    have hp6 := (((hp2.same s3).same s4).same s5).same s6
    have n4p : l4 ≠ p := (hp2.ne hl4)
    have n5p : l5 ≠ p := ((hp2.same s3).ne hl5)
    have n6p : l6 ≠ p := (((hp2.same s3).same s4).ne hl6)
    -- the places
    refine ⟨_, rfl, _, rfl, l4, _, rfl, .inl (SqL.of h4), p, _, rfl, by rw [List.length_map]; omega, by rw [List.length_map]; omega, hp6, fun a' H7 a0 a1 hp7 b7 => ?_⟩
    rw [List.length_map] at a1
    have h4 := b7 _ _ n4p h4
    have h5 := b7 _ _ n5p h5
    have h6 := b7 _ _ n6p h6
    refine ⟨_, rfl, _, rfl, l5, _, rfl, .inl (SqL.of h5), p, _, rfl, by rw [List.length_map]; omega, by rw [List.length_map]; omega, hp7, fun k' H8 d0 d1 hp8 b8 => ?_⟩
    rw [List.length_map] at d1
    have h4 := b8 _ _ n4p h4
    have h5 := b8 _ _ n5p h5
    have h6 := b8 _ _ n6p h6
    obtain ⟨at', rfl⟩ := nat_of a0
    obtain ⟨kk', rfl⟩ := nat_of d0
    refine ⟨by show 2 ≤ sizeLine; decide, fun t2 ht2 => ?_⟩
    have s9 := Same.put (o := .tup [.int (at' : Nat), .int (kk' : Nat)]) (Same.refl H8) ht2
    have g2 : (L2.upd H8 t2 (.tup [.int (at' : Nat), .int (kk' : Nat)])) t2 = some (.tup [.int (at' : Nat), .int (kk' : Nat)]) := upd_same
    generalize L2.upd H8 t2 (.tup [.int (at' : Nat), .int (kk' : Nat)]) = H9 at s9 g2 ⊢
    refine ⟨t2, _, rfl, SqT.of g2, rfl, _, _, rfl, _, _, rfl, rfl, ?_⟩
    have h4 := s9 _ _ h4
    have h5 := s9 _ _ h5
    have h6 := s9 _ _ h6
    have hp9 := hp8.same s9
    have b69 : But p H1 H9 := b2.trans (((((But.of s3).trans (But.of s4)).trans (But.of s5)).trans (But.of s6)).trans (b7.trans (b8.trans (But.of s9))))
    have k9 := Tk.but hp1 b69
    have b9 := b1.trans b69
    have MD9 := MD.but hp b9
    have hka : kk' < L.n := by omega
    have haa : at' < as.length := by omega
    have h0 := k9 _ _ h0
    have ht := k9 _ _ ht
    have hrr := k9 _ _ hrr
    have hu := k9 _ _ hu
    have hy := k9 _ _ hy
    have hT := hT.tk k9
    have hU := hU.tk k9
    have x4 : H l4 = none := (b1.trans b2).free hl4 n4p
    have x5 : H l5 = none := ((b1.trans b2).trans (But.of s3)).free hl5 n5p
    clear k2 k3 k4 k9 s3 s4 s5 s6 b7 b8 s9 g1 g2 hp1 hp2 hp6 hp7 hp8 b2 b69
    obtain ⟨i, j, c, hi, hc, eat⟩ : ∃ i j c, i < L.n ∧ sg[j]? = some c ∧ at' = i * sg.length + j := by
      have hj := Nat.mod_lt at' sgp
      refine ⟨at' / sg.length, at' % sg.length, _, Nat.div_lt_of_lt_mul (by rw [Nat.mul_comm, ← la]; exact haa), List.getElem?_eq_getElem hj, ?_⟩
      rw [Nat.mul_comm]
      exact (Nat.div_add_mod _ _).symm
    have cm : c ∈ (L.srt sg).sg := List.mem_of_getElem? hc
    have hro : (L.srt sg).rows[at']? = some ((L.srt sg).row i c) := by rw [eat]; exact rows_at (L := L.srt sg) hi hc
    obtain ⟨a, haq⟩ : ∃ a, as[at']? = some a := ⟨_, List.getElem?_eq_getElem haa⟩
    obtain ⟨b, hbq⟩ : ∃ b, bs[kk']? = some b := ⟨_, List.getElem?_eq_getElem (by omega)⟩
    have hav : H9 a = some (.tup [.str (L.nm i), .str (S [c]), .str (L.nm (L.nx i c)), .int (L.am i c)]) := hT.get haq (by rw [List.getElem?_map, hro] <;> rfl)
    have hbv : H9 b = some (.tup [.str (L.nm kk'), .str (L.nm (L.tn kk')), .int (L.ta kk')]) := hU.get hbq (by rw [List.getElem?_map, turns_at hka] <;> rfl)
    have hav4 : (as.map V.ref)[at']? = some (.ref a) := by rw [List.getElem?_map, haq] <;> rfl
    have hbv5 : (bs.map V.ref)[kk']? = some (.ref b) := by rw [List.getElem?_map, hbq] <;> rfl
    dsimp only [estO, List.set]
    have wc : w = 0 ∨ w = 1 ∨ w = 2 ∨ w = 3 ∨ w = 4 := by omega
    rcases wc with rfl | rfl | rfl | rfl | rfl
    · -- WAY0
      refine ⟨_, rfl, rfl, _, rfl, ifJ rfl ?_⟩
      refine ⟨_, rfl, _, rfl, l4, _, _, _, rfl, rfl, SqL.of h4, atI_nat hav4, _, rfl, a, _, rfl, SqT.of hav, ?_, fun e1 he1 => ?_⟩
      · rintro ⟨_, q⟩
        exact absurd (show HT.sIx 4 4 (some 3) = 4 from q) (by decide)
      rw [show cutV [V.str (L.nm i), .str (S [c]), .str (L.nm (L.nx i c)), .int (L.am i c)] none (some 3) = [.str (L.nm i), .str (S [c]), .str (L.nm (L.nx i c))] from rfl]
      have v1 := Same.put (o := .tup [.str (L.nm i), .str (S [c]), .str (L.nm (L.nx i c))]) (Same.refl H9) he1
      have f1 : (L2.upd H9 e1 (.tup [.str (L.nm i), .str (S [c]), .str (L.nm (L.nx i c))])) e1 = some (.tup [.str (L.nm i), .str (S [c]), .str (L.nm (L.nx i c))]) := upd_same
      generalize L2.upd H9 e1 (.tup [.str (L.nm i), .str (S [c]), .str (L.nm (L.nx i c))]) = H10 at v1 f1 ⊢
      refine ⟨_, rfl, _, rfl, l4, _, _, _, rfl, rfl, SqL.of (v1 _ _ h4), atI_nat hav4, a, _, _, _, rfl, rfl, SqT.of (v1 _ _ hav), atI_nat (j := 3) rfl, _, _, rfl, rfl, by show 1 ≤ sizeLine; decide, fun e2 he2 => ?_⟩
      have v2 := Same.put (o := .tup [.int (L.am i c + 1)]) (Same.refl H10) he2
      have f2 : (L2.upd H10 e2 (.tup [.int (L.am i c + 1)])) e2 = some (.tup [.int (L.am i c + 1)]) := upd_same
      generalize L2.upd H10 e2 (.tup [.int (L.am i c + 1)]) = H11 at v2 f2 ⊢
      refine ⟨e1, e2, _, _, rfl, rfl, SqT.of (v2 _ _ f1), SqT.of f2, List.cons_ne_nil _ _, by show 4 ≤ sizeLine; decide, (fun z => nomatch z), fun _ z hz => ?_⟩
      have v3 := Same.put (o := .tup ([.str (L.nm i), .str (S [c]), .str (L.nm (L.nx i c))] ++ [.int (L.am i c + 1)])) (Same.refl H11) hz
      have f3 : (L2.upd H11 z (.tup ([.str (L.nm i), .str (S [c]), .str (L.nm (L.nx i c))] ++ [.int (L.am i c + 1)]))) z = some (.tup [.str (L.nm i), .str (S [c]), .str (L.nm (L.nx i c)), .int (L.am i c + 1)]) := upd_same
      generalize L2.upd H11 z (.tup ([.str (L.nm i), .str (S [c]), .str (L.nm (L.nx i c))] ++ [.int (L.am i c + 1)])) = H12 at v3 f3 ⊢
      have v12 := (v1.trans v2).trans v3
      have h4' := v12 _ _ h4
      refine ⟨_, rfl, _, rfl, l4, _, _, _, rfl, rfl, h4', ixN_at (by rw [List.length_map]; exact haa), ?_⟩
      rw [← List.map_set (f := V.ref) (i := at') (a := z)]
      have f4 : (L2.upd H12 l4 (.lst ((as.set at' z).map V.ref))) l4 = some (.lst ((as.set at' z).map V.ref)) := upd_same
      have b13 : But p H (L2.upd H12 l4 (.lst ((as.set at' z).map V.ref))) := (b9.trans (But.of v12)).new x4
      have hp13 : PoolAt (L2.upd H12 l4 (.lst ((as.set at' z).map V.ref))) p := (hp9.same v12).put n4p
      have t13 : Tk H12 (L2.upd H12 l4 (.lst ((as.set at' z).map V.ref))) := Tk.put h4' (fun x => by intro q; cases q)
      have o13 : ∀ l o, l ≠ l4 → H9 l = some o → (L2.upd H12 l4 (.lst ((as.set at' z).map V.ref))) l = some o := fun l o n h => (upd_ne n).trans (v12 _ _ h)
      generalize L2.upd H12 l4 (.lst ((as.set at' z).map V.ref)) = H13 at f4 b13 hp13 t13 o13 ⊢
      have t913 : Tk H9 H13 := (Tk.of v12).trans t13
      refine ⟨_, rfl, rfl, _, rfl, ifK (by decide) ?_⟩
      refine ⟨_, rfl, rfl, _, rfl, ifK (by decide) ?_⟩
      refine ⟨_, rfl, _, _, rfl, rfl, _, rfl, ifG (by decide) (iteF ?_)⟩
      refine ⟨_, rfl, rfl, _, rfl, ifK (by decide) ?_⟩
      refine ⟨_, rfl, rfl, _, rfl, ifK (by decide) ?_⟩
      refine ⟨_, rfl, ql, _, _, _, rfl, rfl, SqT.of (t913 _ _ h0), atI_nat (j := 0) rfl, _, rfl, ql, _, _, _, rfl, rfl, SqT.of (t913 _ _ h0), atI_nat (j := 1) rfl, ?_⟩
      refine ⟨_, rfl, l4, _, rfl, .inl ⟨SqL.of (f4), fun x1 hx1 => ?_⟩⟩
      have z1 := Same.put (o := .tup ((as.set at' z).map V.ref)) (Same.refl H13) hx1
      have y1 : (L2.upd H13 x1 (.tup ((as.set at' z).map V.ref))) x1 = some (.tup ((as.set at' z).map V.ref)) := upd_same
      generalize L2.upd H13 x1 (.tup ((as.set at' z).map V.ref)) = K1 at z1 y1 ⊢
      refine ⟨_, rfl, l5, _, rfl, .inl ⟨SqL.of (z1 _ _ (o13 _ _ ne45.symm h5)), fun x2 hx2 => ?_⟩⟩
      have z2 := Same.put (o := .tup (bs.map V.ref)) (Same.refl K1) hx2
      have y2 : (L2.upd K1 x2 (.tup (bs.map V.ref))) x2 = some (.tup (bs.map V.ref)) := upd_same
      generalize L2.upd K1 x2 (.tup (bs.map V.ref)) = K2 at z2 y2 ⊢
      refine ⟨_, rfl, l6, _, rfl, .inl ⟨SqL.of (z2 _ _ (z1 _ _ (o13 _ _ ne46.symm h6))), fun x3 hx3 => ?_⟩⟩
      have z3 := Same.put (o := .tup (L.yes.map V.str)) (Same.refl K2) hx3
      have y3 : (L2.upd K2 x3 (.tup (L.yes.map V.str))) x3 = some (.tup (L.yes.map V.str)) := upd_same
      generalize L2.upd K2 x3 (.tup (L.yes.map V.str)) = K3 at z3 y3 ⊢
      refine ⟨by show 5 ≤ sizeLine; decide, fun r hr => ?_⟩
      have z4 := Same.put (o := .tup [.str (S sg), .ref t, .ref x1, .ref x2, .ref x3]) (Same.refl K3) hr
      have z34 := z3.trans z4
      have z24 := z2.trans z34
      have z14 := z1.trans z24
      refine k r sg ((L.srt sg).setR i c (L.nx i c) (L.am i c + 1)) _ psg srt ?_ rfl ⟨t, x1, x2, x3, (as.set at' z), bs, upd_same, ?_, z24 _ _ y1, ?_, z34 _ _ y2, ?_, z4 _ _ y3⟩ ?_ (hp13.same z14) ((b13).trans (But.of z14))
      · exact OS.setR (OS.nxlt i c hi cm)
      · exact (Tk.of z14) _ _ (t913 _ _ ht)
      · rw [rows_set OS hi hc, show i * (L.srt sg).sg.length + j = at' from eat.symm, List.map_set]
        exact (tups_set (t13 _ _ f3) at' (hT.tk t913)).tk (Tk.of z14)
      · exact (hU.tk t913).tk (Tk.of z14)
      · exact setR_other OS hi hc (.inr (by show L.am i c + 1 ≠ L.am i c; omega))
    · -- WAY1
      refine ⟨_, rfl, rfl, _, rfl, ifK (by decide) ?_⟩
      refine ⟨_, rfl, rfl, _, rfl, ifJ rfl ?_⟩
      refine ⟨_, rfl, _, rfl, l5, _, _, _, rfl, rfl, SqL.of h5, atI_nat hbv5, _, rfl, b, _, rfl, SqT.of hbv, ?_, fun e1 he1 => ?_⟩
      · rintro ⟨_, q⟩
        exact absurd (show HT.sIx 3 3 (some 2) = 3 from q) (by decide)
      rw [show cutV [V.str (L.nm kk'), .str (L.nm (L.tn kk')), .int (L.ta kk')] none (some 2) = [.str (L.nm kk'), .str (L.nm (L.tn kk'))] from rfl]
      have v1 := Same.put (o := .tup [.str (L.nm kk'), .str (L.nm (L.tn kk'))]) (Same.refl H9) he1
      have f1 : (L2.upd H9 e1 (.tup [.str (L.nm kk'), .str (L.nm (L.tn kk'))])) e1 = some (.tup [.str (L.nm kk'), .str (L.nm (L.tn kk'))]) := upd_same
      generalize L2.upd H9 e1 (.tup [.str (L.nm kk'), .str (L.nm (L.tn kk'))]) = H10 at v1 f1 ⊢
      refine ⟨_, rfl, _, rfl, l5, _, _, _, rfl, rfl, SqL.of (v1 _ _ h5), atI_nat hbv5, b, _, _, _, rfl, rfl, SqT.of (v1 _ _ hbv), atI_nat (j := 2) rfl, _, _, rfl, rfl, by show 1 ≤ sizeLine; decide, fun e2 he2 => ?_⟩
      have v2 := Same.put (o := .tup [.int (L.ta kk' - 1)]) (Same.refl H10) he2
      have f2 : (L2.upd H10 e2 (.tup [.int (L.ta kk' - 1)])) e2 = some (.tup [.int (L.ta kk' - 1)]) := upd_same
      generalize L2.upd H10 e2 (.tup [.int (L.ta kk' - 1)]) = H11 at v2 f2 ⊢
      refine ⟨e1, e2, _, _, rfl, rfl, SqT.of (v2 _ _ f1), SqT.of f2, List.cons_ne_nil _ _, by show 3 ≤ sizeLine; decide, (fun z => nomatch z), fun _ z hz => ?_⟩
      have v3 := Same.put (o := .tup ([.str (L.nm kk'), .str (L.nm (L.tn kk'))] ++ [.int (L.ta kk' - 1)])) (Same.refl H11) hz
      have f3 : (L2.upd H11 z (.tup ([.str (L.nm kk'), .str (L.nm (L.tn kk'))] ++ [.int (L.ta kk' - 1)]))) z = some (.tup [.str (L.nm kk'), .str (L.nm (L.tn kk')), .int (L.ta kk' - 1)]) := upd_same
      generalize L2.upd H11 z (.tup ([.str (L.nm kk'), .str (L.nm (L.tn kk'))] ++ [.int (L.ta kk' - 1)])) = H12 at v3 f3 ⊢
      have v12 := (v1.trans v2).trans v3
      have h5' := v12 _ _ h5
      refine ⟨_, rfl, _, rfl, l5, _, _, _, rfl, rfl, h5', ixN_at (by rw [List.length_map, lb]; exact hka), ?_⟩
      rw [← List.map_set (f := V.ref) (i := kk') (a := z)]
      have f4 : (L2.upd H12 l5 (.lst ((bs.set kk' z).map V.ref))) l5 = some (.lst ((bs.set kk' z).map V.ref)) := upd_same
      have b13 : But p H (L2.upd H12 l5 (.lst ((bs.set kk' z).map V.ref))) := (b9.trans (But.of v12)).new x5
      have hp13 : PoolAt (L2.upd H12 l5 (.lst ((bs.set kk' z).map V.ref))) p := (hp9.same v12).put n5p
      have t13 : Tk H12 (L2.upd H12 l5 (.lst ((bs.set kk' z).map V.ref))) := Tk.put h5' (fun x => by intro q; cases q)
      have o13 : ∀ l o, l ≠ l5 → H9 l = some o → (L2.upd H12 l5 (.lst ((bs.set kk' z).map V.ref))) l = some o := fun l o n h => (upd_ne n).trans (v12 _ _ h)
      generalize L2.upd H12 l5 (.lst ((bs.set kk' z).map V.ref)) = H13 at f4 b13 hp13 t13 o13 ⊢
      have t913 : Tk H9 H13 := (Tk.of v12).trans t13
      refine ⟨_, rfl, rfl, _, rfl, ifK (by decide) ?_⟩
      refine ⟨_, rfl, _, _, rfl, rfl, _, rfl, ifG (by decide) (iteF ?_)⟩
      refine ⟨_, rfl, rfl, _, rfl, ifK (by decide) ?_⟩
      refine ⟨_, rfl, rfl, _, rfl, ifK (by decide) ?_⟩
      refine ⟨_, rfl, ql, _, _, _, rfl, rfl, SqT.of (t913 _ _ h0), atI_nat (j := 0) rfl, _, rfl, ql, _, _, _, rfl, rfl, SqT.of (t913 _ _ h0), atI_nat (j := 1) rfl, ?_⟩
      refine ⟨_, rfl, l4, _, rfl, .inl ⟨SqL.of (o13 _ _ ne45 h4), fun x1 hx1 => ?_⟩⟩
      have z1 := Same.put (o := .tup (as.map V.ref)) (Same.refl H13) hx1
      have y1 : (L2.upd H13 x1 (.tup (as.map V.ref))) x1 = some (.tup (as.map V.ref)) := upd_same
      generalize L2.upd H13 x1 (.tup (as.map V.ref)) = K1 at z1 y1 ⊢
      refine ⟨_, rfl, l5, _, rfl, .inl ⟨SqL.of (z1 _ _ (f4)), fun x2 hx2 => ?_⟩⟩
      have z2 := Same.put (o := .tup ((bs.set kk' z).map V.ref)) (Same.refl K1) hx2
      have y2 : (L2.upd K1 x2 (.tup ((bs.set kk' z).map V.ref))) x2 = some (.tup ((bs.set kk' z).map V.ref)) := upd_same
      generalize L2.upd K1 x2 (.tup ((bs.set kk' z).map V.ref)) = K2 at z2 y2 ⊢
      refine ⟨_, rfl, l6, _, rfl, .inl ⟨SqL.of (z2 _ _ (z1 _ _ (o13 _ _ ne56.symm h6))), fun x3 hx3 => ?_⟩⟩
      have z3 := Same.put (o := .tup (L.yes.map V.str)) (Same.refl K2) hx3
      have y3 : (L2.upd K2 x3 (.tup (L.yes.map V.str))) x3 = some (.tup (L.yes.map V.str)) := upd_same
      generalize L2.upd K2 x3 (.tup (L.yes.map V.str)) = K3 at z3 y3 ⊢
      refine ⟨by show 5 ≤ sizeLine; decide, fun r hr => ?_⟩
      have z4 := Same.put (o := .tup [.str (S sg), .ref t, .ref x1, .ref x2, .ref x3]) (Same.refl K3) hr
      have z34 := z3.trans z4
      have z24 := z2.trans z34
      have z14 := z1.trans z24
      refine k r sg ((L.srt sg).setT kk' (L.tn kk') (L.ta kk' - 1)) _ psg srt ?_ rfl ⟨t, x1, x2, x3, as, (bs.set kk' z), upd_same, ?_, z24 _ _ y1, ?_, z34 _ _ y2, ?_, z4 _ _ y3⟩ ?_ (hp13.same z14) ((b13).trans (But.of z14))
      · exact OS.setT (O.tnlt kk' hka)
      · exact (Tk.of z14) _ _ (t913 _ _ ht)
      · exact (hT.tk t913).tk (Tk.of z14)
      · rw [turns_set OS hka, List.map_set]
        exact (tups_set (t13 _ _ f3) kk' (hU.tk t913)).tk (Tk.of z14)
      · exact setT_other OS hka (by show L.ta kk' - 1 ≠ L.ta kk'; omega)
    · -- WAY2
      refine ⟨_, rfl, rfl, _, rfl, ifK (by decide) ?_⟩
      refine ⟨_, rfl, rfl, _, rfl, ifK (by decide) ?_⟩
      refine ⟨_, rfl, rfl, _, rfl, ifJ rfl ?_⟩
      have OF := OS.flip kk'
      refine ⟨_, rfl, ql, _, _, _, rfl, rfl, SqT.of h0, atI_nat (j := 1) rfl, t, rfl, ⟨_, SqT.of ht⟩, fun D hD => lc_it (walk_tup (xs := L.st.map V.str)) (fun m K0 => K0 D = some (.lst (((L.st.take m).filter fun z => decide (z ∈ ((L.srt sg).flip kk').yes)).map V.str)) ∧ Same H9 K0) ⟨upd_same, Same.put (Same.refl _) hD⟩ (fun _ _ _ h => SqT.of (h.2 _ _ ht)) ?_ ?_⟩
      · rintro m x K0 K0' hm ⟨y1, y2⟩ ⟨rfl, hx⟩
        rw [List.length_map] at hm
        have hm : m < L.n := hm
        have hx' : x = .str (L.nm m) := Option.some.inj (hx.symm.trans (map_get (nm_at hm)))
        subst hx'
        refine ⟨rfl, _, rfl, _, rfl, l6, _, rfl, .inl (SqL.of (y2 _ _ h6)), rfl, flat_strs _, _, rfl, _, rfl, ql, _, _, _, rfl, rfl, SqT.of (y2 _ _ h0), atI_nat (j := 1) rfl, _, rfl, t, _, _, _, rfl, rfl, SqT.of (y2 _ _ ht), atI_nat (map_get (nm_at hka)), rfl, rfl, _, rfl, ?_⟩
        have key : (!decide (V.bl (inV (.str (L.nm m)) (L.yes.map V.str)) = V.bl (decide (V.str (L.nm m) = V.str (L.nm kk'))))) = decide (L.nm m ∈ ((L.srt sg).flip kk').yes) := by
          rw [show inV (.str (L.nm m)) (L.yes.map V.str) = decide (L.nm m ∈ L.yes) from inV_strs _ _, yes_at O hm]
          have e2 : decide (L.nm m ∈ ((L.srt sg).flip kk').yes) = ((L.srt sg).flip kk').ys m := yes_at OF hm
          rw [e2]
          show _ = if m = kk' then !L.ys m else L.ys m
          by_cases q : m = kk'
          · subst q
            rw [if_pos rfl, show decide (V.str (L.nm m) = V.str (L.nm m)) = true from decide_eq_true rfl]
            cases L.ys m <;> rfl
          · rw [if_neg q, show decide (V.str (L.nm m) = V.str (L.nm kk')) = false from decide_eq_false (fun z => q (nm_inj O hm hka (by injection z)))]
            cases L.ys m <;> rfl
        rw [if_neg Bool.false_ne_true, key]
        refine ite2 (fun q => ?_) (fun q => ?_)
        · refine ⟨_, rfl, _, y1, ?_, ?_, Same.new' y2 hD⟩
          · rw [List.length_map, sizeLine_eq]
            have := List.length_filter_le (fun z => decide (z ∈ ((L.srt sg).flip kk').yes)) (L.st.take m)
            have := List.length_take_le' m L.st
            have : L.st.length ≤ 6 := n6
            omega
          · rw [upd_same, take_more (nm_at hm), List.filter_append, List.map_append]
            rw [show ([L.nm m].filter fun z => decide (z ∈ ((L.srt sg).flip kk').yes)) = [L.nm m] from List.filter_cons_of_pos q] <;> rfl
        · refine ⟨?_, y2⟩
          rw [y1, take_more (nm_at hm), List.filter_append, show ([L.nm m].filter fun z => decide (z ∈ ((L.srt sg).flip kk').yes)) = [] from List.filter_cons_of_neg q, List.append_nil]
      rintro K0 ⟨y1, y2⟩
      rw [List.length_map, List.take_length, show (L.st.filter fun z => decide (z ∈ ((L.srt sg).flip kk').yes)) = ((L.srt sg).flip kk').yes from yes_filter OF] at y1
      have tK := Tk.of y2
      refine ⟨_, rfl, _, _, rfl, rfl, _, rfl, ifG (by decide) (iteF ?_)⟩
      refine ⟨_, rfl, rfl, _, rfl, ifK (by decide) ?_⟩
      refine ⟨_, rfl, rfl, _, rfl, ifK (by decide) ?_⟩
      refine ⟨_, rfl, ql, _, _, _, rfl, rfl, SqT.of (y2 _ _ h0), atI_nat (j := 0) rfl, _, rfl, ql, _, _, _, rfl, rfl, SqT.of (y2 _ _ h0), atI_nat (j := 1) rfl, ?_⟩
      refine ⟨_, rfl, l4, _, rfl, .inl ⟨SqL.of (y2 _ _ h4), fun x1 hx1 => ?_⟩⟩
      have z1 := Same.put (o := .tup (as.map V.ref)) (Same.refl K0) hx1
      have y1a : (L2.upd K0 x1 (.tup (as.map V.ref))) x1 = some (.tup (as.map V.ref)) := upd_same
      generalize L2.upd K0 x1 (.tup (as.map V.ref)) = K1 at z1 y1a ⊢
      refine ⟨_, rfl, l5, _, rfl, .inl ⟨SqL.of (z1 _ _ (y2 _ _ h5)), fun x2 hx2 => ?_⟩⟩
      have z2 := Same.put (o := .tup (bs.map V.ref)) (Same.refl K1) hx2
      have y2a : (L2.upd K1 x2 (.tup (bs.map V.ref))) x2 = some (.tup (bs.map V.ref)) := upd_same
      generalize L2.upd K1 x2 (.tup (bs.map V.ref)) = K2 at z2 y2a ⊢
      refine ⟨_, rfl, D, _, rfl, .inl ⟨SqL.of (z2 _ _ (z1 _ _ (y1))), fun x3 hx3 => ?_⟩⟩
      have z3 := Same.put (o := .tup (((L.srt sg).flip kk').yes.map V.str)) (Same.refl K2) hx3
      have y3 : (L2.upd K2 x3 (.tup (((L.srt sg).flip kk').yes.map V.str))) x3 = some (.tup (((L.srt sg).flip kk').yes.map V.str)) := upd_same
      generalize L2.upd K2 x3 (.tup (((L.srt sg).flip kk').yes.map V.str)) = K3 at z3 y3 ⊢
      refine ⟨by show 5 ≤ sizeLine; decide, fun r hr => ?_⟩
      have z4 := Same.put (o := .tup [.str (S sg), .ref t, .ref x1, .ref x2, .ref x3]) (Same.refl K3) hr
      have z34 := z3.trans z4
      have z24 := z2.trans z34
      have z14 := z1.trans z24
      refine k r sg ((L.srt sg).flip kk') _ psg srt ?_ rfl ⟨t, x1, x2, x3, as, bs, upd_same, ?_, z24 _ _ y1a, ?_, z34 _ _ y2a, ?_, z4 _ _ y3⟩ ?_ ((hp9.same y2).same z14) ((b9.trans (But.of y2)).trans (But.of z14))
      · exact OF
      · exact (Tk.of z14) _ _ (y2 _ _ ht)
      · exact (hT.tk tK).tk (Tk.of z14)
      · exact (hU.tk tK).tk (Tk.of z14)
      · exact flip_other OS hka
    · -- WAY3
      refine ⟨_, rfl, rfl, _, rfl, ifK (by decide) ?_⟩
      refine ⟨_, rfl, rfl, _, rfl, ifK (by decide) ?_⟩
      refine ⟨_, rfl, rfl, _, rfl, ifK (by decide) ?_⟩
      by_cases n1 : L.n = 1
      · refine ⟨_, rfl, _, _, rfl, rfl, _, rfl, ifH (by decide) ⟨_, rfl, ql, _, _, _, rfl, rfl, SqT.of h0, atI_nat (j := 1) rfl, t, _, rfl, .inr (SqT.of ht), rfl, _, rfl, ifJ (by rw [List.length_map]; show ((L.n : Nat) : Int) = 1; omega) ?_⟩⟩
        refine ⟨_, rfl, _, rfl, ql, _, rfl, SqT.of h0, ?_, fun e1 he1 => ?_⟩
        · rintro ⟨_, q⟩
          exact absurd (show HT.sIx 5 5 (some 4) = 5 from q) (by decide)
        rw [show cutV [V.str (S (L.srt sg).sg), .ref t, .ref rr, .ref u, .ref y] none (some 4) = [.str (S sg), .ref t, .ref rr, .ref u] from rfl]
        have v1 := Same.put (o := .tup [.str (S sg), .ref t, .ref rr, .ref u]) (Same.refl H9) he1
        have f1 : (L2.upd H9 e1 (.tup [.str (S sg), .ref t, .ref rr, .ref u])) e1 = some (.tup [.str (S sg), .ref t, .ref rr, .ref u]) := upd_same
        generalize L2.upd H9 e1 (.tup [.str (S sg), .ref t, .ref rr, .ref u]) = H10 at v1 f1 ⊢
        refine ⟨_, rfl, ql, _, _, _, rfl, rfl, SqT.of (v1 _ _ h0), atI_nat (j := 1) rfl, _, rfl, l6, _, rfl, .inl (SqL.of (v1 _ _ h6)), _, rfl, ?_⟩
        dsimp only [tNoPart]
        have sl : L.st.length = 1 := n1
        rcases flip_one (L := L.srt sg) n1 with ⟨y0, y1⟩ | ⟨y0, y1⟩
        · have y0 : L.yes = [] := y0
          have y1 : ((L.srt sg).flip 0).yes = L.st := y1
          refine ⟨t, _, rfl, SqT.of (v1 _ _ ht), fun wh => ?_, fun nw => absurd ⟨?_, ?_⟩ nw⟩
          refine ⟨by show 1 ≤ sizeLine; decide, fun e3 he3 => ?_⟩
          have v3 := Same.put (o := .tup [.ref t]) (Same.refl H10) he3
          have f3 : (L2.upd H10 e3 (.tup [.ref t])) e3 = some (.tup [.ref t]) := upd_same
          generalize L2.upd H10 e3 (.tup [.ref t]) = K3 at v3 f3 ⊢
          refine ⟨e1, e3, _, _, rfl, rfl, SqT.of (v3 _ _ (Same.refl H10 _ _ f1)), SqT.of f3, List.cons_ne_nil _ _, by show 5 ≤ sizeLine; decide, (fun z => nomatch z), fun _ z hz => ?_⟩
          have v4 := v3.trans (Same.put (o := .tup ([.str (S sg), .ref t, .ref rr, .ref u] ++ [.ref t])) (Same.refl K3) hz)
          have v94 := (v1.trans (Same.refl H10)).trans v4
          exact k z sg ((L.srt sg).flip 0) _ psg srt (OS.flip 0) rfl ⟨t, rr, u, t, as, bs, upd_same, v94 _ _ ht, v94 _ _ hrr, hT.same v94, v94 _ _ hu, hU.same v94, v4 _ _ (show H10 t = some (.tup (((L.srt sg).flip 0).yes.map V.str)) by rw [y1]; exact v1 _ _ ht)⟩ (flip_other OS n0) (hp9.same v94) (b9.trans (But.of v94))
          · rw [y0]
            rfl
          · rfl
        · have y0 : L.yes = L.st := y0
          have y1 : ((L.srt sg).flip 0).yes = [] := y1
          have e5 : HT.sIx (L.st.map V.str).length 0 (some ((L.yes.map V.str).length : Nat)) = 1 := by
            rw [HT.sIx_nat, List.length_map, List.length_map, y0, sl] <;> rfl
          refine ⟨t, _, rfl, SqT.of (v1 _ _ ht), fun wh => ?_, fun nw e2 he2 => ?_⟩
          · exact absurd (wh.1.symm.trans e5) (by decide)
          have ec : cutV (L.st.map V.str) (some ((L.yes.map V.str).length : Nat)) none = [] := by
            unfold cutV
            rw [e5, List.drop_of_length_le (by rw [List.length_map, sl]; exact Nat.le_refl _)]
            exact List.take_nil
          rw [ec]
          have v2 := Same.put (o := .tup []) (Same.refl H10) he2
          have f2 : (L2.upd H10 e2 (.tup [])) e2 = some (.tup []) := upd_same
          generalize L2.upd H10 e2 (.tup []) = H11 at v2 f2 ⊢
          refine ⟨by show 1 ≤ sizeLine; decide, fun e3 he3 => ?_⟩
          have v3 := Same.put (o := .tup [.ref e2]) (Same.refl H11) he3
          have f3 : (L2.upd H11 e3 (.tup [.ref e2])) e3 = some (.tup [.ref e2]) := upd_same
          generalize L2.upd H11 e3 (.tup [.ref e2]) = K3 at v3 f3 ⊢
          refine ⟨e1, e3, _, _, rfl, rfl, SqT.of (v3 _ _ (v2 _ _ f1)), SqT.of f3, List.cons_ne_nil _ _, by show 5 ≤ sizeLine; decide, (fun z => nomatch z), fun _ z hz => ?_⟩
          have v4 := v3.trans (Same.put (o := .tup ([.str (S sg), .ref t, .ref rr, .ref u] ++ [.ref e2])) (Same.refl K3) hz)
          have v94 := (v1.trans (v2)).trans v4
          exact k z sg ((L.srt sg).flip 0) _ psg srt (OS.flip 0) rfl ⟨t, rr, u, e2, as, bs, upd_same, v94 _ _ ht, v94 _ _ hrr, hT.same v94, v94 _ _ hu, hU.same v94, v4 _ _ (show H11 e2 = some (.tup (((L.srt sg).flip 0).yes.map V.str)) by rw [y1]; exact f2)⟩ (flip_other OS n0) (hp9.same v94) (b9.trans (But.of v94))
      refine ⟨_, rfl, _, _, rfl, rfl, _, rfl, ifH (by decide) ⟨_, rfl, ql, _, _, _, rfl, rfl, SqT.of h0, atI_nat (j := 1) rfl, t, _, rfl, .inr (SqT.of ht), rfl, _, rfl, ifK (by rw [List.length_map]; show ((L.n : Nat) : Int) ≠ 1; omega) ?_⟩⟩
      refine ⟨_, rfl, rfl, _, rfl, ifJ rfl ?_⟩
      obtain ⟨A0, Sd, Ed, Od, kvs, ws, m0, mA, mS, mE, e2, e1, mO⟩ := MD9
      have c1 : cutV (L.st.map V.str) (some 1) none = (L.st.drop 1).map V.str := by
        unfold cutV
        rw [HT.sIx_none, show HT.sIx (L.st.map V.str).length 0 (some 1) = 1 from (HT.sIx_nat _ _ 1).trans (Nat.min_eq_left (by rw [List.length_map]; exact n0)), List.map_drop]
        exact List.take_of_length_le (by rw [List.length_drop]; exact Nat.le_refl _)
      have c2 : cutV (L.st.map V.str) none (some 1) = (L.st.take 1).map V.str := by
        unfold cutV
        rw [HT.sIx_none, show HT.sIx (L.st.map V.str).length (L.st.map V.str).length (some 1) = 1 from (HT.sIx_nat _ _ 1).trans (Nat.min_eq_left (by rw [List.length_map]; exact n0)), List.map_take] <;> rfl
      refine ⟨_, rfl, q, _, _, _, rfl, rfl, SqL.of m0, atI_nat (j := 1) rfl, _, rfl, A0, _, rfl, SqL.of mA, fun p1 hp1 => ?_⟩
      rw [c1]
      have v1 := Same.put (o := .lst ((L.st.drop 1).map V.str)) (Same.refl H9) hp1
      have f1 : (L2.upd H9 p1 (.lst ((L.st.drop 1).map V.str))) p1 = some (.lst ((L.st.drop 1).map V.str)) := upd_same
      generalize L2.upd H9 p1 (.lst ((L.st.drop 1).map V.str)) = H10 at v1 f1 ⊢
      refine ⟨_, rfl, q, _, _, _, rfl, rfl, SqL.of (v1 _ _ m0), atI_nat (j := 1) rfl, _, rfl, A0, _, rfl, SqL.of (v1 _ _ mA), fun p2 hp2 => ?_⟩
      rw [c2]
      have v2 := Same.put (o := .lst ((L.st.take 1).map V.str)) (Same.refl H10) hp2
      have f2 : (L2.upd H10 p2 (.lst ((L.st.take 1).map V.str))) p2 = some (.lst ((L.st.take 1).map V.str)) := upd_same
      generalize L2.upd H10 p2 (.lst ((L.st.take 1).map V.str)) = H11 at v2 f2 ⊢
      refine ⟨p1, p2, _, _, rfl, rfl, v2 _ _ f1, f2, by rw [List.length_map, List.length_map, List.length_drop, List.length_take, sizeLine_eq]; have : L.st.length ≤ 6 := n6; omega, fun p3 hp3 => ?_⟩
      rw [← List.map_append]
      have v3 := Same.put (o := .lst (L.rot.st.map V.str)) (Same.refl H11) hp3
      have f3 : (L2.upd H11 p3 (.lst ((L.st.drop 1 ++ L.st.take 1).map V.str))) p3 = some (.lst (L.rot.st.map V.str)) := upd_same
      have v3 : Same H11 (L2.upd H11 p3 (.lst ((L.st.drop 1 ++ L.st.take 1).map V.str))) := v3
      generalize L2.upd H11 p3 (.lst ((L.st.drop 1 ++ L.st.take 1).map V.str)) = H12 at v3 f3 ⊢
      have v13 := (v1.trans v2).trans v3
      have m0' := v13 _ _ m0
      refine ⟨_, rfl, q, _, _, _, rfl, rfl, SqL.of m0', atI_nat (j := 0) rfl, _, rfl, _, rfl, q, _, _, _, rfl, rfl, SqL.of m0', atI_nat (j := 2) rfl, _, rfl, q, _, _, _, rfl, rfl, SqL.of m0', atI_nat (j := 3) rfl, _, rfl, q, _, _, _, rfl, rfl, SqL.of m0', atI_nat (j := 4) rfl, by show 5 ≤ sizeLine; decide, fun l hl => ?_⟩
      have v4 := v13.trans (Same.put (o := .lst [.str (S L.sg), .ref p3, .ref Sd, .ref Ed, .ref Od]) (Same.refl H12) hl)
      have hn := rot_n L n0
      have OR := O.rot
      refine ⟨l, L.rot, L.yes, rfl, OR, ⟨p3, Sd, Ed, Od, kvs, ws, upd_same, (Same.put (Same.refl H12) hl) _ _ f3, v4 _ _ mS, v4 _ _ mE, fun i c hi hc => ?_, fun i hi => ?_, v4 _ _ mO⟩, ?_, fun r sg2 H14 psg2 srt2 RA2 nr s14 => ?_⟩
      · have hi : i < L.n := by omega
        have lt := Nat.mod_lt (i + 1) n0
        have e := e2 ((i + 1) % L.n) c lt hc
        have x := O.nxlt _ _ lt hc
        rw [rot_nm n0 hi, show L.rot.nx i c = (L.nx ((i + 1) % L.n) c + (L.n - 1)) % L.n from rfl, rot_nm n0 (Nat.mod_lt _ n0), rot_back x]
        exact e.tk (Tk.of v4)
      · have hi : i < L.n := by omega
        have lt := Nat.mod_lt (i + 1) n0
        have e := e1 ((i + 1) % L.n) lt
        have x := O.tnlt _ lt
        rw [rot_nm n0 hi, show L.rot.tn i = (L.tn ((i + 1) % L.n) + (L.n - 1)) % L.n from rfl, rot_nm n0 (Nat.mod_lt _ n0), rot_back x]
        exact e.tk (Tk.of v4)
      · rw [← yes_filter OR]
        refine List.filter_congr fun z hz => ?_
        obtain ⟨d, hd, ed⟩ := List.getElem_of_mem hz
        have hd' : d < L.rot.n := hd
        have e0 : z = L.rot.nm d := by
          have := nm_at hd'
          rw [List.getElem?_eq_getElem hd, ed] at this
          exact Option.some.inj this
        have hd2 : d < L.n := by omega
        rw [e0, yes_at OR hd', rot_nm n0 hd2, yes_at O (Nat.mod_lt _ n0)] <;> rfl
      · have v914 := v4.trans s14
        exact k r sg2 (L.rot.srt sg2) H14 psg2 srt2 (OR.srt psg2) rfl RA2 (rot_other (L := L.srt sg2) (O.srt psg2) (by show 2 ≤ L.n; omega)) (hp9.same v914) (b9.trans (But.of v914))
    · -- WAY4
      refine ⟨_, rfl, rfl, _, rfl, ifK (by decide) ?_⟩
      refine ⟨_, rfl, rfl, _, rfl, ifK (by decide) ?_⟩
      refine ⟨_, rfl, rfl, _, rfl, ifK (by decide) ?_⟩
      by_cases n1 : L.n = 1
      · refine ⟨_, rfl, _, _, rfl, rfl, _, rfl, ifH (by decide) ⟨_, rfl, ql, _, _, _, rfl, rfl, SqT.of h0, atI_nat (j := 1) rfl, t, _, rfl, .inr (SqT.of ht), rfl, _, rfl, ifJ (by rw [List.length_map]; show ((L.n : Nat) : Int) = 1; omega) ?_⟩⟩
        refine ⟨_, rfl, _, rfl, ql, _, rfl, SqT.of h0, ?_, fun e1 he1 => ?_⟩
        · rintro ⟨_, q⟩
          exact absurd (show HT.sIx 5 5 (some 4) = 5 from q) (by decide)
        rw [show cutV [V.str (S (L.srt sg).sg), .ref t, .ref rr, .ref u, .ref y] none (some 4) = [.str (S sg), .ref t, .ref rr, .ref u] from rfl]
        have v1 := Same.put (o := .tup [.str (S sg), .ref t, .ref rr, .ref u]) (Same.refl H9) he1
        have f1 : (L2.upd H9 e1 (.tup [.str (S sg), .ref t, .ref rr, .ref u])) e1 = some (.tup [.str (S sg), .ref t, .ref rr, .ref u]) := upd_same
        generalize L2.upd H9 e1 (.tup [.str (S sg), .ref t, .ref rr, .ref u]) = H10 at v1 f1 ⊢
        refine ⟨_, rfl, ql, _, _, _, rfl, rfl, SqT.of (v1 _ _ h0), atI_nat (j := 1) rfl, _, rfl, l6, _, rfl, .inl (SqL.of (v1 _ _ h6)), _, rfl, ?_⟩
        dsimp only [tNoPart]
        have sl : L.st.length = 1 := n1
        rcases flip_one (L := L.srt sg) n1 with ⟨y0, y1⟩ | ⟨y0, y1⟩
        · have y0 : L.yes = [] := y0
          have y1 : ((L.srt sg).flip 0).yes = L.st := y1
          refine ⟨t, _, rfl, SqT.of (v1 _ _ ht), fun wh => ?_, fun nw => absurd ⟨?_, ?_⟩ nw⟩
          refine ⟨by show 1 ≤ sizeLine; decide, fun e3 he3 => ?_⟩
          have v3 := Same.put (o := .tup [.ref t]) (Same.refl H10) he3
          have f3 : (L2.upd H10 e3 (.tup [.ref t])) e3 = some (.tup [.ref t]) := upd_same
          generalize L2.upd H10 e3 (.tup [.ref t]) = K3 at v3 f3 ⊢
          refine ⟨e1, e3, _, _, rfl, rfl, SqT.of (v3 _ _ (Same.refl H10 _ _ f1)), SqT.of f3, List.cons_ne_nil _ _, by show 5 ≤ sizeLine; decide, (fun z => nomatch z), fun _ z hz => ?_⟩
          have v4 := v3.trans (Same.put (o := .tup ([.str (S sg), .ref t, .ref rr, .ref u] ++ [.ref t])) (Same.refl K3) hz)
          have v94 := (v1.trans (Same.refl H10)).trans v4
          exact k z sg ((L.srt sg).flip 0) _ psg srt (OS.flip 0) rfl ⟨t, rr, u, t, as, bs, upd_same, v94 _ _ ht, v94 _ _ hrr, hT.same v94, v94 _ _ hu, hU.same v94, v4 _ _ (show H10 t = some (.tup (((L.srt sg).flip 0).yes.map V.str)) by rw [y1]; exact v1 _ _ ht)⟩ (flip_other OS n0) (hp9.same v94) (b9.trans (But.of v94))
          · rw [y0]
            rfl
          · rfl
        · have y0 : L.yes = L.st := y0
          have y1 : ((L.srt sg).flip 0).yes = [] := y1
          have e5 : HT.sIx (L.st.map V.str).length 0 (some ((L.yes.map V.str).length : Nat)) = 1 := by
            rw [HT.sIx_nat, List.length_map, List.length_map, y0, sl] <;> rfl
          refine ⟨t, _, rfl, SqT.of (v1 _ _ ht), fun wh => ?_, fun nw e2 he2 => ?_⟩
          · exact absurd (wh.1.symm.trans e5) (by decide)
          have ec : cutV (L.st.map V.str) (some ((L.yes.map V.str).length : Nat)) none = [] := by
            unfold cutV
            rw [e5, List.drop_of_length_le (by rw [List.length_map, sl]; exact Nat.le_refl _)]
            exact List.take_nil
          rw [ec]
          have v2 := Same.put (o := .tup []) (Same.refl H10) he2
          have f2 : (L2.upd H10 e2 (.tup [])) e2 = some (.tup []) := upd_same
          generalize L2.upd H10 e2 (.tup []) = H11 at v2 f2 ⊢
          refine ⟨by show 1 ≤ sizeLine; decide, fun e3 he3 => ?_⟩
          have v3 := Same.put (o := .tup [.ref e2]) (Same.refl H11) he3
          have f3 : (L2.upd H11 e3 (.tup [.ref e2])) e3 = some (.tup [.ref e2]) := upd_same
          generalize L2.upd H11 e3 (.tup [.ref e2]) = K3 at v3 f3 ⊢
          refine ⟨e1, e3, _, _, rfl, rfl, SqT.of (v3 _ _ (v2 _ _ f1)), SqT.of f3, List.cons_ne_nil _ _, by show 5 ≤ sizeLine; decide, (fun z => nomatch z), fun _ z hz => ?_⟩
          have v4 := v3.trans (Same.put (o := .tup ([.str (S sg), .ref t, .ref rr, .ref u] ++ [.ref e2])) (Same.refl K3) hz)
          have v94 := (v1.trans (v2)).trans v4
          exact k z sg ((L.srt sg).flip 0) _ psg srt (OS.flip 0) rfl ⟨t, rr, u, e2, as, bs, upd_same, v94 _ _ ht, v94 _ _ hrr, hT.same v94, v94 _ _ hu, hU.same v94, v4 _ _ (show H11 e2 = some (.tup (((L.srt sg).flip 0).yes.map V.str)) by rw [y1]; exact f2)⟩ (flip_other OS n0) (hp9.same v94) (b9.trans (But.of v94))
      refine ⟨_, rfl, _, _, rfl, rfl, _, rfl, ifH (by decide) ⟨_, rfl, ql, _, _, _, rfl, rfl, SqT.of h0, atI_nat (j := 1) rfl, t, _, rfl, .inr (SqT.of ht), rfl, _, rfl, ifK (by rw [List.length_map]; show ((L.n : Nat) : Int) ≠ 1; omega) ?_⟩⟩
      refine ⟨_, rfl, rfl, _, rfl, ifK (by decide) ?_⟩
      refine ⟨_, rfl, rfl, _, rfl, ifJ rfl ?_⟩
      obtain ⟨zs, e, hz0, he, ez, ne⟩ := other_st O (by omega) (L.nx i c)
      refine ⟨_, rfl, ql, _, _, _, rfl, rfl, SqT.of h0, atI_nat (j := 1) rfl, t, rfl, ⟨_, SqT.of ht⟩, fun D hD => lc_it (walk_tup (xs := L.st.map V.str)) (fun m K0 => K0 D = some (.lst (((L.st.take m).filter fun z => decide (z ≠ L.nm (L.nx i c))).map V.str)) ∧ Same H9 K0) ⟨upd_same, Same.put (Same.refl _) hD⟩ (fun _ _ _ h => SqT.of (h.2 _ _ ht)) ?_ ?_⟩
      · rintro m x K0 K0' hm ⟨y1, y2⟩ ⟨rfl, hx⟩
        rw [List.length_map] at hm
        have hm : m < L.n := hm
        have hx' : x = .str (L.nm m) := Option.some.inj (hx.symm.trans (map_get (nm_at hm)))
        subst hx'
        refine ⟨rfl, _, rfl, _, rfl, _, rfl, l4, _, _, _, rfl, rfl, SqL.of (y2 _ _ h4), atI_nat hav4, a, _, _, _, rfl, rfl, SqT.of (y2 _ _ hav), atI_nat (j := 2) rfl, rfl, _, rfl, ?_⟩
        have key : (!decide (V.str (L.nm m) = V.str (L.nm (L.nx i c)))) = decide (L.nm m ≠ L.nm (L.nx i c)) := by
          by_cases q : L.nm m = L.nm (L.nx i c)
          · rw [q, show decide (V.str (L.nm (L.nx i c)) = V.str (L.nm (L.nx i c))) = true from decide_eq_true rfl, decide_eq_false (fun z => z rfl)] <;> rfl
          · rw [decide_eq_true q, show decide (V.str (L.nm m) = V.str (L.nm (L.nx i c))) = false from decide_eq_false (fun z => q (by injection z))] <;> rfl
        rw [key]
        refine ite2 (fun q => ?_) (fun q => ?_)
        · refine ⟨_, rfl, _, y1, ?_, ?_, Same.new' y2 hD⟩
          · rw [List.length_map, sizeLine_eq]
            have := List.length_filter_le (fun z => decide (z ≠ L.nm (L.nx i c))) (L.st.take m)
            have := List.length_take_le' m L.st
            have : L.st.length ≤ 6 := n6
            omega
          · rw [upd_same, take_more (nm_at hm), List.filter_append, List.map_append]
            rw [show ([L.nm m].filter fun z => decide (z ≠ L.nm (L.nx i c))) = [L.nm m] from List.filter_cons_of_pos q] <;> rfl
        · refine ⟨?_, y2⟩
          rw [y1, take_more (nm_at hm), List.filter_append, show ([L.nm m].filter fun z => decide (z ≠ L.nm (L.nx i c))) = [] from List.filter_cons_of_neg q, List.append_nil]
      rintro K0 ⟨y1, y2⟩
      rw [List.length_map, List.take_length] at y1
      subst ez
      have h4 := y2 _ _ h4
      have h5 := y2 _ _ h5
      have h6 := y2 _ _ h6
      have hav := y2 _ _ hav
      have ha0 : (L.st.filter fun z => decide (z ≠ L.nm (L.nx i c))).map V.str = (L.st.filter fun z => decide (z ≠ L.nm (L.nx i c))).map V.str := rfl
      have hz1 : ((L.st.filter fun z => decide (z ≠ L.nm (L.nx i c))).map V.str)[0]? = some (.str (L.nm e)) := by rw [List.getElem?_map, hz0] <;> rfl
      refine ⟨_, rfl, _, rfl, l4, _, _, _, rfl, rfl, SqL.of h4, atI_nat hav4, _, rfl, a, _, rfl, SqT.of hav, ?_, fun e1 he1 => ?_⟩
      · rintro ⟨_, q⟩
        exact absurd (show HT.sIx 4 4 (some 2) = 4 from q) (by decide)
      rw [show cutV [V.str (L.nm i), .str (S [c]), .str (L.nm (L.nx i c)), .int (L.am i c)] none (some 2) = [.str (L.nm i), .str (S [c])] from rfl]
      have v1 := Same.put (o := .tup [.str (L.nm i), .str (S [c])]) (Same.refl K0) he1
      have f1 : (L2.upd K0 e1 (.tup [.str (L.nm i), .str (S [c])])) e1 = some (.tup [.str (L.nm i), .str (S [c])]) := upd_same
      generalize L2.upd K0 e1 (.tup [.str (L.nm i), .str (S [c])]) = H10 at v1 f1 ⊢
      refine ⟨_, rfl, D, _, _, _, rfl, rfl, SqL.of (v1 _ _ y1), atI_nat (j := 0) hz1, _, rfl, _, rfl, l4, _, _, _, rfl, rfl, SqL.of (v1 _ _ h4), atI_nat hav4, a, _, _, _, rfl, rfl, SqT.of (v1 _ _ hav), atI_nat (j := 3) rfl, by show 2 ≤ sizeLine; decide, fun e2 he2 => ?_⟩
      have v2 := Same.put (o := .tup [.str (L.nm e), .int (L.am i c)]) (Same.refl H10) he2
      have f2 : (L2.upd H10 e2 (.tup [.str (L.nm e), .int (L.am i c)])) e2 = some (.tup [.str (L.nm e), .int (L.am i c)]) := upd_same
      generalize L2.upd H10 e2 (.tup [.str (L.nm e), .int (L.am i c)]) = H11 at v2 f2 ⊢
      refine ⟨e1, e2, _, _, rfl, rfl, SqT.of (v2 _ _ f1), SqT.of f2, List.cons_ne_nil _ _, by show 4 ≤ sizeLine; decide, (fun z => nomatch z), fun _ z hz => ?_⟩
      have v3 := Same.put (o := .tup ([.str (L.nm i), .str (S [c])] ++ [.str (L.nm e), .int (L.am i c)])) (Same.refl H11) hz
      have f3 : (L2.upd H11 z (.tup ([.str (L.nm i), .str (S [c])] ++ [.str (L.nm e), .int (L.am i c)]))) z = some (.tup [.str (L.nm i), .str (S [c]), .str (L.nm e), .int (L.am i c)]) := upd_same
      generalize L2.upd H11 z (.tup ([.str (L.nm i), .str (S [c])] ++ [.str (L.nm e), .int (L.am i c)])) = H12 at v3 f3 ⊢
      have v12 := (v1.trans v2).trans v3
      have h4' := v12 _ _ h4
      refine ⟨_, rfl, _, rfl, l4, _, _, _, rfl, rfl, h4', ixN_at (by rw [List.length_map]; exact haa), ?_⟩
      rw [← List.map_set (f := V.ref) (i := at') (a := z)]
      have f4 : (L2.upd H12 l4 (.lst ((as.set at' z).map V.ref))) l4 = some (.lst ((as.set at' z).map V.ref)) := upd_same
      have b13 : But p H (L2.upd H12 l4 (.lst ((as.set at' z).map V.ref))) := (b9.trans ((But.of y2).trans (But.of v12))).new x4
      have hp13 : PoolAt (L2.upd H12 l4 (.lst ((as.set at' z).map V.ref))) p := ((hp9.same y2).same v12).put n4p
      have t13 : Tk H12 (L2.upd H12 l4 (.lst ((as.set at' z).map V.ref))) := Tk.put h4' (fun x => by intro q; cases q)
      have o13 : ∀ l o, l ≠ l4 → K0 l = some o → (L2.upd H12 l4 (.lst ((as.set at' z).map V.ref))) l = some o := fun l o n h => (upd_ne n).trans (v12 _ _ h)
      generalize L2.upd H12 l4 (.lst ((as.set at' z).map V.ref)) = H13 at f4 b13 hp13 t13 o13 ⊢
      have t913 : Tk H9 H13 := ((Tk.of y2).trans (Tk.of v12)).trans t13
      refine ⟨_, rfl, ql, _, _, _, rfl, rfl, SqT.of (t913 _ _ h0), atI_nat (j := 0) rfl, _, rfl, ql, _, _, _, rfl, rfl, SqT.of (t913 _ _ h0), atI_nat (j := 1) rfl, ?_⟩
      refine ⟨_, rfl, l4, _, rfl, .inl ⟨SqL.of (f4), fun x1 hx1 => ?_⟩⟩
      have z1 := Same.put (o := .tup ((as.set at' z).map V.ref)) (Same.refl H13) hx1
      have y1a : (L2.upd H13 x1 (.tup ((as.set at' z).map V.ref))) x1 = some (.tup ((as.set at' z).map V.ref)) := upd_same
      generalize L2.upd H13 x1 (.tup ((as.set at' z).map V.ref)) = K1 at z1 y1a ⊢
      refine ⟨_, rfl, l5, _, rfl, .inl ⟨SqL.of (z1 _ _ (o13 _ _ ne45.symm h5)), fun x2 hx2 => ?_⟩⟩
      have z2 := Same.put (o := .tup (bs.map V.ref)) (Same.refl K1) hx2
      have y2a : (L2.upd K1 x2 (.tup (bs.map V.ref))) x2 = some (.tup (bs.map V.ref)) := upd_same
      generalize L2.upd K1 x2 (.tup (bs.map V.ref)) = K2 at z2 y2a ⊢
      refine ⟨_, rfl, l6, _, rfl, .inl ⟨SqL.of (z2 _ _ (z1 _ _ (o13 _ _ ne46.symm h6))), fun x3 hx3 => ?_⟩⟩
      have z3 := Same.put (o := .tup (L.yes.map V.str)) (Same.refl K2) hx3
      have y3 : (L2.upd K2 x3 (.tup (L.yes.map V.str))) x3 = some (.tup (L.yes.map V.str)) := upd_same
      generalize L2.upd K2 x3 (.tup (L.yes.map V.str)) = K3 at z3 y3 ⊢
      refine ⟨by show 5 ≤ sizeLine; decide, fun r hr => ?_⟩
      have z4 := Same.put (o := .tup [.str (S sg), .ref t, .ref x1, .ref x2, .ref x3]) (Same.refl K3) hr
      have z34 := z3.trans z4
      have z24 := z2.trans z34
      have z14 := z1.trans z24
      refine k r sg ((L.srt sg).setR i c e (L.am i c)) _ psg srt ?_ rfl ⟨t, x1, x2, x3, (as.set at' z), bs, upd_same, ?_, z24 _ _ y1a, ?_, z34 _ _ y2a, ?_, z4 _ _ y3⟩ ?_ (hp13.same z14) ((b13).trans (But.of z14))
      · exact OS.setR he
      · exact (Tk.of z14) _ _ (t913 _ _ ht)
      · rw [rows_set OS hi hc, show i * (L.srt sg).sg.length + j = at' from eat.symm, List.map_set]
        exact (tups_set (t13 _ _ f3) at' (hT.tk t913)).tk (Tk.of z14)
      · exact (hU.tk t913).tk (Tk.of z14)
      · exact setR_other OS hi hc (.inl ne)
end
end Wb
/-! a classmethod by name; bool(o) of an object without __bool__ and __len__ -/
namespace WbO
open PySem PySem.W PySem.Spec PyProof.Rows
section
variable {prog : Program} {w : World} {A : Around} {E : Value → Shared → Prop} {s : Shared} {K : Frag} {x C f : Addr} {ox : Obj} {od : Option Obj}
theorem truthy_plain {Q : Bool → Shared → Prop} (X : K.In s.heap) (I : InstAt s.heap x ox C od) (nb : findIn K (.ref C) "__bool__" = some none) (nl : findIn K (.ref C) "__len__" = some none)
    (h : Q true s) : wpAny (model prog w) A (truthy (.ref x)) Q E s := by
  unfold truthy
  refine wpAny_bind (m := callSpecial? (.ref x) (Str.ofString "__bool__")) (wpAny_bind (wpAny_bind (I.type.here ((looks_findIn X nb).here (wpAny_pure ?_)))))
  refine wpAny_bind (wpAny_bind (I.type.here ((looks_findIn X nl).here ?_)))
  show wpAny _ _ (if (none : Option Value).isNone = true then _ else _) _ _ _
  rw [if_pos (show (none : Option Value).isNone = true from rfl)]
  exact wpAny_pure h
end
end WbO
namespace WbO
open PySem PySem.Spec PyProof.Rows L2
section
variable {X : Cx} {C : Addr}
/-- bool(o) -/
def rBoolP (C : Addr) : List V → Hp → VK → Prop := fun xs H Q => ∃ (a dx : Addr) (fs : List (Str × V)), xs = [.ref a] ∧ H a = some (.ins C dx fs) ∧ Q (.bl true) H
theorem call_boolP (nb : PySem.W.findIn X.K (.ref C) "__bool__" = some none) (nl : PySem.W.findIn X.K (.ref C) "__len__" = some none) : CallR X (.type "bool") (rBoolP C) := by
  intro pins s σ H xs us Q I r h
  obtain ⟨a, dx, fs, rfl, ha, q⟩ := h
  rw [Vals.ref1 r]
  obtain ⟨mA, O, _⟩ := ins_get I.hok ha
  obtain ⟨od, J, _⟩ := O.look
  exact call_bool (truthy_plain I.kIn J nb nl ⟨.bl true, H, I, rfl, q⟩)
end
end WbO
namespace WbO
open PySem PySem.Spec PyProof.Rows L2
section
variable {X : Cx} {CX : CXT} {k i n : Nat} {C f p g : Addr} {mc : Value} {fd : FuncData} {ps ks : List Str} {ds : List Value} {dvs : List V} {sp : Sp} {E : XK} {x m : Str} {pp pos apos : Pos} {e o : Expr} {es : List Expr} {kws : List Keyword} {t tk : TA} {ta : TE} {gg : List Value → List Value → List Value} {gV : List V → List V → List V} {pl : Sem Bool}
/-- C.m(k = v), m a classmethod -/
def tCMethK (C : Addr) (sp : Sp) (gV : List V → List V → List V) (E : XK) (ta : TE) (tk : TA) : TE := fun σ H Q => ta σ H fun x H1 => x = .ref C ∧ tk σ H1 fun zs H2 => zs.length = 1 ∧ sp (gV [.ref C] zs) H2 Q E
theorem pe_cmethK (he : PE X o ta) (r : ClX.CRead X.K C mc) (c : ClX.CMet X.K C mc m p g) (F : FnOk X.prog X.w X.K X.mg X.base CX k g fd ps sp) (hr : Room k X.A) (hb : KBn X.K fd ps 1 ks gg gV) (hk1 : ks.length = 1) (hx : Passes CX X E) (hkw : PK X kws tk)
    (hall : (backToKw pos (keywordEach kws X.env)).all (·.1.isSome) = true := by rfl) (hks : (backToKw pos (keywordEach kws X.env)).filterMap (·.1) = ks := by rfl)
    (hpl : ((backTo pos (starEach [] X.env)).any (·.1) || (backToKw pos (keywordEach kws X.env)).any (·.1.isNone)) = false := by rfl)
    (ht : eval (.Call (.Attribute o m apos) [] kws pos) X.env = (do
      let ov ← eval o X.env
      standAt apos.atName
      let (f, first) ← holding [ov] (getMethod ov m pl)
      callWith pos f first (backTo pos (starEach [] X.env)) (backToKw pos (keywordEach kws X.env))) := by rfl) :
    PE X (.Call (.Attribute o m apos) [] kws pos) (tCMethK C sp gV E ta tk) := by
  refine ⟨fun pins s σ H Q I h => ?_⟩
  refine PySem.W.methodCall_KW (pl := pl) (thn (he.run pins s σ H _ I h) fun u s1 ⟨x, H1, I1, rx, ex, q⟩ => ?_) ht
  subst ex
  obtain rfl : u = Value.ref C := rx
  refine ClX.getmethcm_ok I1 r c fun s2 I2 => ?_
  refine PySem.W.callWith_of hpl (PySem.W.keeps_M c.fi) (evalArgs_kw2_nil hall (thn (hkw.run pos _ s2 σ H1 _ I2 q) fun ws s3 ⟨zs, H2, I3, rz, l1, q2⟩ => ⟨⟨ClX.pin_at I3, I3.kIn⟩, ?_⟩))
  rw [hks]
  have z : wpAny (model X.prog X.w) X.A (call (.ref s1.heap.objs.size) ([] ++ []) (ks.zip ws)) (EP X ((s1.heap.objs.size, PySem.W.methodObj (.ref g) (.ref C)) :: pins) σ Q) X.xe s3 := wpAny_call (PySem.W.method_call (ClX.pin_at I3) (codeAny_mono (F.run X.A X.stack s3 H2 ⟨[.ref C], ks.zip ws⟩ (gg [.ref C] ws) (gV [.ref C] zs) Q E hr I3.env0 (hb.to s3 [.ref C] ws I3.kIn rfl (rz.length.symm.trans (l1.trans hk1.symm))) (hb.rel (.cons rfl .nil) rz) q2) fun r s' hq => ?_))
  · exact thn z fun _ _ y => ClX.unpinE y
  · cases r with
    | error e => exact hx _ σ H2 s3 e s' I3 hq
    | ok fl =>
      cases fl with
      | ret u => exact I3.after hq
      | next => exact hq.elim
      | brk => exact hq.elim
      | cont => exact hq.elim
end
end WbO
namespace Wb
open PySem L2 WbMin WbS Lz WbO WbT
abbrev sRight : Stmt := top 67
abbrev sLaw : Stmt := top 68
structure DA where
  (cell pool draw shuf face signs name names amount model line parts isloop other right : Addr)
  (dcell dpool ddraw dshuf dface dsigns dname dnames damount dmodel dline dparts disloop dother dright : FuncData)
structure Defs (K : PySem.W.Frag) (mg : Str → Option Value) (D : DA) : Prop where
  cell : Def K mg "_law_cell" sCell ["_law_script", "_law_k"] D.cell D.dcell
  pool : Def K mg "_law_pool" sPool ["_law_cell_here"] D.pool D.dpool
  draw : Def K mg "_law_draw" sDraw ["_law_pool_here", "_law_many"] D.draw D.ddraw
  shuf : Def K mg "_law_shuffled" sShuf ["_law_pool_here", "_law_things"] D.shuf D.dshuf
  face : Def K mg "_law_face" sFace ["_law_thing"] D.face D.dface
  signs : Def K mg "_law_signs" sSigns ["_law_pool_here", "_law_most"] D.signs D.dsigns
  name : Def K mg "_law_name" sName ["_law_pool_here", "_law_found"] D.name D.dname
  names : Def K mg "_law_names" sNames ["_law_pool_here", "_law_many"] D.names D.dnames
  amount : Def K mg "_law_amount" sAmount ["_law_pool_here", "_law_great"] D.amount D.damount
  model : Def K mg "_law_model" sModel ["_law_pool_here", "_law_abc", "_law_most", "_law_great"] D.model D.dmodel
  line : Def K mg "_law_line" sLine ["_law_model_here"] D.line D.dline
  parts : Def K mg "_law_parts" sParts ["_law_pool_here", "_law_model_here"] D.parts D.dparts
  isloop : Def K mg "_law_is_loop" sIsLoop ["_law_loop", "_law_line_here"] D.isloop D.disloop
  other : Def K mg "_law_other" sOther ["_law_pool_here", "_law_model_here"] D.other D.dother
  right : Def K mg "_law_right" sRight ["_law_pool_here"] D.right D.dright
def spRight : Sp := fun vs H Q _ => ∃ p : Addr, vs = [.ref p] ∧ PoolAt H p ∧ ∀ H', But p H H' → Q (.bl true) H'
theorem kit_own {K : PySem.W.Frag} {C : Addr} {t : String} (h1 : PySem.W.isClsIn K C = true) (h2 : PySem.W.typeIn K (.ref C) = some (.type "type")) (h3 : PySem.W.subIn K (.type t) (.ref C) = some false) : PySem.W.kitOne K (.type t) (.ref C) = some false := by
  unfold PySem.W.kitOne
  rw [if_neg (by intro z; have q := beq_iff_eq.mp z; cases q)]
  unfold PySem.W.kitCls
  show (if ((PySem.W.clsIn K C).isSome && PySem.W.typeIn K (.ref C) == some (.type "type")) = true then PySem.W.subIn K (.type t) (.ref C) else none) = some false
  have h1' : (PySem.W.clsIn K C).isSome = true := h1
  rw [h1', h2, h3, if_pos (by rw [Bool.true_and]; exact beq_iff_eq.mpr rfl)]
/-- Loop(yes=y, turns=u, rows=w, states=t, signs=s) -/
def g5 {α : Type} : List α → List α → List α → List α
  | [r], _, [y, u, w, t, s] => [r, s, t, w, u, y]
  | _, _, _ => []
theorem g5_rel {vs ds zs : List V} {us its ws : List Value} (a : Vals vs us) (_b : Vals ds its) (c : Vals zs ws) : Vals (g5 vs ds zs) (g5 us its ws) := by
  cases a with
  | nil => exact .nil
  | cons p1 a => cases a with
    | cons _ _ => exact .nil
    | nil => cases c with
      | nil => exact .nil
      | cons c1 c => cases c with
        | nil => exact .nil
        | cons c2 c => cases c with
          | nil => exact .nil
          | cons c3 c => cases c with
            | nil => exact .nil
            | cons c4 c => cases c with
              | nil => exact .nil
              | cons c5 c => cases c with
                | nil => exact .cons p1 (.cons c5 (.cons c4 (.cons c3 (.cons c2 (.cons c1 .nil)))))
                | cons _ _ => exact .nil
/-- Loop made in all ways -/
structure WayF (K : PySem.W.Frag) (A : LA) (B : MadA) (e : Addr) : Prop where
  k5 : ∃ its : List Value, KBn K A.dI ["self", "signs", "states", "rows", "turns", "yes"] 1 ["yes", "turns", "rows", "states", "signs"] (fun us ws => g5 us its ws) (fun vs zs => g5 vs [.ref e] zs)
  b0 : ∃ (e2 : Addr) (ds : List Value), E0 K e2 ∧ Vals [V.ref e, .ref e2] ds ∧ Binds K A.dI ["self", "signs", "states", "rows", "turns", "yes"] ds
  e0 : E0 K e
  M : MadF K A B
  bM : Binds K B.dMa ["cls", "row"] []
  kM : KBn K B.dMa ["cls", "row"] 1 ["row"] (fun us ws => us ++ ws) (fun vs zs => vs ++ zs)
  rM : ∃ mc pM, ClX.CRead K A.C mc ∧ ClX.CMet K A.C mc "made" pM B.fMa
  nb : PySem.W.findIn K (.ref A.C) "__bool__" = some none
  nl : PySem.W.findIn K (.ref A.C) "__len__" = some none
  ne : PySem.W.findIn K (.ref A.C) "__ne__" = some (some (.builtin "object.__ne__"))
  nt : PySem.W.notFirst K A.C (.type "tuple") = true
  kt : PySem.W.kitOne K (.type "tuple") (.ref A.C) = some false
end Wb
/-! k13: _law_right -/
namespace Wb
open PySem L2 WbMin WbS Lz WbO WbT
theorem LoopAt.hdx {C T : Addr} {H : Hp} {r : Addr} {L : LD} (h : LoopAt C T H r L) : ∃ (dx : Addr) (fs : List (Str × V)), H r = some (.ins C dx fs) ∧ True := by
  obtain ⟨dx, t, rr, u, y, tb, as, bs, h0, pr, TA⟩ := h
  exact ⟨dx, _, h0, trivial⟩
theorem RowAt.tk {H H' : Hp} {q : Addr} {L : LD} (s : Tk H H') : RowAt H q L → RowAt H' q L := fun ⟨t, rr, u, y, as, bs, h0, ht, hrr, hT, hu, hU, hy⟩ => ⟨t, rr, u, y, as, bs, s _ _ h0, s _ _ ht, s _ _ hrr, hT.tk s, s _ _ hu, hU.tk s, s _ _ hy⟩
theorem self_told {L : LD} (O : L.Ok) : Told L L.sg L.rows L.turns L.yes := by
  have tl := turns_length L
  have n6 : L.n ≤ 6 := O.sts.few
  refine ⟨.refl _, .refl _, by rw [turns_a]; exact O.sts.nd, fun ρ hρ => ?_, ?_, by omega, yes_nd O, yes_sub, yes_filter O, yes_few O⟩
  · obtain ⟨i, hi, rfl⟩ := List.mem_map.mp hρ
    have hi := List.mem_range.mp hi
    exact ⟨nm_mem hi, nm_mem (O.tnlt i hi)⟩
  · rw [st_is L, List.map_map]
    refine List.map_congr_left fun i hi => ?_
    exact turnOf_at (i := i) (by rw [turns_a]; exact O.sts.nd) (turns_at (List.mem_range.mp hi))
section
variable {P : Program} {w : World} {K : PySem.W.Frag} {mg : Str → Option Value} {base : Heap} {f : Addr} {fd : FuncData} {A : LA} {BM : MadA} {BE : EqA} {BQ : PrA} {e : Addr} {D : DA}
abbrev NRz : List Str := ["_law_pool_here", "_law_model_here", "_law_line_here", "_law_abc", "_law_posts", "_law_lines", "_law_ends", "_law_oks", "_law_near", "_law_loops_here", "_law_plain", "_law_bare", "_law_far", "_law_mate", "_law_loop", "_law_post"]
theorem scRz : FnScope NRz ["_law_pool_here"] (defScope sRight) := ⟨rfl, rfl, rfl, by decide +kernel, rfl, by decide +kernel, by decide +kernel⟩
theorem estR (p : Addr) : L2.start NRz [V.ref p] = [some (V.ref p), none, none, none, none, none, none, none, none, none, none, none, none, none, none, none] := rfl
set_option maxHeartbeats 0 in
theorem ok_right (F : Fun K "_law_right" "_law_right" sRight f fd) (Z : Free mg) (ZT : FreeT mg) (R : LoopF K mg A e) (WF : WayF K A BM e) (PF : PrpF K A BQ) (EF : EqF K mg A BE) (I : IsiF K A.C) (D' : Defs K mg D) : FnOk P w K mg base CX0 7 f fd ["_law_pool_here"] spRight := by
  have GS : FnOk P w K mg base CX0 2 D.signs D.dsigns ["_law_pool_here", "_law_most"] spSigns := ok_signs D'.signs.F D'.draw Z.int Z.divmod Z.len Z.range
  have GM : FnOk P w K mg base CX0 4 D.model D.dmodel ["_law_pool_here", "_law_abc", "_law_most", "_law_great"] spModel := ok_model D'.model.F D'.draw D'.name D'.names D'.amount Z
  have GL : FnOk P w K mg base CX0 1 D.line D.dline ["_law_model_here"] spLine := ok_line D'.line.F R.tup R.sort
  have GP : FnOk P w K mg base CX0 3 D.parts D.dparts ["_law_pool_here", "_law_model_here"] spParts := ok_parts D'.parts.F D'.draw D'.shuf D'.line Z ZT.lst R.tup R.sort
  have GO : FnOk P w K mg base CX0 2 D.other D.dother ["_law_pool_here", "_law_model_here"] spOther := ok_other D'.other.F D'.draw D'.line Z ZT.lst R.tup R.sort
  have GIs : FnOk P w K mg base CX0 6 D.isloop D.disloop ["_law_loop", "_law_line_here"] (spIsLoop A.C A.T) := ok_isloop D'.isloop.F D'.face R PF ZT
  have GI : FnOk P w K mg base CX0 4 A.fI A.dI ["self", "signs", "states", "rows", "turns", "yes"] (spLoInitG A.C A.T) := ok_loinitG R Z
  have GI0 : FnOk P w K mg base CX0 4 A.fI A.dI ["self", "signs", "states", "rows", "turns", "yes"] (spLoInit00 K A.C A.T) := ok_loinit00 R Z
  have GMa : FnOk P w K mg base CX0 6 BM.fMa BM.dMa ["cls", "row"] (spLoMade A.C A.T) := ok_lomade WF.M R Z
  have GW : FnOk P w K mg base CX0 1 A.fW A.dW ["self"] (spLoRow A.C) := ok_lorow R
  have GE : FnOk P w K mg base CX0 3 BE.fEq BE.dEq ["self", "other"] (spLoEqX K A.C A.T) := ok_loeqX R Z EF I
  obtain ⟨its, kI⟩ := R.kI
  obtain ⟨its5, k5⟩ := WF.k5
  obtain ⟨e2, ds0, E2, vds0, b0⟩ := WF.b0
  obtain ⟨mc, pM, rM, cM⟩ := WF.rM
  refine F.ok scRz (fun vs H Q E h => ?_) (fun cdv A' outer s H vs Q E hr h => ?_)
  · obtain ⟨p, rfl, _⟩ := h
    rfl
  · obtain ⟨p, rfl, hp, k⟩ := h
    have hr1 : Room 1 _ := hr.mono (by decide)
    have hr2 : Room 2 _ := hr.mono (by decide)
    have hr3 : Room 3 _ := hr.mono (by decide)
    have hr4 : Room 4 _ := hr.mono (by decide)
    have hr5 : Room 5 _ := hr.mono (by decide)
    refine ⟨_, pss_cons (ps_set (i := 1) scRz.nd rfl (.inl rfl) (pe_call GM hr4 rfl D'.model.g D'.model.kp D'.model.b .nil pass0 (pa_cons (pv 0) (pa_cons (pe_call GS hr2 rfl D'.signs.g D'.signs.kp D'.signs.b .nil pass0 (pa_cons (pv 0) (pa_cons pe_int pa_nil))) (pa_cons pe_int (pa_cons pe_bl pa_nil))))))
      (pss_cons (ps_set (i := 2) scRz.nd rfl (.inr rfl) (pe_call GL hr1 rfl D'.line.g D'.line.kp D'.line.b .nil pass0 (pa_cons (pv 1) pa_nil)))
      (pss_cons (ps_asg (pe_call GP hr3 rfl D'.parts.g D'.parts.kp D'.parts.b .nil pass0 (pa_cons (pv 0) (pa_cons (pv 1) pa_nil))) (pg_unp rfl (pgs_cons (pg_name (i := 3) scRz.nd rfl (.inl rfl)) (pgs_cons (pg_name (i := 4) scRz.nd rfl (.inl rfl)) (pgs_cons (pg_name (i := 5) scRz.nd rfl (.inl rfl)) (pgs_cons (pg_name (i := 6) scRz.nd rfl (.inl rfl)) (pgs_cons (pg_name (i := 7) scRz.nd rfl (.inl rfl)) pgs_nil)))))))
      (pss_cons (ps_set (i := 8) scRz.nd rfl (.inr rfl) (pe_makeK R.ML GI hr5 rfl R.gL kI pass0 (pa_cons (pv 3) (pa_cons (pv 4) (pa_cons (pv 5) (pa_cons (pv 6) pa_nil)))) (pk_cons (pv 7) pk_nil)))
      (pss_cons (ps_set (i := 9) scRz.nd rfl (.inl rfl) (pe_lst (pa_cons (pv 8) (pa_cons (pe_makeK0 R.ML GI hr5 rfl R.gL k5 pass0 (pk_cons (pv 7) (pk_cons (pv 6) (pk_cons (pv 5) (pk_cons (pv 4) (pk_cons (pv 3) pk_nil))))))
          (pa_cons (ClX.pe_cmeth (pe_glob (v := .ref A.C) (by rfl) R.gL rfl) rM cM (GMa.raw WF.bM .nil) hr pass0 (pa_cons (pv 2) pa_nil)) pa_nil)))))
      (pss_cons (ps_set (i := 9) scRz.nd rfl (.inl rfl) (pe_op op_cat (pv 9) (pe_lst (pa_cons (pe_cmethK (pe_glob (v := .ref A.C) (by rfl) R.gL rfl) rM cM GMa hr WF.kM rfl pass0 (pk_cons (pe_prop (pv 8) R.L.cl R.hW GW hr2 R.bW .nil pass0 rfl) pk_nil))
          (pa_cons (pe_makeK R.ML GI hr5 rfl R.gL kI pass0 (pa_cons (pe_ix ix_tup (pv 2) pe_int (fun _ _ => rfl)) (pa_cons (pv 4) (pa_cons (pe_ix ix_tup (pv 2) pe_int (fun _ _ => rfl)) (pa_cons (pe_ix ix_tup (pv 2) pe_int (fun _ _ => rfl)) pa_nil)))) (pk_cons (pe_ix ix_tup (pv 2) pe_int (fun _ _ => rfl)) pk_nil)) pa_nil)))))
      (pss_cons (ps_if (pt_not (pt_val (pe_callB (cr_all rfl) (by rfl) Z.all (by decide +kernel) (pa_cons
          (pe_lc (own := [("_law_loop", 14)]) (g := gName 14) (tt := tYes) rfl scRz.nd (pi_list (pv 9)) (blkOk_by (N := NRz) (sc := defScope sRight) (by decide +kernel)) (fun _ _ _ _ _ => pg_name (i := 14) scRz.nd rfl (.inl rfl)) (fun _ _ _ _ _ => pts_nil)
            (fun _ _ _ _ _ => pe_call GIs hr rfl D'.isloop.g D'.isloop.kp D'.isloop.b .nil pass0 (pa_cons (pv 14) (pa_cons (pv 2) pa_nil)))) pa_nil)))) (pss_one ps_never) pss_nil)
      (pss_cons (ps_if (pt_not (pt_val (pe_callB (cr_all rfl) (by rfl) Z.all (by decide +kernel) (pa_cons
          (pe_lc (own := [("_law_loop", 14)]) (g := gName 14) (tt := tYes) rfl scRz.nd (pi_list (pv 9)) (blkOk_by (N := NRz) (sc := defScope sRight) (by decide +kernel)) (fun _ _ _ _ _ => pg_name (i := 14) scRz.nd rfl (.inl rfl)) (fun _ _ _ _ _ => pts_nil)
            (fun _ _ _ _ _ => pe_and (pe_cmpR (show OpR _ _ (rEqX K A.C (spLoEqX K A.C A.T) L2.E0) from op_eqX EF.at_ EF.fn GE hr3 EF.b pass0) (pv 14) (pv 8) (nomark _)) (pe_one (pe_not (pe_cmpR (show OpR _ _ (rNeX K A.C (spLoEqX K A.C A.T) L2.E0) from op_neX WF.ne I.hob EF.at_ EF.fn GE hr4 EF.b pass0) (pv 14) (pv 8) (nomark _)))))) pa_nil)))) (pss_one ps_never) pss_nil)
      (pss_cons (ps_set (i := 10) scRz.nd rfl (.inl rfl) (pe_op (show OpR _ _ (rCatT K) from op_catT) (pe_slice sl_tup (pv 2) po_none (po_some pe_int)) (pe_tup (pa_cons (pe_callTy call_tuple_of (by rfl) R.tup (by decide +kernel) (pa_cons
          (pe_lc (own := [("_law_post", 15)]) (g := gName 15) (tt := tYes) rfl scRz.nd (pi_tup (pv 4)) (blkOk_by (N := NRz) (sc := defScope sRight) (by decide +kernel)) (fun _ _ _ _ _ => pg_name (i := 15) scRz.nd rfl (.inl rfl)) (fun _ _ _ _ _ => pts_nil)
            (fun _ _ _ _ _ => pe_tup (pa_cons (pv 15) (pa_cons (pv 15) (pa_cons pe_int pa_nil))))) pa_nil)) (pa_cons (pe_tup pa_nil) pa_nil)))))
      (pss_cons (ps_set (i := 11) scRz.nd rfl (.inl rfl) (pe_make R.ML GI0 hr5 rfl R.gL b0 vds0 pass0 (pa_cons (pv 3) (pa_cons (pv 4) (pa_cons (pv 5) pa_nil)))))
      (pss_cons (ps_if (PW.pt (pw_or (pt_not (pt_val (pe_call GIs hr rfl D'.isloop.g D'.isloop.kp D'.isloop.b .nil pass0 (pa_cons (pv 11) (pa_cons (pv 10) pa_nil)))))
          (pw_or1 (pt_cmpR op_ne (pe_cmpR (op_eqX EF.at_ EF.fn GE hr3 EF.b pass0) (pv 11) (pv 8) (nomark _)) (pe_cmpR (op_eqD hr.units) (pv 10) (pv 2) (nomark _)) (nomark _))))) (pss_one ps_never) pss_nil)
      (pss_cons (ps_set (i := 12) scRz.nd rfl (.inl rfl) (pe_call GO hr2 rfl D'.other.g D'.other.kp D'.other.b .nil pass0 (pa_cons (pv 0) (pa_cons (pv 1) pa_nil))))
      (pss_cons (ps_set (i := 13) scRz.nd rfl (.inl rfl) (ClX.pe_cmeth (pe_glob (v := .ref A.C) (by rfl) R.gL rfl) rM cM (GMa.raw WF.bM .nil) hr pass0 (pa_cons (pv 12) pa_nil)))
      (pss_cons (ps_if (PW.pt (pw_or (pt_cmpR (op_eqX EF.at_ EF.fn GE hr3 EF.b pass0) (pv 13) (pv 8) (nomark _))
          (pw_or (pt_not (pt_cmpR (op_neX WF.ne I.hob EF.at_ EF.fn GE hr4 EF.b pass0) (pv 13) (pv 8) (nomark _)))
          (pw_or1 (pt_not (pt_val (pe_call GIs hr rfl D'.isloop.g D'.isloop.kp D'.isloop.b .nil pass0 (pa_cons (pv 13) (pa_cons (pv 12) pa_nil))))))))) (pss_one ps_never) pss_nil)
      (pss_one (ps_ret (pe_and (pe_cmpR (op_neX WF.ne I.hob EF.at_ EF.fn GE hr4 EF.b pass0) (pv 8) (pv 2) (nomark _))
        (pe_and (pe_not (pe_cmpR (op_eqX EF.at_ EF.fn GE hr3 EF.b pass0) (pv 8) (pe_ix ix_tup (pv 2) pe_int (fun _ _ => rfl)) (nomark _)))
        (pe_and (pe_callTy (call_boolP WF.nb WF.nl) (by rfl) ZT.bool (by decide +kernel) (pa_cons (pv 8) pa_nil))
        (pe_one (pe_call GIs hr rfl D'.isloop.g D'.isloop.kp D'.isloop.b .nil pass0 (pa_cons (pv 8) (pa_cons (pv 2) pa_nil)))))))))))))))))))))), ?_⟩
    refine ⟨_, rfl, _, rfl, p, 4, rfl, by decide, by decide, hp, fun a H1 low nd a0 a1 hp1 b1 => ?_⟩
    refine ⟨p, a, 6, true, rfl, ⟨low, nd, a0, by omega⟩, by decide, by decide, hp1, fun q L H2 O Sm esg ln MD q0 hp2 b2 => ?_⟩
    refine ⟨_, rfl, q, L, rfl, O, MD, fun ql sg H3 psg srt RA n3 s3 => ?_⟩
    have OS := O.srt psg
    refine ⟨_, rfl, _, rfl, p, q, L, rfl, O, MD.same s3, hp2.same s3, fun x sg1 sg0 rw tn ye t rr u y as bs H4 hx nx psg1 srt1 TL PG hp4 b4 => ?_⟩
    obtain rfl : sg1 = sg := sg_same srt1 srt psg1 psg
    have hp3 := hp2.same s3
    have RA4 := RA.tk (Tk.but hp3 b4)
    have MD4 := (MD.same s3).but hp3 b4
    have b04 : But p H H4 := (b1.trans b2).trans ((But.of s3).trans b4)
    refine ⟨x, _, rfl, SqL.of hx, rfl, _, _, rfl, _, _, rfl, _, _, rfl, _, _, rfl, _, _, rfl, rfl, ?_⟩
    -- near
    refine ⟨_, rfl, _, rfl, _, rfl, _, rfl, _, rfl, rfl, rfl, fun x1 dx1 hx1 hd1 ne1 => ?_⟩
    have sm1 : Same H4 (L2.upd (L2.upd H4 dx1 (.own x1)) x1 (.ins A.C dx1 [])) := Same.new' (Same.put (Same.refl H4) hd1) hx1
    refine ⟨H4, x1, dx1, t, rr, u, y, as, bs, L.srt sg1, sg0, rw, tn, ye, rfl, OS, srt, TL, PG.same sm1, sm1, hx1, upd_same, fun H5 s5 L1 => ⟨rfl, ?_⟩⟩
    dsimp only [estR, List.set]
    -- a list of three
    refine ⟨_, rfl, _, rfl, _, rfl, _, rfl, _, rfl, _, rfl, rfl, rfl, fun x2 dx2 hx2 hd2 ne2 => ?_⟩
    have sm2 : Same H5 (L2.upd (L2.upd H5 dx2 (.own x2)) x2 (.ins A.C dx2 [])) := Same.new' (Same.put (Same.refl H5) hd2) hx2
    refine ⟨H5, x2, dx2, t, rr, u, y, as, bs, L.srt sg1, sg0, rw, tn, ye, rfl, OS, srt, TL, (PG.same s5).same sm2, sm2, hx2, upd_same, fun H6 s6 L2' => ⟨rfl, ?_⟩⟩
    refine ⟨rfl, _, rfl, ql, L.srt sg1, rfl, OS, srt, (RA4.same s5).same s6, fun x3 H7 n7 s7 L3 => ?_⟩
    refine ⟨by show 3 ≤ sizeLine; decide, fun l1 hl1 => ?_⟩
    have s8 := Same.put (o := .lst [.ref x1, .ref x2, .ref x3]) (Same.refl H7) hl1
    have h8 : (L2.upd H7 l1 (.lst [.ref x1, .ref x2, .ref x3])) l1 = some (.lst [.ref x1, .ref x2, .ref x3]) := upd_same
    generalize L2.upd H7 l1 (.lst [.ref x1, .ref x2, .ref x3]) = H8 at s8 h8 ⊢
    have s58 := (s6.trans s7).trans s8
    -- two more
    obtain ⟨dy, t5, rr5, u5, y5, tb5, as5, bs5, g0, pr5, TA5⟩ := L1.same s58
    obtain ⟨m1, m2, m3, m4, m5, m6⟩ := lf_look (S (L.srt sg1).sg) t5 rr5 u5 y5 tb5
    refine ⟨_, rfl, rfl, _, rfl, x1, dy, _, rfl, g0, x1, dy, t5, rr5, u5, y5, _, _, rfl, g0, m1, m2, m3, m4, m5, fun w1 hw1 => ⟨rfl, ?_⟩⟩
    have s9 := Same.put (o := .tup [.str (S (L.srt sg1).sg), .ref t5, .ref rr5, .ref u5, .ref y5]) (Same.refl H8) hw1
    have RW9 : RowAt (L2.upd H8 w1 (.tup [.str (S (L.srt sg1).sg), .ref t5, .ref rr5, .ref u5, .ref y5])) w1 (L.srt sg1) := (pr5.same s9).row upd_same
    generalize L2.upd H8 w1 (.tup [.str (S (L.srt sg1).sg), .ref t5, .ref rr5, .ref u5, .ref y5]) = H9 at s9 RW9 ⊢
    refine ⟨w1, L.srt sg1, rfl, OS, srt, RW9, fun x4 H10 n10 s10 L4 => ?_⟩
    have s410 := ((s5.trans s58).trans s9).trans s10
    obtain ⟨tR, rR, uR, yR, asR, bsR, r0, rt, rrr, rT, ru, rU, ry⟩ := RA4.same s410
    have pg10 := PG.same s410
    refine ⟨_, rfl, ql, _, _, _, rfl, rfl, SqT.of r0, atI_nat (j := 0) rfl, _, rfl, _, rfl, ql, _, _, _, rfl, rfl, SqT.of r0, atI_nat (j := 2) rfl, _, rfl, ql, _, _, _, rfl, rfl, SqT.of r0, atI_nat (j := 3) rfl, _, rfl, ql, _, _, _, rfl, rfl, SqT.of r0, atI_nat (j := 4) rfl, rfl, rfl, fun x5 dx5 hx5 hd5 ne5 => ?_⟩
    have sm5 : Same H10 (L2.upd (L2.upd H10 dx5 (.own x5)) x5 (.ins A.C dx5 [])) := Same.new' (Same.put (Same.refl H10) hd5) hx5
    refine ⟨H10, x5, dx5, t, rR, uR, yR, asR, bsR, L.srt sg1, sg1, _, _, _, rfl, OS, srt, self_told OS, PrtG.same sm5 ⟨pg10.ht, rrr, rT, ru, rU, ry⟩, sm5, hx5, upd_same, fun H11 s11 L5 => ⟨rfl, ?_⟩⟩
    refine ⟨by show 2 ≤ sizeLine; decide, fun l2 hl2 => ?_⟩
    have s12 := Same.put (o := .lst [.ref x4, .ref x5]) (Same.refl H11) hl2
    have h12 : (L2.upd H11 l2 (.lst [.ref x4, .ref x5])) l2 = some (.lst [.ref x4, .ref x5]) := upd_same
    generalize L2.upd H11 l2 (.lst [.ref x4, .ref x5]) = H12 at s12 h12 ⊢
    have s812 := ((s9.trans s10).trans s11).trans s12
    refine ⟨l1, l2, _, _, rfl, rfl, s812 _ _ h8, h12, by show 3 + 2 ≤ sizeLine; decide, fun l3 hl3 => ?_⟩
    have s13 := Same.put (o := .lst ([.ref x1, .ref x2, .ref x3] ++ [.ref x4, .ref x5])) (Same.refl H12) hl3
    have h13 : (L2.upd H12 l3 (.lst ([.ref x1, .ref x2, .ref x3] ++ [.ref x4, .ref x5]))) l3 = some (.lst (([x1, x2, x3, x4, x5] : List Addr).map V.ref)) := upd_same
    generalize L2.upd H12 l3 (.lst ([.ref x1, .ref x2, .ref x3] ++ [.ref x4, .ref x5])) = H13 at s13 h13 ⊢
    have s1113 := s12.trans s13
    have s1013 := s11.trans s1113
    have s713 := (s8.trans s812).trans s13
    have s413 := s410.trans s1013
    have K1 := (L1.same s58).same (s812.trans s13)
    have K2 := (L2'.same s7).same s713
    have K3 := L3.same s713
    have K4 := L4.same s1013
    have K5 := L5.same s1113
    have RA13 := RA4.same s413
    have PG13 := PG.same s413
    have MD13 := MD4.same s413
    have hp13 := hp4.same s413
    have b13 := b04.trans (But.of s413)
    have KK : ∀ z ∈ ([x1, x2, x3, x4, x5] : List Addr), LoopAt A.C A.T H13 z (L.srt sg1) := by
      intro z hz
      simp only [List.mem_cons, List.not_mem_nil, or_false] at hz
      rcases hz with rfl | rfl | rfl | rfl | rfl
      · exact K1
      · exact K2
      · exact K3
      · exact K4
      · exact K5
    clear s3 s5 s6 s7 s8 s58 s9 s10 s410 s11 s12 s812 s13 s1113 s1013 s713 s413 sm1 sm2 sm5 L1 L2' L3 L4 L5 K2 K3 K4 K5 pr5 TA5 g0 m1 m2 m3 m4 m5 m6 RW9 h8 h12
    -- each is the loop
    refine ⟨_, rfl, l3, rfl, ⟨_, SqL.of h13⟩, fun Dk hDk => lc_it (walk_list (xs := ([x1, x2, x3, x4, x5] : List Addr).map V.ref)) (fun i H14 => H14 Dk = some (.lst ((List.replicate i true).map V.bl)) ∧ Same H13 H14) ⟨upd_same, Same.put (Same.refl _) hDk⟩ (fun _ _ _ h => SqL.of (h.2 _ _ h13)) ?_ ?_⟩
    · rintro i v H14 H14' hi ⟨y1, y2⟩ ⟨rfl, hv⟩
      have hi : i < 5 := hi
      rw [List.getElem?_map] at hv
      obtain ⟨z, hz, rfl⟩ := Option.map_eq_some_iff.mp hv
      refine ⟨rfl, _, rfl, _, rfl, z, ql, L.srt sg1, L.srt sg1, rfl, (KK z (List.mem_of_getElem? hz)).same y2, OS, RA13.same y2, OS, ⟨rfl, rfl, rfl, rfl, rfl⟩, fun H15 s15 => ?_⟩
      refine ⟨_, s15 _ _ y1, ?_, ?_, Same.new' (y2.trans s15) hDk⟩
      · rw [List.length_map, List.length_replicate, sizeLine_eq]
        omega
      · rw [upd_same, List.replicate_succ', List.map_append] <;> rfl
    rintro H14 ⟨y1, s14⟩
    refine ⟨Dk, _, rfl, SqL.of y1, true, by rw [all_reps], ?_⟩
    -- each equals the first
    refine ⟨_, rfl, l3, rfl, ⟨_, SqL.of (s14 _ _ h13)⟩, fun Dm hDm => lc_it (walk_list (xs := ([x1, x2, x3, x4, x5] : List Addr).map V.ref)) (fun i H15 => H15 Dm = some (.lst ((List.replicate i true).map V.bl)) ∧ Same H14 H15) ⟨upd_same, Same.put (Same.refl _) hDm⟩ (fun _ _ _ h => SqL.of (h.2 _ _ (s14 _ _ h13))) ?_ ?_⟩
    · rintro i v H15 H15' hi ⟨z1, z2⟩ ⟨rfl, hv⟩
      have hi : i < 5 := hi
      rw [List.getElem?_map] at hv
      obtain ⟨z, hz, rfl⟩ := Option.map_eq_some_iff.mp hv
      have s135 := s14.trans z2
      have Lz := (KK z (List.mem_of_getElem? hz)).same s135
      have Lx := K1.same s135
      obtain ⟨dz, fz, hz0, _⟩ := Lz.hdx
      refine ⟨rfl, _, rfl, _, rfl, z, dz, fz, .ref A.C, rfl, hz0, isi_loop (D := R.L) I Lx, EF.nf, z, .ref x1, L.srt sg1, rfl, Lz, OS, .inl ⟨x1, L.srt sg1, rfl, Lx, OS, fun H16 s16 => ?_⟩⟩
      rw [loopP_eqv OS]
      refine ⟨true, rfl, ?_⟩
      have Lz := Lz.same s16
      have Lx := Lx.same s16
      refine ⟨_, rfl, _, rfl, z, dz, fz, .ref A.C, rfl, s16 _ _ hz0, isi_loop (D := R.L) I Lx, EF.nf, z, .ref x1, L.srt sg1, rfl, Lz, OS, .inl ⟨x1, L.srt sg1, rfl, Lx, OS, fun H17 s17 => ⟨_, rfl, _, rfl, ?_⟩⟩⟩
      rw [loopP_eqv OS]
      refine ⟨_, s17 _ _ (s16 _ _ z1), ?_, ?_, Same.new' (z2.trans (s16.trans s17)) hDm⟩
      · rw [List.length_map, List.length_replicate, sizeLine_eq]
        omega
      · rw [upd_same, List.replicate_succ', List.map_append] <;> rfl
    rintro H15 ⟨z1, s15⟩
    refine ⟨Dm, _, rfl, SqL.of z1, true, by rw [all_reps], ?_⟩
    have sA := s14.trans s15
    obtain ⟨tR, rR, uR, yR, asR, bsR, r0, rt, rrr, rT, ru, rU, ry⟩ := RA13.same sA
    have ht15 := (PG13.same sA).ht
    -- the plain row
    refine ⟨_, rfl, _, rfl, ql, _, rfl, SqT.of r0, ?_, fun e1 he1 => ?_⟩
    · rintro ⟨_, q⟩
      exact absurd (show HT.sIx 5 5 (some 3) = 5 from q) (by decide)
    rw [show cutV [V.str (S (L.srt sg1).sg), .ref tR, .ref rR, .ref uR, .ref yR] none (some 3) = [.str (S sg1), .ref tR, .ref rR] from rfl]
    have s16 := Same.put (o := .tup [.str (S sg1), .ref tR, .ref rR]) (Same.refl H15) he1
    have f16 : (L2.upd H15 e1 (.tup [.str (S sg1), .ref tR, .ref rR])) e1 = some (.tup [.str (S sg1), .ref tR, .ref rR]) := upd_same
    generalize L2.upd H15 e1 (.tup [.str (S sg1), .ref tR, .ref rR]) = H16 at s16 f16 ⊢
    have ht16 := s16 _ _ ht15
    refine ⟨_, rfl, t, rfl, ⟨_, SqT.of ht16⟩, fun Dp hDp => lc_it (walk_tup (xs := L.st.map V.str)) (fun i H17 => ∃ cs : List Addr, H17 Dp = some (.lst (cs.map V.ref)) ∧ Tups H17 cs ((L.st.take i).map fun z => [V.str z, .str z, .int 0]) ∧ cs.length = i ∧ Same H16 H17) ⟨[], upd_same, trivial, rfl, Same.put (Same.refl _) hDp⟩ (fun _ _ _ h => by obtain ⟨_, _, _, _, h⟩ := h; exact SqT.of (h _ _ ht16)) ?_ ?_⟩
    · rintro i v H17 H17' hi ⟨cs, g1, g2, lc, g3⟩ ⟨rfl, hv⟩
      rw [List.length_map] at hi
      have hi : i < L.n := hi
      have n6 : L.n ≤ 6 := O.sts.few
      have hv' : v = .str (L.nm i) := Option.some.inj (hv.symm.trans (map_get (nm_at hi)))
      subst hv'
      refine ⟨rfl, _, rfl, _, rfl, by show 3 ≤ sizeLine; decide, fun c hc => ?_⟩
      have s18 := Same.put (o := .tup [.str (L.nm i), .str (L.nm i), .int 0]) (Same.refl H17') hc
      refine ⟨_, s18 _ _ g1, by rw [List.length_map, sizeLine_eq]; omega, cs ++ [c], ?_, ?_, by rw [List.length_append, lc] <;> rfl, Same.new' (g3.trans s18) hDp⟩
      · rw [upd_same, List.map_append] <;> rfl
      · rw [take_more (nm_at hi), List.map_append]
        exact Tups.but (fun x => by intro q; cases q) (s18 _ _ g1) (But.here (But.refl Dp _)) (Tups.snoc upd_same (g2.same s18))
    rintro H17 ⟨cs, g1, g2, lc, s17⟩
    rw [List.length_map, List.take_length] at g2
    refine ⟨Dp, _, rfl, .inl ⟨SqL.of g1, fun t2 ht2 => ?_⟩⟩
    have s18 := Same.put (o := .tup (cs.map V.ref)) (Same.refl H17) ht2
    have f18 : (L2.upd H17 t2 (.tup (cs.map V.ref))) t2 = some (.tup (cs.map V.ref)) := upd_same
    generalize L2.upd H17 t2 (.tup (cs.map V.ref)) = H18 at s18 f18 ⊢
    refine ⟨by show 0 ≤ sizeLine; decide, fun t3 ht3 => ?_⟩
    have s19 := Same.put (o := .tup []) (Same.refl H18) ht3
    have f19 : (L2.upd H18 t3 (.tup [])) t3 = some (.tup []) := upd_same
    generalize L2.upd H18 t3 (.tup []) = H19 at s19 f19 ⊢
    refine ⟨by show 2 ≤ sizeLine; decide, fun t4 ht4 => ?_⟩
    have s20 := Same.put (o := .tup [.ref t2, .ref t3]) (Same.refl H19) ht4
    have f20 : (L2.upd H19 t4 (.tup [.ref t2, .ref t3])) t4 = some (.tup [.ref t2, .ref t3]) := upd_same
    generalize L2.upd H19 t4 (.tup [.ref t2, .ref t3]) = H20 at s20 f20 ⊢
    have s1620 := ((s17.trans s18).trans s19).trans s20
    refine ⟨e1, t4, _, _, rfl, rfl, SqT.of (s1620 _ _ f16), SqT.of f20, List.cons_ne_nil _ _, by show 5 ≤ sizeLine; decide, (fun z => nomatch z), fun _ qp hqp => ?_⟩
    have s21 := Same.put (o := .tup ([.str (S sg1), .ref tR, .ref rR] ++ [.ref t2, .ref t3])) (Same.refl H20) hqp
    have s1521 := s16.trans (s1620.trans s21)
    have OB := OS.blank
    have RP : RowAt (L2.upd H20 qp (.tup ([.str (S sg1), .ref tR, .ref rR] ++ [.ref t2, .ref t3]))) qp (L.srt sg1).blank := by
      refine ⟨tR, rR, t2, t3, asR, cs, upd_same, s1521 _ _ rt, s1521 _ _ rrr, rT.same s1521, ((s19.trans s20).trans s21) _ _ f18, ?_, ?_⟩
      · have e : ((L.srt sg1).blank.turns.map Trn.v) = L.st.map fun z => [V.str z, .str z, .int 0] := by
          conv => rhs; rw [st_is L]
          rw [List.map_map]
          show ((List.range L.n).map (L.srt sg1).blank.turn).map Trn.v = _
          rw [List.map_map]
          rfl
        rw [e]
        exact g2.same (((s18.trans s19).trans s20).trans s21)
      · rw [blank_yes]
        exact (s20.trans s21) _ _ f19
    generalize L2.upd H20 qp (.tup ([.str (S sg1), .ref tR, .ref rR] ++ [.ref t2, .ref t3])) = H21 at s21 s1521 RP ⊢
    have s1321 := sA.trans s1521
    have PG21 := PG13.same s1321
    clear s14 s15 s16 s17 s18 s19 s20 s1620 f16 f18 f19 f20 g1 g2 rT rU y1 z1
    dsimp only [estR, List.set]
    -- the bare loop
    refine ⟨_, rfl, _, rfl, _, rfl, fun x6 dx6 hx6 hd6 ne6 => ?_⟩
    have sm6 : Same H21 (L2.upd (L2.upd H21 dx6 (.own x6)) x6 (.ins A.C dx6 [])) := Same.new' (Same.put (Same.refl H21) hd6) hx6
    refine ⟨H21, x6, dx6, t, rr, e, e2, as, (L.srt sg1).blank, sg0, rw, rfl, OB, srt, blank_told TL.sgP TL.rwP, Prt00.same sm6 ⟨PG21.ht, PG21.hr, PG21.hT, WF.e0, E2⟩, sm6, hx6, upd_same, fun H22 s22 L6 => ⟨rfl, ?_⟩⟩
    refine ⟨_, rfl, _, rfl, x6, qp, (L.srt sg1).blank, (L.srt sg1).blank, rfl, L6, OB, RP.same s22, OB, ⟨rfl, rfl, rfl, rfl, rfl⟩, fun H23 s23 => ⟨true, rfl, iteF ?_⟩⟩
    have s1323 := s1321.trans (s22.trans s23)
    have L6' := L6.same s23
    have Lx := K1.same s1323
    obtain ⟨d6, f6, h60, _⟩ := L6'.hdx
    refine ⟨_, rfl, _, rfl, x6, d6, f6, .ref A.C, rfl, h60, isi_loop (D := R.L) I Lx, EF.nf, x6, .ref x1, (L.srt sg1).blank, rfl, L6', OB, .inl ⟨x1, L.srt sg1, rfl, Lx, OS, fun H24 s24 => ?_⟩⟩
    refine ⟨_, rfl, _, rfl, loopP (L.srt sg1).blank, loopP (L.srt sg1), rowP_dp (((RP.same s22).same s23).same s24), rowP_dp ((RA13.same s1323).same s24), loopP_shaped OB, loopP_shaped OS, rfl, _, rfl, iteNS rfl ?_⟩
    -- another
    have s1324 := s1323.trans s24
    have hp24 := hp13.same s1324
    refine ⟨_, rfl, _, rfl, p, q, L, rfl, O, MD13.same s1324, hp24, fun far sgF M H25 psgF srtF OM eM RF neM hp25 b25 => ?_⟩
    obtain rfl : sgF = sg1 := sg_same srtF srt psgF psg
    have srtM : PyProof.Rows.sortedS (M.sg.map sOne) = true := by rw [eM]; exact srtF
    refine ⟨rfl, _, rfl, far, M, rfl, OM, srtM, RF, fun x7 H26 n7 s26 L7 => ?_⟩
    have Lx := ((K1.same s1324).but hp24 b25).same s26
    have RA26 := ((RA13.same s1324).tk (Tk.but hp24 b25)).same s26
    obtain ⟨d7, f7, h70, _⟩ := L7.hdx
    obtain ⟨d1, f1, h10, _⟩ := Lx.hdx
    refine ⟨_, rfl, _, rfl, x7, d7, f7, .ref A.C, rfl, h70, isi_loop (D := R.L) I Lx, EF.nf, x7, .ref x1, M, rfl, L7, OM, .inl ⟨x1, L.srt sgF, rfl, Lx, OS, fun H27 s27 => ?_⟩⟩
    rw [eqv_other neM]
    refine ⟨_, rfl, iteF ?_⟩
    have Lx := Lx.same s27
    have L7 := L7.same s27
    refine ⟨_, rfl, _, rfl, x7, d7, f7, .ref A.C, rfl, s27 _ _ h70, isi_loop (D := R.L) I Lx, EF.nf, x7, .ref x1, M, rfl, L7, OM, .inl ⟨x1, L.srt sgF, rfl, Lx, OS, fun H28 s28 => ⟨_, rfl, ?_⟩⟩⟩
    rw [eqv_other neM]
    refine ⟨_, rfl, iteF ?_⟩
    have RF28 := ((RF.same s26).same s27).same s28
    refine ⟨_, rfl, _, rfl, x7, far, M, M, rfl, L7.same s28, OM, RF28, OM, ⟨rfl, rfl, rfl, rfl, rfl⟩, fun H29 s29 => ⟨true, rfl, ?_⟩⟩
    -- the end
    have s2629 := (s27.trans s28).trans s29
    have Lx := (Lx.same s28).same s29
    have RA29 := RA26.same s2629
    obtain ⟨tR, rR, uR, yR, asR, bsR, r0, rt, rrr, rT, ru, rU, ry⟩ := id RA29
    have h1 := s2629 _ _ h10
    refine ⟨_, rfl, _, rfl, x1, d1, f1, .type "tuple", rfl, h1, .base (.tup r0), WF.nt, x1, .ref ql, L.srt sgF, rfl, Lx, OS, .inr ⟨.type "tuple", .base (.tup r0), WF.kt, ⟨_, rfl, ?_⟩⟩⟩
    refine ⟨_, rfl, iteT ?_⟩
    refine ⟨_, rfl, _, rfl, ql, _, _, _, rfl, rfl, SqT.of r0, atI_nat (j := 1) rfl, x1, d1, f1, .type "tuple", rfl, h1, .base (.tup rt), WF.nt, x1, .ref tR, L.srt sgF, rfl, Lx, OS, .inr ⟨.type "tuple", .base (.tup rt), WF.kt, ⟨_, rfl, ?_⟩⟩⟩
    refine ⟨_, rfl, iteT ?_⟩
    refine ⟨_, rfl, x1, d1, f1, rfl, h1, ⟨_, rfl, iteT ?_⟩⟩
    refine ⟨_, rfl, _, rfl, x1, ql, L.srt sgF, L.srt sgF, rfl, Lx, OS, RA29, OS, ⟨rfl, rfl, rfl, rfl, rfl⟩, fun H30 s30 => ?_⟩
    exact k _ ((b13.trans (But.of s1324)).trans (b25.trans (But.of (s26.trans (s2629.trans s30)))))
end
end Wb
namespace Wb
open PySem L2 WbMin WbS Lz
def spLaw (K : PySem.W.Frag) : Sp := fun vs H Q _ => ∃ (a : Addr) (ns : List Int), vs = [.ref a] ∧ SqL K H a (ns.map V.int) ∧ ns.length ≤ 63 ∧ ∀ H', Q (.bl true) H'
section
variable {P : Program} {w : World} {K : PySem.W.Frag} {mg : Str → Option Value} {base : Heap} {f : Addr} {fd : FuncData} {A : LA} {e : Addr} {D : DA} {BM : MadA} {BE : EqA} {BQ : PrA}
theorem scLa : FnScope ["_law_script", "_law_k"] ["_law_script"] (defScope sLaw) := ⟨rfl, rfl, rfl, by decide +kernel, rfl, by decide +kernel, by decide +kernel⟩
theorem ok_law (F : Fun K "law" "law" sLaw f fd) (Z : Free mg) (ZT : FreeT mg) (R : LoopF K mg A e) (WF : WayF K A BM e) (PF : PrpF K A BQ) (EF : EqF K mg A BE) (I : IsiF K A.C) (D' : Defs K mg D) : FnOk P w K mg base CX0 8 f fd ["_law_script"] (spLaw K) := by
  have GC : FnOk P w K mg base CX0 1 D.cell D.dcell ["_law_script", "_law_k"] (spCell K) := ok_cell D'.cell.F Z.int Z.len
  have GP : FnOk P w K mg base CX0 1 D.pool D.dpool ["_law_cell_here"] spPool := ok_pool D'.pool.F Z.abs Z.int
  have GR : FnOk P w K mg base CX0 7 D.right D.dright ["_law_pool_here"] spRight := ok_right D'.right.F Z ZT R WF PF EF I D'
  refine F.ok scLa (fun vs H Q E h => ?_) (fun cdv A' outer s H vs Q E hr h => ?_)
  · obtain ⟨a, ns, rfl, _⟩ := h
    rfl
  · obtain ⟨a, ns, rfl, hS, hlen, k⟩ := h
    have hr1 : Room 1 _ := hr.mono (by decide)
    refine ⟨_, pss_one (ps_ret (pe_callB (cr_all rfl) (by rfl) Z.all (by decide +kernel) (pa_cons
      (pe_lc (own := [("_law_k", 1)]) (g := gName 1) (tt := tYes) rfl scLa.nd (pi_range1 rfl Z.range (pa_cons (pe_callB (call_max2 rfl) (by rfl) Z.max (by decide +kernel) (pa_cons pe_int (pa_cons
            (pe_callB (call_min2 rfl) (by rfl) Z.min (by decide +kernel) (pa_cons (pe_callB call_len_seq (by rfl) Z.len PySem.boot_len (pa_cons (pv 0) pa_nil)) (pa_cons pe_int pa_nil))) pa_nil))) pa_nil))
        (blkOk_by (N := ["_law_script", "_law_k"]) (sc := defScope sLaw) (by decide +kernel)) (fun _ _ _ _ _ => pg_name (i := 1) scLa.nd rfl (.inl rfl)) (fun _ _ _ _ _ => pts_nil)
        (fun _ _ _ _ _ => pe_call GR hr rfl D'.right.g D'.right.kp D'.right.b .nil pass0 (pa_cons (pe_call GP hr1 rfl D'.pool.g D'.pool.kp D'.pool.b .nil pass0 (pa_cons (pe_call GC hr1 rfl D'.cell.g D'.cell.kp D'.cell.b .nil pass0 (pa_cons (pv 0) (pa_cons (pv 1) pa_nil))) pa_nil)) pa_nil))) pa_nil))), ?_⟩
    have few : (ns.map V.int).length ≤ 63 := by rw [List.length_map]; exact hlen
    have all2 : ∀ n : Nat, (List.replicate n true).all id = true := fun n => List.all_eq_true.mpr fun b hb => by rw [List.eq_of_mem_replicate hb] <;> rfl
    refine ⟨_, rfl, a, _, rfl, .inl hS, _, _, rfl, _, _, rfl, _, rfl, ?_, ?_, fun L hL => lc_it walk_range (fun i H3 => H3 L = some (.lst ((List.replicate i true).map V.bl)) ∧ Same H H3) ⟨upd_same, Same.put (Same.refl H) hL⟩ (fun _ _ _ _ => trivial) ?_ ?_⟩
    · split <;> split <;> omega
    · split <;> split <;> omega
    · rintro i x H3 H3' hi ⟨h1, h2⟩ ⟨rfl, rfl⟩
      have hi' : i < 8 := by
        have q := hi
        split at q <;> (try split at q) <;> omega
      refine ⟨rfl, _, rfl, _, rfl, a, ns, _, rfl, Same.seq h2 hS, hlen, by omega, by omega, fun n H4 s4 => ⟨_, rfl, fun p H5 np s5 hp => ⟨p, rfl, hp, fun H6 b6 => ?_⟩⟩⟩
      have h4 := s4 _ _ h1
      have s6 : Same H H6 := fun b o e => by
        have q := s4 _ _ (h2 _ _ e)
        exact b6 b o (ne_of_none q np) (s5 _ _ q)
      refine ⟨_, b6 L _ (ne_of_none h4 np) (s5 _ _ h4), ?_, ?_, Same.new' s6 hL⟩
      · rw [List.length_map, List.length_replicate, sizeLine_eq]
        omega
      · rw [upd_same, List.replicate_succ', List.map_append] <;> rfl
    · rintro H3 ⟨h1, h2⟩
      refine ⟨L, _, rfl, SqL.of h1, ?_⟩
      rw [all2]
      exact k H3
end
end Wb
namespace Wb
open PySem L2 WbMin WbS Lz
set_option maxHeartbeats 0 in
theorem all_mk {l : PySem.W.OpenLaw} {w : World} {K : PySem.W.Frag} {h : Heap} {mg : Str → Option Value} {fa C T O  tD kD e e2 pMa pRw pSg pSs pTu pW pYe : Addr} {t600 t4 t8 t6  : Tok} {rMa rRw rSg rSs rTu rW rYe : List Value} {oc_tD : Value} {od_tD : Option Addr} {n_tD : Nat} {sl_tD : Array (Option Value)} (X : K.In h) (G : h.Ns mainGlobals mg) (hfa : mg "law" = some (.ref fa))
    {f_cell f_pool f_draw f_shuf f_face f_signs f_name f_names f_amount f_model f_line f_parts f_isloop f_other f_right f_ksigns f_ksignof f_kfirst f_kisword f_kisname f_kisint f_kintfrom f_kstateof f_krowof f_kturnof f_kchst f_kchro f_kchtu f_kchye f_korro f_kortu f_korye f_law f_mI f_mW f_mAn f_mSt f_mTx f_mGo f_mOf f_mtI f_mtG f_mcI f_mcP f_mcB f_mMa f_mEq f_mSg f_mSs f_mRw f_mTu f_mYe : Addr} {od_cell an_cell od_pool an_pool od_draw an_draw od_shuf an_shuf od_face an_face od_signs an_signs od_name an_name od_names an_names od_amount an_amount od_model an_model od_line an_line od_parts an_parts od_isloop an_isloop od_other an_other od_right an_right od_ksigns an_ksigns od_ksignof an_ksignof od_kfirst an_kfirst od_kisword an_kisword od_kisname an_kisname od_kisint an_kisint od_kintfrom an_kintfrom od_kstateof an_kstateof od_krowof an_krowof od_kturnof an_kturnof od_kchst an_kchst od_kchro an_kchro od_kchtu an_kchtu od_kchye an_kchye od_korro an_korro od_kortu an_kortu od_korye an_korye od_law an_law od_mI an_mI od_mW an_mW od_mAn an_mAn od_mSt an_mSt od_mTx an_mTx od_mGo an_mGo od_mOf an_mOf od_mtI an_mtI od_mtG an_mtG od_mcI an_mcI od_mcP an_mcP od_mcB an_mcB od_mMa an_mMa od_mEq an_mEq od_mSg an_mSg od_mSs an_mSs od_mRw an_mRw od_mTu an_mTu od_mYe an_mYe : Option Addr} {sl_cell sl_pool sl_draw sl_shuf sl_face sl_signs sl_name sl_names sl_amount sl_model sl_line sl_parts sl_isloop sl_other sl_right sl_ksigns sl_ksignof sl_kfirst sl_kisword sl_kisname sl_kisint sl_kintfrom sl_kstateof sl_krowof sl_kturnof sl_kchst sl_kchro sl_kchtu sl_kchye sl_korro sl_kortu sl_korye sl_law sl_mI sl_mW sl_mAn sl_mSt sl_mTx sl_mGo sl_mOf sl_mtI sl_mtG sl_mcI sl_mcP sl_mcB sl_mMa sl_mEq sl_mSg sl_mSs sl_mRw sl_mTu sl_mYe : Array (Option Value)}
    {od_e0 od_e2 : Option Addr}
    {n_e0 n_e2 : Nat}
    {sl_e0 sl_e2 : Array (Option Value)}
    {oc_cell kv_cell dc_cell pm_cell cd_cell ct_cell oc_pool kv_pool dc_pool pm_pool cd_pool ct_pool oc_draw kv_draw dc_draw pm_draw cd_draw ct_draw oc_shuf kv_shuf dc_shuf pm_shuf cd_shuf ct_shuf oc_face kv_face dc_face pm_face cd_face ct_face oc_signs kv_signs dc_signs pm_signs cd_signs ct_signs oc_name kv_name dc_name pm_name cd_name ct_name oc_names kv_names dc_names pm_names cd_names ct_names oc_amount kv_amount dc_amount pm_amount cd_amount ct_amount oc_model kv_model dc_model pm_model cd_model ct_model oc_line kv_line dc_line pm_line cd_line ct_line oc_parts kv_parts dc_parts pm_parts cd_parts ct_parts oc_isloop kv_isloop dc_isloop pm_isloop cd_isloop ct_isloop oc_other kv_other dc_other pm_other cd_other ct_other oc_right kv_right dc_right pm_right cd_right ct_right oc_ksigns kv_ksigns dc_ksigns pm_ksigns cd_ksigns ct_ksigns oc_ksignof kv_ksignof dc_ksignof pm_ksignof cd_ksignof ct_ksignof oc_kfirst kv_kfirst dc_kfirst pm_kfirst cd_kfirst ct_kfirst oc_kisword kv_kisword dc_kisword pm_kisword cd_kisword ct_kisword oc_kisname kv_kisname dc_kisname pm_kisname cd_kisname ct_kisname oc_kisint kv_kisint dc_kisint pm_kisint cd_kisint ct_kisint oc_kintfrom kv_kintfrom dc_kintfrom pm_kintfrom cd_kintfrom ct_kintfrom oc_kstateof kv_kstateof dc_kstateof pm_kstateof cd_kstateof ct_kstateof oc_krowof kv_krowof dc_krowof pm_krowof cd_krowof ct_krowof oc_kturnof kv_kturnof dc_kturnof pm_kturnof cd_kturnof ct_kturnof oc_kchst kv_kchst dc_kchst pm_kchst cd_kchst ct_kchst oc_kchro kv_kchro dc_kchro pm_kchro cd_kchro ct_kchro oc_kchtu kv_kchtu dc_kchtu pm_kchtu cd_kchtu ct_kchtu oc_kchye kv_kchye dc_kchye pm_kchye cd_kchye ct_kchye oc_korro kv_korro dc_korro pm_korro cd_korro ct_korro oc_kortu kv_kortu dc_kortu pm_kortu cd_kortu ct_kortu oc_korye kv_korye dc_korye pm_korye cd_korye ct_korye oc_law kv_law dc_law pm_law cd_law ct_law oc_mI dc_mI pm_mI cd_mI ct_mI oc_mW kv_mW dc_mW pm_mW cd_mW ct_mW oc_mAn kv_mAn dc_mAn pm_mAn cd_mAn ct_mAn oc_mSt kv_mSt dc_mSt pm_mSt cd_mSt ct_mSt oc_mTx kv_mTx dc_mTx pm_mTx cd_mTx ct_mTx oc_mGo kv_mGo dc_mGo pm_mGo cd_mGo ct_mGo oc_mOf kv_mOf dc_mOf pm_mOf cd_mOf ct_mOf oc_mtI kv_mtI dc_mtI pm_mtI cd_mtI ct_mtI oc_mtG kv_mtG dc_mtG pm_mtG cd_mtG ct_mtG oc_mcI kv_mcI dc_mcI pm_mcI cd_mcI ct_mcI oc_mcP kv_mcP dc_mcP pm_mcP cd_mcP ct_mcP oc_mcB kv_mcB dc_mcB pm_mcB cd_mcB ct_mcB oc_mMa kv_mMa dc_mMa pm_mMa cd_mMa ct_mMa oc_mEq kv_mEq dc_mEq pm_mEq cd_mEq ct_mEq oc_mSg kv_mSg dc_mSg pm_mSg cd_mSg ct_mSg oc_mSs kv_mSs dc_mSs pm_mSs cd_mSs ct_mSs oc_mRw kv_mRw dc_mRw pm_mRw cd_mRw ct_mRw oc_mTu kv_mTu dc_mTu pm_mTu cd_mTu ct_mTu oc_mYe kv_mYe dc_mYe pm_mYe cd_mYe ct_mYe : Value}
    (a_cell : PySem.W.nsIn K mainGlobals "_law_cell" = some (some (.ref f_cell)))
    (l_cell : K.lookup f_cell = some ⟨oc_cell, od_cell, .func (PySem.W.fnOf "_law_cell" "_law_cell" (defArgs sCell) (defBody sCell) (defScope sCell) .none kv_cell dc_cell pm_cell an_cell cd_cell ct_cell), sl_cell⟩)
    (c_cell : PySem.W.codeIn K cd_cell "_law_cell" = true)
    (k_cell : PySem.W.keepIn K (.ref f_cell) = true)
    (a_pool : PySem.W.nsIn K mainGlobals "_law_pool" = some (some (.ref f_pool)))
    (l_pool : K.lookup f_pool = some ⟨oc_pool, od_pool, .func (PySem.W.fnOf "_law_pool" "_law_pool" (defArgs sPool) (defBody sPool) (defScope sPool) .none kv_pool dc_pool pm_pool an_pool cd_pool ct_pool), sl_pool⟩)
    (c_pool : PySem.W.codeIn K cd_pool "_law_pool" = true)
    (k_pool : PySem.W.keepIn K (.ref f_pool) = true)
    (a_draw : PySem.W.nsIn K mainGlobals "_law_draw" = some (some (.ref f_draw)))
    (l_draw : K.lookup f_draw = some ⟨oc_draw, od_draw, .func (PySem.W.fnOf "_law_draw" "_law_draw" (defArgs sDraw) (defBody sDraw) (defScope sDraw) .none kv_draw dc_draw pm_draw an_draw cd_draw ct_draw), sl_draw⟩)
    (c_draw : PySem.W.codeIn K cd_draw "_law_draw" = true)
    (k_draw : PySem.W.keepIn K (.ref f_draw) = true)
    (a_shuf : PySem.W.nsIn K mainGlobals "_law_shuffled" = some (some (.ref f_shuf)))
    (l_shuf : K.lookup f_shuf = some ⟨oc_shuf, od_shuf, .func (PySem.W.fnOf "_law_shuffled" "_law_shuffled" (defArgs sShuf) (defBody sShuf) (defScope sShuf) .none kv_shuf dc_shuf pm_shuf an_shuf cd_shuf ct_shuf), sl_shuf⟩)
    (c_shuf : PySem.W.codeIn K cd_shuf "_law_shuffled" = true)
    (k_shuf : PySem.W.keepIn K (.ref f_shuf) = true)
    (a_face : PySem.W.nsIn K mainGlobals "_law_face" = some (some (.ref f_face)))
    (l_face : K.lookup f_face = some ⟨oc_face, od_face, .func (PySem.W.fnOf "_law_face" "_law_face" (defArgs sFace) (defBody sFace) (defScope sFace) .none kv_face dc_face pm_face an_face cd_face ct_face), sl_face⟩)
    (c_face : PySem.W.codeIn K cd_face "_law_face" = true)
    (k_face : PySem.W.keepIn K (.ref f_face) = true)
    (a_signs : PySem.W.nsIn K mainGlobals "_law_signs" = some (some (.ref f_signs)))
    (l_signs : K.lookup f_signs = some ⟨oc_signs, od_signs, .func (PySem.W.fnOf "_law_signs" "_law_signs" (defArgs sSigns) (defBody sSigns) (defScope sSigns) .none kv_signs dc_signs pm_signs an_signs cd_signs ct_signs), sl_signs⟩)
    (c_signs : PySem.W.codeIn K cd_signs "_law_signs" = true)
    (k_signs : PySem.W.keepIn K (.ref f_signs) = true)
    (a_name : PySem.W.nsIn K mainGlobals "_law_name" = some (some (.ref f_name)))
    (l_name : K.lookup f_name = some ⟨oc_name, od_name, .func (PySem.W.fnOf "_law_name" "_law_name" (defArgs sName) (defBody sName) (defScope sName) .none kv_name dc_name pm_name an_name cd_name ct_name), sl_name⟩)
    (c_name : PySem.W.codeIn K cd_name "_law_name" = true)
    (k_name : PySem.W.keepIn K (.ref f_name) = true)
    (a_names : PySem.W.nsIn K mainGlobals "_law_names" = some (some (.ref f_names)))
    (l_names : K.lookup f_names = some ⟨oc_names, od_names, .func (PySem.W.fnOf "_law_names" "_law_names" (defArgs sNames) (defBody sNames) (defScope sNames) .none kv_names dc_names pm_names an_names cd_names ct_names), sl_names⟩)
    (c_names : PySem.W.codeIn K cd_names "_law_names" = true)
    (k_names : PySem.W.keepIn K (.ref f_names) = true)
    (a_amount : PySem.W.nsIn K mainGlobals "_law_amount" = some (some (.ref f_amount)))
    (l_amount : K.lookup f_amount = some ⟨oc_amount, od_amount, .func (PySem.W.fnOf "_law_amount" "_law_amount" (defArgs sAmount) (defBody sAmount) (defScope sAmount) .none kv_amount dc_amount pm_amount an_amount cd_amount ct_amount), sl_amount⟩)
    (c_amount : PySem.W.codeIn K cd_amount "_law_amount" = true)
    (k_amount : PySem.W.keepIn K (.ref f_amount) = true)
    (a_model : PySem.W.nsIn K mainGlobals "_law_model" = some (some (.ref f_model)))
    (l_model : K.lookup f_model = some ⟨oc_model, od_model, .func (PySem.W.fnOf "_law_model" "_law_model" (defArgs sModel) (defBody sModel) (defScope sModel) .none kv_model dc_model pm_model an_model cd_model ct_model), sl_model⟩)
    (c_model : PySem.W.codeIn K cd_model "_law_model" = true)
    (k_model : PySem.W.keepIn K (.ref f_model) = true)
    (a_line : PySem.W.nsIn K mainGlobals "_law_line" = some (some (.ref f_line)))
    (l_line : K.lookup f_line = some ⟨oc_line, od_line, .func (PySem.W.fnOf "_law_line" "_law_line" (defArgs sLine) (defBody sLine) (defScope sLine) .none kv_line dc_line pm_line an_line cd_line ct_line), sl_line⟩)
    (c_line : PySem.W.codeIn K cd_line "_law_line" = true)
    (k_line : PySem.W.keepIn K (.ref f_line) = true)
    (a_parts : PySem.W.nsIn K mainGlobals "_law_parts" = some (some (.ref f_parts)))
    (l_parts : K.lookup f_parts = some ⟨oc_parts, od_parts, .func (PySem.W.fnOf "_law_parts" "_law_parts" (defArgs sParts) (defBody sParts) (defScope sParts) .none kv_parts dc_parts pm_parts an_parts cd_parts ct_parts), sl_parts⟩)
    (c_parts : PySem.W.codeIn K cd_parts "_law_parts" = true)
    (k_parts : PySem.W.keepIn K (.ref f_parts) = true)
    (a_isloop : PySem.W.nsIn K mainGlobals "_law_is_loop" = some (some (.ref f_isloop)))
    (l_isloop : K.lookup f_isloop = some ⟨oc_isloop, od_isloop, .func (PySem.W.fnOf "_law_is_loop" "_law_is_loop" (defArgs sIsLoop) (defBody sIsLoop) (defScope sIsLoop) .none kv_isloop dc_isloop pm_isloop an_isloop cd_isloop ct_isloop), sl_isloop⟩)
    (c_isloop : PySem.W.codeIn K cd_isloop "_law_is_loop" = true)
    (k_isloop : PySem.W.keepIn K (.ref f_isloop) = true)
    (a_other : PySem.W.nsIn K mainGlobals "_law_other" = some (some (.ref f_other)))
    (l_other : K.lookup f_other = some ⟨oc_other, od_other, .func (PySem.W.fnOf "_law_other" "_law_other" (defArgs sOther) (defBody sOther) (defScope sOther) .none kv_other dc_other pm_other an_other cd_other ct_other), sl_other⟩)
    (c_other : PySem.W.codeIn K cd_other "_law_other" = true)
    (k_other : PySem.W.keepIn K (.ref f_other) = true)
    (a_right : PySem.W.nsIn K mainGlobals "_law_right" = some (some (.ref f_right)))
    (l_right : K.lookup f_right = some ⟨oc_right, od_right, .func (PySem.W.fnOf "_law_right" "_law_right" (defArgs sRight) (defBody sRight) (defScope sRight) .none kv_right dc_right pm_right an_right cd_right ct_right), sl_right⟩)
    (c_right : PySem.W.codeIn K cd_right "_law_right" = true)
    (k_right : PySem.W.keepIn K (.ref f_right) = true)
    (a_ksigns : PySem.W.nsIn K mainGlobals "is_signs" = some (some (.ref f_ksigns)))
    (l_ksigns : K.lookup f_ksigns = some ⟨oc_ksigns, od_ksigns, .func (PySem.W.fnOf "is_signs" "is_signs" (defArgs sIsSigns) (defBody sIsSigns) (defScope sIsSigns) .none kv_ksigns dc_ksigns pm_ksigns an_ksigns cd_ksigns ct_ksigns), sl_ksigns⟩)
    (c_ksigns : PySem.W.codeIn K cd_ksigns "is_signs" = true)
    (k_ksigns : PySem.W.keepIn K (.ref f_ksigns) = true)
    (a_ksignof : PySem.W.nsIn K mainGlobals "is_sign_of" = some (some (.ref f_ksignof)))
    (l_ksignof : K.lookup f_ksignof = some ⟨oc_ksignof, od_ksignof, .func (PySem.W.fnOf "is_sign_of" "is_sign_of" (defArgs sSignOf) (defBody sSignOf) (defScope sSignOf) .none kv_ksignof dc_ksignof pm_ksignof an_ksignof cd_ksignof ct_ksignof), sl_ksignof⟩)
    (c_ksignof : PySem.W.codeIn K cd_ksignof "is_sign_of" = true)
    (k_ksignof : PySem.W.keepIn K (.ref f_ksignof) = true)
    (a_kfirst : PySem.W.nsIn K mainGlobals "first_wrong" = some (some (.ref f_kfirst)))
    (l_kfirst : K.lookup f_kfirst = some ⟨oc_kfirst, od_kfirst, .func (PySem.W.fnOf "first_wrong" "first_wrong" (defArgs sFirst) (defBody sFirst) (defScope sFirst) .none kv_kfirst dc_kfirst pm_kfirst an_kfirst cd_kfirst ct_kfirst), sl_kfirst⟩)
    (c_kfirst : PySem.W.codeIn K cd_kfirst "first_wrong" = true)
    (k_kfirst : PySem.W.keepIn K (.ref f_kfirst) = true)
    (a_kisword : PySem.W.nsIn K mainGlobals "is_word" = some (some (.ref f_kisword)))
    (l_kisword : K.lookup f_kisword = some ⟨oc_kisword, od_kisword, .func (PySem.W.fnOf "is_word" "is_word" (defArgs sIsWord) (defBody sIsWord) (defScope sIsWord) .none kv_kisword dc_kisword pm_kisword an_kisword cd_kisword ct_kisword), sl_kisword⟩)
    (c_kisword : PySem.W.codeIn K cd_kisword "is_word" = true)
    (k_kisword : PySem.W.keepIn K (.ref f_kisword) = true)
    (a_kisname : PySem.W.nsIn K mainGlobals "is_name" = some (some (.ref f_kisname)))
    (l_kisname : K.lookup f_kisname = some ⟨oc_kisname, od_kisname, .func (PySem.W.fnOf "is_name" "is_name" (defArgs sIsName) (defBody sIsName) (defScope sIsName) .none kv_kisname dc_kisname pm_kisname an_kisname cd_kisname ct_kisname), sl_kisname⟩)
    (c_kisname : PySem.W.codeIn K cd_kisname "is_name" = true)
    (k_kisname : PySem.W.keepIn K (.ref f_kisname) = true)
    (a_kisint : PySem.W.nsIn K mainGlobals "is_integer" = some (some (.ref f_kisint)))
    (l_kisint : K.lookup f_kisint = some ⟨oc_kisint, od_kisint, .func (PySem.W.fnOf "is_integer" "is_integer" (defArgs sIsInt) (defBody sIsInt) (defScope sIsInt) .none kv_kisint dc_kisint pm_kisint an_kisint cd_kisint ct_kisint), sl_kisint⟩)
    (c_kisint : PySem.W.codeIn K cd_kisint "is_integer" = true)
    (k_kisint : PySem.W.keepIn K (.ref f_kisint) = true)
    (a_kintfrom : PySem.W.nsIn K mainGlobals "is_integer_from" = some (some (.ref f_kintfrom)))
    (l_kintfrom : K.lookup f_kintfrom = some ⟨oc_kintfrom, od_kintfrom, .func (PySem.W.fnOf "is_integer_from" "is_integer_from" (defArgs sIsIntF) (defBody sIsIntF) (defScope sIsIntF) .none kv_kintfrom dc_kintfrom pm_kintfrom an_kintfrom cd_kintfrom ct_kintfrom), sl_kintfrom⟩)
    (c_kintfrom : PySem.W.codeIn K cd_kintfrom "is_integer_from" = true)
    (k_kintfrom : PySem.W.keepIn K (.ref f_kintfrom) = true)
    (a_kstateof : PySem.W.nsIn K mainGlobals "is_state_of" = some (some (.ref f_kstateof)))
    (l_kstateof : K.lookup f_kstateof = some ⟨oc_kstateof, od_kstateof, .func (PySem.W.fnOf "is_state_of" "is_state_of" (defArgs sStateOf) (defBody sStateOf) (defScope sStateOf) .none kv_kstateof dc_kstateof pm_kstateof an_kstateof cd_kstateof ct_kstateof), sl_kstateof⟩)
    (c_kstateof : PySem.W.codeIn K cd_kstateof "is_state_of" = true)
    (k_kstateof : PySem.W.keepIn K (.ref f_kstateof) = true)
    (a_krowof : PySem.W.nsIn K mainGlobals "is_row_of" = some (some (.ref f_krowof)))
    (l_krowof : K.lookup f_krowof = some ⟨oc_krowof, od_krowof, .func (PySem.W.fnOf "is_row_of" "is_row_of" (defArgs sRowOf) (defBody sRowOf) (defScope sRowOf) .none kv_krowof dc_krowof pm_krowof an_krowof cd_krowof ct_krowof), sl_krowof⟩)
    (c_krowof : PySem.W.codeIn K cd_krowof "is_row_of" = true)
    (k_krowof : PySem.W.keepIn K (.ref f_krowof) = true)
    (a_kturnof : PySem.W.nsIn K mainGlobals "is_turn_of" = some (some (.ref f_kturnof)))
    (l_kturnof : K.lookup f_kturnof = some ⟨oc_kturnof, od_kturnof, .func (PySem.W.fnOf "is_turn_of" "is_turn_of" (defArgs sTurnOf) (defBody sTurnOf) (defScope sTurnOf) .none kv_kturnof dc_kturnof pm_kturnof an_kturnof cd_kturnof ct_kturnof), sl_kturnof⟩)
    (c_kturnof : PySem.W.codeIn K cd_kturnof "is_turn_of" = true)
    (k_kturnof : PySem.W.keepIn K (.ref f_kturnof) = true)
    (a_kchst : PySem.W.nsIn K mainGlobals "check_states" = some (some (.ref f_kchst)))
    (l_kchst : K.lookup f_kchst = some ⟨oc_kchst, od_kchst, .func (PySem.W.fnOf "check_states" "check_states" (defArgs sChSt) (defBody sChSt) (defScope sChSt) .none kv_kchst dc_kchst pm_kchst an_kchst cd_kchst ct_kchst), sl_kchst⟩)
    (c_kchst : PySem.W.codeIn K cd_kchst "check_states" = true)
    (k_kchst : PySem.W.keepIn K (.ref f_kchst) = true)
    (a_kchro : PySem.W.nsIn K mainGlobals "check_rows" = some (some (.ref f_kchro)))
    (l_kchro : K.lookup f_kchro = some ⟨oc_kchro, od_kchro, .func (PySem.W.fnOf "check_rows" "check_rows" (defArgs sChRo) (defBody sChRo) (defScope sChRo) .none kv_kchro dc_kchro pm_kchro an_kchro cd_kchro ct_kchro), sl_kchro⟩)
    (c_kchro : PySem.W.codeIn K cd_kchro "check_rows" = true)
    (k_kchro : PySem.W.keepIn K (.ref f_kchro) = true)
    (a_kchtu : PySem.W.nsIn K mainGlobals "check_turns" = some (some (.ref f_kchtu)))
    (l_kchtu : K.lookup f_kchtu = some ⟨oc_kchtu, od_kchtu, .func (PySem.W.fnOf "check_turns" "check_turns" (defArgs sChTu) (defBody sChTu) (defScope sChTu) .none kv_kchtu dc_kchtu pm_kchtu an_kchtu cd_kchtu ct_kchtu), sl_kchtu⟩)
    (c_kchtu : PySem.W.codeIn K cd_kchtu "check_turns" = true)
    (k_kchtu : PySem.W.keepIn K (.ref f_kchtu) = true)
    (a_kchye : PySem.W.nsIn K mainGlobals "check_yes" = some (some (.ref f_kchye)))
    (l_kchye : K.lookup f_kchye = some ⟨oc_kchye, od_kchye, .func (PySem.W.fnOf "check_yes" "check_yes" (defArgs sChYe) (defBody sChYe) (defScope sChYe) .none kv_kchye dc_kchye pm_kchye an_kchye cd_kchye ct_kchye), sl_kchye⟩)
    (c_kchye : PySem.W.codeIn K cd_kchye "check_yes" = true)
    (k_kchye : PySem.W.keepIn K (.ref f_kchye) = true)
    (a_korro : PySem.W.nsIn K mainGlobals "ordered_rows" = some (some (.ref f_korro)))
    (l_korro : K.lookup f_korro = some ⟨oc_korro, od_korro, .func (PySem.W.fnOf "ordered_rows" "ordered_rows" (defArgs sOrRo) (defBody sOrRo) (defScope sOrRo) .none kv_korro dc_korro pm_korro an_korro cd_korro ct_korro), sl_korro⟩)
    (c_korro : PySem.W.codeIn K cd_korro "ordered_rows" = true)
    (k_korro : PySem.W.keepIn K (.ref f_korro) = true)
    (a_kortu : PySem.W.nsIn K mainGlobals "ordered_turns" = some (some (.ref f_kortu)))
    (l_kortu : K.lookup f_kortu = some ⟨oc_kortu, od_kortu, .func (PySem.W.fnOf "ordered_turns" "ordered_turns" (defArgs sOrTu) (defBody sOrTu) (defScope sOrTu) .none kv_kortu dc_kortu pm_kortu an_kortu cd_kortu ct_kortu), sl_kortu⟩)
    (c_kortu : PySem.W.codeIn K cd_kortu "ordered_turns" = true)
    (k_kortu : PySem.W.keepIn K (.ref f_kortu) = true)
    (a_korye : PySem.W.nsIn K mainGlobals "ordered_yes" = some (some (.ref f_korye)))
    (l_korye : K.lookup f_korye = some ⟨oc_korye, od_korye, .func (PySem.W.fnOf "ordered_yes" "ordered_yes" (defArgs sOrYe) (defBody sOrYe) (defScope sOrYe) .none kv_korye dc_korye pm_korye an_korye cd_korye ct_korye), sl_korye⟩)
    (c_korye : PySem.W.codeIn K cd_korye "ordered_yes" = true)
    (k_korye : PySem.W.keepIn K (.ref f_korye) = true)
    (a_law : PySem.W.nsIn K mainGlobals "law" = some (some (.ref f_law)))
    (l_law : K.lookup f_law = some ⟨oc_law, od_law, .func (PySem.W.fnOf "law" "law" (defArgs sLaw) (defBody sLaw) (defScope sLaw) .none kv_law dc_law pm_law an_law cd_law ct_law), sl_law⟩)
    (c_law : PySem.W.codeIn K cd_law "law" = true)
    (k_law : PySem.W.keepIn K (.ref f_law) = true)
    (aC : PySem.W.nsIn K mainGlobals "Loop" = some (some (.ref C)))
    (aT : PySem.W.nsIn K mainGlobals "Table" = some (some (.ref T)))
    (aO : PySem.W.nsIn K mainGlobals "Course" = some (some (.ref O)))
    (a_mI : PySem.W.findIn K (.ref C) "__init__" = some (some (.ref f_mI)))
    (i_mI : PySem.W.isFn K (.ref f_mI) = true)
    (l_mI : K.lookup f_mI = some ⟨oc_mI, od_mI, .func (PySem.W.fnOf "__init__" "Loop.__init__" (defArgs sLoInit) (defBody sLoInit) (defScope sLoInit) (.ref tD) (.ref kD) dc_mI pm_mI an_mI cd_mI ct_mI), sl_mI⟩)
    (c_mI : PySem.W.codeIn K cd_mI "Loop.__init__" = true)
    (k_mI : PySem.W.keepIn K (.ref f_mI) = true)
    (p_atW : PySem.W.findIn K (.ref C) "row" = some (some (.ref pW)))
    (p_getW : PySem.W.specialIn K (.ref pW) "__get__" = some (some (.builtin "property.__get__")))
    (p_takW : PySem.W.takesIn K (.ref pW) = some true)
    (p_recW : PySem.W.recIn K pW "property" = some (.ref f_mW :: rW))
    (l_mW : K.lookup f_mW = some ⟨oc_mW, od_mW, .func (PySem.W.fnOf "row" "Loop.row" (defArgs sLoRow) (defBody sLoRow) (defScope sLoRow) .none kv_mW dc_mW pm_mW an_mW cd_mW ct_mW), sl_mW⟩)
    (c_mW : PySem.W.codeIn K cd_mW "Loop.row" = true)
    (k_mW : PySem.W.keepIn K (.ref f_mW) = true)
    (a_mAn : PySem.W.findIn K (.ref C) "answer" = some (some (.ref f_mAn)))
    (i_mAn : PySem.W.isFn K (.ref f_mAn) = true)
    (l_mAn : K.lookup f_mAn = some ⟨oc_mAn, od_mAn, .func (PySem.W.fnOf "answer" "Loop.answer" (defArgs sLoAnswer) (defBody sLoAnswer) (defScope sLoAnswer) .none kv_mAn dc_mAn pm_mAn an_mAn cd_mAn ct_mAn), sl_mAn⟩)
    (c_mAn : PySem.W.codeIn K cd_mAn "Loop.answer" = true)
    (k_mAn : PySem.W.keepIn K (.ref f_mAn) = true)
    (a_mSt : PySem.W.findIn K (.ref C) "state" = some (some (.ref f_mSt)))
    (i_mSt : PySem.W.isFn K (.ref f_mSt) = true)
    (l_mSt : K.lookup f_mSt = some ⟨oc_mSt, od_mSt, .func (PySem.W.fnOf "state" "Loop.state" (defArgs sLoState) (defBody sLoState) (defScope sLoState) .none kv_mSt dc_mSt pm_mSt an_mSt cd_mSt ct_mSt), sl_mSt⟩)
    (c_mSt : PySem.W.codeIn K cd_mSt "Loop.state" = true)
    (k_mSt : PySem.W.keepIn K (.ref f_mSt) = true)
    (a_mTx : PySem.W.findIn K (.ref C) "_check_text" = some (some (.ref f_mTx)))
    (i_mTx : PySem.W.isFn K (.ref f_mTx) = true)
    (l_mTx : K.lookup f_mTx = some ⟨oc_mTx, od_mTx, .func (PySem.W.fnOf "_check_text" "Loop._check_text" (defArgs sLoText) (defBody sLoText) (defScope sLoText) .none kv_mTx dc_mTx pm_mTx an_mTx cd_mTx ct_mTx), sl_mTx⟩)
    (c_mTx : PySem.W.codeIn K cd_mTx "Loop._check_text" = true)
    (k_mTx : PySem.W.keepIn K (.ref f_mTx) = true)
    (a_mGo : PySem.W.findIn K (.ref C) "_gone" = some (some (.ref f_mGo)))
    (i_mGo : PySem.W.isFn K (.ref f_mGo) = true)
    (l_mGo : K.lookup f_mGo = some ⟨oc_mGo, od_mGo, .func (PySem.W.fnOf "_gone" "Loop._gone" (defArgs sLoGone) (defBody sLoGone) (defScope sLoGone) .none kv_mGo dc_mGo pm_mGo an_mGo cd_mGo ct_mGo), sl_mGo⟩)
    (c_mGo : PySem.W.codeIn K cd_mGo "Loop._gone" = true)
    (k_mGo : PySem.W.keepIn K (.ref f_mGo) = true)
    (a_mOf : PySem.W.findIn K (.ref C) "_answer_of" = some (some (.ref f_mOf)))
    (i_mOf : PySem.W.isFn K (.ref f_mOf) = true)
    (l_mOf : K.lookup f_mOf = some ⟨oc_mOf, od_mOf, .func (PySem.W.fnOf "_answer_of" "Loop._answer_of" (defArgs sLoOf) (defBody sLoOf) (defScope sLoOf) .none kv_mOf dc_mOf pm_mOf an_mOf cd_mOf ct_mOf), sl_mOf⟩)
    (c_mOf : PySem.W.codeIn K cd_mOf "Loop._answer_of" = true)
    (k_mOf : PySem.W.keepIn K (.ref f_mOf) = true)
    (a_mtI : PySem.W.findIn K (.ref T) "__init__" = some (some (.ref f_mtI)))
    (i_mtI : PySem.W.isFn K (.ref f_mtI) = true)
    (l_mtI : K.lookup f_mtI = some ⟨oc_mtI, od_mtI, .func (PySem.W.fnOf "__init__" "Table.__init__" (defArgs sTaInit) (defBody sTaInit) (defScope sTaInit) .none kv_mtI dc_mtI pm_mtI an_mtI cd_mtI ct_mtI), sl_mtI⟩)
    (c_mtI : PySem.W.codeIn K cd_mtI "Table.__init__" = true)
    (k_mtI : PySem.W.keepIn K (.ref f_mtI) = true)
    (a_mtG : PySem.W.findIn K (.ref T) "gone" = some (some (.ref f_mtG)))
    (i_mtG : PySem.W.isFn K (.ref f_mtG) = true)
    (l_mtG : K.lookup f_mtG = some ⟨oc_mtG, od_mtG, .func (PySem.W.fnOf "gone" "Table.gone" (defArgs sTaGone) (defBody sTaGone) (defScope sTaGone) .none kv_mtG dc_mtG pm_mtG an_mtG cd_mtG ct_mtG), sl_mtG⟩)
    (c_mtG : PySem.W.codeIn K cd_mtG "Table.gone" = true)
    (k_mtG : PySem.W.keepIn K (.ref f_mtG) = true)
    (a_mcI : PySem.W.findIn K (.ref O) "__init__" = some (some (.ref f_mcI)))
    (i_mcI : PySem.W.isFn K (.ref f_mcI) = true)
    (l_mcI : K.lookup f_mcI = some ⟨oc_mcI, od_mcI, .func (PySem.W.fnOf "__init__" "Course.__init__" (defArgs sCoInit) (defBody sCoInit) (defScope sCoInit) .none kv_mcI dc_mcI pm_mcI an_mcI cd_mcI ct_mcI), sl_mcI⟩)
    (c_mcI : PySem.W.codeIn K cd_mcI "Course.__init__" = true)
    (k_mcI : PySem.W.keepIn K (.ref f_mcI) = true)
    (a_mcP : PySem.W.findIn K (.ref O) "place" = some (some (.ref f_mcP)))
    (i_mcP : PySem.W.isFn K (.ref f_mcP) = true)
    (l_mcP : K.lookup f_mcP = some ⟨oc_mcP, od_mcP, .func (PySem.W.fnOf "place" "Course.place" (defArgs sCoPlace) (defBody sCoPlace) (defScope sCoPlace) .none kv_mcP dc_mcP pm_mcP an_mcP cd_mcP ct_mcP), sl_mcP⟩)
    (c_mcP : PySem.W.codeIn K cd_mcP "Course.place" = true)
    (k_mcP : PySem.W.keepIn K (.ref f_mcP) = true)
    (a_mcB : PySem.W.findIn K (.ref O) "behind" = some (some (.ref f_mcB)))
    (i_mcB : PySem.W.isFn K (.ref f_mcB) = true)
    (l_mcB : K.lookup f_mcB = some ⟨oc_mcB, od_mcB, .func (PySem.W.fnOf "behind" "Course.behind" (defArgs sCoBehind) (defBody sCoBehind) (defScope sCoBehind) .none kv_mcB dc_mcB pm_mcB an_mcB cd_mcB ct_mcB), sl_mcB⟩)
    (c_mcB : PySem.W.codeIn K cd_mcB "Course.behind" = true)
    (k_mcB : PySem.W.keepIn K (.ref f_mcB) = true)
    (cm_atMa : PySem.W.findCls K (.ref C) (.type "type") "made" = some (.get (.builtin "classmethod.__get__") (.ref pMa) .none (.ref C)))
    (cm_recMa : PySem.W.recIn K pMa "classmethod" = some (.ref f_mMa :: rMa))
    (cm_fiMa : PySem.W.fnIn K f_mMa = true)
    (l_mMa : K.lookup f_mMa = some ⟨oc_mMa, od_mMa, .func (PySem.W.fnOf "made" "Loop.made" (defArgs sLoMade) (defBody sLoMade) (defScope sLoMade) .none kv_mMa dc_mMa pm_mMa an_mMa cd_mMa ct_mMa), sl_mMa⟩)
    (c_mMa : PySem.W.codeIn K cd_mMa "Loop.made" = true)
    (k_mMa : PySem.W.keepIn K (.ref f_mMa) = true)
    (a_mEq : PySem.W.findIn K (.ref C) "__eq__" = some (some (.ref f_mEq)))
    (i_mEq : PySem.W.isFn K (.ref f_mEq) = true)
    (l_mEq : K.lookup f_mEq = some ⟨oc_mEq, od_mEq, .func (PySem.W.fnOf "__eq__" "Loop.__eq__" (defArgs sLoEq) (defBody sLoEq) (defScope sLoEq) .none kv_mEq dc_mEq pm_mEq an_mEq cd_mEq ct_mEq), sl_mEq⟩)
    (c_mEq : PySem.W.codeIn K cd_mEq "Loop.__eq__" = true)
    (k_mEq : PySem.W.keepIn K (.ref f_mEq) = true)
    (p_atSg : PySem.W.findIn K (.ref C) "signs" = some (some (.ref pSg)))
    (p_getSg : PySem.W.specialIn K (.ref pSg) "__get__" = some (some (.builtin "property.__get__")))
    (p_takSg : PySem.W.takesIn K (.ref pSg) = some true)
    (p_recSg : PySem.W.recIn K pSg "property" = some (.ref f_mSg :: rSg))
    (l_mSg : K.lookup f_mSg = some ⟨oc_mSg, od_mSg, .func (PySem.W.fnOf "signs" "Loop.signs" (defArgs sLoSigns) (defBody sLoSigns) (defScope sLoSigns) .none kv_mSg dc_mSg pm_mSg an_mSg cd_mSg ct_mSg), sl_mSg⟩)
    (c_mSg : PySem.W.codeIn K cd_mSg "Loop.signs" = true)
    (k_mSg : PySem.W.keepIn K (.ref f_mSg) = true)
    (p_atSs : PySem.W.findIn K (.ref C) "states" = some (some (.ref pSs)))
    (p_getSs : PySem.W.specialIn K (.ref pSs) "__get__" = some (some (.builtin "property.__get__")))
    (p_takSs : PySem.W.takesIn K (.ref pSs) = some true)
    (p_recSs : PySem.W.recIn K pSs "property" = some (.ref f_mSs :: rSs))
    (l_mSs : K.lookup f_mSs = some ⟨oc_mSs, od_mSs, .func (PySem.W.fnOf "states" "Loop.states" (defArgs sLoStates) (defBody sLoStates) (defScope sLoStates) .none kv_mSs dc_mSs pm_mSs an_mSs cd_mSs ct_mSs), sl_mSs⟩)
    (c_mSs : PySem.W.codeIn K cd_mSs "Loop.states" = true)
    (k_mSs : PySem.W.keepIn K (.ref f_mSs) = true)
    (p_atRw : PySem.W.findIn K (.ref C) "rows" = some (some (.ref pRw)))
    (p_getRw : PySem.W.specialIn K (.ref pRw) "__get__" = some (some (.builtin "property.__get__")))
    (p_takRw : PySem.W.takesIn K (.ref pRw) = some true)
    (p_recRw : PySem.W.recIn K pRw "property" = some (.ref f_mRw :: rRw))
    (l_mRw : K.lookup f_mRw = some ⟨oc_mRw, od_mRw, .func (PySem.W.fnOf "rows" "Loop.rows" (defArgs sLoRows) (defBody sLoRows) (defScope sLoRows) .none kv_mRw dc_mRw pm_mRw an_mRw cd_mRw ct_mRw), sl_mRw⟩)
    (c_mRw : PySem.W.codeIn K cd_mRw "Loop.rows" = true)
    (k_mRw : PySem.W.keepIn K (.ref f_mRw) = true)
    (p_atTu : PySem.W.findIn K (.ref C) "turns" = some (some (.ref pTu)))
    (p_getTu : PySem.W.specialIn K (.ref pTu) "__get__" = some (some (.builtin "property.__get__")))
    (p_takTu : PySem.W.takesIn K (.ref pTu) = some true)
    (p_recTu : PySem.W.recIn K pTu "property" = some (.ref f_mTu :: rTu))
    (l_mTu : K.lookup f_mTu = some ⟨oc_mTu, od_mTu, .func (PySem.W.fnOf "turns" "Loop.turns" (defArgs sLoTurns) (defBody sLoTurns) (defScope sLoTurns) .none kv_mTu dc_mTu pm_mTu an_mTu cd_mTu ct_mTu), sl_mTu⟩)
    (c_mTu : PySem.W.codeIn K cd_mTu "Loop.turns" = true)
    (k_mTu : PySem.W.keepIn K (.ref f_mTu) = true)
    (p_atYe : PySem.W.findIn K (.ref C) "yes" = some (some (.ref pYe)))
    (p_getYe : PySem.W.specialIn K (.ref pYe) "__get__" = some (some (.builtin "property.__get__")))
    (p_takYe : PySem.W.takesIn K (.ref pYe) = some true)
    (p_recYe : PySem.W.recIn K pYe "property" = some (.ref f_mYe :: rYe))
    (l_mYe : K.lookup f_mYe = some ⟨oc_mYe, od_mYe, .func (PySem.W.fnOf "yes" "Loop.yes" (defArgs sLoYes) (defBody sLoYes) (defScope sLoYes) .none kv_mYe dc_mYe pm_mYe an_mYe cd_mYe ct_mYe), sl_mYe⟩)
    (c_mYe : PySem.W.codeIn K cd_mYe "Loop.yes" = true)
    (k_mYe : PySem.W.keepIn K (.ref f_mYe) = true)
    (l_tD : K.lookup tD = some ⟨oc_tD, od_tD, .seq #[.ref e] n_tD, sl_tD⟩)
    (n_yes : PySem.W.nsIn K kD "yes" = some (some (.ref e2)))
    (pgC : PySem.W.plainGet K C Str.empty = true)
    (hdC : PySem.W.hasDictIn K C = true)
    (poC : PySem.W.plainOver K C = true)
    (saC : PySem.W.findIn K (.ref C) "__setattr__" = some (some (.builtin "object.__setattr__")))
    (mkC : PySem.W.makesIn K C = true)
    (kcC : PySem.W.keepIn K (.ref C) = true)
    (pgT : PySem.W.plainGet K T Str.empty = true)
    (hdT : PySem.W.hasDictIn K T = true)
    (poT : PySem.W.plainOver K T = true)
    (saT : PySem.W.findIn K (.ref T) "__setattr__" = some (some (.builtin "object.__setattr__")))
    (mkT : PySem.W.makesIn K T = true)
    (kcT : PySem.W.keepIn K (.ref T) = true)
    (pgO : PySem.W.plainGet K O Str.empty = true)
    (hdO : PySem.W.hasDictIn K O = true)
    (poO : PySem.W.plainOver K O = true)
    (saO : PySem.W.findIn K (.ref O) "__setattr__" = some (some (.builtin "object.__setattr__")))
    (mkO : PySem.W.makesIn K O = true)
    (kcO : PySem.W.keepIn K (.ref O) = true)
    (nC__signs : PySem.W.findIn K (.ref C) "_signs" = some none)
    (nC__states : PySem.W.findIn K (.ref C) "_states" = some none)
    (nC__rows : PySem.W.findIn K (.ref C) "_rows" = some none)
    (nC__turns : PySem.W.findIn K (.ref C) "_turns" = some none)
    (nC__yes : PySem.W.findIn K (.ref C) "_yes" = some none)
    (nC__table : PySem.W.findIn K (.ref C) "_table" = some none)
    (nT_number : PySem.W.findIn K (.ref T) "number" = some none)
    (nT_nexts : PySem.W.findIn K (.ref T) "nexts" = some none)
    (nT_amounts : PySem.W.findIn K (.ref T) "amounts" = some none)
    (nT_turn_nexts : PySem.W.findIn K (.ref T) "turn_nexts" = some none)
    (nT_turn_amounts : PySem.W.findIn K (.ref T) "turn_amounts" = some none)
    (nT_says : PySem.W.findIn K (.ref T) "says" = some none)
    (nO_path : PySem.W.findIn K (.ref O) "path" = some none)
    (nO_head : PySem.W.findIn K (.ref O) "head" = some none)
    (nO_again : PySem.W.findIn K (.ref O) "again" = some none)
    (gt600 : PySem.W.nsIn K mainGlobals "MOST_WORD" = some (some (.int 600 t600)))
    (gt4 : PySem.W.nsIn K mainGlobals "MOST_SIGNS" = some (some (.int 4 t4)))
    (gt8 : PySem.W.nsIn K mainGlobals "MOST_NAME" = some (some (.int 8 t8)))
    (gt6 : PySem.W.nsIn K mainGlobals "MOST_STATES" = some (some (.int 6 t6)))
    (l_e0 : K.lookup e = some ⟨.type "tuple", od_e0, .seq #[] n_e0, sl_e0⟩)
    (l_e2 : K.lookup e2 = some ⟨.type "tuple", od_e2, .seq #[] n_e2, sl_e2⟩)
    (rd : PySem.W.readsIn K C (.type "type") = true)
    (ga : PySem.W.specialIn K (.ref C) "__getattribute__" = some (some (.builtin "type.__getattribute__")))
    (nb : PySem.W.findIn K (.ref C) "__bool__" = some none)
    (nl : PySem.W.findIn K (.ref C) "__len__" = some none)
    (ne : PySem.W.findIn K (.ref C) "__ne__" = some (some (.builtin "object.__ne__")))
    (nf : PySem.W.notFirst K C (.ref C) = true)
    (nt : PySem.W.notFirst K C (.type "tuple") = true)
    (icl : PySem.W.isClsIn K C = true)
    (tcl : PySem.W.typeIn K (.ref C) = some (.type "type"))
    (sut : PySem.W.subIn K (.type "tuple") (.ref C) = some false)
    (cc : PySem.W.findIn K (.ref C) "__class__" = some (some (.builtin "object.__class__")))
    (cg : PySem.W.specialIn K (.builtin "object.__class__") "__get__" = some (some (.builtin "getset_descriptor.__get__")))
    (ctk : PySem.W.takesIn K (.builtin "object.__class__") = some true)
    (co : PySem.W.mroIn K C (.type "object") = some true)
    (z_int : PySem.W.nsIn K mainGlobals "int" = some none)
    (z_len : PySem.W.nsIn K mainGlobals "len" = some none)
    (z_range : PySem.W.nsIn K mainGlobals "range" = some none)
    (z_divmod : PySem.W.nsIn K mainGlobals "divmod" = some none)
    (z_abs : PySem.W.nsIn K mainGlobals "abs" = some none)
    (z_isinstance : PySem.W.nsIn K mainGlobals "isinstance" = some none)
    (z_str : PySem.W.nsIn K mainGlobals "str" = some none)
    (z_all : PySem.W.nsIn K mainGlobals "all" = some none)
    (z_min : PySem.W.nsIn K mainGlobals "min" = some none)
    (z_max : PySem.W.nsIn K mainGlobals "max" = some none)
    (z_set : PySem.W.nsIn K mainGlobals "set" = some none)
    (z_bool : PySem.W.nsIn K mainGlobals "bool" = some none)
    (z_tuple : PySem.W.nsIn K mainGlobals "tuple" = some none)
    (z_enumerate : PySem.W.nsIn K mainGlobals "enumerate" = some none)
    (z_zip : PySem.W.nsIn K mainGlobals "zip" = some none)
    (z_sorted : PySem.W.nsIn K mainGlobals "sorted" = some none)
    (z_list : PySem.W.nsIn K mainGlobals "list" = some none)
    (z_dict : PySem.W.nsIn K mainGlobals "dict" = some none) :
    ∃ fd : FuncData, (∀ (s : Shared) (v : Value), BindsTo s fd ⟨[v], []⟩ [("_law_script", v)]) ∧ ∀ base : Heap, K.In base → base.Ns mainGlobals mg → FnOk l.prog w K mg base CX0 8 fa fd ["_law_script"] (spLaw K) := by
  have e0 := hfa.symm.trans (PySem.W.mg_of X G a_law)
  cases e0
  have LK : LTxt K mg C := ⟨⟨pgC, hdC, poC, saC⟩, nC__signs, nC__states, nC__rows, nC__turns, nC__yes, nC__table⟩
  have TK : TTxt K mg T := ⟨⟨pgT, hdT, poT, saT⟩, nT_number, nT_nexts, nT_amounts, nT_turn_nexts, nT_turn_amounts, nT_says⟩
  have OK : CTxt K mg O := ⟨⟨pgO, hdO, poO, saO⟩, nO_path, nO_head, nO_again⟩
  have Z_int := PySem.W.mg_none_of X G z_int
  have Z_len := PySem.W.mg_none_of X G z_len
  have Z_range := PySem.W.mg_none_of X G z_range
  have Z_divmod := PySem.W.mg_none_of X G z_divmod
  have Z_abs := PySem.W.mg_none_of X G z_abs
  have Z_isinstance := PySem.W.mg_none_of X G z_isinstance
  have Z_str := PySem.W.mg_none_of X G z_str
  have Z_all := PySem.W.mg_none_of X G z_all
  have Z_min := PySem.W.mg_none_of X G z_min
  have Z_max := PySem.W.mg_none_of X G z_max
  have Z_set := PySem.W.mg_none_of X G z_set
  have Z_bool := PySem.W.mg_none_of X G z_bool
  have Z_tuple := PySem.W.mg_none_of X G z_tuple
  have Z_enumerate := PySem.W.mg_none_of X G z_enumerate
  have Z_zip := PySem.W.mg_none_of X G z_zip
  have Z_sorted := PySem.W.mg_none_of X G z_sorted
  have Z_list := PySem.W.mg_none_of X G z_list
  have Z_dict := PySem.W.mg_none_of X G z_dict
  have Z : Free mg := ⟨Z_int, Z_len, Z_range, Z_divmod, Z_abs, Z_isinstance, Z_str, Z_all, Z_min, Z_max, Z_set, Z_bool⟩
  have F_cell := fun_mk (st := sCell) l_cell c_cell k_cell
  have b_cell := F_cell.binds (ps := ["_law_script", "_law_k"]) fun _ _ _ _ _ _ us hl => match us, hl with | [_, _], _ => rfl
  have D_cell : Def K mg "_law_cell" sCell ["_law_script", "_law_k"] f_cell _ := ⟨F_cell, PySem.W.mg_of X G a_cell, k_cell, b_cell⟩
  have F_pool := fun_mk (st := sPool) l_pool c_pool k_pool
  have b_pool := F_pool.binds (ps := ["_law_cell_here"]) fun _ _ _ _ _ _ us hl => match us, hl with | [_], _ => rfl
  have D_pool : Def K mg "_law_pool" sPool ["_law_cell_here"] f_pool _ := ⟨F_pool, PySem.W.mg_of X G a_pool, k_pool, b_pool⟩
  have F_draw := fun_mk (st := sDraw) l_draw c_draw k_draw
  have b_draw := F_draw.binds (ps := ["_law_pool_here", "_law_many"]) fun _ _ _ _ _ _ us hl => match us, hl with | [_, _], _ => rfl
  have D_draw : Def K mg "_law_draw" sDraw ["_law_pool_here", "_law_many"] f_draw _ := ⟨F_draw, PySem.W.mg_of X G a_draw, k_draw, b_draw⟩
  have F_shuf := fun_mk (st := sShuf) l_shuf c_shuf k_shuf
  have b_shuf := F_shuf.binds (ps := ["_law_pool_here", "_law_things"]) fun _ _ _ _ _ _ us hl => match us, hl with | [_, _], _ => rfl
  have D_shuf : Def K mg "_law_shuffled" sShuf ["_law_pool_here", "_law_things"] f_shuf _ := ⟨F_shuf, PySem.W.mg_of X G a_shuf, k_shuf, b_shuf⟩
  have F_face := fun_mk (st := sFace) l_face c_face k_face
  have b_face := F_face.binds (ps := ["_law_thing"]) fun _ _ _ _ _ _ us hl => match us, hl with | [_], _ => rfl
  have D_face : Def K mg "_law_face" sFace ["_law_thing"] f_face _ := ⟨F_face, PySem.W.mg_of X G a_face, k_face, b_face⟩
  have F_signs := fun_mk (st := sSigns) l_signs c_signs k_signs
  have b_signs := F_signs.binds (ps := ["_law_pool_here", "_law_most"]) fun _ _ _ _ _ _ us hl => match us, hl with | [_, _], _ => rfl
  have D_signs : Def K mg "_law_signs" sSigns ["_law_pool_here", "_law_most"] f_signs _ := ⟨F_signs, PySem.W.mg_of X G a_signs, k_signs, b_signs⟩
  have F_name := fun_mk (st := sName) l_name c_name k_name
  have b_name := F_name.binds (ps := ["_law_pool_here", "_law_found"]) fun _ _ _ _ _ _ us hl => match us, hl with | [_, _], _ => rfl
  have D_name : Def K mg "_law_name" sName ["_law_pool_here", "_law_found"] f_name _ := ⟨F_name, PySem.W.mg_of X G a_name, k_name, b_name⟩
  have F_names := fun_mk (st := sNames) l_names c_names k_names
  have b_names := F_names.binds (ps := ["_law_pool_here", "_law_many"]) fun _ _ _ _ _ _ us hl => match us, hl with | [_, _], _ => rfl
  have D_names : Def K mg "_law_names" sNames ["_law_pool_here", "_law_many"] f_names _ := ⟨F_names, PySem.W.mg_of X G a_names, k_names, b_names⟩
  have F_amount := fun_mk (st := sAmount) l_amount c_amount k_amount
  have b_amount := F_amount.binds (ps := ["_law_pool_here", "_law_great"]) fun _ _ _ _ _ _ us hl => match us, hl with | [_, _], _ => rfl
  have D_amount : Def K mg "_law_amount" sAmount ["_law_pool_here", "_law_great"] f_amount _ := ⟨F_amount, PySem.W.mg_of X G a_amount, k_amount, b_amount⟩
  have F_model := fun_mk (st := sModel) l_model c_model k_model
  have b_model := F_model.binds (ps := ["_law_pool_here", "_law_abc", "_law_most", "_law_great"]) fun _ _ _ _ _ _ us hl => match us, hl with | [_, _, _, _], _ => rfl
  have D_model : Def K mg "_law_model" sModel ["_law_pool_here", "_law_abc", "_law_most", "_law_great"] f_model _ := ⟨F_model, PySem.W.mg_of X G a_model, k_model, b_model⟩
  have F_line := fun_mk (st := sLine) l_line c_line k_line
  have b_line := F_line.binds (ps := ["_law_model_here"]) fun _ _ _ _ _ _ us hl => match us, hl with | [_], _ => rfl
  have D_line : Def K mg "_law_line" sLine ["_law_model_here"] f_line _ := ⟨F_line, PySem.W.mg_of X G a_line, k_line, b_line⟩
  have F_parts := fun_mk (st := sParts) l_parts c_parts k_parts
  have b_parts := F_parts.binds (ps := ["_law_pool_here", "_law_model_here"]) fun _ _ _ _ _ _ us hl => match us, hl with | [_, _], _ => rfl
  have D_parts : Def K mg "_law_parts" sParts ["_law_pool_here", "_law_model_here"] f_parts _ := ⟨F_parts, PySem.W.mg_of X G a_parts, k_parts, b_parts⟩
  have F_isloop := fun_mk (st := sIsLoop) l_isloop c_isloop k_isloop
  have b_isloop := F_isloop.binds (ps := ["_law_loop", "_law_line_here"]) fun _ _ _ _ _ _ us hl => match us, hl with | [_, _], _ => rfl
  have D_isloop : Def K mg "_law_is_loop" sIsLoop ["_law_loop", "_law_line_here"] f_isloop _ := ⟨F_isloop, PySem.W.mg_of X G a_isloop, k_isloop, b_isloop⟩
  have F_other := fun_mk (st := sOther) l_other c_other k_other
  have b_other := F_other.binds (ps := ["_law_pool_here", "_law_model_here"]) fun _ _ _ _ _ _ us hl => match us, hl with | [_, _], _ => rfl
  have D_other : Def K mg "_law_other" sOther ["_law_pool_here", "_law_model_here"] f_other _ := ⟨F_other, PySem.W.mg_of X G a_other, k_other, b_other⟩
  have F_right := fun_mk (st := sRight) l_right c_right k_right
  have b_right := F_right.binds (ps := ["_law_pool_here"]) fun _ _ _ _ _ _ us hl => match us, hl with | [_], _ => rfl
  have D_right : Def K mg "_law_right" sRight ["_law_pool_here"] f_right _ := ⟨F_right, PySem.W.mg_of X G a_right, k_right, b_right⟩
  have F_ksigns := fun_mk (st := sIsSigns) l_ksigns c_ksigns k_ksigns
  have b_ksigns := F_ksigns.binds (ps := ["value"]) fun _ _ _ _ _ _ us hl => match us, hl with | [_], _ => rfl
  have D_ksigns : Def K mg "is_signs" sIsSigns ["value"] f_ksigns _ := ⟨F_ksigns, PySem.W.mg_of X G a_ksigns, k_ksigns, b_ksigns⟩
  have F_ksignof := fun_mk (st := sSignOf) l_ksignof c_ksignof k_ksignof
  have b_ksignof := F_ksignof.binds (ps := ["value", "signs"]) fun _ _ _ _ _ _ us hl => match us, hl with | [_, _], _ => rfl
  have D_ksignof : Def K mg "is_sign_of" sSignOf ["value", "signs"] f_ksignof _ := ⟨F_ksignof, PySem.W.mg_of X G a_ksignof, k_ksignof, b_ksignof⟩
  have F_kfirst := fun_mk (st := sFirst) l_kfirst c_kfirst k_kfirst
  have b_kfirst := F_kfirst.binds (ps := ["values", "right"]) fun _ _ _ _ _ _ us hl => match us, hl with | [_, _], _ => rfl
  have D_kfirst : Def K mg "first_wrong" sFirst ["values", "right"] f_kfirst _ := ⟨F_kfirst, PySem.W.mg_of X G a_kfirst, k_kfirst, b_kfirst⟩
  have F_kisword := fun_mk (st := sIsWord) l_kisword c_kisword k_kisword
  have b_kisword := F_kisword.binds (ps := ["value"]) fun _ _ _ _ _ _ us hl => match us, hl with | [_], _ => rfl
  have D_kisword : Def K mg "is_word" sIsWord ["value"] f_kisword _ := ⟨F_kisword, PySem.W.mg_of X G a_kisword, k_kisword, b_kisword⟩
  have F_kisname := fun_mk (st := sIsName) l_kisname c_kisname k_kisname
  have b_kisname := F_kisname.binds (ps := ["value"]) fun _ _ _ _ _ _ us hl => match us, hl with | [_], _ => rfl
  have D_kisname : Def K mg "is_name" sIsName ["value"] f_kisname _ := ⟨F_kisname, PySem.W.mg_of X G a_kisname, k_kisname, b_kisname⟩
  have F_kisint := fun_mk (st := sIsInt) l_kisint c_kisint k_kisint
  have b_kisint := F_kisint.binds (ps := ["value"]) fun _ _ _ _ _ _ us hl => match us, hl with | [_], _ => rfl
  have D_kisint : Def K mg "is_integer" sIsInt ["value"] f_kisint _ := ⟨F_kisint, PySem.W.mg_of X G a_kisint, k_kisint, b_kisint⟩
  have F_kintfrom := fun_mk (st := sIsIntF) l_kintfrom c_kintfrom k_kintfrom
  have b_kintfrom := F_kintfrom.binds (ps := ["value", "least"]) fun _ _ _ _ _ _ us hl => match us, hl with | [_, _], _ => rfl
  have D_kintfrom : Def K mg "is_integer_from" sIsIntF ["value", "least"] f_kintfrom _ := ⟨F_kintfrom, PySem.W.mg_of X G a_kintfrom, k_kintfrom, b_kintfrom⟩
  have F_kstateof := fun_mk (st := sStateOf) l_kstateof c_kstateof k_kstateof
  have b_kstateof := F_kstateof.binds (ps := ["value", "states"]) fun _ _ _ _ _ _ us hl => match us, hl with | [_, _], _ => rfl
  have D_kstateof : Def K mg "is_state_of" sStateOf ["value", "states"] f_kstateof _ := ⟨F_kstateof, PySem.W.mg_of X G a_kstateof, k_kstateof, b_kstateof⟩
  have F_krowof := fun_mk (st := sRowOf) l_krowof c_krowof k_krowof
  have b_krowof := F_krowof.binds (ps := ["value", "signs", "states"]) fun _ _ _ _ _ _ us hl => match us, hl with | [_, _, _], _ => rfl
  have D_krowof : Def K mg "is_row_of" sRowOf ["value", "signs", "states"] f_krowof _ := ⟨F_krowof, PySem.W.mg_of X G a_krowof, k_krowof, b_krowof⟩
  have F_kturnof := fun_mk (st := sTurnOf) l_kturnof c_kturnof k_kturnof
  have b_kturnof := F_kturnof.binds (ps := ["value", "states"]) fun _ _ _ _ _ _ us hl => match us, hl with | [_, _], _ => rfl
  have D_kturnof : Def K mg "is_turn_of" sTurnOf ["value", "states"] f_kturnof _ := ⟨F_kturnof, PySem.W.mg_of X G a_kturnof, k_kturnof, b_kturnof⟩
  have F_kchst := fun_mk (st := sChSt) l_kchst c_kchst k_kchst
  have b_kchst := F_kchst.binds (ps := ["states"]) fun _ _ _ _ _ _ us hl => match us, hl with | [_], _ => rfl
  have D_kchst : Def K mg "check_states" sChSt ["states"] f_kchst _ := ⟨F_kchst, PySem.W.mg_of X G a_kchst, k_kchst, b_kchst⟩
  have F_kchro := fun_mk (st := sChRo) l_kchro c_kchro k_kchro
  have b_kchro := F_kchro.binds (ps := ["rows", "signs", "states"]) fun _ _ _ _ _ _ us hl => match us, hl with | [_, _, _], _ => rfl
  have D_kchro : Def K mg "check_rows" sChRo ["rows", "signs", "states"] f_kchro _ := ⟨F_kchro, PySem.W.mg_of X G a_kchro, k_kchro, b_kchro⟩
  have F_kchtu := fun_mk (st := sChTu) l_kchtu c_kchtu k_kchtu
  have b_kchtu := F_kchtu.binds (ps := ["turns", "states"]) fun _ _ _ _ _ _ us hl => match us, hl with | [_, _], _ => rfl
  have D_kchtu : Def K mg "check_turns" sChTu ["turns", "states"] f_kchtu _ := ⟨F_kchtu, PySem.W.mg_of X G a_kchtu, k_kchtu, b_kchtu⟩
  have F_kchye := fun_mk (st := sChYe) l_kchye c_kchye k_kchye
  have b_kchye := F_kchye.binds (ps := ["yes", "states"]) fun _ _ _ _ _ _ us hl => match us, hl with | [_, _], _ => rfl
  have D_kchye : Def K mg "check_yes" sChYe ["yes", "states"] f_kchye _ := ⟨F_kchye, PySem.W.mg_of X G a_kchye, k_kchye, b_kchye⟩
  have F_korro := fun_mk (st := sOrRo) l_korro c_korro k_korro
  have b_korro := F_korro.binds (ps := ["rows", "signs", "states"]) fun _ _ _ _ _ _ us hl => match us, hl with | [_, _, _], _ => rfl
  have D_korro : Def K mg "ordered_rows" sOrRo ["rows", "signs", "states"] f_korro _ := ⟨F_korro, PySem.W.mg_of X G a_korro, k_korro, b_korro⟩
  have F_kortu := fun_mk (st := sOrTu) l_kortu c_kortu k_kortu
  have b_kortu := F_kortu.binds (ps := ["turns", "states"]) fun _ _ _ _ _ _ us hl => match us, hl with | [_, _], _ => rfl
  have D_kortu : Def K mg "ordered_turns" sOrTu ["turns", "states"] f_kortu _ := ⟨F_kortu, PySem.W.mg_of X G a_kortu, k_kortu, b_kortu⟩
  have F_korye := fun_mk (st := sOrYe) l_korye c_korye k_korye
  have b_korye := F_korye.binds (ps := ["yes", "states"]) fun _ _ _ _ _ _ us hl => match us, hl with | [_, _], _ => rfl
  have D_korye : Def K mg "ordered_yes" sOrYe ["yes", "states"] f_korye _ := ⟨F_korye, PySem.W.mg_of X G a_korye, k_korye, b_korye⟩
  have F_mI : FunD K "__init__" "Loop.__init__" (defArgs sLoInit) (defBody sLoInit) (defScope sLoInit) [.ref e] [("yes", .ref e2)] f_mI _ := ⟨⟨_, _, .ref tD, .ref kD, _, _, _, _, _, _, rfl, l_mI, c_mI, .inr ⟨by simp, tD, _, [.ref e], _, rfl, l_tD, rfl, .cons rfl .nil⟩, .inr ⟨kD, rfl, fun q hq => by rw [List.mem_singleton.mp hq]; exact ⟨_, n_yes, rfl⟩⟩⟩, k_mI⟩
  have kI := FunD_kbk (ps := ["self", "signs", "states", "rows", "turns", "yes"]) F_mI 5 ["yes"] Wb.gL (by simp) gL_rel fun T kV doc pm an cdv ct us its ws hu hi hw => match us, hu, its, hi, ws, hw with | [_, _, _, _, _], _, [_], _, [_], _ => ⟨_, rfl, rfl⟩
  have F_mW := fun_mk (st := sLoRow) l_mW c_mW k_mW
  have b_mW := F_mW.binds (ps := ["self"]) fun _ _ _ _ _ _ us hl => match us, hl with | [_], _ => rfl
  have P_mW : PropOf K C "row" pW f_mW := ⟨p_atW, p_getW, p_takW, ⟨_, p_recW⟩⟩
  have F_mAn := fun_mk (st := sLoAnswer) l_mAn c_mAn k_mAn
  have b_mAn := F_mAn.binds (ps := ["self", "text", "lap"]) fun _ _ _ _ _ _ us hl => match us, hl with | [_, _, _], _ => rfl
  have M_mAn : Meth K C "answer" f_mAn := ⟨a_mAn, i_mAn, k_mAn⟩
  have F_mSt := fun_mk (st := sLoState) l_mSt c_mSt k_mSt
  have b_mSt := F_mSt.binds (ps := ["self", "text", "rounds"]) fun _ _ _ _ _ _ us hl => match us, hl with | [_, _, _], _ => rfl
  have M_mSt : Meth K C "state" f_mSt := ⟨a_mSt, i_mSt, k_mSt⟩
  have F_mTx := fun_mk (st := sLoText) l_mTx c_mTx k_mTx
  have b_mTx := F_mTx.binds (ps := ["self", "text"]) fun _ _ _ _ _ _ us hl => match us, hl with | [_, _], _ => rfl
  have M_mTx : Meth K C "_check_text" f_mTx := ⟨a_mTx, i_mTx, k_mTx⟩
  have F_mGo := fun_mk (st := sLoGone) l_mGo c_mGo k_mGo
  have b_mGo := F_mGo.binds (ps := ["self", "text"]) fun _ _ _ _ _ _ us hl => match us, hl with | [_, _], _ => rfl
  have M_mGo : Meth K C "_gone" f_mGo := ⟨a_mGo, i_mGo, k_mGo⟩
  have F_mOf := fun_mk (st := sLoOf) l_mOf c_mOf k_mOf
  have b_mOf := F_mOf.binds (ps := ["self", "course", "counts", "lap"]) fun _ _ _ _ _ _ us hl => match us, hl with | [_, _, _, _], _ => rfl
  have M_mOf : Meth K C "_answer_of" f_mOf := ⟨a_mOf, i_mOf, k_mOf⟩
  have F_mtI := fun_mk (st := sTaInit) l_mtI c_mtI k_mtI
  have b_mtI := F_mtI.binds (ps := ["self", "row"]) fun _ _ _ _ _ _ us hl => match us, hl with | [_, _], _ => rfl
  have F_mtG := fun_mk (st := sTaGone) l_mtG c_mtG k_mtG
  have b_mtG := F_mtG.binds (ps := ["self", "text", "start"]) fun _ _ _ _ _ _ us hl => match us, hl with | [_, _, _], _ => rfl
  have M_mtG : Meth K T "gone" f_mtG := ⟨a_mtG, i_mtG, k_mtG⟩
  have F_mcI := fun_mk (st := sCoInit) l_mcI c_mcI k_mcI
  have b_mcI := F_mcI.binds (ps := ["self", "leads"]) fun _ _ _ _ _ _ us hl => match us, hl with | [_, _], _ => rfl
  have F_mcP := fun_mk (st := sCoPlace) l_mcP c_mcP k_mcP
  have b_mcP := F_mcP.binds (ps := ["self", "rounds"]) fun _ _ _ _ _ _ us hl => match us, hl with | [_, _], _ => rfl
  have M_mcP : Meth K O "place" f_mcP := ⟨a_mcP, i_mcP, k_mcP⟩
  have F_mcB := fun_mk (st := sCoBehind) l_mcB c_mcB k_mcB
  have b_mcB := F_mcB.binds (ps := ["self", "rounds"]) fun _ _ _ _ _ _ us hl => match us, hl with | [_, _], _ => rfl
  have M_mcB : Meth K O "behind" f_mcB := ⟨a_mcB, i_mcB, k_mcB⟩
  have F_mMa := fun_mk (st := sLoMade) l_mMa c_mMa k_mMa
  have b_mMa := F_mMa.binds (ps := ["cls", "row"]) fun _ _ _ _ _ _ us hl => match us, hl with | [_, _], _ => rfl
  have F_mEq := fun_mk (st := sLoEq) l_mEq c_mEq k_mEq
  have b_mEq := F_mEq.binds (ps := ["self", "other"]) fun _ _ _ _ _ _ us hl => match us, hl with | [_, _], _ => rfl
  have M_mEq : Meth K C "__eq__" f_mEq := ⟨a_mEq, i_mEq, k_mEq⟩
  have F_mSg := fun_mk (st := sLoSigns) l_mSg c_mSg k_mSg
  have b_mSg := F_mSg.binds (ps := ["self"]) fun _ _ _ _ _ _ us hl => match us, hl with | [_], _ => rfl
  have P_mSg : PropOf K C "signs" pSg f_mSg := ⟨p_atSg, p_getSg, p_takSg, ⟨_, p_recSg⟩⟩
  have F_mSs := fun_mk (st := sLoStates) l_mSs c_mSs k_mSs
  have b_mSs := F_mSs.binds (ps := ["self"]) fun _ _ _ _ _ _ us hl => match us, hl with | [_], _ => rfl
  have P_mSs : PropOf K C "states" pSs f_mSs := ⟨p_atSs, p_getSs, p_takSs, ⟨_, p_recSs⟩⟩
  have F_mRw := fun_mk (st := sLoRows) l_mRw c_mRw k_mRw
  have b_mRw := F_mRw.binds (ps := ["self"]) fun _ _ _ _ _ _ us hl => match us, hl with | [_], _ => rfl
  have P_mRw : PropOf K C "rows" pRw f_mRw := ⟨p_atRw, p_getRw, p_takRw, ⟨_, p_recRw⟩⟩
  have F_mTu := fun_mk (st := sLoTurns) l_mTu c_mTu k_mTu
  have b_mTu := F_mTu.binds (ps := ["self"]) fun _ _ _ _ _ _ us hl => match us, hl with | [_], _ => rfl
  have P_mTu : PropOf K C "turns" pTu f_mTu := ⟨p_atTu, p_getTu, p_takTu, ⟨_, p_recTu⟩⟩
  have F_mYe := fun_mk (st := sLoYes) l_mYe c_mYe k_mYe
  have b_mYe := F_mYe.binds (ps := ["self"]) fun _ _ _ _ _ _ us hl => match us, hl with | [_], _ => rfl
  have P_mYe : PropOf K C "yes" pYe f_mYe := ⟨p_atYe, p_getYe, p_takYe, ⟨_, p_recYe⟩⟩
  have R' : LoopF K mg ⟨C, T, O, f_mI, f_mW, f_mAn, f_mSt, f_mTx, f_mGo, f_mOf, pW, f_mtI, f_mtG, f_mcI, f_mcP, f_mcB, _, _, _, _, _, _, _, _, _, _, _, _, f_ksigns, f_ksignof, f_kfirst, f_kisword, f_kisname, f_kisint, f_kintfrom, f_kstateof, f_krowof, f_kturnof, f_kchst, f_kchro, f_kchtu, f_kchye, f_korro, f_kortu, f_korye, _, _, _, _, _, _, PySem.W.fnOf "is_integer_from" "is_integer_from" (defArgs sIsIntF) (defBody sIsIntF) (defScope sIsIntF) .none kv_kintfrom dc_kintfrom pm_kintfrom an_kintfrom cd_kintfrom ct_kintfrom, _, _, _, _, _, _, _, _, _, _⟩ e := ⟨LK, TK, OK, PySem.W.mg_of X G aT, PySem.W.mg_of X G aO, PySem.W.mg_of X G aC, ⟨mkC, a_mI, i_mI, kcC⟩, ⟨mkT, a_mtI, i_mtI, kcT⟩, ⟨mkO, a_mcI, i_mcI, kcO⟩, ⟨_, F_mI⟩, kI, F_mW, b_mW, P_mW, F_mAn, b_mAn, M_mAn, F_mSt, b_mSt, M_mSt, F_mTx, b_mTx, M_mTx, F_mGo, b_mGo, M_mGo, F_mOf, b_mOf, M_mOf, F_mtI, b_mtI, F_mtG, b_mtG, M_mtG, F_mcI, b_mcI, F_mcP, b_mcP, M_mcP, F_mcB, b_mcB, M_mcB, D_ksigns, D_ksignof, D_kfirst, D_kisword, D_kisname, D_kisint, D_kstateof, D_krowof, D_kturnof, D_kchst, D_kchro, D_kchtu, D_kchye, D_korro, D_kortu, D_korye, ⟨t600, PySem.W.mg_of X G gt600⟩, ⟨t4, PySem.W.mg_of X G gt4⟩, ⟨t8, PySem.W.mg_of X G gt8⟩, ⟨t6, PySem.W.mg_of X G gt6⟩, Z_tuple, Z_enumerate, Z_zip, Z_sorted⟩
  have D' : Defs K mg ⟨f_cell, f_pool, f_draw, f_shuf, f_face, f_signs, f_name, f_names, f_amount, f_model, f_line, f_parts, f_isloop, f_other, f_right, _, _, _, _, _, _, _, _, _, _, _, _, _, _, _⟩ := ⟨D_cell, D_pool, D_draw, D_shuf, D_face, D_signs, D_name, D_names, D_amount, D_model, D_line, D_parts, D_isloop, D_other, D_right⟩
  have ZT : FreeT mg := ⟨Z_isinstance, Z_tuple, Z_list, Z_dict, Z_bool⟩
  have k5 := FunD_kbk (ps := ["self", "signs", "states", "rows", "turns", "yes"]) F_mI 1 ["yes", "turns", "rows", "states", "signs"] Wb.g5 (by simp) g5_rel fun T kV doc pm an cdv ct us its ws hu hi hw => match us, hu, its, hi, ws, hw with | [_], _, [_], _, [_, _, _, _, _], _ => ⟨_, rfl, rfl⟩
  have b0 := F_mI.binds (ps := ["self", "signs", "states", "rows", "turns", "yes"]) 4 0 (by simp) rfl (fun T D doc pm an cdv ct us its ks hu hi hk => match us, hu, its, hi, ks, hk with | [_, _, _, _], _, [_], _, [_], _ => ⟨_, rfl, _, _, _, _, _, _, rfl, rfl, rfl⟩) (by simp)
  have kMa : KBn K (PySem.W.fnOf "made" "Loop.made" (defArgs sLoMade) (defBody sLoMade) (defScope sLoMade) .none kv_mMa dc_mMa pm_mMa an_mMa cd_mMa ct_mMa) ["cls", "row"] 1 ["row"] (fun us ws => us ++ ws) (fun vs zs => vs ++ zs) := ⟨fun s us ws _ hu hw => match us, ws, hu, hw with | [_], [_], _, _ => .of_eq rfl, fun a b => a.append b⟩
  exact ⟨PySem.W.fnOf "law" "law" (defArgs sLaw) (defBody sLaw) (defScope sLaw) .none kv_law dc_law pm_law an_law cd_law ct_law, fun s v => .of_eq rfl, fun base _ _ => ok_law (fun_mk (st := sLaw) l_law c_law k_law) (BM := ⟨f_mMa, _⟩) (BE := ⟨f_mEq, f_mSs, pSs, _, PySem.W.fnOf "law" "law" (defArgs sLaw) (defBody sLaw) (defScope sLaw) .none kv_law dc_law pm_law an_law cd_law ct_law⟩) (BQ := ⟨f_mSg, f_mSs, f_mRw, f_mTu, f_mYe, pSg, pSs, pRw, pTu, pYe, _, _, _, _, _⟩) Z ZT R' ⟨⟨_, k5.choose_spec⟩, ⟨e2, _, e0_of l_e2, b0.choose_spec.1, b0.choose_spec.2⟩, e0_of l_e0, ⟨F_mMa⟩, b_mMa, kMa, ⟨_, _, ⟨rd, ga⟩, ⟨cm_atMa, ⟨_, cm_recMa⟩, cm_fiMa⟩⟩, nb, nl, ne, nt, kit_own icl tcl sut⟩ ⟨F_mSg, b_mSg, P_mSg, F_mSs, b_mSs, P_mSs, F_mRw, b_mRw, P_mRw, F_mTu, b_mTu, P_mTu, F_mYe, b_mYe, P_mYe⟩ ⟨F_mEq, b_mEq, a_mEq, i_mEq, nf⟩ ⟨cc, cg, ctk, co⟩ D'⟩
theorem walk {l : PySem.W.OpenLaw} {q : Program} {loose : List Str} {XP : (Str → Option Value) → Heap → Prop} {YP : World → Heap → Prop} {d : DefRec} {K : Params → PySem.W.Frag} (hn : l.most = some 63) (hdf : d.params.defaults = []) (hY : ∀ (w : World) (h : Heap), YP w h → (K w.params).In h)
    (F : ∀ (w : World) (mg : Str → Option Value) (fa : Addr) (h : Heap), (K w.params).In h → h.Ns mainGlobals mg → mg d.name = some (.ref fa) → ∃ fd : FuncData, (∀ (s : Shared) (u : Value), BindsTo s fd ⟨[u], []⟩ [("_law_script", u)]) ∧ ∀ base : Heap, (K w.params).In base → base.Ns mainGlobals mg → FnOk l.prog w (K w.params) mg base CX0 8 fa fd ["_law_script"] (spLaw (K w.params))) :
    PySem.W.WalkO q loose XP YP l.row.toRowW d [] (fun f vs => PySem.call f vs) :=
  L2.walk_of (n := 63) (k := 8) (x := "_law_script") (CX := fun _ => CX0) (sp := fun w => spLaw (K w.params)) hn (by decide) hdf ⟨rfl, by decide, by decide⟩ hY F (fun _ _ a ns hl _ hS => ⟨a, ns, rfl, hS, hl, fun _ => rfl⟩) fun _ _ _ _ _ z => z
end Wb
open PySem PySem.W PyProof.Rows in
set_option maxRecDepth 100000 in
set_option maxHeartbeats 0 in
theorem PySem.Challenge.cw_wherebegun_k13_loops_and_their_rows_holds : PySem.Challenge.rw_wherebegun_k13_loops_and_their_rows.Holds := by
  w_on; o_law; k_head; (case hw => w_witness2)
  k_fill
  refine Wb.walk (l := PySem.Challenge.rw_wherebegun_k13_loops_and_their_rows) rfl rfl (fun w h Y => PySem.W.kIn_of Y) ?F
  case F =>
    intro w mg fa h KX G hmg
    refine' Wb.all_mk KX G hmg ?a_cell ?l_cell ?c_cell ?k_cell ?a_pool ?l_pool ?c_pool ?k_pool ?a_draw ?l_draw ?c_draw ?k_draw ?a_shuf ?l_shuf ?c_shuf ?k_shuf ?a_face ?l_face ?c_face ?k_face ?a_signs ?l_signs ?c_signs ?k_signs ?a_name ?l_name ?c_name ?k_name ?a_names ?l_names ?c_names ?k_names ?a_amount ?l_amount ?c_amount ?k_amount ?a_model ?l_model ?c_model ?k_model ?a_line ?l_line ?c_line ?k_line ?a_parts ?l_parts ?c_parts ?k_parts ?a_isloop ?l_isloop ?c_isloop ?k_isloop ?a_other ?l_other ?c_other ?k_other ?a_right ?l_right ?c_right ?k_right ?a_ksigns ?l_ksigns ?c_ksigns ?k_ksigns ?a_ksignof ?l_ksignof ?c_ksignof ?k_ksignof ?a_kfirst ?l_kfirst ?c_kfirst ?k_kfirst ?a_kisword ?l_kisword ?c_kisword ?k_kisword ?a_kisname ?l_kisname ?c_kisname ?k_kisname ?a_kisint ?l_kisint ?c_kisint ?k_kisint ?a_kintfrom ?l_kintfrom ?c_kintfrom ?k_kintfrom ?a_kstateof ?l_kstateof ?c_kstateof ?k_kstateof ?a_krowof ?l_krowof ?c_krowof ?k_krowof ?a_kturnof ?l_kturnof ?c_kturnof ?k_kturnof ?a_kchst ?l_kchst ?c_kchst ?k_kchst ?a_kchro ?l_kchro ?c_kchro ?k_kchro ?a_kchtu ?l_kchtu ?c_kchtu ?k_kchtu ?a_kchye ?l_kchye ?c_kchye ?k_kchye ?a_korro ?l_korro ?c_korro ?k_korro ?a_kortu ?l_kortu ?c_kortu ?k_kortu ?a_korye ?l_korye ?c_korye ?k_korye ?a_law ?l_law ?c_law ?k_law ?aC ?aT ?aO ?a_mI ?i_mI ?l_mI ?c_mI ?k_mI ?p_atW ?p_getW ?p_takW ?p_recW ?l_mW ?c_mW ?k_mW ?a_mAn ?i_mAn ?l_mAn ?c_mAn ?k_mAn ?a_mSt ?i_mSt ?l_mSt ?c_mSt ?k_mSt ?a_mTx ?i_mTx ?l_mTx ?c_mTx ?k_mTx ?a_mGo ?i_mGo ?l_mGo ?c_mGo ?k_mGo ?a_mOf ?i_mOf ?l_mOf ?c_mOf ?k_mOf ?a_mtI ?i_mtI ?l_mtI ?c_mtI ?k_mtI ?a_mtG ?i_mtG ?l_mtG ?c_mtG ?k_mtG ?a_mcI ?i_mcI ?l_mcI ?c_mcI ?k_mcI ?a_mcP ?i_mcP ?l_mcP ?c_mcP ?k_mcP ?a_mcB ?i_mcB ?l_mcB ?c_mcB ?k_mcB ?cm_atMa ?cm_recMa ?cm_fiMa ?l_mMa ?c_mMa ?k_mMa ?a_mEq ?i_mEq ?l_mEq ?c_mEq ?k_mEq ?p_atSg ?p_getSg ?p_takSg ?p_recSg ?l_mSg ?c_mSg ?k_mSg ?p_atSs ?p_getSs ?p_takSs ?p_recSs ?l_mSs ?c_mSs ?k_mSs ?p_atRw ?p_getRw ?p_takRw ?p_recRw ?l_mRw ?c_mRw ?k_mRw ?p_atTu ?p_getTu ?p_takTu ?p_recTu ?l_mTu ?c_mTu ?k_mTu ?p_atYe ?p_getYe ?p_takYe ?p_recYe ?l_mYe ?c_mYe ?k_mYe ?l_tD ?n_yes ?pgC ?hdC ?poC ?saC ?mkC ?kcC ?pgT ?hdT ?poT ?saT ?mkT ?kcT ?pgO ?hdO ?poO ?saO ?mkO ?kcO ?nC__signs ?nC__states ?nC__rows ?nC__turns ?nC__yes ?nC__table ?nT_number ?nT_nexts ?nT_amounts ?nT_turn_nexts ?nT_turn_amounts ?nT_says ?nO_path ?nO_head ?nO_again ?gt600 ?gt4 ?gt8 ?gt6 ?l_e0 ?l_e2 ?rd ?ga ?nb ?nl ?ne ?nf ?nt ?icl ?tcl ?sut ?cc ?cg ?ctk ?co ?z_int ?z_len ?z_range ?z_divmod ?z_abs ?z_isinstance ?z_str ?z_all ?z_min ?z_max ?z_set ?z_bool ?z_tuple ?z_enumerate ?z_zip ?z_sorted ?z_list ?z_dict
    (case a_cell => k_is)
    (case l_cell => k_is)
    (case c_cell => k_is)
    (case k_cell => k_is)
    (case a_pool => k_is)
    (case l_pool => k_is)
    (case c_pool => k_is)
    (case k_pool => k_is)
    (case a_draw => k_is)
    (case l_draw => k_is)
    (case c_draw => k_is)
    (case k_draw => k_is)
    (case a_shuf => k_is)
    (case l_shuf => k_is)
    (case c_shuf => k_is)
    (case k_shuf => k_is)
    (case a_face => k_is)
    (case l_face => k_is)
    (case c_face => k_is)
    (case k_face => k_is)
    (case a_signs => k_is)
    (case l_signs => k_is)
    (case c_signs => k_is)
    (case k_signs => k_is)
    (case a_name => k_is)
    (case l_name => k_is)
    (case c_name => k_is)
    (case k_name => k_is)
    (case a_names => k_is)
    (case l_names => k_is)
    (case c_names => k_is)
    (case k_names => k_is)
    (case a_amount => k_is)
    (case l_amount => k_is)
    (case c_amount => k_is)
    (case k_amount => k_is)
    (case a_model => k_is)
    (case l_model => k_is)
    (case c_model => k_is)
    (case k_model => k_is)
    (case a_line => k_is)
    (case l_line => k_is)
    (case c_line => k_is)
    (case k_line => k_is)
    (case a_parts => k_is)
    (case l_parts => k_is)
    (case c_parts => k_is)
    (case k_parts => k_is)
    (case a_isloop => k_is)
    (case l_isloop => k_is)
    (case c_isloop => k_is)
    (case k_isloop => k_is)
    (case a_other => k_is)
    (case l_other => k_is)
    (case c_other => k_is)
    (case k_other => k_is)
    (case a_right => k_is)
    (case l_right => k_is)
    (case c_right => k_is)
    (case k_right => k_is)
    (case a_ksigns => k_is)
    (case l_ksigns => k_is)
    (case c_ksigns => k_is)
    (case k_ksigns => k_is)
    (case a_ksignof => k_is)
    (case l_ksignof => k_is)
    (case c_ksignof => k_is)
    (case k_ksignof => k_is)
    (case a_kfirst => k_is)
    (case l_kfirst => k_is)
    (case c_kfirst => k_is)
    (case k_kfirst => k_is)
    (case a_kisword => k_is)
    (case l_kisword => k_is)
    (case c_kisword => k_is)
    (case k_kisword => k_is)
    (case a_kisname => k_is)
    (case l_kisname => k_is)
    (case c_kisname => k_is)
    (case k_kisname => k_is)
    (case a_kisint => k_is)
    (case l_kisint => k_is)
    (case c_kisint => k_is)
    (case k_kisint => k_is)
    (case a_kintfrom => k_is)
    (case l_kintfrom => k_is)
    (case c_kintfrom => k_is)
    (case k_kintfrom => k_is)
    (case a_kstateof => k_is)
    (case l_kstateof => k_is)
    (case c_kstateof => k_is)
    (case k_kstateof => k_is)
    (case a_krowof => k_is)
    (case l_krowof => k_is)
    (case c_krowof => k_is)
    (case k_krowof => k_is)
    (case a_kturnof => k_is)
    (case l_kturnof => k_is)
    (case c_kturnof => k_is)
    (case k_kturnof => k_is)
    (case a_kchst => k_is)
    (case l_kchst => k_is)
    (case c_kchst => k_is)
    (case k_kchst => k_is)
    (case a_kchro => k_is)
    (case l_kchro => k_is)
    (case c_kchro => k_is)
    (case k_kchro => k_is)
    (case a_kchtu => k_is)
    (case l_kchtu => k_is)
    (case c_kchtu => k_is)
    (case k_kchtu => k_is)
    (case a_kchye => k_is)
    (case l_kchye => k_is)
    (case c_kchye => k_is)
    (case k_kchye => k_is)
    (case a_korro => k_is)
    (case l_korro => k_is)
    (case c_korro => k_is)
    (case k_korro => k_is)
    (case a_kortu => k_is)
    (case l_kortu => k_is)
    (case c_kortu => k_is)
    (case k_kortu => k_is)
    (case a_korye => k_is)
    (case l_korye => k_is)
    (case c_korye => k_is)
    (case k_korye => k_is)
    (case a_law => k_is)
    (case l_law => k_is)
    (case c_law => k_is)
    (case k_law => k_is)
    (case aC => k_is)
    (case aT => k_is)
    (case aO => k_is)
    (case a_mI => k_is)
    (case i_mI => k_is)
    (case l_mI => k_is)
    (case c_mI => k_is)
    (case k_mI => k_is)
    (case p_atW => k_is)
    (case p_getW => k_is)
    (case p_takW => k_is)
    (case p_recW => k_is)
    (case l_mW => k_is)
    (case c_mW => k_is)
    (case k_mW => k_is)
    (case a_mAn => k_is)
    (case i_mAn => k_is)
    (case l_mAn => k_is)
    (case c_mAn => k_is)
    (case k_mAn => k_is)
    (case a_mSt => k_is)
    (case i_mSt => k_is)
    (case l_mSt => k_is)
    (case c_mSt => k_is)
    (case k_mSt => k_is)
    (case a_mTx => k_is)
    (case i_mTx => k_is)
    (case l_mTx => k_is)
    (case c_mTx => k_is)
    (case k_mTx => k_is)
    (case a_mGo => k_is)
    (case i_mGo => k_is)
    (case l_mGo => k_is)
    (case c_mGo => k_is)
    (case k_mGo => k_is)
    (case a_mOf => k_is)
    (case i_mOf => k_is)
    (case l_mOf => k_is)
    (case c_mOf => k_is)
    (case k_mOf => k_is)
    (case a_mtI => k_is)
    (case i_mtI => k_is)
    (case l_mtI => k_is)
    (case c_mtI => k_is)
    (case k_mtI => k_is)
    (case a_mtG => k_is)
    (case i_mtG => k_is)
    (case l_mtG => k_is)
    (case c_mtG => k_is)
    (case k_mtG => k_is)
    (case a_mcI => k_is)
    (case i_mcI => k_is)
    (case l_mcI => k_is)
    (case c_mcI => k_is)
    (case k_mcI => k_is)
    (case a_mcP => k_is)
    (case i_mcP => k_is)
    (case l_mcP => k_is)
    (case c_mcP => k_is)
    (case k_mcP => k_is)
    (case a_mcB => k_is)
    (case i_mcB => k_is)
    (case l_mcB => k_is)
    (case c_mcB => k_is)
    (case k_mcB => k_is)
    (case cm_atMa => k_is)
    (case cm_recMa => k_is)
    (case cm_fiMa => k_is)
    (case l_mMa => k_is)
    (case c_mMa => k_is)
    (case k_mMa => k_is)
    (case a_mEq => k_is)
    (case i_mEq => k_is)
    (case l_mEq => k_is)
    (case c_mEq => k_is)
    (case k_mEq => k_is)
    (case p_atSg => k_is)
    (case p_getSg => k_is)
    (case p_takSg => k_is)
    (case p_recSg => k_is)
    (case l_mSg => k_is)
    (case c_mSg => k_is)
    (case k_mSg => k_is)
    (case p_atSs => k_is)
    (case p_getSs => k_is)
    (case p_takSs => k_is)
    (case p_recSs => k_is)
    (case l_mSs => k_is)
    (case c_mSs => k_is)
    (case k_mSs => k_is)
    (case p_atRw => k_is)
    (case p_getRw => k_is)
    (case p_takRw => k_is)
    (case p_recRw => k_is)
    (case l_mRw => k_is)
    (case c_mRw => k_is)
    (case k_mRw => k_is)
    (case p_atTu => k_is)
    (case p_getTu => k_is)
    (case p_takTu => k_is)
    (case p_recTu => k_is)
    (case l_mTu => k_is)
    (case c_mTu => k_is)
    (case k_mTu => k_is)
    (case p_atYe => k_is)
    (case p_getYe => k_is)
    (case p_takYe => k_is)
    (case p_recYe => k_is)
    (case l_mYe => k_is)
    (case c_mYe => k_is)
    (case k_mYe => k_is)
    (case l_tD => k_is)
    (case n_yes => k_is)
    (case pgC => k_is)
    (case hdC => k_is)
    (case poC => k_is)
    (case saC => k_is)
    (case mkC => k_is)
    (case kcC => k_is)
    (case pgT => k_is)
    (case hdT => k_is)
    (case poT => k_is)
    (case saT => k_is)
    (case mkT => k_is)
    (case kcT => k_is)
    (case pgO => k_is)
    (case hdO => k_is)
    (case poO => k_is)
    (case saO => k_is)
    (case mkO => k_is)
    (case kcO => k_is)
    (case nC__signs => k_is)
    (case nC__states => k_is)
    (case nC__rows => k_is)
    (case nC__turns => k_is)
    (case nC__yes => k_is)
    (case nC__table => k_is)
    (case nT_number => k_is)
    (case nT_nexts => k_is)
    (case nT_amounts => k_is)
    (case nT_turn_nexts => k_is)
    (case nT_turn_amounts => k_is)
    (case nT_says => k_is)
    (case nO_path => k_is)
    (case nO_head => k_is)
    (case nO_again => k_is)
    (case gt600 => k_is)
    (case gt4 => k_is)
    (case gt8 => k_is)
    (case gt6 => k_is)
    (case l_e0 => k_is)
    (case l_e2 => k_is)
    (case rd => k_is)
    (case ga => k_is)
    (case nb => k_is)
    (case nl => k_is)
    (case ne => k_is)
    (case nf => k_is)
    (case nt => k_is)
    (case icl => k_is)
    (case tcl => k_is)
    (case sut => k_is)
    (case cc => k_is)
    (case cg => k_is)
    (case ctk => k_is)
    (case co => k_is)
    (case z_int => k_is)
    (case z_len => k_is)
    (case z_range => k_is)
    (case z_divmod => k_is)
    (case z_abs => k_is)
    (case z_isinstance => k_is)
    (case z_str => k_is)
    (case z_all => k_is)
    (case z_min => k_is)
    (case z_max => k_is)
    (case z_set => k_is)
    (case z_bool => k_is)
    (case z_tuple => k_is)
    (case z_enumerate => k_is)
    (case z_zip => k_is)
    (case z_sorted => k_is)
    (case z_list => k_is)
    (case z_dict => k_is)
