import PyProof.Rows.All
import Wide.All
import OpenK.AllK
import Wide.FinOn
import HandS.ForMost
import HandS.Wide
import HandS.WideBits
import HandS.Defaults
import HandS.ExcInit
import PyProof.ReprRoads
import PyProof.StrLawsRepr
import HandS.ExcIs
import HandS.ExcField
import HandS.ExcValue
import HandS.RaiseMore
import HandS.MakeKw
import HandS.MakeKwOnly
import PyProof.ReprBulk
import HandS.IsInst
import HandS.Style
import PySem.Challenge.RW_evenfriends_k01_errors_made
set_option Elab.async false
set_option linter.all false
set_option maxRecDepth 100000
set_option maxHeartbeats 4000000
namespace K1
open PySem L2
def top (i : Nat) : Stmt := PySem.Challenge.pw_evenfriends_k01_errors_made.main.body.getD i (.Pass ⟨0, 0, 0, 0⟩)
abbrev sPurse : Stmt := top 32
abbrev sMixed : Stmt := top 33
abbrev sDraw : Stmt := top 34
abbrev sPurses : Stmt := top 35
abbrev sOneOf : Stmt := top 36
abbrev sWord : Stmt := top 37
theorem scP : FnScope ["_law_script", "_law_at", "_law_seed"] ["_law_script", "_law_at"] (defScope sPurse) := ⟨rfl, rfl, rfl, by decide +kernel, rfl, by decide +kernel, by decide +kernel⟩
theorem scM : FnScope ["_law_seed", "_law_turn", "_law_at", "_law_mixed_here"] ["_law_seed", "_law_turn", "_law_at"] (defScope sMixed) := ⟨rfl, rfl, rfl, by decide +kernel, rfl, by decide +kernel, by decide +kernel⟩
theorem scD : FnScope ["_law_purse_here", "_law_many", "_law_drawn", "_law_found", "_law_piece"] ["_law_purse_here", "_law_many"] (defScope sDraw) := ⟨rfl, rfl, rfl, by decide +kernel, rfl, by decide +kernel, by decide +kernel⟩
theorem scPs : FnScope ["_law_script", "_law_few", "_law_at"] ["_law_script", "_law_few"] (defScope sPurses) := ⟨rfl, rfl, rfl, by decide +kernel, rfl, by decide +kernel, by decide +kernel⟩
theorem scO : FnScope ["_law_purse_here", "_law_some"] ["_law_purse_here", "_law_some"] (defScope sOneOf) := ⟨rfl, rfl, rfl, by decide +kernel, rfl, by decide +kernel, by decide +kernel⟩
theorem scW : FnScope ["_law_purse_here", "_law_size", "_law_turn"] ["_law_purse_here"] (defScope sWord) := ⟨rfl, rfl, rfl, by decide +kernel, rfl, by decide +kernel, by decide +kernel⟩
/-- the built-in names that the text uses stand for themselves -/
structure Bt (mg : Str → Option Value) : Prop where
  sum : mg "sum" = none
  max : mg "max" = none
  min : mg "min" = none
  int : mg "int" = none
  range : mg "range" = none
  len : mg "len" = none
/-- all that was tracked stands, but at p -/
def SameX (p : Addr) (H H' : Hp) : Prop := ∀ b o, b ≠ p → H b = some o → H' b = some o
theorem SameX.refl (p : Addr) (H : Hp) : SameX p H H := fun _ _ _ h => h
theorem SameX.trans {p : Addr} {H H1 H2 : Hp} (a : SameX p H H1) (b : SameX p H1 H2) : SameX p H H2 := fun c o n h => b c o n (a c o n h)
theorem SameX.of {p : Addr} {H H' : Hp} (a : Same H H') : SameX p H H' := fun c o _ h => a c o h
theorem SameX.upd {p : Addr} {H : Hp} {o : HO} : SameX p H (upd H p o) := fun b u n h => by
  rw [upd_ne n]
  exact h
theorem SameX.new {p q : Addr} {H : Hp} {o : HO} (hq : H q = none) : SameX p H (L2.upd H q o) := fun b u _ h => by
  rw [upd_ne (ne_of_none h hq)]
  exact h
theorem same_new {q : Addr} {H : Hp} {o : HO} (hq : H q = none) : Same H (upd H q o) := fun b u h => by
  rw [upd_ne (ne_of_none h hq)]
  exact h
/-- a purse stands at p: c its second number, n draws are left -/
def PurseAt (H : Hp) (p : Addr) (c : Int) (n : Nat) : Prop := ∃ b t z : Int, H p = some (.lst [.int b, .int c, .int t, .int z]) ∧ 0 ≤ c ∧ c < 2147483629 ∧ 0 ≤ t ∧ t + (n : Int) ≤ 1000000 ∧ 0 ≤ z ∧ z ≤ 64
theorem PurseAt.same {H H' : Hp} {p : Addr} {c : Int} {n : Nat} (h : PurseAt H p c n) (s : Same H H') : PurseAt H' p c n := by
  obtain ⟨b, t, z, e, r⟩ := h
  exact ⟨b, t, z, s _ _ e, r⟩
theorem PurseAt.less {H : Hp} {p : Addr} {c : Int} {n m : Nat} (h : PurseAt H p c n) (l : m ≤ n) : PurseAt H p c m := by
  obtain ⟨b, t, z, e, h1, h2, h3, h4, r⟩ := h
  exact ⟨b, t, z, e, h1, h2, h3, by omega, r⟩
def spPurse (K : PySem.W.Frag) : Sp := fun vs H Q _ => ∃ (a : Addr) (ns : List Int) (i : Int), vs = [.ref a, .int i] ∧ SqL K H a (ns.map V.int) ∧ 0 ≤ i ∧ i ≤ 64 ∧
  ∀ (H' : Hp) (p : Addr) (c : Int), Same H H' → H p = none → PurseAt H' p c 1000000 → Q (.ref p) H'
def spMixed : Sp := fun vs H Q _ => ∃ s t z : Int, vs = [.int s, .int t, .int z] ∧ -(2 ^ 64) < s ∧ s < 2 ^ 64 ∧ -(2 ^ 64) < t ∧ t < 2 ^ 64 ∧ ∀ r : Int, 0 ≤ r → r < 2147483587 → Q (.int r) H
def spDraw : Sp := fun vs H Q _ => ∃ (p : Addr) (m c : Int) (n : Nat), vs = [.ref p, .int m] ∧ PurseAt H p c (n + 1) ∧ 1 ≤ m ∧ m < 1048576 ∧
  ∀ (H' : Hp) (r : Int), 0 ≤ r → r < m → SameX p H H' → PurseAt H' p c n → Q (.int r) H'
section
variable {P : Program} {w : World} {K : PySem.W.Frag} {mg : Str → Option Value} {base : Heap}
theorem op_powW {X : Cx} : OpR X (binaryOp .Pow) (rI (fun i j => i = 10 ^ 60 ∧ j = 8) fun i j => .int (i ^ j.toNat)) := opI fun i j _ _ _ _ _ hc q => by
  obtain ⟨rfl, rfl⟩ := hc
  exact PyProof.Rows.pow_int (by decide) (by decide +kernel) q
theorem cut_ints (ns : List Int) (lo hi : Option Int) : ∃ ms : List Int, cutV (ns.map V.int) lo hi = ms.map V.int := by
  exact ⟨_, by unfold cutV; rw [← List.map_drop, ← List.map_take]⟩
theorem ok_mixed {f : Addr} {fd : FuncData} (F : Fun K "_law_mixed" "_law_mixed" sMixed f fd) (T : Bt mg) : FnOk P w K mg base CX0 1 f fd ["_law_seed", "_law_turn", "_law_at"] spMixed := by
  refine F.ok scM (fun vs H Q E h => ?_) (fun cdv A outer s H vs Q E hr h => ?_)
  · obtain ⟨_, _, _, rfl, _⟩ := h
    rfl
  · obtain ⟨x, t, z, rfl, h1, h2, h3, h4, k⟩ := h
    refine ⟨_, pss_cons (ps_set (i := 3) scM.nd rfl (Or.inl rfl) (pe_op op_add (pe_op op_mul (pv 0) pe_int) (pe_op op_mul (pe_op op_mul pe_int (pv 1)) (pv 1))))
      (pss_cons (ps_set (i := 3) scM.nd rfl (Or.inl rfl) (pe_op op_mod (pe_callTy call_int1 (by rfl) T.int (by decide +kernel) (pa_cons (pe_op op_add (pe_op op_add (pv 3) (pe_op op_mul pe_int (pv 2))) (pv 1)) pa_nil)) pe_int))
      (pss_cons (ps_set (i := 3) scM.nd rfl (Or.inl rfl) (pe_op op_mod (pe_callTy call_int1 (by rfl) T.int (by decide +kernel) (pa_cons (pe_op op_add (pe_op op_mul (pv 3) (pv 3)) pe_int) pa_nil)) pe_int))
      (pss_one (ps_ret (pe_op op_mod (pe_callTy call_int1 (by rfl) T.int (by decide +kernel) (pa_cons (pe_op op_mul (pv 3) pe_int) pa_nil)) pe_int))))), ?_⟩
    refine ⟨_, rfl, _, _, rfl, rfl, .inl ⟨h1, h2⟩, _, rfl, _, _, rfl, rfl, .inl ⟨by decide, by decide⟩, _, rfl, _, _, rfl, rfl, .inr ⟨h3, h4⟩, _, _, rfl, rfl, ?_⟩
    refine ⟨_, rfl, _, rfl, _, _, rfl, rfl, .inl ⟨by decide, by decide⟩, _, _, rfl, rfl, _, rfl, _, _, rfl, rfl, .inl ⟨_, rfl, _, _, rfl, rfl, (by show (0 : Int) < 2147483647; decide), ?_⟩⟩
    have u0 : ∀ y : Int, 0 ≤ y % 2147483647 := fun y => Int.emod_nonneg _ (by decide)
    have u1 : ∀ y : Int, y % 2147483647 < 2147483647 := fun y => Int.emod_lt_of_pos _ (by decide)
    refine ⟨_, rfl, _, rfl, _, _, rfl, rfl, .inl ⟨?_, ?_⟩, _, _, rfl, rfl, .inl ⟨_, rfl, _, _, rfl, rfl, (by show (0 : Int) < 2147483629; decide), ?_⟩⟩
    · exact Int.lt_of_lt_of_le (by decide) (u0 _)
    · exact Int.lt_of_lt_of_le (u1 _) (by decide)
    · have v0 : ∀ y : Int, 0 ≤ y % 2147483629 := fun y => Int.emod_nonneg _ (by decide)
      have v1 : ∀ y : Int, y % 2147483629 < 2147483629 := fun y => Int.emod_lt_of_pos _ (by decide)
      refine ⟨_, rfl, _, _, rfl, rfl, .inl ⟨?_, ?_⟩, .inl ⟨_, rfl, _, _, rfl, rfl, (by show (0 : Int) < 2147483587; decide), ?_⟩⟩
      · exact Int.lt_of_lt_of_le (by decide) (v0 _)
      · exact Int.lt_of_lt_of_le (v1 _) (by decide)
      · exact k _ (Int.emod_nonneg _ (by decide)) (Int.emod_lt_of_pos _ (by decide))
theorem ok_purse {f : Addr} {fd : FuncData} (F : Fun K "_law_purse" "_law_purse" sPurse f fd) (T : Bt mg) : FnOk P w K mg base CX0 1 f fd ["_law_script", "_law_at"] (spPurse K) := by
  refine F.ok scP (fun vs H Q E h => ?_) (fun cdv A outer s H vs Q E hr h => ?_)
  · obtain ⟨_, _, _, rfl, _⟩ := h
    rfl
  · obtain ⟨a, ns, i, rfl, hS, h0, h1, k⟩ := h
    refine ⟨_, pss_cons (ps_set (i := 2) scP.nd rfl (Or.inl rfl) (pe_callB (cr_sum rfl) (by rfl) T.sum (by decide +kernel) (pa_cons (pe_slice sl_list (pv 0) (po_some (pv 1)) (po_some (pe_op op_add (pv 1) pe_int))) pa_nil)))
      (pss_one (ps_ret (pe_lst (pa_cons (pe_op op_mod (pe_callTy call_int1 (by rfl) T.int (by decide +kernel) (pa_cons (pe_callB (call_max2 rfl) (by rfl) T.max (by decide +kernel) (pa_cons (pe_op op_sub (pv 2) (pe_op op_pow pe_int pe_int)) (pa_cons pe_int pa_nil))) pa_nil))
            (pe_op op_powW (pe_op op_pow pe_int pe_int) pe_int))
          (pa_cons (pe_op op_mod (pe_callTy call_int1 (by rfl) T.int (by decide +kernel) (pa_cons (pv 2) pa_nil)) pe_int) (pa_cons pe_int (pa_cons (pv 1) pa_nil))))))), ?_⟩
    obtain ⟨ms, hms⟩ := cut_ints ns (some i) (some (i + 1))
    refine ⟨_, rfl, _, rfl, _, rfl, _, rfl, _, _, rfl, rfl, _, rfl, a, _, rfl, hS, fun p0 hp0 => ?_⟩
    refine ⟨p0, ms, rfl, SqL.of (by rw [upd_same, hms]), ?_⟩
    refine ⟨_, rfl, _, _, rfl, rfl, ⟨by decide, by decide, by decide⟩, _, _, rfl, rfl, _, _, rfl, .inl ⟨_, rfl, _, _, rfl, rfl, ⟨by decide, by decide, by decide⟩, _, _, rfl, rfl, ⟨by decide, by decide⟩, _, _, rfl, rfl, (by show (0 : Int) < _; decide +kernel), ?_⟩⟩
    refine ⟨_, rfl, .inl ⟨_, rfl, _, _, rfl, rfl, (by show (0 : Int) < 2147483629; decide), _, rfl, (by show 4 ≤ sizeLine; decide), fun p hp => ?_⟩⟩
    have np : H p = none := (same_new hp0).free hp
    exact k _ p _ ((same_new hp0).trans (same_new hp)) np ⟨_, _, _, upd_same, Int.emod_nonneg _ (by decide), Int.emod_lt_of_pos _ (by decide), by decide, by decide, h0, h1⟩
theorem ok_draw {f fM : Addr} {fd fdM : FuncData} (F : Fun K "_law_draw" "_law_draw" sDraw f fd) (T : Bt mg) (FM : Fun K "_law_mixed" "_law_mixed" sMixed fM fdM) (mM : mg "_law_mixed" = some (.ref fM)) (bM : Binds K fdM ["_law_seed", "_law_turn", "_law_at"] []) :
    FnOk P w K mg base CX0 2 f fd ["_law_purse_here", "_law_many"] spDraw := by
  have GM : FnOk P w K mg base CX0 1 fM fdM ["_law_seed", "_law_turn", "_law_at"] spMixed := ok_mixed FM T
  refine F.ok scD (fun vs H Q E h => ?_) (fun cdv A outer s H vs Q E hr h => ?_)
  · obtain ⟨_, _, _, _, rfl, _⟩ := h
    rfl
  · obtain ⟨p, m, c, n, rfl, ⟨b, t, z, hp, c0, c1, t0, t1, z0, z1⟩, m0, m1, k⟩ := h
    have hr1 : Room 1 _ := hr.mono (by decide)
    refine ⟨_, pss_cons (ps_if (pt_cmpR op_gt (pe_ix ix_list (pv 0) pe_int (fun _ _ => rfl)) pe_int (nomark _))
        (pss_cons (ps_set (i := 2) scD.nd rfl (Or.inl rfl) (pe_op op_mod (pe_callTy call_int1 (by rfl) T.int (by decide +kernel) (pa_cons (pe_ix ix_list (pv 0) pe_int (fun _ _ => rfl)) pa_nil)) (pv 1)))
        (pss_cons (ps_asg (pe_op op_fdiv (pe_ix ix_list (pv 0) pe_int (fun _ _ => rfl)) (pv 1)) (pg_sub (pv 0) pe_int set_list))
        (pss_one (ps_ret (pv 2))))) pss_nil)
      (pss_cons (ps_set (i := 3) scD.nd rfl (Or.inl rfl) pe_int)
      (pss_cons (ps_for PassesOwn.never rfl (pi_range1 rfl T.range (pa_cons (pe_op op_add pe_int (pe_op op_fdiv (pe_bits (pv 1)) pe_int)) pa_nil)) (pg_name (i := 4) scD.nd rfl (Or.inl rfl))
        (pss_cons (ps_asg (pe_op op_add (pe_ix ix_list (pv 0) pe_int (fun _ _ => rfl)) pe_int) (pg_sub (pv 0) pe_int set_list))
        (pss_one (ps_set (i := 3) scD.nd rfl (Or.inl rfl) (pe_op op_add (pe_op op_mul (pv 3) pe_int)
          (pe_call GM hr1 rfl mM FM.kp bM .nil pass0 (pa_cons (pe_ix ix_list (pv 0) pe_int (fun _ _ => rfl)) (pa_cons (pe_ix ix_list (pv 0) pe_int (fun _ _ => rfl)) (pa_cons (pe_ix ix_list (pv 0) pe_int (fun _ _ => rfl)) pa_nil)))))))))
      (pss_one (ps_ret (pe_op op_mod (pe_callTy call_int1 (by rfl) T.int (by decide +kernel) (pa_cons (pv 3) pa_nil)) (pv 1)))))), ?_⟩
    refine ⟨_, rfl, p, _, _, _, rfl, rfl, SqL.of hp, rfl, _, _, rfl, rfl, _, rfl, ?_⟩
    refine ite2 (fun _ => ?_) (fun _ => ?_)
    · refine ⟨_, rfl, p, _, _, _, rfl, rfl, SqL.of hp, rfl, .inl ⟨_, rfl, _, rfl, _, _, rfl, rfl, (by show (0 : Int) < m; omega), ?_⟩⟩
      refine ⟨_, rfl, p, _, _, _, rfl, rfl, SqL.of hp, rfl, _, rfl, _, _, rfl, rfl, ⟨by show (0 : Int) < m; omega, by show m < 1073741824; omega⟩, _, rfl, p, _, _, 0, rfl, rfl, hp, rfl, ?_⟩
      refine ⟨_, rfl, ?_⟩
      exact k _ _ (Int.emod_nonneg _ (by omega)) (Int.emod_lt_of_pos _ (by omega)) SameX.upd ⟨_, _, _, upd_same, c0, c1, t0, by omega, z0, z1⟩
    · have hb : Builtin.Int.intBits m ≤ 20 := PyProof.Rows.intBits_le (by omega)
      have e28 : (1 : Int) + ((Builtin.Int.intBits m : Nat) : Int) / 28 = 1 := by omega
      refine ⟨_, rfl, m, rfl, _, _, rfl, rfl, ⟨by decide, by decide⟩, _, _, rfl, rfl, 1, congrArg (fun q => [V.int q]) e28, by decide, by decide, ?_⟩
      refine for_range (lo := 0) (n := 1) (fun i σ H' => ∃ (f t' : Int) (v : Option V), σ = [some (.ref p), some (.int m), none, some (.int f), v] ∧ SameX p H H' ∧ H' p = some (.lst [.int b, .int c, .int t', .int z]) ∧ t' = t + (i : Int))
        ⟨0, t, none, rfl, SameX.refl _ _, hp, by simp⟩ ?_ ?_
      · rintro i σ H' hi ⟨f, t', v, rfl, sx, hp', et⟩
        refine ⟨_, rfl, p, _, _, _, rfl, rfl, SqL.of hp', rfl, _, _, rfl, rfl, _, rfl, p, _, _, 2, rfl, rfl, hp', rfl, ?_⟩
        have hp2 : (upd H' p (.lst [.int b, .int c, .int (t' + 1), .int z])) p = some (.lst [.int b, .int c, .int (t' + 1), .int z]) := upd_same
        refine ⟨_, rfl, _, _, rfl, rfl, .inr ⟨by decide, by decide⟩, _, rfl, p, _, _, _, rfl, rfl, SqL.of hp2, rfl, _, rfl, p, _, _, _, rfl, rfl, SqL.of hp2, rfl, _, rfl, p, _, _, _, rfl, rfl, SqL.of hp2, rfl, ?_⟩
        refine ⟨_, _, _, rfl, by omega, by omega, by omega, by omega, fun r r0 r1 => ?_⟩
        exact ⟨_, _, rfl, rfl, _, _, _, rfl, sx.trans SameX.upd, hp2, by omega⟩
      · rintro σ H' ⟨f, t', v, rfl, sx, hp', et⟩
        refine ⟨_, rfl, .inl ⟨_, rfl, _, rfl, _, _, rfl, rfl, (by show (0 : Int) < m; omega), ?_⟩⟩
        exact k _ _ (Int.emod_nonneg _ (by omega)) (Int.emod_lt_of_pos _ (by omega)) sx ⟨_, _, _, hp', c0, c1, by omega, by omega, z0, z1⟩
end
end K1

set_option Elab.async false
set_option linter.all false
set_option maxRecDepth 100000
set_option maxHeartbeats 4000000
namespace K1
open PySem L2
def spPurses (K : PySem.W.Frag) : Sp := fun vs H Q _ => ∃ (a : Addr) (ns : List Int) (few : Int), vs = [.ref a, .int few] ∧ SqL K H a (ns.map V.int) ∧ few ≤ 60 ∧
  ∀ (H' : Hp) (D : Addr) (ps : List Addr), Same H H' → H D = none → H' D = some (.lst (ps.map V.ref)) → ps.Nodup → (∀ p ∈ ps, H p = none ∧ ∃ c, PurseAt H' p c 1000000) → Q (.ref D) H'
def spOneOf : Sp := fun vs H Q _ => ∃ (p l : Addr) (xs : List V) (c : Int) (n : Nat), vs = [.ref p, .ref l] ∧ PurseAt H p c (n + 1) ∧ H l = some (.lst xs) ∧ l ≠ p ∧ 1 ≤ xs.length ∧ xs.length ≤ 1000 ∧
  ∀ (H' : Hp) (i : Nat) (x : V), xs[i]? = some x → SameX p H H' → PurseAt H' p c n → Q x H'
/-- a word: at most eight signs, none beyond 200 -/
def Small (x : Str) : Prop := x.length ≤ 8 ∧ ∀ c ∈ x.cps.toList, c < 200
def spWord : Sp := fun vs H Q _ => ∃ (p : Addr) (c : Int) (n : Nat), vs = [.ref p] ∧ PurseAt H p c (n + 10) ∧
  ∀ (H' : Hp) (x : Str), Small x → SameX p H H' → PurseAt H' p c n → Q (.str x) H'
theorem join_cps : ∀ cs : List Nat, (Str.join Str.empty (cs.map fun c => (⟨#[c]⟩ : Str))).cps.toList = cs
  | [] => rfl
  | [c] => rfl
  | c :: d :: r => by
    have h := join_cps (d :: r)
    show ((⟨#[c]⟩ : Str) ++ Str.empty ++ Str.join Str.empty ((d :: r).map fun c => (⟨#[c]⟩ : Str))).cps.toList = c :: d :: r
    have e : ∀ a b : Str, (a ++ b).cps.toList = a.cps.toList ++ b.cps.toList := fun a b => Array.toList_append
    rw [e, e, h]
    rfl
theorem letters {n : Nat} (h : n < 26) : ∃ c, ("abcdefghijklmnopqrstuvwxyz" : Str).cps.toList[n]? = some c ∧ c < 200 := by
  have all : ∀ n, n < 26 → ∃ c, ("abcdefghijklmnopqrstuvwxyz" : Str).cps.toList[n]? = some c ∧ c < 200 := by
    intro n h
    have q : ∀ n : Fin 26, (match ("abcdefghijklmnopqrstuvwxyz" : Str).cps.toList[n.val]? with | some c => decide (c < 200) | none => false) = true := by decide +kernel
    have z := q ⟨n, h⟩
    dsimp only at z
    split at z
    · exact ⟨_, by assumption, of_decide_eq_true z⟩
    · cases z
  exact all n h
section
variable {P : Program} {w : World} {K : PySem.W.Frag} {mg : Str → Option Value} {base : Heap}
theorem ok_purses {f fP : Addr} {fd fdP : FuncData} (F : Fun K "_law_purses" "_law_purses" sPurses f fd) (T : Bt mg) (FP : Fun K "_law_purse" "_law_purse" sPurse fP fdP) (mP : mg "_law_purse" = some (.ref fP)) (bP : Binds K fdP ["_law_script", "_law_at"] []) :
    FnOk P w K mg base CX0 2 f fd ["_law_script", "_law_few"] (spPurses K) := by
  have GP : FnOk P w K mg base CX0 1 fP fdP ["_law_script", "_law_at"] (spPurse K) := ok_purse FP T
  refine F.ok scPs (fun vs H Q E h => ?_) (fun cdv A outer s H vs Q E hr h => ?_)
  · obtain ⟨_, _, _, rfl, _⟩ := h
    rfl
  · obtain ⟨a, ns, few, rfl, hS, hf, k⟩ := h
    have hr1 : Room 1 _ := hr.mono (by decide)
    refine ⟨_, pss_one (ps_ret (pe_lc (own := [("_law_at", 2)]) (g := gName 2) (tt := tYes) rfl scPs.nd
      (pi_range1 rfl T.range (pa_cons (pe_callB (call_max2 rfl) (by rfl) T.max (by decide +kernel) (pa_cons pe_int (pa_cons (pe_callB (call_min2 rfl) (by rfl) T.min (by decide +kernel) (pa_cons (pv 1) (pa_cons (pe_callB call_len_seq (by rfl) T.len PySem.boot_len (pa_cons (pv 0) pa_nil)) pa_nil))) pa_nil))) pa_nil))
      (blkOk_by (N := ["_law_script", "_law_few", "_law_at"]) (sc := defScope sPurses) (by decide +kernel)) (fun _ _ _ _ _ => pg_name (i := 2) scPs.nd rfl (Or.inl rfl)) (fun _ _ _ _ _ => pts_nil)
      (fun _ _ _ _ _ => pe_call GP hr1 rfl mP FP.kp bP .nil pass0 (pa_cons (pv 0) (pa_cons (pv 2) pa_nil))))), ?_⟩
    refine ⟨_, rfl, _, rfl, a, _, rfl, .inl hS, _, _, rfl, _, _, rfl, ?_⟩
    generalize hN : (if (if ((ns.map V.int).length : Int) < few then ((ns.map V.int).length : Int) else few) > 1 then (if ((ns.map V.int).length : Int) < few then ((ns.map V.int).length : Int) else few) else (1 : Int)) = N
    have hN0 : 1 ≤ N ∧ N ≤ 60 := by
      rw [← hN]
      split <;> split <;> omega
    refine ⟨N, rfl, by omega, by omega, fun D hD => ?_⟩
    refine lc_range (lo := 0) (n := N.toNat) (fun i H' => ∃ ps : List Addr, H' D = some (.lst (ps.map V.ref)) ∧ ps.length = i ∧ Same H H' ∧ ps.Nodup ∧ (∀ p ∈ ps, H p = none ∧ ∃ c, PurseAt H' p c 1000000))
      ⟨[], upd_same, rfl, same_new hD, List.nodup_nil, fun _ h => nomatch h⟩ ?_ ?_
    · rintro i H' hi ⟨ps, hd, hl, s5, nd, hp⟩
      refine ⟨rfl, ?_⟩
      refine ⟨_, rfl, _, rfl, a, ns, _, rfl, s5.seq hS, by omega, by omega, fun H2 p c s2 hn pa => ?_⟩
      have hd2 := s2 _ _ hd
      have npD : p ≠ D := fun z => by
        rw [z, hd] at hn
        cases hn
      have hnp : p ∉ ps := fun hm => by
        obtain ⟨_, c', b', t', z', e, _⟩ := hp p hm
        rw [hn] at e
        cases e
      have sd : ∀ o, Same H (upd H2 D o) := fun o b u e => by
        have nb : b ≠ D := ne_of_none e hD
        rw [upd_ne nb]
        exact s2 _ _ (s5 _ _ e)
      refine ⟨_, hd2, by rw [List.length_map, hl, sizeLine_eq]; omega, ps ++ [p], ?_, by simp [hl], sd _, ?_, fun q hq => ?_⟩
      · rw [upd_same]
        simp
      · rw [List.nodup_append]
        refine ⟨nd, by simp, fun x hx y hy => ?_⟩
        have ey : y = p := by simpa using hy
        rw [ey]
        rintro rfl
        exact hnp hx
      · have keep : ∀ {q : Addr} {c : Int} {n : Nat}, q ≠ D → PurseAt H2 q c n → PurseAt (upd H2 D (.lst (ps.map V.ref ++ [V.ref p]))) q c n := fun {q c n} nq ⟨b, t, z, e, r⟩ => ⟨b, t, z, by rw [upd_ne nq]; exact e, r⟩
        rcases List.mem_append.mp hq with hq | hq
        · obtain ⟨h1, c', pc⟩ := hp q hq
          refine ⟨h1, c', keep (fun z => ?_) (pc.same s2)⟩
          obtain ⟨b', t', z', e, _⟩ := pc
          rw [z, hd] at e
          injection e with e
          injection e with e
          cases ps with
          | nil => cases hq
          | cons x xs => simp at e
        · have eq : q = p := by simpa using hq
          rw [eq]
          exact ⟨s5.free hn, c, keep npD pa⟩
    · rintro H' ⟨ps, hd, hl, s5, nd, hp⟩
      exact k H' D ps s5 hD hd nd hp
theorem ok_oneof {f fD : Addr} {fd fdD : FuncData} (F : Fun K "_law_one_of" "_law_one_of" sOneOf f fd) (T : Bt mg) (GD : FnOk P w K mg base CX0 2 fD fdD ["_law_purse_here", "_law_many"] spDraw) (mD : mg "_law_draw" = some (.ref fD)) (kD : PySem.W.keepIn K (.ref fD) = true) (bD : Binds K fdD ["_law_purse_here", "_law_many"] []) :
    FnOk P w K mg base CX0 3 f fd ["_law_purse_here", "_law_some"] spOneOf := by
  refine F.ok scO (fun vs H Q E h => ?_) (fun cdv A outer s H vs Q E hr h => ?_)
  · obtain ⟨_, _, _, _, _, rfl, _⟩ := h
    rfl
  · obtain ⟨p, l, xs, c, n, rfl, pa, hl, ne, l1, l2, k⟩ := h
    have hr2 : Room 2 _ := hr.mono (by decide)
    refine ⟨_, pss_one (ps_ret (pe_ix ix_list (pv 1) (pe_call GD hr2 rfl mD kD bD .nil pass0 (pa_cons (pv 0) (pa_cons (pe_callB call_len_seq (by rfl) T.len PySem.boot_len (pa_cons (pv 1) pa_nil)) pa_nil))) (fun _ _ => rfl))), ?_⟩
    refine ⟨_, rfl, _, rfl, _, rfl, l, _, rfl, .inl (SqL.of hl), p, _, c, n, rfl, pa, by omega, by omega, fun H' r r0 r1 sx pa' => ?_⟩
    obtain ⟨i, rfl⟩ : ∃ i : Nat, r = (i : Int) := ⟨r.toNat, by omega⟩
    have hi : i < xs.length := by omega
    exact ⟨l, xs, _, xs[i], rfl, rfl, SqL.of (sx _ _ ne hl), atI_nat (by simp [hi]), k H' i _ (by simp [hi]) sx pa'⟩
theorem ok_word {f fD : Addr} {fd fdD : FuncData} (F : Fun K "_law_word" "_law_word" sWord f fd) (T : Bt mg) (GD : FnOk P w K mg base CX0 2 fD fdD ["_law_purse_here", "_law_many"] spDraw) (mD : mg "_law_draw" = some (.ref fD)) (kD : PySem.W.keepIn K (.ref fD) = true) (bD : Binds K fdD ["_law_purse_here", "_law_many"] []) :
    FnOk P w K mg base CX0 3 f fd ["_law_purse_here"] spWord := by
  refine F.ok scW (fun vs H Q E h => ?_) (fun cdv A outer s H vs Q E hr h => ?_)
  · obtain ⟨_, _, _, rfl, _⟩ := h
    rfl
  · obtain ⟨p, c, n, rfl, pa, k⟩ := h
    have hr2 : Room 2 _ := hr.mono (by decide)
    refine ⟨_, pss_cons (ps_set (i := 1) scW.nd rfl (Or.inl rfl) (pe_op op_add pe_int (pe_call GD hr2 rfl mD kD bD .nil pass0 (pa_cons (pv 0) (pa_cons (pe_ifExp (pt_cmpR op_eq (pe_call GD hr2 rfl mD kD bD .nil pass0 (pa_cons (pv 0) (pa_cons pe_int pa_nil))) pe_int (nomark _)) pe_int pe_int) pa_nil)))))
      (pss_one (ps_ret (pe_join pe_str (pe_lc (own := [("_law_turn", 2)]) (g := gName 2) (tt := tYes) rfl scW.nd
      (pi_range1 rfl T.range (pa_cons (pv 1) pa_nil))
      (blkOk_by (N := ["_law_purse_here", "_law_size", "_law_turn"]) (sc := defScope sWord) (by decide +kernel)) (fun _ _ _ _ _ => pg_name (i := 2) scW.nd rfl (Or.inl rfl)) (fun _ _ _ _ _ => pts_nil)
      (fun _ _ _ _ _ => pe_ix ix_str pe_str (pe_call GD hr2 rfl mD kD bD .nil pass0 (pa_cons (pv 0) (pa_cons pe_int pa_nil))) (fun _ _ => rfl)))))), ?_⟩
    refine ⟨_, rfl, _, rfl, p, _, c, n + 9, rfl, pa, by omega, by omega, fun H1 r r0 r1 sx1 pa1 => ⟨rfl, _, rfl, ?_⟩⟩
    refine ite2 (fun _ => ?_) (fun _ => ?_)
    all_goals
      refine ⟨p, _, c, n + 8, rfl, pa1, by decide, by decide, fun H2 r r0 r1 sx2 pa2 => ?_⟩
      refine ⟨_, _, rfl, rfl, ?_⟩
      refine ⟨⟨_, rfl⟩, _, rfl, 1 + r, rfl, by omega, by omega, fun D hD => ?_⟩
      refine lc_range (lo := 0) (n := (1 + r).toNat) (fun i H' => ∃ cs : List Nat, H' D = some (.lst ((cs.map fun c => (⟨#[c]⟩ : Str)).map V.str)) ∧ cs.length = i ∧ SameX p H H' ∧ (∀ c ∈ cs, c < 200) ∧ PurseAt H' p c (n + (8 - i)))
        ⟨[], upd_same, rfl, (sx1.trans sx2).trans (SameX.new hD), (fun _ h => nomatch h), ?_⟩ ?_ ?_
      · obtain ⟨b, t, z, e, q⟩ := pa2
        exact ⟨b, t, z, by rw [upd_ne (ne_of_none e hD)]; exact e, q⟩
      · rintro i H' hi ⟨cs, hd, hl, s5, hc, pa3⟩
        refine ⟨rfl, ?_⟩
        have l8 : n + (8 - i) = n + (8 - (i + 1)) + 1 := by omega
        rw [l8] at pa3
        refine ⟨_, rfl, p, _, c, _, rfl, pa3, by decide, by decide, fun H3 u u0 u1 sx3 pa4 => ?_⟩
        obtain ⟨j, rfl⟩ : ∃ j : Nat, u = (j : Int) := ⟨u.toNat, by omega⟩
        obtain ⟨ch, hch, hlt⟩ := letters (n := j) (by omega)
        have nDp : D ≠ p := fun e => by
          obtain ⟨b, t, z, q, _⟩ := pa2
          rw [← e, hD] at q
          cases q
        refine ⟨_, _, ch, rfl, rfl, by decide, atI_nat hch, _, sx3 _ _ nDp hd, by simp only [List.length_map]; rw [hl, sizeLine_eq]; omega, cs ++ [ch], ?_, by simp [hl], ?_, ?_, ?_⟩
        · rw [upd_same]
          simp
        · intro b o nb e
          have nb2 : b ≠ D := fun q => by
            rw [q] at e
            have z := (sx1.trans sx2) _ _ nDp e
            rw [hD] at z
            cases z
          rw [upd_ne nb2]
          exact sx3 _ _ nb (s5 _ _ nb e)
        · intro x hx
          rcases List.mem_append.mp hx with hx | hx
          · exact hc x hx
          · have ex : x = ch := by simpa using hx
            rw [ex]
            exact hlt
        · obtain ⟨b, t, z, e, q⟩ := pa4
          exact ⟨b, t, z, by rw [upd_ne (Ne.symm nDp)]; exact e, q⟩
      · rintro H' ⟨cs, hd, hl, s5, hc, pa3⟩
        have hlen : cs.length ≤ 8 := by omega
        refine ⟨_, _, _, rfl, rfl, .inl (SqL.of hd), ?_, ?_⟩
        · have e1 : ∀ l : List Nat, ((l.map fun c => (⟨#[c]⟩ : Str)).map (·.length)).sum = l.length := by
            intro l
            induction l with
            | nil => rfl
            | cons x l ih =>
              rw [List.map_cons, List.map_cons, List.sum_cons, ih, List.length_cons]
              show 1 + l.length = _
              omega
          rw [e1]
          show cs.length + _ * 0 ≤ _
          omega
        · have ej : (Txt.join ("" : Str) (cs.map fun c => (⟨#[c]⟩ : Str))).cps.toList = cs := by
            show (Builtin.Str.glued ("" : Str) _).cps.toList = cs
            rw [StrLaws.glued_eq_join]
            exact join_cps cs
          refine k H' _ ⟨?_, ?_⟩ s5 (pa3.less (by omega))
          · show (Txt.join ("" : Str) (cs.map fun c => (⟨#[c]⟩ : Str))).cps.size ≤ 8
            rw [← Array.length_toList, ej]
            exact hlen
          · rw [ej]
            exact hc
end
end K1

set_option Elab.async false
set_option linter.all false
set_option maxRecDepth 100000
set_option maxHeartbeats 4000000
/-! an own error class (its base ValueError, its own __init__) is called with positional arguments and with keywords -/
namespace K1
open PySem
namespace Kw
open Builtin Builtin.ObjectAttr PySem.HandSPX
section
variable {M : Model} {A : Around} {E : Value → Shared → Prop} {hp : Heap} {gn : Array GenState} {dr : Drawn} {tk : Nat} {os : OsState}
variable {nm q : Str} {C N : Addr} {bs bm bmB : List Value} {hdct : Bool} {sn : List Str} {sub : List Value} {ab : Bool} {col : Option Bool} {dd : Option Addr} {k0 k1 k2 k3 k5 : Option Value} {B newId initId : String}
theorem born_ok (F : ExcBaseFacts B newId initId bmB) (hT : ∀ X : String, bm.contains (.type X) = bmB.contains (.type X)) {rest : List Value} {kw : List (Str × Value)} {Q : Unit → Shared → Prop}
    (lC : hp.get? C = some (excClassObj nm q C N bs bm hdct sn sub ab col dd k0 k1 k2 k3 k5 newId)) (z : Q () ⟨hp, gn, dr, tk, os⟩) : wpAny M A (checkBuiltinCall newId ⟨.ref C :: rest, kw⟩) Q E ⟨hp, gn, dr, tk, os⟩ := by
  have inB : (Value.ref C :: bm).contains (.type B) = true := by
    rw [List.contains_cons, hT, F.hasB, Bool.or_true]
  have st := F.noStar
  simp only [checkBuiltinCall, F.newKind, F.newSplit, F.newRow]
  repeat (first
    | refine wpAny_madeBy_exc lC ?_
    | refine wpAny_staticBase_exc lC ?_
    | refine wpAny_loadPart_at lC ?_
    | (refine wpAny_isSubtype_exc lC ?_; rw [inB])
    | simp only [bne_self_eq_false, Bool.false_eq_true, if_false]
    | wp_step)
  exact z
end
section
variable {prog : Program} {w : World} {A : Around} {E : Value → Shared → Prop} {R : Result → Shared → Prop} {hp : Heap} {gn : Array GenState} {dr : Drawn} {tk : Nat} {os : OsState}
variable {nm q : Str} {C N : Addr} {bs bm bmB : List Value} {hdct : Bool} {sn : List Str} {sub : List Value} {ab : Bool} {col : Option Bool} {dd : Option Addr} {k0 k1 k2 k3 k5 : Option Value} {B newId initId : String}
/-- the heap with the arguments' tuple and the bare exception -/
abbrev bornH (hp : Heap) (C : Addr) (rest : List Value) : Heap := (hp.push (W.kdv_tup rest)).push (excO C hp.objs.size)
theorem born_new (F : ExcBaseFacts B newId initId bmB) (hT : ∀ X : String, bm.contains (.type X) = bmB.contains (.type X)) {rest : List Value} {kw : List (Str × Value)}
    (lC : hp.get? C = some (excClassObj nm q C N bs bm hdct sn sub ab col dd k0 k1 k2 k3 k5 newId))
    (z : R (.ok (.ret (.ref (hp.objs.size + 1)))) ⟨bornH hp C rest, gn, dr, tk, os⟩) (short : rest.length ≤ sizeLine) : codeAny (model prog w) A (.builtin newId ⟨.ref C :: rest, kw⟩) R ⟨hp, gn, dr, tk, os⟩ := by
  have ends := F.ends
  have inB : (Value.ref C :: bm).contains (.type B) = true := by
    rw [List.contains_cons, hT, F.hasB, Bool.or_true]
  have inA : (Value.ref C :: bm).contains (.type "AttributeError") = false := by
    rw [List.contains_cons, hT, F.noAttr]
    rfl
  have inN : (Value.ref C :: bm).contains (.type "NameError") = false := by
    rw [List.contains_cons, hT, F.noName]
    rfl
  refine codeAny_builtinAt F.entry ?_
  unfold Builtin.«BaseException.__new__»
  refine wpAt_bind ?_
  show wpAt _ _ _ (stack >>= _) _ _ _
  refine wpAt_bind (wpAt_stack fun _ _ => wpAt_of_wpAny ?_)
  wp_walk
  refine wpAt_of_wpAny ?_
  rw [F.owner]
  repeat (first
    | with_reducible refine wpAny_loadPart_at lC ?_
    | with_reducible refine wpAny_madeHere_exc F.canon lC ?_
    | (with_reducible refine wpAny_isSubtype_exc lC ?_; first | rw [inN] | rw [inA] | rw [inB])
    | wp_step)
  show R _ _
  rw [Heap.size_push]
  exact z
theorem born_call (F : ExcBaseFacts B newId initId bmB) (hT : ∀ X : String, bm.contains (.type X) = bmB.contains (.type X)) {rest : List Value} {kw : List (Str × Value)} {fI : Addr} {Q : Fin → Shared → Prop}
    (lC : hp.get? C = some (excClassObj nm q C N bs bm hdct sn sub ab col dd k0 k1 k2 k3 k5 newId))
    (hi : W.Looks (model prog w) hp (typeLookup (.ref C) "__init__") (some (.ref fI))) (hb : ∀ self, W.Looks (model prog w) hp (bindSpecial (.ref fI) self) (.ref fI, [self])) (short : rest.length ≤ sizeLine)
    (z : codeAny (model prog w) A (.call (.ref fI) ⟨.ref (hp.objs.size + 1) :: rest, kw⟩)
      (fun r s' => match r with | .ok (.ret v) => v = .none ∧ Q (.done (.ret (.ref (hp.objs.size + 1)))) s' | .ok _ => False | .error e => E e s') ⟨bornH hp C rest, gn, dr, tk, os⟩) :
    wpAny (model prog w) A (Builtin.«type.__call__» ⟨.ref C :: rest, kw⟩) Q E ⟨hp, gn, dr, tk, os⟩ := by
  repeat (first
    | with_reducible refine wpAny_madeBy_exc lC ?_
    | with_reducible refine wpAny_loadPart_at lC ?_
    | wp_step)
  refine codeAny_call_builtin_code (Code.quiet_builtin _ F.quiet) (born_ok F hT lC ?_)
  refine born_new F hT lC ?_ short
  show wpAny _ _ _ _ _ _
  have old : ∀ b o, hp.get? b = some o → (bornH hp C rest).get? b = some o := fun _ _ e => Heap.get?_push_of_some _ (Heap.get?_push_of_some _ e)
  have lC' := old _ _ lC
  have there : (bornH hp C rest).get? (hp.objs.size + 1) = some (excO C hp.objs.size) := by heap_get
  have inC : (Value.ref C :: bm).contains (.ref C) = true := by simp
  have hi' := hi.keeps old
  have hb' := (hb (.ref (hp.objs.size + 1))).keeps old
  unfold isInstance
  repeat (first
    | with_reducible refine wpAny_loadPart_at there ?_
    | (with_reducible refine wpAny_isSubtype_exc lC' ?_; rw [inC])
    | wp_step)
  show wpAny _ _ (typeLookup (.ref C) _) _ _ _
  refine hi'.at ?_
  refine wpAny_holding (wpAny_bind (hb'.at ?_))
  refine wpAny_bind (wpAny_call (codeAny_mono z fun r s' y => ?_))
  cases r with
  | error e => exact y
  | ok fl =>
    cases fl with
    | ret v =>
      obtain ⟨rfl, y⟩ := y
      first
        | (wp_walk; exact y)
        | exact wpAny_pure (wpAny_pure y)
    | next => exact y.elim
    | brk => exact y.elim
    | cont => exact y.elim
theorem call_err (F : ExcBaseFacts B newId initId bmB) (hT : ∀ X : String, bm.contains (.type X) = bmB.contains (.type X)) {rest : List Value} {kw : List (Str × Value)} {fI : Addr}
    (lC : hp.get? C = some (excClassObj nm q C N bs bm hdct sn sub ab col dd k0 k1 k2 k3 k5 newId))
    (hi : W.Looks (model prog w) hp (typeLookup (.ref C) "__init__") (some (.ref fI))) (hb : ∀ self, W.Looks (model prog w) hp (bindSpecial (.ref fI) self) (.ref fI, [self])) (short : rest.length ≤ sizeLine)
    (z : codeAny (model prog w) (A.under (.builtin "type.__call__" ⟨.ref C :: rest, kw⟩)) (.call (.ref fI) ⟨.ref (hp.objs.size + 1) :: rest, kw⟩) (W.InitBack (hp.objs.size + 1) R) ⟨bornH hp C rest, gn, dr, tk, os⟩) :
    codeAny (model prog w) A (.call (.ref C) ⟨rest, kw⟩) R ⟨hp, gn, dr, tk, os⟩ := by
  have f1 := tc_lookup
  have f2 := tc_bind (.ref C)
  have isT : (⟨hp, gn, dr, tk, os⟩ : Shared).TypeIs (.ref C) "type" := ⟨_, lC, rfl⟩
  refine codeAny_of_tree ?_
  show wpAny _ _ (callAny (.ref C) _) _ _ _
  repeat (any_goals (first
    | assumption
    | with_reducible refine wpAny_loadPart_at lC ?_
    | wp_step))
  refine ⟨rfl, ?_⟩
  refine codeAny_call_builtin_at (Code.quiet_builtin _ (by decide +kernel)) entry_typeCall (wpAny_check_type_call_sub lC (born_call F hT lC hi hb short ?_))
  refine codeAny_mono z fun r s' y => ?_
  rcases r with e | (v | _ | _ | _) <;> exact y
end
end Kw
end K1

set_option Elab.async false
set_option linter.all false
set_option maxRecDepth 100000
set_option maxHeartbeats 4000000
namespace K1
open PySem PySem.Spec PyProof.Rows L2
/-- at e an error of the class at C, whose field is v -/
def ErrAt (H : Hp) (e C : Addr) (v : V) : Prop := ∃ d, H e = some (exo e C (some d)) ∧ H d = some (exd d [(("value" : Str), v)])
theorem ErrAt.same {H H' : Hp} {e C : Addr} {v : V} (h : ErrAt H e C v) (s : Same H H') : ErrAt H' e C v := by
  obtain ⟨d, h1, h2⟩ := h
  exact ⟨d, s _ _ h1, s _ _ h2⟩
structure ErrC (K : PySem.W.Frag) (C : Addr) : Prop where
  o : OexC K C
  c : ExcC K C
  no : PySem.W.findIn K (.ref C) "value" = some none
def iniB (q1 q2 q3 q4 : Pos) : List Stmt := [.Assign [.Attribute (.Name "self" q1) "value" q2] (.Name "value" q3) q4]
def iniS : Scope := { kind := .function, names := [(PySem.Str.ofString "self", .local), (PySem.Str.ofString "value", .local)], isGenerator := false, isCoroutine := false, more := [] }
def iniA (p1 p2 p3 : Pos) : Arguments := { posonlyargs := [], args := [{ arg := "self", annotation := none, pos := p1 }, { arg := "value", annotation := none, pos := p2 }], vararg := none, kwonlyargs := [], kw_defaults := [], kwarg := none, defaults := [.Constant .none 0 p3] }
/-- __init__(self, value): the error gets its dict -/
def spIni (K : PySem.W.Frag) : Sp := fun vs H Q _ => ∃ (e C : Addr) (v : V), vs = [.ref e, v] ∧ OexC K C ∧ PySem.W.findIn K (.ref C) "value" = some none ∧ H e = some (exo e C none) ∧
  ∀ d, H d = none → d ≠ e → Q .non (upd (upd H d (exd d [(("value" : Str), v)])) e (exo e C (some d)))
abbrev iniN : List Str := ["self", "value"]
section
variable {P : Program} {w : World} {K : PySem.W.Frag} {mg : Str → Option Value} {base : Heap}
theorem scI : FnScope iniN iniN iniS := ⟨rfl, rfl, rfl, by decide +kernel, rfl, by decide +kernel, by decide +kernel⟩
theorem ok_ini {q : Str} {p1 p2 p3 q1 q2 q3 q4 : Pos} {f : Addr} {fd : FuncData} (F : FunD K "__init__" q (iniA p1 p2 p3) (iniB q1 q2 q3 q4) iniS [.non] [] f fd) : FnOk P w K mg base CX0 1 f fd iniN (spIni K) := by
  refine F.ok scI (fun vs H Q E h => ?_) (fun cdv A outer s H vs Q E hr h => ?_)
  · obtain ⟨_, _, _, rfl, _⟩ := h
    rfl
  · obtain ⟨e, C, v, rfl, oC, nC, he, k⟩ := h
    refine ⟨_, pss_one (ps_ost (pv 0) (pv 1) rfl), ?_⟩
    exact ⟨_, rfl, _, rfl, e, C, rfl, oC, nC, .inl ⟨he, fun d nd ne => k d nd ne⟩⟩
/-- an error class of the text, its __init__ and how it is called -/
structure Err (P : Program) (w : World) (K : PySem.W.Frag) (mg : Str → Option Value) (base : Heap) (x : Str) (C : Addr) : Prop where
  c : ErrC K C
  g : mg x = some (.ref C)
  ini : ∃ (fI : Addr) (fdI : FuncData), PySem.W.findIn K (.ref C) "__init__" = some (some (.ref fI)) ∧ PySem.W.typeIn K (.ref fI) = some (.type "function") ∧ FnOk P w K mg base CX0 1 fI fdI iniN (spIni K) ∧
    Binds K fdI iniN [] ∧ Binds K fdI iniN [.none] ∧ ∀ (s : Shared) (a b : Value), K.In s.heap → BindsTo s fdI ⟨[a], [(("value" : Str), b)]⟩ (iniN.zip [a, b])
theorem err_of {x q : Str} {C f : Addr} {fd : FuncData} {p1 p2 p3 q1 q2 q3 q4 : Pos} (c : ErrC K C) (g : mg x = some (.ref C)) (iC : PySem.W.findIn K (.ref C) "__init__" = some (some (.ref f))) (tI : PySem.W.typeIn K (.ref f) = some (.type "function"))
    (F : FunD K "__init__" q (iniA p1 p2 p3) (iniB q1 q2 q3 q4) iniS [.non] [] f fd) : Err P w K mg base x C := by
  refine ⟨c, g, f, fd, iC, tI, ok_ini F, ?_, ?_, ?_⟩
  · obtain ⟨oc, od, dV, kV, doc, pm, an, cdv, ct, osl, rfl, lk, hcd, hD, hK⟩ := F.ex
    rcases hD with ⟨e, _⟩ | ⟨_, T, o, its, m, rfl, lT, oT, rT⟩
    · cases e
    · cases rT with
      | cons r1 r2 =>
        cases r2
        cases r1
        intro s us X hl
        match us, hl with
        | [a, b], _ => exact BindsTo.of_looks fun M => looks_items X lT oT (.of_pure rfl)
  · obtain ⟨oc, od, dV, kV, doc, pm, an, cdv, ct, osl, rfl, lk, hcd, hD, hK⟩ := F.ex
    rcases hD with ⟨e, _⟩ | ⟨_, T, o, its, m, rfl, lT, oT, rT⟩
    · cases e
    · cases rT with
      | cons r1 r2 =>
        cases r2
        cases r1
        intro s us X hl
        have l1 : us.length = 1 := by
          rw [List.length_append] at hl
          exact Nat.succ.inj hl
        match us, l1 with
        | [a], _ => exact BindsTo.of_looks fun M => looks_items X lT oT (.of_pure rfl)
  · obtain ⟨oc, od, dV, kV, doc, pm, an, cdv, ct, osl, rfl, lk, hcd, hD, hK⟩ := F.ex
    rcases hD with ⟨e, _⟩ | ⟨_, T, o, its, m, rfl, lT, oT, rT⟩
    · cases e
    · cases rT with
      | cons r1 r2 =>
        cases r2
        cases r1
        intro s a b X
        exact BindsTo.of_looks fun M => looks_items X lT oT (.of_pure rfl)
end
section
variable {X : Cx} {x : Str} {C : Addr}
/-- an error is made -/
theorem run_err {pins : List (Addr × Obj)} {σ : L2.St} {H : Hp} {s : Shared} {Q : VK} {us : List Value} {kw : List (Str × Value)} {v : V} {u : Value} (D : Err X.prog X.w X.K X.mg X.base x C) (hr : Room 2 X.A) (I : Inv X pins σ H s) (rv : RelV v u) (hus : us.length ≤ 1000)
    (hb : ∀ fd : FuncData, Binds X.K fd iniN [] → Binds X.K fd iniN [.none] → (∀ (s : Shared) (a b : Value), X.K.In s.heap → BindsTo s fd ⟨[a], [(("value" : Str), b)]⟩ (iniN.zip [a, b])) → ∀ (s : Shared) (a : Value), X.K.In s.heap → BindsTo s fd ⟨a :: us, kw⟩ (iniN.zip [a, u]))
    (h : ∀ (H' : Hp) (e : Addr), Same H H' → H e = none → ErrAt H' e C v → Q (.ref e) H') : wpAny (model X.prog X.w) X.A (call (.ref C) us kw) (EP X pins σ Q) X.xe s := by
  obtain ⟨fI, fdI, iC, tI, F1, b1, b2, b3⟩ := D.ini
  have T := D.c.o
  obtain ⟨nm, q, N, bs, bm, sn, sub, ab, col, dd, k0, k1, k2, k3, k5, hC, hbm⟩ := T.cls
  obtain ⟨hp, gn, dr, tk, os⟩ := s
  have le1 : hp.objs.size ≤ hp.objs.size + 1 := Nat.le_succ _
  have free : H (hp.objs.size + 1) = none := I.hok.fresh le1
  have old : ∀ b o, hp.get? b = some o → (Kw.bornH hp C us).get? b = some o := fun b o z => Heap.get?_push_of_some _ (Heap.get?_push_of_some _ z)
  have born : (Kw.bornH hp C us).get? (hp.objs.size + 1) = some (PySem.HandSPX.excO C hp.objs.size) := by heap_get
  have I2 : Inv X pins σ (upd H (hp.objs.size + 1) (exo (hp.objs.size + 1) C none)) ⟨Kw.bornH hp C us, gn, dr, tk, os⟩ := I.laid (t' := tk) (a := hp.objs.size + 1) (o := exo (hp.objs.size + 1) C none) (h' := Kw.bornH hp C us) old le1 (exo_ok born)
  have hq : spIni X.K [.ref (hp.objs.size + 1), v] (upd H (hp.objs.size + 1) (exo (hp.objs.size + 1) C none)) (fun y H2 => y = .non ∧ Q (.ref (hp.objs.size + 1)) H2) E0 := by
    refine ⟨_, C, v, rfl, T, D.c.no, upd_same, fun d nd ne => ⟨rfl, h _ _ (fun b o e => ?_) free ⟨d, upd_same, ?_⟩⟩⟩
    · have n1 : b ≠ hp.objs.size + 1 := ne_of_none e free
      have n2 : b ≠ d := fun z => by
        rw [← z, upd_ne n1, e] at nd
        cases nd
      rw [upd_ne n1, upd_ne n2, upd_ne n1]
      exact e
    · rw [upd_ne ne, upd_same]
  have short : us.length ≤ sizeLine := by
    rw [sizeLine_eq]
    omega
  have r2 : L2.Vals [V.ref (hp.objs.size + 1), v] [Value.ref (hp.objs.size + 1), u] := .cons rfl (.cons rv .nil)
  refine wpAny_call (Kw.call_err F.excBase_ValueError (fun Y => PySem.HandSPX.refsVE_contains Y bm hbm) (I.kIn _ _ hC) (PySem.W.looks_findIn I.kIn iC) (fun self => PySem.W.bind_fn I.kIn self tI) short
    (codeAny_mono (F1.run _ X.stack _ _ ⟨Value.ref (hp.objs.size + 1) :: us, kw⟩ [Value.ref (hp.objs.size + 1), u] _ _ E0 (hr.make C us kw) (I2.env0.make C us kw) (hb fdI b1 b2 b3 _ _ I2.kIn) r2 hq) fun r s' hq' => ?_))
  cases r with
  | error er => exact hq'.elim
  | ok fl =>
    cases fl with
    | ret y =>
      obtain ⟨y', H2, I3, ry, ey, q2⟩ := I2.after hq'
      subst ey
      exact ⟨ry, ⟨.ref (hp.objs.size + 1), H2, I3, rfl, q2⟩⟩
    | next => exact hq'.elim
    | brk => exact hq'.elim
    | cont => exact hq'.elim
def tMk (C : Addr) (ta : TA) : TE := fun σ H Q => ta σ H fun vs H1 => ∃ v, vs = [v] ∧ ∀ (H' : Hp) (e : Addr), Same H1 H' → H1 e = none → ErrAt H' e C v → Q (.ref e) H'
def tMk0 (C : Addr) : TE := fun _ H Q => ∀ (H' : Hp) (e : Addr), Same H H' → H e = none → ErrAt H' e C .non → Q (.ref e) H'
variable {p pos : Pos} {a : Expr} {es : List Expr} {ta : TA} {kws : List Keyword}
/-- C(a) -/
theorem pe_mk (D : Err X.prog X.w X.K X.mg X.base x C) (hr : Room 2 X.A) (hg : Gl X x) (ha : PA X [a] ta) (hdb : (x == ("__debug__" : Str)) = false := by decide)
    (he : starEach [a] X.env = (false, eval a X.env) :: starEach [] X.env := by rfl) (hpl : (backTo pos (starEach [] X.env)).any (·.1) = false := by rfl) : PE X (.Call (.Name x p) [a] [] pos) (tMk C ta) := by
  refine ⟨fun pins s σ H Q I h => wpAny_Call_Name_kw (ld_glob I hg D.g ?_ hdb)⟩
  refine PySem.W.callWith_K (h₀ := X.base) I.ok.mod.kin D.c.o.kC (thn (ha.run pos pins s σ H _ I h) fun us s1 ⟨vs, H1, I1, r1, v, ev, q⟩ => ⟨I1.kIn, ?_⟩) he hpl
  subst ev
  cases r1 with
  | @cons _ u0 _ ur rv rn =>
    cases rn
    exact run_err (kw := []) D hr I1 rv (by show 1 ≤ 1000; decide) (fun fd b1 _ _ s a K => b1 s [a, u0] K rfl) q
/-- C() -/
theorem pe_mk0 (D : Err X.prog X.w X.K X.mg X.base x C) (hr : Room 2 X.A) (hg : Gl X x) (hdb : (x == ("__debug__" : Str)) = false := by decide) : PE X (.Call (.Name x p) [] [] pos) (tMk0 C) := by
  refine ⟨fun pins s σ H Q I h => wpAny_Call_Name_kw (ld_glob I hg D.g ?_ hdb)⟩
  exact PySem.W.callWith_K0 I.kIn D.c.o.kC (run_err (us := []) (kw := []) (v := .non) (u := .none) D hr I rfl (by decide) (fun fd _ b2 _ s a K => b2 s [a] K rfl) h)
/-- C(value=a) -/
theorem pe_mkK (D : Err X.prog X.w X.K X.mg X.base x C) (hr : Room 2 X.A) (hg : Gl X x) (hkw : PK X kws ta) (hall : (backToKw pos (keywordEach kws X.env)).all (·.1.isSome) = true := by rfl)
    (hks : (backToKw pos (keywordEach kws X.env)).filterMap (·.1) = [("value" : Str)] := by rfl) (hdb : (x == ("__debug__" : Str)) = false := by decide)
    (hpl : ((backTo pos (starEach [] X.env)).any (·.1) || (backToKw pos (keywordEach kws X.env)).any (·.1.isNone)) = false := by rfl) : PE X (.Call (.Name x p) [] kws pos) (tMk C ta) := by
  refine ⟨fun pins s σ H Q I h => wpAny_Call_Name_kw (ld_glob I hg D.g ?_ hdb)⟩
  refine PySem.W.callWith_KW0 (h₀ := X.base) I.ok.mod.kin D.c.o.kC hall ?_ hpl
  refine thn (hkw.run pos pins s σ H _ I h) fun us s1 ⟨vs, H1, I1, r1, v, ev, q⟩ => ⟨I1.kIn, ?_⟩
  subst ev
  cases r1 with
  | @cons _ u0 _ ur rv rn =>
    cases rn
    rw [hks]
    exact run_err (us := []) (kw := [("value", u0)]) D hr I1 rv (by decide) (fun fd _ _ b3 s a K => b3 s a u0 K) q
end
end K1

set_option Elab.async false
set_option linter.all false
set_option maxRecDepth 100000
set_option maxHeartbeats 4000000
namespace K1
open PySem PySem.Spec PyProof.Rows L2
/-! ### repr of plain things and of one dict of such -/
def keyD : Key → PyData
  | .inl i => .int i
  | .inr x => .str x
inductive Sh (K : PySem.W.Frag) (H : Hp) : V → PyData → Prop where
  | dp {x : V} {d : PyData} : Dp K H x d → d.hasDict = false → Sh K H x d
  | dict {a : Addr} {kvs : List (Key × V)} {ds : List PyData} : H a = some (.dK kvs) → DpAll K H (kvs.map (·.2)) ds → PyData.hasDictAll ds = false → Sh K H (.ref a) (.dict ((kvs.map fun p => keyD p.1).zip ds))
structure Nice (d : PyData) : Prop where
  short : d.leavesShort 13 = true
  bulk : d.bulk ≤ 2 ^ 20
  show_ : d.showable = true
  deep : d.depth ≤ 8
theorem Nice.size {d : PyData} (n : Nice d) : d.shown.length ≤ sizeLine := PyData.shown_fits_bulk (by decide) (by decide) n.short n.bulk
section
variable {X : Cx} {pins : List (Addr × Obj)} {σ : L2.St} {H : Hp} {s : Shared}
theorem DpAll.len {K : PySem.W.Frag} {H : Hp} : ∀ {vs : List V} {ds : List PyData}, DpAll K H vs ds → vs.length = ds.length
  | _, _, .nil => rfl
  | _, _, .cons _ t => congrArg Nat.succ (DpAll.len t)
theorem keys_read {P : Program} {w : World} {h : Heap} : ∀ {es : List DictEntry} {vs : List (Key × Value)} {kvs : List (Key × V)}, Pairs (mixKind P w) es vs → KV kvs vs → ∃ as, ReadsAll h (es.map (·.key)) (kvs.map fun p => keyD p.1) as
  | [], _, _, .nil, .nil => ⟨_, ReadsAll.nil⟩
  | e :: es, (k, v) :: vs, (k', v') :: kvs, .cons h1 h2 t, .cons r rt => by
    obtain ⟨as, q⟩ := keys_read (h := h) t rt
    have ek : k' = k := r.1
    subst ek
    have z : keyIs k' e.key = true := h1
    rcases keyIs_shape z with ⟨i, u, rfl, eu⟩ | ⟨y, u, rfl, eu⟩
    · exact ⟨_, ReadsAll.cons (d := .int i) (by show Reads h e.key _ _; rw [eu]; exact Reads.int i u) q⟩
    · exact ⟨_, ReadsAll.cons (d := .str y) (by show Reads h e.key _ _; rw [eu]; exact Reads.str y u) q⟩
theorem vals_pairs {P : Program} {w : World} : ∀ {es : List DictEntry} {vs : List (Key × Value)}, Pairs (mixKind P w) es vs → es.map (·.val) = vs.map (·.2)
  | [], _, .nil => rfl
  | e :: es, (k, v) :: vs, .cons _ h2 t => by
    rw [List.map_cons, List.map_cons, vals_pairs t]
    exact congrArg (· :: _) h2
theorem vals_kv : ∀ {kvs : List (Key × V)} {vs : List (Key × Value)}, KV kvs vs → L2.Vals (kvs.map (·.2)) (vs.map (·.2))
  | _, _, .nil => .nil
  | _, _, .cons r t => .cons r.2 (vals_kv t)
theorem keys_flat (kvs : List (Key × V)) : PyData.hasDictAll (kvs.map fun p => keyD p.1) = false := by
  induction kvs with
  | nil => rfl
  | cons p r ih =>
    obtain ⟨k, v⟩ := p
    cases k <;> exact ih
def rRepr (K : PySem.W.Frag) : List V → Hp → VK → Prop := fun xs H Q => ∃ (x : V) (d : PyData), xs = [x] ∧ Sh K H x d ∧ Nice d ∧ Q (.str d.shown) H
theorem call_repr (hg : X.A.guards = some []) (hu : X.A.units + 64 < cLine) : CallR X (.builtin "repr") (rRepr X.K) := by
  intro pins s σ H xs us Q I r h
  obtain ⟨x, d, rfl, sh, n, q⟩ := h
  obtain ⟨u, rfl, rx⟩ := vals1 r
  have dp := n.deep
  cases sh with
  | dp hd nd =>
    cases hd with
    | non =>
      cases (show u = Value.none from rx)
      simp only [PyData.shown] at q
      exact PySem.P.repr_of_none ⟨.str _, H, I.tok _, ⟨_, rfl⟩, q⟩
    | bl b =>
      cases (show u = Value.bool b from rx)
      simp only [PyData.shown] at q
      exact PySem.P.repr_of_bool ⟨.str _, H, I.tok _, ⟨_, rfl⟩, q⟩
    | int i =>
      obtain ⟨t, rfl⟩ := rx
      simp only [PyData.shown] at q
      exact PySem.P.repr_of_int (by simpa [PyData.showable] using n.show_) ⟨.str _, H, I.tok _, ⟨_, rfl⟩, q⟩
    | str y =>
      obtain ⟨t, rfl⟩ := rx
      have z := n.size
      simp only [PyData.shown] at q z
      exact PySem.P.repr_of_str ⟨.str _, H, I.tok _, ⟨_, rfl⟩, q⟩ z
    | lst hs ha =>
      obtain ⟨as, rd⟩ := Dp.reads I _ _ u (Dp.lst hs ha) rx
      cases (show u = _ from rx)
      exact repr_of_reads' rd n.show_ (PyData.noDict_hsm nd) hg (by omega) (fun _ _ e => e) (fun h' t tk k => ⟨.str _, H, I.kept k, ⟨_, rfl⟩, q⟩) n.size
    | tup hs ha =>
      obtain ⟨as, rd⟩ := Dp.reads I _ _ u (Dp.tup hs ha) rx
      cases (show u = _ from rx)
      exact repr_of_reads' rd n.show_ (PyData.noDict_hsm nd) hg (by omega) (fun _ _ e => e) (fun h' t tk k => ⟨.str _, H, I.kept k, ⟨_, rfl⟩, q⟩) n.size
  | @dict a kvs ds ha hd nd =>
    cases (show u = _ from rx)
    obtain ⟨_, hsys, vs, rel, o, es, ep, h1, h2, h3, h4, h5, h6⟩ := dk_of I.hok ha
    obtain ⟨as1, rk⟩ := keys_read (h := s.heap) h5 rel
    obtain ⟨bs1, rv⟩ := Dp.readsAll I ds _ _ hd (vals_kv rel)
    rw [← vals_pairs h5] at rv
    have hl := DpAll.len hd
    have f1 : ((kvs.map fun p => keyD p.1).zip ds).map (·.1) = kvs.map fun p => keyD p.1 := by
      rw [List.map_fst_zip]
      rw [List.length_map] at hl ⊢
      omega
    have f2 : ((kvs.map fun p => keyD p.1).zip ds).map (·.2) = ds := by
      rw [List.map_snd_zip]
      rw [List.length_map] at hl ⊢
      omega
    have rd : Reads s.heap (.ref a) (.dict ((kvs.map fun p => keyD p.1).zip ds)) (a :: as1 ++ bs1) := Reads.dict h1 h2.1 h3 (by rw [f1]; exact rk) (by rw [f2]; exact rv)
    generalize hz : (kvs.map fun p => keyD p.1).zip ds = zs at *
    have hsz := n.size
    have hsw := n.show_
    rw [PyData.shown] at hsz q
    obtain ⟨s1, s2⟩ := PyData.showableKv_split zs (by simpa [PyData.showable] using hsw)
    rw [f1] at s1
    rw [f2] at s2
    obtain ⟨b1, hb1, k1⟩ := ReprAllK.of_readsAll (prog := X.prog) (w := X.w) rk s1 (fun z => by rw [keys_flat] at z; cases z) (fun t ht => by
      obtain ⟨p, hp, hle⟩ := PyData.shownKv_key_le zs t (by rw [f1]; exact ht)
      exact Nat.le_trans hle (Nat.le_trans (dictText_mem_le hp) hsz))
    obtain ⟨b2, hb2, k2⟩ := ReprAllK.of_readsAll (prog := X.prog) (w := X.w) rv s2 (fun z => by rw [nd] at z; cases z) (fun t ht => by
      obtain ⟨p, hp, hle⟩ := PyData.shownKv_val_le zs t (by rw [f2]; exact ht)
      exact Nat.le_trans hle (Nat.le_trans (dictText_mem_le hp) hsz))
    have d1 : PyData.depthAll (kvs.map fun p => keyD p.1) ≤ PyData.depthKv zs := by
      rw [← f1]
      exact PyData.depthAll_keys_le zs
    have d2 : PyData.depthAll ds ≤ PyData.depthKv zs := by
      rw [← f2]
      exact PyData.depthAll_vals_le zs
    have hb : ReadAtMost s.heap (PyData.depthKv zs) (b1 ++ b2) := (hb1.mono d1).append (hb2.mono d2)
    have apart : a ∉ b1 ++ b2 := not_mem_of_deeper rd (by simp only [PyData.depth]; omega) hb
    have sameT : PyData.shownKv zs = List.zipWith (fun k v : Str => k ++ ": " ++ v) (PyData.shownAll (kvs.map fun p => keyD p.1)) (PyData.shownAll ds) := by
      rw [PyData.shownKv_eq, f1, f2]
    have E := ReprEntriesK.of_two es.toList _ _ (k1.more_le (fun b hb => List.mem_append_left _ hb) d1) (k2.more_le (fun b hb => List.mem_append_right _ hb) d2)
    rw [← sameT] at E
    have dep : PyData.depthKv zs + 1 ≤ 8 := by simpa [PyData.depth] using dp
    refine call_repr_slot (by omega) ⟨o, h1, h2.1⟩ F.slot_dict_repr ?_
    exact call_dict_reprK h1 h2.1 h3 hsys apart E hg (fun b _ => Clear.nil b) (by show X.A.units + 1 + _ < cLine; omega) (fun _ _ e => e) (fun h' t tk k => ⟨_, _, rfl, .str _, H, I.kept k, ⟨_, rfl⟩, q⟩) hsz
end
end K1

set_option Elab.async false
set_option linter.all false
set_option maxRecDepth 100000
set_option maxHeartbeats 4000000
namespace K1
open PySem PySem.Spec PySem.Calls PyProof.Rows L2
section
open PySem.W
variable {prog : Program} {w : World} {A : Around} {E : Value → Shared → Prop} {s : Shared} {K : Frag} {x D : Addr} {ox : Obj} {od : Option Obj}
theorem cls_attr {Q : Option Value → Shared → Prop} (c : ExcC K D) (X : K.In s.heap) (I : InstAt s.heap x ox D od) (h : Q (some (.ref D)) { s with toks := s.toks + 1 }) : wpAny (model prog w) A (getAttr? (.ref x) "__class__") Q E s := by
  have known : (clsIn K D).isSome = true := by
    obtain ⟨cd, e, _⟩ := any_some c.hd
    rw [e]
    rfl
  have found : findObj K D od "__class__" = some (.bind (.builtin "getset_descriptor.__get__") (.builtin "object.__class__")) := by
    cases od with
    | none => exact findObj_dataN known c.ha c.hn c.ht
    | some o => exact findObj_data known c.ha c.hn c.ht
  obtain ⟨hp, gn, dr, tk, os⟩ := s
  have T0 := I.type (M := model prog w)
  have T1 := looks_findIn (M := model prog w) X c.hg
  have T2 := looks_findIn (M := model prog w) X c.hk
  have T3 := looks_find (M := model prog w) X I found
  have below : Looks (model prog w) hp (isInstance (.ref x) (.type "BaseException")) true := T0.andThen (looks_subIn X c.hs)
  have n2 : (Value.builtin "BaseException.__getattribute__" == Value.builtin "object.__getattribute__") = false := by decide +kernel
  have n1 : (onTheHeap (Value.ref D) && Value.builtin "BaseException.__getattribute__" == Value.builtin "object.__getattribute__") = false := by
    rw [n2]
    rfl
  unfold getAttr? getAttrBy? getAttrBy
  refine wpAny_bind (wpAny_mkText (wpAny_bind (wpAny_attempt (wpAny_holding (wpAny_bind (T0.at (wpAny_bind (T1.at ?_))))))))
  show wpAny _ _ (if (onTheHeap (Value.ref D) && Value.builtin "BaseException.__getattribute__" == Value.builtin "object.__getattribute__") = true then _ else _) _ _ _
  rw [n1, if_neg Bool.false_ne_true]
  unfold getAttrByItsOwn hookBefore
  refine wpAny_bind ?_
  rw [if_pos (show onTheHeap (Value.ref D) = true from rfl)]
  refine T2.at ?_
  refine wpAny_bind (wpAny_attempt (wpAny_holding ?_))
  unfold callGetattribute
  rw [(show (false && onTheHeap (Value.builtin "BaseException.__getattribute__")) = false from rfl), if_neg Bool.false_ne_true]
  unfold boundAndCalled
  rw [PySem.F.excAttr_ValueError.ga.bind (.ref x)]
  refine wpAny_bind (wpAny_pure ?_)
  show wpAny _ _ (call (.builtin "BaseException.__getattribute__") [.ref x, .str "__class__" tk]) _ _ _
  refine wpAny_call (codeAny_call_builtin PySem.F.excAttr_ValueError.ga.plain PySem.F.entry_bexc_ga ?_)
  refine @check_slot (model prog w) _ _ ⟨hp, gn, dr, tk + 1, os⟩ "BaseException.__getattribute__" "BaseException" "__getattribute__" (.ref x) [.str "__class__" tk] [] _ (by decide +kernel) (by decide +kernel) below (PySem.F.args_bexc_ga (.ref x) (.str "__class__" tk)) ?_
  unfold Builtin.«object.__getattribute__»
  refine wpAny_bind (wpAny_of_eq (a := ((Value.ref x : Value), [Value.str "__class__" tk])) (by first | (simp only [slotArgs]; rfl) | rfl) ?_)
  refine wpAny_bind (wpAny_pure (wpAny_bind (T0.at (wpAny_bind (T3.at ?_)))))
  show wpAny _ _ (holding [Value.builtin "object.__class__"] (call (.builtin "getset_descriptor.__get__") [.builtin "object.__class__", .ref x, .ref D]) >>= ret) _ _ _
  refine wpAny_bind (wpAny_holding (wpAny_call (class_get (s := ⟨hp, gn, dr, tk + 1, os⟩) (ox := ox) (od := od) X I c.hm ?_)))
  refine wpAny_pure ?_
  show wpAny _ _ (handedOut (.ref D)) _ _ _
  rw [handedOut_of (v := .ref D) rfl]
  first
    | exact wpAny_pure h
    | exact wpAny_pure (wpAny_pure h)
    | exact wpAny_pure (wpAny_bind (wpAny_pure (wpAny_pure h)))
theorem kit_err (c : ExcC K D) : KitX K (.ref x) (.ref D) (fun h => InstAt h x ox D od) where
  ty := fun _ _ _ I => I.type
  it := fun _ _ X _ => by
    obtain ⟨cd, e, _⟩ := any_some c.hd
    unfold clsIn at e
    split at e
    · rename_i ho
      intro A' Q' E' s' k q
      unfold isType loadHead
      exact wpAny_bind (wpAny_loadPart (k _ _ (X _ _ ho)) (wpAny_pure q))
    · cases e
  ne := fun h tp dd its n sl X htp => by
    obtain ⟨cd, e, _⟩ := any_some c.hd
    refine Bool.eq_false_iff.mpr fun q => ?_
    obtain rfl : D = tp := Value.ref.inj (beq_iff_eq.mp q)
    unfold clsIn at e
    split at e
    · rename_i ho
      cases (X _ _ ho).symm.trans htp
    · cases e
  ca := fun X I k => cls_attr c X I k
end
/-- an error that was made, with its field, or one of a class without a field -/
inductive IsE (H : Hp) (a D : Addr) : Prop where
  | val {v : V} : ErrAt H a D v → IsE H a D
  | bare : H a = some (ExO (.ref D) a) → IsE H a D
section
variable {X : Cx} {pins : List (Addr × Obj)} {σ : L2.St} {H : Hp} {s : Shared}
theorem isE_at {a D : Addr} (I : Inv X pins σ H s) (h : IsE H a D) : ∃ ox od, PySem.W.InstAt s.heap a ox D od := by
  cases h with
  | val h =>
    obtain ⟨d, h1, h2⟩ := h
    obtain ⟨t1, ha⟩ := exo_at I.hok h1
    obtain ⟨mA, hns, rel⟩ := exd_at I.hok h2
    obtain ⟨od, ho, _⟩ := lookIn_ns hns
    exact ⟨_, some od, ⟨ha, rfl, rfl, ho⟩⟩
  | bare h =>
    obtain ⟨⟨oe, vs, e, ⟨h1, h2⟩, hd, _⟩, _, _⟩ := I.hok a _ h
    obtain ⟨oc, od, oda, osl⟩ := oe
    dsimp only at h1 h2 hd
    subst h1 h2 hd
    exact ⟨_, none, ⟨e, rfl, rfl, trivial⟩⟩
def rIsErr (K : PySem.W.Frag) : List V → Hp → VK → Prop := fun xs H Q => ∃ (a D : Addr) (c : V) (cv : Value) (b : Bool), xs = [.ref a, c] ∧ ClsV c cv ∧ ExcC K D ∧ IsE H a D ∧ PySem.W.kitOne K (.ref D) cv = some b ∧ Q (.bl b) H
theorem call_isErr : CallR X (.builtin "isinstance") (rIsErr X.K) := by
  intro pins s σ H xs us Q I r h
  obtain ⟨a, D, c, cv, b, rfl, k, cD, hE, e, q⟩ := h
  obtain ⟨u1, u2, rfl, r1, r2⟩ := vals2 r
  cases (show u1 = Value.ref a from r1)
  have e2 := k.eq r2
  subst e2
  obtain ⟨ox, od, J⟩ := isE_at I hE
  exact PySem.W.kia_one (kit_err cD) I.kIn J e (fun z => nomatch z) fun tk => ⟨.bl b, H, I.tok tk, rfl, q⟩
/-- e.value -/
def tEv (K : PySem.W.Frag) (te : TE) : TE := fun σ H Q => te σ H fun x H1 => ∃ (a C : Addr) (v : V), x = .ref a ∧ ErrC K C ∧ ErrAt H1 a C v ∧ Q v H1
theorem pe_ev {e : Expr} {te : TE} {pos : Pos} (he : PE X e te) (hb : attributeBase e "value" X.env (eval e X.env) = eval e X.env := by rfl) : PE X (.Attribute e "value" pos) (tEv X.K te) := by
  refine ⟨fun pins s σ H Q I h => attr_of hb (thn (he.run pins s σ H _ I h) fun u s1 hh => ?_)⟩
  obtain ⟨x, H1, I1, rx, a, C, v, ex, c, ⟨d, h1, h2⟩, q⟩ := hh
  subst ex
  cases (show u = Value.ref a from rx)
  obtain ⟨t1, ha⟩ := exo_at I1.hok h1
  obtain ⟨mA, hns, rel⟩ := exd_at I1.hok h2
  obtain ⟨od, ho, hl⟩ := lookIn_ns hns
  obtain ⟨u', hu, ru⟩ := RelO.some_of (v := v) (o := mA "value") (by
    have z := rel "value"
    rw [lookup_put, if_pos rfl] at z
    exact z)
  have J : PySem.W.InstAt s1.heap a _ C (some od) := ⟨ha, rfl, rfl, ho⟩
  exact HandSPX.exc_get I1.kIn J c.c.hg c.c.hk c.c.hs (PySem.W.findObj_own c.c.hd c.no rfl (by rw [hl, hu])) (handed_of ru) ⟨v, H1, I1.tok _, ru, q⟩
/-- C(), C an own error class without an __init__ of its own -/
theorem pe_bare {C : Addr} {bmB : List Value} {B newId initId : String} {x : Str} {p pos : Pos} (F : ExcBaseFacts B newId initId bmB) (q : PySem.W.excIn X.K C bmB newId = true) (gC : X.mg x = some (.ref C)) (kC : PySem.W.keepIn X.K (.ref C) = true) (hg : Gl X x)
    (hdb : (x == ("__debug__" : Str)) = false := by decide) : PE X (.Call (.Name x p) [] [] pos) (fun _ H Q => ∀ a, H a = none → Q (.ref a) (upd H a (ExO (.ref C) a))) := by
  refine ⟨fun pins s σ H Q I h => wpAny_Call_Name_kw (ld_glob I hg gC ?_ hdb)⟩
  refine PySem.W.callWith_K0 I.kIn kC ?_
  obtain ⟨bm, N, nm, qn, bs, hdct, sn, sub, ab, col, dd, k0, k1, k2, k3, k5, mN, hC, hN, hni, T⟩ := exc_obj I.kIn q
  refine wpAny_call_exc_subT F T hC hN hni (fun h' a hm => ?_) (Nat.zero_le _)
  have hn : H a = none := I.hok.gone hm.new
  obtain ⟨t, ht, _, _⟩ := hm.there
  exact ⟨.ref a, upd H a (ExO (.ref C) a), I.laidN hm.keeps hm.new hn (exO_ok ht ⟨rfl, rfl⟩ rfl rfl rfl (show 4 < 6 by decide)), rfl, h a hn⟩
end
/-! ### a def that shows things (repr): called while nothing else is being shown -/
structure Calm (P : Program) (w : World) (K : PySem.W.Frag) (mg : Str → Option Value) (base : Heap) (k : Nat) (f : Addr) (fd : FuncData) (ps : List Str) (sp : Sp) : Prop where
  len : ∀ vs H Q E, sp vs H Q E → vs.length = ps.length
  run : ∀ (A : Around) (outer : List Env) (s : Shared) (H : Hp) (args : Args) (us : List Value) (vs : List V) (Q : VK) (E : XK), A.guards = some [] → Room k A → Env0 P w K mg base A outer s H → BindsTo s fd args (ps.zip us) → L2.Vals vs us → sp vs H Q E →
    codeAny (model P w) A (.call (.ref f) args) (CR CX0 outer P w H s Q E) s
theorem calm_of {P : Program} {w : World} {K : PySem.W.Frag} {mg : Str → Option Value} {base : Heap} {k : Nat} {f : Addr} {fd : FuncData} {x qual : Str} {st : Stmt} {N ps : List Str} {sp : Sp} (F : Fun K x qual st f fd) (S : FnScope N ps (defScope st))
    (len : ∀ vs H Q E, sp vs H Q E → vs.length = ps.length)
    (hbody : ∀ (cdv : Value) (A : Around) (outer : List Env) (s : Shared) (H : Hp) (vs : List V) (Q : VK) (E : XK), A.guards = some [] → Room k (A.deeper (envOfC qual (defScope st) s.heap.objs.size f cdv)) → sp vs H Q E →
      ∃ t, PSs (cxOf CX0 P w K mg base N qual (defScope st) f cdv A outer s H E).nox (defBody st) t ∧ t { nx := fun _ H' => Q .non H', rt := Q } (start N vs) H) : Calm P w K mg base (k + 1) f fd ps sp := by
  obtain ⟨oc, od, kV, doc, pm, an, cdv, ct, osl, rfl, lk, hcd⟩ := F.ex
  refine ⟨len, fun A outer s H args us vs Q E hg hr e0 hb r hsp => ?_⟩
  have hl := len _ _ _ _ hsp
  have kept : ∀ b o, base.get? b = some o → s.heap.get? b = some o := fun b o e => (e0.bs b o e).1
  have KX : K.In s.heap := e0.mod.kin.keeps kept
  have lim : s.heap.NoLimit := e0.mod.nolimit.keeps kept
  have kinds : ∀ y ∈ ps.zip us, (defScope st).names.lookup y.1 = some .local ∨ ((defScope st).names.lookup y.1 = some .cell ∧ ((cellsFrom (s.heap.objs.size + 1) (defScope st).names []).lookup y.1).isSome = true) := by
    rintro ⟨n, v⟩ hy
    rcases S.par n (List.of_mem_zip hy).1 with q | q
    · exact .inl q
    · exact .inr ⟨q, PySem.W.cellsFrom_some _ _ _ (.inl q)⟩
  refine codeAny_call_function hr.depth (KX _ _ lk) rfl S.co S.gen rfl (PySem.W.codeRec_of KX hcd) (hb _ _ _ _ ?_)
  refine wpAny_newFunctionEnv_cells S.kind kinds fun env he s1 x => ?_
  subst he
  refine ⟨lim.keeps x.toInCall.keep, codeAny_func ?_⟩
  obtain ⟨t, ht, hq⟩ := hbody cdv A outer s H vs Q E hg (hr.deeper _) hsp
  have I : Inv (cxOf CX0 P w K mg base N qual (defScope st) f cdv A outer s H E) [] (start N vs) H s1 := inv_start S hr.hd e0 hl r x
  refine wpAny_mono (ht.nox.run [] s1 (start N vs) H _ I hq) (fun fl s' hs => ?_) fun e s' hs => hs
  cases fl with
  | ret u =>
    obtain ⟨v, σ', H', J, rv, q⟩ := hs
    exact ⟨v, H', J.os, J.bare, J.base, J.hok, rv, q⟩
  | next =>
    obtain ⟨σ', H', J, q⟩ := hs
    exact ⟨V.non, H', J.os, J.bare, J.base, J.hok, rfl, q⟩
  | brk =>
    obtain ⟨_, _, _, q⟩ := hs
    exact q.elim
  | cont =>
    obtain ⟨_, _, _, q⟩ := hs
    exact q.elim
theorem pe_calm {X : Cx} {k : Nat} {f : Addr} {fd : FuncData} {ps : List Str} {sp : Sp} {x : Str} {p pos : Pos} {e : Expr} {es : List Expr} {t : TA} (F : Calm X.prog X.w X.K X.mg X.base k f fd ps sp) (hgu : X.A.guards = some []) (hr : Room k X.A) (hg : Gl X x) (hm : X.mg x = some (.ref f)) (hk : PySem.W.keepIn X.K (.ref f) = true)
    (hb : Binds X.K fd ps []) (ha : PA X (e :: es) t) (hdb : (x == ("__debug__" : Str)) = false := by decide) (he : starEach (e :: es) X.env = (false, eval e X.env) :: starEach es X.env := by rfl)
    (hpl : (backTo pos (starEach es X.env)).any (·.1) = false := by rfl) : PE X (.Call (.Name x p) (e :: es) [] pos) (fun σ H Q => t σ H fun vs H1 => sp vs H1 Q E0) := by
  refine ⟨fun pins s σ H Q I h => wpAny_Call_Name_kw (ld_glob I hg hm ?_ hdb)⟩
  refine PySem.W.callWith_K (h₀ := X.base) I.ok.mod.kin hk (thn (ha.run pos pins s σ H _ I h) fun us s1 ⟨vs, H1, I1, r, q⟩ => ⟨I1.kIn, ?_⟩) he hpl
  have hl : us.length = ps.length := r.length.symm.trans (F.len _ _ _ _ q)
  have b2 := hb s1 us I1.kIn (by rw [List.append_nil]; exact hl)
  rw [List.append_nil] at b2
  refine wpAny_call (codeAny_mono (F.run X.A X.stack s1 H1 ⟨us, []⟩ us vs Q E0 hgu hr I1.env0 b2 r q) fun r s' hq => ?_)
  cases r with
  | error er => exact hq.elim
  | ok fl =>
    cases fl with
    | ret u => exact I1.after hq
    | next => exact hq.elim
    | brk => exact hq.elim
    | cont => exact hq.elim
end K1

set_option Elab.async false
set_option linter.all false
set_option maxRecDepth 100000
set_option maxHeartbeats 800000
namespace K1
open PySem PySem.Spec PyProof.Rows L2
inductive ShAll (K : PySem.W.Frag) (H : Hp) : List V → List PyData → Prop where
  | nil : ShAll K H [] []
  | cons {x : V} {d : PyData} {xs : List V} {ds : List PyData} : Sh K H x d → ShAll K H xs ds → ShAll K H (x :: xs) (d :: ds)
/-- what can be shown: a plain thing, a dict of such, a list of these -/
inductive Sh2 (K : PySem.W.Frag) (H : Hp) : V → PyData → Prop where
  | one {x : V} {d : PyData} : Sh K H x d → Sh2 K H x d
  | lst {a : Addr} {xs : List V} {ds : List PyData} : H a = some (.lst xs) → xs ≠ [] → ShAll K H xs ds → Sh2 K H (.ref a) (.list ds)
theorem tup_same {K : PySem.W.Frag} {H H' : Hp} {a : Addr} {xs : List V} (s : Same H H') (h : SqT K H a xs) : SqT K H' a xs := by
  rcases h with (h | ⟨o, h⟩) | h
  · exact .inl (.inl (s _ _ h))
  · exact .inl (.inr ⟨o, s _ _ h⟩)
  · exact .inr h
mutual
theorem dp_same {K : PySem.W.Frag} {H H' : Hp} (s : Same H H') : ∀ (d : PyData) (v : V), Dp K H v d → Dp K H' v d
  | .none, _, h => by cases h; exact .non
  | .bool b, _, h => by cases h; exact .bl b
  | .int i, _, h => by cases h; exact .int i
  | .str x, _, h => by cases h; exact .str x
  | .list ds, _, h => by
    cases h with
    | lst hs ha => exact .lst (s.seq hs) (dps_same s ds _ ha)
  | .tuple ds, _, h => by
    cases h with
    | tup hs ha => exact .tup (tup_same s hs) (dps_same s ds _ ha)
  | .dict _, _, h => by cases h
theorem dps_same {K : PySem.W.Frag} {H H' : Hp} (s : Same H H') : ∀ (ds : List PyData) (vs : List V), DpAll K H vs ds → DpAll K H' vs ds
  | [], _, h => by cases h; exact .nil
  | d :: ds, _, h => by
    cases h with
    | cons h1 h2 => exact .cons (dp_same s d _ h1) (dps_same s ds _ h2)
end
theorem Sh.same {K : PySem.W.Frag} {H H' : Hp} {v : V} {d : PyData} (h : Sh K H v d) (s : Same H H') : Sh K H' v d := by
  cases h with
  | dp h n => exact .dp (dp_same s _ _ h) n
  | dict h1 h2 n => exact .dict (s _ _ h1) (dps_same s _ _ h2) n
theorem ShAll.same {K : PySem.W.Frag} {H H' : Hp} (s : Same H H') : ∀ {vs : List V} {ds : List PyData}, ShAll K H vs ds → ShAll K H' vs ds
  | _, _, .nil => .nil
  | _, _, .cons h t => .cons (h.same s) (ShAll.same s t)
theorem Sh2.same {K : PySem.W.Frag} {H H' : Hp} {v : V} {d : PyData} (h : Sh2 K H v d) (s : Same H H') : Sh2 K H' v d := by
  cases h with
  | one h => exact .one (h.same s)
  | lst h n t => exact .lst (s _ _ h) n (ShAll.same s t)
section
variable {X : Cx} {pins : List (Addr × Obj)} {σ : L2.St} {H : Hp} {s : Shared}
theorem sh_k (I : Inv X pins σ H s) {x : V} {u : Value} {d : PyData} (sh : Sh X.K H x d) (rx : L2.RelV x u) (hw : d.showable = true) (hz : d.shown.length ≤ sizeLine) :
    (∃ as, Reads s.heap u d as) ∧ ∃ bs, ReadAtMost s.heap d.depth bs ∧ ReprK X.prog X.w bs s.heap d.depth u d.shown := by
  cases sh with
  | dp hd nd =>
    obtain ⟨as, rd⟩ := Dp.reads I _ _ u hd rx
    exact ⟨⟨as, rd⟩, ReprK.of_reads rd hw (PyData.noDict_hsm nd) hz⟩
  | @dict a kvs ds ha hd nd =>
    cases (show u = _ from rx)
    obtain ⟨_, hsys, vs, rel, o, es, ep, h1, h2, h3, h4, h5, h6⟩ := dk_of I.hok ha
    obtain ⟨as1, rk⟩ := keys_read (h := s.heap) h5 rel
    obtain ⟨bs1, rv⟩ := Dp.readsAll I ds _ _ hd (vals_kv rel)
    rw [← vals_pairs h5] at rv
    have hl := DpAll.len hd
    have f1 : ((kvs.map fun p => keyD p.1).zip ds).map (·.1) = kvs.map fun p => keyD p.1 := by
      rw [List.map_fst_zip]
      rw [List.length_map] at hl ⊢
      omega
    have f2 : ((kvs.map fun p => keyD p.1).zip ds).map (·.2) = ds := by
      rw [List.map_snd_zip]
      rw [List.length_map] at hl ⊢
      omega
    have rd : Reads s.heap (.ref a) (.dict ((kvs.map fun p => keyD p.1).zip ds)) (a :: as1 ++ bs1) := Reads.dict h1 h2.1 h3 (by rw [f1]; exact rk) (by rw [f2]; exact rv)
    refine ⟨⟨_, rd⟩, ?_⟩
    generalize hzs : (kvs.map fun p => keyD p.1).zip ds = zs at *
    rw [PyData.shown] at hz ⊢
    obtain ⟨s1, s2⟩ := PyData.showableKv_split zs (by simpa [PyData.showable] using hw)
    rw [f1] at s1
    rw [f2] at s2
    obtain ⟨b1, hb1, k1⟩ := ReprAllK.of_readsAll (prog := X.prog) (w := X.w) rk s1 (fun z => by rw [keys_flat] at z; cases z) (fun t ht => by
      obtain ⟨p, hp, hle⟩ := PyData.shownKv_key_le zs t (by rw [f1]; exact ht)
      exact Nat.le_trans hle (Nat.le_trans (dictText_mem_le hp) hz))
    obtain ⟨b2, hb2, k2⟩ := ReprAllK.of_readsAll (prog := X.prog) (w := X.w) rv s2 (fun z => by rw [nd] at z; cases z) (fun t ht => by
      obtain ⟨p, hp, hle⟩ := PyData.shownKv_val_le zs t (by rw [f2]; exact ht)
      exact Nat.le_trans hle (Nat.le_trans (dictText_mem_le hp) hz))
    have d1 : PyData.depthAll (kvs.map fun p => keyD p.1) ≤ PyData.depthKv zs := by
      rw [← f1]
      exact PyData.depthAll_keys_le zs
    have d2 : PyData.depthAll ds ≤ PyData.depthKv zs := by
      rw [← f2]
      exact PyData.depthAll_vals_le zs
    have hb : ReadAtMost s.heap (PyData.depthKv zs) (b1 ++ b2) := (hb1.mono d1).append (hb2.mono d2)
    have apart : a ∉ b1 ++ b2 := not_mem_of_deeper rd (by simp only [PyData.depth]; omega) hb
    have sameT : PyData.shownKv zs = List.zipWith (fun k v : Str => k ++ ": " ++ v) (PyData.shownAll (kvs.map fun p => keyD p.1)) (PyData.shownAll ds) := by
      rw [PyData.shownKv_eq, f1, f2]
    have E := ReprEntriesK.of_two es.toList _ _ (k1.more_le (fun b hb => List.mem_append_left _ hb) d1) (k2.more_le (fun b hb => List.mem_append_right _ hb) d2)
    rw [← sameT] at E
    refine ⟨a :: (b1 ++ b2), ReadAtMost.cons rd (by simp only [PyData.depth]; omega) hb, ?_⟩
    have K2 := ReprK.dict h1 h2.1 h3 hsys apart E
    simp only [PyData.depth]
    exact K2
theorem sh_all (I : Inv X pins σ H s) : ∀ {xs : List V} {us : List Value} {ds : List PyData}, ShAll X.K H xs ds → L2.Vals xs us → PyData.showableAll ds = true → (∀ t ∈ PyData.shownAll ds, t.length ≤ sizeLine) →
    (∃ as, ReadsAll s.heap us ds as) ∧ ∃ bs, ReadAtMost s.heap (PyData.depthAll ds) bs ∧ ReprAllK X.prog X.w bs s.heap (PyData.depthAll ds) us (PyData.shownAll ds)
  | _, _, _, .nil, .nil, _, _ => ⟨⟨_, ReadsAll.nil⟩, [], (fun _ h => nomatch h), .nil⟩
  | _, _, _, .cons (d := d) (ds := ds) h t, .cons r rt, hw, hz => by
    have hw' : d.showable = true ∧ PyData.showableAll ds = true := by simpa [PyData.showableAll] using hw
    obtain ⟨⟨a1, r1⟩, b1, hb1, k1⟩ := sh_k I h r hw'.1 (hz _ (by simp only [PyData.shownAll]; exact List.mem_cons_self ..))
    obtain ⟨⟨a2, r2⟩, b2, hb2, k2⟩ := sh_all I t rt hw'.2 (fun t ht => hz t (by simp only [PyData.shownAll]; exact List.mem_cons_of_mem _ ht))
    refine ⟨⟨_, ReadsAll.cons r1 r2⟩, b1 ++ b2, (hb1.mono (by simp only [PyData.depthAll]; exact Nat.le_max_left ..)).append (hb2.mono (by simp only [PyData.depthAll]; exact Nat.le_max_right ..)), ?_⟩
    simp only [PyData.shownAll, PyData.depthAll]
    exact .cons ((k1.more fun b hb => List.mem_append_left _ hb).level_le (Nat.le_max_left ..)) (k2.more_le (fun b hb => List.mem_append_right _ hb) (Nat.le_max_right ..))
def rRepr2 (K : PySem.W.Frag) : List V → Hp → VK → Prop := fun xs H Q => ∃ (x : V) (d : PyData), xs = [x] ∧ Sh2 K H x d ∧ Nice d ∧ Q (.str d.shown) H
theorem call_repr2 (hg : X.A.guards = some []) (hu : X.A.units + 64 < cLine) : CallR X (.builtin "repr") (rRepr2 X.K) := by
  intro pins s σ H xs us Q I r h
  obtain ⟨x, d, rfl, sh, n, q⟩ := h
  cases sh with
  | one sh => exact call_repr hg hu pins s σ H [x] us Q I r ⟨x, d, rfl, sh, n, q⟩
  | @lst a xs ds ha hne ht =>
    obtain ⟨u, rfl, rx⟩ := vals1 r
    cases (show u = _ from rx)
    obtain ⟨its, rv, ⟨o, m, ho, hc, _, hd⟩, _⟩ := I.list (SqL.of ha)
    have hsz := n.size
    have hsw := n.show_
    have dep := n.deep
    rw [PyData.shown] at hsz q
    obtain ⟨⟨as, rd⟩, bs, hb, k⟩ := sh_all I ht rv (by simpa [PyData.showable] using hsw) (fun t ht => Nat.le_trans (listText_mem_le ht) hsz)
    have whole : Reads s.heap (.ref a) (.list ds) (a :: as) := Reads.list ho hc hd rd
    have apart : a ∉ bs := not_mem_of_deeper whole (by simp only [PyData.depth]; omega) hb
    have dep2 : PyData.depthAll ds + 1 ≤ 8 := by simpa [PyData.depth] using dep
    refine call_repr_slot (by omega) ⟨o, ho, hc⟩ F.slot_list_repr.toG ?_
    cases its with
    | nil =>
      have z := rv.length
      cases xs with
      | nil => exact absurd rfl hne
      | cons _ _ => cases z
    | cons i0 il =>
      exact call_list_reprK ho hc hd apart (by simpa using k.length_eq) (fun i y e => k.item i y (by simpa using e)) hg (fun b _ => Clear.nil b) (by show X.A.units + 1 + _ < cLine; omega) (fun _ _ e => e)
        (fun h' t tk kk => ⟨_, _, rfl, .str _, H, I.kept kk, ⟨_, rfl⟩, q⟩) hsz
end
end K1

set_option Elab.async false
set_option linter.all false
set_option maxRecDepth 100000
set_option maxHeartbeats 4000000
namespace K1
open PySem L2
abbrev sFirst : Stmt := top 38
abbrev sCalled : Stmt := top 39
abbrev sBare : Stmt := top 40
abbrev sCode : Stmt := top 41
abbrev sIsErr : Stmt := top 42
abbrev sRight : Stmt := top 43
abbrev sLaw : Stmt := top 44
def nms : List Str := ["InvalidPerson", "InvalidPeople", "InvalidPair", "InvalidPairs", "InvalidCompany", "InvalidCompanies", "InvalidChange", "InvalidChanges", "InvalidNames", "InvalidManner", "InvalidManners", "InvalidTally", "InvalidRoad", "InvalidLabels", "InvalidWishes", "InvalidCount", "InvalidTable", "InvalidClub", "InvalidPlace", "InvalidHouse", "InvalidSpot", "InvalidScript", "InvalidText", "InvalidLog", "Unlike", "Apart", "Refused", "NothingToUndo", "NothingToRedo"]
def nm (i : Nat) : Str := nms.getD i ""
theorem scF : FnScope ["_law_thing", "_law_found"] ["_law_thing"] (defScope sFirst) := ⟨rfl, rfl, rfl, by decide +kernel, rfl, by decide +kernel, by decide +kernel⟩
theorem scC : FnScope ["_law_thing", "_law_found"] ["_law_thing"] (defScope sCalled) := ⟨rfl, rfl, rfl, by decide +kernel, rfl, by decide +kernel, by decide +kernel⟩
theorem scB : FnScope ["_law_found"] [] (defScope sBare) := ⟨rfl, rfl, rfl, by decide +kernel, rfl, by decide +kernel, by decide +kernel⟩
/-- errors of the classes Cs, all with the field v -/
def Errs (H : Hp) (es : List Addr) (Cs : List Addr) (v : V) : Prop := es.length = Cs.length ∧ ∀ (i : Nat) e C, es[i]? = some e → Cs[i]? = some C → ErrAt H e C v
theorem Errs.same {H H' : Hp} {es Cs : List Addr} {v : V} (h : Errs H es Cs v) (s : Same H H') : Errs H' es Cs v := ⟨h.1, fun i e C a b => (h.2 i e C a b).same s⟩
theorem Errs.app {H : Hp} {es es' Cs Cs' : List Addr} {v : V} (h : Errs H es Cs v) (h' : Errs H es' Cs' v) : Errs H (es ++ es') (Cs ++ Cs') v := by
  refine ⟨by rw [List.length_append, List.length_append, h.1, h'.1], fun i e C a b => ?_⟩
  by_cases hi : i < es.length
  · rw [List.getElem?_append_left hi] at a
    rw [List.getElem?_append_left (by rw [← h.1]; exact hi)] at b
    exact h.2 i e C a b
  · rw [List.getElem?_append_right (by omega)] at a
    rw [List.getElem?_append_right (by rw [← h.1]; omega), ← h.1] at b
    exact h'.2 _ e C a b
def tErrs : List Addr → TA
  | [] => tNil
  | C :: Cs => tCons (tMk C (tCons (tVar 0) tNil)) (tErrs Cs)
def tErrs0 : List Addr → TA
  | [] => tNil
  | C :: Cs => tCons (tMk0 C) (tErrs0 Cs)
theorem errs_cons {H H1 H2 : Hp} {e C : Addr} {es Cs : List Addr} {v : V} (h : ErrAt H1 e C v) (s : Same H1 H2) (t : Errs H2 es Cs v) : Errs H2 (e :: es) (C :: Cs) v := by
  refine ⟨congrArg Nat.succ t.1, fun i a c x y => ?_⟩
  cases i with
  | zero =>
    cases x
    cases y
    exact h.same s
  | succ i => exact t.2 i a c x y
theorem errs_made {σ : St} {v : V} (h0 : σ[0]? = some (some v)) : ∀ (Cs : List Addr) (H : Hp) (Q : List V → Hp → Prop), (∀ (H' : Hp) (es : List Addr), Same H H' → Errs H' es Cs v → Q (es.map V.ref) H') → tErrs Cs σ H Q
  | [], H, Q, k => k H [] (Same.refl H) ⟨rfl, fun i e C a _ => by simp at a⟩
  | C :: Cs, H, Q, k => ⟨v, h0, v, rfl, fun H1 e s1 n1 h1 => errs_made h0 Cs H1 _ fun H2 es s2 t => k H2 (e :: es) (s1.trans s2) (errs_cons (H := H) h1 s2 t)⟩
theorem errs_made0 {σ : St} : ∀ (Cs : List Addr) (H : Hp) (Q : List V → Hp → Prop), (∀ (H' : Hp) (es : List Addr), Same H H' → Errs H' es Cs .non → Q (es.map V.ref) H') → tErrs0 Cs σ H Q
  | [], H, Q, k => k H [] (Same.refl H) ⟨rfl, fun i e C a _ => by simp at a⟩
  | C :: Cs, H, Q, k => fun H1 e s1 n1 h1 => errs_made0 Cs H1 _ fun H2 es s2 t => k H2 (e :: es) (s1.trans s2) (errs_cons (H := H) h1 s2 t)
/-- the twenty-seven classes with a field -/
def cs27 (C : Nat → Addr) : List Addr := [C 0, C 1, C 2, C 3, C 4, C 5, C 6, C 7, C 8, C 9, C 10, C 11, C 12, C 13, C 14, C 15, C 16, C 17, C 18, C 19, C 20, C 21, C 22, C 23, C 24, C 25, C 26]
def spMany (C : Nat → Addr) : Sp := fun vs H Q _ => ∃ v, vs = [v] ∧ ∀ (H' : Hp) (L : Addr) (es : List Addr), Same H H' → H L = none → H' L = some (.lst (es.map V.ref)) → Errs H' es (cs27 C) v → Q (.ref L) H'
def spBare (C : Nat → Addr) : Sp := fun vs H Q _ => vs = [] ∧ ∀ (H' : Hp) (L : Addr) (es : List Addr), Same H H' → H L = none → H' L = some (.lst (es.map V.ref)) → Errs H' es (cs27 C) .non → Q (.ref L) H'
section
variable {P : Program} {w : World} {K : PySem.W.Frag} {mg : Str → Option Value} {base : Heap}

theorem ok_first {f : Addr} {fd : FuncData} {C : Nat → Addr} (F : Fun K "_law_first" "_law_first" sFirst f fd) (E : ∀ i, i < 27 → Err P w K mg base (nm i) (C i)) : FnOk P w K mg base CX0 3 f fd ["_law_thing"] (spMany C) := by
  refine F.ok scF (fun vs H Q E h => ?_) (fun cdv A outer s H vs Q E0 hr h => ?_)
  · obtain ⟨_, rfl, _⟩ := h
    rfl
  · obtain ⟨v, rfl, k⟩ := h
    have hr2 : Room 2 _ := hr.mono (by decide)
    refine ⟨_, (pss_cons (ps_set (i := 1) scF.nd rfl (Or.inl rfl) (pe_lst (pa_cons (pe_mk (E 0 (by decide)) hr2 rfl (pa_cons (pv 0) pa_nil)) (pa_cons (pe_mk (E 1 (by decide)) hr2 rfl (pa_cons (pv 0) pa_nil)) (pa_cons (pe_mk (E 2 (by decide)) hr2 rfl (pa_cons (pv 0) pa_nil)) (pa_cons (pe_mk (E 3 (by decide)) hr2 rfl (pa_cons (pv 0) pa_nil)) pa_nil))))))
      (pss_cons (ps_set (i := 1) scF.nd rfl (Or.inl rfl) (pe_op op_cat (pv 1) (pe_lst (pa_cons (pe_mk (E 4 (by decide)) hr2 rfl (pa_cons (pv 0) pa_nil)) (pa_cons (pe_mk (E 5 (by decide)) hr2 rfl (pa_cons (pv 0) pa_nil)) (pa_cons (pe_mk (E 6 (by decide)) hr2 rfl (pa_cons (pv 0) pa_nil)) (pa_cons (pe_mk (E 7 (by decide)) hr2 rfl (pa_cons (pv 0) pa_nil)) pa_nil)))))))
      (pss_cons (ps_set (i := 1) scF.nd rfl (Or.inl rfl) (pe_op op_cat (pv 1) (pe_lst (pa_cons (pe_mk (E 8 (by decide)) hr2 rfl (pa_cons (pv 0) pa_nil)) (pa_cons (pe_mk (E 9 (by decide)) hr2 rfl (pa_cons (pv 0) pa_nil)) (pa_cons (pe_mk (E 10 (by decide)) hr2 rfl (pa_cons (pv 0) pa_nil)) (pa_cons (pe_mk (E 11 (by decide)) hr2 rfl (pa_cons (pv 0) pa_nil)) pa_nil)))))))
      (pss_cons (ps_set (i := 1) scF.nd rfl (Or.inl rfl) (pe_op op_cat (pv 1) (pe_lst (pa_cons (pe_mk (E 12 (by decide)) hr2 rfl (pa_cons (pv 0) pa_nil)) (pa_cons (pe_mk (E 13 (by decide)) hr2 rfl (pa_cons (pv 0) pa_nil)) (pa_cons (pe_mk (E 14 (by decide)) hr2 rfl (pa_cons (pv 0) pa_nil)) (pa_cons (pe_mk (E 15 (by decide)) hr2 rfl (pa_cons (pv 0) pa_nil)) pa_nil)))))))
      (pss_cons (ps_set (i := 1) scF.nd rfl (Or.inl rfl) (pe_op op_cat (pv 1) (pe_lst (pa_cons (pe_mk (E 16 (by decide)) hr2 rfl (pa_cons (pv 0) pa_nil)) (pa_cons (pe_mk (E 17 (by decide)) hr2 rfl (pa_cons (pv 0) pa_nil)) (pa_cons (pe_mk (E 18 (by decide)) hr2 rfl (pa_cons (pv 0) pa_nil)) (pa_cons (pe_mk (E 19 (by decide)) hr2 rfl (pa_cons (pv 0) pa_nil)) pa_nil)))))))
      (pss_cons (ps_set (i := 1) scF.nd rfl (Or.inl rfl) (pe_op op_cat (pv 1) (pe_lst (pa_cons (pe_mk (E 20 (by decide)) hr2 rfl (pa_cons (pv 0) pa_nil)) (pa_cons (pe_mk (E 21 (by decide)) hr2 rfl (pa_cons (pv 0) pa_nil)) (pa_cons (pe_mk (E 22 (by decide)) hr2 rfl (pa_cons (pv 0) pa_nil)) (pa_cons (pe_mk (E 23 (by decide)) hr2 rfl (pa_cons (pv 0) pa_nil)) pa_nil)))))))
      (pss_cons (ps_set (i := 1) scF.nd rfl (Or.inl rfl) (pe_op op_cat (pv 1) (pe_lst (pa_cons (pe_mk (E 24 (by decide)) hr2 rfl (pa_cons (pv 0) pa_nil)) (pa_cons (pe_mk (E 25 (by decide)) hr2 rfl (pa_cons (pv 0) pa_nil)) (pa_cons (pe_mk (E 26 (by decide)) hr2 rfl (pa_cons (pv 0) pa_nil)) pa_nil))))))
      (pss_one (ps_ret (pv 1)))))))))), ?_⟩
    dsimp only [tSeq, tAsg, tLst]
    refine errs_made (v := v) rfl [C 0, C 1, C 2, C 3] _ _ fun h1 es1 s1 t1 => ⟨?_, fun l1 m1 => ?_⟩
    · rw [List.length_map, t1.1, sizeLine_eq]
      show 4 ≤ _
      decide
    have a1 := same_new (o := .lst (es1.map V.ref)) m1
    have n1 : H l1 = none := s1.free m1
    have S1 := s1.trans a1
    have T1 := t1.same a1
    have L1 : (upd h1 l1 (.lst (es1.map V.ref))) l1 = some (.lst (es1.map V.ref)) := upd_same
    refine ⟨_, rfl, errs_made (v := v) rfl [C 4, C 5, C 6, C 7] _ _ fun h2 es2 s2 t2 => ⟨?_, fun q2 m2 => ?_⟩⟩
    · rw [List.length_map, t2.1, sizeLine_eq]
      show 4 ≤ _
      decide
    have b2 := same_new (o := .lst (es2.map V.ref)) m2
    refine ⟨l1, q2, _, _, rfl, rfl, b2 _ _ (s2 _ _ L1), upd_same, ?_, fun l2 p2 => ?_⟩
    · rw [List.length_map, List.length_map, T1.1, t2.1, sizeLine_eq]
      show 4 + 4 ≤ _
      decide
    have c2 := same_new (o := .lst (es1.map V.ref ++ es2.map V.ref)) p2
    have S2 := S1.trans (s2.trans (b2.trans c2))
    have T2 := (T1.same (s2.trans (b2.trans c2))).app (t2.same (b2.trans c2))
    generalize hE2 : es1 ++ es2 = E2 at T2
    have L2 : (upd (upd h2 q2 (.lst (es2.map V.ref))) l2 (.lst (es1.map V.ref ++ es2.map V.ref))) l2 = some (.lst (E2.map V.ref)) := by
      rw [upd_same, ← hE2, List.map_append]
    have n2 : H l2 = none := S1.free ((s2.trans b2).free p2)
    refine ⟨_, rfl, errs_made (v := v) rfl [C 8, C 9, C 10, C 11] _ _ fun h3 es3 s3 t3 => ⟨?_, fun q3 m3 => ?_⟩⟩
    · rw [List.length_map, t3.1, sizeLine_eq]
      show 4 ≤ _
      decide
    have b3 := same_new (o := .lst (es3.map V.ref)) m3
    refine ⟨l2, q3, _, _, rfl, rfl, b3 _ _ (s3 _ _ L2), upd_same, ?_, fun l3 p3 => ?_⟩
    · rw [List.length_map, List.length_map, T2.1, t3.1, sizeLine_eq]
      show 8 + 4 ≤ _
      decide
    have c3 := same_new (o := .lst ((E2).map V.ref ++ es3.map V.ref)) p3
    have S3 := S2.trans (s3.trans (b3.trans c3))
    have T3 := (T2.same (s3.trans (b3.trans c3))).app (t3.same (b3.trans c3))
    generalize hE3 : E2 ++ es3 = E3 at T3
    have L3 : (upd (upd h3 q3 (.lst (es3.map V.ref))) l3 (.lst (E2.map V.ref ++ es3.map V.ref))) l3 = some (.lst (E3.map V.ref)) := by
      rw [upd_same, ← hE3, List.map_append]
    have n3 : H l3 = none := S2.free ((s3.trans b3).free p3)
    refine ⟨_, rfl, errs_made (v := v) rfl [C 12, C 13, C 14, C 15] _ _ fun h4 es4 s4 t4 => ⟨?_, fun q4 m4 => ?_⟩⟩
    · rw [List.length_map, t4.1, sizeLine_eq]
      show 4 ≤ _
      decide
    have b4 := same_new (o := .lst (es4.map V.ref)) m4
    refine ⟨l3, q4, _, _, rfl, rfl, b4 _ _ (s4 _ _ L3), upd_same, ?_, fun l4 p4 => ?_⟩
    · rw [List.length_map, List.length_map, T3.1, t4.1, sizeLine_eq]
      show 12 + 4 ≤ _
      decide
    have c4 := same_new (o := .lst ((E3).map V.ref ++ es4.map V.ref)) p4
    have S4 := S3.trans (s4.trans (b4.trans c4))
    have T4 := (T3.same (s4.trans (b4.trans c4))).app (t4.same (b4.trans c4))
    generalize hE4 : E3 ++ es4 = E4 at T4
    have L4 : (upd (upd h4 q4 (.lst (es4.map V.ref))) l4 (.lst (E3.map V.ref ++ es4.map V.ref))) l4 = some (.lst (E4.map V.ref)) := by
      rw [upd_same, ← hE4, List.map_append]
    have n4 : H l4 = none := S3.free ((s4.trans b4).free p4)
    refine ⟨_, rfl, errs_made (v := v) rfl [C 16, C 17, C 18, C 19] _ _ fun h5 es5 s5 t5 => ⟨?_, fun q5 m5 => ?_⟩⟩
    · rw [List.length_map, t5.1, sizeLine_eq]
      show 4 ≤ _
      decide
    have b5 := same_new (o := .lst (es5.map V.ref)) m5
    refine ⟨l4, q5, _, _, rfl, rfl, b5 _ _ (s5 _ _ L4), upd_same, ?_, fun l5 p5 => ?_⟩
    · rw [List.length_map, List.length_map, T4.1, t5.1, sizeLine_eq]
      show 16 + 4 ≤ _
      decide
    have c5 := same_new (o := .lst ((E4).map V.ref ++ es5.map V.ref)) p5
    have S5 := S4.trans (s5.trans (b5.trans c5))
    have T5 := (T4.same (s5.trans (b5.trans c5))).app (t5.same (b5.trans c5))
    generalize hE5 : E4 ++ es5 = E5 at T5
    have L5 : (upd (upd h5 q5 (.lst (es5.map V.ref))) l5 (.lst (E4.map V.ref ++ es5.map V.ref))) l5 = some (.lst (E5.map V.ref)) := by
      rw [upd_same, ← hE5, List.map_append]
    have n5 : H l5 = none := S4.free ((s5.trans b5).free p5)
    refine ⟨_, rfl, errs_made (v := v) rfl [C 20, C 21, C 22, C 23] _ _ fun h6 es6 s6 t6 => ⟨?_, fun q6 m6 => ?_⟩⟩
    · rw [List.length_map, t6.1, sizeLine_eq]
      show 4 ≤ _
      decide
    have b6 := same_new (o := .lst (es6.map V.ref)) m6
    refine ⟨l5, q6, _, _, rfl, rfl, b6 _ _ (s6 _ _ L5), upd_same, ?_, fun l6 p6 => ?_⟩
    · rw [List.length_map, List.length_map, T5.1, t6.1, sizeLine_eq]
      show 20 + 4 ≤ _
      decide
    have c6 := same_new (o := .lst ((E5).map V.ref ++ es6.map V.ref)) p6
    have S6 := S5.trans (s6.trans (b6.trans c6))
    have T6 := (T5.same (s6.trans (b6.trans c6))).app (t6.same (b6.trans c6))
    generalize hE6 : E5 ++ es6 = E6 at T6
    have L6 : (upd (upd h6 q6 (.lst (es6.map V.ref))) l6 (.lst (E5.map V.ref ++ es6.map V.ref))) l6 = some (.lst (E6.map V.ref)) := by
      rw [upd_same, ← hE6, List.map_append]
    have n6 : H l6 = none := S5.free ((s6.trans b6).free p6)
    refine ⟨_, rfl, errs_made (v := v) rfl [C 24, C 25, C 26] _ _ fun h7 es7 s7 t7 => ⟨?_, fun q7 m7 => ?_⟩⟩
    · rw [List.length_map, t7.1, sizeLine_eq]
      show 3 ≤ _
      decide
    have b7 := same_new (o := .lst (es7.map V.ref)) m7
    refine ⟨l6, q7, _, _, rfl, rfl, b7 _ _ (s7 _ _ L6), upd_same, ?_, fun l7 p7 => ?_⟩
    · rw [List.length_map, List.length_map, T6.1, t7.1, sizeLine_eq]
      show 24 + 3 ≤ _
      decide
    have c7 := same_new (o := .lst ((E6).map V.ref ++ es7.map V.ref)) p7
    have S7 := S6.trans (s7.trans (b7.trans c7))
    have T7 := (T6.same (s7.trans (b7.trans c7))).app (t7.same (b7.trans c7))
    generalize hE7 : E6 ++ es7 = E7 at T7
    have L7 : (upd (upd h7 q7 (.lst (es7.map V.ref))) l7 (.lst (E6.map V.ref ++ es7.map V.ref))) l7 = some (.lst (E7.map V.ref)) := by
      rw [upd_same, ← hE7, List.map_append]
    have n7 : H l7 = none := S6.free ((s7.trans b7).free p7)
    exact ⟨_, rfl, k _ l7 E7 S7 n7 L7 T7⟩
theorem ok_called {f : Addr} {fd : FuncData} {C : Nat → Addr} (F : Fun K "_law_called" "_law_called" sCalled f fd) (E : ∀ i, i < 27 → Err P w K mg base (nm i) (C i)) : FnOk P w K mg base CX0 3 f fd ["_law_thing"] (spMany C) := by
  refine F.ok scC (fun vs H Q E h => ?_) (fun cdv A outer s H vs Q E0 hr h => ?_)
  · obtain ⟨_, rfl, _⟩ := h
    rfl
  · obtain ⟨v, rfl, k⟩ := h
    have hr2 : Room 2 _ := hr.mono (by decide)
    refine ⟨_, (pss_cons (ps_set (i := 1) scC.nd rfl (Or.inl rfl) (pe_lst (pa_cons (pe_mkK (E 0 (by decide)) hr2 rfl (pk_cons (pv 0) pk_nil)) (pa_cons (pe_mkK (E 1 (by decide)) hr2 rfl (pk_cons (pv 0) pk_nil)) (pa_cons (pe_mkK (E 2 (by decide)) hr2 rfl (pk_cons (pv 0) pk_nil)) pa_nil)))))
      (pss_cons (ps_set (i := 1) scC.nd rfl (Or.inl rfl) (pe_op op_cat (pv 1) (pe_lst (pa_cons (pe_mkK (E 3 (by decide)) hr2 rfl (pk_cons (pv 0) pk_nil)) (pa_cons (pe_mkK (E 4 (by decide)) hr2 rfl (pk_cons (pv 0) pk_nil)) (pa_cons (pe_mkK (E 5 (by decide)) hr2 rfl (pk_cons (pv 0) pk_nil)) pa_nil))))))
      (pss_cons (ps_set (i := 1) scC.nd rfl (Or.inl rfl) (pe_op op_cat (pv 1) (pe_lst (pa_cons (pe_mkK (E 6 (by decide)) hr2 rfl (pk_cons (pv 0) pk_nil)) (pa_cons (pe_mkK (E 7 (by decide)) hr2 rfl (pk_cons (pv 0) pk_nil)) (pa_cons (pe_mkK (E 8 (by decide)) hr2 rfl (pk_cons (pv 0) pk_nil)) pa_nil))))))
      (pss_cons (ps_set (i := 1) scC.nd rfl (Or.inl rfl) (pe_op op_cat (pv 1) (pe_lst (pa_cons (pe_mkK (E 9 (by decide)) hr2 rfl (pk_cons (pv 0) pk_nil)) (pa_cons (pe_mkK (E 10 (by decide)) hr2 rfl (pk_cons (pv 0) pk_nil)) (pa_cons (pe_mkK (E 11 (by decide)) hr2 rfl (pk_cons (pv 0) pk_nil)) pa_nil))))))
      (pss_cons (ps_set (i := 1) scC.nd rfl (Or.inl rfl) (pe_op op_cat (pv 1) (pe_lst (pa_cons (pe_mkK (E 12 (by decide)) hr2 rfl (pk_cons (pv 0) pk_nil)) (pa_cons (pe_mkK (E 13 (by decide)) hr2 rfl (pk_cons (pv 0) pk_nil)) (pa_cons (pe_mkK (E 14 (by decide)) hr2 rfl (pk_cons (pv 0) pk_nil)) pa_nil))))))
      (pss_cons (ps_set (i := 1) scC.nd rfl (Or.inl rfl) (pe_op op_cat (pv 1) (pe_lst (pa_cons (pe_mkK (E 15 (by decide)) hr2 rfl (pk_cons (pv 0) pk_nil)) (pa_cons (pe_mkK (E 16 (by decide)) hr2 rfl (pk_cons (pv 0) pk_nil)) (pa_cons (pe_mkK (E 17 (by decide)) hr2 rfl (pk_cons (pv 0) pk_nil)) pa_nil))))))
      (pss_cons (ps_set (i := 1) scC.nd rfl (Or.inl rfl) (pe_op op_cat (pv 1) (pe_lst (pa_cons (pe_mkK (E 18 (by decide)) hr2 rfl (pk_cons (pv 0) pk_nil)) (pa_cons (pe_mkK (E 19 (by decide)) hr2 rfl (pk_cons (pv 0) pk_nil)) (pa_cons (pe_mkK (E 20 (by decide)) hr2 rfl (pk_cons (pv 0) pk_nil)) pa_nil))))))
      (pss_cons (ps_set (i := 1) scC.nd rfl (Or.inl rfl) (pe_op op_cat (pv 1) (pe_lst (pa_cons (pe_mkK (E 21 (by decide)) hr2 rfl (pk_cons (pv 0) pk_nil)) (pa_cons (pe_mkK (E 22 (by decide)) hr2 rfl (pk_cons (pv 0) pk_nil)) (pa_cons (pe_mkK (E 23 (by decide)) hr2 rfl (pk_cons (pv 0) pk_nil)) pa_nil))))))
      (pss_cons (ps_set (i := 1) scC.nd rfl (Or.inl rfl) (pe_op op_cat (pv 1) (pe_lst (pa_cons (pe_mkK (E 24 (by decide)) hr2 rfl (pk_cons (pv 0) pk_nil)) (pa_cons (pe_mkK (E 25 (by decide)) hr2 rfl (pk_cons (pv 0) pk_nil)) (pa_cons (pe_mkK (E 26 (by decide)) hr2 rfl (pk_cons (pv 0) pk_nil)) pa_nil))))))
      (pss_one (ps_ret (pv 1)))))))))))), ?_⟩
    dsimp only [tSeq, tAsg, tLst]
    refine errs_made (v := v) rfl [C 0, C 1, C 2] _ _ fun h1 es1 s1 t1 => ⟨?_, fun l1 m1 => ?_⟩
    · rw [List.length_map, t1.1, sizeLine_eq]
      show 3 ≤ _
      decide
    have a1 := same_new (o := .lst (es1.map V.ref)) m1
    have n1 : H l1 = none := s1.free m1
    have S1 := s1.trans a1
    have T1 := t1.same a1
    have L1 : (upd h1 l1 (.lst (es1.map V.ref))) l1 = some (.lst (es1.map V.ref)) := upd_same
    refine ⟨_, rfl, errs_made (v := v) rfl [C 3, C 4, C 5] _ _ fun h2 es2 s2 t2 => ⟨?_, fun q2 m2 => ?_⟩⟩
    · rw [List.length_map, t2.1, sizeLine_eq]
      show 3 ≤ _
      decide
    have b2 := same_new (o := .lst (es2.map V.ref)) m2
    refine ⟨l1, q2, _, _, rfl, rfl, b2 _ _ (s2 _ _ L1), upd_same, ?_, fun l2 p2 => ?_⟩
    · rw [List.length_map, List.length_map, T1.1, t2.1, sizeLine_eq]
      show 3 + 3 ≤ _
      decide
    have c2 := same_new (o := .lst (es1.map V.ref ++ es2.map V.ref)) p2
    have S2 := S1.trans (s2.trans (b2.trans c2))
    have T2 := (T1.same (s2.trans (b2.trans c2))).app (t2.same (b2.trans c2))
    generalize hE2 : es1 ++ es2 = E2 at T2
    have L2 : (upd (upd h2 q2 (.lst (es2.map V.ref))) l2 (.lst (es1.map V.ref ++ es2.map V.ref))) l2 = some (.lst (E2.map V.ref)) := by
      rw [upd_same, ← hE2, List.map_append]
    have n2 : H l2 = none := S1.free ((s2.trans b2).free p2)
    refine ⟨_, rfl, errs_made (v := v) rfl [C 6, C 7, C 8] _ _ fun h3 es3 s3 t3 => ⟨?_, fun q3 m3 => ?_⟩⟩
    · rw [List.length_map, t3.1, sizeLine_eq]
      show 3 ≤ _
      decide
    have b3 := same_new (o := .lst (es3.map V.ref)) m3
    refine ⟨l2, q3, _, _, rfl, rfl, b3 _ _ (s3 _ _ L2), upd_same, ?_, fun l3 p3 => ?_⟩
    · rw [List.length_map, List.length_map, T2.1, t3.1, sizeLine_eq]
      show 6 + 3 ≤ _
      decide
    have c3 := same_new (o := .lst ((E2).map V.ref ++ es3.map V.ref)) p3
    have S3 := S2.trans (s3.trans (b3.trans c3))
    have T3 := (T2.same (s3.trans (b3.trans c3))).app (t3.same (b3.trans c3))
    generalize hE3 : E2 ++ es3 = E3 at T3
    have L3 : (upd (upd h3 q3 (.lst (es3.map V.ref))) l3 (.lst (E2.map V.ref ++ es3.map V.ref))) l3 = some (.lst (E3.map V.ref)) := by
      rw [upd_same, ← hE3, List.map_append]
    have n3 : H l3 = none := S2.free ((s3.trans b3).free p3)
    refine ⟨_, rfl, errs_made (v := v) rfl [C 9, C 10, C 11] _ _ fun h4 es4 s4 t4 => ⟨?_, fun q4 m4 => ?_⟩⟩
    · rw [List.length_map, t4.1, sizeLine_eq]
      show 3 ≤ _
      decide
    have b4 := same_new (o := .lst (es4.map V.ref)) m4
    refine ⟨l3, q4, _, _, rfl, rfl, b4 _ _ (s4 _ _ L3), upd_same, ?_, fun l4 p4 => ?_⟩
    · rw [List.length_map, List.length_map, T3.1, t4.1, sizeLine_eq]
      show 9 + 3 ≤ _
      decide
    have c4 := same_new (o := .lst ((E3).map V.ref ++ es4.map V.ref)) p4
    have S4 := S3.trans (s4.trans (b4.trans c4))
    have T4 := (T3.same (s4.trans (b4.trans c4))).app (t4.same (b4.trans c4))
    generalize hE4 : E3 ++ es4 = E4 at T4
    have L4 : (upd (upd h4 q4 (.lst (es4.map V.ref))) l4 (.lst (E3.map V.ref ++ es4.map V.ref))) l4 = some (.lst (E4.map V.ref)) := by
      rw [upd_same, ← hE4, List.map_append]
    have n4 : H l4 = none := S3.free ((s4.trans b4).free p4)
    refine ⟨_, rfl, errs_made (v := v) rfl [C 12, C 13, C 14] _ _ fun h5 es5 s5 t5 => ⟨?_, fun q5 m5 => ?_⟩⟩
    · rw [List.length_map, t5.1, sizeLine_eq]
      show 3 ≤ _
      decide
    have b5 := same_new (o := .lst (es5.map V.ref)) m5
    refine ⟨l4, q5, _, _, rfl, rfl, b5 _ _ (s5 _ _ L4), upd_same, ?_, fun l5 p5 => ?_⟩
    · rw [List.length_map, List.length_map, T4.1, t5.1, sizeLine_eq]
      show 12 + 3 ≤ _
      decide
    have c5 := same_new (o := .lst ((E4).map V.ref ++ es5.map V.ref)) p5
    have S5 := S4.trans (s5.trans (b5.trans c5))
    have T5 := (T4.same (s5.trans (b5.trans c5))).app (t5.same (b5.trans c5))
    generalize hE5 : E4 ++ es5 = E5 at T5
    have L5 : (upd (upd h5 q5 (.lst (es5.map V.ref))) l5 (.lst (E4.map V.ref ++ es5.map V.ref))) l5 = some (.lst (E5.map V.ref)) := by
      rw [upd_same, ← hE5, List.map_append]
    have n5 : H l5 = none := S4.free ((s5.trans b5).free p5)
    refine ⟨_, rfl, errs_made (v := v) rfl [C 15, C 16, C 17] _ _ fun h6 es6 s6 t6 => ⟨?_, fun q6 m6 => ?_⟩⟩
    · rw [List.length_map, t6.1, sizeLine_eq]
      show 3 ≤ _
      decide
    have b6 := same_new (o := .lst (es6.map V.ref)) m6
    refine ⟨l5, q6, _, _, rfl, rfl, b6 _ _ (s6 _ _ L5), upd_same, ?_, fun l6 p6 => ?_⟩
    · rw [List.length_map, List.length_map, T5.1, t6.1, sizeLine_eq]
      show 15 + 3 ≤ _
      decide
    have c6 := same_new (o := .lst ((E5).map V.ref ++ es6.map V.ref)) p6
    have S6 := S5.trans (s6.trans (b6.trans c6))
    have T6 := (T5.same (s6.trans (b6.trans c6))).app (t6.same (b6.trans c6))
    generalize hE6 : E5 ++ es6 = E6 at T6
    have L6 : (upd (upd h6 q6 (.lst (es6.map V.ref))) l6 (.lst (E5.map V.ref ++ es6.map V.ref))) l6 = some (.lst (E6.map V.ref)) := by
      rw [upd_same, ← hE6, List.map_append]
    have n6 : H l6 = none := S5.free ((s6.trans b6).free p6)
    refine ⟨_, rfl, errs_made (v := v) rfl [C 18, C 19, C 20] _ _ fun h7 es7 s7 t7 => ⟨?_, fun q7 m7 => ?_⟩⟩
    · rw [List.length_map, t7.1, sizeLine_eq]
      show 3 ≤ _
      decide
    have b7 := same_new (o := .lst (es7.map V.ref)) m7
    refine ⟨l6, q7, _, _, rfl, rfl, b7 _ _ (s7 _ _ L6), upd_same, ?_, fun l7 p7 => ?_⟩
    · rw [List.length_map, List.length_map, T6.1, t7.1, sizeLine_eq]
      show 18 + 3 ≤ _
      decide
    have c7 := same_new (o := .lst ((E6).map V.ref ++ es7.map V.ref)) p7
    have S7 := S6.trans (s7.trans (b7.trans c7))
    have T7 := (T6.same (s7.trans (b7.trans c7))).app (t7.same (b7.trans c7))
    generalize hE7 : E6 ++ es7 = E7 at T7
    have L7 : (upd (upd h7 q7 (.lst (es7.map V.ref))) l7 (.lst (E6.map V.ref ++ es7.map V.ref))) l7 = some (.lst (E7.map V.ref)) := by
      rw [upd_same, ← hE7, List.map_append]
    have n7 : H l7 = none := S6.free ((s7.trans b7).free p7)
    refine ⟨_, rfl, errs_made (v := v) rfl [C 21, C 22, C 23] _ _ fun h8 es8 s8 t8 => ⟨?_, fun q8 m8 => ?_⟩⟩
    · rw [List.length_map, t8.1, sizeLine_eq]
      show 3 ≤ _
      decide
    have b8 := same_new (o := .lst (es8.map V.ref)) m8
    refine ⟨l7, q8, _, _, rfl, rfl, b8 _ _ (s8 _ _ L7), upd_same, ?_, fun l8 p8 => ?_⟩
    · rw [List.length_map, List.length_map, T7.1, t8.1, sizeLine_eq]
      show 21 + 3 ≤ _
      decide
    have c8 := same_new (o := .lst ((E7).map V.ref ++ es8.map V.ref)) p8
    have S8 := S7.trans (s8.trans (b8.trans c8))
    have T8 := (T7.same (s8.trans (b8.trans c8))).app (t8.same (b8.trans c8))
    generalize hE8 : E7 ++ es8 = E8 at T8
    have L8 : (upd (upd h8 q8 (.lst (es8.map V.ref))) l8 (.lst (E7.map V.ref ++ es8.map V.ref))) l8 = some (.lst (E8.map V.ref)) := by
      rw [upd_same, ← hE8, List.map_append]
    have n8 : H l8 = none := S7.free ((s8.trans b8).free p8)
    refine ⟨_, rfl, errs_made (v := v) rfl [C 24, C 25, C 26] _ _ fun h9 es9 s9 t9 => ⟨?_, fun q9 m9 => ?_⟩⟩
    · rw [List.length_map, t9.1, sizeLine_eq]
      show 3 ≤ _
      decide
    have b9 := same_new (o := .lst (es9.map V.ref)) m9
    refine ⟨l8, q9, _, _, rfl, rfl, b9 _ _ (s9 _ _ L8), upd_same, ?_, fun l9 p9 => ?_⟩
    · rw [List.length_map, List.length_map, T8.1, t9.1, sizeLine_eq]
      show 24 + 3 ≤ _
      decide
    have c9 := same_new (o := .lst ((E8).map V.ref ++ es9.map V.ref)) p9
    have S9 := S8.trans (s9.trans (b9.trans c9))
    have T9 := (T8.same (s9.trans (b9.trans c9))).app (t9.same (b9.trans c9))
    generalize hE9 : E8 ++ es9 = E9 at T9
    have L9 : (upd (upd h9 q9 (.lst (es9.map V.ref))) l9 (.lst (E8.map V.ref ++ es9.map V.ref))) l9 = some (.lst (E9.map V.ref)) := by
      rw [upd_same, ← hE9, List.map_append]
    have n9 : H l9 = none := S8.free ((s9.trans b9).free p9)
    exact ⟨_, rfl, k _ l9 E9 S9 n9 L9 T9⟩
theorem ok_bare {f : Addr} {fd : FuncData} {C : Nat → Addr} (F : Fun K "_law_bare" "_law_bare" sBare f fd) (E : ∀ i, i < 27 → Err P w K mg base (nm i) (C i)) : FnOk P w K mg base CX0 3 f fd [] (spBare C) := by
  refine F.ok scB (fun vs H Q E h => ?_) (fun cdv A outer s H vs Q E0 hr h => ?_)
  · obtain ⟨rfl, _⟩ := h
    rfl
  · obtain ⟨rfl, k⟩ := h
    have hr2 : Room 2 _ := hr.mono (by decide)
    refine ⟨_, (pss_cons (ps_set (i := 0) scB.nd rfl (Or.inl rfl) (pe_lst (pa_cons (pe_mk0 (E 0 (by decide)) hr2 rfl) (pa_cons (pe_mk0 (E 1 (by decide)) hr2 rfl) (pa_cons (pe_mk0 (E 2 (by decide)) hr2 rfl) (pa_cons (pe_mk0 (E 3 (by decide)) hr2 rfl) (pa_cons (pe_mk0 (E 4 (by decide)) hr2 rfl) pa_nil)))))))
      (pss_cons (ps_set (i := 0) scB.nd rfl (Or.inl rfl) (pe_op op_cat (pv 0) (pe_lst (pa_cons (pe_mk0 (E 5 (by decide)) hr2 rfl) (pa_cons (pe_mk0 (E 6 (by decide)) hr2 rfl) (pa_cons (pe_mk0 (E 7 (by decide)) hr2 rfl) (pa_cons (pe_mk0 (E 8 (by decide)) hr2 rfl) (pa_cons (pe_mk0 (E 9 (by decide)) hr2 rfl) pa_nil))))))))
      (pss_cons (ps_set (i := 0) scB.nd rfl (Or.inl rfl) (pe_op op_cat (pv 0) (pe_lst (pa_cons (pe_mk0 (E 10 (by decide)) hr2 rfl) (pa_cons (pe_mk0 (E 11 (by decide)) hr2 rfl) (pa_cons (pe_mk0 (E 12 (by decide)) hr2 rfl) (pa_cons (pe_mk0 (E 13 (by decide)) hr2 rfl) (pa_cons (pe_mk0 (E 14 (by decide)) hr2 rfl) pa_nil))))))))
      (pss_cons (ps_set (i := 0) scB.nd rfl (Or.inl rfl) (pe_op op_cat (pv 0) (pe_lst (pa_cons (pe_mk0 (E 15 (by decide)) hr2 rfl) (pa_cons (pe_mk0 (E 16 (by decide)) hr2 rfl) (pa_cons (pe_mk0 (E 17 (by decide)) hr2 rfl) (pa_cons (pe_mk0 (E 18 (by decide)) hr2 rfl) (pa_cons (pe_mk0 (E 19 (by decide)) hr2 rfl) (pa_cons (pe_mk0 (E 20 (by decide)) hr2 rfl) pa_nil)))))))))
      (pss_cons (ps_set (i := 0) scB.nd rfl (Or.inl rfl) (pe_op op_cat (pv 0) (pe_lst (pa_cons (pe_mk0 (E 21 (by decide)) hr2 rfl) (pa_cons (pe_mk0 (E 22 (by decide)) hr2 rfl) (pa_cons (pe_mk0 (E 23 (by decide)) hr2 rfl) (pa_cons (pe_mk0 (E 24 (by decide)) hr2 rfl) (pa_cons (pe_mk0 (E 25 (by decide)) hr2 rfl) (pa_cons (pe_mk0 (E 26 (by decide)) hr2 rfl) pa_nil)))))))))
      (pss_one (ps_ret (pv 0)))))))), ?_⟩
    dsimp only [tSeq, tAsg, tLst]
    refine errs_made0 [C 0, C 1, C 2, C 3, C 4] _ _ fun h1 es1 s1 t1 => ⟨?_, fun l1 m1 => ?_⟩
    · rw [List.length_map, t1.1, sizeLine_eq]
      show 5 ≤ _
      decide
    have a1 := same_new (o := .lst (es1.map V.ref)) m1
    have n1 : H l1 = none := s1.free m1
    have S1 := s1.trans a1
    have T1 := t1.same a1
    have L1 : (upd h1 l1 (.lst (es1.map V.ref))) l1 = some (.lst (es1.map V.ref)) := upd_same
    refine ⟨_, rfl, errs_made0 [C 5, C 6, C 7, C 8, C 9] _ _ fun h2 es2 s2 t2 => ⟨?_, fun q2 m2 => ?_⟩⟩
    · rw [List.length_map, t2.1, sizeLine_eq]
      show 5 ≤ _
      decide
    have b2 := same_new (o := .lst (es2.map V.ref)) m2
    refine ⟨l1, q2, _, _, rfl, rfl, b2 _ _ (s2 _ _ L1), upd_same, ?_, fun l2 p2 => ?_⟩
    · rw [List.length_map, List.length_map, T1.1, t2.1, sizeLine_eq]
      show 5 + 5 ≤ _
      decide
    have c2 := same_new (o := .lst (es1.map V.ref ++ es2.map V.ref)) p2
    have S2 := S1.trans (s2.trans (b2.trans c2))
    have T2 := (T1.same (s2.trans (b2.trans c2))).app (t2.same (b2.trans c2))
    generalize hE2 : es1 ++ es2 = E2 at T2
    have L2 : (upd (upd h2 q2 (.lst (es2.map V.ref))) l2 (.lst (es1.map V.ref ++ es2.map V.ref))) l2 = some (.lst (E2.map V.ref)) := by
      rw [upd_same, ← hE2, List.map_append]
    have n2 : H l2 = none := S1.free ((s2.trans b2).free p2)
    refine ⟨_, rfl, errs_made0 [C 10, C 11, C 12, C 13, C 14] _ _ fun h3 es3 s3 t3 => ⟨?_, fun q3 m3 => ?_⟩⟩
    · rw [List.length_map, t3.1, sizeLine_eq]
      show 5 ≤ _
      decide
    have b3 := same_new (o := .lst (es3.map V.ref)) m3
    refine ⟨l2, q3, _, _, rfl, rfl, b3 _ _ (s3 _ _ L2), upd_same, ?_, fun l3 p3 => ?_⟩
    · rw [List.length_map, List.length_map, T2.1, t3.1, sizeLine_eq]
      show 10 + 5 ≤ _
      decide
    have c3 := same_new (o := .lst ((E2).map V.ref ++ es3.map V.ref)) p3
    have S3 := S2.trans (s3.trans (b3.trans c3))
    have T3 := (T2.same (s3.trans (b3.trans c3))).app (t3.same (b3.trans c3))
    generalize hE3 : E2 ++ es3 = E3 at T3
    have L3 : (upd (upd h3 q3 (.lst (es3.map V.ref))) l3 (.lst (E2.map V.ref ++ es3.map V.ref))) l3 = some (.lst (E3.map V.ref)) := by
      rw [upd_same, ← hE3, List.map_append]
    have n3 : H l3 = none := S2.free ((s3.trans b3).free p3)
    refine ⟨_, rfl, errs_made0 [C 15, C 16, C 17, C 18, C 19, C 20] _ _ fun h4 es4 s4 t4 => ⟨?_, fun q4 m4 => ?_⟩⟩
    · rw [List.length_map, t4.1, sizeLine_eq]
      show 6 ≤ _
      decide
    have b4 := same_new (o := .lst (es4.map V.ref)) m4
    refine ⟨l3, q4, _, _, rfl, rfl, b4 _ _ (s4 _ _ L3), upd_same, ?_, fun l4 p4 => ?_⟩
    · rw [List.length_map, List.length_map, T3.1, t4.1, sizeLine_eq]
      show 15 + 6 ≤ _
      decide
    have c4 := same_new (o := .lst ((E3).map V.ref ++ es4.map V.ref)) p4
    have S4 := S3.trans (s4.trans (b4.trans c4))
    have T4 := (T3.same (s4.trans (b4.trans c4))).app (t4.same (b4.trans c4))
    generalize hE4 : E3 ++ es4 = E4 at T4
    have L4 : (upd (upd h4 q4 (.lst (es4.map V.ref))) l4 (.lst (E3.map V.ref ++ es4.map V.ref))) l4 = some (.lst (E4.map V.ref)) := by
      rw [upd_same, ← hE4, List.map_append]
    have n4 : H l4 = none := S3.free ((s4.trans b4).free p4)
    refine ⟨_, rfl, errs_made0 [C 21, C 22, C 23, C 24, C 25, C 26] _ _ fun h5 es5 s5 t5 => ⟨?_, fun q5 m5 => ?_⟩⟩
    · rw [List.length_map, t5.1, sizeLine_eq]
      show 6 ≤ _
      decide
    have b5 := same_new (o := .lst (es5.map V.ref)) m5
    refine ⟨l4, q5, _, _, rfl, rfl, b5 _ _ (s5 _ _ L4), upd_same, ?_, fun l5 p5 => ?_⟩
    · rw [List.length_map, List.length_map, T4.1, t5.1, sizeLine_eq]
      show 21 + 6 ≤ _
      decide
    have c5 := same_new (o := .lst ((E4).map V.ref ++ es5.map V.ref)) p5
    have S5 := S4.trans (s5.trans (b5.trans c5))
    have T5 := (T4.same (s5.trans (b5.trans c5))).app (t5.same (b5.trans c5))
    generalize hE5 : E4 ++ es5 = E5 at T5
    have L5 : (upd (upd h5 q5 (.lst (es5.map V.ref))) l5 (.lst (E4.map V.ref ++ es5.map V.ref))) l5 = some (.lst (E5.map V.ref)) := by
      rw [upd_same, ← hE5, List.map_append]
    have n5 : H l5 = none := S4.free ((s5.trans b5).free p5)
    exact ⟨_, rfl, k _ l5 E5 S5 n5 L5 T5⟩
end
end K1

set_option Elab.async false
set_option linter.all false
set_option maxRecDepth 100000
set_option maxHeartbeats 600000
namespace K1
open PySem L2
theorem scK : FnScope ["_law_error", "_law_found", "_law_at"] ["_law_error"] (defScope sCode) := ⟨rfl, rfl, rfl, by decide +kernel, rfl, by decide +kernel, by decide +kernel⟩
theorem scE : FnScope ["_law_error"] ["_law_error"] (defScope sIsErr) := ⟨rfl, rfl, rfl, by decide +kernel, rfl, by decide +kernel, by decide +kernel⟩
theorem scR : FnScope ["_law_some", "_law_noted", "_law_error", "_law_at"] ["_law_some", "_law_noted"] (defScope sRight) := ⟨rfl, rfl, rfl, by decide +kernel, rfl, by decide +kernel, by decide +kernel⟩
/-- the class object at c, with the classes bm above it -/
def LookC (K : PySem.W.Frag) (c : Addr) (bm : List Value) : Prop := ∃ nm q N bs sn sub ab col dd k0 k1 k2 k3 k5, K.lookup c = some (excClassObj nm q c N bs bm true sn sub ab col dd k0 k1 k2 k3 k5 "ValueError.__new__")
/-- the twenty-nine classes, and at 29 the one they all are derived from -/
structure Classes (K : PySem.W.Frag) (C : Nat → Addr) : Prop where
  look : ∀ i, i < 29 → LookC K (C i) (.ref (C 29) :: PySem.HandSPX.veTail)
  lookF : LookC K (C 29) PySem.HandSPX.veTail
  apart : ∀ i j, i < 30 → j < 30 → C i = C j → i = j
  exc : ∀ i, i < 30 → ExcC K (C i)
section
variable {K : PySem.W.Frag} {C : Nat → Addr}
theorem LookC.cls {c : Addr} {bm : List Value} (h : LookC K c bm) : ∃ cd : ClassData, PySem.W.clsIn K c = some cd ∧ cd.mro = .ref c :: bm := by
  obtain ⟨nm, q, N, bs, sn, sub, ab, col, dd, k0, k1, k2, k3, k5, e⟩ := h
  unfold PySem.W.clsIn
  rw [e]
  exact ⟨_, rfl, rfl⟩
theorem LookC.ty {c : Addr} {bm : List Value} (h : LookC K c bm) : PySem.W.typeIn K (.ref c) = some (.type "type") := by
  obtain ⟨nm, q, N, bs, sn, sub, ab, col, dd, k0, k1, k2, k3, k5, e⟩ := h
  show (K.lookup c).map (·.cls) = _
  rw [e]
  rfl
theorem LookC.sub {c : Addr} {bm : List Value} (h : LookC K c bm) (t : Value) : PySem.W.subIn K (.ref c) t = some ((Value.ref c :: bm).contains t) := by
  obtain ⟨cd, e1, e2⟩ := h.cls
  show PySem.W.mroIn K c t = _
  unfold PySem.W.mroIn
  rw [e1, Option.bind_some, e2]
  rfl
theorem Classes.any (T : Classes K C) {i : Nat} (h : i < 30) : ∃ bm, LookC K (C i) bm ∧ bm = (if i = 29 then PySem.HandSPX.veTail else .ref (C 29) :: PySem.HandSPX.veTail) := by
  by_cases e : i = 29
  · subst e
    exact ⟨_, T.lookF, by rw [if_pos rfl]⟩
  · exact ⟨_, T.look i (by omega), by rw [if_neg e]⟩
theorem Classes.kit (T : Classes K C) {k i : Nat} (hk : k < 30) (hi : i < 29) : PySem.W.kitOne K (.ref (C k)) (.ref (C i)) = some (decide (k = i)) := by
  unfold PySem.W.kitOne
  by_cases e : k = i
  · subst e
    rw [if_pos (by simp)]
    simp
  · have ne : C k ≠ C i := fun z => e (T.apart k i hk (by omega) z)
    have ne9 : C 29 ≠ C i := fun z => by
      have := T.apart 29 i (by omega) (by omega) z
      omega
    rw [if_neg (by simpa using ne)]
    obtain ⟨cd, e1, e2⟩ := (T.look i hi).cls
    show (if ((PySem.W.clsIn K (C i)).isSome && PySem.W.typeIn K (.ref (C i)) == some (.type "type")) = true then PySem.W.subIn K (.ref (C k)) (.ref (C i)) else none) = _
    rw [e1, (T.look i hi).ty, if_pos (by simp)]
    obtain ⟨bm, hb, eb⟩ := T.any hk
    rw [hb.sub, eb, decide_eq_false e]
    have h1 : (Value.ref (C i) == Value.ref (C k)) = false := beq_eq_false_iff_ne.mpr fun z => ne (Value.ref.inj z).symm
    have h2 : (Value.ref (C i) == Value.ref (C 29)) = false := beq_eq_false_iff_ne.mpr fun z => ne9 (Value.ref.inj z).symm
    have h3 : PySem.HandSPX.veTail.contains (Value.ref (C i)) = false := rfl
    split
    · rw [List.contains_cons, h1, h3]
      rfl
    · rw [List.contains_cons, List.contains_cons, h1, h2, h3]
      rfl
theorem Classes.kitF (T : Classes K C) {k : Nat} (hk : k < 30) : PySem.W.kitOne K (.ref (C k)) (.ref (C 29)) = some true := by
  unfold PySem.W.kitOne
  by_cases e : k = 29
  · subst e
    rw [if_pos (by simp)]
  · have ne : C k ≠ C 29 := fun z => e (T.apart k 29 hk (by omega) z)
    rw [if_neg (by simpa using ne)]
    obtain ⟨cd, e1, e2⟩ := T.lookF.cls
    show (if ((PySem.W.clsIn K (C 29)).isSome && PySem.W.typeIn K (.ref (C 29)) == some (.type "type")) = true then PySem.W.subIn K (.ref (C k)) (.ref (C 29)) else none) = _
    rw [e1, T.lookF.ty, if_pos (by simp), (T.look k (by omega)).sub]
    simp
theorem Classes.kitV (T : Classes K C) {k : Nat} (hk : k < 30) : PySem.W.kitOne K (.ref (C k)) (.type "ValueError") = some true := by
  unfold PySem.W.kitOne
  rw [if_neg (by simp)]
  show (if PySem.W.kitMeta "ValueError" = true then PySem.W.subIn K (.ref (C k)) (.type "ValueError") else none) = _
  rw [if_pos (by decide +kernel)]
  obtain ⟨bm, hb, eb⟩ := T.any hk
  rw [hb.sub, eb]
  split <;> simp [PySem.HandSPX.veTail]
end
def codeN (k n : Nat) : List V := ((List.range n).filter fun j : Nat => decide (k = j)).map fun j : Nat => V.int (j : Int)
def codeL (k : Nat) : List V := codeN k 29
theorem codeL_of {k : Nat} (h : k < 29) : codeL k = [V.int (k : Int)] := by
  have all : ∀ k : Fin 29, codeL k.val = [V.int ((k.val : Nat) : Int)] := by decide +kernel
  exact all ⟨k, h⟩
theorem codeL_29 : codeL 29 = [] := by decide +kernel
def spCode (C : Nat → Addr) : Sp := fun vs H Q _ => ∃ (e : Addr) (k : Nat), vs = [.ref e] ∧ k < 30 ∧ IsE H e (C k) ∧ ∀ (H' : Hp) (L : Addr), Same H H' → H L = none → H' L = some (.lst (codeL k)) → Q (.ref L) H'
def spIsErr (C : Nat → Addr) : Sp := fun vs H Q _ => ∃ (e : Addr) (k : Nat), vs = [.ref e] ∧ k < 30 ∧ IsE H e (C k) ∧ Q (.bl true) H
theorem IsE.same {H H' : Hp} {e D : Addr} (h : IsE H e D) (s : Same H H') : IsE H' e D := by
  cases h with
  | val h => exact .val (h.same s)
  | bare h => exact .bare (s _ _ h)
def tIsis (K : PySem.W.Frag) (C : Nat → Addr) : List Nat → TA
  | [] => tNil
  | i :: is => tCons (tCB (rIsErr K) (tCons (tVar 0) (tCons (tC (.ref (C i))) tNil))) (tIsis K C is)
theorem isis_said {K : PySem.W.Frag} {C : Nat → Addr} (T : Classes K C) {σ : St} {e : Addr} {k : Nat} {H : Hp} (h0 : σ[0]? = some (some (.ref e))) (hk : k < 30) (hE : IsE H e (C k)) : ∀ (is : List Nat) (Q : List V → Hp → Prop), (∀ i ∈ is, i < 29) → Q (is.map fun i => V.bl (decide (k = i))) H → tIsis K C is σ H Q
  | [], Q, _, q => q
  | i :: is, Q, hi, q => ⟨_, h0, e, C k, _, _, _, rfl, .own _, T.exc k hk, hE, T.kit hk (hi i (List.mem_cons_self ..)), isis_said T h0 hk hE is _ (fun j hj => hi j (List.mem_cons_of_mem _ hj)) q⟩
section
variable {P : Program} {w : World} {K : PySem.W.Frag} {mg : Str → Option Value} {base : Heap}

theorem ok_code {f : Addr} {fd : FuncData} {C : Nat → Addr} (F : Fun K "_law_code" "_law_code" sCode f fd) (T : Classes K C) (G : ∀ i, i < 29 → mg (nm i) = some (.ref (C i))) (zi : mg "isinstance" = none) (B : Bt mg) : FnOk P w K mg base CX0 1 f fd ["_law_error"] (spCode C) := by
  refine F.ok scK (fun vs H Q E h => ?_) (fun cdv A outer s H vs Q E0 hr h => ?_)
  · obtain ⟨_, _, rfl, _⟩ := h
    rfl
  · obtain ⟨e, k, rfl, hk, hE, kk⟩ := h
    refine ⟨_, (pss_cons (ps_set (i := 1) scK.nd rfl (Or.inr rfl) (pe_lst (pa_cons (pe_callB call_isErr (by rfl) zi (by decide +kernel) (pa_cons (pv 0) (pa_cons (pe_glob (v := .ref (C 0)) rfl (G 0 (by decide)) rfl) pa_nil))) (pa_cons (pe_callB call_isErr (by rfl) zi (by decide +kernel) (pa_cons (pv 0) (pa_cons (pe_glob (v := .ref (C 1)) rfl (G 1 (by decide)) rfl) pa_nil))) (pa_cons (pe_callB call_isErr (by rfl) zi (by decide +kernel) (pa_cons (pv 0) (pa_cons (pe_glob (v := .ref (C 2)) rfl (G 2 (by decide)) rfl) pa_nil))) pa_nil)))))
      (pss_cons (ps_set (i := 1) scK.nd rfl (Or.inr rfl) (pe_op op_cat (pv 1) (pe_lst (pa_cons (pe_callB call_isErr (by rfl) zi (by decide +kernel) (pa_cons (pv 0) (pa_cons (pe_glob (v := .ref (C 3)) rfl (G 3 (by decide)) rfl) pa_nil))) (pa_cons (pe_callB call_isErr (by rfl) zi (by decide +kernel) (pa_cons (pv 0) (pa_cons (pe_glob (v := .ref (C 4)) rfl (G 4 (by decide)) rfl) pa_nil))) pa_nil)))))
      (pss_cons (ps_set (i := 1) scK.nd rfl (Or.inr rfl) (pe_op op_cat (pv 1) (pe_lst (pa_cons (pe_callB call_isErr (by rfl) zi (by decide +kernel) (pa_cons (pv 0) (pa_cons (pe_glob (v := .ref (C 5)) rfl (G 5 (by decide)) rfl) pa_nil))) (pa_cons (pe_callB call_isErr (by rfl) zi (by decide +kernel) (pa_cons (pv 0) (pa_cons (pe_glob (v := .ref (C 6)) rfl (G 6 (by decide)) rfl) pa_nil))) pa_nil)))))
      (pss_cons (ps_set (i := 1) scK.nd rfl (Or.inr rfl) (pe_op op_cat (pv 1) (pe_lst (pa_cons (pe_callB call_isErr (by rfl) zi (by decide +kernel) (pa_cons (pv 0) (pa_cons (pe_glob (v := .ref (C 7)) rfl (G 7 (by decide)) rfl) pa_nil))) (pa_cons (pe_callB call_isErr (by rfl) zi (by decide +kernel) (pa_cons (pv 0) (pa_cons (pe_glob (v := .ref (C 8)) rfl (G 8 (by decide)) rfl) pa_nil))) pa_nil)))))
      (pss_cons (ps_set (i := 1) scK.nd rfl (Or.inr rfl) (pe_op op_cat (pv 1) (pe_lst (pa_cons (pe_callB call_isErr (by rfl) zi (by decide +kernel) (pa_cons (pv 0) (pa_cons (pe_glob (v := .ref (C 9)) rfl (G 9 (by decide)) rfl) pa_nil))) (pa_cons (pe_callB call_isErr (by rfl) zi (by decide +kernel) (pa_cons (pv 0) (pa_cons (pe_glob (v := .ref (C 10)) rfl (G 10 (by decide)) rfl) pa_nil))) pa_nil)))))
      (pss_cons (ps_set (i := 1) scK.nd rfl (Or.inr rfl) (pe_op op_cat (pv 1) (pe_lst (pa_cons (pe_callB call_isErr (by rfl) zi (by decide +kernel) (pa_cons (pv 0) (pa_cons (pe_glob (v := .ref (C 11)) rfl (G 11 (by decide)) rfl) pa_nil))) (pa_cons (pe_callB call_isErr (by rfl) zi (by decide +kernel) (pa_cons (pv 0) (pa_cons (pe_glob (v := .ref (C 12)) rfl (G 12 (by decide)) rfl) pa_nil))) pa_nil)))))
      (pss_cons (ps_set (i := 1) scK.nd rfl (Or.inr rfl) (pe_op op_cat (pv 1) (pe_lst (pa_cons (pe_callB call_isErr (by rfl) zi (by decide +kernel) (pa_cons (pv 0) (pa_cons (pe_glob (v := .ref (C 13)) rfl (G 13 (by decide)) rfl) pa_nil))) (pa_cons (pe_callB call_isErr (by rfl) zi (by decide +kernel) (pa_cons (pv 0) (pa_cons (pe_glob (v := .ref (C 14)) rfl (G 14 (by decide)) rfl) pa_nil))) pa_nil)))))
      (pss_cons (ps_set (i := 1) scK.nd rfl (Or.inr rfl) (pe_op op_cat (pv 1) (pe_lst (pa_cons (pe_callB call_isErr (by rfl) zi (by decide +kernel) (pa_cons (pv 0) (pa_cons (pe_glob (v := .ref (C 15)) rfl (G 15 (by decide)) rfl) pa_nil))) (pa_cons (pe_callB call_isErr (by rfl) zi (by decide +kernel) (pa_cons (pv 0) (pa_cons (pe_glob (v := .ref (C 16)) rfl (G 16 (by decide)) rfl) pa_nil))) pa_nil)))))
      (pss_cons (ps_set (i := 1) scK.nd rfl (Or.inr rfl) (pe_op op_cat (pv 1) (pe_lst (pa_cons (pe_callB call_isErr (by rfl) zi (by decide +kernel) (pa_cons (pv 0) (pa_cons (pe_glob (v := .ref (C 17)) rfl (G 17 (by decide)) rfl) pa_nil))) (pa_cons (pe_callB call_isErr (by rfl) zi (by decide +kernel) (pa_cons (pv 0) (pa_cons (pe_glob (v := .ref (C 18)) rfl (G 18 (by decide)) rfl) pa_nil))) pa_nil)))))
      (pss_cons (ps_set (i := 1) scK.nd rfl (Or.inr rfl) (pe_op op_cat (pv 1) (pe_lst (pa_cons (pe_callB call_isErr (by rfl) zi (by decide +kernel) (pa_cons (pv 0) (pa_cons (pe_glob (v := .ref (C 19)) rfl (G 19 (by decide)) rfl) pa_nil))) (pa_cons (pe_callB call_isErr (by rfl) zi (by decide +kernel) (pa_cons (pv 0) (pa_cons (pe_glob (v := .ref (C 20)) rfl (G 20 (by decide)) rfl) pa_nil))) pa_nil)))))
      (pss_cons (ps_set (i := 1) scK.nd rfl (Or.inr rfl) (pe_op op_cat (pv 1) (pe_lst (pa_cons (pe_callB call_isErr (by rfl) zi (by decide +kernel) (pa_cons (pv 0) (pa_cons (pe_glob (v := .ref (C 21)) rfl (G 21 (by decide)) rfl) pa_nil))) (pa_cons (pe_callB call_isErr (by rfl) zi (by decide +kernel) (pa_cons (pv 0) (pa_cons (pe_glob (v := .ref (C 22)) rfl (G 22 (by decide)) rfl) pa_nil))) pa_nil)))))
      (pss_cons (ps_set (i := 1) scK.nd rfl (Or.inr rfl) (pe_op op_cat (pv 1) (pe_lst (pa_cons (pe_callB call_isErr (by rfl) zi (by decide +kernel) (pa_cons (pv 0) (pa_cons (pe_glob (v := .ref (C 23)) rfl (G 23 (by decide)) rfl) pa_nil))) (pa_cons (pe_callB call_isErr (by rfl) zi (by decide +kernel) (pa_cons (pv 0) (pa_cons (pe_glob (v := .ref (C 24)) rfl (G 24 (by decide)) rfl) pa_nil))) (pa_cons (pe_callB call_isErr (by rfl) zi (by decide +kernel) (pa_cons (pv 0) (pa_cons (pe_glob (v := .ref (C 25)) rfl (G 25 (by decide)) rfl) pa_nil))) pa_nil))))))
      (pss_cons (ps_set (i := 1) scK.nd rfl (Or.inr rfl) (pe_op op_cat (pv 1) (pe_lst (pa_cons (pe_callB call_isErr (by rfl) zi (by decide +kernel) (pa_cons (pv 0) (pa_cons (pe_glob (v := .ref (C 26)) rfl (G 26 (by decide)) rfl) pa_nil))) (pa_cons (pe_callB call_isErr (by rfl) zi (by decide +kernel) (pa_cons (pv 0) (pa_cons (pe_glob (v := .ref (C 27)) rfl (G 27 (by decide)) rfl) pa_nil))) pa_nil)))))
      (pss_cons (ps_set (i := 1) scK.nd rfl (Or.inr rfl) (pe_op op_cat (pv 1) (pe_lst (pa_cons (pe_callB call_isErr (by rfl) zi (by decide +kernel) (pa_cons (pv 0) (pa_cons (pe_glob (v := .ref (C 28)) rfl (G 28 (by decide)) rfl) pa_nil))) pa_nil))))
      (pss_one (ps_ret (pe_lc (own := [("_law_at", 2)]) (g := gName 2) rfl scK.nd (pi_range1 rfl B.range (pa_cons (pe_callB call_len_seq (by rfl) B.len PySem.boot_len (pa_cons (pv 1) pa_nil)) pa_nil))
      (blkOk_by (N := ["_law_error", "_law_found", "_law_at"]) (sc := defScope sCode) (by decide +kernel)) (fun _ _ _ _ _ => pg_name (i := 2) scK.nd rfl (Or.inl rfl)) (fun _ _ _ _ _ => pts_one (pt_val (pe_ix (r := rIxL K) ix_list (pv 1) (pv 2) (fun _ _ => rfl))))
      (fun _ _ _ _ _ => pv 2)))))))))))))))))), ?_⟩
    dsimp only [tSeq, tAsg, tLst, gName]
    have e0 : L2.start ["_law_error", "_law_found", "_law_at"] [V.ref e] = [some (V.ref e), none, none] := rfl
    rw [e0]
    refine isis_said T rfl hk (hE) [0, 1, 2] _ (by decide) ⟨by rw [List.length_map, sizeLine_eq]; decide, fun l1 m1 => ?_⟩
    have S1 := same_new (o := .lst (([0, 1, 2] : List Nat).map fun i => V.bl (decide (k = i)))) m1
    have hE1 := hE.same S1
    have L1 : (upd H l1 (.lst (([0, 1, 2] : List Nat).map fun i => V.bl (decide (k = i))))) l1 = some (.lst (([0, 1, 2] : List Nat).map fun i => V.bl (decide (k = i)))) := upd_same
    generalize upd H l1 _ = h1 at *
    simp only [List.set_cons_succ, List.set_cons_zero]
    refine ⟨_, rfl, isis_said T rfl hk (hE1) [3, 4] _ (by decide) ⟨by rw [List.length_map, sizeLine_eq]; decide, fun q2 m2 => ?_⟩⟩
    have b2 := same_new (o := .lst (([3, 4] : List Nat).map fun i => V.bl (decide (k = i)))) m2
    refine ⟨l1, q2, _, _, rfl, rfl, b2 _ _ L1, upd_same, ?_, fun l2 p2 => ?_⟩
    · rw [List.length_map, List.length_map, sizeLine_eq]
      decide
    have c2 := same_new (o := .lst (([0, 1, 2] : List Nat).map (fun i => V.bl (decide (k = i))) ++ ([3, 4] : List Nat).map fun i => V.bl (decide (k = i)))) p2
    have S2 := S1.trans (b2.trans c2)
    have hE2 := hE1.same (b2.trans c2)
    have n2 : H l2 = none := S1.free (b2.free p2)
    have L2 : (upd (upd h1 q2 (.lst (([3, 4] : List Nat).map fun i => V.bl (decide (k = i))))) l2 (.lst (([0, 1, 2] : List Nat).map (fun i => V.bl (decide (k = i))) ++ ([3, 4] : List Nat).map fun i => V.bl (decide (k = i))))) l2 = some (.lst (([0, 1, 2, 3, 4] : List Nat).map fun i => V.bl (decide (k = i)))) := by
      rw [upd_same]
      rfl
    generalize upd (upd h1 q2 _) l2 _ = h2 at *
    clear b2 c2 m2 p2 S1 hE1 L1
    simp only [List.set_cons_succ, List.set_cons_zero]
    refine ⟨_, rfl, isis_said T rfl hk (hE2) [5, 6] _ (by decide) ⟨by rw [List.length_map, sizeLine_eq]; decide, fun q3 m3 => ?_⟩⟩
    have b3 := same_new (o := .lst (([5, 6] : List Nat).map fun i => V.bl (decide (k = i)))) m3
    refine ⟨l2, q3, _, _, rfl, rfl, b3 _ _ L2, upd_same, ?_, fun l3 p3 => ?_⟩
    · rw [List.length_map, List.length_map, sizeLine_eq]
      decide
    have c3 := same_new (o := .lst (([0, 1, 2, 3, 4] : List Nat).map (fun i => V.bl (decide (k = i))) ++ ([5, 6] : List Nat).map fun i => V.bl (decide (k = i)))) p3
    have S3 := S2.trans (b3.trans c3)
    have hE3 := hE2.same (b3.trans c3)
    have n3 : H l3 = none := S2.free (b3.free p3)
    have L3 : (upd (upd h2 q3 (.lst (([5, 6] : List Nat).map fun i => V.bl (decide (k = i))))) l3 (.lst (([0, 1, 2, 3, 4] : List Nat).map (fun i => V.bl (decide (k = i))) ++ ([5, 6] : List Nat).map fun i => V.bl (decide (k = i))))) l3 = some (.lst (([0, 1, 2, 3, 4, 5, 6] : List Nat).map fun i => V.bl (decide (k = i)))) := by
      rw [upd_same]
      rfl
    generalize upd (upd h2 q3 _) l3 _ = h3 at *
    clear b3 c3 m3 p3 S2 hE2 L2
    simp only [List.set_cons_succ, List.set_cons_zero]
    refine ⟨_, rfl, isis_said T rfl hk (hE3) [7, 8] _ (by decide) ⟨by rw [List.length_map, sizeLine_eq]; decide, fun q4 m4 => ?_⟩⟩
    have b4 := same_new (o := .lst (([7, 8] : List Nat).map fun i => V.bl (decide (k = i)))) m4
    refine ⟨l3, q4, _, _, rfl, rfl, b4 _ _ L3, upd_same, ?_, fun l4 p4 => ?_⟩
    · rw [List.length_map, List.length_map, sizeLine_eq]
      decide
    have c4 := same_new (o := .lst (([0, 1, 2, 3, 4, 5, 6] : List Nat).map (fun i => V.bl (decide (k = i))) ++ ([7, 8] : List Nat).map fun i => V.bl (decide (k = i)))) p4
    have S4 := S3.trans (b4.trans c4)
    have hE4 := hE3.same (b4.trans c4)
    have n4 : H l4 = none := S3.free (b4.free p4)
    have L4 : (upd (upd h3 q4 (.lst (([7, 8] : List Nat).map fun i => V.bl (decide (k = i))))) l4 (.lst (([0, 1, 2, 3, 4, 5, 6] : List Nat).map (fun i => V.bl (decide (k = i))) ++ ([7, 8] : List Nat).map fun i => V.bl (decide (k = i))))) l4 = some (.lst (([0, 1, 2, 3, 4, 5, 6, 7, 8] : List Nat).map fun i => V.bl (decide (k = i)))) := by
      rw [upd_same]
      rfl
    generalize upd (upd h3 q4 _) l4 _ = h4 at *
    clear b4 c4 m4 p4 S3 hE3 L3
    simp only [List.set_cons_succ, List.set_cons_zero]
    refine ⟨_, rfl, isis_said T rfl hk (hE4) [9, 10] _ (by decide) ⟨by rw [List.length_map, sizeLine_eq]; decide, fun q5 m5 => ?_⟩⟩
    have b5 := same_new (o := .lst (([9, 10] : List Nat).map fun i => V.bl (decide (k = i)))) m5
    refine ⟨l4, q5, _, _, rfl, rfl, b5 _ _ L4, upd_same, ?_, fun l5 p5 => ?_⟩
    · rw [List.length_map, List.length_map, sizeLine_eq]
      decide
    have c5 := same_new (o := .lst (([0, 1, 2, 3, 4, 5, 6, 7, 8] : List Nat).map (fun i => V.bl (decide (k = i))) ++ ([9, 10] : List Nat).map fun i => V.bl (decide (k = i)))) p5
    have S5 := S4.trans (b5.trans c5)
    have hE5 := hE4.same (b5.trans c5)
    have n5 : H l5 = none := S4.free (b5.free p5)
    have L5 : (upd (upd h4 q5 (.lst (([9, 10] : List Nat).map fun i => V.bl (decide (k = i))))) l5 (.lst (([0, 1, 2, 3, 4, 5, 6, 7, 8] : List Nat).map (fun i => V.bl (decide (k = i))) ++ ([9, 10] : List Nat).map fun i => V.bl (decide (k = i))))) l5 = some (.lst (([0, 1, 2, 3, 4, 5, 6, 7, 8, 9, 10] : List Nat).map fun i => V.bl (decide (k = i)))) := by
      rw [upd_same]
      rfl
    generalize upd (upd h4 q5 _) l5 _ = h5 at *
    clear b5 c5 m5 p5 S4 hE4 L4
    simp only [List.set_cons_succ, List.set_cons_zero]
    refine ⟨_, rfl, isis_said T rfl hk (hE5) [11, 12] _ (by decide) ⟨by rw [List.length_map, sizeLine_eq]; decide, fun q6 m6 => ?_⟩⟩
    have b6 := same_new (o := .lst (([11, 12] : List Nat).map fun i => V.bl (decide (k = i)))) m6
    refine ⟨l5, q6, _, _, rfl, rfl, b6 _ _ L5, upd_same, ?_, fun l6 p6 => ?_⟩
    · rw [List.length_map, List.length_map, sizeLine_eq]
      decide
    have c6 := same_new (o := .lst (([0, 1, 2, 3, 4, 5, 6, 7, 8, 9, 10] : List Nat).map (fun i => V.bl (decide (k = i))) ++ ([11, 12] : List Nat).map fun i => V.bl (decide (k = i)))) p6
    have S6 := S5.trans (b6.trans c6)
    have hE6 := hE5.same (b6.trans c6)
    have n6 : H l6 = none := S5.free (b6.free p6)
    have L6 : (upd (upd h5 q6 (.lst (([11, 12] : List Nat).map fun i => V.bl (decide (k = i))))) l6 (.lst (([0, 1, 2, 3, 4, 5, 6, 7, 8, 9, 10] : List Nat).map (fun i => V.bl (decide (k = i))) ++ ([11, 12] : List Nat).map fun i => V.bl (decide (k = i))))) l6 = some (.lst (([0, 1, 2, 3, 4, 5, 6, 7, 8, 9, 10, 11, 12] : List Nat).map fun i => V.bl (decide (k = i)))) := by
      rw [upd_same]
      rfl
    generalize upd (upd h5 q6 _) l6 _ = h6 at *
    clear b6 c6 m6 p6 S5 hE5 L5
    simp only [List.set_cons_succ, List.set_cons_zero]
    refine ⟨_, rfl, isis_said T rfl hk (hE6) [13, 14] _ (by decide) ⟨by rw [List.length_map, sizeLine_eq]; decide, fun q7 m7 => ?_⟩⟩
    have b7 := same_new (o := .lst (([13, 14] : List Nat).map fun i => V.bl (decide (k = i)))) m7
    refine ⟨l6, q7, _, _, rfl, rfl, b7 _ _ L6, upd_same, ?_, fun l7 p7 => ?_⟩
    · rw [List.length_map, List.length_map, sizeLine_eq]
      decide
    have c7 := same_new (o := .lst (([0, 1, 2, 3, 4, 5, 6, 7, 8, 9, 10, 11, 12] : List Nat).map (fun i => V.bl (decide (k = i))) ++ ([13, 14] : List Nat).map fun i => V.bl (decide (k = i)))) p7
    have S7 := S6.trans (b7.trans c7)
    have hE7 := hE6.same (b7.trans c7)
    have n7 : H l7 = none := S6.free (b7.free p7)
    have L7 : (upd (upd h6 q7 (.lst (([13, 14] : List Nat).map fun i => V.bl (decide (k = i))))) l7 (.lst (([0, 1, 2, 3, 4, 5, 6, 7, 8, 9, 10, 11, 12] : List Nat).map (fun i => V.bl (decide (k = i))) ++ ([13, 14] : List Nat).map fun i => V.bl (decide (k = i))))) l7 = some (.lst (([0, 1, 2, 3, 4, 5, 6, 7, 8, 9, 10, 11, 12, 13, 14] : List Nat).map fun i => V.bl (decide (k = i)))) := by
      rw [upd_same]
      rfl
    generalize upd (upd h6 q7 _) l7 _ = h7 at *
    clear b7 c7 m7 p7 S6 hE6 L6
    simp only [List.set_cons_succ, List.set_cons_zero]
    refine ⟨_, rfl, isis_said T rfl hk (hE7) [15, 16] _ (by decide) ⟨by rw [List.length_map, sizeLine_eq]; decide, fun q8 m8 => ?_⟩⟩
    have b8 := same_new (o := .lst (([15, 16] : List Nat).map fun i => V.bl (decide (k = i)))) m8
    refine ⟨l7, q8, _, _, rfl, rfl, b8 _ _ L7, upd_same, ?_, fun l8 p8 => ?_⟩
    · rw [List.length_map, List.length_map, sizeLine_eq]
      decide
    have c8 := same_new (o := .lst (([0, 1, 2, 3, 4, 5, 6, 7, 8, 9, 10, 11, 12, 13, 14] : List Nat).map (fun i => V.bl (decide (k = i))) ++ ([15, 16] : List Nat).map fun i => V.bl (decide (k = i)))) p8
    have S8 := S7.trans (b8.trans c8)
    have hE8 := hE7.same (b8.trans c8)
    have n8 : H l8 = none := S7.free (b8.free p8)
    have L8 : (upd (upd h7 q8 (.lst (([15, 16] : List Nat).map fun i => V.bl (decide (k = i))))) l8 (.lst (([0, 1, 2, 3, 4, 5, 6, 7, 8, 9, 10, 11, 12, 13, 14] : List Nat).map (fun i => V.bl (decide (k = i))) ++ ([15, 16] : List Nat).map fun i => V.bl (decide (k = i))))) l8 = some (.lst (([0, 1, 2, 3, 4, 5, 6, 7, 8, 9, 10, 11, 12, 13, 14, 15, 16] : List Nat).map fun i => V.bl (decide (k = i)))) := by
      rw [upd_same]
      rfl
    generalize upd (upd h7 q8 _) l8 _ = h8 at *
    clear b8 c8 m8 p8 S7 hE7 L7
    simp only [List.set_cons_succ, List.set_cons_zero]
    refine ⟨_, rfl, isis_said T rfl hk (hE8) [17, 18] _ (by decide) ⟨by rw [List.length_map, sizeLine_eq]; decide, fun q9 m9 => ?_⟩⟩
    have b9 := same_new (o := .lst (([17, 18] : List Nat).map fun i => V.bl (decide (k = i)))) m9
    refine ⟨l8, q9, _, _, rfl, rfl, b9 _ _ L8, upd_same, ?_, fun l9 p9 => ?_⟩
    · rw [List.length_map, List.length_map, sizeLine_eq]
      decide
    have c9 := same_new (o := .lst (([0, 1, 2, 3, 4, 5, 6, 7, 8, 9, 10, 11, 12, 13, 14, 15, 16] : List Nat).map (fun i => V.bl (decide (k = i))) ++ ([17, 18] : List Nat).map fun i => V.bl (decide (k = i)))) p9
    have S9 := S8.trans (b9.trans c9)
    have hE9 := hE8.same (b9.trans c9)
    have n9 : H l9 = none := S8.free (b9.free p9)
    have L9 : (upd (upd h8 q9 (.lst (([17, 18] : List Nat).map fun i => V.bl (decide (k = i))))) l9 (.lst (([0, 1, 2, 3, 4, 5, 6, 7, 8, 9, 10, 11, 12, 13, 14, 15, 16] : List Nat).map (fun i => V.bl (decide (k = i))) ++ ([17, 18] : List Nat).map fun i => V.bl (decide (k = i))))) l9 = some (.lst (([0, 1, 2, 3, 4, 5, 6, 7, 8, 9, 10, 11, 12, 13, 14, 15, 16, 17, 18] : List Nat).map fun i => V.bl (decide (k = i)))) := by
      rw [upd_same]
      rfl
    generalize upd (upd h8 q9 _) l9 _ = h9 at *
    clear b9 c9 m9 p9 S8 hE8 L8
    simp only [List.set_cons_succ, List.set_cons_zero]
    refine ⟨_, rfl, isis_said T rfl hk (hE9) [19, 20] _ (by decide) ⟨by rw [List.length_map, sizeLine_eq]; decide, fun q10 m10 => ?_⟩⟩
    have b10 := same_new (o := .lst (([19, 20] : List Nat).map fun i => V.bl (decide (k = i)))) m10
    refine ⟨l9, q10, _, _, rfl, rfl, b10 _ _ L9, upd_same, ?_, fun l10 p10 => ?_⟩
    · rw [List.length_map, List.length_map, sizeLine_eq]
      decide
    have c10 := same_new (o := .lst (([0, 1, 2, 3, 4, 5, 6, 7, 8, 9, 10, 11, 12, 13, 14, 15, 16, 17, 18] : List Nat).map (fun i => V.bl (decide (k = i))) ++ ([19, 20] : List Nat).map fun i => V.bl (decide (k = i)))) p10
    have S10 := S9.trans (b10.trans c10)
    have hE10 := hE9.same (b10.trans c10)
    have n10 : H l10 = none := S9.free (b10.free p10)
    have L10 : (upd (upd h9 q10 (.lst (([19, 20] : List Nat).map fun i => V.bl (decide (k = i))))) l10 (.lst (([0, 1, 2, 3, 4, 5, 6, 7, 8, 9, 10, 11, 12, 13, 14, 15, 16, 17, 18] : List Nat).map (fun i => V.bl (decide (k = i))) ++ ([19, 20] : List Nat).map fun i => V.bl (decide (k = i))))) l10 = some (.lst (([0, 1, 2, 3, 4, 5, 6, 7, 8, 9, 10, 11, 12, 13, 14, 15, 16, 17, 18, 19, 20] : List Nat).map fun i => V.bl (decide (k = i)))) := by
      rw [upd_same]
      rfl
    generalize upd (upd h9 q10 _) l10 _ = h10 at *
    clear b10 c10 m10 p10 S9 hE9 L9
    simp only [List.set_cons_succ, List.set_cons_zero]
    refine ⟨_, rfl, isis_said T rfl hk (hE10) [21, 22] _ (by decide) ⟨by rw [List.length_map, sizeLine_eq]; decide, fun q11 m11 => ?_⟩⟩
    have b11 := same_new (o := .lst (([21, 22] : List Nat).map fun i => V.bl (decide (k = i)))) m11
    refine ⟨l10, q11, _, _, rfl, rfl, b11 _ _ L10, upd_same, ?_, fun l11 p11 => ?_⟩
    · rw [List.length_map, List.length_map, sizeLine_eq]
      decide
    have c11 := same_new (o := .lst (([0, 1, 2, 3, 4, 5, 6, 7, 8, 9, 10, 11, 12, 13, 14, 15, 16, 17, 18, 19, 20] : List Nat).map (fun i => V.bl (decide (k = i))) ++ ([21, 22] : List Nat).map fun i => V.bl (decide (k = i)))) p11
    have S11 := S10.trans (b11.trans c11)
    have hE11 := hE10.same (b11.trans c11)
    have n11 : H l11 = none := S10.free (b11.free p11)
    have L11 : (upd (upd h10 q11 (.lst (([21, 22] : List Nat).map fun i => V.bl (decide (k = i))))) l11 (.lst (([0, 1, 2, 3, 4, 5, 6, 7, 8, 9, 10, 11, 12, 13, 14, 15, 16, 17, 18, 19, 20] : List Nat).map (fun i => V.bl (decide (k = i))) ++ ([21, 22] : List Nat).map fun i => V.bl (decide (k = i))))) l11 = some (.lst (([0, 1, 2, 3, 4, 5, 6, 7, 8, 9, 10, 11, 12, 13, 14, 15, 16, 17, 18, 19, 20, 21, 22] : List Nat).map fun i => V.bl (decide (k = i)))) := by
      rw [upd_same]
      rfl
    generalize upd (upd h10 q11 _) l11 _ = h11 at *
    clear b11 c11 m11 p11 S10 hE10 L10
    simp only [List.set_cons_succ, List.set_cons_zero]
    refine ⟨_, rfl, isis_said T rfl hk (hE11) [23, 24, 25] _ (by decide) ⟨by rw [List.length_map, sizeLine_eq]; decide, fun q12 m12 => ?_⟩⟩
    have b12 := same_new (o := .lst (([23, 24, 25] : List Nat).map fun i => V.bl (decide (k = i)))) m12
    refine ⟨l11, q12, _, _, rfl, rfl, b12 _ _ L11, upd_same, ?_, fun l12 p12 => ?_⟩
    · rw [List.length_map, List.length_map, sizeLine_eq]
      decide
    have c12 := same_new (o := .lst (([0, 1, 2, 3, 4, 5, 6, 7, 8, 9, 10, 11, 12, 13, 14, 15, 16, 17, 18, 19, 20, 21, 22] : List Nat).map (fun i => V.bl (decide (k = i))) ++ ([23, 24, 25] : List Nat).map fun i => V.bl (decide (k = i)))) p12
    have S12 := S11.trans (b12.trans c12)
    have hE12 := hE11.same (b12.trans c12)
    have n12 : H l12 = none := S11.free (b12.free p12)
    have L12 : (upd (upd h11 q12 (.lst (([23, 24, 25] : List Nat).map fun i => V.bl (decide (k = i))))) l12 (.lst (([0, 1, 2, 3, 4, 5, 6, 7, 8, 9, 10, 11, 12, 13, 14, 15, 16, 17, 18, 19, 20, 21, 22] : List Nat).map (fun i => V.bl (decide (k = i))) ++ ([23, 24, 25] : List Nat).map fun i => V.bl (decide (k = i))))) l12 = some (.lst (([0, 1, 2, 3, 4, 5, 6, 7, 8, 9, 10, 11, 12, 13, 14, 15, 16, 17, 18, 19, 20, 21, 22, 23, 24, 25] : List Nat).map fun i => V.bl (decide (k = i)))) := by
      rw [upd_same]
      rfl
    generalize upd (upd h11 q12 _) l12 _ = h12 at *
    clear b12 c12 m12 p12 S11 hE11 L11
    simp only [List.set_cons_succ, List.set_cons_zero]
    refine ⟨_, rfl, isis_said T rfl hk (hE12) [26, 27] _ (by decide) ⟨by rw [List.length_map, sizeLine_eq]; decide, fun q13 m13 => ?_⟩⟩
    have b13 := same_new (o := .lst (([26, 27] : List Nat).map fun i => V.bl (decide (k = i)))) m13
    refine ⟨l12, q13, _, _, rfl, rfl, b13 _ _ L12, upd_same, ?_, fun l13 p13 => ?_⟩
    · rw [List.length_map, List.length_map, sizeLine_eq]
      decide
    have c13 := same_new (o := .lst (([0, 1, 2, 3, 4, 5, 6, 7, 8, 9, 10, 11, 12, 13, 14, 15, 16, 17, 18, 19, 20, 21, 22, 23, 24, 25] : List Nat).map (fun i => V.bl (decide (k = i))) ++ ([26, 27] : List Nat).map fun i => V.bl (decide (k = i)))) p13
    have S13 := S12.trans (b13.trans c13)
    have hE13 := hE12.same (b13.trans c13)
    have n13 : H l13 = none := S12.free (b13.free p13)
    have L13 : (upd (upd h12 q13 (.lst (([26, 27] : List Nat).map fun i => V.bl (decide (k = i))))) l13 (.lst (([0, 1, 2, 3, 4, 5, 6, 7, 8, 9, 10, 11, 12, 13, 14, 15, 16, 17, 18, 19, 20, 21, 22, 23, 24, 25] : List Nat).map (fun i => V.bl (decide (k = i))) ++ ([26, 27] : List Nat).map fun i => V.bl (decide (k = i))))) l13 = some (.lst (([0, 1, 2, 3, 4, 5, 6, 7, 8, 9, 10, 11, 12, 13, 14, 15, 16, 17, 18, 19, 20, 21, 22, 23, 24, 25, 26, 27] : List Nat).map fun i => V.bl (decide (k = i)))) := by
      rw [upd_same]
      rfl
    generalize upd (upd h12 q13 _) l13 _ = h13 at *
    clear b13 c13 m13 p13 S12 hE12 L12
    simp only [List.set_cons_succ, List.set_cons_zero]
    refine ⟨_, rfl, isis_said T rfl hk (hE13) [28] _ (by decide) ⟨by rw [List.length_map, sizeLine_eq]; decide, fun q14 m14 => ?_⟩⟩
    have b14 := same_new (o := .lst (([28] : List Nat).map fun i => V.bl (decide (k = i)))) m14
    refine ⟨l13, q14, _, _, rfl, rfl, b14 _ _ L13, upd_same, ?_, fun l14 p14 => ?_⟩
    · rw [List.length_map, List.length_map, sizeLine_eq]
      decide
    have c14 := same_new (o := .lst (([0, 1, 2, 3, 4, 5, 6, 7, 8, 9, 10, 11, 12, 13, 14, 15, 16, 17, 18, 19, 20, 21, 22, 23, 24, 25, 26, 27] : List Nat).map (fun i => V.bl (decide (k = i))) ++ ([28] : List Nat).map fun i => V.bl (decide (k = i)))) p14
    have S14 := S13.trans (b14.trans c14)
    have hE14 := hE13.same (b14.trans c14)
    have n14 : H l14 = none := S13.free (b14.free p14)
    have L14 : (upd (upd h13 q14 (.lst (([28] : List Nat).map fun i => V.bl (decide (k = i))))) l14 (.lst (([0, 1, 2, 3, 4, 5, 6, 7, 8, 9, 10, 11, 12, 13, 14, 15, 16, 17, 18, 19, 20, 21, 22, 23, 24, 25, 26, 27] : List Nat).map (fun i => V.bl (decide (k = i))) ++ ([28] : List Nat).map fun i => V.bl (decide (k = i))))) l14 = some (.lst (([0, 1, 2, 3, 4, 5, 6, 7, 8, 9, 10, 11, 12, 13, 14, 15, 16, 17, 18, 19, 20, 21, 22, 23, 24, 25, 26, 27, 28] : List Nat).map fun i => V.bl (decide (k = i)))) := by
      rw [upd_same]
      rfl
    generalize upd (upd h13 q14 _) l14 _ = h14 at *
    clear b14 c14 m14 p14 S13 hE13 L13
    simp only [List.set_cons_succ, List.set_cons_zero]
    have eR : ([0, 1, 2, 3, 4, 5, 6, 7, 8, 9, 10, 11, 12, 13, 14, 15, 16, 17, 18, 19, 20, 21, 22, 23, 24, 25, 26, 27, 28] : List Nat) = List.range 29 := by decide
    rw [eR] at L14
    refine ⟨_, rfl, l14, _, rfl, .inl (SqL.of L14), 29, by rw [List.length_map, List.length_range]; rfl, by decide, by decide, fun D hD => ?_⟩
    have keep : ∀ (H' : Hp) (o : HO), Same h14 H' → Same H H' := fun H' _ s => S14.trans s
    refine lc_range (lo := 0) (n := 29) (fun i H' => H' D = some (.lst (codeN k i)) ∧ Same h14 H') ⟨upd_same, same_new hD⟩ ?_ ?_
    · rintro i H' hi ⟨hd, s5⟩
      have hb : ((List.range 29).map fun i => V.bl (decide (k = i)))[i]? = some (V.bl (decide (k = i))) := by
        rw [List.getElem?_map, List.getElem?_range hi]
        rfl
      have z : (0 : Int) + (i : Int) = (i : Int) := by omega
      refine ⟨rfl, ?_⟩
      rw [z]
      refine ⟨_, rfl, _, rfl, l14, _, _, _, rfl, rfl, SqL.of (s5 _ _ L14), atI_nat hb, _, rfl, ?_⟩
      have sd : ∀ o, Same h14 (upd H' D o) := fun o b u e => by
        rw [upd_ne (ne_of_none e hD)]
        exact s5 _ _ e
      have lenN : (codeN k i).length ≤ i := by
        unfold codeN
        rw [List.length_map]
        exact Nat.le_trans (List.length_filter_le _ _) (by simp)
      by_cases c : k = i
      · rw [decide_eq_true c]
        refine iteT ?_
        refine ⟨_, rfl, _, hd, by rw [sizeLine_eq]; omega, ?_, sd _⟩
        rw [upd_same]
        unfold codeN
        rw [List.range_succ, List.filter_append, List.map_append]
        simp [c]
      · rw [decide_eq_false c]
        refine iteF ⟨?_, s5⟩
        rw [hd]
        unfold codeN
        rw [List.range_succ, List.filter_append, List.map_append]
        simp [c]
    · rintro H' ⟨hd, s5⟩
      exact kk H' D (S14.trans s5) (S14.free hD) hd
theorem ok_iserr {f : Addr} {fd : FuncData} {C : Nat → Addr} (F : Fun K "_law_is_error" "_law_is_error" sIsErr f fd) (T : Classes K C) (G : mg "FriendError" = some (.ref (C 29))) (zi : mg "isinstance" = none) (zv : mg "ValueError" = none) : FnOk P w K mg base CX0 1 f fd ["_law_error"] (spIsErr C) := by
  refine F.ok scE (fun vs H Q E h => ?_) (fun cdv A outer s H vs Q E0 hr h => ?_)
  · obtain ⟨_, _, rfl, _⟩ := h
    rfl
  · obtain ⟨e, k, rfl, hk, hE, kk⟩ := h
    refine ⟨_, pss_one (ps_ret (pe_and (pe_callB call_isErr (by rfl) zi (by decide +kernel) (pa_cons (pv 0) (pa_cons (pe_glob (v := .ref (C 29)) rfl G rfl) pa_nil))) (pe_one (pe_callB call_isErr (by rfl) zi (by decide +kernel) (pa_cons (pv 0) (pa_cons (pe_bltn (v := .ty "ValueError") (by rfl) zv (by decide +kernel) rfl) pa_nil)))))), ?_⟩
    refine ⟨_, rfl, e, C k, _, _, _, rfl, .own _, T.exc k hk, hE, T.kitF hk, true, rfl, iteT ?_⟩
    exact ⟨_, rfl, e, C k, _, _, _, rfl, .ty _, T.exc k hk, hE, T.kitV hk, kk⟩
end
end K1

set_option Elab.async false
set_option linter.all false
set_option maxRecDepth 100000
set_option maxHeartbeats 800000
namespace K1
open PySem L2
def spRight (K : PySem.W.Frag) (C : Nat → Addr) : Sp := fun vs H Q _ => ∃ (L : Addr) (es : List Addr) (v : V) (d : PyData), vs = [.ref L, .str d.shown] ∧ H L = some (.lst (es.map V.ref)) ∧ Errs H es (cs27 C) v ∧ Sh2 K H v d ∧ Nice d ∧ ∀ H', Same H H' → Q (.bl true) H'
theorem cs27_at (C : Nat → Addr) {i : Nat} (h : i < 27) : (cs27 C)[i]? = some (C i) := by
  have e : cs27 C = (List.range 27).map C := rfl
  rw [e, List.getElem?_map, List.getElem?_range h]
  rfl
/-- lists of one number each, n0, n0 + 1, .. -/
def ones (n0 n : Nat) : List PyData := (List.range' n0 n).map fun j : Nat => .list [.int (j : Int)]
theorem ones_dp {K : PySem.W.Frag} {H : Hp} : ∀ (ls : List Addr) (n0 : Nat), (∀ (j : Nat) l, ls[j]? = some l → H l = some (.lst [V.int ((n0 + j : Nat) : Int)])) → DpAll K H (ls.map V.ref) (ones n0 ls.length)
  | [], _, _ => .nil
  | l :: ls, n0, h => by
    have h0 := h 0 l rfl
    have ih := ones_dp (K := K) ls (n0 + 1) fun j x e => by
      have z := h (j + 1) x e
      rw [show n0 + (j + 1) = n0 + 1 + j by omega] at z
      exact z
    exact .cons (.lst (SqL.of h0) (.cons (.int _) .nil)) ih
section
variable {P : Program} {w : World} {K : PySem.W.Frag} {mg : Str → Option Value} {base : Heap}
theorem same_upd {H H' : Hp} {D : Addr} {o : HO} (s : Same H H') (hD : H D = none) : Same H (upd H' D o) := fun b u e => by
  rw [upd_ne (ne_of_none e hD)]
  exact s _ _ e
theorem ok_right {f fC fE : Addr} {fd fdC fdE : FuncData} {C : Nat → Addr} (F : Fun K "_law_right" "_law_right" sRight f fd) (T : Classes K C) (er : ∀ i, i < 27 → ErrC K (C i)) (B : Bt mg) (zr : mg "repr" = none)
    (GC : FnOk P w K mg base CX0 1 fC fdC ["_law_error"] (spCode C)) (mC : mg "_law_code" = some (.ref fC)) (kC : PySem.W.keepIn K (.ref fC) = true) (bC : Binds K fdC ["_law_error"] [])
    (GE : FnOk P w K mg base CX0 1 fE fdE ["_law_error"] (spIsErr C)) (mE : mg "_law_is_error" = some (.ref fE)) (kE : PySem.W.keepIn K (.ref fE) = true) (bE : Binds K fdE ["_law_error"] []) : Calm P w K mg base 2 f fd ["_law_some", "_law_noted"] (spRight K C) := by
  refine calm_of F scR (fun vs H Q E h => ?_) (fun cdv A outer s H vs Q E0 hgu hr h => ?_)
  · obtain ⟨_, _, _, _, rfl, _⟩ := h
    rfl
  · obtain ⟨L, es, v, d, rfl, hL, hE, hSh, hN, kk⟩ := h
    have hr1 : Room 1 _ := hr.mono (by decide)
    have l27 : es.length = 27 := hE.1
    refine ⟨_, pss_cons (ps_if (pt_cmpR (op_neD hr.units) (pe_lc (own := [("_law_error", 2)]) (g := gName 2) (tt := tYes) rfl scR.nd (pi_list (pv 0))
          (blkOk_by (N := ["_law_some", "_law_noted", "_law_error", "_law_at"]) (sc := defScope sRight) (by decide +kernel)) (fun _ _ _ _ _ => pg_name (i := 2) scR.nd rfl (Or.inl rfl)) (fun _ _ _ _ _ => pts_nil)
          (fun _ _ _ _ _ => pe_call GC hr1 rfl mC kC bC .nil pass0 (pa_cons (pv 2) pa_nil)))
        (pe_lc (own := [("_law_at", 3)]) (g := gName 3) (tt := tYes) rfl scR.nd (pi_range1 rfl B.range (pa_cons pe_int pa_nil))
          (blkOk_by (N := ["_law_some", "_law_noted", "_law_error", "_law_at"]) (sc := defScope sRight) (by decide +kernel)) (fun _ _ _ _ _ => pg_name (i := 3) scR.nd rfl (Or.inl rfl)) (fun _ _ _ _ _ => pts_nil)
          (fun _ _ _ _ _ => pe_lst (pa_cons (pv 3) pa_nil))) (nomark _)) (pss_one (ps_ret pe_bl)) pss_nil)
      (pss_one (ps_ret (pe_cmpR (op_eqD hr.units) (pe_lc (own := [("_law_error", 2)]) (g := gName 2) rfl scR.nd (pi_list (pv 0))
          (blkOk_by (N := ["_law_some", "_law_noted", "_law_error", "_law_at"]) (sc := defScope sRight) (by decide +kernel)) (fun _ _ _ _ _ => pg_name (i := 2) scR.nd rfl (Or.inl rfl))
          (fun _ _ _ _ _ => pts_one (PW.pt (pw_or (pt_not (pt_val (pe_call GE hr1 rfl mE kE bE .nil pass0 (pa_cons (pv 2) pa_nil))))
            (pw_or1 (pt_cmpR op_ne (pe_callB (r := rRepr2 K) (call_repr2 hgu hr.units) (by rfl) zr (by decide +kernel) (pa_cons (pe_ev (pv 2) : PE _ _ (tEv K (tVar 2))) pa_nil)) (pv 1) (nomark _))))))
          (fun _ _ _ _ _ => pv 2)) (pe_lst pa_nil) (nomark _)))), ?_⟩
    -- the codes of all
    refine ⟨_, rfl, L, rfl, ⟨_, SqL.of hL⟩, fun D hD => ?_⟩
    refine lc_list (K := K) (a := L) (xs := es.map V.ref) (fun i H' => ∃ ls : List Addr, H' D = some (.lst (ls.map V.ref)) ∧ ls.length = i ∧ Same H H' ∧ ∀ (j : Nat) l, ls[j]? = some l → H' l = some (.lst (codeL j)))
      ⟨[], upd_same, rfl, same_new hD, fun j l e => by simp at e⟩ (fun i H' _ ⟨ls, _, _, s5, _⟩ => s5.seq (SqL.of hL)) ?_ ?_
    · rintro i x H' hi ⟨ls, hd, hl, s5, hc⟩
      rw [List.getElem?_map] at hi
      obtain ⟨e, he, rfl⟩ := Option.map_eq_some_iff.mp hi
      have hi27 : i < 27 := by
        have := (List.getElem?_eq_some_iff.mp he).1
        omega
      have at_i := (hE.2 i e (C i) he (cs27_at C hi27)).same s5
      refine ⟨rfl, ?_⟩
      refine ⟨_, rfl, e, i, rfl, by omega, .val at_i, fun H2 l s2 n2 h2 => ?_⟩
      have hd2 := s2 _ _ hd
      have nl : l ≠ D := fun z => by
        rw [z, hd] at n2
        cases n2
      refine ⟨_, hd2, by rw [List.length_map, hl, sizeLine_eq]; omega, ls ++ [l], ?_, by simp [hl], same_upd (s5.trans s2) hD, fun j x hx => ?_⟩
      · rw [upd_same]
        simp
      · have nx : x ≠ D := fun z => by
          by_cases hj : j < ls.length
          · rw [List.getElem?_append_left hj] at hx
            have q := hc j x hx
            rw [z, hd] at q
            have q2 := Option.some.inj q
            have q3 : ls.map V.ref = codeL j := by injection q2
            rw [codeL_of (by omega)] at q3
            cases ls with
            | nil => simp at hj
            | cons a b => simp at q3
          · rw [List.getElem?_append_right (by omega)] at hx
            have jl : j - ls.length = 0 := by
              have := (List.getElem?_eq_some_iff.mp hx).1
              simp at this
              omega
            rw [jl] at hx
            cases hx
            exact nl z
        rw [upd_ne nx]
        by_cases hj : j < ls.length
        · rw [List.getElem?_append_left hj] at hx
          exact s2 _ _ (hc j x hx)
        · rw [List.getElem?_append_right (by omega)] at hx
          have jl : j - ls.length = 0 := by
            have := (List.getElem?_eq_some_iff.mp hx).1
            simp at this
            omega
          rw [jl] at hx
          cases hx
          have : j = i := by omega
          rw [this]
          exact h2
    · rintro H1 ⟨ls, hd, hl, s5, hc⟩
      rw [List.length_map, l27] at hl
      -- the numbers
      refine ⟨27, rfl, by decide, by decide, fun D2 hD2 => ?_⟩
      refine lc_range (lo := 0) (n := 27) (fun i H' => ∃ ms : List Addr, H' D2 = some (.lst (ms.map V.ref)) ∧ ms.length = i ∧ Same H1 H' ∧ ∀ (j : Nat) l, ms[j]? = some l → H' l = some (.lst [V.int (j : Int)]))
        ⟨[], upd_same, rfl, same_new hD2, fun j l e => by simp at e⟩ ?_ ?_
      · rintro i H' hi ⟨ms, hm, hml, s6, hmc⟩
        refine ⟨rfl, ?_⟩
        refine ⟨_, rfl, (by show 1 ≤ sizeLine; decide), fun l hl2 => ?_⟩
        have nl : l ≠ D2 := fun z => by
          rw [z, hm] at hl2
          cases hl2
        refine ⟨_, by rw [upd_ne (Ne.symm nl)]; exact hm, by rw [List.length_map, hml, sizeLine_eq]; omega, ms ++ [l], ?_, by simp [hml], same_upd (s6.trans (same_new hl2)) hD2, fun j x hx => ?_⟩
        · rw [upd_same]
          simp
        · by_cases hj : j < ms.length
          · rw [List.getElem?_append_left hj] at hx
            have q := hmc j x hx
            have nx : x ≠ D2 := fun z => by
              rw [z, hm] at q
              have q3 : ms.map V.ref = [V.int (j : Int)] := by
                have q2 := Option.some.inj q
                injection q2
              cases ms with
              | nil => simp at hj
              | cons a b => simp at q3
            have nx2 : x ≠ l := ne_of_none q hl2
            rw [upd_ne nx, upd_ne nx2]
            exact q
          · rw [List.getElem?_append_right (by omega)] at hx
            have jl : j - ms.length = 0 := by
              have := (List.getElem?_eq_some_iff.mp hx).1
              simp at this
              omega
            rw [jl] at hx
            cases hx
            have : j = i := by omega
            rw [upd_ne nl, upd_same, this]
            simp
      · rintro H2 ⟨ms, hm, hml, s6, hmc⟩
        have hd2 := s6 _ _ hd
        have dpA : Dp K H2 (.ref D) (.list (ones 0 27)) := by
          have z := ones_dp (K := K) (H := H2) ls 0 fun j l e => by
            have hj : j < 27 := by
              have := (List.getElem?_eq_some_iff.mp e).1
              omega
            rw [Nat.zero_add, ← codeL_of (by omega)]
            exact s6 _ _ (hc j l e)
          rw [hl] at z
          exact .lst (SqL.of hd2) z
        have dpB : Dp K H2 (.ref D2) (.list (ones 0 27)) := by
          have z := ones_dp (K := K) (H := H2) ms 0 fun j l e => by
            rw [Nat.zero_add]
            exact hmc j l e
          rw [hml] at z
          exact .lst (SqL.of hm) z
        have eqv1 : PyData.eqv (.list (ones 0 27)) (.list (ones 0 27)) = true := by decide +kernel
        refine ⟨_, _, dpA, dpB, by decide +kernel, by decide +kernel, _, rfl, ?_⟩
        rw [eqv1]
        refine iteF ?_
        have S2 := s5.trans s6
        -- the fields
        refine ⟨_, rfl, L, rfl, ⟨_, SqL.of (S2 _ _ hL)⟩, fun D3 hD3 => ?_⟩
        refine lc_list (K := K) (a := L) (xs := es.map V.ref) (fun i H' => H' D3 = some (.lst []) ∧ Same H2 H') ⟨upd_same, same_new hD3⟩ (fun i H' _ ⟨_, s7⟩ => (S2.trans s7).seq (SqL.of hL)) ?_ ?_
        · rintro i x H' hi ⟨h3, s7⟩
          rw [List.getElem?_map] at hi
          obtain ⟨e, he, rfl⟩ := Option.map_eq_some_iff.mp hi
          have hi27 : i < 27 := by
            have := (List.getElem?_eq_some_iff.mp he).1
            omega
          have S3 := S2.trans s7
          have at_i := (hE.2 i e (C i) he (cs27_at C hi27)).same S3
          refine ⟨rfl, ?_⟩
          refine ⟨_, rfl, e, i, rfl, by omega, .val at_i, true, rfl, ?_⟩
          refine iteF ?_
          refine ⟨_, rfl, e, C i, v, rfl, er i hi27, at_i, v, d, rfl, hSh.same S3, hN, _, rfl, rfl, _, rfl, ?_⟩
          rw [decide_eq_true (rfl : V.str d.shown = V.str d.shown)]
          exact iteF ⟨h3, s7⟩
        · rintro H3 ⟨h3, s7⟩
          refine ⟨by decide, fun D4 hD4 => ?_⟩
          have h3' : (upd H3 D4 (.lst [])) D3 = some (.lst []) := same_new hD4 _ _ h3
          refine ⟨.list [], .list [], .lst (SqL.of h3') .nil, .lst (SqL.of upd_same) .nil, by decide +kernel, by decide +kernel, ?_⟩
          exact kk _ ((S2.trans s7).trans (same_new hD4))
end
end K1

set_option Elab.async false
set_option linter.all false
set_option maxRecDepth 100000
set_option maxHeartbeats 1000000
namespace K1
open PySem L2
/-! ### sizes of what is shown -/
structure Nb (d : PyData) (b k : Nat) : Prop where
  short : d.leavesShort 13 = true
  bulk : d.bulk ≤ b
  show_ : d.showable = true
  deep : d.depth ≤ k
structure NbAll (ds : List PyData) (b k : Nat) : Prop where
  short : PyData.leavesShortAll 13 ds = true
  bulk : PyData.bulkAll ds ≤ b
  show_ : PyData.showableAll ds = true
  deep : PyData.depthAll ds ≤ k
structure NbKv (ds : List (PyData × PyData)) (b k : Nat) : Prop where
  short : PyData.leavesShortKv 13 ds = true
  bulk : PyData.bulkKv ds ≤ b
  show_ : PyData.showableKv ds = true
  deep : PyData.depthKv ds ≤ k
theorem Nb.nice {d : PyData} {b k : Nat} (n : Nb d b k) (hb : b ≤ 2 ^ 20) (hk : k ≤ 8) : Nice d := ⟨n.short, Nat.le_trans n.bulk hb, n.show_, Nat.le_trans n.deep hk⟩
theorem nb_str {x : Str} (h : Small x) : Nb (.str x) 8 0 := by
  refine ⟨?_, ?_, ?_, ?_⟩
  · simp only [PyData.leavesShort, List.all_eq_true, decide_eq_true_eq]
    intro c hc
    have := h.2 c hc
    omega
  · simp only [PyData.bulk]
    exact h.1
  · simp only [PyData.showable]
  · simp only [PyData.depth]
    exact Nat.le_refl _
theorem small_later : Small "later" := ⟨by decide, by decide +kernel⟩
theorem small_says : Small "says" := ⟨by decide, by decide +kernel⟩
theorem small_odd : Small "odd" := ⟨by decide, by decide +kernel⟩
theorem small_LATER : Small "LATER" := ⟨by decide, by decide +kernel⟩
theorem nb_int {i : Int} (h1 : -1000000000000 < i) (h2 : i < 1000000000000) : Nb (.int i) 0 0 := by
  have hn : i.natAbs < 10 ^ 12 := by omega
  refine ⟨?_, ?_, ?_, ?_⟩
  · simp only [PyData.leavesShort, decide_eq_true_eq]
    exact PyData.shown_int_le hn
  · simp only [PyData.bulk]
    exact Nat.le_refl _
  · simp only [PyData.showable, decide_eq_true_eq]
    have h40 : i.natAbs < 2 ^ 40 := by omega
    by_cases h0 : i.natAbs = 0
    · rw [h0]
      decide
    · exact Nat.lt_trans ((Nat.log2_lt h0).mpr h40) (by decide)
  · simp only [PyData.depth]
    exact Nat.le_refl _
theorem nb_bool (x : Bool) : Nb (.bool x) 0 0 := ⟨by simp only [PyData.leavesShort], by simp only [PyData.bulk]; exact Nat.le_refl _, by simp only [PyData.showable], by simp only [PyData.depth]; exact Nat.le_refl _⟩
theorem nb_none : Nb .none 0 0 := ⟨by simp only [PyData.leavesShort], by simp only [PyData.bulk]; exact Nat.le_refl _, by simp only [PyData.showable], by simp only [PyData.depth]; exact Nat.le_refl _⟩
theorem nb_nil : NbAll [] 0 0 := ⟨by simp only [PyData.leavesShortAll], by simp only [PyData.bulkAll]; exact Nat.le_refl _, by simp only [PyData.showableAll], by simp only [PyData.depthAll]; exact Nat.le_refl _⟩
theorem nb_cons {d : PyData} {ds : List PyData} {b b' k k' : Nat} (h : Nb d b k) (t : NbAll ds b' k') : NbAll (d :: ds) (b + 1 + b') (max k k') := by
  refine ⟨?_, ?_, ?_, ?_⟩
  · simp only [PyData.leavesShortAll, h.short, t.short, Bool.and_self]
  · simp only [PyData.bulkAll]
    have := h.bulk
    have := t.bulk
    omega
  · simp only [PyData.showableAll, h.show_, t.show_, Bool.and_self]
  · simp only [PyData.depthAll]
    have := h.deep
    have := t.deep
    omega
theorem nb_list {ds : List PyData} {b k : Nat} (t : NbAll ds b k) : Nb (.list ds) b (k + 1) :=
  ⟨by simp only [PyData.leavesShort]; exact t.short, by simp only [PyData.bulk]; exact t.bulk, by simp only [PyData.showable]; exact t.show_, by simp only [PyData.depth]; exact Nat.succ_le_succ t.deep⟩
theorem nb_tuple {ds : List PyData} {b k : Nat} (t : NbAll ds b k) : Nb (.tuple ds) b (k + 1) :=
  ⟨by simp only [PyData.leavesShort]; exact t.short, by simp only [PyData.bulk]; exact t.bulk, by simp only [PyData.showable]; exact t.show_, by simp only [PyData.depth]; exact Nat.succ_le_succ t.deep⟩
theorem nb_knil : NbKv [] 0 0 := ⟨by simp only [PyData.leavesShortKv], by simp only [PyData.bulkKv]; exact Nat.le_refl _, by simp only [PyData.showableKv], by simp only [PyData.depthKv]; exact Nat.le_refl _⟩
theorem nb_kcons {q d : PyData} {ds : List (PyData × PyData)} {b0 b b' k0 k k' : Nat} (h0 : Nb q b0 k0) (h : Nb d b k) (t : NbKv ds b' k') : NbKv ((q, d) :: ds) (b0 + b + 2 + b') (max (max k0 k) k') := by
  refine ⟨?_, ?_, ?_, ?_⟩
  · simp only [PyData.leavesShortKv, h0.short, h.short, t.short, Bool.and_self]
  · simp only [PyData.bulkKv]
    have := h0.bulk
    have := h.bulk
    have := t.bulk
    omega
  · simp only [PyData.showableKv, h0.show_, h.show_, t.show_, Bool.and_self]
  · simp only [PyData.depthKv]
    have := h0.deep
    have := h.deep
    have := t.deep
    omega
theorem nb_dict {ds : List (PyData × PyData)} {b k : Nat} (t : NbKv ds b k) : Nb (.dict ds) b (k + 1) :=
  ⟨by simp only [PyData.leavesShort]; exact t.short, by simp only [PyData.bulk]; exact t.bulk, by simp only [PyData.showable]; exact t.show_, by simp only [PyData.depth]; exact Nat.succ_le_succ t.deep⟩
/-! ### what the law draws -/
inductive Thing (K : PySem.W.Frag) (fr : Addr → Prop) (H : Hp) (x : Str) : V → Prop where
  | flat {v : V} {d : PyData} {T : String} : Dp K H v d → d.hasDict = false → Nb d 8 0 → (∀ H', TyX K H' v (.type T)) → kitB T "list" = some false → kitB T "dict" = some false → kitB T "tuple" = some false → Thing K fr H x v
  | tup1 {t : Addr} : H t = some (.tup [.str "says", .str x, .int 1, .int 2]) → Thing K fr H x (.ref t)
  | tup2 {t l : Addr} : H t = some (.tup [.str x, .ref l]) → H l = some (.lst [.str x]) → fr l → Thing K fr H x (.ref t)
  | dct {d l : Addr} : H d = some (.dK [(.inr x, .ref l)]) → H l = some (.lst [.str x]) → fr l → fr d → Thing K fr H x (.ref d)
  | lst1 {l : Addr} : H l = some (.lst [.str x]) → fr l → Thing K fr H x (.ref l)
  | lst2 {l a d : Addr} : H l = some (.lst [.ref a, .ref d]) → H a = some (.lst [.str x]) → H d = some (.dK [(.inr "odd", .str x)]) → fr l → Thing K fr H x (.ref l)
theorem Thing.same {K : PySem.W.Frag} {fr : Addr → Prop} {H H' : Hp} {x : Str} {v : V} (h : Thing K fr H x v) (s : Same H H') : Thing K fr H' x v := by
  cases h with
  | flat h1 h2 h3 h4 h5 h6 h7 => exact .flat (dp_same s _ _ h1) h2 h3 h4 h5 h6 h7
  | tup1 h => exact .tup1 (s _ _ h)
  | tup2 h1 h2 f => exact .tup2 (s _ _ h1) (s _ _ h2) f
  | dct h1 h2 f g => exact .dct (s _ _ h1) (s _ _ h2) f g
  | lst1 h f => exact .lst1 (s _ _ h) f
  | lst2 h1 h2 h3 f => exact .lst2 (s _ _ h1) (s _ _ h2) (s _ _ h3) f
section
variable {K : PySem.W.Frag} {fr : Addr → Prop} {H : Hp} {x : Str}
theorem dp_strs {l : Addr} {ys : List Str} (h : H l = some (.lst (ys.map V.str))) : Dp K H (.ref l) (.list (ys.map .str)) := by
  refine .lst (SqL.of h) ?_
  clear h
  induction ys with
  | nil => exact .nil
  | cons y ys ih => exact .cons (.str y) ih
theorem dp_lst1 {l : Addr} (h : H l = some (.lst [.str x])) : Dp K H (.ref l) (.list [.str x]) := dp_strs (ys := [x]) h
theorem dp_lst1b {l : Addr} (h : H l = some (.lst [.str x, .str "later"])) : Dp K H (.ref l) (.list [.str x, .str "later"]) := dp_strs (ys := [x, "later"]) h
theorem nb_w1 (hs : Small x) : Nb (.list [.str x]) 9 1 := nb_list (nb_cons (nb_str hs) nb_nil)
theorem nb_w1b (hs : Small x) : Nb (.list [.str x, .str "later"]) 18 1 := nb_list (nb_cons (nb_str hs) (nb_cons (nb_str small_later) nb_nil))
theorem nodict_w1 : PyData.hasDictAll [.list [.str x]] = false := by simp [PyData.hasDictAll, PyData.hasDict]
/-- it can be shown -/
theorem Thing.shown (hs : Small x) {v : V} (h : Thing K fr H x v) : ∃ d, Sh2 K H v d ∧ Nice d := by
  cases h with
  | flat h1 h2 h3 => exact ⟨_, .one (.dp h1 h2), h3.nice (by decide) (by decide)⟩
  | tup1 h => exact ⟨_, .one (.dp (.tup (SqT.of h) (.cons (.str _) (.cons (.str _) (.cons (.int _) (.cons (.int _) .nil))))) (by simp [PyData.hasDict, PyData.hasDictAll])),
      (nb_tuple (nb_cons (nb_str small_says) (nb_cons (nb_str hs) (nb_cons (nb_int (by decide) (by decide)) (nb_cons (nb_int (by decide) (by decide)) nb_nil))))).nice (by decide) (by decide)⟩
  | tup2 h1 h2 f => exact ⟨_, .one (.dp (.tup (SqT.of h1) (.cons (.str _) (.cons (dp_lst1 h2) .nil))) (by simp [PyData.hasDict, PyData.hasDictAll])), (nb_tuple (nb_cons (nb_str hs) (nb_cons (nb_w1 hs) nb_nil))).nice (by decide) (by decide)⟩
  | dct h1 h2 f g => exact ⟨_, .one (.dict h1 (.cons (dp_lst1 h2) .nil) nodict_w1), (nb_dict (nb_kcons (nb_str hs) (nb_w1 hs) nb_knil)).nice (by decide) (by decide)⟩
  | lst1 h f => exact ⟨_, .one (.dp (dp_lst1 h) (by simp [PyData.hasDict, PyData.hasDictAll])), (nb_w1 hs).nice (by decide) (by decide)⟩
  | lst2 h1 h2 h3 f => exact ⟨_, .lst h1 (by simp) (.cons (.dp (dp_lst1 h2) (by simp [PyData.hasDict, PyData.hasDictAll])) (.cons (.dict h3 (.cons (.str _) .nil) (by simp [PyData.hasDict, PyData.hasDictAll])) .nil)),
      (nb_list (nb_cons (nb_w1 hs) (nb_cons (nb_dict (nb_kcons (nb_str small_odd) (nb_str hs) nb_knil)) nb_nil))).nice (by decide) (by decide)⟩
end
/-! ### errors stand while a list or a dict changes -/
def Plain (o : HO) : Prop := (∃ xs, o = .lst xs) ∨ ∃ k, o = .dK k
theorem exo_ne {e C : Addr} {d : Option Addr} {o : HO} (p : Plain o) : exo e C d ≠ o := fun z => by
  rcases p with ⟨xs, rfl⟩ | ⟨k, rfl⟩
  · have z' : HO.ext _ = HO.lst xs := z
    cases z'
  · have z' : HO.ext _ = HO.dK k := z
    cases z'
theorem exd_ne {e : Addr} {fs : List (Str × V)} {o : HO} (p : Plain o) : exd e fs ≠ o := fun z => by
  rcases p with ⟨xs, rfl⟩ | ⟨k, rfl⟩
  · have z' : HO.ext _ = HO.lst xs := z
    cases z'
  · have z' : HO.ext _ = HO.dK k := z
    cases z'
theorem Errs.upd {H : Hp} {es Cs : List Addr} {v : V} {a : Addr} {o o' : HO} (h : Errs H es Cs v) (ha : H a = some o) (p : Plain o) : Errs (L2.upd H a o') es Cs v := by
  refine ⟨h.1, fun i e C x y => ?_⟩
  obtain ⟨d, h1, h2⟩ := h.2 i e C x y
  exact ⟨d, by rw [upd_ne (ne_of h1 ha (exo_ne p))]; exact h1, by rw [upd_ne (ne_of h2 ha (exd_ne p))]; exact h2⟩
end K1

set_option Elab.async false
set_option linter.all false
set_option maxRecDepth 100000
set_option maxHeartbeats 1000000
namespace K1
open PySem L2
/-- what stands while the thing is changed -/
structure Keep (M1 M2 D : Addr) (es1 es2 Cs : List Addr) (v : V) (ps : List Addr) (i : Nat) (H : Hp) : Prop where
  m1 : H M1 = some (.lst (es1.map V.ref))
  m2 : H M2 = some (.lst (es2.map V.ref))
  e1 : Errs H es1 Cs v
  e2 : Errs H es2 Cs v
  dd : H D = some (.lst (ps.map V.ref))
  pp : ∀ (j : Nat) q, i + 1 ≤ j → ps[j]? = some q → ∃ c, PurseAt H q c 1000000
section
variable {M1 M2 D : Addr} {es1 es2 Cs : List Addr} {v : V} {ps : List Addr} {i : Nat} {H H' : Hp}
theorem Keep.same (k : Keep M1 M2 D es1 es2 Cs v ps i H) (s : Same H H') : Keep M1 M2 D es1 es2 Cs v ps i H' :=
  ⟨s _ _ k.m1, s _ _ k.m2, k.e1.same s, k.e2.same s, s _ _ k.dd, fun j q a b => let ⟨c, h⟩ := k.pp j q a b; ⟨c, h.same s⟩⟩
theorem Keep.upd {a : Addr} {o o' : HO} (k : Keep M1 M2 D es1 es2 Cs v ps i H) (ha : H a = some o) (p : Plain o) (n1 : a ≠ M1) (n2 : a ≠ M2) (n3 : a ≠ D) (n4 : ∀ (j : Nat) q, i + 1 ≤ j → ps[j]? = some q → a ≠ q) : Keep M1 M2 D es1 es2 Cs v ps i (L2.upd H a o') := by
  refine ⟨?_, ?_, k.e1.upd ha p, k.e2.upd ha p, ?_, fun j q x y => ?_⟩
  · rw [upd_ne (Ne.symm n1)]
    exact k.m1
  · rw [upd_ne (Ne.symm n2)]
    exact k.m2
  · rw [upd_ne (Ne.symm n3)]
    exact k.dd
  · obtain ⟨c, b, t, z, e, r⟩ := k.pp j q x y
    exact ⟨c, b, t, z, by rw [upd_ne (Ne.symm (n4 j q x y))]; exact e, r⟩
end
theorem short_of {n : Nat} (h : n ≤ 1000) : n ≤ sizeLine := Nat.le_of_lt (small1000 h)
theorem Nb.mono {d : PyData} {b b' k : Nat} (n : Nb d b k) (h : b ≤ b') : Nb d b' k := ⟨n.short, Nat.le_trans n.bulk h, n.show_, n.deep⟩
theorem putK_LATER {x : Str} {v u : V} (hx : x ≠ ("LATER" : Str)) : putK [((Sum.inr x : Key), v)] (Sum.inr ("LATER" : Str)) u = [(Sum.inr x, v), (Sum.inr ("LATER" : Str), u)] := by
  unfold putK
  have e : ((Sum.inr x : Key) = Sum.inr ("LATER" : Str)) = False := by simpa using hx
  simp [e]
theorem putK_same {x : Str} {v u : V} (hx : x = ("LATER" : Str)) : putK [((Sum.inr x : Key), v)] (Sum.inr ("LATER" : Str)) u = [(Sum.inr x, u)] := by
  subst hx
  unfold putK
  simp
abbrev lawN : List Str := ["_law_script", "_law_purse_here", "_law_word_here", "_law_plain", "_law_thing", "_law_noted", "_law_some", "_law_called_here", "_law_later", "_law_rest", "_law_error"]
theorem scL : FnScope lawN ["_law_script"] (defScope sLaw) := ⟨rfl, rfl, rfl, by decide +kernel, rfl, by decide +kernel, by decide +kernel⟩
def spLaw (K : PySem.W.Frag) : Sp := fun vs H Q _ => ∃ (a : Addr) (ns : List Int), vs = [.ref a] ∧ SqL K H a (ns.map V.int) ∧ ns.length ≤ 63 ∧ ∀ H', Q (.bl true) H'
/-- a def of the text as its callers need it -/
structure Df (P : Program) (w : World) (K : PySem.W.Frag) (mg : Str → Option Value) (base : Heap) (x : Str) (k : Nat) (ps : List Str) (sp : Sp) : Prop where
  ex : ∃ f fd, mg x = some (.ref f) ∧ PySem.W.keepIn K (.ref f) = true ∧ Binds K fd ps [] ∧ FnOk P w K mg base CX0 k f fd ps sp
structure DfC (P : Program) (w : World) (K : PySem.W.Frag) (mg : Str → Option Value) (base : Heap) (x : Str) (k : Nat) (ps : List Str) (sp : Sp) : Prop where
  ex : ∃ f fd, mg x = some (.ref f) ∧ PySem.W.keepIn K (.ref f) = true ∧ Binds K fd ps [] ∧ Calm P w K mg base k f fd ps sp
section
variable {P : Program} {w : World} {K : PySem.W.Frag} {mg : Str → Option Value} {base : Heap}
theorem ok_law {f : Addr} {fd : FuncData} {C : Nat → Addr} (F : Fun K "law" "law" sLaw f fd) (T : Classes K C) (er : ∀ i, i < 27 → ErrC K (C i)) (B : Bt mg) (zr : mg "repr" = none) (zi : mg "isinstance" = none) (zl : mg "list" = none) (zd : mg "dict" = none) (zt : mg "tuple" = none) (za : mg "all" = none)
    (G : ∀ i, i < 29 → mg (nm i) = some (.ref (C i))) (GF : mg "FriendError" = some (.ref (C 29))) (kc : ∀ i, i < 30 → PySem.W.keepIn K (.ref (C i)) = true)
    (xc : ∀ i, 27 ≤ i → i < 30 → PySem.W.excIn K (C i) PySem.HandSPX.veTail "ValueError.__new__" = true)
    (dP : Df P w K mg base "_law_purses" 2 ["_law_script", "_law_few"] (spPurses K)) (dW : Df P w K mg base "_law_word" 3 ["_law_purse_here"] spWord) (dO : Df P w K mg base "_law_one_of" 3 ["_law_purse_here", "_law_some"] spOneOf)
    (dF : Df P w K mg base "_law_first" 3 ["_law_thing"] (spMany C)) (dC : Df P w K mg base "_law_called" 3 ["_law_thing"] (spMany C)) (dB : Df P w K mg base "_law_bare" 3 [] (spBare C))
    (dK : Df P w K mg base "_law_code" 1 ["_law_error"] (spCode C)) (dE : Df P w K mg base "_law_is_error" 1 ["_law_error"] (spIsErr C)) (dR : DfC P w K mg base "_law_right" 2 ["_law_some", "_law_noted"] (spRight K C)) :
    Calm P w K mg base 4 f fd ["_law_script"] (spLaw K) := by
  obtain ⟨fP, fdP, mP, kP, bP, GP⟩ := dP.ex
  obtain ⟨fW, fdW, mW, kW, bW, GW⟩ := dW.ex
  obtain ⟨fO, fdO, mO, kO, bO, GO⟩ := dO.ex
  obtain ⟨fF, fdF, mF, kF, bF, GFi⟩ := dF.ex
  obtain ⟨fC, fdC, mC, kC, bC, GC⟩ := dC.ex
  obtain ⟨fB, fdB, mB, kB, bB, GB⟩ := dB.ex
  obtain ⟨fK, fdK, mK, kK, bK, GK⟩ := dK.ex
  obtain ⟨fE, fdE, mE, kE, bE, GE⟩ := dE.ex
  obtain ⟨fR, fdR, mR, kR, bR, GR⟩ := dR.ex
  refine calm_of F scL (fun vs H Q E h => ?_) (fun cdv A outer s H vs Q E0 hgu hr h => ?_)
  · obtain ⟨_, _, rfl, _⟩ := h
    rfl
  · obtain ⟨a, ns, rfl, hS, hlen, kk⟩ := h
    have hr1 : Room 1 _ := hr.mono (by decide)
    have hr2 : Room 2 _ := hr.mono (by decide)
    have hu := hu_of hr
    refine ⟨_, pss_cons (ps_for PassesOwn.never rfl (pi_list (pe_call GP hr2 rfl mP kP bP .nil pass0 (pa_cons (pv 0) (pa_cons pe_int pa_nil)))) (pg_name (i := 1) scL.nd rfl (Or.inl rfl))
        (pss_cons (ps_set (i := 2) scL.nd rfl (Or.inl rfl) (pe_call GW hr rfl mW kW bW .nil pass0 (pa_cons (pv 1) pa_nil)))
        (pss_cons (ps_set (i := 3) scL.nd rfl (Or.inl rfl) (pe_lst (pa_cons pe_non (pa_cons pe_bl (pa_cons pe_bl (pa_cons pe_int (pa_cons (pv 2) (pa_cons (pe_un un_neg (pe_ix ix_list (pv 1) pe_int (fun _ _ => rfl)))
          (pa_cons (pe_tup (pa_cons pe_str (pa_cons (pv 2) (pa_cons pe_int (pa_cons pe_int pa_nil))))) (pa_cons (pe_tup (pa_cons (pv 2) (pa_cons (pe_lst (pa_cons (pv 2) pa_nil)) pa_nil)))
          (pa_cons (pe_disp (pps_cons (pv 2) (pe_lst (pa_cons (pv 2) pa_nil)) pps_nil) (by rfl) (by rfl) (fun z => by cases z) (by decide)) pa_nil)))))))))))
        (pss_cons (ps_set (i := 4) scL.nd rfl (Or.inl rfl) (pe_call GO hr rfl mO kO bO .nil pass0 (pa_cons (pv 1) (pa_cons (pe_op op_cat (pv 3) (pe_lst (pa_cons (pe_lst (pa_cons (pv 2) pa_nil))
          (pa_cons (pe_lst (pa_cons (pe_lst (pa_cons (pv 2) pa_nil)) (pa_cons (pe_disp (pps_cons pe_str (pv 2) pps_nil) (by rfl) (by rfl) (fun z => by cases z) (by decide)) pa_nil))) pa_nil)))) pa_nil))))
        (pss_cons (ps_set (i := 5) scL.nd rfl (Or.inl rfl) (pe_callB (call_repr2 hgu hr.units) (by rfl) zr (by decide +kernel) (pa_cons (pv 4) pa_nil)))
        (pss_cons (ps_par3 (i := 6) (j := 7) (l := 8) rfl scL.nd rfl rfl rfl (by decide) (by decide) (by decide) rfl rfl rfl
          (pa_cons (pe_call GFi hr rfl mF kF bF .nil pass0 (pa_cons (pv 4) pa_nil)) (pa_cons (pe_call GC hr rfl mC kC bC .nil pass0 (pa_cons (pv 4) pa_nil))
          (pa_cons (pe_call GFi hr rfl mF kF bF .nil pass0 (pa_cons (pe_tup (pa_cons pe_str (pa_cons (pv 2) pa_nil))) pa_nil)) pa_nil))) (by rfl))
        (pss_cons (ps_if (PW.pt (pw_or (pt_not (pt_val (pe_calm GR hgu hr2 rfl mR kR bR (pa_cons (pe_call0 GB hr rfl mB kB bB .nil pass0) (pa_cons pe_str pa_nil)))))
            (pw_or1 (pt_not (pt_val (pe_calm GR hgu hr2 rfl mR kR bR (pa_cons (pv 8) (pa_cons (pe_callB (call_repr2 hgu hr.units) (by rfl) zr (by decide +kernel) (pa_cons (pe_tup (pa_cons pe_str (pa_cons (pv 2) pa_nil))) pa_nil)) pa_nil)))))))) (pss_one (ps_ret pe_bl)) pss_nil)
        (pss_cons (ps_if (PW.pt (pw_or (pt_not (pt_val (pe_calm GR hgu hr2 rfl mR kR bR (pa_cons (pv 6) (pa_cons (pv 5) pa_nil)))))
            (pw_or1 (pt_not (pt_val (pe_calm GR hgu hr2 rfl mR kR bR (pa_cons (pv 7) (pa_cons (pv 5) pa_nil)))))))) (pss_one (ps_ret pe_bl)) pss_nil)
        (pss_cons (ps_if (pt_val (pe_callB call_isi (by rfl) zi (by decide +kernel) (pa_cons (pv 4) (pa_cons (pe_bltn (v := .ty "list") (by rfl) zl (by decide +kernel) rfl) pa_nil))))
          (pss_one (ps_expr (pe_bm PySem.F.plainAttrs_list PySem.F.slot_list_append PySem.F.type_list_append mt_append (pv 4) (pa_cons pe_str pa_nil)))) pss_nil)
        (pss_cons (ps_if (pt_val (pe_callB call_isi (by rfl) zi (by decide +kernel) (pa_cons (pv 4) (pa_cons (pe_bltn (v := .ty "dict") (by rfl) zd (by decide +kernel) rfl) pa_nil))))
          (pss_cons (ps_expr (pe_bm PySem.F.plainAttrs_list PySem.F.slot_list_append PySem.F.type_list_append mt_append (pe_dget hu (pv 4) (pv 2) (fun _ _ => rfl)) (pa_cons pe_str pa_nil)))
          (pss_one (ps_dput hu (pv 4) pe_str pe_int rfl))) pss_nil)
        (pss_cons (ps_if (PW.pt (pw_and (pt_val (pe_callB call_isi (by rfl) zi (by decide +kernel) (pa_cons (pv 4) (pa_cons (pe_bltn (v := .ty "tuple") (by rfl) zt (by decide +kernel) rfl) pa_nil))))
            (pw_and1 (pt_val (pe_callB call_isi (by rfl) zi (by decide +kernel) (pa_cons (pe_ix ix_tup (pv 4) pe_int (fun _ _ => rfl)) (pa_cons (pe_bltn (v := .ty "list") (by rfl) zl (by decide +kernel) rfl) pa_nil)))))))
          (pss_one (ps_expr (pe_bm PySem.F.plainAttrs_list PySem.F.slot_list_append PySem.F.type_list_append mt_append (pe_ix ix_tup (pv 4) pe_int (fun _ _ => rfl)) (pa_cons pe_str pa_nil)))) pss_nil)
        (pss_one (ps_if (PW.pt (pw_or (pt_not (pt_val (pe_calm GR hgu hr2 rfl mR kR bR (pa_cons (pv 6) (pa_cons (pe_callB (call_repr2 hgu hr.units) (by rfl) zr (by decide +kernel) (pa_cons (pv 4) pa_nil)) pa_nil)))))
            (pw_or1 (pt_not (pt_val (pe_calm GR hgu hr2 rfl mR kR bR (pa_cons (pv 7) (pa_cons (pe_callB (call_repr2 hgu hr.units) (by rfl) zr (by decide +kernel) (pa_cons (pv 4) pa_nil)) pa_nil)))))))) (pss_one (ps_ret pe_bl)) pss_nil)))))))))))))
      (pss_cons (ps_set (i := 9) scL.nd rfl (Or.inl rfl) (pe_lst (pa_cons (pe_bare PySem.F.excBase_ValueError (xc 27 (by decide) (by decide)) (G 27 (by decide)) (kc 27 (by decide)) rfl) (pa_cons (pe_bare PySem.F.excBase_ValueError (xc 28 (by decide) (by decide)) (G 28 (by decide)) (kc 28 (by decide)) rfl) pa_nil))))
      (pss_cons (ps_if (pt_cmpR (op_neD hr.units) (pe_lc (own := [("_law_error", 10)]) (g := gName 10) (tt := tYes) rfl scL.nd (pi_list (pv 9))
          (blkOk_by (N := lawN) (sc := defScope sLaw) (by decide +kernel)) (fun _ _ _ _ _ => pg_name (i := 10) scL.nd rfl (Or.inl rfl)) (fun _ _ _ _ _ => pts_nil)
          (fun _ _ _ _ _ => pe_call GK hr1 rfl mK kK bK .nil pass0 (pa_cons (pv 10) pa_nil)))
          (pe_lst (pa_cons (pe_lst (pa_cons pe_int pa_nil)) (pa_cons (pe_lst (pa_cons pe_int pa_nil)) pa_nil))) (nomark _)) (pss_one (ps_ret pe_bl)) pss_nil)
      (pss_cons (ps_expr (pe_bm PySem.F.plainAttrs_list PySem.F.slot_list_append PySem.F.type_list_append mt_append (pv 9) (pa_cons (pe_bare PySem.F.excBase_ValueError (xc 29 (by decide) (by decide)) GF (kc 29 (by decide)) rfl) pa_nil)))
      (pss_one (ps_ret (pe_and (pe_callB (cr_all rfl) (by rfl) za (by decide +kernel) (pa_cons (pe_lc (own := [("_law_error", 10)]) (g := gName 10) (tt := tYes) rfl scL.nd (pi_list (pv 9))
          (blkOk_by (N := lawN) (sc := defScope sLaw) (by decide +kernel)) (fun _ _ _ _ _ => pg_name (i := 10) scL.nd rfl (Or.inl rfl)) (fun _ _ _ _ _ => pts_nil)
          (fun _ _ _ _ _ => pe_call GE hr1 rfl mE kE bE .nil pass0 (pa_cons (pv 10) pa_nil))) pa_nil))
        (pe_one (pe_cmpR (op_eqD hr.units) (pe_call GK hr1 rfl mK kK bK .nil pass0 (pa_cons (pe_ix ix_list (pv 9) pe_int (fun _ _ => rfl)) pa_nil)) (pe_lst pa_nil) (nomark _))))))))), ?_⟩
    refine ⟨_, rfl, a, ns, 3, rfl, hS, by decide, fun H1 D ps s1' n1' hD nd hp => ⟨D, rfl, ⟨_, SqL.of hD⟩, ?_⟩⟩
    refine for_list (K := K) (a := D) (xs := ps.map V.ref) (fun i σ H' => ∃ v1 v2 v3 v4 v5 v6 v7 v8 : Option V, σ = [some (.ref a), v1, v2, v3, v4, v5, v6, v7, v8, none, none] ∧ H' D = some (.lst (ps.map V.ref)) ∧ ∀ (j : Nat) p, i ≤ j → ps[j]? = some p → ∃ c, PurseAt H' p c 1000000)
      ⟨none, none, none, none, none, none, none, none, rfl, hD, fun j p _ e => (hp p (List.mem_of_getElem? e)).2⟩ (fun i σ H' _ ⟨_, _, _, _, _, _, _, _, _, h, _⟩ => SqL.of h) ?_ ?_
    · rintro i y σ H2 hi ⟨v1, v2, v3, v4, v5, v6, v7, v8, rfl, hd, hp2⟩
      rw [List.getElem?_map] at hi
      obtain ⟨p, hpi, rfl⟩ := Option.map_eq_some_iff.mp hi
      obtain ⟨c, pa⟩ := hp2 i p (Nat.le_refl _) hpi
      have neD : D ≠ p := fun z => by
        obtain ⟨b, t, z', q, _⟩ := pa
        rw [← z, hd] at q
        have q2 := Option.some.inj q
        have q3 : ps.map V.ref = [.int b, .int c, .int t, .int z'] := by injection q2
        cases ps with
        | nil => cases q3
        | cons _ _ => cases q3
      have later : ∀ (j : Nat) q, i + 1 ≤ j → ps[j]? = some q → q ≠ p := fun j q hj hq z => by
        subst z
        obtain ⟨l1, g1⟩ := List.getElem?_eq_some_iff.mp hpi
        obtain ⟨l2, g2⟩ := List.getElem?_eq_some_iff.mp hq
        have := (List.getElem_inj nd).mp (g1.trans g2.symm)
        omega
      refine ⟨_, rfl, p, c, 999990, rfl, pa, fun H3 x hs sx3 pa3 => ?_⟩
      obtain ⟨b, t, z, hpz, c0, c1, t0, t1', z0, z1⟩ := id pa3
      have np : ∀ q, H3 q = none → q ≠ p := fun q e z => by
        rw [z, hpz] at e
        cases e
      have fr2 : ∀ q, H3 q = none → H2 q = none := fun q e => by
        cases h2 : H2 q with
        | none => rfl
        | some o =>
          have q3 := sx3 q o (np q e) h2
          rw [e] at q3
          cases q3
      -- plain
      refine ⟨_, rfl, _, rfl, p, _, _, _, rfl, rfl, SqL.of hpz, rfl, _, rfl, _, rfl, short_of (by simp), fun t1 m1 => ?_⟩
      have s1 := same_new (o := .tup [.str "says", .str x, .int 1, .int 2]) m1
      have e1 : (upd H3 t1 (.tup [.str "says", .str x, .int 1, .int 2])) t1 = some (.tup [.str "says", .str x, .int 1, .int 2]) := upd_same
      generalize upd H3 t1 _ = A1 at *
      refine ⟨_, rfl, _, rfl, short_of (by simp), fun l1 n1 => ?_⟩
      have s2 := same_new (o := .lst [.str x]) n1
      have e2 : (upd A1 l1 (.lst [.str x])) l1 = some (.lst [.str x]) := upd_same
      generalize upd A1 l1 _ = A2 at *
      refine ⟨short_of (by simp), fun t2 m2 => ?_⟩
      have s3 := same_new (o := .tup [.str x, .ref l1]) m2
      have e3 : (upd A2 t2 (.tup [.str x, .ref l1])) t2 = some (.tup [.str x, .ref l1]) := upd_same
      generalize upd A2 t2 _ = A3 at *
      refine fun d1 m3 => ?_
      have s4 := same_new (o := .dK []) m3
      have e4 : (upd A3 d1 (.dK [])) d1 = some (.dK []) := upd_same
      generalize upd A3 d1 _ = A4 at *
      refine ⟨_, rfl, _, rfl, short_of (by simp), fun l2 n2 => ?_⟩
      have s5 := same_new (o := .lst [.str x]) n2
      have e5 : (upd A4 l2 (.lst [.str x])) l2 = some (.lst [.str x]) := upd_same
      generalize upd A4 l2 _ = A5 at *
      refine ⟨s5 _ _ e4, [(.inr x, .ref l2)], rfl, by simp, ?_⟩
      have s6 : Same A3 (upd A5 d1 (.dK (mergeK [] [(.inr x, .ref l2)]))) := same_upd (s4.trans s5) m3
      have e6 : (upd A5 d1 (.dK (mergeK [] [(.inr x, .ref l2)]))) d1 = some (.dK [(.inr x, .ref l2)]) := upd_same
      have e6b : (upd A5 d1 (.dK (mergeK [] [(.inr x, .ref l2)]))) l2 = some (.lst [.str x]) := by
        rw [upd_ne (Ne.symm (ne_of_none e4 n2))]
        exact e5
      generalize upd A5 d1 _ = A6 at *
      refine ⟨short_of (by simp), fun L0 m4 => ?_⟩
      have s7 := same_new (o := .lst [.non, .bl true, .bl false, .int 0, .str x, .int (-c), .ref t1, .ref t2, .ref d1]) m4
      have e7 : (upd A6 L0 (.lst [.non, .bl true, .bl false, .int 0, .str x, .int (-c), .ref t1, .ref t2, .ref d1])) L0 = some (.lst [.non, .bl true, .bl false, .int 0, .str x, .int (-c), .ref t1, .ref t2, .ref d1]) := upd_same
      generalize upd A6 L0 _ = A7 at *
      refine ⟨_, rfl, _, rfl, _, rfl, short_of (by simp), fun l3 m5 => ?_⟩
      have s8 := same_new (o := .lst [.str x]) m5
      have e8 : (upd A7 l3 (.lst [.str x])) l3 = some (.lst [.str x]) := upd_same
      generalize upd A7 l3 _ = A8 at *
      refine ⟨_, rfl, short_of (by simp), fun l4 m6 => ?_⟩
      have s9 := same_new (o := .lst [.str x]) m6
      have e9 : (upd A8 l4 (.lst [.str x])) l4 = some (.lst [.str x]) := upd_same
      generalize upd A8 l4 _ = A9 at *
      refine fun d2 m7 => ?_
      have s10 := same_new (o := .dK []) m7
      have e10 : (upd A9 d2 (.dK [])) d2 = some (.dK []) := upd_same
      generalize upd A9 d2 _ = A10 at *
      refine ⟨_, rfl, e10, [(.inr "odd", .str x)], rfl, by simp, ?_⟩
      have s11 : Same A9 (upd A10 d2 (.dK (mergeK [] [(.inr "odd", .str x)]))) := same_upd s10 m7
      have e11 : (upd A10 d2 (.dK (mergeK [] [(.inr "odd", .str x)]))) d2 = some (.dK [(.inr "odd", .str x)]) := upd_same
      generalize upd A10 d2 _ = A11 at *
      refine ⟨short_of (by simp), fun l5 m8 => ?_⟩
      have s12 := same_new (o := .lst [.ref l4, .ref d2]) m8
      have e12 : (upd A11 l5 (.lst [.ref l4, .ref d2])) l5 = some (.lst [.ref l4, .ref d2]) := upd_same
      generalize upd A11 l5 _ = A12 at *
      refine ⟨short_of (by simp), fun L1 m9 => ?_⟩
      have s13 := same_new (o := .lst [.ref l3, .ref l5]) m9
      have e13 : (upd A12 L1 (.lst [.ref l3, .ref l5])) L1 = some (.lst [.ref l3, .ref l5]) := upd_same
      generalize upd A12 L1 _ = A13 at *
      have R7 := s8.trans (s9.trans (s11.trans (s12.trans s13)))
      refine ⟨L0, L1, _, _, rfl, rfl, R7 _ _ e7, e13, short_of (by simp), fun L2 m10 => ?_⟩
      have s14 := same_new (o := .lst ([.non, .bl true, .bl false, .int 0, .str x, .int (-c), .ref t1, .ref t2, .ref d1] ++ [.ref l3, .ref l5])) m10
      have e14 : (upd A13 L2 (.lst ([.non, .bl true, .bl false, .int 0, .str x, .int (-c), .ref t1, .ref t2, .ref d1] ++ [.ref l3, .ref l5]))) L2 = some (.lst ([.non, .bl true, .bl false, .int 0, .str x, .int (-c), .ref t1, .ref t2, .ref d1] ++ [.ref l3, .ref l5])) := upd_same
      generalize upd A13 L2 _ = A14 at *
      have S2 := s1.trans s2
      have S3 := S2.trans s3
      have S4 := S3.trans s4
      have S6 := S3.trans s6
      have S7 := S6.trans s7
      have S8 := S7.trans s8
      have S9 := S8.trans s9
      have S11 := S9.trans s11
      have S13 := S11.trans (s12.trans s13)
      have S14 := S13.trans s14
      have R12 := s13.trans s14
      have R11 := s12.trans R12
      have R9 := s11.trans R11
      have R8 := s9.trans R9
      have R6 := s7.trans (s8.trans R8)
      have R3 := s6.trans R6
      have R2 := s3.trans R3
      have R1 := s2.trans R2
      refine ⟨p, L2, _, c, 999989, rfl, pa3.same S14, e14, np L2 (S13.free m10), by simp, by simp, fun H5 kx x5 hx sx5 pa5 => ?_⟩
      have up : ∀ q o, H3 q = none → A14 q = some o → H5 q = some o := fun q o e h => sx5 _ _ (np q e) h
      have ft1 : H3 t1 = none := m1
      have fl1 : H3 l1 = none := s1.free n1
      have ft2 : H3 t2 = none := S2.free m2
      have fd1 : H3 d1 = none := S3.free m3
      have fl2 : H3 l2 = none := S4.free n2
      have fl3 : H3 l3 = none := S7.free m5
      have fl4 : H3 l4 = none := S8.free m6
      have fd2 : H3 d2 = none := S9.free m7
      have fl5 : H3 l5 = none := S11.free m8
      have th : Thing K (fun q => H2 q = none) H5 x x5 := by
        rcases kx with _ | _ | _ | _ | _ | _ | _ | _ | _ | _ | _ | kx
        · cases hx
          exact .flat (d := .none) (T := "NoneType") .non (by simp only [PyData.hasDict]) (nb_none.mono (by decide)) (fun _ => .base .non) (by decide +kernel) (by decide +kernel) (by decide +kernel)
        · cases hx
          exact .flat (d := .bool true) (T := "bool") (.bl _) (by simp only [PyData.hasDict]) ((nb_bool _).mono (by decide)) (fun _ => .base (.bl _)) (by decide +kernel) (by decide +kernel) (by decide +kernel)
        · cases hx
          exact .flat (d := .bool false) (T := "bool") (.bl _) (by simp only [PyData.hasDict]) ((nb_bool _).mono (by decide)) (fun _ => .base (.bl _)) (by decide +kernel) (by decide +kernel) (by decide +kernel)
        · cases hx
          exact .flat (d := .int 0) (T := "int") (.int _) (by simp only [PyData.hasDict]) ((nb_int (by decide) (by decide)).mono (by decide)) (fun _ => .base (.int _)) (by decide +kernel) (by decide +kernel) (by decide +kernel)
        · cases hx
          exact .flat (d := .str x) (T := "str") (.str _) (by simp only [PyData.hasDict]) (nb_str hs) (fun _ => .base (.str _)) (by decide +kernel) (by decide +kernel) (by decide +kernel)
        · cases hx
          exact .flat (d := .int (-c)) (T := "int") (.int _) (by simp only [PyData.hasDict]) ((nb_int (by omega) (by omega)).mono (by decide)) (fun _ => .base (.int _)) (by decide +kernel) (by decide +kernel) (by decide +kernel)
        · cases hx
          exact .tup1 (up _ _ ft1 (R1 _ _ e1))
        · cases hx
          exact .tup2 (up _ _ ft2 (R3 _ _ e3)) (up _ _ fl1 (R2 _ _ e2)) (fr2 _ fl1)
        · cases hx
          exact .dct (up _ _ fd1 (R6 _ _ e6)) (up _ _ fl2 (R6 _ _ e6b)) (fr2 _ fl2) (fr2 _ fd1)
        · cases hx
          exact .lst1 (up _ _ fl3 (R8 _ _ e8)) (fr2 _ fl3)
        · cases hx
          exact .lst2 (up _ _ fl5 (R12 _ _ e12)) (up _ _ fl4 (R9 _ _ e9)) (up _ _ fd2 (R11 _ _ e11)) (fr2 _ fl5)
        · have z := (List.getElem?_eq_some_iff.mp hx).1
          simp at z
          omega
      have hD5 : H5 D = some (.lst (ps.map V.ref)) := sx5 _ _ neD (S14 _ _ (sx3 _ _ neD hd))
      have hp5 : ∀ (j : Nat) q, i + 1 ≤ j → ps[j]? = some q → ∃ c, PurseAt H5 q c 1000000 := fun j q hj hq => by
        obtain ⟨c', b', t', z', e', r'⟩ := hp2 j q (by omega) hq
        have nq := later j q hj hq
        exact ⟨c', b', t', z', sx5 _ _ nq (S14 _ _ (sx3 _ _ nq e')), r'⟩
      have neQ : ∀ l, H2 l = none → ∀ (j : Nat) q, i + 1 ≤ j → ps[j]? = some q → l ≠ q := fun l f j q hj hq z => by
        obtain ⟨c', b', t', z', e', r'⟩ := hp2 j q (by omega) hq
        rw [← z, f] at e'
        cases e'
      have neDl : ∀ l, H2 l = none → l ≠ D := fun l f z => by
        rw [z, hd] at f
        cases f
      clear up R1 R2 R3 R6 R8 R9 R11 R12 S2 S3 S4 S6 S7 S8 S9 S11 S13 S14 R7 s1 s2 s3 s4 s5 s6 s7 s8 s9 s10 s11 s12 s13 s14 e1 e2 e3 e4 e5 e6 e6b e7 e8 e9 e10 e11 e12 e13 e14 m1 m2 m3 m4 m5 m6 m7 m8 m9 m10 n1 n2 ft1 fl1 ft2 fd1 fl2 fl3 fl4 fd2 fl5 hx
      obtain ⟨d5, sh5, ni5⟩ := th.shown hs
      -- noted; some, called, later
      refine ⟨_, rfl, x5, d5, rfl, sh5, ni5, ?_⟩
      refine ⟨_, rfl, x5, rfl, fun H6 M1 es1 s6 f6 k6 t6 => ⟨_, rfl, x5, rfl, fun H7 M2 es2 s7 f7 k7 t7 => ⟨_, rfl, short_of (by simp), fun T1 mT1 => ?_⟩⟩⟩
      have s8 := same_new (o := .tup [.str "later", .str x]) mT1
      have e8 : (upd H7 T1 (.tup [.str "later", .str x])) T1 = some (.tup [.str "later", .str x]) := upd_same
      generalize upd H7 T1 _ = H8 at *
      refine ⟨.ref T1, rfl, fun H9 M3 es3 s9 f9 k9 t9 => ⟨_, _, _, rfl, ?_⟩⟩
      have lateS : ∀ (T : Addr) (Hx : Hp), Hx T = some (.tup [.str "later", .str x]) → Sh2 K Hx (.ref T) (.tuple [.str "later", .str x]) := fun T Hx h => .one (.dp (.tup (SqT.of h) (.cons (.str _) (.cons (.str _) .nil))) (by simp [PyData.hasDict, PyData.hasDictAll]))
      have lateN : Nice (.tuple [.str "later", .str x]) := (nb_tuple (nb_cons (nb_str small_later) (nb_cons (nb_str hs) nb_nil))).nice (by decide) (by decide)
      -- not right(bare(), 'None')
      refine ⟨rfl, fun H10 M4 es4 s10 f10 k10 t10 => ?_⟩
      refine ⟨M4, es4, .non, .none, by simp only [PyData.shown], k10, t10, .one (.dp .non (by simp only [PyData.hasDict])), nb_none.nice (by decide) (by decide), fun H11 s11 => ⟨true, rfl, ?_⟩⟩
      refine iteF ?_
      refine ⟨_, rfl, _, rfl, short_of (by simp), fun T2 mT2 => ?_⟩
      have s12 := same_new (o := .tup [.str "later", .str x]) mT2
      have e12 : (upd H11 T2 (.tup [.str "later", .str x])) T2 = some (.tup [.str "later", .str x]) := upd_same
      generalize upd H11 T2 _ = H12 at *
      have q12 := s10.trans (s11.trans s12)
      refine ⟨.ref T2, .tuple [.str "later", .str x], rfl, lateS _ _ e12, lateN, M3, es3, .ref T1, .tuple [.str "later", .str x], rfl, q12 _ _ k9, t9.same q12, lateS _ _ (q12 _ _ (s9 _ _ e8)), lateN, fun H13 s13 => ⟨true, rfl, ?_⟩⟩
      refine iteF ?_
      -- not right(some, noted) or not right(called, noted)
      have S13 := s6.trans (s7.trans (s8.trans (s9.trans (q12.trans s13))))
      have q6 := s7.trans (s8.trans (s9.trans (q12.trans s13)))
      have q7 := s8.trans (s9.trans (q12.trans s13))
      refine ⟨_, rfl, _, rfl, M1, es1, x5, d5, rfl, q6 _ _ k6, t6.same q6, sh5.same S13, ni5, fun H14 s14 => ⟨true, rfl, ?_⟩⟩
      refine iteF ?_
      refine ⟨_, rfl, _, rfl, M2, es2, x5, d5, rfl, (q7.trans s14) _ _ k7, t7.same (q7.trans s14), sh5.same (S13.trans s14), ni5, fun H15 s15 => ⟨true, rfl, ?_⟩⟩
      refine iteF ?_
      have S15 := S13.trans (s14.trans s15)
      have K15 : Keep M1 M2 D es1 es2 (cs27 C) x5 ps i H15 := ⟨(q6.trans (s14.trans s15)) _ _ k6, (q7.trans (s14.trans s15)) _ _ k7, t6.same (q6.trans (s14.trans s15)), t7.same (q7.trans (s14.trans s15)), S15 _ _ hD5, fun j q a b => let ⟨c, h⟩ := hp5 j q a b; ⟨c, h.same S15⟩⟩
      have apart : ∀ l o, H5 l = some o → l ≠ M1 ∧ l ≠ M2 := fun l o h => ⟨ne_of_none h f6, ne_of_none (s6 _ _ h) f7⟩
      clear q12 q6 q7 S13 lateS lateN t9 t10 k9 k10 e8 e12
      -- the thing is changed
      cases th with
      | @flat v d T g1 g2 g3 g4 g5 g6 g7 =>
        refine ⟨_, rfl, _, _, _, _, _, rfl, .ty "list", g4 _, kit_ty g5, _, rfl, ?_⟩
        refine iteF ?_
        refine ⟨_, rfl, _, _, _, _, _, rfl, .ty "dict", g4 _, kit_ty g6, _, rfl, ?_⟩
        refine iteF ?_
        refine ⟨_, rfl, _, _, _, _, _, rfl, .ty "tuple", g4 _, kit_ty g7, _, rfl, ?_⟩
        refine iteF ?_
        refine iteF ?_
        have shm := sh5.same S15
        have nim := ni5
        have Km := K15
        refine ⟨_, rfl, _, rfl, _, _, rfl, shm, nim, M1, es1, _, _, rfl, Km.m1, Km.e1, shm, nim, fun H17 s17 => ⟨true, rfl, ?_⟩⟩
        refine iteF ?_
        refine ⟨_, rfl, _, rfl, _, _, rfl, shm.same s17, nim, M2, es2, _, _, rfl, s17 _ _ Km.m2, Km.e2.same s17, shm.same s17, nim, fun H18 s18 => ⟨true, rfl, ?_⟩⟩
        refine iteF ?_
        have Kn := Km.same (s17.trans s18)
        exact ⟨_, _, _, _, _, _, _, _, rfl, Kn.dd, Kn.pp⟩
      | @tup1 tt g1 =>
        have h1 := S15 _ _ g1
        refine ⟨_, rfl, _, _, _, _, _, rfl, .ty "list", .base (.tup h1), kit_ty (a := "tuple") (r := false) (by decide +kernel), _, rfl, ?_⟩
        refine iteF ?_
        refine ⟨_, rfl, _, _, _, _, _, rfl, .ty "dict", .base (.tup h1), kit_ty (a := "tuple") (r := false) (by decide +kernel), _, rfl, ?_⟩
        refine iteF ?_
        refine ⟨_, rfl, _, _, _, _, _, rfl, .ty "tuple", .base (.tup h1), kit_ty (a := "tuple") (r := true) (by decide +kernel), _, rfl, ?_⟩
        refine iteT ?_
        refine ⟨_, rfl, tt, _, _, _, rfl, rfl, SqT.of h1, rfl, _, _, _, _, _, rfl, .ty "list", .base (.str x), kit_ty (a := "str") (r := false) (by decide +kernel), _, rfl, ?_⟩
        refine iteF ?_
        have shm := sh5.same S15
        have nim := ni5
        have Km := K15
        refine ⟨_, rfl, _, rfl, _, _, rfl, shm, nim, M1, es1, _, _, rfl, Km.m1, Km.e1, shm, nim, fun H17 s17 => ⟨true, rfl, ?_⟩⟩
        refine iteF ?_
        refine ⟨_, rfl, _, rfl, _, _, rfl, shm.same s17, nim, M2, es2, _, _, rfl, s17 _ _ Km.m2, Km.e2.same s17, shm.same s17, nim, fun H18 s18 => ⟨true, rfl, ?_⟩⟩
        refine iteF ?_
        have Kn := Km.same (s17.trans s18)
        exact ⟨_, _, _, _, _, _, _, _, rfl, Kn.dd, Kn.pp⟩
      | @tup2 tt ll g1 g2 gf =>
        have h1 := S15 _ _ g1
        have h2 := S15 _ _ g2
        refine ⟨_, rfl, _, _, _, _, _, rfl, .ty "list", .base (.tup h1), kit_ty (a := "tuple") (r := false) (by decide +kernel), _, rfl, ?_⟩
        refine iteF ?_
        refine ⟨_, rfl, _, _, _, _, _, rfl, .ty "dict", .base (.tup h1), kit_ty (a := "tuple") (r := false) (by decide +kernel), _, rfl, ?_⟩
        refine iteF ?_
        refine ⟨_, rfl, _, _, _, _, _, rfl, .ty "tuple", .base (.tup h1), kit_ty (a := "tuple") (r := true) (by decide +kernel), _, rfl, ?_⟩
        refine iteT ?_
        refine ⟨_, rfl, tt, _, _, _, rfl, rfl, SqT.of h1, rfl, _, _, _, _, _, rfl, .ty "list", .base (.lst h2), kit_ty (a := "list") (r := true) (by decide +kernel), _, rfl, ?_⟩
        refine iteT ?_
        refine ⟨_, rfl, tt, _, _, _, rfl, rfl, SqT.of h1, rfl, .inl ⟨rfl, _, SqL.of h2⟩, ll, _, _, rfl, rfl, h2, small1000 (by simp), ?_⟩
        have hm2 : (upd H15 ll (.lst ([.str x] ++ [.str "later"]))) ll = some (.lst [.str x, .str "later"]) := upd_same
        have hm1 : (upd H15 ll (.lst ([.str x] ++ [.str "later"]))) tt = some (.tup [.str x, .ref ll]) := by
          rw [upd_ne (ne_of h1 h2 (by intro z; cases z))]
          exact h1
        have shm : Sh2 K (upd H15 ll (.lst ([.str x] ++ [.str "later"]))) (.ref tt) (.tuple [.str x, .list [.str x, .str "later"]]) := .one (.dp (.tup (SqT.of hm1) (.cons (.str _) (.cons (dp_lst1b hm2) .nil))) (by simp [PyData.hasDict, PyData.hasDictAll]))
        have nim : Nice (.tuple [.str x, .list [.str x, .str "later"]]) := (nb_tuple (nb_cons (nb_str hs) (nb_cons (nb_w1b hs) nb_nil))).nice (by decide) (by decide)
        have Km := K15.upd (o' := .lst ([.str x] ++ [.str "later"])) h2 (.inl ⟨_, rfl⟩) (apart _ _ g2).1 (apart _ _ g2).2 (neDl _ gf) (neQ _ gf)
        refine ⟨_, rfl, _, rfl, _, _, rfl, shm, nim, M1, es1, _, _, rfl, Km.m1, Km.e1, shm, nim, fun H17 s17 => ⟨true, rfl, ?_⟩⟩
        refine iteF ?_
        refine ⟨_, rfl, _, rfl, _, _, rfl, shm.same s17, nim, M2, es2, _, _, rfl, s17 _ _ Km.m2, Km.e2.same s17, shm.same s17, nim, fun H18 s18 => ⟨true, rfl, ?_⟩⟩
        refine iteF ?_
        have Kn := Km.same (s17.trans s18)
        exact ⟨_, _, _, _, _, _, _, _, rfl, Kn.dd, Kn.pp⟩
      | @dct dd ll g1 g2 gf gd =>
        have h1 := S15 _ _ g1
        have h2 := S15 _ _ g2
        refine ⟨_, rfl, _, _, _, _, _, rfl, .ty "list", .base (.dK h1), kit_ty (a := "dict") (r := false) (by decide +kernel), _, rfl, ?_⟩
        refine iteF ?_
        refine ⟨_, rfl, _, _, _, _, _, rfl, .ty "dict", .base (.dK h1), kit_ty (a := "dict") (r := true) (by decide +kernel), _, rfl, ?_⟩
        refine iteT ?_
        have eg : DGet H15 dd (.str x) (some (.ref ll)) := by
          have z := DGet.k (k := .inr x) h1
          rw [valV_pos rfl] at z
          exact z
        refine ⟨_, rfl, _, rfl, dd, _, rfl, eg, .inl ⟨rfl, _, SqL.of h2⟩, ll, _, _, rfl, rfl, h2, small1000 (by simp), ?_⟩
        have hm2 : (upd H15 ll (.lst ([.str x] ++ [.str "later"]))) ll = some (.lst [.str x, .str "later"]) := upd_same
        have hm1 : (upd H15 ll (.lst ([.str x] ++ [.str "later"]))) dd = some (.dK [(.inr x, .ref ll)]) := by
          rw [upd_ne (ne_of h1 h2 (by intro z; cases z))]
          exact h1
        have Km0 := K15.upd (o' := .lst ([.str x] ++ [.str "later"])) h2 (.inl ⟨_, rfl⟩) (apart _ _ g2).1 (apart _ _ g2).2 (neDl _ gf) (neQ _ gf)
        generalize upd H15 ll _ = H16 at *
        refine ⟨_, rfl, dd, _, rfl, DPut.k (k := .inr "LATER") hm1 (small1000 (by simp)), ?_⟩
        have Km := Km0.upd (o' := .dK (putK [(.inr x, .ref ll)] (.inr "LATER") (.int 1))) hm1 (.inr ⟨_, rfl⟩) (apart _ _ g1).1 (apart _ _ g1).2 (neDl _ gd) (neQ _ gd)
        have hn1 : (upd H16 dd (.dK (putK [(.inr x, .ref ll)] (.inr "LATER") (.int 1)))) dd = some (.dK (putK [(.inr x, .ref ll)] (.inr "LATER") (.int 1))) := upd_same
        have hn2 : (upd H16 dd (.dK (putK [(.inr x, .ref ll)] (.inr "LATER") (.int 1)))) ll = some (.lst [.str x, .str "later"]) := by
          rw [upd_ne (ne_of hm2 hm1 (by intro z; cases z))]
          exact hm2
        refine ⟨_, rfl, _, _, _, _, _, rfl, .ty "tuple", .base (.dK hn1), kit_ty (a := "dict") (r := false) (by decide +kernel), _, rfl, ?_⟩
        refine iteF ?_
        refine iteF ?_
        obtain ⟨dm, shm, nim⟩ : ∃ dm, Sh2 K (upd H16 dd (.dK (putK [(.inr x, .ref ll)] (.inr "LATER") (.int 1)))) (.ref dd) dm ∧ Nice dm := by
          by_cases hxL : x = "LATER"
          · rw [putK_same hxL] at hn1 ⊢
            exact ⟨_, .one (.dict hn1 (.cons (.int 1) .nil) (by simp [PyData.hasDict, PyData.hasDictAll])), (nb_dict (nb_kcons (nb_str hs) (nb_int (by decide) (by decide)) nb_knil)).nice (by decide) (by decide)⟩
          · rw [putK_LATER hxL] at hn1 hn2 ⊢
            exact ⟨_, .one (.dict hn1 (.cons (dp_lst1b hn2) (.cons (.int 1) .nil)) (by simp [PyData.hasDict, PyData.hasDictAll])), (nb_dict (nb_kcons (nb_str hs) (nb_w1b hs) (nb_kcons (nb_str small_LATER) (nb_int (by decide) (by decide)) nb_knil))).nice (by decide) (by decide)⟩
        refine ⟨_, rfl, _, rfl, _, _, rfl, shm, nim, M1, es1, _, _, rfl, Km.m1, Km.e1, shm, nim, fun H17 s17 => ⟨true, rfl, ?_⟩⟩
        refine iteF ?_
        refine ⟨_, rfl, _, rfl, _, _, rfl, shm.same s17, nim, M2, es2, _, _, rfl, s17 _ _ Km.m2, Km.e2.same s17, shm.same s17, nim, fun H18 s18 => ⟨true, rfl, ?_⟩⟩
        refine iteF ?_
        have Kn := Km.same (s17.trans s18)
        exact ⟨_, _, _, _, _, _, _, _, rfl, Kn.dd, Kn.pp⟩
      | @lst1 ll g1 gf =>
        have h1 := S15 _ _ g1
        refine ⟨_, rfl, _, _, _, _, _, rfl, .ty "list", .base (.lst h1), kit_ty (a := "list") (r := true) (by decide +kernel), _, rfl, ?_⟩
        refine iteT ?_
        refine ⟨_, rfl, .inl ⟨rfl, _, SqL.of h1⟩, ll, _, _, rfl, rfl, h1, small1000 (by simp), ?_⟩
        have hm2 : (upd H15 ll (.lst ([.str x] ++ [.str "later"]))) ll = some (.lst [.str x, .str "later"]) := upd_same
        have Km := K15.upd (o' := .lst ([.str x] ++ [.str "later"])) h1 (.inl ⟨_, rfl⟩) (apart _ _ g1).1 (apart _ _ g1).2 (neDl _ gf) (neQ _ gf)
        refine ⟨_, rfl, _, _, _, _, _, rfl, .ty "dict", .base (.lst hm2), kit_ty (a := "list") (r := false) (by decide +kernel), _, rfl, ?_⟩
        refine iteF ?_
        refine ⟨_, rfl, _, _, _, _, _, rfl, .ty "tuple", .base (.lst hm2), kit_ty (a := "list") (r := false) (by decide +kernel), _, rfl, ?_⟩
        refine iteF ?_
        refine iteF ?_
        have shm : Sh2 K (upd H15 ll (.lst ([.str x] ++ [.str "later"]))) (.ref ll) (.list [.str x, .str "later"]) := .one (.dp (dp_lst1b hm2) (by simp [PyData.hasDict, PyData.hasDictAll]))
        have nim : Nice (.list [.str x, .str "later"]) := (nb_w1b hs).nice (by decide) (by decide)
        refine ⟨_, rfl, _, rfl, _, _, rfl, shm, nim, M1, es1, _, _, rfl, Km.m1, Km.e1, shm, nim, fun H17 s17 => ⟨true, rfl, ?_⟩⟩
        refine iteF ?_
        refine ⟨_, rfl, _, rfl, _, _, rfl, shm.same s17, nim, M2, es2, _, _, rfl, s17 _ _ Km.m2, Km.e2.same s17, shm.same s17, nim, fun H18 s18 => ⟨true, rfl, ?_⟩⟩
        refine iteF ?_
        have Kn := Km.same (s17.trans s18)
        exact ⟨_, _, _, _, _, _, _, _, rfl, Kn.dd, Kn.pp⟩
      | @lst2 ll la ld g1 g2 g3 gf =>
        have h1 := S15 _ _ g1
        have h2 := S15 _ _ g2
        have h3 := S15 _ _ g3
        refine ⟨_, rfl, _, _, _, _, _, rfl, .ty "list", .base (.lst h1), kit_ty (a := "list") (r := true) (by decide +kernel), _, rfl, ?_⟩
        refine iteT ?_
        refine ⟨_, rfl, .inl ⟨rfl, _, SqL.of h1⟩, ll, _, _, rfl, rfl, h1, small1000 (by simp), ?_⟩
        have hm1 : (upd H15 ll (.lst ([.ref la, .ref ld] ++ [.str "later"]))) ll = some (.lst [.ref la, .ref ld, .str "later"]) := upd_same
        have hm2 : (upd H15 ll (.lst ([.ref la, .ref ld] ++ [.str "later"]))) la = some (.lst [.str x]) := by
          rw [upd_ne (ne_of h2 h1 (by intro z; cases z))]
          exact h2
        have hm3 : (upd H15 ll (.lst ([.ref la, .ref ld] ++ [.str "later"]))) ld = some (.dK [(.inr "odd", .str x)]) := by
          rw [upd_ne (ne_of h3 h1 (by intro z; cases z))]
          exact h3
        have Km := K15.upd (o' := .lst ([.ref la, .ref ld] ++ [.str "later"])) h1 (.inl ⟨_, rfl⟩) (apart _ _ g1).1 (apart _ _ g1).2 (neDl _ gf) (neQ _ gf)
        refine ⟨_, rfl, _, _, _, _, _, rfl, .ty "dict", .base (.lst hm1), kit_ty (a := "list") (r := false) (by decide +kernel), _, rfl, ?_⟩
        refine iteF ?_
        refine ⟨_, rfl, _, _, _, _, _, rfl, .ty "tuple", .base (.lst hm1), kit_ty (a := "list") (r := false) (by decide +kernel), _, rfl, ?_⟩
        refine iteF ?_
        refine iteF ?_
        have shm : Sh2 K (upd H15 ll (.lst ([.ref la, .ref ld] ++ [.str "later"]))) (.ref ll) (.list [.list [.str x], .dict [(.str "odd", .str x)], .str "later"]) :=
          .lst hm1 (by simp) (.cons (.dp (dp_lst1 hm2) (by simp [PyData.hasDict, PyData.hasDictAll])) (.cons (.dict hm3 (.cons (.str _) .nil) (by simp [PyData.hasDict, PyData.hasDictAll])) (.cons (.dp (.str _) (by simp [PyData.hasDict])) .nil)))
        have nim : Nice (.list [.list [.str x], .dict [(.str "odd", .str x)], .str "later"]) := (nb_list (nb_cons (nb_w1 hs) (nb_cons (nb_dict (nb_kcons (nb_str small_odd) (nb_str hs) nb_knil)) (nb_cons (nb_str small_later) nb_nil)))).nice (by decide) (by decide)
        refine ⟨_, rfl, _, rfl, _, _, rfl, shm, nim, M1, es1, _, _, rfl, Km.m1, Km.e1, shm, nim, fun H17 s17 => ⟨true, rfl, ?_⟩⟩
        refine iteF ?_
        refine ⟨_, rfl, _, rfl, _, _, rfl, shm.same s17, nim, M2, es2, _, _, rfl, s17 _ _ Km.m2, Km.e2.same s17, shm.same s17, nim, fun H18 s18 => ⟨true, rfl, ?_⟩⟩
        refine iteF ?_
        have Kn := Km.same (s17.trans s18)
        exact ⟨_, _, _, _, _, _, _, _, rfl, Kn.dd, Kn.pp⟩
    · rintro σ H2 ⟨v1, v2, v3, v4, v5, v6, v7, v8, rfl, hd, hp2⟩
      refine fun a27 h27 => ?_
      have s1 := same_new (o := ExO (.ref (C 27)) a27) h27
      have e27 : (upd H2 a27 (ExO (.ref (C 27)) a27)) a27 = some (ExO (.ref (C 27)) a27) := upd_same
      generalize upd H2 a27 _ = H3 at *
      refine fun a28 h28 => ?_
      have s2 := same_new (o := ExO (.ref (C 28)) a28) h28
      have e28 : (upd H3 a28 (ExO (.ref (C 28)) a28)) a28 = some (ExO (.ref (C 28)) a28) := upd_same
      have e27 := s2 _ _ e27
      generalize upd H3 a28 _ = H4 at *
      refine ⟨short_of (by simp), fun R mR => ?_⟩
      have s3 := same_new (o := .lst [.ref a27, .ref a28]) mR
      have hR : (upd H4 R (.lst [.ref a27, .ref a28])) R = some (.lst [.ref a27, .ref a28]) := upd_same
      have e27 := s3 _ _ e27
      have e28 := s3 _ _ e28
      generalize upd H4 R _ = H5 at *
      refine ⟨_, rfl, R, rfl, ⟨_, SqL.of hR⟩, fun D2 hD2 => ?_⟩
      refine lc_list (K := K) (a := R) (xs := [.ref a27, .ref a28]) (fun i H' => ∃ ls : List Addr, H' D2 = some (.lst (ls.map V.ref)) ∧ ls.length = i ∧ Same H5 H' ∧ ∀ (j : Nat) l, ls[j]? = some l → H' l = some (.lst (codeL (27 + j))))
        ⟨[], upd_same, rfl, same_new hD2, fun j l e => by simp at e⟩ (fun i H' _ ⟨ls, _, _, s5, _⟩ => s5.seq (SqL.of hR)) ?_ ?_
      · rintro i x H' hi ⟨ls, hd', hl, s5, hc⟩
        obtain ⟨e, he, hk, hE⟩ : ∃ e, x = V.ref e ∧ i < 2 ∧ IsE H' e (C (27 + i)) := by
          rcases i with _ | _ | i
          · cases hi
            exact ⟨_, rfl, by decide, .bare (s5 _ _ e27)⟩
          · cases hi
            exact ⟨_, rfl, by decide, .bare (s5 _ _ e28)⟩
          · simp at hi
        subst he
        refine ⟨rfl, ?_⟩
        refine ⟨_, rfl, e, 27 + i, rfl, by omega, hE, fun H6 l s6 n6 h6 => ?_⟩
        have hd6 := s6 _ _ hd'
        have nl : l ≠ D2 := fun z => by
          rw [z, hd'] at n6
          cases n6
        refine ⟨_, hd6, by rw [List.length_map, hl, sizeLine_eq]; omega, ls ++ [l], ?_, by simp [hl], same_upd (s5.trans s6) hD2, fun j q hq => ?_⟩
        · rw [upd_same]
          simp
        · have hj1 := (List.getElem?_eq_some_iff.mp hq).1
          have nq : q ≠ D2 := fun z => by
            by_cases hj : j < ls.length
            · rw [List.getElem?_append_left hj] at hq
              have q1 := hc j q hq
              rw [z, hd'] at q1
              have q3 : ls.map V.ref = codeL (27 + j) := by
                have q2 := Option.some.inj q1
                injection q2
              rw [codeL_of (by omega)] at q3
              cases ls with
              | nil => simp at hj
              | cons a b => simp at q3
            · rw [List.getElem?_append_right (by omega)] at hq
              have jl : j - ls.length = 0 := by
                simp at hj1
                omega
              rw [jl] at hq
              cases hq
              exact nl z
          rw [upd_ne nq]
          by_cases hj : j < ls.length
          · rw [List.getElem?_append_left hj] at hq
            exact s6 _ _ (hc j q hq)
          · rw [List.getElem?_append_right (by omega)] at hq
            have jl : j - ls.length = 0 := by
              simp at hj1
              omega
            rw [jl] at hq
            cases hq
            have : j = i := by omega
            rw [this]
            exact h6
      · rintro H6 ⟨ls, hd', hl, s5, hc⟩
        obtain ⟨u0, u1, rfl⟩ : ∃ u0 u1, ls = [u0, u1] := by
          match ls, hl with
          | [u0, u1], _ => exact ⟨u0, u1, rfl⟩
        have hu0 := hc 0 u0 rfl
        have hu1 := hc 1 u1 rfl
        rw [codeL_of (by decide)] at hu0 hu1
        refine ⟨short_of (by simp), fun p1 m1 => ?_⟩
        have r1 := same_new (o := .lst [.int 27]) m1
        have f1 : (upd H6 p1 (.lst [.int 27])) p1 = some (.lst [.int 27]) := upd_same
        generalize upd H6 p1 _ = H7 at *
        refine ⟨short_of (by simp), fun p2 m2 => ?_⟩
        have r2 := same_new (o := .lst [.int 28]) m2
        have f2 : (upd H7 p2 (.lst [.int 28])) p2 = some (.lst [.int 28]) := upd_same
        have f1 := r2 _ _ f1
        generalize upd H7 p2 _ = H8 at *
        refine ⟨short_of (by simp), fun p3 m3 => ?_⟩
        have r3 := same_new (o := .lst [.ref p1, .ref p2]) m3
        have f3 : (upd H8 p3 (.lst [.ref p1, .ref p2])) p3 = some (.lst [.ref p1, .ref p2]) := upd_same
        have f1 := r3 _ _ f1
        have f2 := r3 _ _ f2
        generalize upd H8 p3 _ = H9 at *
        have rr := r1.trans (r2.trans r3)
        have dpA : Dp K H9 (.ref D2) (.list [.list [.int 27], .list [.int 28]]) := .lst (SqL.of (rr _ _ hd')) (.cons (.lst (SqL.of (rr _ _ hu0)) (.cons (.int _) .nil)) (.cons (.lst (SqL.of (rr _ _ hu1)) (.cons (.int _) .nil)) .nil))
        have dpB : Dp K H9 (.ref p3) (.list [.list [.int 27], .list [.int 28]]) := .lst (SqL.of f3) (.cons (.lst (SqL.of f1) (.cons (.int _) .nil)) (.cons (.lst (SqL.of f2) (.cons (.int _) .nil)) .nil))
        have eqv1 : PyData.eqv (.list [.list [.int 27], .list [.int 28]]) (.list [.list [.int 27], .list [.int 28]]) = true := by decide +kernel
        refine ⟨_, _, dpA, dpB, by decide +kernel, by decide +kernel, _, rfl, ?_⟩
        rw [eqv1]
        refine iteF ?_
        have hR := rr _ _ (s5 _ _ hR)
        have e27 := rr _ _ (s5 _ _ e27)
        have e28 := rr _ _ (s5 _ _ e28)
        -- rest.append(FriendError())
        refine ⟨_, rfl, .inl ⟨rfl, _, SqL.of hR⟩, fun a29 h29 => ?_⟩
        have r4 := same_new (o := ExO (.ref (C 29)) a29) h29
        have e29 : (upd H9 a29 (ExO (.ref (C 29)) a29)) a29 = some (ExO (.ref (C 29)) a29) := upd_same
        have hR := r4 _ _ hR
        have e27 := r4 _ _ e27
        have e28 := r4 _ _ e28
        generalize upd H9 a29 _ = H10 at *
        refine ⟨R, _, _, rfl, rfl, hR, small1000 (by simp), ?_⟩
        have ok : ∀ (e : Addr) (D : Addr), H10 e = some (ExO (.ref D) e) → (upd H10 R (.lst ([.ref a27, .ref a28] ++ [.ref a29]))) e = some (ExO (.ref D) e) := fun e D h => by
          have ne : e ≠ R := ne_of h hR (fun z => by
            have z' : HO.ext _ = HO.lst _ := z
            cases z')
          rw [upd_ne ne]
          exact h
        have hR3 : (upd H10 R (.lst ([.ref a27, .ref a28] ++ [.ref a29]))) R = some (.lst [.ref a27, .ref a28, .ref a29]) := upd_same
        have e27 := ok _ _ e27
        have e28 := ok _ _ e28
        have e29 := ok _ _ e29
        clear ok
        generalize upd H10 R _ = H11 at *
        refine ⟨_, rfl, R, rfl, ⟨_, SqL.of hR3⟩, fun D3 hD3 => ?_⟩
        refine lc_list (K := K) (a := R) (xs := [.ref a27, .ref a28, .ref a29]) (fun i H' => H' D3 = some (.lst ((List.replicate i true).map V.bl)) ∧ i ≤ 3 ∧ Same H11 H') ⟨upd_same, by decide, same_new hD3⟩ (fun i H' _ ⟨_, _, s7⟩ => s7.seq (SqL.of hR3)) ?_ ?_
        · rintro i x H' hi ⟨h3, hi3, s7⟩
          obtain ⟨e, he, hk, hE⟩ : ∃ e, x = V.ref e ∧ i < 3 ∧ IsE H' e (C (27 + i)) := by
            rcases i with _ | _ | _ | i
            · cases hi
              exact ⟨_, rfl, by decide, .bare (s7 _ _ e27)⟩
            · cases hi
              exact ⟨_, rfl, by decide, .bare (s7 _ _ e28)⟩
            · cases hi
              exact ⟨_, rfl, by decide, .bare (s7 _ _ e29)⟩
            · simp at hi
          subst he
          refine ⟨rfl, ?_⟩
          refine ⟨_, rfl, e, 27 + i, rfl, by omega, hE, ?_⟩
          refine ⟨_, h3, by rw [List.length_map, List.length_replicate, sizeLine_eq]; omega, ?_, by omega, same_upd s7 hD3⟩
          rw [upd_same, List.replicate_succ', List.map_append]
          rfl
        · rintro H12 ⟨h3, _, s7⟩
          refine ⟨D3, [true, true, true], rfl, SqL.of h3, true, rfl, ?_⟩
          refine iteT ?_
          refine ⟨_, rfl, R, _, _, _, rfl, rfl, SqL.of (s7 _ _ hR3), rfl, a29, 29, rfl, by decide, .bare (s7 _ _ e29), fun H13 L s8 n8 h8 => ?_⟩
          rw [codeL_29] at h8
          refine ⟨short_of (by simp), fun p4 m4 => ?_⟩
          have h8' : (upd H13 p4 (.lst [])) L = some (.lst []) := same_new m4 _ _ h8
          refine ⟨.list [], .list [], .lst (SqL.of h8') .nil, .lst (SqL.of upd_same) .nil, by decide +kernel, by decide +kernel, ?_⟩
          exact kk _
end
end K1

set_option Elab.async false
set_option linter.all false
set_option maxRecDepth 100000
set_option maxHeartbeats 2000000
namespace K1
open PySem PySem.Spec PyProof.Rows L2
/-! ### the end: the law's def called while nothing is being shown -/
theorem calm_call {P : Program} {w : World} {K : PySem.W.Frag} {mg mb : Str → Option Value} {k : Nat} {fa a : Addr} {fd : FuncData} {x : Str} {sp : Sp} {s1 : Shared} {us : List Value} {ns : List Int}
    (KX : K.In s1.heap) (gl : s1.heap.Ns mainGlobals mg) (bl : s1.heap.Ns builtinsNs mb) (bb : ∀ x : Str, x ≠ "__name__" → mb x = bootBuiltins x) (li : s1.heap.NoLimit) (ge : s1.gens = #[])
    (at_a : s1.heap.get? a = some { cls := .type "list", data := .seq us.toArray }) (isI : IntsAre us ns) (short : ns.length ≤ sizeLine) (hr : Room k callerA)
    (F : ∀ base : Heap, K.In base → base.Ns mainGlobals mg → Calm P w K mg base k fa fd [x] sp) (bnd : ∀ (s : Shared) (u : Value), BindsTo s fd ⟨[u], []⟩ [(x, u)])
    (want : ∀ H : Hp, Only H → SqL K H a (ns.map V.int) → sp [.ref a] H (fun v _ => v = .bl true) fun _ _ _ => False) :
    codeAny (model P w) callerA (.call (.ref fa) ⟨[.ref a], []⟩) (fun r s' => r = .ok (.ret (.bool true)) ∧ OldK s1.heap s'.heap ∧ s'.os = s1.os ∧ AllBare s'.gens) s1 := by
  have rel := vals_ints isI
  have lens := isI.length
  have main : ∀ H : Hp, Only H → SqL K H a (ns.map V.int) → HOk P w H s1.heap → (∀ b, H b ≠ none → b = a) → (H a ≠ none → K.lookup a = none) →
      codeAny (model P w) callerA (.call (.ref fa) ⟨[.ref a], []⟩) (fun r s' => r = .ok (.ret (.bool true)) ∧ OldK s1.heap s'.heap ∧ s'.os = s1.os ∧ AllBare s'.gens) s1 := by
    intro H only sq held alone ofK
    have low : ∀ {b : Addr} {u : Obj}, s1.heap.get? b = some u → H b = none → (hidT s1.heap H).get? b = some u := fun e n => hidT_get e n
    have dictFree : ∀ {b : Addr} {u : Obj} {es : Array DictEntry} {ep : Nat}, s1.heap.get? b = some u → u.data = .dict es ep → H b = none := by
      intro b u es ep e d
      cases q : H b with
      | none => rfl
      | some y =>
        obtain rfl : b = a := alone b (by rw [q]; exact fun z => nomatch z)
        rw [at_a] at e
        cases e
        exact nomatch (show Data.seq us.toArray _ = Data.dict es ep from d)
    have nsLow : ∀ {b : Addr} {m : Str → Option Value}, s1.heap.Ns b m → (hidT s1.heap H).Ns b m := by
      rintro b m ⟨u, es, ep, e, d, r⟩
      exact ⟨u, es, ep, low e (dictFree e d), d, r⟩
    have kLow : K.In (hidT s1.heap H) := by
      intro b u e
      refine low (KX b u e) ?_
      cases q : H b with
      | none => rfl
      | some y =>
        obtain rfl : b = a := alone b (by rw [q]; exact fun z => nomatch z)
        rw [ofK (by rw [q]; exact fun z => nomatch z)] at e
        cases e
    obtain ⟨mc, i1, i2⟩ := li
    have M : Mod K mg (hidT s1.heap H) := ⟨kLow, nsLow gl, ⟨mb, nsLow bl, bb⟩, ⟨mc, nsLow i1, i2⟩⟩
    have e0 : Env0 P w K mg (hidT s1.heap H) callerA [] s1 H := ⟨rfl, M, fun _ _ e => of_hidT e, Nat.le_of_eq (hidT_size _ _), trivial, fun b z => absurd (show b ∈ ([] : List Addr) from z) (by simp), held, .of_eq ge⟩
    refine codeAny_mono ((F _ kLow (nsLow gl)).run callerA [] s1 H ⟨[.ref a], []⟩ [.ref a] [.ref a] _ _ rfl hr e0 (bnd s1 (.ref a)) (.cons rfl .nil) (want H only sq)) fun r s' z => ?_
    cases r with
    | error e => exact (show False from z).elim
    | ok fl =>
      cases fl with
      | next => exact z.elim
      | brk => exact z.elim
      | cont => exact z.elim
      | ret u =>
        obtain ⟨v, H', os, bare, un, held', ru, ev⟩ := z
        obtain rfl : v = .bl true := ev
        obtain rfl : u = Value.bool true := ru
        refine ⟨rfl, OldK.of_keep fun b y e => ?_, os, bare⟩
        cases q : H b with
        | none => exact un.keep b y e q (fun z => nomatch z) (fun z => nomatch z)
        | some y2 =>
          rcases only b with z | ⟨ob, xs, z⟩
          · rw [q] at z
            cases z
          · obtain ⟨g1, _⟩ := held b _ z
            obtain ⟨g2, _⟩ := held' b _ (un.frzs b ob _ z)
            rw [e] at g1
            cases g1
            exact g2
  cases lk : K.lookup a with
  | some y =>
    have e := KX a y lk
    rw [at_a] at e
    cases e
    refine main (fun _ => none) (fun _ => .inl rfl) (.inr ⟨_, us.toArray, _, lk, rfl, rfl, rfl, ?_, by simpa using rel⟩) (fun b u z => nomatch (show (none : Option HO) = some u from z)) (fun b z => absurd rfl z) fun z => absurd rfl z
    rw [List.size_toArray, lens]
    exact short
  | none =>
    have here : ∀ b, b = a → (if b = a then some (HO.frz { cls := .type "list", data := .seq us.toArray } (.lst (ns.map V.int))) else none) = some (HO.frz { cls := .type "list", data := .seq us.toArray } (.lst (ns.map V.int))) := fun b e => if_pos e
    refine main (fun b => if b = a then some (.frz { cls := .type "list", data := .seq us.toArray } (.lst (ns.map V.int))) else none) (fun b => ?_) (.inl (.inr ⟨{ cls := .type "list", data := .seq us.toArray }, here a rfl⟩)) (fun b u z => ?_) (fun b z => ?_) fun _ => lk
    · by_cases e : b = a
      · exact .inr ⟨_, _, here b e⟩
      · exact .inl (if_neg e)
    · by_cases e : b = a
      · have z2 := (here b e).symm.trans z
        cases z2
        subst e
        exact ⟨at_a, by rw [List.length_map]; exact short, us, _, rel, at_a⟩
      · cases (if_neg e).symm.trans z
    · by_cases e : b = a
      · exact e
      · exact absurd (if_neg e) z
theorem calm_walk {l : PySem.W.OpenLaw} {n k : Nat} {q : Program} {loose : List Str} {XP : (Str → Option Value) → Heap → Prop} {YP : World → Heap → Prop} {d : DefRec} {K : Params → PySem.W.Frag} {sp : PySem.W.Frag → Sp} {x : Str}
    (hn : l.most = some n) (hn2 : n ≤ sizeLine) (hdf : d.params.defaults = []) (hr : Room k callerA) (hY : ∀ (w : World) (h : Heap), YP w h → (K w.params).In h)
    (F : ∀ (w : World) (mg : Str → Option Value) (fa : Addr) (h : Heap), (K w.params).In h → h.Ns mainGlobals mg → mg d.name = some (.ref fa) →
      ∃ fd : FuncData, (∀ (s : Shared) (u : Value), BindsTo s fd ⟨[u], []⟩ [(x, u)]) ∧ ∀ base : Heap, (K w.params).In base → base.Ns mainGlobals mg → Calm l.prog w (K w.params) mg base k fa fd [x] (sp (K w.params)))
    (want : ∀ (K : PySem.W.Frag) (H : Hp) (a : Addr) (ns : List Int), ns.length ≤ n → Only H → SqL K H a (ns.map V.int) → sp K [.ref a] H (fun v _ => v = .bl true) fun _ _ _ => False) :
    PySem.W.WalkO q loose XP YP l.row.toRowW d [] (fun f vs => PySem.call f vs) := by
  refine Att.attach_call hn hdf fun w s0 s1 mg mb fa o pm cd doc a vs ns G Y ho hd hcd hmg hobj hints hlen hg => ?_
  have KX := hY w _ Y
  obtain ⟨fd, hb, hF⟩ := F w mg fa _ KX G.T.g hmg
  exact calm_call KX G.T.g G.T.b G.T.builtins G.T.nolimit hg hobj hints (Nat.le_trans hlen hn2) hr hF hb fun H hO hS => want (K w.params) H a ns hlen hO hS
/-! ### what the top has written, in pieces -/
/-- one of the twenty-seven classes -/
structure OneC (P : Program) (w : World) (K : PySem.W.Frag) (mg : Str → Option Value) (x : Str) (C CF : Addr) : Prop where
  err : ∀ base, Err P w K mg base x C
  look : LookC K C (.ref CF :: PySem.HandSPX.veTail)
  exc : ExcC K C
  g : mg x = some (.ref C)
  k : PySem.W.keepIn K (.ref C) = true
/-- a class without a field -/
structure OneN (K : PySem.W.Frag) (mg : Str → Option Value) (x : Str) (C : Addr) (bm : List Value) : Prop where
  look : LookC K C bm
  exc : ExcC K C
  g : mg x = some (.ref C)
  k : PySem.W.keepIn K (.ref C) = true
  own : PySem.W.excIn K C PySem.HandSPX.veTail "ValueError.__new__" = true
structure DefC (K : PySem.W.Frag) (mg : Str → Option Value) (x : Str) (st : Stmt) : Prop where
  ex : ∃ f fd, mg x = some (.ref f) ∧ Fun K x x st f fd
section
variable {P : Program} {w : World} {K : PySem.W.Frag} {h : Heap} {mg : Str → Option Value}
theorem exc_of {C : Addr} {bm : List Value} (lk : LookC K C bm) (b1 : bm.contains (.type "BaseException") = true) (b2 : bm.contains (.type "object") = true)
    (hg : PySem.W.findIn K (.ref C) "__getattribute__" = some (some (.builtin "BaseException.__getattribute__"))) (hk : PySem.W.findIn K (.ref C) "__getattr__" = some none) (ha : PySem.W.findIn K (.ref C) "__class__" = some (some (.builtin "object.__class__")))
    (hn : PySem.W.specialIn K (.builtin "object.__class__") "__get__" = some (some (.builtin "getset_descriptor.__get__"))) (ht : PySem.W.takesIn K (.builtin "object.__class__") = some true) : ExcC K C := by
  refine ⟨hg, hk, ?_, ?_, ha, hn, ht, ?_⟩
  · rw [lk.sub, List.contains_cons, b1, Bool.or_true]
  · obtain ⟨nm, q, N, bs, sn, sub, ab, col, dd, k0, k1, k2, k3, k5, e⟩ := lk
    unfold PySem.W.hasDictIn PySem.W.clsIn
    rw [e]
    rfl
  · have z := lk.sub (.type "object")
    rw [List.contains_cons, b2, Bool.or_true] at z
    exact z
theorem one_mk {x q nm qn : Str} {C CF N f T : Addr} {bs sub : List Value} {sn : List Str} {ab : Bool} {col : Option Bool} {dd od an : Option Addr} {k0 k1 k2 k3 k5 : Option Value} {oc kV dc pm cd ct : Value} {sl : Array (Option Value)} {p1 p2 p3 q1 q2 q3 q4 : Pos} {oT : Obj} {m : Nat}
    (X : K.In h) (G : h.Ns mainGlobals mg) (hn : PySem.W.specialIn K (.builtin "object.__class__") "__get__" = some (some (.builtin "getset_descriptor.__get__"))) (ht : PySem.W.takesIn K (.builtin "object.__class__") = some true)
    (aC : PySem.W.nsIn K mainGlobals x = some (some (.ref C)))
    (lC : K.lookup C = some (excClassObj nm qn C N bs (.ref CF :: PySem.HandSPX.veTail) true sn sub ab col dd k0 k1 k2 k3 k5 "ValueError.__new__"))
    (sa : PySem.W.findIn K (.ref C) "__setattr__" = some (some (.builtin "object.__setattr__"))) (kC : PySem.W.keepIn K (.ref C) = true)
    (hg : PySem.W.findIn K (.ref C) "__getattribute__" = some (some (.builtin "BaseException.__getattribute__"))) (hk : PySem.W.findIn K (.ref C) "__getattr__" = some none) (ha : PySem.W.findIn K (.ref C) "__class__" = some (some (.builtin "object.__class__")))
    (no : PySem.W.findIn K (.ref C) "value" = some none) (iC : PySem.W.findIn K (.ref C) "__init__" = some (some (.ref f))) (tI : PySem.W.typeIn K (.ref f) = some (.type "function"))
    (lf : K.lookup f = some ⟨oc, od, .func (PySem.W.fnOf "__init__" q (iniA p1 p2 p3) (iniB q1 q2 q3 q4) iniS (.ref T) kV dc pm an cd ct), sl⟩) (cf : PySem.W.codeIn K cd q = true) (kf : PySem.W.keepIn K (.ref f) = true)
    (lT : K.lookup T = some oT) (dT : oT.data = .seq #[.none] m) : OneC P w K mg x C CF := by
  have lk : LookC K C (.ref CF :: PySem.HandSPX.veTail) := ⟨_, _, _, _, _, _, _, _, _, _, _, _, _, _, lC⟩
  have ec : ExcC K C := exc_of lk (by simp [PySem.HandSPX.veTail]) (by simp [PySem.HandSPX.veTail]) hg hk ha hn ht
  have oe : OexC K C := ⟨⟨nm, qn, N, bs, _, sn, sub, ab, col, dd, k0, k1, k2, k3, k5, lC, (show PySem.HandSPX.refsVE PySem.HandSPX.veTail = true by decide +kernel)⟩, sa, ec.hs, lk.ty, kC⟩
  have g := PySem.W.mg_of X G aC
  have FD : FunD K "__init__" q (iniA p1 p2 p3) (iniB q1 q2 q3 q4) iniS [.non] [] f _ := ⟨⟨oc, od, .ref T, kV, dc, pm, an, cd, ct, sl, rfl, lf, cf, .inr ⟨by simp, T, oT, [.none], m, rfl, lT, dT, .cons rfl .nil⟩, .inl rfl⟩, kf⟩
  exact ⟨fun base => err_of ⟨oe, ec, no⟩ g iC tI FD, lk, ec, g, kC⟩
theorem none_mk {x nm qn : Str} {C N : Addr} {bs bm sub : List Value} {sn : List Str} {ab : Bool} {col : Option Bool} {dd : Option Addr} {k0 k1 k2 k3 k5 : Option Value}
    (X : K.In h) (G : h.Ns mainGlobals mg) (hn : PySem.W.specialIn K (.builtin "object.__class__") "__get__" = some (some (.builtin "getset_descriptor.__get__"))) (ht : PySem.W.takesIn K (.builtin "object.__class__") = some true)
    (b1 : bm.contains (.type "BaseException") = true) (b2 : bm.contains (.type "object") = true)
    (aC : PySem.W.nsIn K mainGlobals x = some (some (.ref C)))
    (lC : K.lookup C = some (excClassObj nm qn C N bs bm true sn sub ab col dd k0 k1 k2 k3 k5 "ValueError.__new__")) (kC : PySem.W.keepIn K (.ref C) = true)
    (hg : PySem.W.findIn K (.ref C) "__getattribute__" = some (some (.builtin "BaseException.__getattribute__"))) (hk : PySem.W.findIn K (.ref C) "__getattr__" = some none) (ha : PySem.W.findIn K (.ref C) "__class__" = some (some (.builtin "object.__class__")))
    (own : PySem.W.excIn K C PySem.HandSPX.veTail "ValueError.__new__" = true) : OneN K mg x C bm := by
  have lk : LookC K C bm := ⟨_, _, _, _, _, _, _, _, _, _, _, _, _, _, lC⟩
  exact ⟨lk, exc_of lk b1 b2 hg hk ha hn ht, PySem.W.mg_of X G aC, kC, own⟩
theorem def_mk {x : Str} {st : Stmt} {f : Addr} {oc kV dc pm cd ct : Value} {od an : Option Addr} {sl : Array (Option Value)} (X : K.In h) (G : h.Ns mainGlobals mg) (a : PySem.W.nsIn K mainGlobals x = some (some (.ref f)))
    (l : K.lookup f = some ⟨oc, od, .func (PySem.W.fnOf x x (defArgs st) (defBody st) (defScope st) .none kV dc pm an cd ct), sl⟩) (c : PySem.W.codeIn K cd x = true) (k : PySem.W.keepIn K (.ref f) = true) : DefC K mg x st :=
  ⟨_, _, PySem.W.mg_of X G a, fun_mk l c k⟩
theorem all_mk {fa fL c0 c1 c2 c3 c4 c5 c6 c7 c8 c9 c10 c11 c12 c13 c14 c15 c16 c17 c18 c19 c20 c21 c22 c23 c24 c25 c26 c27 c28 c29 : Addr} (o0 : OneC P w K mg "InvalidPerson" c0 c29)
    (o1 : OneC P w K mg "InvalidPeople" c1 c29)
    (o2 : OneC P w K mg "InvalidPair" c2 c29)
    (o3 : OneC P w K mg "InvalidPairs" c3 c29)
    (o4 : OneC P w K mg "InvalidCompany" c4 c29)
    (o5 : OneC P w K mg "InvalidCompanies" c5 c29)
    (o6 : OneC P w K mg "InvalidChange" c6 c29)
    (o7 : OneC P w K mg "InvalidChanges" c7 c29)
    (o8 : OneC P w K mg "InvalidNames" c8 c29)
    (o9 : OneC P w K mg "InvalidManner" c9 c29)
    (o10 : OneC P w K mg "InvalidManners" c10 c29)
    (o11 : OneC P w K mg "InvalidTally" c11 c29)
    (o12 : OneC P w K mg "InvalidRoad" c12 c29)
    (o13 : OneC P w K mg "InvalidLabels" c13 c29)
    (o14 : OneC P w K mg "InvalidWishes" c14 c29)
    (o15 : OneC P w K mg "InvalidCount" c15 c29)
    (o16 : OneC P w K mg "InvalidTable" c16 c29)
    (o17 : OneC P w K mg "InvalidClub" c17 c29)
    (o18 : OneC P w K mg "InvalidPlace" c18 c29)
    (o19 : OneC P w K mg "InvalidHouse" c19 c29)
    (o20 : OneC P w K mg "InvalidSpot" c20 c29)
    (o21 : OneC P w K mg "InvalidScript" c21 c29)
    (o22 : OneC P w K mg "InvalidText" c22 c29)
    (o23 : OneC P w K mg "InvalidLog" c23 c29)
    (o24 : OneC P w K mg "Unlike" c24 c29)
    (o25 : OneC P w K mg "Apart" c25 c29)
    (o26 : OneC P w K mg "Refused" c26 c29)
    (o27 : OneN K mg "NothingToUndo" c27 (.ref c29 :: PySem.HandSPX.veTail)) (o28 : OneN K mg "NothingToRedo" c28 (.ref c29 :: PySem.HandSPX.veTail)) (o29 : OneN K mg "FriendError" c29 PySem.HandSPX.veTail)
    (ap : ([c0, c1, c2, c3, c4, c5, c6, c7, c8, c9, c10, c11, c12, c13, c14, c15, c16, c17, c18, c19, c20, c21, c22, c23, c24, c25, c26, c27, c28, c29] : List Addr).Nodup)
    (d0 : DefC K mg "_law_purse" sPurse)
    (d1 : DefC K mg "_law_mixed" sMixed)
    (d2 : DefC K mg "_law_draw" sDraw)
    (d3 : DefC K mg "_law_purses" sPurses)
    (d4 : DefC K mg "_law_one_of" sOneOf)
    (d5 : DefC K mg "_law_word" sWord)
    (d6 : DefC K mg "_law_first" sFirst)
    (d7 : DefC K mg "_law_called" sCalled)
    (d8 : DefC K mg "_law_bare" sBare)
    (d9 : DefC K mg "_law_code" sCode)
    (d10 : DefC K mg "_law_is_error" sIsErr)
    (d11 : DefC K mg "_law_right" sRight)
    (z_sum : mg "sum" = none)
    (z_max : mg "max" = none)
    (z_min : mg "min" = none)
    (z_int : mg "int" = none)
    (z_range : mg "range" = none)
    (z_len : mg "len" = none)
    (z_repr : mg "repr" = none)
    (z_isinstance : mg "isinstance" = none)
    (z_list : mg "list" = none)
    (z_dict : mg "dict" = none)
    (z_tuple : mg "tuple" = none)
    (z_all : mg "all" = none)
    (z_ValueError : mg "ValueError" = none)
    {oc kV dc pm cd ct : Value} {od an : Option Addr} {sl : Array (Option Value)} (hfa : mg "law" = some (.ref fa)) (X : K.In h) (G : h.Ns mainGlobals mg) (aL : PySem.W.nsIn K mainGlobals "law" = some (some (.ref fL)))
    (lL : K.lookup fL = some ⟨oc, od, .func (PySem.W.fnOf "law" "law" (defArgs sLaw) (defBody sLaw) (defScope sLaw) .none kV dc pm an cd ct), sl⟩) (cL : PySem.W.codeIn K cd "law" = true) (kL : PySem.W.keepIn K (.ref fL) = true) :
    ∃ fd : FuncData, (∀ (s : Shared) (u : Value), BindsTo s fd ⟨[u], []⟩ [("_law_script", u)]) ∧ ∀ base : Heap, K.In base → base.Ns mainGlobals mg → Calm P w K mg base 4 fa fd ["_law_script"] (spLaw K) := by
  have e := hfa.symm.trans (PySem.W.mg_of X G aL)
  cases e
  let C : Nat → Addr := fun i => ([c0, c1, c2, c3, c4, c5, c6, c7, c8, c9, c10, c11, c12, c13, c14, c15, c16, c17, c18, c19, c20, c21, c22, c23, c24, c25, c26, c27, c28, c29] : List Addr).getD i 0
  have look : ∀ i, i < 29 → LookC K (C i) (.ref (C 29) :: PySem.HandSPX.veTail) := fun i hi => match i, hi with | 0, _ => o0.look | 1, _ => o1.look | 2, _ => o2.look | 3, _ => o3.look | 4, _ => o4.look | 5, _ => o5.look | 6, _ => o6.look | 7, _ => o7.look | 8, _ => o8.look | 9, _ => o9.look | 10, _ => o10.look | 11, _ => o11.look | 12, _ => o12.look | 13, _ => o13.look | 14, _ => o14.look | 15, _ => o15.look | 16, _ => o16.look | 17, _ => o17.look | 18, _ => o18.look | 19, _ => o19.look | 20, _ => o20.look | 21, _ => o21.look | 22, _ => o22.look | 23, _ => o23.look | 24, _ => o24.look | 25, _ => o25.look | 26, _ => o26.look | 27, _ => o27.look | 28, _ => o28.look | n + 29, hi => absurd hi (by omega)
  have exc : ∀ i, i < 30 → ExcC K (C i) := fun i hi => match i, hi with | 0, _ => o0.exc | 1, _ => o1.exc | 2, _ => o2.exc | 3, _ => o3.exc | 4, _ => o4.exc | 5, _ => o5.exc | 6, _ => o6.exc | 7, _ => o7.exc | 8, _ => o8.exc | 9, _ => o9.exc | 10, _ => o10.exc | 11, _ => o11.exc | 12, _ => o12.exc | 13, _ => o13.exc | 14, _ => o14.exc | 15, _ => o15.exc | 16, _ => o16.exc | 17, _ => o17.exc | 18, _ => o18.exc | 19, _ => o19.exc | 20, _ => o20.exc | 21, _ => o21.exc | 22, _ => o22.exc | 23, _ => o23.exc | 24, _ => o24.exc | 25, _ => o25.exc | 26, _ => o26.exc | 27, _ => o27.exc | 28, _ => o28.exc | 29, _ => o29.exc | n + 30, hi => absurd hi (by omega)
  have er : ∀ i, i < 27 → ErrC K (C i) := fun i hi => match i, hi with | 0, _ => (o0.err h).c | 1, _ => (o1.err h).c | 2, _ => (o2.err h).c | 3, _ => (o3.err h).c | 4, _ => (o4.err h).c | 5, _ => (o5.err h).c | 6, _ => (o6.err h).c | 7, _ => (o7.err h).c | 8, _ => (o8.err h).c | 9, _ => (o9.err h).c | 10, _ => (o10.err h).c | 11, _ => (o11.err h).c | 12, _ => (o12.err h).c | 13, _ => (o13.err h).c | 14, _ => (o14.err h).c | 15, _ => (o15.err h).c | 16, _ => (o16.err h).c | 17, _ => (o17.err h).c | 18, _ => (o18.err h).c | 19, _ => (o19.err h).c | 20, _ => (o20.err h).c | 21, _ => (o21.err h).c | 22, _ => (o22.err h).c | 23, _ => (o23.err h).c | 24, _ => (o24.err h).c | 25, _ => (o25.err h).c | 26, _ => (o26.err h).c | n + 27, hi => absurd hi (by omega)
  have E : ∀ base, ∀ i, i < 27 → Err P w K mg base (nm i) (C i) := fun base => fun i hi => match i, hi with | 0, _ => o0.err base | 1, _ => o1.err base | 2, _ => o2.err base | 3, _ => o3.err base | 4, _ => o4.err base | 5, _ => o5.err base | 6, _ => o6.err base | 7, _ => o7.err base | 8, _ => o8.err base | 9, _ => o9.err base | 10, _ => o10.err base | 11, _ => o11.err base | 12, _ => o12.err base | 13, _ => o13.err base | 14, _ => o14.err base | 15, _ => o15.err base | 16, _ => o16.err base | 17, _ => o17.err base | 18, _ => o18.err base | 19, _ => o19.err base | 20, _ => o20.err base | 21, _ => o21.err base | 22, _ => o22.err base | 23, _ => o23.err base | 24, _ => o24.err base | 25, _ => o25.err base | 26, _ => o26.err base | n + 27, hi => absurd hi (by omega)
  have Gn : ∀ i, i < 29 → mg (nm i) = some (.ref (C i)) := fun i hi => match i, hi with | 0, _ => o0.g | 1, _ => o1.g | 2, _ => o2.g | 3, _ => o3.g | 4, _ => o4.g | 5, _ => o5.g | 6, _ => o6.g | 7, _ => o7.g | 8, _ => o8.g | 9, _ => o9.g | 10, _ => o10.g | 11, _ => o11.g | 12, _ => o12.g | 13, _ => o13.g | 14, _ => o14.g | 15, _ => o15.g | 16, _ => o16.g | 17, _ => o17.g | 18, _ => o18.g | 19, _ => o19.g | 20, _ => o20.g | 21, _ => o21.g | 22, _ => o22.g | 23, _ => o23.g | 24, _ => o24.g | 25, _ => o25.g | 26, _ => o26.g | 27, _ => o27.g | 28, _ => o28.g | n + 29, hi => absurd hi (by omega)
  have kc : ∀ i, i < 30 → PySem.W.keepIn K (.ref (C i)) = true := fun i hi => match i, hi with | 0, _ => o0.k | 1, _ => o1.k | 2, _ => o2.k | 3, _ => o3.k | 4, _ => o4.k | 5, _ => o5.k | 6, _ => o6.k | 7, _ => o7.k | 8, _ => o8.k | 9, _ => o9.k | 10, _ => o10.k | 11, _ => o11.k | 12, _ => o12.k | 13, _ => o13.k | 14, _ => o14.k | 15, _ => o15.k | 16, _ => o16.k | 17, _ => o17.k | 18, _ => o18.k | 19, _ => o19.k | 20, _ => o20.k | 21, _ => o21.k | 22, _ => o22.k | 23, _ => o23.k | 24, _ => o24.k | 25, _ => o25.k | 26, _ => o26.k | 27, _ => o27.k | 28, _ => o28.k | 29, _ => o29.k | n + 30, hi => absurd hi (by omega)
  have xc : ∀ i, 27 ≤ i → i < 30 → PySem.W.excIn K (C i) PySem.HandSPX.veTail "ValueError.__new__" = true := fun i h1 h2 => by
    obtain rfl | rfl | rfl : i = 27 ∨ i = 28 ∨ i = 29 := by omega
    · exact o27.own
    · exact o28.own
    · exact o29.own
  have T : Classes K C := by
    refine ⟨look, o29.look, fun i j hi hj z => ?_, exc⟩
    have hl : ([c0, c1, c2, c3, c4, c5, c6, c7, c8, c9, c10, c11, c12, c13, c14, c15, c16, c17, c18, c19, c20, c21, c22, c23, c24, c25, c26, c27, c28, c29] : List Addr).length = 30 := rfl
    have gi : ∀ i, i < 30 → ([c0, c1, c2, c3, c4, c5, c6, c7, c8, c9, c10, c11, c12, c13, c14, c15, c16, c17, c18, c19, c20, c21, c22, c23, c24, c25, c26, c27, c28, c29] : List Addr)[i]? = some (C i) := fun i hi => by
      show _ = some (([c0, c1, c2, c3, c4, c5, c6, c7, c8, c9, c10, c11, c12, c13, c14, c15, c16, c17, c18, c19, c20, c21, c22, c23, c24, c25, c26, c27, c28, c29] : List Addr).getD i 0)
      rw [List.getD_eq_getElem?_getD, List.getElem?_eq_getElem (by rw [hl]; exact hi)]
      rfl
    obtain ⟨h1, e1⟩ := List.getElem?_eq_some_iff.mp (gi i hi)
    obtain ⟨h2, e2⟩ := List.getElem?_eq_some_iff.mp (gi j hj)
    exact (List.getElem_inj ap).mp (e1.trans (z.trans e2.symm))
  have B : Bt mg := ⟨z_sum, z_max, z_min, z_int, z_range, z_len⟩
  obtain ⟨f0, g0, m0, F0⟩ := d0.ex
  obtain ⟨f1, g1, m1, F1⟩ := d1.ex
  obtain ⟨f2, g2, m2, F2⟩ := d2.ex
  obtain ⟨f3, g3, m3, F3⟩ := d3.ex
  obtain ⟨f4, g4, m4, F4⟩ := d4.ex
  obtain ⟨f5, g5, m5, F5⟩ := d5.ex
  obtain ⟨f6, g6, m6, F6⟩ := d6.ex
  obtain ⟨f7, g7, m7, F7⟩ := d7.ex
  obtain ⟨f8, g8, m8, F8⟩ := d8.ex
  obtain ⟨f9, g9, m9, F9⟩ := d9.ex
  obtain ⟨f10, g10, m10, F10⟩ := d10.ex
  obtain ⟨f11, g11, m11, F11⟩ := d11.ex
  have b0 := F0.binds (ps := ["_law_script", "_law_at"]) fun _ _ _ _ _ _ us hl => match us, hl with | [_, _], _ => rfl
  have b1 := F1.binds (ps := ["_law_seed", "_law_turn", "_law_at"]) fun _ _ _ _ _ _ us hl => match us, hl with | [_, _, _], _ => rfl
  have b2 := F2.binds (ps := ["_law_purse_here", "_law_many"]) fun _ _ _ _ _ _ us hl => match us, hl with | [_, _], _ => rfl
  have b3 := F3.binds (ps := ["_law_script", "_law_few"]) fun _ _ _ _ _ _ us hl => match us, hl with | [_, _], _ => rfl
  have b4 := F4.binds (ps := ["_law_purse_here", "_law_some"]) fun _ _ _ _ _ _ us hl => match us, hl with | [_, _], _ => rfl
  have b5 := F5.binds (ps := ["_law_purse_here"]) fun _ _ _ _ _ _ us hl => match us, hl with | [_], _ => rfl
  have b6 := F6.binds (ps := ["_law_thing"]) fun _ _ _ _ _ _ us hl => match us, hl with | [_], _ => rfl
  have b7 := F7.binds (ps := ["_law_thing"]) fun _ _ _ _ _ _ us hl => match us, hl with | [_], _ => rfl
  have b8 := F8.binds (ps := []) fun _ _ _ _ _ _ us hl => match us, hl with | [], _ => rfl
  have b9 := F9.binds (ps := ["_law_error"]) fun _ _ _ _ _ _ us hl => match us, hl with | [_], _ => rfl
  have b10 := F10.binds (ps := ["_law_error"]) fun _ _ _ _ _ _ us hl => match us, hl with | [_], _ => rfl
  have b11 := F11.binds (ps := ["_law_some", "_law_noted"]) fun _ _ _ _ _ _ us hl => match us, hl with | [_, _], _ => rfl
  refine ⟨PySem.W.fnOf "law" "law" (defArgs sLaw) (defBody sLaw) (defScope sLaw) .none kV dc pm an cd ct, fun s u => .of_eq rfl, fun base _ _ => ?_⟩
  have GD := ok_draw (P := P) (w := w) (base := base) F2 B F1 m1 b1
  have GC := ok_code (P := P) (w := w) (base := base) F9 T Gn z_isinstance B
  have GE := ok_iserr (P := P) (w := w) (base := base) F10 T o29.g z_isinstance z_ValueError
  exact ok_law (fun_mk (st := sLaw) lL cL kL) T er B z_repr z_isinstance z_list z_dict z_tuple z_all Gn o29.g kc xc
    ⟨_, _, m3, F3.kp, b3, ok_purses F3 B F0 m0 b0⟩ ⟨_, _, m5, F5.kp, b5, ok_word F5 B GD m2 F2.kp b2⟩ ⟨_, _, m4, F4.kp, b4, ok_oneof F4 B GD m2 F2.kp b2⟩
    ⟨_, _, m6, F6.kp, b6, ok_first F6 (E base)⟩ ⟨_, _, m7, F7.kp, b7, ok_called F7 (E base)⟩ ⟨_, _, m8, F8.kp, b8, ok_bare F8 (E base)⟩
    ⟨_, _, m9, F9.kp, b9, GC⟩ ⟨_, _, m10, F10.kp, b10, GE⟩ ⟨_, _, m11, F11.kp, b11, ok_right F11 T er B z_repr GC m9 F9.kp b9 GE m10 F10.kp b10⟩
end
theorem walk {l : PySem.W.OpenLaw} {q : Program} {loose : List Str} {XP : (Str → Option Value) → Heap → Prop} {YP : World → Heap → Prop} {d : DefRec} {K : Params → PySem.W.Frag} (hn : l.most = some 63) (hdf : d.params.defaults = [])
    (hY : ∀ (w : World) (h : Heap), YP w h → (K w.params).In h)
    (F : ∀ (w : World) (mg : Str → Option Value) (fa : Addr) (h : Heap), (K w.params).In h → h.Ns mainGlobals mg → mg d.name = some (.ref fa) →
      ∃ fd : FuncData, (∀ (s : Shared) (u : Value), BindsTo s fd ⟨[u], []⟩ [("_law_script", u)]) ∧ ∀ base : Heap, (K w.params).In base → base.Ns mainGlobals mg → Calm l.prog w (K w.params) mg base 4 fa fd ["_law_script"] (spLaw (K w.params))) :
    PySem.W.WalkO q loose XP YP l.row.toRowW d [] (fun f vs => PySem.call f vs) :=
  calm_walk (n := 63) (k := 4) (x := "_law_script") (sp := spLaw) hn (by decide) hdf ⟨rfl, by decide, by decide⟩ hY F fun _ _ a ns hl _ hS => ⟨a, ns, rfl, hS, hl, fun _ => rfl⟩
end K1

open PySem PySem.W PyProof.Rows in
set_option Elab.async false in
set_option maxRecDepth 100000 in
set_option maxHeartbeats 0 in
theorem PySem.Challenge.cw_evenfriends_k01_errors_made_holds : PySem.Challenge.rw_evenfriends_k01_errors_made.Holds := by
  w_on; o_law; k_head; (case hw => w_witness2)
  k_fill
  refine K1.walk (l := PySem.Challenge.rw_evenfriends_k01_errors_made) rfl rfl (fun w h Y => PySem.W.kIn_of Y) ?F
  case F =>
    intro w mg fa h KX G hmg
    refine' K1.all_mk ?o0 ?o1 ?o2 ?o3 ?o4 ?o5 ?o6 ?o7 ?o8 ?o9 ?o10 ?o11 ?o12 ?o13 ?o14 ?o15 ?o16 ?o17 ?o18 ?o19 ?o20 ?o21 ?o22 ?o23 ?o24 ?o25 ?o26 ?o27 ?o28 ?o29 ?ap ?d0 ?d1 ?d2 ?d3 ?d4 ?d5 ?d6 ?d7 ?d8 ?d9 ?d10 ?d11 ?z_sum ?z_max ?z_min ?z_int ?z_range ?z_len ?z_repr ?z_isinstance ?z_list ?z_dict ?z_tuple ?z_all ?z_ValueError hmg KX G ?aL ?lL ?cL ?kL
    (case o0 => (refine' K1.one_mk KX G ?hn ?ht ?aC ?lC ?sa ?kC ?hg ?hk ?ha ?no ?iC ?tI ?lf ?cf ?kf ?lT ?dT; (case hn => k_is); (case ht => k_is); (case aC => k_is); (case lC => k_is); (case sa => k_is); (case kC => k_is); (case hg => k_is); (case hk => k_is); (case ha => k_is); (case no => k_is); (case iC => k_is); (case tI => k_is); (case lf => k_is); (case cf => k_is); (case kf => k_is); (case lT => k_is); (case dT => rfl)))
    (case o1 => (refine' K1.one_mk KX G ?hn ?ht ?aC ?lC ?sa ?kC ?hg ?hk ?ha ?no ?iC ?tI ?lf ?cf ?kf ?lT ?dT; (case hn => k_is); (case ht => k_is); (case aC => k_is); (case lC => k_is); (case sa => k_is); (case kC => k_is); (case hg => k_is); (case hk => k_is); (case ha => k_is); (case no => k_is); (case iC => k_is); (case tI => k_is); (case lf => k_is); (case cf => k_is); (case kf => k_is); (case lT => k_is); (case dT => rfl)))
    (case o2 => (refine' K1.one_mk KX G ?hn ?ht ?aC ?lC ?sa ?kC ?hg ?hk ?ha ?no ?iC ?tI ?lf ?cf ?kf ?lT ?dT; (case hn => k_is); (case ht => k_is); (case aC => k_is); (case lC => k_is); (case sa => k_is); (case kC => k_is); (case hg => k_is); (case hk => k_is); (case ha => k_is); (case no => k_is); (case iC => k_is); (case tI => k_is); (case lf => k_is); (case cf => k_is); (case kf => k_is); (case lT => k_is); (case dT => rfl)))
    (case o3 => (refine' K1.one_mk KX G ?hn ?ht ?aC ?lC ?sa ?kC ?hg ?hk ?ha ?no ?iC ?tI ?lf ?cf ?kf ?lT ?dT; (case hn => k_is); (case ht => k_is); (case aC => k_is); (case lC => k_is); (case sa => k_is); (case kC => k_is); (case hg => k_is); (case hk => k_is); (case ha => k_is); (case no => k_is); (case iC => k_is); (case tI => k_is); (case lf => k_is); (case cf => k_is); (case kf => k_is); (case lT => k_is); (case dT => rfl)))
    (case o4 => (refine' K1.one_mk KX G ?hn ?ht ?aC ?lC ?sa ?kC ?hg ?hk ?ha ?no ?iC ?tI ?lf ?cf ?kf ?lT ?dT; (case hn => k_is); (case ht => k_is); (case aC => k_is); (case lC => k_is); (case sa => k_is); (case kC => k_is); (case hg => k_is); (case hk => k_is); (case ha => k_is); (case no => k_is); (case iC => k_is); (case tI => k_is); (case lf => k_is); (case cf => k_is); (case kf => k_is); (case lT => k_is); (case dT => rfl)))
    (case o5 => (refine' K1.one_mk KX G ?hn ?ht ?aC ?lC ?sa ?kC ?hg ?hk ?ha ?no ?iC ?tI ?lf ?cf ?kf ?lT ?dT; (case hn => k_is); (case ht => k_is); (case aC => k_is); (case lC => k_is); (case sa => k_is); (case kC => k_is); (case hg => k_is); (case hk => k_is); (case ha => k_is); (case no => k_is); (case iC => k_is); (case tI => k_is); (case lf => k_is); (case cf => k_is); (case kf => k_is); (case lT => k_is); (case dT => rfl)))
    (case o6 => (refine' K1.one_mk KX G ?hn ?ht ?aC ?lC ?sa ?kC ?hg ?hk ?ha ?no ?iC ?tI ?lf ?cf ?kf ?lT ?dT; (case hn => k_is); (case ht => k_is); (case aC => k_is); (case lC => k_is); (case sa => k_is); (case kC => k_is); (case hg => k_is); (case hk => k_is); (case ha => k_is); (case no => k_is); (case iC => k_is); (case tI => k_is); (case lf => k_is); (case cf => k_is); (case kf => k_is); (case lT => k_is); (case dT => rfl)))
    (case o7 => (refine' K1.one_mk KX G ?hn ?ht ?aC ?lC ?sa ?kC ?hg ?hk ?ha ?no ?iC ?tI ?lf ?cf ?kf ?lT ?dT; (case hn => k_is); (case ht => k_is); (case aC => k_is); (case lC => k_is); (case sa => k_is); (case kC => k_is); (case hg => k_is); (case hk => k_is); (case ha => k_is); (case no => k_is); (case iC => k_is); (case tI => k_is); (case lf => k_is); (case cf => k_is); (case kf => k_is); (case lT => k_is); (case dT => rfl)))
    (case o8 => (refine' K1.one_mk KX G ?hn ?ht ?aC ?lC ?sa ?kC ?hg ?hk ?ha ?no ?iC ?tI ?lf ?cf ?kf ?lT ?dT; (case hn => k_is); (case ht => k_is); (case aC => k_is); (case lC => k_is); (case sa => k_is); (case kC => k_is); (case hg => k_is); (case hk => k_is); (case ha => k_is); (case no => k_is); (case iC => k_is); (case tI => k_is); (case lf => k_is); (case cf => k_is); (case kf => k_is); (case lT => k_is); (case dT => rfl)))
    (case o9 => (refine' K1.one_mk KX G ?hn ?ht ?aC ?lC ?sa ?kC ?hg ?hk ?ha ?no ?iC ?tI ?lf ?cf ?kf ?lT ?dT; (case hn => k_is); (case ht => k_is); (case aC => k_is); (case lC => k_is); (case sa => k_is); (case kC => k_is); (case hg => k_is); (case hk => k_is); (case ha => k_is); (case no => k_is); (case iC => k_is); (case tI => k_is); (case lf => k_is); (case cf => k_is); (case kf => k_is); (case lT => k_is); (case dT => rfl)))
    (case o10 => (refine' K1.one_mk KX G ?hn ?ht ?aC ?lC ?sa ?kC ?hg ?hk ?ha ?no ?iC ?tI ?lf ?cf ?kf ?lT ?dT; (case hn => k_is); (case ht => k_is); (case aC => k_is); (case lC => k_is); (case sa => k_is); (case kC => k_is); (case hg => k_is); (case hk => k_is); (case ha => k_is); (case no => k_is); (case iC => k_is); (case tI => k_is); (case lf => k_is); (case cf => k_is); (case kf => k_is); (case lT => k_is); (case dT => rfl)))
    (case o11 => (refine' K1.one_mk KX G ?hn ?ht ?aC ?lC ?sa ?kC ?hg ?hk ?ha ?no ?iC ?tI ?lf ?cf ?kf ?lT ?dT; (case hn => k_is); (case ht => k_is); (case aC => k_is); (case lC => k_is); (case sa => k_is); (case kC => k_is); (case hg => k_is); (case hk => k_is); (case ha => k_is); (case no => k_is); (case iC => k_is); (case tI => k_is); (case lf => k_is); (case cf => k_is); (case kf => k_is); (case lT => k_is); (case dT => rfl)))
    (case o12 => (refine' K1.one_mk KX G ?hn ?ht ?aC ?lC ?sa ?kC ?hg ?hk ?ha ?no ?iC ?tI ?lf ?cf ?kf ?lT ?dT; (case hn => k_is); (case ht => k_is); (case aC => k_is); (case lC => k_is); (case sa => k_is); (case kC => k_is); (case hg => k_is); (case hk => k_is); (case ha => k_is); (case no => k_is); (case iC => k_is); (case tI => k_is); (case lf => k_is); (case cf => k_is); (case kf => k_is); (case lT => k_is); (case dT => rfl)))
    (case o13 => (refine' K1.one_mk KX G ?hn ?ht ?aC ?lC ?sa ?kC ?hg ?hk ?ha ?no ?iC ?tI ?lf ?cf ?kf ?lT ?dT; (case hn => k_is); (case ht => k_is); (case aC => k_is); (case lC => k_is); (case sa => k_is); (case kC => k_is); (case hg => k_is); (case hk => k_is); (case ha => k_is); (case no => k_is); (case iC => k_is); (case tI => k_is); (case lf => k_is); (case cf => k_is); (case kf => k_is); (case lT => k_is); (case dT => rfl)))
    (case o14 => (refine' K1.one_mk KX G ?hn ?ht ?aC ?lC ?sa ?kC ?hg ?hk ?ha ?no ?iC ?tI ?lf ?cf ?kf ?lT ?dT; (case hn => k_is); (case ht => k_is); (case aC => k_is); (case lC => k_is); (case sa => k_is); (case kC => k_is); (case hg => k_is); (case hk => k_is); (case ha => k_is); (case no => k_is); (case iC => k_is); (case tI => k_is); (case lf => k_is); (case cf => k_is); (case kf => k_is); (case lT => k_is); (case dT => rfl)))
    (case o15 => (refine' K1.one_mk KX G ?hn ?ht ?aC ?lC ?sa ?kC ?hg ?hk ?ha ?no ?iC ?tI ?lf ?cf ?kf ?lT ?dT; (case hn => k_is); (case ht => k_is); (case aC => k_is); (case lC => k_is); (case sa => k_is); (case kC => k_is); (case hg => k_is); (case hk => k_is); (case ha => k_is); (case no => k_is); (case iC => k_is); (case tI => k_is); (case lf => k_is); (case cf => k_is); (case kf => k_is); (case lT => k_is); (case dT => rfl)))
    (case o16 => (refine' K1.one_mk KX G ?hn ?ht ?aC ?lC ?sa ?kC ?hg ?hk ?ha ?no ?iC ?tI ?lf ?cf ?kf ?lT ?dT; (case hn => k_is); (case ht => k_is); (case aC => k_is); (case lC => k_is); (case sa => k_is); (case kC => k_is); (case hg => k_is); (case hk => k_is); (case ha => k_is); (case no => k_is); (case iC => k_is); (case tI => k_is); (case lf => k_is); (case cf => k_is); (case kf => k_is); (case lT => k_is); (case dT => rfl)))
    (case o17 => (refine' K1.one_mk KX G ?hn ?ht ?aC ?lC ?sa ?kC ?hg ?hk ?ha ?no ?iC ?tI ?lf ?cf ?kf ?lT ?dT; (case hn => k_is); (case ht => k_is); (case aC => k_is); (case lC => k_is); (case sa => k_is); (case kC => k_is); (case hg => k_is); (case hk => k_is); (case ha => k_is); (case no => k_is); (case iC => k_is); (case tI => k_is); (case lf => k_is); (case cf => k_is); (case kf => k_is); (case lT => k_is); (case dT => rfl)))
    (case o18 => (refine' K1.one_mk KX G ?hn ?ht ?aC ?lC ?sa ?kC ?hg ?hk ?ha ?no ?iC ?tI ?lf ?cf ?kf ?lT ?dT; (case hn => k_is); (case ht => k_is); (case aC => k_is); (case lC => k_is); (case sa => k_is); (case kC => k_is); (case hg => k_is); (case hk => k_is); (case ha => k_is); (case no => k_is); (case iC => k_is); (case tI => k_is); (case lf => k_is); (case cf => k_is); (case kf => k_is); (case lT => k_is); (case dT => rfl)))
    (case o19 => (refine' K1.one_mk KX G ?hn ?ht ?aC ?lC ?sa ?kC ?hg ?hk ?ha ?no ?iC ?tI ?lf ?cf ?kf ?lT ?dT; (case hn => k_is); (case ht => k_is); (case aC => k_is); (case lC => k_is); (case sa => k_is); (case kC => k_is); (case hg => k_is); (case hk => k_is); (case ha => k_is); (case no => k_is); (case iC => k_is); (case tI => k_is); (case lf => k_is); (case cf => k_is); (case kf => k_is); (case lT => k_is); (case dT => rfl)))
    (case o20 => (refine' K1.one_mk KX G ?hn ?ht ?aC ?lC ?sa ?kC ?hg ?hk ?ha ?no ?iC ?tI ?lf ?cf ?kf ?lT ?dT; (case hn => k_is); (case ht => k_is); (case aC => k_is); (case lC => k_is); (case sa => k_is); (case kC => k_is); (case hg => k_is); (case hk => k_is); (case ha => k_is); (case no => k_is); (case iC => k_is); (case tI => k_is); (case lf => k_is); (case cf => k_is); (case kf => k_is); (case lT => k_is); (case dT => rfl)))
    (case o21 => (refine' K1.one_mk KX G ?hn ?ht ?aC ?lC ?sa ?kC ?hg ?hk ?ha ?no ?iC ?tI ?lf ?cf ?kf ?lT ?dT; (case hn => k_is); (case ht => k_is); (case aC => k_is); (case lC => k_is); (case sa => k_is); (case kC => k_is); (case hg => k_is); (case hk => k_is); (case ha => k_is); (case no => k_is); (case iC => k_is); (case tI => k_is); (case lf => k_is); (case cf => k_is); (case kf => k_is); (case lT => k_is); (case dT => rfl)))
    (case o22 => (refine' K1.one_mk KX G ?hn ?ht ?aC ?lC ?sa ?kC ?hg ?hk ?ha ?no ?iC ?tI ?lf ?cf ?kf ?lT ?dT; (case hn => k_is); (case ht => k_is); (case aC => k_is); (case lC => k_is); (case sa => k_is); (case kC => k_is); (case hg => k_is); (case hk => k_is); (case ha => k_is); (case no => k_is); (case iC => k_is); (case tI => k_is); (case lf => k_is); (case cf => k_is); (case kf => k_is); (case lT => k_is); (case dT => rfl)))
    (case o23 => (refine' K1.one_mk KX G ?hn ?ht ?aC ?lC ?sa ?kC ?hg ?hk ?ha ?no ?iC ?tI ?lf ?cf ?kf ?lT ?dT; (case hn => k_is); (case ht => k_is); (case aC => k_is); (case lC => k_is); (case sa => k_is); (case kC => k_is); (case hg => k_is); (case hk => k_is); (case ha => k_is); (case no => k_is); (case iC => k_is); (case tI => k_is); (case lf => k_is); (case cf => k_is); (case kf => k_is); (case lT => k_is); (case dT => rfl)))
    (case o24 => (refine' K1.one_mk KX G ?hn ?ht ?aC ?lC ?sa ?kC ?hg ?hk ?ha ?no ?iC ?tI ?lf ?cf ?kf ?lT ?dT; (case hn => k_is); (case ht => k_is); (case aC => k_is); (case lC => k_is); (case sa => k_is); (case kC => k_is); (case hg => k_is); (case hk => k_is); (case ha => k_is); (case no => k_is); (case iC => k_is); (case tI => k_is); (case lf => k_is); (case cf => k_is); (case kf => k_is); (case lT => k_is); (case dT => rfl)))
    (case o25 => (refine' K1.one_mk KX G ?hn ?ht ?aC ?lC ?sa ?kC ?hg ?hk ?ha ?no ?iC ?tI ?lf ?cf ?kf ?lT ?dT; (case hn => k_is); (case ht => k_is); (case aC => k_is); (case lC => k_is); (case sa => k_is); (case kC => k_is); (case hg => k_is); (case hk => k_is); (case ha => k_is); (case no => k_is); (case iC => k_is); (case tI => k_is); (case lf => k_is); (case cf => k_is); (case kf => k_is); (case lT => k_is); (case dT => rfl)))
    (case o26 => (refine' K1.one_mk KX G ?hn ?ht ?aC ?lC ?sa ?kC ?hg ?hk ?ha ?no ?iC ?tI ?lf ?cf ?kf ?lT ?dT; (case hn => k_is); (case ht => k_is); (case aC => k_is); (case lC => k_is); (case sa => k_is); (case kC => k_is); (case hg => k_is); (case hk => k_is); (case ha => k_is); (case no => k_is); (case iC => k_is); (case tI => k_is); (case lf => k_is); (case cf => k_is); (case kf => k_is); (case lT => k_is); (case dT => rfl)))
    (case o27 => (refine' K1.none_mk KX G ?hn ?ht ?b1 ?b2 ?aC ?lC ?kC ?hg ?hk ?ha ?own; (case hn => k_is); (case ht => k_is); (case aC => k_is); (case lC => k_is); (case kC => k_is); (case hg => k_is); (case hk => k_is); (case ha => k_is); (case own => first | k_exc | rfl | decide +kernel); (case b1 => decide); (case b2 => decide)))
    (case o28 => (refine' K1.none_mk KX G ?hn ?ht ?b1 ?b2 ?aC ?lC ?kC ?hg ?hk ?ha ?own; (case hn => k_is); (case ht => k_is); (case aC => k_is); (case lC => k_is); (case kC => k_is); (case hg => k_is); (case hk => k_is); (case ha => k_is); (case own => first | k_exc | rfl | decide +kernel); (case b1 => decide); (case b2 => decide)))
    (case o29 => (refine' K1.none_mk KX G ?hn ?ht ?b1 ?b2 ?aC ?lC ?kC ?hg ?hk ?ha ?own; (case hn => k_is); (case ht => k_is); (case aC => k_is); (case lC => k_is); (case kC => k_is); (case hg => k_is); (case hk => k_is); (case ha => k_is); (case own => first | k_exc | rfl | decide +kernel); (case b1 => decide); (case b2 => decide)))
    (case d0 => (refine' K1.def_mk KX G ?a ?l ?c ?k; (case a => k_is); (case l => k_is); (case c => k_is); (case k => k_is)))
    (case d1 => (refine' K1.def_mk KX G ?a ?l ?c ?k; (case a => k_is); (case l => k_is); (case c => k_is); (case k => k_is)))
    (case d2 => (refine' K1.def_mk KX G ?a ?l ?c ?k; (case a => k_is); (case l => k_is); (case c => k_is); (case k => k_is)))
    (case d3 => (refine' K1.def_mk KX G ?a ?l ?c ?k; (case a => k_is); (case l => k_is); (case c => k_is); (case k => k_is)))
    (case d4 => (refine' K1.def_mk KX G ?a ?l ?c ?k; (case a => k_is); (case l => k_is); (case c => k_is); (case k => k_is)))
    (case d5 => (refine' K1.def_mk KX G ?a ?l ?c ?k; (case a => k_is); (case l => k_is); (case c => k_is); (case k => k_is)))
    (case d6 => (refine' K1.def_mk KX G ?a ?l ?c ?k; (case a => k_is); (case l => k_is); (case c => k_is); (case k => k_is)))
    (case d7 => (refine' K1.def_mk KX G ?a ?l ?c ?k; (case a => k_is); (case l => k_is); (case c => k_is); (case k => k_is)))
    (case d8 => (refine' K1.def_mk KX G ?a ?l ?c ?k; (case a => k_is); (case l => k_is); (case c => k_is); (case k => k_is)))
    (case d9 => (refine' K1.def_mk KX G ?a ?l ?c ?k; (case a => k_is); (case l => k_is); (case c => k_is); (case k => k_is)))
    (case d10 => (refine' K1.def_mk KX G ?a ?l ?c ?k; (case a => k_is); (case l => k_is); (case c => k_is); (case k => k_is)))
    (case d11 => (refine' K1.def_mk KX G ?a ?l ?c ?k; (case a => k_is); (case l => k_is); (case c => k_is); (case k => k_is)))
    (case z_sum => (refine' PySem.W.mg_none_of KX G ?zz; (case zz => k_is)))
    (case z_max => (refine' PySem.W.mg_none_of KX G ?zz; (case zz => k_is)))
    (case z_min => (refine' PySem.W.mg_none_of KX G ?zz; (case zz => k_is)))
    (case z_int => (refine' PySem.W.mg_none_of KX G ?zz; (case zz => k_is)))
    (case z_range => (refine' PySem.W.mg_none_of KX G ?zz; (case zz => k_is)))
    (case z_len => (refine' PySem.W.mg_none_of KX G ?zz; (case zz => k_is)))
    (case z_repr => (refine' PySem.W.mg_none_of KX G ?zz; (case zz => k_is)))
    (case z_isinstance => (refine' PySem.W.mg_none_of KX G ?zz; (case zz => k_is)))
    (case z_list => (refine' PySem.W.mg_none_of KX G ?zz; (case zz => k_is)))
    (case z_dict => (refine' PySem.W.mg_none_of KX G ?zz; (case zz => k_is)))
    (case z_tuple => (refine' PySem.W.mg_none_of KX G ?zz; (case zz => k_is)))
    (case z_all => (refine' PySem.W.mg_none_of KX G ?zz; (case zz => k_is)))
    (case z_ValueError => (refine' PySem.W.mg_none_of KX G ?zz; (case zz => k_is)))
    (case aL => k_is)
    (case lL => k_is)
    (case cL => k_is)
    (case kL => k_is)
    (case ap => decide +kernel)
