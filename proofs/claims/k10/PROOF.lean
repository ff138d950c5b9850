import PyProof.Rows.All
import Wide.All
import OpenK.AllK
import Wide.FinOn
import HandS.ForMost
import HandS.Wide
import HandS.WideBits
import HandS.More
import PyProof.ListStr
import HandS.Codes
import HandS.Keys
import KE.KDictPairs
import KE.SortData
import HandS.Set
import HandS.SetFor
import HandS.TupSets
import HandS.Strs
import HandS.Conv
import HandS.Walk
import HandS.IsInst
import HandS.Deep
import HandS.OwnEq
import HandS.DictComp
import PyProof.ZipIter
import PyProof.CallType
import PyProof.Walk
import PyProof.WalkLemmas
import PyProof.RangeIter
import PyProof.RulesTry
import PyProof.CollectWalk
import HandS.Style
import HandS.Zip
import KE.KStateDown
import HandS.WordsExc
import HandS.Defaults
import HandS.Head0
import HandS.Head1
import HandS.Head2
import HandS.Head3
import HandS.HeadEnd
import HandS.HeadHook1
import HandS.HeadHook2
import PySem.Challenge.RW_evenfriends_k10_whole_kinds_that_move
set_option Elab.async false
set_option linter.all false
section
set_option maxRecDepth 100000
set_option maxHeartbeats 4000000
namespace Wd
open PySem L2
def top (i : Nat) : Stmt := PySem.Challenge.pw_evenfriends_k10_whole_kinds_that_move.main.body.getD i (.Pass ⟨0, 0, 0, 0⟩)
abbrev cl_FriendError : Stmt := top 2
abbrev cl_InvalidPerson : Stmt := top 3
-- InvalidPerson.__init__: ['self', 'value']
abbrev cl_InvalidPeople : Stmt := top 4
-- InvalidPeople.__init__: ['self', 'value']
abbrev cl_InvalidPair : Stmt := top 5
-- InvalidPair.__init__: ['self', 'value']
abbrev cl_InvalidPairs : Stmt := top 6
-- InvalidPairs.__init__: ['self', 'value']
abbrev cl_InvalidCompany : Stmt := top 7
-- InvalidCompany.__init__: ['self', 'value']
abbrev cl_InvalidCount : Stmt := top 8
-- InvalidCount.__init__: ['self', 'value']
abbrev sp_is_word : Stmt := top 11
theorem cp_is_word : FnScope ["value", "letter"] ["value"] (defScope sp_is_word) := ⟨rfl, rfl, rfl, by decide +kernel, rfl, by decide +kernel, by decide +kernel⟩
abbrev sp_is_count : Stmt := top 12
theorem cp_is_count : FnScope ["value"] ["value"] (defScope sp_is_count) := ⟨rfl, rfl, rfl, by decide +kernel, rfl, by decide +kernel, by decide +kernel⟩
abbrev sp_are_unlike : Stmt := top 13
theorem cp_are_unlike : FnScope ["things"] ["things"] (defScope sp_are_unlike) := ⟨rfl, rfl, rfl, by decide +kernel, rfl, by decide +kernel, by decide +kernel⟩
abbrev sp_is_person : Stmt := top 15
theorem cp_is_person : FnScope ["value"] ["value"] (defScope sp_is_person) := ⟨rfl, rfl, rfl, by decide +kernel, rfl, by decide +kernel, by decide +kernel⟩
abbrev cl_Company : Stmt := top 16
-- Company.__init__: ['self', 'people', 'friends']
-- Company.people: ['self']
-- Company.friends: ['self']
-- Company.__eq__: ['self', 'other']
abbrev sp_are_people : Stmt := top 17
theorem cp_are_people : FnScope ["value", "person"] ["value"] (defScope sp_are_people) := ⟨rfl, rfl, rfl, by decide +kernel, rfl, by decide +kernel, by decide +kernel⟩
abbrev sp_is_pair_of : Stmt := top 18
theorem cp_is_pair_of : FnScope ["people", "value"] ["people", "value"] (defScope sp_is_pair_of) := ⟨rfl, rfl, rfl, by decide +kernel, rfl, by decide +kernel, by decide +kernel⟩
abbrev sp_are_pairs_of : Stmt := top 19
theorem cp_are_pairs_of : FnScope ["people", "value", "pair"] ["people", "value"] (defScope sp_are_pairs_of) := ⟨rfl, rfl, rfl, by decide +kernel, rfl, by decide +kernel, by decide +kernel⟩
abbrev sp_check_company : Stmt := top 20
theorem cp_check_company : FnScope ["company"] ["company"] (defScope sp_check_company) := ⟨rfl, rfl, rfl, by decide +kernel, rfl, by decide +kernel, by decide +kernel⟩
abbrev sp_check_person_of : Stmt := top 21
theorem cp_check_person_of : FnScope ["company", "person"] ["company", "person"] (defScope sp_check_person_of) := ⟨rfl, rfl, rfl, by decide +kernel, rfl, by decide +kernel, by decide +kernel⟩
abbrev sp_check_pair_of : Stmt := top 22
theorem cp_check_pair_of : FnScope ["company", "pair"] ["company", "pair"] (defScope sp_check_pair_of) := ⟨rfl, rfl, rfl, by decide +kernel, rfl, by decide +kernel, by decide +kernel⟩
abbrev sp_pair_of : Stmt := top 23
theorem cp_pair_of : FnScope ["one", "other"] ["one", "other"] (defScope sp_pair_of) := ⟨rfl, rfl, rfl, by decide +kernel, rfl, by decide +kernel, by decide +kernel⟩
abbrev sp_all_pairs : Stmt := top 24
theorem cp_all_pairs : FnScope ["people", "ordered"] ["people"] (defScope sp_all_pairs) := ⟨rfl, rfl, rfl, by decide +kernel, rfl, by decide +kernel, by decide +kernel⟩
abbrev sp_circles : Stmt := top 25
theorem cp_circles : FnScope ["company", "person", "found", "one", "other"] ["company"] (defScope sp_circles) := ⟨rfl, rfl, rfl, by decide +kernel, rfl, by decide +kernel, by decide +kernel⟩
abbrev sp_strangers : Stmt := top 26
theorem cp_strangers : FnScope ["company", "friends", "pair"] ["company"] (defScope sp_strangers) := ⟨rfl, rfl, rfl, by decide +kernel, rfl, by decide +kernel, by decide +kernel⟩
abbrev sp_friends_of : Stmt := top 27
theorem cp_friends_of : FnScope ["company", "person"] ["company", "person"] (defScope sp_friends_of) := ⟨rfl, rfl, rfl, by decide +kernel, rfl, by decide +kernel, by decide +kernel⟩
abbrev sp_are_friends : Stmt := top 28
theorem cp_are_friends : FnScope ["company", "pair"] ["company", "pair"] (defScope sp_are_friends) := ⟨rfl, rfl, rfl, by decide +kernel, rfl, by decide +kernel, by decide +kernel⟩
abbrev sp_friend_numbers : Stmt := top 29
theorem cp_friend_numbers : FnScope ["company", "person", "circle"] ["company"] (defScope sp_friend_numbers) := ⟨rfl, rfl, rfl, by decide +kernel, rfl, by decide +kernel, by decide +kernel⟩
abbrev sp_check_among : Stmt := top 32
theorem cp_check_among : FnScope ["number", "numbers"] ["number", "numbers"] (defScope sp_check_among) := ⟨rfl, rfl, rfl, by decide +kernel, rfl, by decide +kernel, by decide +kernel⟩
abbrev sp_kind_of : Stmt := top 33
theorem cp_kind_of : FnScope ["known", "pair", "person", "one"] ["known", "pair", "person"] (defScope sp_kind_of) := ⟨rfl, rfl, rfl, by decide +kernel, rfl, by decide +kernel, by decide +kernel⟩
abbrev sp_numbers_of : Stmt := top 34
theorem cp_numbers_of : FnScope ["known", "pair", "person", "kinds", "kind"] ["known", "pair"] (defScope sp_numbers_of) := ⟨rfl, rfl, rfl, by decide +kernel, rfl, by decide +kernel, by decide +kernel⟩
abbrev sp_third_people : Stmt := top 35
theorem cp_third_people : FnScope ["company", "pair", "kind", "known", "person"] ["company", "pair", "kind"] (defScope sp_third_people) := ⟨rfl, rfl, rfl, by decide +kernel, rfl, by decide +kernel, by decide +kernel⟩
abbrev sp_kind_numbers : Stmt := top 36
theorem cp_kind_numbers : FnScope ["company", "pair"] ["company", "pair"] (defScope sp_kind_numbers) := ⟨rfl, rfl, rfl, by decide +kernel, rfl, by decide +kernel, by decide +kernel⟩
abbrev sp_kinds_moved : Stmt := top 37
theorem cp_kinds_moved : FnScope ["company", "pair", "known", "step", "moved", "stays", "third", "person", "other", "before"] ["company", "pair"] (defScope sp_kinds_moved) := ⟨rfl, rfl, rfl, by decide +kernel, rfl, by decide +kernel, by decide +kernel⟩
abbrev s_purse : Stmt := top 39
theorem c_purse : FnScope ["_law_script", "_law_at", "_law_seed"] ["_law_script", "_law_at"] (defScope s_purse) := ⟨rfl, rfl, rfl, by decide +kernel, rfl, by decide +kernel, by decide +kernel⟩
abbrev s_mixed : Stmt := top 40
theorem c_mixed : FnScope ["_law_seed", "_law_turn", "_law_at", "_law_mixed_here"] ["_law_seed", "_law_turn", "_law_at"] (defScope s_mixed) := ⟨rfl, rfl, rfl, by decide +kernel, rfl, by decide +kernel, by decide +kernel⟩
abbrev s_draw : Stmt := top 41
theorem c_draw : FnScope ["_law_purse_here", "_law_many", "_law_drawn", "_law_found", "_law_piece"] ["_law_purse_here", "_law_many"] (defScope s_draw) := ⟨rfl, rfl, rfl, by decide +kernel, rfl, by decide +kernel, by decide +kernel⟩
abbrev s_purses : Stmt := top 42
theorem c_purses : FnScope ["_law_script", "_law_few", "_law_at"] ["_law_script", "_law_few"] (defScope s_purses) := ⟨rfl, rfl, rfl, by decide +kernel, rfl, by decide +kernel, by decide +kernel⟩
abbrev s_one_of : Stmt := top 43
theorem c_one_of : FnScope ["_law_purse_here", "_law_some"] ["_law_purse_here", "_law_some"] (defScope s_one_of) := ⟨rfl, rfl, rfl, by decide +kernel, rfl, by decide +kernel, by decide +kernel⟩
abbrev s_shuffled : Stmt := top 44
theorem c_shuffled : FnScope ["_law_purse_here", "_law_some", "_law_found", "_law_item"] ["_law_purse_here", "_law_some"] (defScope s_shuffled) := ⟨rfl, rfl, rfl, by decide +kernel, rfl, by decide +kernel, by decide +kernel⟩
abbrev s_same : Stmt := top 45
theorem c_same : FnScope ["_law_thing", "_law_key", "_law_item"] ["_law_thing"] (defScope s_same) := ⟨rfl, rfl, rfl, by decide +kernel, rfl, by decide +kernel, by decide +kernel⟩
abbrev s_exact : Stmt := top 46
theorem c_exact : FnScope ["_law_mine", "_law_theirs", "_law_alike", "_law_a", "_law_b", "_law_key"] ["_law_mine", "_law_theirs"] (defScope s_exact) := ⟨rfl, rfl, rfl, by decide +kernel, rfl, by decide +kernel, by decide +kernel⟩
abbrev s_word : Stmt := top 47
theorem c_word : FnScope ["_law_purse_here", "_law_size", "_law_turn"] ["_law_purse_here"] (defScope s_word) := ⟨rfl, rfl, rfl, by decide +kernel, rfl, by decide +kernel, by decide +kernel⟩
abbrev s_words : Stmt := top 48
theorem c_words : FnScope ["_law_purse_here", "_law_many", "_law_base", "_law_near", "_law_spot", "_law_found", "_law_turn", "_law_word_here", "_law_letter"] ["_law_purse_here", "_law_many"] (defScope s_words) := ⟨rfl, rfl, rfl, by decide +kernel, rfl, by decide +kernel, by decide +kernel⟩
abbrev s_people : Stmt := top 49
theorem c_people : FnScope ["_law_purse_here", "_law_many", "_law_words_here", "_law_extra", "_law_mixed_here", "_law_word_here"] ["_law_purse_here", "_law_many"] (defScope s_people) := ⟨rfl, rfl, rfl, by decide +kernel, rfl, by decide +kernel, by decide +kernel⟩
abbrev s_pair : Stmt := top 50
theorem c_pair : FnScope ["_law_first", "_law_second"] ["_law_first", "_law_second"] (defScope s_pair) := ⟨rfl, rfl, rfl, by decide +kernel, rfl, by decide +kernel, by decide +kernel⟩
abbrev s_pairs : Stmt := top 51
theorem c_pairs : FnScope ["_law_crowd", "_law_found", "_law_at", "_law_late"] ["_law_crowd"] (defScope s_pairs) := ⟨rfl, rfl, rfl, by decide +kernel, rfl, by decide +kernel, by decide +kernel⟩
abbrev s_net : Stmt := top 52
theorem c_net : FnScope ["_law_world_here", "_law_pair_here"] ["_law_world_here"] (defScope s_net) := ⟨rfl, rfl, rfl, by decide +kernel, rfl, by decide +kernel, by decide +kernel⟩
abbrev s_deed : Stmt := top 53
theorem c_deed : FnScope ["_law_world_here", "_law_pair_here", "_law_kept", "_law_rest"] ["_law_world_here", "_law_pair_here"] (defScope s_deed) := ⟨rfl, rfl, rfl, by decide +kernel, rfl, by decide +kernel, by decide +kernel⟩
abbrev s_kinds : Stmt := top 54
theorem c_kinds : FnScope ["_law_world_here", "_law_pair_here", "_law_net_here", "_law_found", "_law_third", "_law_ties"] ["_law_world_here", "_law_pair_here"] (defScope s_kinds) := ⟨rfl, rfl, rfl, by decide +kernel, rfl, by decide +kernel, by decide +kernel⟩
abbrev s_numbers : Stmt := top 55
theorem c_numbers : FnScope ["_law_world_here", "_law_person", "_law_found", "_law_first", "_law_second"] ["_law_world_here"] (defScope s_numbers) := ⟨rfl, rfl, rfl, by decide +kernel, rfl, by decide +kernel, by decide +kernel⟩
abbrev s_friends_of : Stmt := top 56
theorem c_friends_of : FnScope ["_law_world_here", "_law_person", "_law_net_here", "_law_late"] ["_law_world_here", "_law_person"] (defScope s_friends_of) := ⟨rfl, rfl, rfl, by decide +kernel, rfl, by decide +kernel, by decide +kernel⟩
abbrev s_opposite : Stmt := top 57
theorem c_opposite : FnScope ["_law_world_here", "_law_net_here", "_law_pair_here"] ["_law_world_here"] (defScope s_opposite) := ⟨rfl, rfl, rfl, by decide +kernel, rfl, by decide +kernel, by decide +kernel⟩
abbrev s_by_density : Stmt := top 58
theorem c_by_density : FnScope ["_law_purse_here", "_law_crowd", "_law_way", "_law_pairs_here", "_law_pair_here"] ["_law_purse_here", "_law_crowd"] (defScope s_by_density) := ⟨rfl, rfl, rfl, by decide +kernel, rfl, by decide +kernel, by decide +kernel⟩
abbrev s_by_labels : Stmt := top 59
theorem c_by_labels : FnScope ["_law_purse_here", "_law_crowd", "_law_size", "_law_turn", "_law_person", "_law_rows", "_law_tie", "_law_ties", "_law_found", "_law_first", "_law_second", "_law_total", "_law_at", "_law_spot"] ["_law_purse_here", "_law_crowd"] (defScope s_by_labels) := ⟨rfl, rfl, rfl, by decide +kernel, rfl, by decide +kernel, by decide +kernel⟩
abbrev s_shaped : Stmt := top 60
theorem c_shaped : FnScope ["_law_purse_here", "_law_crowd", "_law_way", "_law_mixed_here", "_law_pairs_here", "_law_at", "_law_late", "_law_pair_here", "_law_near", "_law_part"] ["_law_purse_here", "_law_crowd"] (defScope s_shaped) := ⟨rfl, rfl, rfl, by decide +kernel, rfl, by decide +kernel, by decide +kernel⟩
abbrev s_world : Stmt := top 61
theorem c_world : FnScope ["_law_purse_here", "_law_many", "_law_crowd", "_law_way", "_law_world_here"] ["_law_purse_here", "_law_many"] (defScope s_world) := ⟨rfl, rfl, rfl, by decide +kernel, rfl, by decide +kernel, by decide +kernel⟩
abbrev s_company : Stmt := top 62
theorem c_company : FnScope ["_law_world_here", "_law_step"] ["_law_world_here"] (defScope s_company) := ⟨rfl, rfl, rfl, by decide +kernel, rfl, by decide +kernel, by decide +kernel⟩
abbrev s_sized : Stmt := top 63
theorem c_sized : FnScope ["_law_purse_here"] ["_law_purse_here"] (defScope s_sized) := ⟨rfl, rfl, rfl, by decide +kernel, rfl, by decide +kernel, by decide +kernel⟩
abbrev s_stays : Stmt := top 64
theorem c_stays : FnScope ["_law_world_here", "_law_company_here"] ["_law_world_here", "_law_company_here"] (defScope s_stays) := ⟨rfl, rfl, rfl, by decide +kernel, rfl, by decide +kernel, by decide +kernel⟩
abbrev s_kind_of : Stmt := top 65
theorem c_kind_of : FnScope ["_law_world_here", "_law_pair_here", "_law_person", "_law_one"] ["_law_world_here", "_law_pair_here", "_law_person"] (defScope s_kind_of) := ⟨rfl, rfl, rfl, by decide +kernel, rfl, by decide +kernel, by decide +kernel⟩
abbrev s_moves_right : Stmt := top 66
theorem c_moves_right : FnScope ["_law_purse_here", "_law_world_here", "_law_company_here", "_law_pairs_here", "_law_pair_here", "_law_kept", "_law_noted", "_law_later", "_law_late", "_law_due", "_law_other", "_law_person", "_law_before", "_law_behind", "_law_told", "_law_back"] ["_law_purse_here", "_law_world_here"] (defScope s_moves_right) := ⟨rfl, rfl, rfl, by decide +kernel, rfl, by decide +kernel, by decide +kernel⟩
abbrev s_stands : Stmt := top 67
theorem c_stands : FnScope ["_law_world_here", "_law_company_here", "_law_person", "_law_told", "_law_due", "_law_pairs_here", "_law_pair_here"] ["_law_world_here", "_law_company_here"] (defScope s_stands) := ⟨rfl, rfl, rfl, by decide +kernel, rfl, by decide +kernel, by decide +kernel⟩
abbrev s_law : Stmt := top 68
theorem c_law : FnScope ["_law_script", "_law_purse_here"] ["_law_script"] (defScope s_law) := ⟨rfl, rfl, rfl, by decide +kernel, rfl, by decide +kernel, by decide +kernel⟩
end Wd
end
section
set_option maxRecDepth 100000
set_option maxHeartbeats 4000000
namespace Wd
open PySem L2
/-- the built-in names that the text uses stand for themselves -/
structure Bt (mg : Str → Option Value) : Prop where
  sum : mg "sum" = none
  max : mg "max" = none
  min : mg "min" = none
  int : mg "int" = none
  range : mg "range" = none
  len : mg "len" = none
  sorted : mg "sorted" = none
  list : mg "list" = none
  dict : mg "dict" = none
  set : mg "set" = none
  all : mg "all" = none
  zip : mg "zip" = none
  isi : mg "isinstance" = none
  str : mg "str" = none
  tuple : mg "tuple" = none
  bool : mg "bool" = none
/-- all that was tracked stands, but at p -/
def SameX (p : Addr) (H H' : Hp) : Prop := ∀ b o, b ≠ p → H b = some o → H' b = some o
theorem SameX.refl (p : Addr) (H : Hp) : SameX p H H := fun _ _ _ h => h
theorem SameX.trans {p : Addr} {H H1 H2 : Hp} (a : SameX p H H1) (b : SameX p H1 H2) : SameX p H H2 := fun c o n h => b c o n (a c o n h)
theorem SameX.of {p : Addr} {H H' : Hp} (a : Same H H') : SameX p H H' := fun c o _ h => a c o h
theorem SameX.upd {p : Addr} {H : Hp} {o : HO} : SameX p H (upd H p o) := fun b u n h => by
  rw [upd_ne n]
  exact h
theorem SameX.new {p q : Addr} {H : Hp} {o : HO} (hq : H q = none) : SameX p H (L2.upd H q o) := fun b u _ h => by
  rw [upd_ne (ne_of_none h hq)]
  exact h
theorem same_new {q : Addr} {H : Hp} {o : HO} (hq : H q = none) : Same H (upd H q o) := fun b u h => by
  rw [upd_ne (ne_of_none h hq)]
  exact h
/-- a purse stands at p: c its second number, n draws are left -/
def PurseAt (H : Hp) (p : Addr) (c : Int) (n : Nat) : Prop := ∃ b t z : Int, H p = some (.lst [.int b, .int c, .int t, .int z]) ∧ 0 ≤ c ∧ c < 2147483629 ∧ 0 ≤ t ∧ t + (n : Int) ≤ 1000000 ∧ 0 ≤ z ∧ z ≤ 64
theorem PurseAt.same {H H' : Hp} {p : Addr} {c : Int} {n : Nat} (h : PurseAt H p c n) (s : Same H H') : PurseAt H' p c n := by
  obtain ⟨b, t, z, e, r⟩ := h
  exact ⟨b, t, z, s _ _ e, r⟩
theorem PurseAt.less {H : Hp} {p : Addr} {c : Int} {n m : Nat} (h : PurseAt H p c n) (l : m ≤ n) : PurseAt H p c m := by
  obtain ⟨b, t, z, e, h1, h2, h3, h4, r⟩ := h
  exact ⟨b, t, z, e, h1, h2, h3, by omega, r⟩
def spPurse (K : PySem.W.Frag) : Sp := fun vs H Q _ => ∃ (a : Addr) (ns : List Int) (i : Int), vs = [.ref a, .int i] ∧ SqL K H a (ns.map V.int) ∧ 0 ≤ i ∧ i ≤ 64 ∧
  ∀ (H' : Hp) (p : Addr) (c : Int), Same H H' → H p = none → PurseAt H' p c 1000000 → Q (.ref p) H'
def spMixed : Sp := fun vs H Q _ => ∃ s t z : Int, vs = [.int s, .int t, .int z] ∧ -(2 ^ 64) < s ∧ s < 2 ^ 64 ∧ -(2 ^ 64) < t ∧ t < 2 ^ 64 ∧ ∀ r : Int, 0 ≤ r → r < 2147483587 → Q (.int r) H
def spDraw : Sp := fun vs H Q _ => ∃ (p : Addr) (m c : Int) (n : Nat), vs = [.ref p, .int m] ∧ PurseAt H p c (n + 1) ∧ 1 ≤ m ∧ m < 1048576 ∧
  ∀ (H' : Hp) (r : Int), 0 ≤ r → r < m → SameX p H H' → PurseAt H' p c n → Q (.int r) H'
section
variable {P : Program} {w : World} {K : PySem.W.Frag} {mg : Str → Option Value} {base : Heap}
theorem op_powW {X : Cx} : OpR X (binaryOp .Pow) (rI (fun i j => i = 10 ^ 60 ∧ j = 8) fun i j => .int (i ^ j.toNat)) := opI fun i j _ _ _ _ _ hc q => by
  obtain ⟨rfl, rfl⟩ := hc
  exact PyProof.Rows.pow_int (by decide) (by decide +kernel) q
theorem cut_ints (ns : List Int) (lo hi : Option Int) : ∃ ms : List Int, cutV (ns.map V.int) lo hi = ms.map V.int := by
  exact ⟨_, by unfold cutV; rw [← List.map_drop, ← List.map_take]⟩
theorem ok_mixed {f : Addr} {fd : FuncData} (F : Fun K "_law_mixed" "_law_mixed" s_mixed f fd) (T : Bt mg) : FnOk P w K mg base CX0 1 f fd ["_law_seed", "_law_turn", "_law_at"] spMixed := by
  refine F.ok c_mixed (fun vs H Q E h => ?_) (fun cdv A outer s H vs Q E hr h => ?_)
  · obtain ⟨_, _, _, rfl, _⟩ := h
    rfl
  · obtain ⟨x, t, z, rfl, h1, h2, h3, h4, k⟩ := h
    refine ⟨_, pss_cons (ps_set (i := 3) c_mixed.nd rfl (Or.inl rfl) (pe_op op_add (pe_op op_mul (pv 0) pe_int) (pe_op op_mul (pe_op op_mul pe_int (pv 1)) (pv 1))))
      (pss_cons (ps_set (i := 3) c_mixed.nd rfl (Or.inl rfl) (pe_op op_mod (pe_callTy call_int1 (by rfl) T.int (by decide +kernel) (pa_cons (pe_op op_add (pe_op op_add (pv 3) (pe_op op_mul pe_int (pv 2))) (pv 1)) pa_nil)) pe_int))
      (pss_cons (ps_set (i := 3) c_mixed.nd rfl (Or.inl rfl) (pe_op op_mod (pe_callTy call_int1 (by rfl) T.int (by decide +kernel) (pa_cons (pe_op op_add (pe_op op_mul (pv 3) (pv 3)) pe_int) pa_nil)) pe_int))
      (pss_one (ps_ret (pe_op op_mod (pe_callTy call_int1 (by rfl) T.int (by decide +kernel) (pa_cons (pe_op op_mul (pv 3) pe_int) pa_nil)) pe_int))))), ?_⟩
    refine ⟨_, rfl, _, _, rfl, rfl, .inl ⟨h1, h2⟩, _, rfl, _, _, rfl, rfl, .inl ⟨by decide, by decide⟩, _, rfl, _, _, rfl, rfl, .inr ⟨h3, h4⟩, _, _, rfl, rfl, ?_⟩
    refine ⟨_, rfl, _, rfl, _, _, rfl, rfl, .inl ⟨by decide, by decide⟩, _, _, rfl, rfl, _, rfl, _, _, rfl, rfl, .inl ⟨_, rfl, _, _, rfl, rfl, (by show (0 : Int) < 2147483647; decide), ?_⟩⟩
    have u0 : ∀ y : Int, 0 ≤ y % 2147483647 := fun y => Int.emod_nonneg _ (by decide)
    have u1 : ∀ y : Int, y % 2147483647 < 2147483647 := fun y => Int.emod_lt_of_pos _ (by decide)
    refine ⟨_, rfl, _, rfl, _, _, rfl, rfl, .inl ⟨?_, ?_⟩, _, _, rfl, rfl, .inl ⟨_, rfl, _, _, rfl, rfl, (by show (0 : Int) < 2147483629; decide), ?_⟩⟩
    · exact Int.lt_of_lt_of_le (by decide) (u0 _)
    · exact Int.lt_of_lt_of_le (u1 _) (by decide)
    · have v0 : ∀ y : Int, 0 ≤ y % 2147483629 := fun y => Int.emod_nonneg _ (by decide)
      have v1 : ∀ y : Int, y % 2147483629 < 2147483629 := fun y => Int.emod_lt_of_pos _ (by decide)
      refine ⟨_, rfl, _, _, rfl, rfl, .inl ⟨?_, ?_⟩, .inl ⟨_, rfl, _, _, rfl, rfl, (by show (0 : Int) < 2147483587; decide), ?_⟩⟩
      · exact Int.lt_of_lt_of_le (by decide) (v0 _)
      · exact Int.lt_of_lt_of_le (v1 _) (by decide)
      · exact k _ (Int.emod_nonneg _ (by decide)) (Int.emod_lt_of_pos _ (by decide))
theorem ok_purse {f : Addr} {fd : FuncData} (F : Fun K "_law_purse" "_law_purse" s_purse f fd) (T : Bt mg) : FnOk P w K mg base CX0 1 f fd ["_law_script", "_law_at"] (spPurse K) := by
  refine F.ok c_purse (fun vs H Q E h => ?_) (fun cdv A outer s H vs Q E hr h => ?_)
  · obtain ⟨_, _, _, rfl, _⟩ := h
    rfl
  · obtain ⟨a, ns, i, rfl, hS, h0, h1, k⟩ := h
    refine ⟨_, pss_cons (ps_set (i := 2) c_purse.nd rfl (Or.inl rfl) (pe_callB (cr_sum rfl) (by rfl) T.sum (by decide +kernel) (pa_cons (pe_slice sl_list (pv 0) (po_some (pv 1)) (po_some (pe_op op_add (pv 1) pe_int))) pa_nil)))
      (pss_one (ps_ret (pe_lst (pa_cons (pe_op op_mod (pe_callTy call_int1 (by rfl) T.int (by decide +kernel) (pa_cons (pe_callB (call_max2 rfl) (by rfl) T.max (by decide +kernel) (pa_cons (pe_op op_sub (pv 2) (pe_op op_pow pe_int pe_int)) (pa_cons pe_int pa_nil))) pa_nil))
            (pe_op op_powW (pe_op op_pow pe_int pe_int) pe_int))
          (pa_cons (pe_op op_mod (pe_callTy call_int1 (by rfl) T.int (by decide +kernel) (pa_cons (pv 2) pa_nil)) pe_int) (pa_cons pe_int (pa_cons (pv 1) pa_nil))))))), ?_⟩
    obtain ⟨ms, hms⟩ := cut_ints ns (some i) (some (i + 1))
    refine ⟨_, rfl, _, rfl, _, rfl, _, rfl, _, _, rfl, rfl, _, rfl, a, _, rfl, hS, fun p0 hp0 => ?_⟩
    refine ⟨p0, ms, rfl, SqL.of (by rw [upd_same, hms]), ?_⟩
    refine ⟨_, rfl, _, _, rfl, rfl, ⟨by decide, by decide, by decide⟩, _, _, rfl, rfl, _, _, rfl, .inl ⟨_, rfl, _, _, rfl, rfl, ⟨by decide, by decide, by decide⟩, _, _, rfl, rfl, ⟨by decide, by decide⟩, _, _, rfl, rfl, (by show (0 : Int) < _; decide +kernel), ?_⟩⟩
    refine ⟨_, rfl, .inl ⟨_, rfl, _, _, rfl, rfl, (by show (0 : Int) < 2147483629; decide), _, rfl, (by show 4 ≤ sizeLine; decide), fun p hp => ?_⟩⟩
    have np : H p = none := (same_new hp0).free hp
    exact k _ p _ ((same_new hp0).trans (same_new hp)) np ⟨_, _, _, upd_same, Int.emod_nonneg _ (by decide), Int.emod_lt_of_pos _ (by decide), by decide, by decide, h0, h1⟩
theorem ok_draw {f fM : Addr} {fd fdM : FuncData} (F : Fun K "_law_draw" "_law_draw" s_draw f fd) (T : Bt mg) (FM : Fun K "_law_mixed" "_law_mixed" s_mixed fM fdM) (mM : mg "_law_mixed" = some (.ref fM)) (bM : Binds K fdM ["_law_seed", "_law_turn", "_law_at"] []) :
    FnOk P w K mg base CX0 2 f fd ["_law_purse_here", "_law_many"] spDraw := by
  have GM : FnOk P w K mg base CX0 1 fM fdM ["_law_seed", "_law_turn", "_law_at"] spMixed := ok_mixed FM T
  refine F.ok c_draw (fun vs H Q E h => ?_) (fun cdv A outer s H vs Q E hr h => ?_)
  · obtain ⟨_, _, _, _, rfl, _⟩ := h
    rfl
  · obtain ⟨p, m, c, n, rfl, ⟨b, t, z, hp, c0, c1, t0, t1, z0, z1⟩, m0, m1, k⟩ := h
    have hr1 : Room 1 _ := hr.mono (by decide)
    refine ⟨_, pss_cons (ps_if (pt_cmpR op_gt (pe_ix ix_list (pv 0) pe_int (fun _ _ => rfl)) pe_int (nomark _))
        (pss_cons (ps_set (i := 2) c_draw.nd rfl (Or.inl rfl) (pe_op op_mod (pe_callTy call_int1 (by rfl) T.int (by decide +kernel) (pa_cons (pe_ix ix_list (pv 0) pe_int (fun _ _ => rfl)) pa_nil)) (pv 1)))
        (pss_cons (ps_asg (pe_op op_fdiv (pe_ix ix_list (pv 0) pe_int (fun _ _ => rfl)) (pv 1)) (pg_sub (pv 0) pe_int set_list))
        (pss_one (ps_ret (pv 2))))) pss_nil)
      (pss_cons (ps_set (i := 3) c_draw.nd rfl (Or.inl rfl) pe_int)
      (pss_cons (ps_for PassesOwn.never rfl (pi_range1 rfl T.range (pa_cons (pe_op op_add pe_int (pe_op op_fdiv (pe_bits (pv 1)) pe_int)) pa_nil)) (pg_name (i := 4) c_draw.nd rfl (Or.inl rfl))
        (pss_cons (ps_asg (pe_op op_add (pe_ix ix_list (pv 0) pe_int (fun _ _ => rfl)) pe_int) (pg_sub (pv 0) pe_int set_list))
        (pss_one (ps_set (i := 3) c_draw.nd rfl (Or.inl rfl) (pe_op op_add (pe_op op_mul (pv 3) pe_int)
          (pe_call GM hr1 rfl mM FM.kp bM .nil pass0 (pa_cons (pe_ix ix_list (pv 0) pe_int (fun _ _ => rfl)) (pa_cons (pe_ix ix_list (pv 0) pe_int (fun _ _ => rfl)) (pa_cons (pe_ix ix_list (pv 0) pe_int (fun _ _ => rfl)) pa_nil)))))))))
      (pss_one (ps_ret (pe_op op_mod (pe_callTy call_int1 (by rfl) T.int (by decide +kernel) (pa_cons (pv 3) pa_nil)) (pv 1)))))), ?_⟩
    refine ⟨_, rfl, p, _, _, _, rfl, rfl, SqL.of hp, rfl, _, _, rfl, rfl, _, rfl, ?_⟩
    refine ite2 (fun _ => ?_) (fun _ => ?_)
    · refine ⟨_, rfl, p, _, _, _, rfl, rfl, SqL.of hp, rfl, .inl ⟨_, rfl, _, rfl, _, _, rfl, rfl, (by show (0 : Int) < m; omega), ?_⟩⟩
      refine ⟨_, rfl, p, _, _, _, rfl, rfl, SqL.of hp, rfl, _, rfl, _, _, rfl, rfl, ⟨by show (0 : Int) < m; omega, by show m < 1073741824; omega⟩, _, rfl, p, _, _, 0, rfl, rfl, hp, rfl, ?_⟩
      refine ⟨_, rfl, ?_⟩
      exact k _ _ (Int.emod_nonneg _ (by omega)) (Int.emod_lt_of_pos _ (by omega)) SameX.upd ⟨_, _, _, upd_same, c0, c1, t0, by omega, z0, z1⟩
    · have hb : Builtin.Int.intBits m ≤ 20 := PyProof.Rows.intBits_le (by omega)
      have e28 : (1 : Int) + ((Builtin.Int.intBits m : Nat) : Int) / 28 = 1 := by omega
      refine ⟨_, rfl, m, rfl, _, _, rfl, rfl, ⟨by decide, by decide⟩, _, _, rfl, rfl, 1, congrArg (fun q => [V.int q]) e28, by decide, by decide, ?_⟩
      refine for_range (lo := 0) (n := 1) (fun i σ H' => ∃ (f t' : Int) (v : Option V), σ = [some (.ref p), some (.int m), none, some (.int f), v] ∧ SameX p H H' ∧ H' p = some (.lst [.int b, .int c, .int t', .int z]) ∧ t' = t + (i : Int))
        ⟨0, t, none, rfl, SameX.refl _ _, hp, by simp⟩ ?_ ?_
      · rintro i σ H' hi ⟨f, t', v, rfl, sx, hp', et⟩
        refine ⟨_, rfl, p, _, _, _, rfl, rfl, SqL.of hp', rfl, _, _, rfl, rfl, _, rfl, p, _, _, 2, rfl, rfl, hp', rfl, ?_⟩
        have hp2 : (upd H' p (.lst [.int b, .int c, .int (t' + 1), .int z])) p = some (.lst [.int b, .int c, .int (t' + 1), .int z]) := upd_same
        refine ⟨_, rfl, _, _, rfl, rfl, .inr ⟨by decide, by decide⟩, _, rfl, p, _, _, _, rfl, rfl, SqL.of hp2, rfl, _, rfl, p, _, _, _, rfl, rfl, SqL.of hp2, rfl, _, rfl, p, _, _, _, rfl, rfl, SqL.of hp2, rfl, ?_⟩
        refine ⟨_, _, _, rfl, by omega, by omega, by omega, by omega, fun r r0 r1 => ?_⟩
        exact ⟨_, _, rfl, rfl, _, _, _, rfl, sx.trans SameX.upd, hp2, by omega⟩
      · rintro σ H' ⟨f, t', v, rfl, sx, hp', et⟩
        refine ⟨_, rfl, .inl ⟨_, rfl, _, rfl, _, _, rfl, rfl, (by show (0 : Int) < m; omega), ?_⟩⟩
        exact k _ _ (Int.emod_nonneg _ (by omega)) (Int.emod_lt_of_pos _ (by omega)) sx ⟨_, _, _, hp', c0, c1, by omega, by omega, z0, z1⟩
end
end Wd
end
section
set_option maxRecDepth 100000
set_option maxHeartbeats 4000000
namespace Wd
open PySem L2
def spPurses (K : PySem.W.Frag) : Sp := fun vs H Q _ => ∃ (a : Addr) (ns : List Int) (few : Int), vs = [.ref a, .int few] ∧ SqL K H a (ns.map V.int) ∧ few ≤ 60 ∧
  ∀ (H' : Hp) (D : Addr) (ps : List Addr), Same H H' → H D = none → H' D = some (.lst (ps.map V.ref)) → ps.Nodup → (∀ p ∈ ps, H p = none ∧ ∃ c, PurseAt H' p c 1000000) → Q (.ref D) H'
def spOneOf : Sp := fun vs H Q _ => ∃ (p l : Addr) (xs : List V) (c : Int) (n : Nat), vs = [.ref p, .ref l] ∧ PurseAt H p c (n + 1) ∧ H l = some (.lst xs) ∧ l ≠ p ∧ 1 ≤ xs.length ∧ xs.length ≤ 1000 ∧
  ∀ (H' : Hp) (i : Nat) (x : V), xs[i]? = some x → SameX p H H' → PurseAt H' p c n → Q x H'
/-- a word: one to eight letters from a to z -/
def IsW (x : Str) : Prop := 1 ≤ x.cps.toList.length ∧ x.cps.toList.length ≤ 8 ∧ ∀ c ∈ x.cps.toList, 97 ≤ c ∧ c ≤ 122
def spWord : Sp := fun vs H Q _ => ∃ (p : Addr) (c : Int) (n : Nat), vs = [.ref p] ∧ PurseAt H p c (n + 10) ∧
  ∀ (H' : Hp) (x : Str), IsW x → SameX p H H' → PurseAt H' p c n → Q (.str x) H'
theorem join_cps : ∀ cs : List Nat, (Str.join Str.empty (cs.map fun c => (⟨#[c]⟩ : Str))).cps.toList = cs
  | [] => rfl
  | [c] => rfl
  | c :: d :: r => by
    have h := join_cps (d :: r)
    show ((⟨#[c]⟩ : Str) ++ Str.empty ++ Str.join Str.empty ((d :: r).map fun c => (⟨#[c]⟩ : Str))).cps.toList = c :: d :: r
    have e : ∀ a b : Str, (a ++ b).cps.toList = a.cps.toList ++ b.cps.toList := fun a b => Array.toList_append
    rw [e, e, h]
    rfl
theorem letters {n : Nat} (h : n < 26) : ∃ c, ("abcdefghijklmnopqrstuvwxyz" : Str).cps.toList[n]? = some c ∧ 97 ≤ c ∧ c ≤ 122 := by
  have all : ∀ n, n < 26 → ∃ c, ("abcdefghijklmnopqrstuvwxyz" : Str).cps.toList[n]? = some c ∧ 97 ≤ c ∧ c ≤ 122 := by
    intro n h
    have q : ∀ n : Fin 26, (match ("abcdefghijklmnopqrstuvwxyz" : Str).cps.toList[n.val]? with | some c => decide (97 ≤ c) && decide (c ≤ 122) | none => false) = true := by decide +kernel
    have z := q ⟨n, h⟩
    dsimp only at z
    split at z
    · exact ⟨_, by assumption, by simpa using z⟩
    · cases z
  exact all n h
section
variable {P : Program} {w : World} {K : PySem.W.Frag} {mg : Str → Option Value} {base : Heap}
theorem ok_purses {f fP : Addr} {fd fdP : FuncData} (F : Fun K "_law_purses" "_law_purses" s_purses f fd) (T : Bt mg) (FP : Fun K "_law_purse" "_law_purse" s_purse fP fdP) (mP : mg "_law_purse" = some (.ref fP)) (bP : Binds K fdP ["_law_script", "_law_at"] []) :
    FnOk P w K mg base CX0 2 f fd ["_law_script", "_law_few"] (spPurses K) := by
  have GP : FnOk P w K mg base CX0 1 fP fdP ["_law_script", "_law_at"] (spPurse K) := ok_purse FP T
  refine F.ok c_purses (fun vs H Q E h => ?_) (fun cdv A outer s H vs Q E hr h => ?_)
  · obtain ⟨_, _, _, rfl, _⟩ := h
    rfl
  · obtain ⟨a, ns, few, rfl, hS, hf, k⟩ := h
    have hr1 : Room 1 _ := hr.mono (by decide)
    refine ⟨_, pss_one (ps_ret (pe_lc (own := [("_law_at", 2)]) (g := gName 2) (tt := tYes) rfl c_purses.nd
      (pi_range1 rfl T.range (pa_cons (pe_callB (call_max2 rfl) (by rfl) T.max (by decide +kernel) (pa_cons pe_int (pa_cons (pe_callB (call_min2 rfl) (by rfl) T.min (by decide +kernel) (pa_cons (pv 1) (pa_cons (pe_callB call_len_seq (by rfl) T.len PySem.boot_len (pa_cons (pv 0) pa_nil)) pa_nil))) pa_nil))) pa_nil))
      (blkOk_by (N := ["_law_script", "_law_few", "_law_at"]) (sc := defScope s_purses) (by decide +kernel)) (fun _ _ _ _ _ => pg_name (i := 2) c_purses.nd rfl (Or.inl rfl)) (fun _ _ _ _ _ => pts_nil)
      (fun _ _ _ _ _ => pe_call GP hr1 rfl mP FP.kp bP .nil pass0 (pa_cons (pv 0) (pa_cons (pv 2) pa_nil))))), ?_⟩
    refine ⟨_, rfl, _, rfl, a, _, rfl, .inl hS, _, _, rfl, _, _, rfl, ?_⟩
    generalize hN : (if (if ((ns.map V.int).length : Int) < few then ((ns.map V.int).length : Int) else few) > 1 then (if ((ns.map V.int).length : Int) < few then ((ns.map V.int).length : Int) else few) else (1 : Int)) = N
    have hN0 : 1 ≤ N ∧ N ≤ 60 := by
      rw [← hN]
      split <;> split <;> omega
    refine ⟨N, rfl, by omega, by omega, fun D hD => ?_⟩
    refine lc_range (lo := 0) (n := N.toNat) (fun i H' => ∃ ps : List Addr, H' D = some (.lst (ps.map V.ref)) ∧ ps.length = i ∧ Same H H' ∧ ps.Nodup ∧ (∀ p ∈ ps, H p = none ∧ ∃ c, PurseAt H' p c 1000000))
      ⟨[], upd_same, rfl, same_new hD, List.nodup_nil, fun _ h => nomatch h⟩ ?_ ?_
    · rintro i H' hi ⟨ps, hd, hl, s5, nd, hp⟩
      refine ⟨rfl, ?_⟩
      refine ⟨_, rfl, _, rfl, a, ns, _, rfl, s5.seq hS, by omega, by omega, fun H2 p c s2 hn pa => ?_⟩
      have hd2 := s2 _ _ hd
      have npD : p ≠ D := fun z => by
        rw [z, hd] at hn
        cases hn
      have hnp : p ∉ ps := fun hm => by
        obtain ⟨_, c', b', t', z', e, _⟩ := hp p hm
        rw [hn] at e
        cases e
      have sd : ∀ o, Same H (upd H2 D o) := fun o b u e => by
        have nb : b ≠ D := ne_of_none e hD
        rw [upd_ne nb]
        exact s2 _ _ (s5 _ _ e)
      refine ⟨_, hd2, by rw [List.length_map, hl, sizeLine_eq]; omega, ps ++ [p], ?_, by simp [hl], sd _, ?_, fun q hq => ?_⟩
      · rw [upd_same]
        simp
      · rw [List.nodup_append]
        refine ⟨nd, by simp, fun x hx y hy => ?_⟩
        have ey : y = p := by simpa using hy
        rw [ey]
        rintro rfl
        exact hnp hx
      · have keep : ∀ {q : Addr} {c : Int} {n : Nat}, q ≠ D → PurseAt H2 q c n → PurseAt (upd H2 D (.lst (ps.map V.ref ++ [V.ref p]))) q c n := fun {q c n} nq ⟨b, t, z, e, r⟩ => ⟨b, t, z, by rw [upd_ne nq]; exact e, r⟩
        rcases List.mem_append.mp hq with hq | hq
        · obtain ⟨h1, c', pc⟩ := hp q hq
          refine ⟨h1, c', keep (fun z => ?_) (pc.same s2)⟩
          obtain ⟨b', t', z', e, _⟩ := pc
          rw [z, hd] at e
          injection e with e
          injection e with e
          cases ps with
          | nil => cases hq
          | cons x xs => simp at e
        · have eq : q = p := by simpa using hq
          rw [eq]
          exact ⟨s5.free hn, c, keep npD pa⟩
    · rintro H' ⟨ps, hd, hl, s5, nd, hp⟩
      exact k H' D ps s5 hD hd nd hp
theorem ok_oneof {f fD : Addr} {fd fdD : FuncData} (F : Fun K "_law_one_of" "_law_one_of" s_one_of f fd) (T : Bt mg) (GD : FnOk P w K mg base CX0 2 fD fdD ["_law_purse_here", "_law_many"] spDraw) (mD : mg "_law_draw" = some (.ref fD)) (kD : PySem.W.keepIn K (.ref fD) = true) (bD : Binds K fdD ["_law_purse_here", "_law_many"] []) :
    FnOk P w K mg base CX0 3 f fd ["_law_purse_here", "_law_some"] spOneOf := by
  refine F.ok c_one_of (fun vs H Q E h => ?_) (fun cdv A outer s H vs Q E hr h => ?_)
  · obtain ⟨_, _, _, _, _, rfl, _⟩ := h
    rfl
  · obtain ⟨p, l, xs, c, n, rfl, pa, hl, ne, l1, l2, k⟩ := h
    have hr2 : Room 2 _ := hr.mono (by decide)
    refine ⟨_, pss_one (ps_ret (pe_ix ix_list (pv 1) (pe_call GD hr2 rfl mD kD bD .nil pass0 (pa_cons (pv 0) (pa_cons (pe_callB call_len_seq (by rfl) T.len PySem.boot_len (pa_cons (pv 1) pa_nil)) pa_nil))) (fun _ _ => rfl))), ?_⟩
    refine ⟨_, rfl, _, rfl, _, rfl, l, _, rfl, .inl (SqL.of hl), p, _, c, n, rfl, pa, by omega, by omega, fun H' r r0 r1 sx pa' => ?_⟩
    obtain ⟨i, rfl⟩ : ∃ i : Nat, r = (i : Int) := ⟨r.toNat, by omega⟩
    have hi : i < xs.length := by omega
    exact ⟨l, xs, _, xs[i], rfl, rfl, SqL.of (sx _ _ ne hl), atI_nat (by simp [hi]), k H' i _ (by simp [hi]) sx pa'⟩
theorem ok_word {f fD : Addr} {fd fdD : FuncData} (F : Fun K "_law_word" "_law_word" s_word f fd) (T : Bt mg) (GD : FnOk P w K mg base CX0 2 fD fdD ["_law_purse_here", "_law_many"] spDraw) (mD : mg "_law_draw" = some (.ref fD)) (kD : PySem.W.keepIn K (.ref fD) = true) (bD : Binds K fdD ["_law_purse_here", "_law_many"] []) :
    FnOk P w K mg base CX0 3 f fd ["_law_purse_here"] spWord := by
  refine F.ok c_word (fun vs H Q E h => ?_) (fun cdv A outer s H vs Q E hr h => ?_)
  · obtain ⟨_, _, _, rfl, _⟩ := h
    rfl
  · obtain ⟨p, c, n, rfl, pa, k⟩ := h
    have hr2 : Room 2 _ := hr.mono (by decide)
    refine ⟨_, pss_cons (ps_set (i := 1) c_word.nd rfl (Or.inl rfl) (pe_op op_add pe_int (pe_call GD hr2 rfl mD kD bD .nil pass0 (pa_cons (pv 0) (pa_cons (pe_ifExp (pt_cmpR op_eq (pe_call GD hr2 rfl mD kD bD .nil pass0 (pa_cons (pv 0) (pa_cons pe_int pa_nil))) pe_int (nomark _)) pe_int pe_int) pa_nil)))))
      (pss_one (ps_ret (pe_join pe_str (pe_lc (own := [("_law_turn", 2)]) (g := gName 2) (tt := tYes) rfl c_word.nd
      (pi_range1 rfl T.range (pa_cons (pv 1) pa_nil))
      (blkOk_by (N := ["_law_purse_here", "_law_size", "_law_turn"]) (sc := defScope s_word) (by decide +kernel)) (fun _ _ _ _ _ => pg_name (i := 2) c_word.nd rfl (Or.inl rfl)) (fun _ _ _ _ _ => pts_nil)
      (fun _ _ _ _ _ => pe_ix ix_str pe_str (pe_call GD hr2 rfl mD kD bD .nil pass0 (pa_cons (pv 0) (pa_cons pe_int pa_nil))) (fun _ _ => rfl)))))), ?_⟩
    refine ⟨_, rfl, _, rfl, p, _, c, n + 9, rfl, pa, by omega, by omega, fun H1 r r0 r1 sx1 pa1 => ⟨rfl, _, rfl, ?_⟩⟩
    refine ite2 (fun _ => ?_) (fun _ => ?_)
    all_goals
      refine ⟨p, _, c, n + 8, rfl, pa1, by decide, by decide, fun H2 r r0 r1 sx2 pa2 => ?_⟩
      refine ⟨_, _, rfl, rfl, ?_⟩
      refine ⟨⟨_, rfl⟩, _, rfl, 1 + r, rfl, by omega, by omega, fun D hD => ?_⟩
      refine lc_range (lo := 0) (n := (1 + r).toNat) (fun i H' => ∃ cs : List Nat, H' D = some (.lst ((cs.map fun c => (⟨#[c]⟩ : Str)).map V.str)) ∧ cs.length = i ∧ SameX p H H' ∧ (∀ c ∈ cs, 97 ≤ c ∧ c ≤ 122) ∧ PurseAt H' p c (n + (8 - i)))
        ⟨[], upd_same, rfl, (sx1.trans sx2).trans (SameX.new hD), (fun _ h => nomatch h), ?_⟩ ?_ ?_
      · obtain ⟨b, t, z, e, q⟩ := pa2
        exact ⟨b, t, z, by rw [upd_ne (ne_of_none e hD)]; exact e, q⟩
      · rintro i H' hi ⟨cs, hd, hl, s5, hc, pa3⟩
        refine ⟨rfl, ?_⟩
        have l8 : n + (8 - i) = n + (8 - (i + 1)) + 1 := by omega
        rw [l8] at pa3
        refine ⟨_, rfl, p, _, c, _, rfl, pa3, by decide, by decide, fun H3 u u0 u1 sx3 pa4 => ?_⟩
        obtain ⟨j, rfl⟩ : ∃ j : Nat, u = (j : Int) := ⟨u.toNat, by omega⟩
        obtain ⟨ch, hch, hlt⟩ := letters (n := j) (by omega)
        have nDp : D ≠ p := fun e => by
          obtain ⟨b, t, z, q, _⟩ := pa2
          rw [← e, hD] at q
          cases q
        refine ⟨_, _, ch, rfl, rfl, by decide, atI_nat hch, _, sx3 _ _ nDp hd, by simp only [List.length_map]; rw [hl, sizeLine_eq]; omega, cs ++ [ch], ?_, by simp [hl], ?_, ?_, ?_⟩
        · rw [upd_same]
          simp
        · intro b o nb e
          have nb2 : b ≠ D := fun q => by
            rw [q] at e
            have z := (sx1.trans sx2) _ _ nDp e
            rw [hD] at z
            cases z
          rw [upd_ne nb2]
          exact sx3 _ _ nb (s5 _ _ nb e)
        · intro x hx
          rcases List.mem_append.mp hx with hx | hx
          · exact hc x hx
          · have ex : x = ch := by simpa using hx
            rw [ex]
            exact hlt
        · obtain ⟨b, t, z, e, q⟩ := pa4
          exact ⟨b, t, z, by rw [upd_ne (Ne.symm nDp)]; exact e, q⟩
      · rintro H' ⟨cs, hd, hl, s5, hc, pa3⟩
        have hlen : cs.length ≤ 8 := by omega
        refine ⟨_, _, _, rfl, rfl, .inl (SqL.of hd), ?_, ?_⟩
        · have e1 : ∀ l : List Nat, ((l.map fun c => (⟨#[c]⟩ : Str)).map (·.length)).sum = l.length := by
            intro l
            induction l with
            | nil => rfl
            | cons x l ih =>
              rw [List.map_cons, List.map_cons, List.sum_cons, ih, List.length_cons]
              show 1 + l.length = _
              omega
          rw [e1]
          show cs.length + _ * 0 ≤ _
          omega
        · have ej : (Txt.join ("" : Str) (cs.map fun c => (⟨#[c]⟩ : Str))).cps.toList = cs := by
            show (Builtin.Str.glued ("" : Str) _).cps.toList = cs
            rw [StrLaws.glued_eq_join]
            exact join_cps cs
          refine k H' _ ⟨?_, ?_, ?_⟩ s5 (pa3.less (by omega))
          · rw [ej]
            omega
          · rw [ej]
            exact hlen
          · rw [ej]
            exact hc
end
end Wd
end
section
set_option maxRecDepth 100000
set_option maxHeartbeats 4000000
namespace Wd
open PySem L2
/-- a def of the text that keeps a promise -/
def Has (P : Program) (w : World) (K : PySem.W.Frag) (mg : Str → Option Value) (base : Heap) (k : Nat) (x : Str) (ps : List Str) (sp : Sp) : Prop :=
  ∃ (f : Addr) (fd : FuncData), FnOk P w K mg base CX0 k f fd ps sp ∧ mg x = some (.ref f) ∧ PySem.W.keepIn K (.ref f) = true ∧ Binds K fd ps []
/-- the object at a is none of the purse's -/
theorem purse_ne {H : Hp} {p a : Addr} {c : Int} {n : Nat} {o : HO} (pa : PurseAt H p c n) (e : H a = some o) (h : ∀ b c t z : Int, o ≠ .lst [.int b, .int c, .int t, .int z]) : a ≠ p := by
  rintro rfl
  obtain ⟨b, t, z, q, _⟩ := pa
  rw [e] at q
  exact h _ _ _ _ (Option.some.inj q)
theorem purse_none {H : Hp} {p a : Addr} {c : Int} {n : Nat} (pa : PurseAt H p c n) (e : H a = none) : a ≠ p := by
  rintro rfl
  obtain ⟨b, t, z, q, _⟩ := pa
  rw [e] at q
  cases q
theorem PurseAt.upd {H : Hp} {p a : Addr} {c : Int} {n : Nat} {o : HO} (pa : PurseAt H p c n) (ne : a ≠ p) : PurseAt (L2.upd H a o) p c n := by
  obtain ⟨b, t, z, e, q⟩ := pa
  exact ⟨b, t, z, by rw [upd_ne (Ne.symm ne)]; exact e, q⟩
theorem SameX.updN {p a : Addr} {H H' : Hp} {o : HO} (s : SameX p H H') (hn : H a = none) : SameX p H (L2.upd H' a o) := fun b u nb e => by
  rw [upd_ne (ne_of_none e hn)]
  exact s b u nb e
theorem SameX.none {p a : Addr} {H H' : Hp} (s : SameX p H H') (hn : H' a = none) (ne : a ≠ p) : H a = none := by
  cases e : H a with
  | none => rfl
  | some o =>
    rw [s a o ne e] at hn
    cases hn
def spShuffled : Sp := fun vs H Q _ => ∃ (p l : Addr) (xs : List V) (c : Int) (n : Nat), vs = [.ref p, .ref l] ∧ PurseAt H p c (n + xs.length) ∧ H l = some (.lst xs) ∧ l ≠ p ∧ xs.length ≤ 1000 ∧
  ∀ (H' : Hp) (D : Addr) (ys : List V), ys.Perm xs → SameX p H H' → H D = none → H' D = some (.lst ys) → D ≠ p → PurseAt H' p c n → Q (.ref D) H'
section
variable {P : Program} {w : World} {K : PySem.W.Frag} {mg : Str → Option Value} {base : Heap}
theorem ok_shuffled {f : Addr} {fd : FuncData} (F : Fun K "_law_shuffled" "_law_shuffled" s_shuffled f fd) (T : Bt mg) (CD : Has P w K mg base 2 "_law_draw" ["_law_purse_here", "_law_many"] spDraw) :
    FnOk P w K mg base CX0 3 f fd ["_law_purse_here", "_law_some"] spShuffled := by
  obtain ⟨fD, fdD, GD, mD, kD, bD⟩ := CD
  refine F.ok c_shuffled (fun vs H Q E h => ?_) (fun cdv A outer s H vs Q E hr h => ?_)
  · obtain ⟨_, _, _, _, _, rfl, _⟩ := h
    rfl
  · obtain ⟨p, l, xs, c, n, rfl, pa, hl, ne, l2, k⟩ := h
    have hr2 : Room 2 _ := hr.mono (by decide)
    refine ⟨_, pss_cons (ps_set (i := 2) c_shuffled.nd rfl (Or.inl rfl) (pe_lst pa_nil))
      (pss_cons (ps_for PassesOwn.never rfl (pi_list (pv 1)) (pg_name (i := 3) c_shuffled.nd rfl (Or.inl rfl))
        (pss_one (ps_expr (pe_bm PySem.F.plainAttrs_list PySem.F.slot_list_insert PySem.F.type_list_insert mt_insert (pv 2)
          (pa_cons (pe_call GD hr2 rfl mD kD bD .nil pass0 (pa_cons (pv 0) (pa_cons (pe_op op_add (pe_callB call_len_seq (by rfl) T.len PySem.boot_len (pa_cons (pv 2) pa_nil)) pe_int) pa_nil))) (pa_cons (pv 3) pa_nil))))))
      (pss_one (ps_ret (pv 2)))), ?_⟩
    refine ⟨Nat.zero_le _, fun D hD => ?_⟩
    have nDp := purse_none pa hD
    have hl0 : upd H D (.lst []) l = some (.lst xs) := by rw [upd_ne (ne_of_none hl hD)]; exact hl
    refine ⟨_, rfl, l, rfl, ⟨xs, SqL.of hl0⟩, ?_⟩
    refine for_list (xs := xs) (fun i σ H' => ∃ (ys : List V) (v : Option V), σ = [some (.ref p), some (.ref l), some (.ref D), v] ∧ ys.Perm (xs.take i) ∧ SameX p H H' ∧ H' D = some (.lst ys) ∧ PurseAt H' p c (n + (xs.length - i)))
      ⟨[], none, rfl, List.Perm.nil, (SameX.refl p H).updN hD, upd_same, (pa.upd nDp)⟩ ?_ ?_ ?_
    · rintro i σ H' hi ⟨ys, v, rfl, _, sx, _⟩
      exact SqL.of (sx l _ ne hl)
    · rintro i x σ H' hx ⟨ys, v, rfl, pm, sx, hd, pa'⟩
      have il : i < xs.length := (List.getElem?_eq_some_iff.mp hx).1
      have ly : ys.length = i := by rw [pm.length_eq, List.length_take]; omega
      have e1 : n + (xs.length - i) = n + (xs.length - (i + 1)) + 1 := by omega
      rw [e1] at pa'
      refine ⟨_, rfl, .inl ⟨rfl, _, SqL.of hd⟩, ?_⟩
      refine ⟨_, rfl, _, rfl, D, _, rfl, .inl (SqL.of hd), _, _, rfl, rfl, p, _, c, _, rfl, pa', by omega, by omega, fun H2 r r0 r1 sx2 pa2 => ?_⟩
      have hd2 := sx2 D _ nDp hd
      refine ⟨_, rfl, D, ys, r, x, rfl, rfl, hd2, by rw [sizeLine_eq]; omega, r0, by omega, ?_⟩
      refine ⟨ys.take r.toNat ++ [x] ++ ys.drop r.toNat, some x, rfl, ?_, (sx.trans sx2).updN hD, upd_same, pa2.upd nDp⟩
      have h1 : (ys.take r.toNat ++ [x] ++ ys.drop r.toNat).Perm (x :: ys) := by
        have z : (ys.take r.toNat ++ x :: ys.drop r.toNat).Perm (x :: (ys.take r.toNat ++ ys.drop r.toNat)) := List.perm_middle
        rw [List.take_append_drop] at z
        simpa using z
      have h2 : (xs.take (i + 1)).Perm (x :: xs.take i) := by
        rw [List.take_succ, hx]
        exact List.perm_append_singleton x _
      exact h1.trans ((pm.cons x).trans h2.symm)
    · rintro σ H' ⟨ys, v, rfl, pm, sx, hd, pa'⟩
      refine ⟨_, rfl, ?_⟩
      rw [List.take_length] at pm
      exact k H' D ys pm sx hD hd nDp (pa'.less (by omega))
end
end Wd
end
section
set_option maxRecDepth 100000
set_option maxHeartbeats 4000000
namespace Kx
open PySem PySem.Spec PyProof.Rows L2
/-- the signs of a text, each a text -/
def signs (z : Str) : List V := z.cps.toList.map fun c => V.str ⟨#[c]⟩
theorem vals_signs {z : Str} {acc : Array Value} (h : ItemsOf (SignAt z) acc z.cps.size) : Vals (signs z) acc.toList := by
  obtain ⟨sz, at_⟩ := h
  have key : ∀ (k : Nat) (l : List Nat) (vs : List Value), l.length = vs.length → (∀ (j : Nat) (c : Nat) (v : Value), l[j]? = some c → vs[j]? = some v → ∃ t, v = Value.str ⟨#[c]⟩ t) → Vals (l.map fun c => V.str ⟨#[c]⟩) vs := by
    intro k l
    induction l with
    | nil =>
      intro vs e _
      cases vs with
      | nil => exact .nil
      | cons v vs => simp at e
    | cons c l ih =>
      intro vs e q
      cases vs with
      | nil => simp at e
      | cons v vs =>
        obtain ⟨t, rfl⟩ := q 0 c v rfl rfl
        exact .cons ⟨t, rfl⟩ (ih vs (by simpa using e) fun j c' v' h1 h2 => q (j + 1) c' v' (by simpa using h1) (by simpa using h2))
  refine key 0 z.cps.toList acc.toList (by rw [Array.length_toList, Array.length_toList, sz]) fun j c v hc hv => ?_
  have hv' : acc[j]? = some v := by rw [← Array.getElem?_toList]; exact hv
  have hc' : z.cps[j]? = some c := by rw [← Array.getElem?_toList]; exact hc
  have q := at_ j v hv'
  unfold SignAt at q
  obtain ⟨c2, t, e1, e2⟩ := q
  rw [hc'] at e1
  exact ⟨t, by rw [e2, Option.some.inj e1]⟩
def rListS : List V → Hp → VK → Prop := fun vs H Q => ∃ z : Str, vs = [.str z] ∧ z.cps.size ≤ 1000 ∧ ∀ l, H l = none → Q (.ref l) (upd H l (.lst (signs z)))
theorem cr_listS {X : Cx} (hc : X.calm = true) : CallR X (.type "list") rListS := by
  intro pins s σ H vs us Q I r h
  obtain ⟨z, rfl, few, q⟩ := h
  obtain ⟨u, rfl, rx⟩ := vals1 r
  obtain ⟨t, rfl⟩ := rx
  refine call_list_str (I.ok.hd hc) z t (fun h' tk acc c' k g it => ?_) (by rw [sizeLine_eq]; omega)
  have len : (signs z).length ≤ sizeLine := by
    unfold signs
    rw [List.length_map, Array.length_toList, sizeLine_eq]
    omega
  exact ⟨.ref s.heap.objs.size, _, I.laid (t' := tk) k (Nat.le_refl _) (show ObjOk X.prog X.w _ h' _ (.lst (signs z)) from ⟨len, acc.toList, c', vals_signs it, by simpa using g⟩), rfl, q _ (I.hok.fresh (Nat.le_refl _))⟩
end Kx
end
section
set_option maxRecDepth 100000
set_option maxHeartbeats 4000000
namespace Wd
open PySem L2
theorem sIx_n (n d k : Nat) : HT.sIx n d (some (k : Int)) = min k n := HT.sIx_nat n d k
theorem cut_lo (z : Str) (k : Nat) : (cutS z none (some (k : Int))).cps.toList = z.cps.toList.take k := by
  have e0 : HT.sIx z.length 0 none = 0 := rfl
  unfold cutS
  rw [sIx_n, e0, List.drop_zero, Nat.sub_zero]
  show z.cps.toList.take (min k z.cps.size) = _
  rw [← Array.length_toList, ← List.take_take, List.take_length]
theorem cut_hi (z : Str) (k : Nat) : (cutS z (some (k : Int)) none).cps.toList = z.cps.toList.drop k := by
  have e0 : HT.sIx z.length z.length none = z.length := rfl
  unfold cutS
  rw [sIx_n, e0]
  show (z.cps.toList.drop (min k z.cps.size)).take (z.cps.size - min k z.cps.size) = _
  by_cases h : k ≤ z.cps.size
  · rw [Nat.min_eq_left h, List.take_of_length_le (by rw [List.length_drop, Array.length_toList]; exact Nat.le_refl _)]
  · rw [Nat.min_eq_right (by omega), Nat.sub_self, List.take_zero, List.drop_eq_nil_of_le (by rw [Array.length_toList]; omega)]
theorem in_strs (x : Str) (xs : List Str) : inV (.str x) (xs.map V.str) = decide (x ∈ xs) := by
  unfold inV
  rw [List.any_map]
  induction xs with
  | nil => simp
  | cons y ys ih =>
    rw [List.any_cons, ih]
    show ((y == x) || decide (x ∈ ys)) = decide (x ∈ y :: ys)
    by_cases h : x = y
    · subst h
      simp
    · have h' : (y == x) = false := beq_eq_false_iff_ne.mpr (Ne.symm h)
      rw [h', Bool.false_or]
      exact decide_eq_decide.mpr ⟨fun z => List.mem_cons_of_mem _ z, fun z => by
        rcases List.mem_cons.mp z with e | z
        · exact absurd e h
        · exact z⟩
theorem flat_strs' (xs : List Str) : (xs.map V.str).all flatV = true := by
  rw [List.all_map]
  exact List.all_eq_true.mpr fun _ _ => rfl
def abc : Str := "abcdefghijklmnopqrstuvwxyz"
def spWords : Sp := fun vs H Q _ => ∃ (p : Addr) (many : Nat) (c : Int) (n : Nat), vs = [.ref p, .int many] ∧ PurseAt H p c (n + 200) ∧ many ≤ 9 ∧
  ∀ (H' : Hp) (D : Addr) (xs : List Str), xs.length = many → xs.Nodup → (∀ x ∈ xs, IsW x) → SameX p H H' → H D = none → H' D = some (.lst (xs.map V.str)) → D ≠ p → PurseAt H' p c n → Q (.ref D) H'
theorem isW_mid {z : Str} {k ch : Nat} (h : IsW z) (hk : k < z.cps.toList.length) (hc : 97 ≤ ch ∧ ch ≤ 122) : IsW (cutS z none (some (k : Int)) ++ ⟨#[ch]⟩ ++ cutS z (some ((k : Int) + 1)) none) := by
  obtain ⟨h1, h2, h3⟩ := h
  have e : ∀ a b : Str, (a ++ b).cps.toList = a.cps.toList ++ b.cps.toList := fun a b => Array.toList_append
  have ek : (k : Int) + 1 = ((k + 1 : Nat) : Int) := by omega
  have l : (cutS z none (some (k : Int)) ++ ⟨#[ch]⟩ ++ cutS z (some ((k : Int) + 1)) none).cps.toList = z.cps.toList.take k ++ [ch] ++ z.cps.toList.drop (k + 1) := by
    rw [e, e, cut_lo, ek, cut_hi]
  unfold IsW
  rw [l]
  refine ⟨?_, ?_, fun c hm => ?_⟩
  · simp only [List.length_append, List.length_singleton]
    omega
  · simp only [List.length_append, List.length_singleton, List.length_take, List.length_drop]
    omega
  · rcases List.mem_append.mp hm with hm | hm
    · rcases List.mem_append.mp hm with hm | hm
      · exact h3 c (List.mem_of_mem_take hm)
      · rw [List.mem_singleton.mp hm]
        exact hc
    · exact h3 c (List.mem_of_mem_drop hm)
/-- the letters, each a text -/
def abcL : List Str := abc.cps.toList.map fun c => ⟨#[c]⟩
theorem sign_at {j : Nat} {v : V} (h : (Kx.signs abc)[j]? = some v) : ∃ z, abcL[j]? = some z ∧ v = .str z := by
  unfold Kx.signs at h
  rw [List.getElem?_map] at h
  obtain ⟨c, hc, e⟩ := Option.map_eq_some_iff.mp h
  exact ⟨⟨#[c]⟩, by unfold abcL; rw [List.getElem?_map, hc]; rfl, e.symm⟩
theorem take_next {α : Type} {l : List α} {i : Nat} {x : α} (h : l[i]? = some x) : l.take (i + 1) = l.take i ++ [x] := by
  rw [List.take_succ, h]
  rfl
theorem abc_codes : ((List.range 26).all fun n => decide ((⟨#[97 + n]⟩ : Str) ∈ abcL)) = true ∧ (abcL.all fun z => decide (z.cps.toList.length = 1) && z.cps.toList.all fun c => decide (97 ≤ c) && decide (c ≤ 122)) = true := by decide +kernel
theorem flt_le (xs : List Str) (j : Nat) : ((abcL.take j).filter fun z => decide (z ∉ xs)).length ≤ 26 := by
  have h1 := List.length_filter_le (fun z => decide (z ∉ xs)) (abcL.take j)
  rw [List.length_take] at h1
  have h2 : abcL.length = 26 := rfl
  omega
theorem pigeons : ∀ (l D : List Nat), l.Nodup → (∀ x ∈ l, x ∈ D) → l.length ≤ D.length
  | [], _, _, _ => Nat.zero_le _
  | x :: l, D, hn, hs => by
    obtain ⟨h1, h2⟩ := List.nodup_cons.mp hn
    have hx : x ∈ D := hs x List.mem_cons_self
    have ih := pigeons l (D.erase x) h2 fun y hy => (List.mem_erase_of_ne (fun e => h1 (by rw [← e]; exact hy))).2 (hs y (List.mem_cons_of_mem _ hy))
    have e := List.length_erase_of_mem hx
    have hp : 0 < D.length := List.length_pos_of_mem hx
    rw [List.length_cons]
    omega
/-- fewer than 26 texts leave a letter out -/
theorem some_letter (xs : List Str) (h : xs.length < 26) : ∃ y, (y ∉ xs ∧ IsW y) ∧ (abcL.filter fun z => decide (z ∉ xs))[0]? = some y := by
  cases e : abcL.filter fun z => decide (z ∉ xs) with
  | nil =>
    exfalso
    have all : ∀ n ∈ List.range 26, n ∈ xs.map fun z => z.cps.toList.headD 0 - 97 := fun n hn => by
      have m := of_decide_eq_true (List.all_eq_true.mp abc_codes.1 n hn)
      have q : ¬ (⟨#[97 + n]⟩ : Str) ∉ xs := fun z => by
        have hm : (⟨#[97 + n]⟩ : Str) ∈ abcL.filter fun z => decide (z ∉ xs) := List.mem_filter.mpr ⟨m, decide_eq_true z⟩
        rw [e] at hm
        cases hm
      refine List.mem_map.mpr ⟨_, Classical.not_not.mp q, ?_⟩
      show 97 + n - 97 = n
      omega
    have l := pigeons (List.range 26) _ List.nodup_range all
    rw [List.length_range, List.length_map] at l
    omega
  | cons y ys =>
    have hm : y ∈ abcL.filter fun z => decide (z ∉ xs) := by rw [e]; exact List.mem_cons_self
    obtain ⟨h1, h2⟩ := List.mem_filter.mp hm
    have q := List.all_eq_true.mp abc_codes.2 y h1
    rw [Bool.and_eq_true] at q
    have l1 := of_decide_eq_true q.1
    refine ⟨y, ⟨of_decide_eq_true h2, by omega, by omega, fun c hc => ?_⟩, rfl⟩
    have r := List.all_eq_true.mp q.2 c hc
    simpa using r
section
variable {P : Program} {w : World} {K : PySem.W.Frag} {mg : Str → Option Value} {base : Heap}
set_option maxHeartbeats 1000000 in
theorem ok_words {f : Addr} {fd : FuncData} (F : Fun K "_law_words" "_law_words" s_words f fd) (T : Bt mg) (CD : Has P w K mg base 2 "_law_draw" ["_law_purse_here", "_law_many"] spDraw) (CW : Has P w K mg base 3 "_law_word" ["_law_purse_here"] spWord) :
    FnOk P w K mg base CX0 4 f fd ["_law_purse_here", "_law_many"] spWords := by
  obtain ⟨fD, fdD, GD, mD, kD, bD⟩ := CD
  obtain ⟨fW, fdW, GW, mW, kW, bW⟩ := CW
  refine F.ok c_words (fun vs H Q E h => ?_) (fun cdv A outer s H vs Q E hr h => ?_)
  · obtain ⟨_, _, _, _, rfl, _⟩ := h
    rfl
  · obtain ⟨p, many, c, n, rfl, pa, hm, k⟩ := h
    have hr2 : Room 2 _ := hr.mono (by decide)
    have hr3 : Room 3 _ := hr.mono (by decide)
    refine ⟨_, pss_cons (ps_par (i := 2) (j := 3) rfl c_words.nd rfl rfl (by decide) rfl rfl (pa_cons (pe_call GW hr3 rfl mW kW bW .nil pass0 (pa_cons (pv 0) pa_nil)) (pa_cons (pe_cmpR op_eq (pe_call GD hr2 rfl mD kD bD .nil pass0 (pa_cons (pv 0) (pa_cons pe_int pa_nil))) pe_int (nomark _)) pa_nil)) (by rfl))
      (pss_cons (ps_asg (pe_tup (pa_cons (pe_call GD hr2 rfl mD kD bD .nil pass0 (pa_cons (pv 0) (pa_cons (pe_callB call_len_str (by rfl) T.len PySem.boot_len (pa_cons (pv 2) pa_nil)) pa_nil))) (pa_cons (pe_lst pa_nil) pa_nil)))
        (pg_tup rfl (pgs_cons (pg_name (i := 4) c_words.nd rfl (Or.inl rfl)) (pgs_cons (pg_name (i := 5) c_words.nd rfl (Or.inr rfl)) pgs_nil))))
      (pss_cons (ps_for PassesOwn.never rfl (pi_range1 rfl T.range (pa_cons (pv 1) pa_nil)) (pg_name (i := 6) c_words.nd rfl (Or.inl rfl))
        (pss_cons (ps_set (i := 7) c_words.nd rfl (Or.inl rfl) (pe_op op_add_str (pe_op op_add_str (pe_slice sl_str (pv 2) po_none (po_some (pv 4))) (pe_ix ix_str pe_str (pe_call GD hr2 rfl mD kD bD .nil pass0 (pa_cons (pv 0) (pa_cons pe_int pa_nil))) (fun _ _ => rfl)))
            (pe_slice sl_str (pv 2) (po_some (pe_op op_add (pv 4) pe_int)) po_none)))
        (pss_cons (ps_if (pt_not (pt_val (pv 3))) (pss_one (ps_set (i := 7) c_words.nd rfl (Or.inl rfl) (pe_call GW hr3 rfl mW kW bW .nil pass0 (pa_cons (pv 0) pa_nil)))) pss_nil)
        (pss_cons (ps_if (pt_cmpR op_in_seq (pv 7) (pv 5) rfl) (pss_one (ps_set (i := 7) c_words.nd rfl (Or.inl rfl) (pe_ix ix_list (pe_lc (own := [("_law_letter", 8)]) (g := gName 8) rfl c_words.nd
            (pi_list (pe_callTy (Kx.cr_listS rfl) (by rfl) T.list (by decide +kernel) (pa_cons pe_str pa_nil)))
            (blkOk_by (N := ["_law_purse_here", "_law_many", "_law_base", "_law_near", "_law_spot", "_law_found", "_law_turn", "_law_word_here", "_law_letter"]) (sc := defScope s_words) (by decide +kernel)) (fun _ _ _ _ _ => pg_name (i := 8) c_words.nd rfl (Or.inl rfl)) (fun _ _ _ _ _ => pts_one (pt_cmpR (r := rIn K true) op_notIn_seq (pv 8) (pv 5) rfl))
            (fun _ _ _ _ _ => pv 8)) pe_int (fun _ _ => rfl)))) pss_nil)
        (pss_one (ps_expr (pe_bm PySem.F.plainAttrs_list PySem.F.slot_list_append PySem.F.type_list_append mt_append (pv 5) (pa_cons (pv 7) pa_nil))))))))
      (pss_one (ps_ret (pv 5))))), ?_⟩
    refine ⟨_, rfl, p, c, n + 190, rfl, pa, fun H1 x hx sx1 pa1 => ?_⟩
    refine ⟨_, rfl, p, _, c, n + 189, rfl, pa1, by decide, by decide, fun H2 r r0 r1 sx2 pa2 => ⟨rfl, _, _, rfl, ?_⟩⟩
    have lx : x.length = x.cps.toList.length := Array.length_toList.symm
    have lx1 : 1 ≤ x.length := by rw [lx]; exact hx.1
    have lx8 : x.length ≤ 8 := by rw [lx]; exact hx.2.1
    have lxs : x.length ≤ sizeLine := by rw [sizeLine_eq]; omega
    refine ⟨_, rfl, _, rfl, x, rfl, lxs, p, _, c, n + 188, rfl, pa2, by omega, by omega, fun H3 q q0 q1 sx3 pa3 => ?_⟩
    refine ⟨Nat.zero_le _, fun D hD => ⟨by show 2 ≤ sizeLine; decide, fun t ht => ⟨t, _, rfl, SqT.of upd_same, rfl, _, _, rfl, _, _, rfl, rfl, ?_⟩⟩⟩
    obtain ⟨q, rfl⟩ : ∃ m : Nat, q = (m : Int) := ⟨q.toNat, by omega⟩
    have nDp := purse_none pa3 hD
    have sx03 : SameX p H H3 := (sx1.trans sx2).trans sx3
    have nD : H D = none := sx03.none hD nDp
    have ht3 : H3 t = none := by
      have tD : t ≠ D := fun e => by
        rw [e, upd_same] at ht
        cases ht
      rw [upd_ne tD] at ht
      exact ht
    have tp := purse_none pa3 ht3
    have nT : H t = none := sx03.none ht3 tp
    have tD : D ≠ t := ne_of_none upd_same ht
    refine ⟨_, rfl, (many : Int), rfl, by omega, by omega, ?_⟩
    refine for_range (lo := 0) (n := (many : Int).toNat) (fun i σ H' => ∃ (xs : List Str) (v6 v7 : Option V), σ = [some (.ref p), some (.int many), some (.str x), some (.bl (decide (V.int r = V.int 0))), some (.int q), some (.ref D), v6, v7, none] ∧ xs.length = i ∧ xs.Nodup ∧ (∀ z ∈ xs, IsW z) ∧ SameX p H H' ∧ H' D = some (.lst (xs.map V.str)) ∧ PurseAt H' p c (n + (9 - i) * 20))
      ⟨[], none, none, rfl, rfl, List.nodup_nil, (fun _ h => nomatch h), (sx03.updN nD).updN nT, by rw [upd_ne tD, upd_same]; rfl, ((pa3.upd nDp).upd tp).less (by omega)⟩ ?_ ?_
    · rintro i σ H' hi ⟨xs, v6, v7, rfl, li, nd, hw, sx, hd, pa'⟩
      have i8 : i ≤ 8 := by omega
      have m1 : n + (9 - i) * 20 = n + (9 - (i + 1)) * 20 + 10 + 9 + 1 := by omega
      rw [m1] at pa'
      refine ⟨_, rfl, _, rfl, _, rfl, x, rfl, lxs, _, rfl, p, _, c, _, rfl, pa', by decide, by decide, fun H4 u u0 u1 sx4 pa4 => ?_⟩
      obtain ⟨j, rfl⟩ : ∃ j : Nat, u = (j : Int) := ⟨u.toNat, by omega⟩
      obtain ⟨ch, hch, hlt⟩ := letters (n := j) (by omega)
      have hd4 := sx4 _ _ nDp hd
      have wy := isW_mid (k := q) (ch := ch) hx (by rw [← lx]; omega) hlt
      have cl1 := cutS_length x none (some (q : Int))
      have cl2 := cutS_length x (some ((q : Int) + 1)) none
      refine ⟨_, _, ch, rfl, rfl, by decide, atI_nat hch, _, _, rfl, rfl, ?_, _, rfl, _, rfl, _, _, rfl, rfl, _, rfl, x, rfl, lxs, _, _, rfl, rfl, ?_, ?_⟩
      · show _ + 1 ≤ _
        rw [sizeLine_eq]
        omega
      · show (cutS x none (some (q : Int)) ++ (⟨#[ch]⟩ : Str)).cps.size + _ ≤ _
        have e9 : (cutS x none (some (q : Int)) ++ (⟨#[ch]⟩ : Str)).cps.size = (cutS x none (some (q : Int))).length + 1 := Array.size_append
        rw [e9, sizeLine_eq]
        omega
      refine ⟨_, rfl, _, rfl, ?_⟩
      refine ite2 (fun _ => ?_) (fun _ => ?_)
      · refine ⟨_, rfl, p, c, _, rfl, pa4.less (m := n + (9 - (i + 1)) * 20 + 10) (by omega), fun H5 y hy sx5 pa5 => ?_⟩
        have hd5 := sx5 _ _ nDp hd4
        refine ⟨_, rfl, _, rfl, D, _, rfl, .inl (SqL.of hd5), rfl, flat_strs' xs, _, rfl, ?_⟩
        rw [if_neg (by decide), in_strs]
        refine ite2 (fun hin => ?_) (fun hno => ?_)
        · refine ⟨abc, rfl, by decide, fun l hl => ⟨l, rfl, ⟨_, SqL.of upd_same⟩, fun D2 hD2 => ?_⟩⟩
          have lD2 : l ≠ D2 := ne_of_none upd_same hD2
          have Dl : D ≠ l := ne_of_none hd5 hl
          have hdl : upd H5 l (.lst (Kx.signs abc)) D = some (.lst (xs.map V.str)) := by rw [upd_ne Dl]; exact hd5
          have DD2 : D ≠ D2 := ne_of_none hdl hD2
          refine lc_list (xs := Kx.signs abc) (fun j H' => H' = upd (upd H5 l (.lst (Kx.signs abc))) D2 (.lst ((((abcL.take j).filter fun z => decide (z ∉ xs)).map V.str)))) rfl (fun j H' _ e => ?_) ?_ ?_
          · rw [e]
            exact SqL.of (by rw [upd_ne lD2, upd_same])
          · rintro j v H' hv rfl
            obtain ⟨z, hz, rfl⟩ := sign_at hv
            refine ⟨rfl, _, rfl, _, rfl, D, _, rfl, .inl (SqL.of (by rw [upd_ne DD2]; exact hdl)), rfl, flat_strs' xs, _, rfl, ?_⟩
            rw [if_pos rfl, in_strs]
            have nx : (abcL.take (j + 1)).filter (fun z => decide (z ∉ xs)) = (abcL.take j).filter (fun z => decide (z ∉ xs)) ++ (if z ∈ xs then [] else [z]) := by
              rw [take_next hz, List.filter_append]
              by_cases c : z ∈ xs <;> simp [c]
            refine ite2 (fun hb => ?_) (fun hb => ?_)
            · have c : z ∉ xs := by simpa using hb
              refine ⟨_, rfl, _, upd_same, by rw [List.length_map, sizeLine_eq]; have := flt_le xs j; omega, ?_⟩
              show upd _ _ _ = upd _ _ _
              rw [upd_upd, nx, if_neg c, List.map_append]
              rfl
            · have c : z ∈ xs := by simpa using hb
              show upd _ _ _ = upd _ _ _
              rw [nx, if_pos c, List.append_nil]
          · rintro H' rfl
            obtain ⟨y2, hy2, e2⟩ := some_letter xs (by omega)
            have e3 : (abcL.take (Kx.signs abc).length).filter (fun z => decide (z ∉ xs)) = abcL.filter fun z => decide (z ∉ xs) := by
              rw [List.take_of_length_le (by decide)]
            refine ⟨D2, _, ((0 : Nat) : Int), .str y2, rfl, rfl, SqL.of upd_same, atI_nat ?_, ?_⟩
            · rw [e3, List.getElem?_map, e2]
              rfl
            have hdz : upd (upd H5 l (.lst (Kx.signs abc))) D2 (.lst (((abcL.take (Kx.signs abc).length).filter fun z => decide (z ∉ xs)).map V.str)) D = some (.lst (xs.map V.str)) := by rw [upd_ne DD2]; exact hdl
            have pl : l ≠ p := purse_none pa5 hl
            have hD2' : H5 D2 = none := by
              rw [upd_ne (Ne.symm lD2)] at hD2
              exact hD2
            have pD2 : D2 ≠ p := purse_none pa5 hD2'
            have sxz : SameX p H (upd (upd H5 l (.lst (Kx.signs abc))) D2 (.lst (((abcL.take (Kx.signs abc).length).filter fun z => decide (z ∉ xs)).map V.str))) :=
              (((sx.trans sx4).trans sx5).updN (((sx.trans sx4).trans sx5).none hl pl)).updN (((sx.trans sx4).trans sx5).none hD2' pD2)
            have nin2 : y2 ∉ xs := hy2.1
            refine ⟨_, rfl, .inl ⟨rfl, _, SqL.of hdz⟩, _, rfl, D, _, _, rfl, rfl, hdz, by rw [List.length_map, sizeLine_eq]; omega, ?_⟩
            refine ⟨xs ++ [y2], some (.int (0 + (i : Int))), some (.str y2), rfl, by rw [List.length_append, List.length_singleton]; omega, ?_, fun z hz => ?_, (sxz).updN nD, by rw [upd_same]; simp, (((pa5).upd pl).upd pD2).upd nDp⟩
            · rw [List.nodup_append]
              exact ⟨nd, by simp, fun a ha b hb => by
                rw [List.mem_singleton.mp hb]
                rintro rfl
                exact nin2 ha⟩
            · rcases List.mem_append.mp hz with hz | hz
              · exact hw z hz
              · rw [List.mem_singleton.mp hz]
                exact hy2.2
        · have c : y ∉ xs := by simpa using hno
          refine ⟨_, rfl, .inl ⟨rfl, _, SqL.of hd5⟩, _, rfl, D, _, _, rfl, rfl, hd5, by rw [List.length_map, sizeLine_eq]; omega, ?_⟩
          refine ⟨xs ++ [y], some (.int (0 + (i : Int))), some (.str y), rfl, by rw [List.length_append, List.length_singleton]; omega, ?_, fun z hz => ?_, ((sx.trans sx4).trans sx5).updN nD, by rw [upd_same]; simp, (pa5).upd nDp⟩
          · rw [List.nodup_append]
            exact ⟨nd, by simp, fun a ha b hb => by
              rw [List.mem_singleton.mp hb]
              rintro rfl
              exact c ha⟩
          · rcases List.mem_append.mp hz with hz | hz
            · exact hw z hz
            · rw [List.mem_singleton.mp hz]
              exact hy
      · have pa5 := pa4.less (m := n + (9 - (i + 1)) * 20) (by omega)
        generalize cutS x none (some (q : Int)) ++ (⟨#[ch]⟩ : Str) ++ cutS x (some ((q : Int) + 1)) none = y at wy ⊢
        refine ⟨_, rfl, _, rfl, D, _, rfl, .inl (SqL.of hd4), rfl, flat_strs' xs, _, rfl, ?_⟩
        rw [if_neg (by decide), in_strs]
        refine ite2 (fun hin => ?_) (fun hno => ?_)
        · refine ⟨abc, rfl, by decide, fun l hl => ⟨l, rfl, ⟨_, SqL.of upd_same⟩, fun D2 hD2 => ?_⟩⟩
          have lD2 : l ≠ D2 := ne_of_none upd_same hD2
          have Dl : D ≠ l := ne_of_none hd4 hl
          have hdl : upd H4 l (.lst (Kx.signs abc)) D = some (.lst (xs.map V.str)) := by rw [upd_ne Dl]; exact hd4
          have DD2 : D ≠ D2 := ne_of_none hdl hD2
          refine lc_list (xs := Kx.signs abc) (fun j H' => H' = upd (upd H4 l (.lst (Kx.signs abc))) D2 (.lst ((((abcL.take j).filter fun z => decide (z ∉ xs)).map V.str)))) rfl (fun j H' _ e => ?_) ?_ ?_
          · rw [e]
            exact SqL.of (by rw [upd_ne lD2, upd_same])
          · rintro j v H' hv rfl
            obtain ⟨z, hz, rfl⟩ := sign_at hv
            refine ⟨rfl, _, rfl, _, rfl, D, _, rfl, .inl (SqL.of (by rw [upd_ne DD2]; exact hdl)), rfl, flat_strs' xs, _, rfl, ?_⟩
            rw [if_pos rfl, in_strs]
            have nx : (abcL.take (j + 1)).filter (fun z => decide (z ∉ xs)) = (abcL.take j).filter (fun z => decide (z ∉ xs)) ++ (if z ∈ xs then [] else [z]) := by
              rw [take_next hz, List.filter_append]
              by_cases c : z ∈ xs <;> simp [c]
            refine ite2 (fun hb => ?_) (fun hb => ?_)
            · have c : z ∉ xs := by simpa using hb
              refine ⟨_, rfl, _, upd_same, by rw [List.length_map, sizeLine_eq]; have := flt_le xs j; omega, ?_⟩
              show upd _ _ _ = upd _ _ _
              rw [upd_upd, nx, if_neg c, List.map_append]
              rfl
            · have c : z ∈ xs := by simpa using hb
              show upd _ _ _ = upd _ _ _
              rw [nx, if_pos c, List.append_nil]
          · rintro H' rfl
            obtain ⟨y2, hy2, e2⟩ := some_letter xs (by omega)
            have e3 : (abcL.take (Kx.signs abc).length).filter (fun z => decide (z ∉ xs)) = abcL.filter fun z => decide (z ∉ xs) := by
              rw [List.take_of_length_le (by decide)]
            refine ⟨D2, _, ((0 : Nat) : Int), .str y2, rfl, rfl, SqL.of upd_same, atI_nat ?_, ?_⟩
            · rw [e3, List.getElem?_map, e2]
              rfl
            have hdz : upd (upd H4 l (.lst (Kx.signs abc))) D2 (.lst (((abcL.take (Kx.signs abc).length).filter fun z => decide (z ∉ xs)).map V.str)) D = some (.lst (xs.map V.str)) := by rw [upd_ne DD2]; exact hdl
            have pl : l ≠ p := purse_none pa5 hl
            have hD2' : H4 D2 = none := by
              rw [upd_ne (Ne.symm lD2)] at hD2
              exact hD2
            have pD2 : D2 ≠ p := purse_none pa5 hD2'
            have sxz : SameX p H (upd (upd H4 l (.lst (Kx.signs abc))) D2 (.lst (((abcL.take (Kx.signs abc).length).filter fun z => decide (z ∉ xs)).map V.str))) :=
              ((sx.trans sx4).updN ((sx.trans sx4).none hl pl)).updN ((sx.trans sx4).none hD2' pD2)
            have nin2 : y2 ∉ xs := hy2.1
            refine ⟨_, rfl, .inl ⟨rfl, _, SqL.of hdz⟩, _, rfl, D, _, _, rfl, rfl, hdz, by rw [List.length_map, sizeLine_eq]; omega, ?_⟩
            refine ⟨xs ++ [y2], some (.int (0 + (i : Int))), some (.str y2), rfl, by rw [List.length_append, List.length_singleton]; omega, ?_, fun z hz => ?_, (sxz).updN nD, by rw [upd_same]; simp, (((pa5).upd pl).upd pD2).upd nDp⟩
            · rw [List.nodup_append]
              exact ⟨nd, by simp, fun a ha b hb => by
                rw [List.mem_singleton.mp hb]
                rintro rfl
                exact nin2 ha⟩
            · rcases List.mem_append.mp hz with hz | hz
              · exact hw z hz
              · rw [List.mem_singleton.mp hz]
                exact hy2.2
        · have c : y ∉ xs := by simpa using hno
          refine ⟨_, rfl, .inl ⟨rfl, _, SqL.of hd4⟩, _, rfl, D, _, _, rfl, rfl, hd4, by rw [List.length_map, sizeLine_eq]; omega, ?_⟩
          refine ⟨xs ++ [y], some (.int (0 + (i : Int))), some (.str y), rfl, by rw [List.length_append, List.length_singleton]; omega, ?_, fun z hz => ?_, (sx.trans sx4).updN nD, by rw [upd_same]; simp, (pa5).upd nDp⟩
          · rw [List.nodup_append]
            exact ⟨nd, by simp, fun a ha b hb => by
              rw [List.mem_singleton.mp hb]
              rintro rfl
              exact c ha⟩
          · rcases List.mem_append.mp hz with hz | hz
            · exact hw z hz
            · rw [List.mem_singleton.mp hz]
              exact wy
    · rintro σ H' ⟨xs, v6, v7, rfl, li, nd, hw, sx, hd, pa'⟩
      exact ⟨_, rfl, k H' D xs (by simpa using li) nd hw sx nD hd nDp (pa'.less (by omega))⟩
end
end Wd
end
section
set_option maxRecDepth 100000
set_option maxHeartbeats 4000000
namespace Wd
open PySem PySem.Spec PyProof.Rows L2
/-! ### the order of texts -/
def Lt (a b : Str) : Prop := a.cps.toList < b.cps.toList
instance (a b : Str) : Decidable (Lt a b) := inferInstanceAs (Decidable (a.cps.toList < b.cps.toList))
theorem Lt.irr (a : Str) : ¬ Lt a a := List.lt_irrefl _
theorem Lt.tr {a b c : Str} (h : Lt a b) (k : Lt b c) : Lt a c := List.lt_trans h k
theorem str_eq {a b : Str} (h : a.cps.toList = b.cps.toList) : a = b := by
  cases a
  cases b
  exact congrArg Str.mk (Array.toList_inj.mp h)
theorem Lt.tri (a b : Str) : Lt a b ∨ a = b ∨ Lt b a := by
  by_cases h : Lt a b
  · exact .inl h
  · by_cases k : Lt b a
    · exact .inr (.inr k)
    · exact .inr (.inl (str_eq (List.le_antisymm k h)))
/-- strictly ascending -/
def Asc (xs : List Str) : Prop := xs.Pairwise Lt
theorem asc_of_rising : ∀ (p : Str) (l : List Str), risingS p l = true → (p :: l).Nodup → (p :: l).Pairwise Lt
  | p, [], _, _ => List.pairwise_singleton _ _
  | p, x :: r, h, nd => by
    have h' : (!ltCps x.cps.toList p.cps.toList && risingS x r) = true := h
    rw [Bool.and_eq_true] at h'
    obtain ⟨n1, n2⟩ := List.nodup_cons.mp nd
    have ih := asc_of_rising x r h'.2 n2
    have px : Lt p x := by
      have a : ¬ Lt x p := fun z => by
        have e : ltCps x.cps.toList p.cps.toList = true := by
          rw [ltCps_eq]
          exact decide_eq_true z
        rw [e] at h'
        cases h'.1
      rcases Lt.tri p x with z | z | z
      · exact z
      · exact absurd (by rw [z]; exact List.mem_cons_self) n1
      · exact absurd z a
    refine List.pairwise_cons.mpr ⟨fun y hy => ?_, ih⟩
    rcases List.mem_cons.mp hy with e | hy
    · rw [e]
      exact px
    · exact px.tr ((List.pairwise_cons.mp ih).1 y hy)
theorem asc_of_sorted {l : List Str} (h : sortedS l = true) (nd : l.Nodup) : Asc l := by
  cases l with
  | nil => exact List.Pairwise.nil
  | cons p r => exact asc_of_rising p r h nd
end Wd
end
section
set_option maxRecDepth 100000
set_option maxHeartbeats 4000000
namespace Wd
open PySem L2
theorem cutV_lo (xs : List V) (k : Nat) : cutV xs none (some (k : Int)) = xs.take k := by
  have e0 : HT.sIx xs.length 0 none = 0 := rfl
  unfold cutV
  rw [sIx_n, e0, List.drop_zero, Nat.sub_zero, ← List.take_take, List.take_length]
theorem cutV_hi (xs : List V) (k : Nat) : cutV xs (some (k : Int)) none = xs.drop k := by
  have e0 : HT.sIx xs.length xs.length none = xs.length := rfl
  unfold cutV
  rw [sIx_n, e0]
  by_cases h : k ≤ xs.length
  · rw [Nat.min_eq_left h, List.take_of_length_le (by rw [List.length_drop]; exact Nat.le_refl _)]
  · rw [Nat.min_eq_right (by omega), Nat.sub_self, List.take_zero, List.drop_eq_nil_of_le (by omega)]
def exL : List Str := ["put", "take", "deed", "wish", "leave", "come", "even", "odd", "part"]
theorem exL_ok : exL.Nodup ∧ (exL.all fun z => decide (1 ≤ z.cps.toList.length) && decide (z.cps.toList.length ≤ 8) && z.cps.toList.all fun c => decide (97 ≤ c) && decide (c ≤ 122)) = true := by decide +kernel
theorem exL_w : ∀ z ∈ exL, IsW z := fun z hz => by
  have q := List.all_eq_true.mp exL_ok.2 z hz
  rw [Bool.and_eq_true, Bool.and_eq_true] at q
  refine ⟨of_decide_eq_true q.1.1, of_decide_eq_true q.1.2, fun c hc => ?_⟩
  have r := List.all_eq_true.mp q.2 c hc
  simpa using r
/-- the people, mixed with the extra words -/
def mixW (ys xs : List Str) (many : Nat) : List Str := (ys.take 2 ++ xs.filter (fun z => decide (z ∉ exL)) ++ ys.drop 2).take many
theorem mixW_ok {ys xs : List Str} {many : Nat} (pm : ys.Perm exL) (nd : xs.Nodup) (hw : ∀ x ∈ xs, IsW x) (hm : many ≤ 9) : (mixW ys xs many).length = many ∧ (mixW ys xs many).Nodup ∧ ∀ z ∈ mixW ys xs many, IsW z := by
  have l9 : ys.length = 9 := pm.length_eq
  have pmm : (ys.take 2 ++ xs.filter (fun z => decide (z ∉ exL)) ++ ys.drop 2).Perm (ys ++ xs.filter (fun z => decide (z ∉ exL))) := by
    have a : (ys.take 2 ++ xs.filter (fun z => decide (z ∉ exL)) ++ ys.drop 2).Perm (ys.take 2 ++ (ys.drop 2 ++ xs.filter (fun z => decide (z ∉ exL)))) := by
      rw [List.append_assoc]
      exact List.Perm.append_left _ List.perm_append_comm
    rw [← List.append_assoc, List.take_append_drop] at a
    exact a
  have all : ∀ z ∈ mixW ys xs many, z ∈ ys ++ xs.filter (fun z => decide (z ∉ exL)) := fun z hz => pmm.mem_iff.mp (List.mem_of_mem_take hz)
  refine ⟨?_, ?_, fun z hz => ?_⟩
  · unfold mixW
    rw [List.length_take, pmm.length_eq, List.length_append]
    omega
  · refine List.Nodup.sublist (List.take_sublist _ _) (pmm.nodup_iff.mpr ?_)
    rw [List.nodup_append]
    refine ⟨pm.nodup_iff.mpr exL_ok.1, nd.filter _, fun a ha b hb => ?_⟩
    rintro rfl
    have h2 := (List.mem_filter.mp hb).2
    exact of_decide_eq_true h2 (pm.mem_iff.mp ha)
  · rcases List.mem_append.mp (all z hz) with h | h
    · exact exL_w z (pm.mem_iff.mp h)
    · exact hw z (List.mem_filter.mp h).1
def spPeople : Sp := fun vs H Q _ => ∃ (p : Addr) (many : Nat) (c : Int) (n : Nat), vs = [.ref p, .int many] ∧ PurseAt H p c (n + 300) ∧ many ≤ 9 ∧
  ∀ (H' : Hp) (D : Addr) (xs : List Str), xs.length = many → Asc xs → (∀ x ∈ xs, IsW x) → SameX p H H' → H D = none → H' D = some (.lst (xs.map V.str)) → D ≠ p → PurseAt H' p c n → Q (.ref D) H'
section
variable {P : Program} {w : World} {K : PySem.W.Frag} {mg : Str → Option Value} {base : Heap}
set_option maxHeartbeats 1000000 in
theorem ok_people {f : Addr} {fd : FuncData} (F : Fun K "_law_people" "_law_people" s_people f fd) (T : Bt mg) (CD : Has P w K mg base 2 "_law_draw" ["_law_purse_here", "_law_many"] spDraw)
    (CW : Has P w K mg base 4 "_law_words" ["_law_purse_here", "_law_many"] spWords) (CS : Has P w K mg base 3 "_law_shuffled" ["_law_purse_here", "_law_some"] spShuffled) :
    FnOk P w K mg base CX0 5 f fd ["_law_purse_here", "_law_many"] spPeople := by
  obtain ⟨fD, fdD, GD, mD, kD, bD⟩ := CD
  obtain ⟨fW, fdW, GW, mW, kW, bW⟩ := CW
  obtain ⟨fS, fdS, GS, mS, kS, bS⟩ := CS
  refine F.ok c_people (fun vs H Q E h => ?_) (fun cdv A outer s H vs Q E hr h => ?_)
  · obtain ⟨_, _, _, _, rfl, _⟩ := h
    rfl
  · obtain ⟨p, many, c, n, rfl, pa, hm, k⟩ := h
    have hr2 : Room 2 _ := hr.mono (by decide)
    have hr3 : Room 3 _ := hr.mono (by decide)
    have hr4 : Room 4 _ := hr.mono (by decide)
    refine ⟨_, pss_cons (ps_set (i := 2) c_people.nd rfl (Or.inl rfl) (pe_call GW hr4 rfl mW kW bW .nil pass0 (pa_cons (pv 0) (pa_cons (pv 1) pa_nil))))
      (pss_cons (ps_if (pt_cmpR op_eq (pe_call GD hr2 rfl mD kD bD .nil pass0 (pa_cons (pv 0) (pa_cons pe_int pa_nil))) pe_int (nomark _))
        (pss_cons (ps_set (i := 3) c_people.nd rfl (Or.inr rfl) (pe_lst (pa_cons pe_str (pa_cons pe_str (pa_cons pe_str (pa_cons pe_str (pa_cons pe_str (pa_cons pe_str (pa_cons pe_str (pa_cons pe_str (pa_cons pe_str pa_nil)))))))))))
        (pss_cons (ps_set (i := 4) c_people.nd rfl (Or.inl rfl) (pe_call GS hr3 rfl mS kS bS .nil pass0 (pa_cons (pv 0) (pa_cons (pv 3) pa_nil))))
        (pss_one (ps_set (i := 2) c_people.nd rfl (Or.inl rfl) (pe_slice sl_list
          (pe_op op_cat (pe_op op_cat (pe_slice sl_list (pv 4) po_none (po_some pe_int))
            (pe_lc (own := [("_law_word_here", 5)]) (g := gName 5) rfl c_people.nd (pi_list (pv 2))
              (blkOk_by (N := ["_law_purse_here", "_law_many", "_law_words_here", "_law_extra", "_law_mixed_here", "_law_word_here"]) (sc := defScope s_people) (by decide +kernel)) (fun _ _ _ _ _ => pg_name (i := 5) c_people.nd rfl (Or.inl rfl))
              (fun _ _ _ _ _ => pts_one (pt_cmpR (r := rIn K true) op_notIn_seq (pv 5) (pv 3) rfl)) (fun _ _ _ _ _ => pv 5)))
            (pe_slice sl_list (pv 4) (po_some pe_int) po_none)) po_none (po_some (pv 1))))))) pss_nil)
      (pss_one (ps_ret (pe_callB cr_sortedS (by rfl) T.sorted (by decide +kernel) (pa_cons (pv 2) pa_nil))))), ?_⟩
    refine ⟨_, rfl, _, rfl, p, many, c, n + 100, rfl, pa, hm, fun H1 D xs lx nd hw sx1 nD hd1 nDp pa1 => ?_⟩
    have fin : ∀ (H4 : Hp) (Z : Addr) (zs : List Str), zs.length = many → zs.Nodup → (∀ z ∈ zs, IsW z) → SameX p H H4 → H4 Z = some (.lst (zs.map V.str)) → PurseAt H4 p c n → rSortedS K [V.ref Z] H4 Q := fun H4 Z zs lz ndz hwz sxz hz paz => by
      refine ⟨Z, zs, rfl, SqL.of hz, by omega, fun ys R pm so hR => ?_⟩
      have nRp := purse_none paz hR
      exact k _ R ys (by rw [pm.length_eq, lz]) (asc_of_sorted so (pm.nodup_iff.mpr ndz)) (fun y hy => hwz y (pm.mem_iff.mp hy)) (sxz.updN (sxz.none hR nRp)) (sxz.none hR nRp) upd_same nRp (paz.upd nRp)
    refine ⟨_, rfl, p, _, c, n + 99, rfl, pa1, by decide, by decide, fun H2 r r0 r1 sx2 pa2 => ⟨rfl, _, rfl, ?_⟩⟩
    have hd2 := sx2 D _ nDp hd1
    refine ite2 (fun _ => ?_) (fun _ => ?_)
    · refine ⟨by show 9 ≤ sizeLine; decide, fun E1 hE => ?_⟩
      have nE := purse_none pa2 hE
      have DE : D ≠ E1 := ne_of_none hd2 hE
      refine ⟨_, rfl, _, rfl, p, E1, exL.map V.str, c, n + 20, rfl, (pa2.upd nE).less (by show n + 20 + 9 ≤ _; omega), upd_same, nE, by decide, fun H3 M ys pm sx3 nM hm3 nMp pa3 => ?_⟩
      obtain ⟨ws, pw, ew⟩ := perm_lift V.str pm exL rfl
      subst ew
      have hd3 : H3 D = some (.lst (xs.map V.str)) := sx3 D _ nDp (by rw [upd_ne DE]; exact hd2)
      have he3 : H3 E1 = some (.lst (exL.map V.str)) := sx3 E1 _ nE upd_same
      have sx03 : SameX p H H3 := ((sx1.trans sx2).updN ((sx1.trans sx2).none hE nE)).trans sx3
      have two : (2 : Int) = ((2 : Nat) : Int) := rfl
      refine ⟨_, rfl, _, rfl, M, ws.map V.str, rfl, SqL.of hm3, fun A1 hA1 => ⟨_, rfl, D, rfl, ⟨_, SqL.of (by rw [upd_ne (ne_of_none hd3 hA1)]; exact hd3)⟩, fun L hL => ?_⟩⟩
      have MA : M ≠ A1 := ne_of_none hm3 hA1
      have DA : D ≠ A1 := ne_of_none hd3 hA1
      have EA : E1 ≠ A1 := ne_of_none he3 hA1
      have AL : A1 ≠ L := ne_of_none upd_same hL
      have hL3 : H3 L = none := by
        rw [upd_ne (Ne.symm AL)] at hL
        exact hL
      have ML : M ≠ L := ne_of_none hm3 hL3
      have DL : D ≠ L := ne_of_none hd3 hL3
      have EL : E1 ≠ L := ne_of_none he3 hL3
      refine lc_list (xs := xs.map V.str) (fun j H' => H' = upd (upd H3 A1 (.lst (cutV (ws.map V.str) none (some 2)))) L (.lst (((xs.take j).filter fun z => decide (z ∉ exL)).map V.str))) rfl (fun j H' _ e => ?_) ?_ ?_
      · rw [e]
        exact SqL.of (by rw [upd_ne DL, upd_ne DA]; exact hd3)
      · rintro j v H' hv rfl
        rw [List.getElem?_map] at hv
        obtain ⟨z, hz, rfl⟩ := Option.map_eq_some_iff.mp hv
        refine ⟨rfl, _, rfl, _, rfl, E1, _, rfl, .inl (SqL.of (by rw [upd_ne EL, upd_ne EA]; exact he3)), rfl, flat_strs' exL, _, rfl, ?_⟩
        rw [if_pos rfl, in_strs]
        have nx : (xs.take (j + 1)).filter (fun z => decide (z ∉ exL)) = (xs.take j).filter (fun z => decide (z ∉ exL)) ++ (if z ∈ exL then [] else [z]) := by
          rw [take_next hz, List.filter_append]
          by_cases c : z ∈ exL <;> simp [c]
        refine ite2 (fun hb => ?_) (fun hb => ?_)
        · have c : z ∉ exL := by simpa using hb
          refine ⟨_, rfl, _, upd_same, by rw [List.length_map, sizeLine_eq]; have h1 := List.length_filter_le (fun z => decide (z ∉ exL)) (xs.take j); rw [List.length_take] at h1; omega, ?_⟩
          show upd _ _ _ = upd _ _ _
          rw [upd_upd, nx, if_neg c, List.map_append]
          rfl
        · have c : z ∈ exL := by simpa using hb
          show upd _ _ _ = upd _ _ _
          rw [nx, if_pos c, List.append_nil]
      · rintro H' rfl
        rw [show (xs.map V.str).length = xs.length by simp, List.take_length, show (some 2 : Option Int) = some ((2 : Nat) : Int) from rfl, cutV_lo, ← List.map_take]
        have l1 : (ws.take 2).length ≤ 2 := List.length_take_le 2 ws
        have l2 := List.length_filter_le (fun z => decide (z ∉ exL)) xs
        have l9 : ws.length = 9 := pw.length_eq
        refine ⟨A1, L, _, _, rfl, rfl, by rw [upd_ne AL, upd_same], upd_same, by rw [List.length_map, List.length_map, sizeLine_eq]; omega, fun B hB => ?_⟩
        have nB : H3 B = none := by
          have x1 : L ≠ B := ne_of_none upd_same hB
          rw [upd_ne (Ne.symm x1)] at hB
          have x2 : A1 ≠ B := ne_of_none upd_same hB
          rw [upd_ne (Ne.symm x2)] at hB
          exact hB
        have MB : M ≠ B := ne_of_none hm3 nB
        have hm5 : upd (upd (upd H3 A1 (.lst ((ws.take 2).map V.str))) L (.lst ((xs.filter fun z => decide (z ∉ exL)).map V.str))) B (.lst ((ws.take 2).map V.str ++ (xs.filter fun z => decide (z ∉ exL)).map V.str)) M = some (.lst (ws.map V.str)) := by rw [upd_ne MB, upd_ne ML, upd_ne MA]; exact hm3
        have sx5 : SameX p H (upd (upd (upd H3 A1 (.lst ((ws.take 2).map V.str))) L (.lst ((xs.filter fun z => decide (z ∉ exL)).map V.str))) B (.lst ((ws.take 2).map V.str ++ (xs.filter fun z => decide (z ∉ exL)).map V.str))) :=
          ((sx03.updN (sx03.none hA1 (purse_none pa3 hA1))).updN (sx03.none hL3 (purse_none pa3 hL3))).updN (sx03.none nB (purse_none pa3 nB))
        have pa5 := ((pa3.upd (o := .lst ((ws.take 2).map V.str)) (purse_none pa3 hA1)).upd (o := .lst ((xs.filter fun z => decide (z ∉ exL)).map V.str)) (purse_none pa3 hL3)).upd (o := .lst ((ws.take 2).map V.str ++ (xs.filter fun z => decide (z ∉ exL)).map V.str)) (purse_none pa3 nB)
        have hb5 : upd (upd (upd H3 A1 (.lst ((ws.take 2).map V.str))) L (.lst ((xs.filter fun z => decide (z ∉ exL)).map V.str))) B (.lst ((ws.take 2).map V.str ++ (xs.filter fun z => decide (z ∉ exL)).map V.str)) B = some (.lst ((ws.take 2 ++ xs.filter fun z => decide (z ∉ exL)).map V.str)) := by rw [upd_same, List.map_append]
        generalize upd (upd (upd H3 A1 (.lst ((ws.take 2).map V.str))) L (.lst ((xs.filter fun z => decide (z ∉ exL)).map V.str))) B (.lst ((ws.take 2).map V.str ++ (xs.filter fun z => decide (z ∉ exL)).map V.str)) = H5 at hm5 sx5 pa5 hb5 ⊢
        refine ⟨_, rfl, _, rfl, M, _, rfl, SqL.of hm5, fun A2 hA2 => ?_⟩
        rw [show (some 2 : Option Int) = some ((2 : Nat) : Int) from rfl, cutV_hi, ← List.map_drop]
        have BA : B ≠ A2 := ne_of_none hb5 hA2
        have l3 : (ws.drop 2).length ≤ 9 := by rw [List.length_drop]; omega
        refine ⟨B, A2, _, _, rfl, rfl, by rw [upd_ne BA]; exact hb5, upd_same, by rw [List.length_map, List.length_map, List.length_append, sizeLine_eq]; omega, fun C hC => ?_⟩
        have nC : H5 C = none := by
          have x1 : A2 ≠ C := ne_of_none upd_same hC
          rw [upd_ne (Ne.symm x1)] at hC
          exact hC
        rw [← List.map_append]
        refine ⟨_, rfl, _, rfl, C, _, rfl, SqL.of upd_same, fun Z hZ => ?_⟩
        have nZ : H5 Z = none := by
          have x0 : C ≠ Z := ne_of_none upd_same hZ
          rw [upd_ne (Ne.symm x0)] at hZ
          have x1 : A2 ≠ Z := ne_of_none upd_same hZ
          rw [upd_ne (Ne.symm x1)] at hZ
          exact hZ
        obtain ⟨m1, m2, m3⟩ := mixW_ok pw nd hw hm
        have sx6 := ((sx5.updN (o := .lst ((ws.drop 2).map V.str)) (sx5.none hA2 (purse_none pa5 hA2))).updN (o := .lst ((ws.take 2 ++ (xs.filter fun z => decide (z ∉ exL)) ++ ws.drop 2).map V.str)) (sx5.none nC (purse_none pa5 nC))).updN (o := .lst ((mixW ws xs many).map V.str)) (sx5.none nZ (purse_none pa5 nZ))
        have pa6 := ((pa5.upd (o := .lst ((ws.drop 2).map V.str)) (purse_none pa5 hA2)).upd (o := .lst ((ws.take 2 ++ (xs.filter fun z => decide (z ∉ exL)) ++ ws.drop 2).map V.str)) (purse_none pa5 nC)).upd (o := .lst ((mixW ws xs many).map V.str)) (purse_none pa5 nZ)
        have ez : cutV ((ws.take 2 ++ (xs.filter fun z => decide (z ∉ exL)) ++ ws.drop 2).map V.str) none (some (many : Int)) = (mixW ws xs many).map V.str := by
          rw [cutV_lo, ← List.map_take]
          rfl
        rw [ez]
        exact ⟨_, rfl, fin _ Z (mixW ws xs many) m1 m2 m3 sx6 upd_same (pa6.less (by omega))⟩
    · exact ⟨_, rfl, fin H2 D xs lx nd hw (sx1.trans sx2) hd2 (pa2.less (by omega))⟩
end
end Wd
end
section
set_option maxRecDepth 100000
set_option maxHeartbeats 4000000
namespace Wd
open PySem L2
/-- two texts in their order -/
def mk (a b : Str) : Str × Str := if Lt a b then (a, b) else (b, a)
def spPair : Sp := fun vs H Q _ => ∃ a b : Str, vs = [.str a, .str b] ∧ ∀ T, H T = none → Q (.ref T) (upd H T (.tup [.str (mk a b).1, .str (mk a b).2]))
/-- all twos of a list, in their order -/
def prs : List V → List (V × V)
  | [] => []
  | x :: r => r.map (fun y => (x, y)) ++ prs r
theorem prs_len : ∀ xs : List V, (prs xs).length ≤ xs.length * xs.length
  | [] => Nat.le_refl _
  | x :: r => by
    have h := prs_len r
    show (r.map (fun y => (x, y)) ++ prs r).length ≤ _
    rw [List.length_append, List.length_map, List.length_cons]
    have e : (r.length + 1) * (r.length + 1) = r.length * r.length + r.length + (r.length + 1) := by
      rw [Nat.add_mul, Nat.one_mul, Nat.mul_add, Nat.mul_one]
    omega
/-- the tuples at Ts hold the twos ps -/
def Tups (H : Hp) (Ts : List Addr) (ps : List (V × V)) : Prop := Ts.length = ps.length ∧ ∀ (k : Nat) T p, Ts[k]? = some T → ps[k]? = some p → H T = some (.tup [p.1, p.2])
theorem Tups.nil {H : Hp} : Tups H [] [] := ⟨rfl, fun k T p h => by simp at h⟩
theorem Tups.keep {H H' : Hp} {Ts : List Addr} {ps : List (V × V)} (t : Tups H Ts ps) (k : ∀ T o, T ∈ Ts → H T = some o → H' T = some o) : Tups H' Ts ps :=
  ⟨t.1, fun j T p h1 h2 => k T _ (List.mem_of_getElem? h1) (t.2 j T p h1 h2)⟩
theorem Tups.same {H H' : Hp} {Ts : List Addr} {ps : List (V × V)} (t : Tups H Ts ps) (s : Same H H') : Tups H' Ts ps := t.keep fun T o _ e => s T o e
theorem Tups.at {H : Hp} {Ts : List Addr} {ps : List (V × V)} (t : Tups H Ts ps) {T : Addr} (h : T ∈ Ts) : ∃ p, p ∈ ps ∧ H T = some (.tup [p.1, p.2]) := by
  obtain ⟨j, hj, e⟩ := List.getElem_of_mem h
  have h1 : Ts[j]? = some T := by rw [List.getElem?_eq_getElem hj, e]
  have hp : j < ps.length := by rw [← t.1]; exact hj
  exact ⟨ps[j], List.getElem_mem hp, t.2 j T _ h1 (List.getElem?_eq_getElem hp)⟩
theorem Tups.append {H : Hp} {Ts Us : List Addr} {ps qs : List (V × V)} (t : Tups H Ts ps) (u : Tups H Us qs) : Tups H (Ts ++ Us) (ps ++ qs) := by
  refine ⟨by rw [List.length_append, List.length_append, t.1, u.1], fun k T p h1 h2 => ?_⟩
  by_cases c : k < Ts.length
  · rw [List.getElem?_append_left c] at h1
    rw [List.getElem?_append_left (by rw [← t.1]; exact c)] at h2
    exact t.2 k T p h1 h2
  · rw [List.getElem?_append_right (by omega)] at h1
    rw [List.getElem?_append_right (by rw [← t.1]; omega), ← t.1] at h2
    exact u.2 _ T p h1 h2
theorem Tups.snoc {H : Hp} {Ts : List Addr} {ps : List (V × V)} (t : Tups H Ts ps) {T : Addr} {p : V × V} (h : H T = some (.tup [p.1, p.2])) : Tups H (Ts ++ [T]) (ps ++ [p]) := by
  refine t.append ⟨rfl, fun k U q h1 h2 => ?_⟩
  cases k with
  | zero =>
    obtain rfl : T = U := by simpa using h1
    obtain rfl : p = q := by simpa using h2
    exact h
  | succ k => simp at h1
theorem Tups.ne {H : Hp} {Ts : List Addr} {ps : List (V × V)} (t : Tups H Ts ps) {a : Addr} (h : ∀ x y, H a ≠ some (.tup [x, y])) : ∀ T ∈ Ts, T ≠ a := fun T hT e => by
  obtain ⟨p, _, q⟩ := t.at hT
  rw [e] at q
  exact h _ _ q
/-- a list of tuples of two stands at l -/
def PrsAt (H : Hp) (l : Addr) (ps : List (V × V)) : Prop := ∃ Ts : List Addr, H l = some (.lst (Ts.map V.ref)) ∧ Tups H Ts ps
def spPairs : Sp := fun vs H Q _ => ∃ (l : Addr) (xs : List V), vs = [.ref l] ∧ H l = some (.lst xs) ∧ xs.length ≤ 50 ∧
  ∀ (H' : Hp) (D : Addr), Same H H' → H D = none → PrsAt H' D (prs xs) → Q (.ref D) H'
section
variable {P : Program} {w : World} {K : PySem.W.Frag} {mg : Str → Option Value} {base : Heap}
theorem ok_pair {f : Addr} {fd : FuncData} (F : Fun K "_law_pair" "_law_pair" s_pair f fd) : FnOk P w K mg base CX0 1 f fd ["_law_first", "_law_second"] spPair := by
  refine F.ok c_pair (fun vs H Q E h => ?_) (fun cdv A outer s H vs Q E hr h => ?_)
  · obtain ⟨_, _, rfl, _⟩ := h
    rfl
  · obtain ⟨a, b, rfl, k⟩ := h
    refine ⟨_, pss_one (ps_ret (pe_ifExp (pt_cmpR op_lt_str (pv 0) (pv 1) (nomark _)) (pe_tup (pa_cons (pv 0) (pa_cons (pv 1) pa_nil))) (pe_tup (pa_cons (pv 1) (pa_cons (pv 0) pa_nil))))), ?_⟩
    refine ⟨_, rfl, _, rfl, _, _, rfl, rfl, _, rfl, ?_⟩
    refine ite2 (fun hb => ?_) (fun hb => ?_)
    · have c : Lt a b := of_decide_eq_true hb
      refine ⟨_, rfl, _, rfl, by show 2 ≤ sizeLine; decide, fun T hT => ?_⟩
      have q := k T hT
      unfold mk at q
      rw [if_pos c] at q
      exact q
    · have c : ¬ Lt a b := fun z => hb (decide_eq_true z)
      refine ⟨_, rfl, _, rfl, by show 2 ≤ sizeLine; decide, fun T hT => ?_⟩
      have q := k T hT
      unfold mk at q
      rw [if_neg c] at q
      exact q
theorem prs_take (xs : List V) (i : Nat) (x : V) (h : xs[i]? = some x) : prs xs = (prs xs).take ((prs xs).length - (prs (xs.drop i)).length) ++ prs (xs.drop i) ∧ prs (xs.drop i) = (xs.drop (i + 1)).map (fun y => (x, y)) ++ prs (xs.drop (i + 1)) := by
  have hd : xs.drop i = x :: xs.drop (i + 1) := by
    have lt := (List.getElem?_eq_some_iff.mp h).1
    rw [List.drop_eq_getElem_cons lt, (List.getElem?_eq_some_iff.mp h).2]
  refine ⟨?_, by rw [hd]; rfl⟩
  have suf : ∀ (l : List V) (j : Nat), ∃ r, prs l = r ++ prs (l.drop j) := by
    intro l
    induction l with
    | nil => exact fun j => ⟨[], by rw [List.drop_nil]; rfl⟩
    | cons y l ih =>
      intro j
      cases j with
      | zero => exact ⟨[], rfl⟩
      | succ j =>
        obtain ⟨r, e⟩ := ih j
        exact ⟨l.map (fun z => (y, z)) ++ r, by
          show l.map (fun z => (y, z)) ++ prs l = _
          rw [e, List.append_assoc]
          rfl⟩
  obtain ⟨r, e⟩ := suf xs i
  rw [e]
  have : (r ++ prs (xs.drop i)).length - (prs (xs.drop i)).length = r.length := by rw [List.length_append]; omega
  rw [this, List.take_left']
  rfl
set_option maxHeartbeats 1000000 in
theorem ok_pairs {f : Addr} {fd : FuncData} (F : Fun K "_law_pairs" "_law_pairs" s_pairs f fd) (T : Bt mg) : FnOk P w K mg base CX0 1 f fd ["_law_crowd"] spPairs := by
  refine F.ok c_pairs (fun vs H Q E h => ?_) (fun cdv A outer s H vs Q E hr h => ?_)
  · obtain ⟨_, _, rfl, _⟩ := h
    rfl
  · obtain ⟨l, xs, rfl, hl, few, k⟩ := h
    have pl := prs_len xs
    have sq : xs.length * xs.length ≤ 50 * 50 := Nat.mul_le_mul few few
    refine ⟨_, pss_cons (ps_set (i := 1) c_pairs.nd rfl (Or.inl rfl) (pe_lst pa_nil))
      (pss_cons (ps_for PassesOwn.never rfl (pi_range1 rfl T.range (pa_cons (pe_callB call_len_seq (by rfl) T.len PySem.boot_len (pa_cons (pv 0) pa_nil)) pa_nil)) (pg_name (i := 2) c_pairs.nd rfl (Or.inr rfl))
        (pss_one (ps_set (i := 1) c_pairs.nd rfl (Or.inl rfl) (pe_op op_cat (pv 1) (pe_lc (own := [("_law_late", 3)]) (g := gName 3) (tt := tYes) rfl c_pairs.nd (pi_list (pe_slice sl_list (pv 0) (po_some (pe_op op_add (pv 2) pe_int)) po_none))
          (blkOk_by (N := ["_law_crowd", "_law_found", "_law_at", "_law_late"]) (sc := defScope s_pairs) (by decide +kernel)) (fun _ _ _ _ _ => pg_name (i := 3) c_pairs.nd rfl (Or.inl rfl)) (fun _ _ _ _ _ => pts_nil)
          (fun _ _ _ _ _ => pe_tup (pa_cons (pe_ix (r := rIxL K) ix_list (pv 0) (pv 2) (fun _ _ => rfl)) (pa_cons (pv 3) pa_nil)))))))) 
      (pss_one (ps_ret (pv 1)))), ?_⟩
    refine ⟨Nat.zero_le _, fun D0 hD0 => ?_⟩
    have lD0 : l ≠ D0 := ne_of_none hl hD0
    refine ⟨_, rfl, l, _, rfl, .inl (SqL.of (by rw [upd_ne lD0]; exact hl)), (xs.length : Int), rfl, by omega, by omega, ?_⟩
    refine for_range (lo := 0) (n := (xs.length : Int).toNat) (fun i σ H' => ∃ (D : Addr) (Ts : List Addr) (v2 : Option V) (qs : List (V × V)), σ = [some (.ref l), some (.ref D), v2, none] ∧ Same H H' ∧ H D = none ∧ H' D = some (.lst (Ts.map V.ref)) ∧ Tups H' Ts qs ∧ prs xs = qs ++ prs (xs.drop i))
      ⟨D0, [], none, [], rfl, same_new hD0, hD0, upd_same, Tups.nil, rfl⟩ ?_ ?_
    · rintro i σ H' hi ⟨D, Ts, v2, qs, rfl, s5, nD, hd, tu, eq⟩
      have il : i < xs.length := by omega
      have hx : xs[i]? = some xs[i] := List.getElem?_eq_getElem il
      generalize xs[i] = x at hx
      have row := (prs_take xs i x hx).2
      have hl5 := s5 _ _ hl
      rw [Int.zero_add]
      have ei : (i : Int) + 1 = ((i + 1 : Nat) : Int) := by omega
      refine ⟨_, rfl, _, rfl, _, rfl, _, _, rfl, rfl, _, rfl, l, xs, rfl, SqL.of hl5, fun S hS => ⟨S, rfl, ⟨_, SqL.of upd_same⟩, fun C hC => ?_⟩⟩
      rw [ei, cutV_hi] at hC ⊢
      have hC5 : H' C = none := by
        have x1 : S ≠ C := ne_of_none upd_same hC
        rw [upd_ne (Ne.symm x1)] at hC
        exact hC
      refine lc_list (xs := xs.drop (i + 1)) (fun j H2 => ∃ Us : List Addr, H2 C = some (.lst (Us.map V.ref)) ∧ Same (upd H' S (.lst (xs.drop (i + 1)))) H2 ∧ Tups H2 Us (((xs.drop (i + 1)).take j).map fun y => (x, y)))
        ⟨[], upd_same, same_new hC, Tups.nil⟩ (fun j H2 _ ⟨Us, _, s6, _⟩ => SqL.of (s6 _ _ upd_same)) ?_ ?_
      · rintro j y H2 hy ⟨Us, hu, s6, tu2⟩
        have jl := (List.getElem?_eq_some_iff.mp hy).1
        rw [List.length_drop] at jl
        have hl6 : H2 l = some (.lst xs) := s6 _ _ (by rw [upd_ne (ne_of_none hl5 hS)]; exact hl5)
        refine ⟨rfl, ?_⟩
        refine ⟨_, rfl, _, rfl, l, xs, _, x, rfl, rfl, SqL.of hl6, atI_nat hx, _, rfl, by show 2 ≤ sizeLine; decide, fun Z hZ => ?_⟩
        have CZ : C ≠ Z := ne_of_none hu hZ
        have lu : Us.length ≤ 50 := by
          rw [tu2.1, List.length_map, List.length_take, List.length_drop]
          omega
        have cne : ∀ T ∈ Us, T ≠ C := tu2.ne fun a b e => by
          rw [hu] at e
          cases e
        refine ⟨_, by rw [upd_ne CZ]; exact hu, by rw [List.length_map, sizeLine_eq]; omega, Us ++ [Z], by rw [upd_same]; simp, fun b o e => ?_, ?_⟩
        · have bC : b ≠ C := ne_of_none e hC
          have e2 := s6 _ _ e
          rw [upd_ne bC, upd_ne (ne_of_none e2 hZ)]
          exact e2
        · rw [take_next hy, List.map_append]
          have t3 : Tups (upd (upd H2 Z (.tup [x, y])) C (.lst (Us.map V.ref ++ [V.ref Z]))) Us (((xs.drop (i + 1)).take j).map fun y => (x, y)) :=
            tu2.keep fun T o hT e => by
              rw [upd_ne (cne T hT), upd_ne (ne_of_none e hZ)]
              exact e
          exact t3.snoc (p := (x, y)) (by rw [upd_ne (Ne.symm CZ), upd_same])
      · rintro H2 ⟨Us, hu, s6, tu2⟩
        rw [List.take_length] at tu2
        have s7 : Same H' H2 := fun b o e => s6 b o (by rw [upd_ne (ne_of_none e hS)]; exact e)
        have hd7 := s7 _ _ hd
        have lt1 := congrArg List.length eq
        rw [List.length_append, row, List.length_append, List.length_map] at lt1
        have lu : Us.length = (xs.drop (i + 1)).length := by rw [tu2.1, List.length_map]
        refine ⟨D, C, _, _, rfl, rfl, hd7, hu, by rw [List.length_map, List.length_map, sizeLine_eq, tu.1, lu]; omega, fun Z hZ => ?_⟩
        have s8 : Same H' (upd H2 Z (.lst (Ts.map V.ref ++ Us.map V.ref))) := fun b o e => by
          have e2 := s7 _ _ e
          rw [upd_ne (ne_of_none e2 hZ)]
          exact e2
        have nZ : H Z = none := by
          cases e : H Z with
          | none => rfl
          | some o =>
            rw [s7 _ _ (s5 _ _ e)] at hZ
            cases hZ
        refine ⟨Z, Ts ++ Us, some (.int (i : Int)), qs ++ (xs.drop (i + 1)).map (fun y => (x, y)), rfl, s5.trans s8, nZ, by rw [upd_same, List.map_append], ?_, by rw [eq, row, List.append_assoc]⟩
        exact (tu.same s8).append (tu2.keep fun T o _ e => by
          rw [upd_ne (ne_of_none e hZ)]
          exact e)
    · rintro σ H' ⟨D, Ts, v2, qs, rfl, s5, nD, hd, tu, eq⟩
      have e0 : xs.drop (xs.length : Int).toNat = [] := by rw [Int.toNat_natCast, List.drop_length]
      rw [e0] at eq
      have e1 : prs xs = qs := by rw [eq]; exact List.append_nil qs
      exact ⟨_, rfl, k H' D s5 nD ⟨Ts, hd, by rw [e1]; exact tu⟩⟩
end
end Wd
end
section
set_option maxRecDepth 100000
set_option maxHeartbeats 4000000
namespace Kx
open PySem PySem.Spec PyProof.Rows L2
/-- dict(pairs), the keys tuples, none twice -/
def rDictT (K : PySem.W.Frag) : List V → Hp → VK → Prop := fun vs H Q => ∃ (a : Addr) (Us : List Addr) (kvs : List (List Key × Addr × V)), vs = [V.ref a] ∧ SqL K H a (Us.map V.ref) ∧ Us.length = kvs.length ∧
  (∀ (j : Nat) U q, Us[j]? = some U → kvs[j]? = some q → SqT K H U [.ref q.2.1, q.2.2] ∧ H q.2.1 = some (.tup (q.1.map kV))) ∧ (kvs.map fun q => q.1).Nodup ∧
  ∀ p, H p = none → Q (.ref p) (upd H p (.dT (kvs.map fun q => (q.1, q.2.2))))
theorem stored_new {K : Type} [DecidableEq K] : ∀ (ps acc : List (K × Addr × Value)), ((acc ++ ps).map fun q => q.1).Nodup → storedAllH acc ps = acc ++ ps
  | [], acc, _ => by rw [List.append_nil]; rfl
  | p :: ps, acc, nd => by
    have e : acc ++ p :: ps = (acc ++ [p]) ++ ps := by simp
    show storedAllH (storedH acc p.1 p.2.1 p.2.2) ps = _
    have no : atKey acc p.1 = none := atKey_none_of_get fun j q hq => by
      rw [List.map_append, List.map_cons, List.nodup_append] at nd
      exact nd.2.2 p.1 (List.mem_map.mpr ⟨_, List.mem_of_getElem? hq, rfl⟩) p.1 List.mem_cons_self rfl
    rw [storedH_new no]
    rw [e] at nd ⊢
    exact stored_new ps _ nd
theorem cr_dictT {X : Cx} (hc : X.calm = true) (hu : X.A.units + 64 < cLine) : CallR X (.type "dict") (rDictT X.K) := by
  intro pins s σ H vs us Q I r h
  obtain ⟨a, Us, kvs, rfl, hs, hl, hq, nd, q⟩ := h
  obtain ⟨u, rfl, rx⟩ := vals1 r
  obtain rfl : u = Value.ref a := rx
  obtain ⟨its, rv, pl, hz⟩ := I.list hs
  have ei := refs_at rv
  subst ei
  rw [List.length_map] at hz
  -- the values of the items
  have item : ∀ (j : Nat) q, kvs[j]? = some q → ∃ U y, Us[j]? = some U ∧ IsTup s.heap U #[.ref q.2.1, y] ∧ RelV q.2.2 y := fun j q e => by
    have jl := (List.getElem?_eq_some_iff.mp e).1
    have hU : Us[j]? = some Us[j] := List.getElem?_eq_getElem (by omega)
    obtain ⟨h1, _⟩ := hq j _ q hU e
    obtain ⟨its2, rv2, hT, _⟩ := I.tuple h1
    obtain ⟨u1, y, rfl, r1, r2⟩ := vals2 rv2
    obtain rfl : u1 = Value.ref q.2.1 := r1
    exact ⟨_, y, hU, hT, r2⟩
  -- as a list of keys, places, values
  obtain ⟨ps, pl2, pp⟩ : ∃ ps : List (List Key × Addr × Value), ps.length = kvs.length ∧ ∀ (j : Nat) q, kvs[j]? = some q → ∃ U y, Us[j]? = some U ∧ ps[j]? = some (q.1, q.2.1, y) ∧ IsTup s.heap U #[.ref q.2.1, y] ∧ RelV q.2.2 y := by
    have key : ∀ n, n ≤ kvs.length → ∃ ps : List (List Key × Addr × Value), ps.length = n ∧ ∀ (j : Nat) q, j < n → kvs[j]? = some q → ∃ U y, Us[j]? = some U ∧ ps[j]? = some (q.1, q.2.1, y) ∧ IsTup s.heap U #[.ref q.2.1, y] ∧ RelV q.2.2 y := by
      intro n
      induction n with
      | zero => exact fun _ => ⟨[], rfl, fun j q h => absurd h (Nat.not_lt_zero _)⟩
      | succ n ih =>
        intro hn
        obtain ⟨ps, l1, h1⟩ := ih (by omega)
        have e := List.getElem?_eq_getElem (l := kvs) (i := n) hn
        obtain ⟨U, y, hU, hT, ry⟩ := item n _ e
        refine ⟨ps ++ [(kvs[n].1, kvs[n].2.1, y)], by rw [List.length_append, l1]; rfl, fun j q hj hjq => ?_⟩
        by_cases c : j < n
        · obtain ⟨U', y', a1, a2, a3⟩ := h1 j q c hjq
          exact ⟨U', y', a1, by rw [List.getElem?_append_left (by omega)]; exact a2, a3⟩
        · have ej : j = n := by omega
          subst ej
          rw [e] at hjq
          obtain rfl := Option.some.inj hjq
          exact ⟨U, y, hU, by rw [List.getElem?_append_right (by omega), l1, Nat.sub_self]; rfl, hT, ry⟩
    obtain ⟨ps, l1, h1⟩ := key kvs.length (Nat.le_refl _)
    exact ⟨ps, l1, fun j q e => h1 j q (List.getElem?_eq_some_iff.mp e).1 e⟩
  have kv : ∀ (j : Nat) p, ps[j]? = some p → ∃ q, kvs[j]? = some q ∧ p.1 = q.1 ∧ p.2.1 = q.2.1 ∧ ∃ U, Us[j]? = some U ∧ IsTup s.heap U #[.ref p.2.1, p.2.2] ∧ RelV q.2.2 p.2.2 := fun j p e => by
    have jl := (List.getElem?_eq_some_iff.mp e).1
    have eq := List.getElem?_eq_getElem (l := kvs) (i := j) (by omega)
    obtain ⟨U, y, a1, a2, a3, a4⟩ := pp j _ eq
    rw [e] at a2
    obtain rfl := Option.some.inj a2
    exact ⟨_, eq, rfl, rfl, U, a1, a3, a4⟩
  have keys : ps.map (fun q => q.1) = kvs.map fun q => q.1 := by
    apply List.ext_getElem? fun j => ?_
    rw [List.getElem?_map, List.getElem?_map]
    cases e : ps[j]? with
    | none =>
      have : kvs[j]? = none := List.getElem?_eq_none (by have := List.getElem?_eq_none_iff.mp e; omega)
      rw [this]
      rfl
    | some p =>
      obtain ⟨q, e2, e3, _⟩ := kv j p e
      rw [e2]
      exact congrArg some e3
  obtain ⟨o, n, ho, hcl, hdi, hdat⟩ := pl
  have okA : PlainSeq "list" s.heap a (Us.map Value.ref).toArray ∧ PairItems s.heap (Us.map Value.ref).toArray (fun j => Us.getD j 0) (ps.map fun p => (Value.ref p.2.1, p.2.2)) := by
    refine ⟨⟨o, n, ho, hcl, hdi, hdat⟩, by simp; omega, fun j k v e => ?_⟩
    rw [List.getElem?_map] at e
    obtain ⟨p, hp, e2⟩ := Option.map_eq_some_iff.mp e
    obtain ⟨_, _, _, _, U, hU, hT, _⟩ := kv j p hp
    have e3 := Prod.mk.inj e2
    have gd : Us.getD j 0 = U := by rw [List.getD_eq_getElem?_getD, hU]; rfl
    refine ⟨by simp [hU], .inl ?_⟩
    show s.heap.IsTuple (Us.getD j 0) #[k, v]
    rw [gd, ← e3.1, ← e3.2]
    exact hT
  refine call_dict_pairsH (knd := tupleKind (mixKind X.prog X.w)) (ps := ps) (PairArg.list a _ _ _) (I.ok.hd hc) (by show X.A.units + 2 < cLine; omega) okA ⟨by simp, fun j k v e => ?_⟩ (fun h' hk x hx => ?_) (by rw [List.length_map]; omega) fun h' tk hd' hk => ?_
  · have e' : (ps.map fun p => (Value.ref p.2.1, p.2.2))[j]? = some (k, v) := e
    rw [List.getElem?_map] at e'
    obtain ⟨p, hp, e2⟩ := Option.map_eq_some_iff.mp e'
    have e3 := Prod.mk.inj e2
    exact ⟨p.1, p.2.1, by rw [hp, ← e3.2], e3.1.symm⟩
  · obtain ⟨j, hj, e⟩ := List.getElem_of_mem hx
    obtain ⟨q', e1, e2, e3, _⟩ := kv j x (by rw [List.getElem?_eq_getElem hj, e])
    have jl := (List.getElem?_eq_some_iff.mp e1).1
    obtain ⟨_, kt⟩ := hq j _ q' (List.getElem?_eq_getElem (l := Us) (by omega)) e1
    obtain ⟨ob, its2, n2, hob, r2⟩ := key_of (P := X.prog) (w := X.w) I.hok kt
    rw [e2, e3]
    exact ⟨ob, its2, n2, hk _ _ (Nat.ne_of_lt (Heap.lt_size hob)) (by simp) hob, r2⟩
  · have es : storedAllH [] ps = ps := by
      rw [stored_new ps [] (by rw [List.nil_append, keys]; exact nd)]
      rfl
    rw [es] at hd'
    obtain ⟨ob, ents, ep, g1, g2, g3, g4, _, g6⟩ := hd'
    have fr : H s.heap.objs.size = none := I.hok.fresh (Nat.le_refl _)
    have hm : (s.heap.objs.size == sysModules) = false := beq_eq_false_iff_ne.mpr (Nat.ne_of_gt I.big)
    have par : ∀ (m : Nat), Paired (fun (p : List Key × V) (q : List Key × Addr × Value) => p.1 = q.1 ∧ upd H s.heap.objs.size (.dT (kvs.map fun q => (q.1, q.2.2))) q.2.1 = some (.tup (p.1.map kV)) ∧ RelV p.2 q.2.2) ((kvs.drop m).map fun q => (q.1, q.2.2)) (ps.drop m) := by
      have back : ∀ k m, kvs.length - m = k → Paired (fun (p : List Key × V) (q : List Key × Addr × Value) => p.1 = q.1 ∧ upd H s.heap.objs.size (.dT (kvs.map fun q => (q.1, q.2.2))) q.2.1 = some (.tup (p.1.map kV)) ∧ RelV p.2 q.2.2) ((kvs.drop m).map fun q => (q.1, q.2.2)) (ps.drop m) := by
        intro k
        induction k with
        | zero =>
          intro m hk
          rw [List.drop_eq_nil_of_le (by omega), List.drop_eq_nil_of_le (by omega)]
          exact .nil
        | succ k ih =>
          intro m hk
          have l1 : m < kvs.length := by omega
          have l2 : m < ps.length := by omega
          rw [List.drop_eq_getElem_cons l1, List.drop_eq_getElem_cons l2, List.map_cons]
          refine .cons ?_ (ih (m + 1) (by omega))
          obtain ⟨q', e1, e2, e3, _, _, _, ry⟩ := kv m _ (List.getElem?_eq_getElem l2)
          have e4 : q' = kvs[m] := by
            rw [List.getElem?_eq_getElem l1] at e1
            exact (Option.some.inj e1).symm
          subst e4
          obtain ⟨_, kt⟩ := hq m _ _ (List.getElem?_eq_getElem (l := Us) (by omega)) (List.getElem?_eq_getElem l1)
          refine ⟨e2.symm, ?_, ry⟩
          rw [e3, upd_ne (ne_of_none kt fr)]
          exact kt
      exact fun m => back _ m rfl
    have par0 := par 0
    rw [List.drop_zero, List.drop_zero] at par0
    exact ⟨.ref s.heap.objs.size, upd H s.heap.objs.size (.dT (kvs.map fun q => (q.1, q.2.2))), I.laid (t' := tk) (fun b o e => hk b o (by simp) e) (Nat.le_refl _)
      (show ObjOk X.prog X.w _ _ _ (.dT (kvs.map fun q => (q.1, q.2.2))) from ⟨by rw [List.length_map]; omega, hm, ps, par0, ob, ents, ep, g1, g2, g3, g4, g6⟩), rfl, q _ fr⟩
end Kx
end
section
set_option maxRecDepth 100000
set_option maxHeartbeats 4000000
namespace Kx
open PySem PySem.Spec PyProof.Rows L2
abbrev DV := V × PyData
/-- the values of bs, sorted as data -/
def sortedD (bs : List DV) : List DV := bs.mergeSort (PySem.W.dataLe false fun b => b.2)
/-- sorted(xs), xs a list of alike data: a new list -/
def rSortedD (K : PySem.W.Frag) : List V → Hp → VK → Prop := fun vs H Q => ∃ (a : Addr) (bs : List DV), vs = [V.ref a] ∧ SqL K H a (bs.map fun b => b.1) ∧ (∀ b ∈ bs, Dp K H b.1 b.2 ∧ b.2.depth ≤ 40) ∧
  PySem.W.AllAlike (bs.map fun b => b.2) ∧ PySem.W.Sortable (bs.map fun b => b.2) ∧ ∀ p, H p = none → Q (.ref p) (upd H p (.lst ((sortedD bs).map fun b => b.1)))
theorem each_of_vals {us : List Value} : ∀ {bs : List DV} {us : List Value}, Vals (bs.map fun b => b.1) us → PySem.W.EachIs (fun (v : Value) (b : DV) => RelV b.1 v) us bs
  | [], _, .nil => .nil
  | _ :: _, _, .cons r t => .cons r (each_of_vals (us := []) t)
theorem vals_of_each : ∀ {bs : List DV} {us : List Value}, PySem.W.EachIs (fun (v : Value) (b : DV) => RelV b.1 v) us bs → Vals (bs.map fun b => b.1) us
  | _, _, .nil => .nil
  | _, _, .cons r t => .cons r (vals_of_each t)
theorem each_reads {X : Cx} {pins : List (Addr × Obj)} {σ : L2.St} {H : Hp} {s : Shared} (I : Inv X pins σ H s) : ∀ {bs : List DV} {us : List Value}, PySem.W.EachIs (fun (v : Value) (b : DV) => RelV b.1 v) us bs → (∀ b ∈ bs, Dp X.K H b.1 b.2) →
    PySem.W.EachIs (fun v b => ∃ as, Reads s.heap v b.2 as) us bs
  | _, _, .nil, _ => .nil
  | b :: bs, _, .cons r t, h => .cons (Dp.reads I b.2 b.1 _ (h b List.mem_cons_self) r) (each_reads I t fun c hc => h c (List.mem_cons_of_mem _ hc))
theorem cr_sortedD {X : Cx} (hu : X.A.units + 64 < cLine) : CallR X (.builtin "sorted") (rSortedD X.K) := by
  intro pins s σ H vs us Q I r h
  obtain ⟨a, bs, rfl, hs, hd, al, so, q⟩ := h
  obtain ⟨its, rv, hl, hz⟩ := I.list hs
  rw [Vals.ref1 r]
  have e := each_of_vals (us := []) rv
  have er := each_reads I e fun b hb => (hd b hb).1
  rw [List.length_map] at hz
  refine PySem.W.sorted_data (enc := fun b : DV => b.2) (bs := bs) hl.isList e er al so hz (fun b hb => ?_) fun out lo eo => ?_
  · have := (hd b hb).2
    omega
  · obtain ⟨ep, he⟩ := PyProof.Rows.sortedAll_at s.heap its (List.toArray out)
    have ro : Vals ((sortedD bs).map fun b => b.1) out := vals_of_each eo
    have hlen : ((sortedD bs).map fun b => b.1).length ≤ sizeLine := by
      rw [ro.length, lo]
      exact hz
    exact ⟨.ref _, upd H (s.heap.objs.size + 1) (.lst ((sortedD bs).map fun b => b.1)), I.laid (t' := s.toks) (fun _ _ => PyProof.Rows.sortedAll_old) (Nat.le_succ _) ⟨hlen, out, ep, ro, he⟩, rfl, q _ (I.hok.fresh (Nat.le_succ _))⟩
end Kx
end
section
set_option maxRecDepth 100000
set_option maxHeartbeats 4000000
namespace Kx
open PySem PySem.Spec PyProof.Rows L2
/-- all that stood at h stands at h' -/
abbrev Ext (h h' : Heap) : Prop := ∀ b o, h.get? b = some o → h'.get? b = some o
section
variable {P : Program} {w : World} {A : Around} {E : Value → Shared → Prop} {s : Shared}
/-- what a set that is filled item by item keeps: Z i of the heap, behind i items -/
structure Filled (P : Program) (w : World) (A : Around) (E : Value → Shared → Prop) (S : Addr) (h0 : Heap) (items : Array Value) (Z : Nat → Heap → Prop) : Prop where
  zero : ∀ h, h.get? S = some { cls := .type "set", dict := none, data := .set #[] 0 (.fresh 0 0 (!w.params.followText "set-order")) } → Z 0 h
  keep : ∀ i h h', Z i h → (∀ o, h.get? S = some o → h'.get? S = some o) → Ext h0 h' → Z i h'
  step : ∀ i v (s : Shared), items[i]? = some v → Z i s.heap → Ext h0 s.heap → ∀ Q : Bool → Shared → Prop,
    (∀ b h' tk, s.toks ≤ tk → Heap.SameBut S s.heap h' → Z (i + 1) h' → Q b { s with heap := h', toks := tk }) → wpAny (model P w) A (setAdd S v) Q E s
theorem set_loop {I : Addr} {fp wr : List Addr} {G : Array GenState → Array GenState → Prop} {n : Nat} {Pv : Nat → Value → Prop} {St : Nat → Shared → Prop} {R : Result → Shared → Prop} {items : Array Value} {Z : Nat → Heap → Prop}
    (W : WalksS P w A.in1 I fp wr G n Pv St) (S : Addr) (out : S ∉ fp) (h0 : Heap) (fr : h0.get? S = none) (frs : ∀ b ∈ wr, h0.get? b = none) (val : ∀ i v, Pv i v → items[i]? = some v)
    (Y : Filled P w A.in1 (fun v s => R (.error v) s) S h0 items Z) :
    ∀ (k i : Nat) (s : Shared), n - i = k → i ≤ n → St i s → Ext h0 s.heap → Z i s.heap →
      (∀ s', Moved (S :: wr) G s s' → Z n s'.heap → Ext h0 s'.heap → R (.ok (.ret .none)) s') →
      codeAny (model P w) A (.builtin "set.update.loop" ⟨[.ref S, .ref I], []⟩) R s := by
  have oW : S ∉ wr := fun h => out (W.sub _ h)
  have inc : ∀ b ∈ wr, b ∈ S :: wr := fun b hb => List.mem_cons_of_mem _ hb
  have kept : ∀ {s s' : Shared}, Moved wr G s s' → Ext h0 s.heap → Ext h0 s'.heap := fun hm x b o e =>
    hm.heap b o (fun hb => by rw [frs b hb] at e; cases e) (x b o e)
  intro k
  induction k with
  | zero =>
    intro i s ek hi st x z done
    obtain rfl : i = n := by omega
    refine codeAny_builtin F.entry_set_update_loop ?_
    rw [Around.under_plainId F.plain_set_update_loop _]
    show wpAny _ A.in1 (pyNext (.ref I) >>= _) _ _ s
    refine wpAny_bind (W.done s _ _ st fun s' hm => ?_)
    have x' := kept hm x
    exact wpAny_pure (done s' (hm.mono inc) (Y.keep _ _ _ z (fun o e => hm.heap S o oW e) x') x')
  | succ k ih =>
    intro i s ek hi st x z done
    have lt : i < n := by omega
    refine codeAny_builtin F.entry_set_update_loop ?_
    rw [Around.under_plainId F.plain_set_update_loop _]
    show wpAny _ A.in1 (pyNext (.ref I) >>= _) _ _ s
    refine wpAny_bind (W.item i s _ _ lt st fun v s' pv st' hm => ?_)
    have x' := kept hm x
    have z' := Y.keep _ _ _ z (fun o e => hm.heap S o oW e) x'
    show wpAny _ A.in1 (holding [v] (setAdd S v) >>= _) _ _ s'
    refine wpAny_bind (wpAny_holding (Y.step i v s' (val i v pv) z' x' _ fun b h' tk le sb z2 => ?_))
    have x2 : Ext h0 h' := fun b o e => (sb.2 b (fun q => by rw [q, fr] at e; cases e)).trans (x' b o e)
    refine wpAny_pure ⟨plainId_quiet F.plain_set_update_loop _, ih (i + 1) _ (by omega) lt (W.frame _ s' _ _ st' le fun b hb o e => ?_) x2 z2 fun s2 hm2 z3 x3 => ?_⟩
    · exact (sb.2 b (fun q : b = S => out (by rw [← q]; exact hb))).trans e
    · refine done s2 (Moved.trans W.gtrans ((hm.mono inc).then_heap le fun b o hb e => ?_) hm2) z3 x3
      exact (sb.2 b (fun q : b = S => hb (by rw [q]; exact List.mem_cons_self))).trans e
end
end Kx
end
section
set_option maxRecDepth 100000
set_option maxHeartbeats 4000000
namespace Kx
open PySem PySem.Spec PyProof.Rows L2
section
variable {P : Program} {w : World} {A : Around} {E : Value → Shared → Prop} {s : Shared}
abbrev newSetO (w : World) : Obj := { cls := .type "set", dict := none, data := .set #[] 0 (.fresh 0 0 (!w.params.followText "set-order")) }
/-- set(xs), xs a list: what the filling keeps stands behind it -/
theorem call_set_any {l : Addr} {items : Array Value} {Z : Nat → Heap → Prop} {Q : Value → Shared → Prop} (hh : A.handled = none) (hl : s.heap.IsList l items)
    (Y : ∀ E, Filled P w A.in1.in1.in1 E s.heap.objs.size s.heap items Z)
    (h : ∀ (h' : Heap) (tk : Nat), Z items.size h' → Ext s.heap h' → Q (.ref s.heap.objs.size) { s with heap := h', toks := tk }) : wpAny (model P w) A (call (.type "set") [.ref l]) Q E s := by
  obtain ⟨c, tl, mro⟩ := F.called_set.mro
  have made := F.called_set.made
  have sub := F.called_set.sub
  refine wpAny_call (codeAny_of_tree ?_)
  show wpAny _ _ (callAny (.type "set") _) _ _ _
  refine wpAny_pure ⟨Code.quiet_builtin _ (by decide +kernel), codeAny_builtin F.entry_type_call ?_⟩
  rw [Around.under_plain (weight_type_call_type "set" [.ref l] []) rfl]
  have nT := F.called_set.notType
  have cC := F.called_set.canCreate
  have tC := F.typeCall_set_1 (.ref l)
  repeat (any_goals (first | assumption | wp_step))
  refine codeAny_mono (code_set_led1 (.ref l) (E := E) (Q₁ := fun r s1 => r = .ref s.heap.objs.size ∧ s1 = { s with heap := s.heap.push (newSetO w) }) ⟨rfl, rfl⟩) fun r s1 hr => ?_
  cases r with
  | error e => exact hr
  | ok fl =>
    cases fl with
    | ret r1 =>
      obtain ⟨rfl, rfl⟩ := hr
      have hS : (s.heap.push (newSetO w)).get? s.heap.objs.size = some (newSetO w) := Heap.get?_push_size _ rfl
      have hT : Shared.TypeIs { s with heap := s.heap.push (newSetO w) } (.ref s.heap.objs.size) "set" := ⟨_, hS, rfl⟩
      have look := F.called_set.init.lookup
      have bind := F.called_set.init.bind (.ref s.heap.objs.size)
      repeat (any_goals (first | assumption | wp_step))
      refine codeAny_mono (codeAny_call_builtin (R := wants (fun r s2 => r = .none ∧ ∃ h' tk, s2 = { s with heap := h', toks := tk } ∧ Z items.size h' ∧ Ext s.heap h') E) F.called_set.init.plain F.entry_set_init (check_set_init_1 hT ?_)) fun r2 s2 hr2 => ?_
      · obtain ⟨⟨oc, od, oda, osl⟩, ho, hc, n, hd⟩ := hl
        simp only at hc hd
        subst hc
        subst hd
        have ho1 := Heap.get?_push_of_some (newSetO w) ho
        have h1 : (s.heap.push (newSetO w)).IsList l items := ⟨_, ho1, rfl, n, rfl⟩
        have c1 := F.sub_list_set
        have c2 := F.sub_list_frozenset
        have c3 : (Value.type "list" == Value.type "dict") = false := by decide
        unfold Builtin.«set.__init__» noKeywords Builtin.Frozenset.updateFrom
        generalize pi : pyIter = PI
        wp_walk
        subst pi
        refine wpAny_pyIter_list h1 ?_
        refine wpAny_bind (wpAny_runValue ?_)
        have lt : l < s.heap.objs.size := Heap.lt_size ho
        have h3 : A.in1.in1.in1.handled = none := by simp [hh]
        have z1 : (s.heap.push (newSetO w)).objs.size = s.heap.objs.size + 1 := Heap.size_push ..
        have ne : l ≠ (s.heap.push (newSetO w)).objs.size := Nat.ne_of_lt (by rw [z1]; exact Nat.lt_succ_of_lt lt)
        have none_of : ∀ b, s.heap.objs.size ≤ b → s.heap.get? b = none := fun b hb => Heap.get?_none_of_le hb
        refine set_loop (Z := Z) ((Walks.list h3 _ l ne items).toS) s.heap.objs.size ?hSf s.heap (none_of _ (Nat.le_refl _)) (fun b hb => none_of b ?hb) (fun i v hv => hv) (Y _) (items.size - 0) 0 _ (by omega) (Nat.zero_le _)
          ⟨⟨_, Heap.get?_push_size _ rfl, rfl, rfl⟩, (h1.push _)⟩ (fun b o e => Heap.get?_push_of_some _ (Heap.get?_push_of_some _ e)) ?h0 ?hR
        case hSf =>
          rw [z1]
          simp only [List.mem_cons, List.mem_singleton, List.not_mem_nil, or_false, not_or]
          exact ⟨Nat.ne_of_lt (Nat.lt_succ_self _), Nat.ne_of_gt lt⟩
        case hb =>
          rw [List.mem_singleton.mp hb, z1]
          exact Nat.le_succ _
        case h0 =>
          exact (Y E).zero _ (Heap.get?_push_of_some _ hS)
        case hR =>
          intro s' hm hz hx
          obtain ⟨h', g', d', tk', os'⟩ := s'
          have eg : g' = s.gens := hm.gens
          have ed : d' = s.drawn := hm.drawn
          have eo : os' = s.os := hm.os
          subst eg ed eo
          refine wpAny_pure ?_
          show wpAny _ _ (ret Value.none) _ _ _
          exact wpAny_pure ⟨rfl, h', tk', rfl, hz, hx⟩
      · cases r2 with
        | error e => exact hr2
        | ok f2 =>
          cases f2 with
          | ret r =>
            obtain ⟨rfl, h', tk, rfl, hz, hx⟩ := hr2
            repeat (any_goals (first | assumption | wp_step))
            exact h _ _ hz hx
          | _ => exact hr2.elim
    | _ => exact hr.elim
end
end Kx
end
section
set_option maxRecDepth 100000
set_option maxHeartbeats 4000000
namespace Kx
open PySem PySem.Spec PyProof.Rows L2
/-- the tuple at a holds the keys k -/
abbrev IsK (P : Program) (w : World) (h : Heap) (k : List Key) (a : Addr) : Prop := IsTupleKey (mixKind P w) h k a
abbrev hashK (P : Program) (w : World) (k : List Key) : Int := tupleKeyHash (mixKind P w) k
section
variable {P : Program} {w : World} {A : Around} {E : Value → Shared → Prop} {s : Shared}
theorem key_byval {k : Key} {v : Value} (h : (mixKind P w).is k v = true) : carriedByValue v = true := (mixKind P w).byValue _ _ h
theorem cls_val (n : Nat) {v : Value} (h : carriedByValue v = true) : ofAClassStatement n v = pure false := by
  cases v with
  | ref a => exact absurd h (by simp [carriedByValue])
  | _ => cases n <;> rfl
theorem items_byval {k : List Key} {vs : List Value} (h : ItemsAre (mixKind P w) k vs) : ∀ v ∈ vs, carriedByValue v = true := h.byValue
theorem cls_tup {k : List Key} {b : Addr} {Q : Bool → Shared → Prop} (hk : IsK P w s.heap k b) (h : Q false s) : wpAny (model P w) A (ofAClassStatement 8 (.ref b)) Q E s := by
  have ty := hk.typeIs
  obtain ⟨o, items, n, ho, _, hd, hi⟩ := hk
  have bv := items_byval hi
  unfold ofAClassStatement
  refine wpAny_bind (wpAny_typeOf ty ?_)
  dsimp only
  rw [show (("tuple" : String) == "tuple") = true by decide]
  simp only [if_true, Bool.not_true, Bool.false_eq_true, if_false]
  try refine wpAny_bind (wpAny_pure ?_)
  try simp only [Bool.not_true, Bool.false_eq_true, if_false]
  show wpAny _ _ (seqItems? (.ref b) >>= _) _ _ s
  refine wpAny_bind (wpAny_seqItems ho hd ?_)
  dsimp only
  refine wpAny_bind ?_
  show wpAny _ _ (forIn items _ _) _ _ s
  rw [← Array.forIn_toList]
  refine wpAny_forIn_list _ (fun left r s' => r.1 = none ∧ s' = s ∧ ∀ v ∈ left, carriedByValue v = true) _ ?_ ?_ _ _ ⟨rfl, rfl, bv⟩
  · rintro v left r s' ⟨hr, rfl, al⟩
    rw [cls_val _ (al v List.mem_cons_self)]
    refine wpAny_bind (wpAny_pure ?_)
    simp only [Bool.false_eq_true, if_false]
    exact wpAny_pure ⟨rfl, rfl, fun u hu => al u (List.mem_cons_of_mem _ hu)⟩
  · rintro ⟨r1, r2⟩ s' ⟨hr, rfl, _⟩
    obtain rfl : r1 = none := hr
    exact wpAny_pure h
theorem hashV_val (n : Nat) {k : Key} {v : Value} (h : (mixKind P w).is k v = true) : ∃ c, hashByValue n v = pure c := by
  rcases keyIs_shape h with ⟨i, t, _, rfl⟩ | ⟨x, t, _, rfl⟩
  · exact ⟨true, by cases n <;> rfl⟩
  · exact ⟨false, by cases n <;> rfl⟩
theorem items_hash {k : List Key} {vs : List Value} (h : ItemsAre (mixKind P w) k vs) (n : Nat) : ∀ v ∈ vs, ∃ c, hashByValue n v = pure c := by
  induction h with
  | nil =>
    intro v hv
    cases hv
  | cons h1 _ ih =>
    intro v hv
    rcases List.mem_cons.mp hv with e | hv
    · rw [e]
      exact hashV_val n h1
    · exact ih v hv
theorem hashV_tup {k : List Key} {b : Addr} {Q : Bool → Shared → Prop} (hk : IsK P w s.heap k b) (h : ∀ c, Q c s) : wpAny (model P w) A (hashByValue 8 (.ref b)) Q E s := by
  have ty := hk.typeIs
  obtain ⟨o, items, n, ho, _, hd, hi⟩ := hk
  have bv := items_hash hi 7
  unfold hashByValue
  refine wpAny_bind (wpAny_specialOf ty F.slot_tuple_hash.lookup ?_)
  show wpAny _ _ (seqItems? (.ref b) >>= _) _ _ s
  refine wpAny_bind (wpAny_seqItems ho hd ?_)
  refine wpAny_bind ?_
  show wpAny _ _ (forIn items _ _) _ _ s
  rw [← Array.forIn_toList]
  refine wpAny_forIn_list _ (fun left r s' => r.1 = none ∧ s' = s ∧ ∀ v ∈ left, ∃ c, hashByValue 7 v = pure c) _ ?_ ?_ _ _ ⟨rfl, rfl, bv⟩
  · rintro v left r s' ⟨hr, rfl, al⟩
    obtain ⟨c, e⟩ := al v List.mem_cons_self
    rw [e]
    refine wpAny_bind (wpAny_pure ?_)
    cases c with
    | false =>
      simp only [Bool.not_false, if_true]
      exact wpAny_pure (wpAny_pure (h _))
    | true =>
      simp only [Bool.not_true, Bool.false_eq_true, if_false]
      exact wpAny_pure ⟨rfl, rfl, fun u hu => al u (List.mem_cons_of_mem _ hu)⟩
  · rintro ⟨r1, r2⟩ s' ⟨hr, rfl, _⟩
    obtain rfl : r1 = none := hr
    exact wpAny_pure (h _)
end
end Kx
end
section
set_option maxRecDepth 100000
set_option maxHeartbeats 4000000
namespace Kx
open PySem PySem.Spec PyProof.Rows L2
section
variable {P : Program} {w : World} {A : Around} {E : Value → Shared → Prop} {s : Shared}
theorem seen_none {k : List Key} {b : Addr} {Q : Bool → Shared → Prop} (hk : IsK P w s.heap k b) {ys : List Value} (hy : ∀ y ∈ ys, ∃ k' c, y = Value.ref c ∧ IsK P w s.heap k' c) (h : Q false s) :
    wpAny (model P w) A (searchCouldBeSeen (.ref b) ys) Q E s := by
  unfold searchCouldBeSeen
  refine wpAny_bind ?_
  refine wpAny_forIn_list _ (fun left r s' => r.1 = none ∧ s' = s ∧ ∀ y ∈ left, ∃ k' c, y = Value.ref c ∧ IsK P w s.heap k' c) _ ?_ ?_ _ _ ⟨rfl, rfl, hy⟩
  · rintro v left r s' ⟨hr, rfl, al⟩
    obtain ⟨k', c, rfl, hc⟩ := al v List.mem_cons_self
    have al' : ∀ y ∈ left, ∃ k' c, y = Value.ref c ∧ IsK P w s'.heap k' c := fun u hu => al u (List.mem_cons_of_mem _ hu)
    dsimp only
    by_cases same : (b == c || (carriedByValue (.ref b) && carriedByValue (.ref c))) = true
    · exact wp_if_pos same (wpAny_pure ⟨rfl, rfl, al'⟩)
    · refine wp_if_neg same ?_
      refine wpAny_bind (wpAny_eqIsQuiet_tuple hk ?_)
      simp only [Bool.not_true, Bool.false_eq_true, if_false]
      refine wpAny_bind (wpAny_eqIsQuiet_tuple hc ?_)
      simp only [Bool.not_true, Bool.false_eq_true, if_false]
      refine wpAny_bind (cls_tup hk ?_)
      simp only [Bool.false_eq_true, if_false]
      refine wpAny_bind (cls_tup hc ?_)
      simp only [Bool.false_eq_true, if_false]
      exact wpAny_pure ⟨rfl, rfl, al'⟩
  · rintro ⟨r1, r2⟩ s' ⟨hr, rfl, _⟩
    obtain rfl : r1 = none := hr
    exact wpAny_pure h
abbrev ents (P : Program) (w : World) (L : List (Addr × List Key)) : List (Int × Value) := L.map fun p => (hashK P w p.2, Value.ref p.1)
abbrev hashes (P : Program) (w : World) (L : List (Addr × List Key)) : List Int := L.map fun p => hashK P w p.2
/-- the set at S holds the tuples L -/
structure TSet (P : Program) (w : World) (h : Heap) (S : Addr) (L : List (Addr × List Key)) (es : Array (Int × Value)) (ep : Nat) (t : SetTable) : Prop where
  ob : ∃ o, h.get? S = some o ∧ o.ExactSet ∧ o.data = .set es ep t
  es_eq : es.toList = ents P w L
  tab : TabOk t (hashes P w L)
  nd : (L.map (·.2)).Nodup
  tup : ∀ p ∈ L, IsK P w h p.2 p.1
  room : L.length * 5 < t.mask * 3
  few : L.length < 64
variable {S : Addr} {L : List (Addr × List Key)} {es : Array (Int × Value)} {ep : Nat} {t : SetTable}
theorem ents_size (e : es.toList = ents P w L) : es.size = L.length := by
  have h := congrArg List.length e
  rw [Array.length_toList, List.length_map] at h
  exact h
theorem TSet.fits (R : TSet P w s.heap S L es ep t) : t.fits es.size = true := by
  have h1 := R.tab.sz
  rw [List.length_map] at h1
  have h2 := ents_size R.es_eq
  have h3 := R.room
  unfold SetTable.fits SetTable.fill
  rw [R.tab.dm, Bool.and_eq_true, beq_iff_eq, decide_eq_true_eq]
  exact ⟨by omega, by show t.place.size + 0 ≤ t.mask; omega⟩
theorem TSet.ent (R : TSet P w s.heap S L es ep t) {i : Nat} {p : Addr × List Key} (h : L[i]? = some p) : es[i]? = some (hashK P w p.2, Value.ref p.1) := by
  rw [← Array.getElem?_toList, R.es_eq, List.getElem?_map, h]
  rfl
theorem no_dummy (m : Nat) : ∀ (n : Nat) (p : SetTable.Probe), p.dummy = none → (nth m p n).dummy = none
  | 0, _, h => h
  | n + 1, p, h => no_dummy m n (adv m p) (by
    unfold adv
    split <;> exact h)
/-- a search from the c-th step of its way on -/
theorem tsearch (R : TSet P w s.heap S L es ep t) {x : Addr} {k : List Key} (hx : IsK P w s.heap k x) (hu : A.units < cLine) {h : Int} (eh : h = hashK P w k) {K : Nat} (hKf : K < 10 * SetTable.turns t.mask)
    (hK : way t.mask h K ∉ t.place.toList) (hKb : ∀ c, c < K → way t.mask h c ∈ t.place.toList) {Q : SetFound → Shared → Prop}
    (yes : k ∈ L.map (·.2) → Q (.there none) s) (no : k ∉ L.map (·.2) → Q (.free (way t.mask h K) false) s) :
    ∀ (f c : Nat) (stand : Option SetTable.Probe), stand.getD (t.probeStart h) = nth t.mask (runAt t.mask (SetTable.bits h % (t.mask + 1)) (SetTable.bits h)) c → c ≤ K → K - c < f →
      (∀ (i : Nat) p, L[i]? = some p → p.2 = k → ∃ c', c ≤ c' ∧ c' < K ∧ t.place.toList[i]? = some (way t.mask h c')) →
      wpAny (model P w) A (setSearchFrom S (.ref x) h true f stand) Q E s
  | 0, c, stand, _, _, hf, _ => absurd hf (Nat.not_lt_zero _)
  | f + 1, c, stand, hst, hc, hf, hre => by
    obtain ⟨o, ho, hex, hd⟩ := R.ob
    have gw : ¬ t.gaveWay = true := by
      unfold SetTable.gaveWay
      rw [mask_odd R.tab.mok]
      decide
    rw [setSearchFrom_succ]
    refine wpAny_bind (wpAny_setState_of ho hd R.fits ?_)
    dsimp only
    refine wp_if_neg gw ?_
    try refine wpAny_bind (wpAny_pure ?_)
    obtain ⟨r0, er0⟩ : ∃ r0, r0 = runAt t.mask (SetTable.bits h % (t.mask + 1)) (SetTable.bits h) := ⟨_, rfl⟩
    have wy : ∀ q, (nth t.mask r0 q).j = way t.mask h q := fun q => by rw [er0]
    have e1 : ∀ q, (nth t.mask (nth t.mask r0 c) q).j = way t.mask h (c + q) := fun q => by rw [← nth_add, wy]
    rw [← er0] at hst
    have spec := go_spec t R.tab.ris R.tab.dm (fun i => (es[i]?.map (·.1)).getD 0) h (10 * SetTable.turns t.mask) (K - c) (nth t.mask r0 c) (no_dummy _ _ _ (by rw [er0]; rfl)) (by omega)
      (fun q hq => by rw [e1]; exact hKb _ (by omega)) (by rw [e1, show c + (K - c) = K by omega]; exact hK)
    have hat : ∀ (i : Nat) p, L[i]? = some p → (es[i]?.map (·.1)).getD 0 = hashK P w p.2 := fun i p hp => by
      rw [R.ent hp]
      rfl
    have later : ∀ q : Nat, (∀ k' i' : Nat, k' < q → t.place.toList[i']? = some (nth t.mask (nth t.mask r0 c) k').j → (es[i']?.map (·.1)).getD 0 ≠ h) → ∀ (i : Nat) p, L[i]? = some p → p.2 = k → ∀ c', c ≤ c' → t.place.toList[i]? = some (way t.mask h c') → c + q ≤ c' :=
      fun q hno i p hp hk c' lo hi => by
        rcases Nat.lt_or_ge c' (c + q) with z | z
        · exfalso
          refine hno (c' - c) i (by omega) (by rw [e1, show c + (c' - c) = c' by omega]; exact hi) ?_
          rw [hat i p hp, hk, eh]
        · exact z
    rcases spec with ⟨q, i, hq, hi, hh, hno, hpr⟩ | ⟨hno, hpr⟩
    · have pr : t.probe (fun i => (es[i]?.map (·.1)).getD 0) h (stand.getD (t.probeStart h)) = some (.candidate (way t.mask h (c + q)) i (nth t.mask r0 (c + (q + 1)))) := by
        rw [hst, ← e1, nth_add]
        exact hpr
      rw [pr]
      dsimp only
      rw [e1] at hi
      have il : i < L.length := by
        have h1 : i < t.place.toList.length := (List.getElem?_eq_some_iff.mp hi).1
        have h2 := R.tab.sz
        rw [List.length_map] at h2
        rw [Array.length_toList] at h1
        omega
      have hp : L[i]? = some L[i] := List.getElem?_eq_getElem il
      generalize L[i] = p at hp
      have pm : p ∈ L := List.mem_of_getElem? hp
      have rest : wpAny (model P w) A (searchRest S (.ref x) h true f es t (way t.mask h (c + q)) i (nth t.mask r0 (c + (q + 1)))) Q E s := by
        unfold searchRest
        rw [R.ent hp]
        dsimp only
        refine wpAny_bind (wpAny_holding (wpAny_eqBool_tuple hu (R.tup p pm) hx ?_))
        refine wpAny_bind (wpAny_setState_of ho hd R.fits ?_)
        dsimp only
        by_cases ek : p.2 = k
        · exact wp_if_pos (by simp [ek]) (wpAny_pure (yes (List.mem_map.mpr ⟨p, pm, ek⟩)))
        · refine wp_if_neg (by simp [ek]) ?_
          try refine wpAny_bind (wpAny_pure ?_)
          rw [sameMem]
          dsimp only
          have sl : t.slot (way t.mask h (c + q)) = .live i := slot_live R.tab.ris hi
          simp only [if_true, sl, R.ent hp]
          refine wpAny_bind (wpAny_isSame_ref_self (wpAny_bind (wpAny_pure ?_)))
          simp only [if_true]
          refine wp_if_neg (by simp [ek]) ?_
          refine tsearch R hx hu eh hKf hK hKb yes no f (c + (q + 1)) _ (by rw [← er0]; rfl) (by omega) (by omega) fun i0 p0 h0 k0 => ?_
          obtain ⟨c', a1, a2, a3⟩ := hre i0 p0 h0 k0
          refine ⟨c', ?_, a2, a3⟩
          have ge := later q hno i0 p0 h0 k0 c' a1 a3
          rcases Nat.lt_or_ge (c + q) c' with y | y
          · omega
          · exfalso
            rw [show c' = c + q by omega] at a3
            have s0 := slot_live R.tab.ris a3
            rw [sl] at s0
            injection s0 with s0
            rw [← s0, hp] at h0
            exact ek ((congrArg Prod.snd (Option.some.inj h0)).trans k0)
      by_cases hl : t.led = true
      · refine wp_if_neg (by simp [hl]) ?_
        try refine wpAny_bind (wpAny_pure ?_)
        exact rest
      · refine wp_if_pos (by simp [hl]) ?_
        refine wpAny_bind (seen_none hx (fun y hy => ?_) ?_)
        · obtain ⟨e, he, ee⟩ := List.mem_map.mp hy
          have he1 : e ∈ es ∧ e.1 = h := by simpa using he
          have he2 : e ∈ es.toList := by simpa using he1.1
          rw [R.es_eq] at he2
          obtain ⟨p2, hp2, e2⟩ := List.mem_map.mp he2
          exact ⟨p2.2, p2.1, by rw [← ee, ← e2], R.tup p2 hp2⟩
        · refine wp_if_neg (by decide) ?_
          try refine wpAny_bind (wpAny_pure ?_)
          exact rest
    · have pr : t.probe (fun i => (es[i]?.map (·.1)).getD 0) h (stand.getD (t.probeStart h)) = some (.empty (way t.mask h K) none) := by
        rw [hst, show way t.mask h K = (nth t.mask (nth t.mask r0 c) (K - c)).j by rw [e1, show c + (K - c) = K by omega]]
        exact hpr
      rw [pr]
      dsimp only
      refine wpAny_pure (no fun hm => ?_)
      obtain ⟨p0, h0, k0⟩ := List.mem_map.mp hm
      obtain ⟨i0, hi0, e0⟩ := List.getElem_of_mem h0
      have h00 : L[i0]? = some p0 := by rw [List.getElem?_eq_getElem hi0, e0]
      obtain ⟨c', a1, a2, a3⟩ := hre i0 p0 h00 k0
      have ge := later (K - c) hno i0 p0 h00 k0 c' a1 a3
      omega
/-- .. as adding asks it -/
theorem tsearch_at (R : TSet P w s.heap S L es ep t) {x : Addr} {k : List Key} (hx : IsK P w s.heap k x) (hu : A.units < cLine) {h : Int} (eh : h = hashK P w k) {Q : SetFound → Shared → Prop}
    (yes : k ∈ L.map (·.2) → Q (.there none) s)
    (no : ∀ K, k ∉ L.map (·.2) → way t.mask h K ∉ t.place.toList → (∀ c, c < K → way t.mask h c ∈ t.place.toList) → Q (.free (way t.mask h K) false) s) :
    wpAny (model P w) A (setSearch S (.ref x) h true) Q E s := by
  have room := R.room
  obtain ⟨K, hKf, hK, hKb⟩ := R.tab.first (by rw [List.length_map]; omega) h
  have turns : 10 * SetTable.turns t.mask ≤ 1420 := by
    unfold SetTable.turns
    rcases R.tab.mok with e | e | e <;> omega
  unfold setSearch
  refine tsearch R hx hu eh hKf hK hKb yes (fun hn => no K hn hK hKb) 100000 0 none rfl (Nat.zero_le _) (by omega) fun i p hp hk => ?_
  have hi : (hashes P w L)[i]? = some h := by
    rw [List.getElem?_map, hp, eh, ← hk]
    rfl
  have il : i < t.place.toList.length := by
    have h1 : i < L.length := (List.getElem?_eq_some_iff.mp hp).1
    have h2 := R.tab.sz
    rw [List.length_map] at h2
    rw [Array.length_toList]
    omega
  have hj := List.getElem?_eq_getElem il
  obtain ⟨c, hc, e⟩ := R.tab.before hK hi hj
  exact ⟨c, Nat.zero_le _, hc, by rw [hj, e]⟩
end
end Kx
end
section
set_option maxRecDepth 100000
set_option maxHeartbeats 4000000
namespace Kx
open PySem PySem.Spec PyProof.Rows L2
section
variable {P : Program} {w : World} {A : Around} {E : Value → Shared → Prop} {s : Shared}
theorem isK_but {h h' : Heap} {k : List Key} {a b : Addr} {o : Obj} {es : Array (Int × Value)} {ep : Nat} {t : SetTable} (hb : IsK P w h k b) (ho : h.get? a = some o) (hd : o.data = .set es ep t) (hs : Heap.SameBut a h h') : IsK P w h' k b := by
  obtain ⟨o', items, n, ho', hc, hd', hi⟩ := hb
  refine ⟨o', items, n, (hs.2 b ?_).trans ho', hc, hd', hi⟩
  rintro rfl
  obtain rfl : o' = o := Option.some.inj (ho'.symm.trans ho)
  rw [hd] at hd'
  exact nomatch hd'
theorem isK_ext {h h' : Heap} {k : List Key} {b : Addr} (x : IsK P w h k b) (hk : Ext h h') : IsK P w h' k b := by
  obtain ⟨o, items, n, ho, r⟩ := x
  exact ⟨o, items, n, hk b o ho, r⟩
theorem fm_some {α : Type} {L : List α} : ∀ n, n ≤ L.length → (List.range n).filterMap (fun i => L[i]?) = L.take n
  | 0, _ => rfl
  | n + 1, hn => by
    have lt : n < L.length := hn
    rw [List.range_succ, List.filterMap_append, fm_some n (Nat.le_of_lt lt), List.take_succ, List.getElem?_eq_getElem lt, List.filterMap_cons_some (List.getElem?_eq_getElem lt)]
    rfl
theorem ents_order (L : List (Addr × List Key)) (es : Array (Int × Value)) (order : Array Nat) (hr : es.toList = ents P w L) (hp : order.toList.Perm (List.range L.length)) :
    ∃ L2, (order.filterMap (es[·]?)).toList = ents P w L2 ∧ L2.Perm L ∧ hashes P w L2 = order.toList.map fun i => (es.map (·.1)).getD i 0 := by
  have sz := ents_size hr
  have at_ : ∀ i (h : i < L.length), es[i]? = some (hashK P w (L[i]).2, Value.ref (L[i]).1) := fun i h => by
    rw [← Array.getElem?_toList, hr, List.getElem?_map, List.getElem?_eq_getElem h]
    rfl
  have key : ∀ l : List Nat, (∀ i ∈ l, i < L.length) → l.filterMap (fun i => es[i]?) = ents P w (l.filterMap fun i => L[i]?) ∧ hashes P w (l.filterMap fun i => L[i]?) = l.map fun i => (es.map (·.1)).getD i 0 := by
    intro l
    induction l with
    | nil => exact fun _ => ⟨rfl, rfl⟩
    | cons i l ih =>
      intro hl
      have hi := hl i List.mem_cons_self
      obtain ⟨e1, e3⟩ := ih fun j hj => hl j (List.mem_cons_of_mem _ hj)
      have e5 : (es.map (·.1))[i]? = some (hashK P w (L[i]).2) := by
        rw [Array.getElem?_map, at_ i hi]
        rfl
      constructor
      · rw [List.filterMap_cons_some (at_ i hi), e1, List.filterMap_cons_some (List.getElem?_eq_getElem hi)]
        rfl
      · rw [List.filterMap_cons_some (List.getElem?_eq_getElem hi), List.map_cons]
        show hashK P w (L[i]).2 :: hashes P w _ = _
        rw [e3]
        simp [Array.getD_eq_getD_getElem?, e5]
  obtain ⟨e1, e3⟩ := key order.toList fun i hi => List.mem_range.mp (hp.mem_iff.mp hi)
  refine ⟨_, by first | (rw [Array.toList_filterMap]; exact e1) | simpa using e1, ?_, e3⟩
  have h1 := hp.filterMap fun i => L[i]?
  rw [fm_some L.length (Nat.le_refl _), List.take_length] at h1
  exact h1
variable {S : Addr} {L : List (Addr × List Key)} {es : Array (Int × Value)} {ep : Nat} {t : SetTable}
/-- the table laid anew -/
theorem trelay {o : Obj} (ho : s.heap.get? S = some o) (hex : o.ExactSet) (hd : o.data = .set es ep t) (hr : es.toList = ents P w L) (hsz : t.place.size = es.size) (hdm : t.dummies = #[]) (hfl : es.size ≤ t.mask)
    (nd : (L.map (·.2)).Nodup) (tup : ∀ p ∈ L, IsK P w s.heap p.2 p.1) (few : L.length < 64) {wanted M : Nat} (hw : SetTable.sizeAbove wanted - 1 = M) (hM : MaskOk M) (hw2 : SetTable.sizeAbove wanted ≤ 128) (hn : L.length * 5 < M * 3)
    {Q : Unit → Shared → Prop} (hQ : ∀ h' L' es' ep' t', Heap.SameBut S s.heap h' → TSet P w h' S L' es' ep' t' → L'.Perm L → Q () { s with heap := h' }) : wpAny (model P w) A (setRelay S wanted) Q E s := by
  have sl := ents_size hr
  have fits : t.fits es.size = true := by
    unfold SetTable.fits SetTable.fill
    rw [hdm, Bool.and_eq_true, beq_iff_eq, decide_eq_true_eq]
    exact ⟨hsz, by show t.place.size + 0 ≤ t.mask; omega⟩
  obtain ⟨t', order, e, hp, T, em, _, _, _⟩ := relaid_ok t (hs := es.map (·.1)) (wanted := wanted) hw hM (by rw [Array.size_map, sl]; omega)
  rw [Array.size_map, sl] at hp
  obtain ⟨L2, r1, r2, r3⟩ := ents_order L es order hr hp
  rw [← r3] at T
  have s2 : (order.filterMap (es[·]?)).size = es.size := by rw [ents_size r1, r2.length_eq, sl]
  rw [setRelay_eq]
  refine wpAny_bind (wpAny_setState_of ho hd fits ?_)
  dsimp only
  refine wp_if_neg (by rw [sizeLine_eq]; omega) ?_
  try refine wpAny_bind (wpAny_pure ?_)
  rw [e]
  dsimp only
  refine wpAny_bind ?_
  refine wp_if_neg (by rw [s2]; simp) ?_
  try refine wpAny_bind (wpAny_pure ?_)
  refine wpAny_pure ?_
  dsimp only
  refine wpAny_storeSet_of ho hd ?_ (by rw [s2, sl, sizeLine_eq]; omega)
  have sb : Heap.SameBut S s.heap (s.heap.update S (Obj.putSet (order.filterMap (es[·]?)) t')) := Heap.SameBut.update ..
  exact hQ _ L2 _ (ep + 1) t' sb ⟨⟨_, store_at ho hd, ⟨hex.1, hex.2.1, hex.2.2⟩, rfl⟩, r1, T, (r2.map (·.2)).nodup_iff.mpr nd, fun p hp => isK_but (tup p (r2.mem_iff.mp hp)) ho hd sb,
    by rw [r2.length_eq, em]; exact hn, by rw [r2.length_eq]; exact few⟩ r2
theorem hashes_put (L : List (Addr × List Key)) (p : Nat) (x : Addr) (k : List Key) : hashes P w (L.take p ++ (x, k) :: L.drop p) = (hashes P w L).take p ++ hashK P w k :: (hashes P w L).drop p := by
  unfold hashes
  rw [List.map_append, List.map_cons, List.map_take, List.map_drop]
theorem ents_put (L : List (Addr × List Key)) (p : Nat) (x : Addr) (k : List Key) : ents P w (L.take p ++ (x, k) :: L.drop p) = (ents P w L).take p ++ (hashK P w k, Value.ref x) :: (ents P w L).drop p := by
  unfold ents
  rw [List.map_append, List.map_cons, List.map_take, List.map_drop]
theorem tabOk_plain {t : SetTable} {hs : List Int} (T : TabOk t hs) (b : Bool) : TabOk { t with plain := b } hs := ⟨T.ris, T.dm, T.sz, T.mok, T.bd, T.reach⟩
/-- one tuple added -/
theorem tadd (R : TSet P w s.heap S L es ep t) {x : Addr} {k : List Key} (hx : IsK P w s.heap k x) (hu : A.units < cLine) (few : L.length + 1 < 64) {h : Int} (eh : h = hashK P w k) {Q : Bool → Shared → Prop}
    (hQ : ∀ b h' L' es' ep' t', Heap.SameBut S s.heap h' → TSet P w h' S L' es' ep' t' → (k ∈ L.map (·.2) → L' = L) → (k ∉ L.map (·.2) → L'.Perm ((x, k) :: L)) → Q b { s with heap := h' }) :
    wpAny (model P w) A (setAddHashed S (.ref x) h) Q E s := by
  obtain ⟨o, ho, hex, hd⟩ := R.ob
  have sl := ents_size R.es_eq
  have room := R.room
  unfold setAddHashed
  refine wpAny_holding ?_
  rw [show (100000 : Nat) = 99999 + 1 from rfl, setAddHashedIn_succ]
  refine wpAny_bind (wpAny_setState_of ho hd R.fits ?_)
  dsimp only
  refine wp_if_neg (by simp [byScan, Value.scannable]) ?_
  try refine wpAny_bind (wpAny_pure ?_)
  refine wpAny_bind (tsearch_at R hx hu eh (fun hm => ?_) fun K hm hK hb => ?_)
  · dsimp only
    exact wpAny_pure (hQ false s.heap L es ep t (Heap.SameBut.refl S s.heap) R (fun _ => rfl) fun z => absurd hm z)
  · dsimp only
    refine wpAny_bind (wpAny_setState_of ho hd R.fits ?_)
    dsimp only
    obtain ⟨q1, q2, q3, q4, _, _, _, _, q9⟩ := R.tab.put hK hb
    generalize ept : t.put (way t.mask h K) = pt at q1 q3 q4 q9 ⊢
    obtain ⟨t1, p⟩ := pt
    dsimp only at q1 q3 q4 q9 ⊢
    subst q1
    have eb : (SetTable.insertAt es (SetTable.below t.place (way t.mask h K)) (h, Value.ref x)).toList = ents P w (L.take (SetTable.below t.place (way t.mask h K)) ++ (x, k) :: L.drop (SetTable.below t.place (way t.mask h K))) := by
      rw [SetTable.toList_insertAt, ents_put, R.es_eq, eh]
    rw [eh] at q3
    rw [← eh] at q3
    generalize SetTable.below t.place (way t.mask h K) = p at q2 q3 eb ⊢
    have pm := put_perm L p (x, k)
    have len : (L.take p ++ (x, k) :: L.drop p).length = L.length + 1 := pm.length_eq
    have hh : hashes P w (L.take p ++ (x, k) :: L.drop p) = (hashes P w L).take p ++ h :: (hashes P w L).drop p := by rw [hashes_put, eh]
    rw [← hh] at q3
    have nd1 : ((L.take p ++ (x, k) :: L.drop p).map (·.2)).Nodup := by
      refine (pm.map (·.2)).nodup_iff.mpr ?_
      rw [List.map_cons]
      exact List.nodup_cons.mpr ⟨hm, R.nd⟩
    generalize SetTable.insertAt es p (h, Value.ref x) = es1 at eb ⊢
    generalize L.take p ++ (x, k) :: L.drop p = L1 at pm len q3 nd1 eb
    have z1 : es1.size = L.length + 1 := by rw [ents_size eb, len]
    have cont : ∀ t2 : SetTable, TabOk t2 (hashes P w L1) → t2.mask = t.mask → t2.fill = (hashes P w L).length + 1 →
        wpAny (model P w) A (do
          storeSet S es1 t2
          if !false && t2.tooFull then setRelay S (SetTable.grown (es.size + 1))
          return true) Q E s := fun t2 T2 m2 f2 => by
      refine wpAny_bind (wpAny_storeSet_of ho hd ?_ (by rw [z1, sizeLine_eq]; omega))
      have sb : Heap.SameBut S s.heap (s.heap.update S (Obj.putSet es1 t2)) := Heap.SameBut.update ..
      have ho1 := store_at (es' := es1) (t' := t2) ho hd
      generalize s.heap.update S (Obj.putSet es1 t2) = h1 at sb ho1 ⊢
      have tup1 : ∀ p ∈ L1, IsK P w h1 p.2 p.1 := fun p hp => by
        rcases List.mem_cons.mp (pm.mem_iff.mp hp) with e | hp
        · rw [e]
          exact isK_but hx ho hd sb
        · exact isK_but (R.tup p hp) ho hd sb
      by_cases full : t2.tooFull = true
      · have big : (L.length + 1) * 5 ≥ t2.mask * 3 := by
          have u := full
          unfold SetTable.tooFull at u
          rw [decide_eq_true_eq, f2, List.length_map] at u
          exact u
        have two : (t.mask = 7 ∧ L.length = 4) ∨ (t.mask = 31 ∧ L.length = 18) := by
          rcases R.tab.mok with e | e | e
          · rw [m2, e] at big
            rw [e] at room
            exact .inl ⟨e, by omega⟩
          · rw [m2, e] at big
            rw [e] at room
            exact .inr ⟨e, by omega⟩
          · exfalso
            rw [m2, e] at big
            omega
        have s1 : t2.place.size = es1.size := by
          have u := T2.sz
          rw [List.length_map, len] at u
          rw [u, z1]
        have go : ∀ M, SetTable.sizeAbove (SetTable.grown (L.length + 1)) - 1 = M → MaskOk M → SetTable.sizeAbove (SetTable.grown (L.length + 1)) ≤ 128 → (L.length + 1) * 5 < M * 3 →
            wpAny (model P w) A (setRelay S (SetTable.grown (L.length + 1))) (fun _ s' => wpAny (model P w) A (pure true) Q E s') E { s with heap := h1 } := fun M y1 y2 y3 y4 => by
          refine trelay (s := { s with heap := h1 }) ho1 ⟨hex.1, hex.2.1, hex.2.2⟩ rfl eb s1 T2.dm (by rw [z1, m2]; rcases two with ⟨e, e2⟩ | ⟨e, e2⟩ <;> omega) nd1 tup1 (by rw [len]; exact few) y1 y2 y3 (by rw [len]; exact y4) ?_
          intro h2 L2 es2 ep2 t2 sb2 R2 pm2
          exact wpAny_pure (hQ true h2 L2 es2 ep2 t2 (sb.trans sb2) R2 (fun z => absurd z hm) fun _ => pm2.trans pm)
        rw [sl]
        first
          | (refine wpAny_bind ?_; refine wp_if_pos (by simp [full]) ?_)
          | (refine wp_if_pos (by simp [full]) ?_; refine wpAny_bind ?_)
        rcases two with ⟨_, e2⟩ | ⟨_, e2⟩
        · exact go 31 (by rw [e2, size_20]) (.inr (.inl rfl)) (by rw [e2, size_20]; decide) (by omega)
        · exact go 127 (by rw [e2, size_76]) (.inr (.inr rfl)) (by rw [e2, size_76]; decide) (by omega)
      · first
          | refine wp_if_neg (by simp [full]) ?_
          | (refine wpAny_bind ?_; refine wp_if_neg (by simp [full]) ?_; refine wpAny_pure ?_)
        refine wpAny_pure (hQ true h1 L1 es1 (ep + 1) t2 sb ⟨⟨_, ho1, ⟨hex.1, hex.2.1, hex.2.2⟩, rfl⟩, eb, T2, nd1, tup1, ?_, by rw [len]; exact few⟩ (fun z => absurd z hm) fun _ => pm)
        have u := full
        unfold SetTable.tooFull at u
        rw [decide_eq_true_eq, f2, List.length_map] at u
        rw [len]
        omega
    by_cases pl : t1.plain = true
    · first
        | (refine wpAny_bind ?_; refine wp_if_pos pl ?_; refine hashV_tup hx fun c => ?_)
        | refine wp_if_pos pl (wpAny_bind (hashV_tup hx fun c => ?_))
      cases c with
      | true =>
        simp only [if_true]
        exact cont t1 q3 q4 q9
      | false =>
        simp only [Bool.false_eq_true, if_false]
        exact cont { t1 with plain := false } (tabOk_plain q3 false) q4 q9
    · first
        | (refine wpAny_bind ?_; refine wp_if_neg pl ?_; refine wpAny_pure ?_)
        | refine wp_if_neg pl (wpAny_bind (wpAny_pure ?_))
      simp only [if_true]
      exact cont t1 q3 q4 q9
end
end Kx
end
section
set_option maxRecDepth 100000
set_option maxHeartbeats 4000000
namespace Kx
open PySem PySem.Spec PyProof.Rows L2
/-! ### how many of the first i are unlike -/
section
variable {α : Type} [DecidableEq α]
def cntTo (xs : List α) : Nat → Nat
  | 0 => 0
  | i + 1 => match xs[i]? with
    | some x => if x ∈ xs.take i then cntTo xs i else cntTo xs i + 1
    | none => cntTo xs i
theorem cnt_le (xs : List α) : ∀ i, cntTo xs i ≤ i
  | 0 => Nat.le_refl _
  | i + 1 => by
    have h := cnt_le xs i
    unfold cntTo
    split
    · split <;> omega
    · omega
theorem cnt_step {xs : List α} {i : Nat} {x : α} (h : xs[i]? = some x) : cntTo xs (i + 1) = if x ∈ xs.take i then cntTo xs i else cntTo xs i + 1 := by
  conv => lhs; unfold cntTo
  rw [h]
theorem cnt_nodup {xs : List α} (n : xs.Nodup) : ∀ i, i ≤ xs.length → cntTo xs i = i
  | 0, _ => rfl
  | i + 1, hi => by
    have lt : i < xs.length := hi
    rw [cnt_step (List.getElem?_eq_getElem lt), cnt_nodup n i (Nat.le_of_lt lt), if_neg]
    intro hm
    obtain ⟨j, hj, e⟩ := List.getElem_of_mem hm
    rw [List.getElem_take] at e
    rw [List.length_take] at hj
    exact absurd e (List.pairwise_iff_getElem.mp n j i (by omega) lt (by omega))
theorem nodup_cnt {xs : List α} : ∀ i, i ≤ xs.length → cntTo xs i = i → (xs.take i).Nodup
  | 0, _, _ => by simp
  | i + 1, hi, e => by
    have lt : i < xs.length := hi
    have le := cnt_le xs i
    rw [cnt_step (List.getElem?_eq_getElem lt)] at e
    by_cases c : xs[i] ∈ xs.take i
    · rw [if_pos c] at e
      omega
    · rw [if_neg c] at e
      have ih := nodup_cnt i (Nat.le_of_lt lt) (by omega)
      rw [take_next (List.getElem?_eq_getElem lt), List.nodup_append]
      exact ⟨ih, by simp, fun a ha b hb => by
        rw [List.mem_singleton.mp hb]
        rintro rfl
        exact c ha⟩
/-- just lists without doubles have as many unlike things as things -/
theorem cnt_iff (xs : List α) : cntTo xs xs.length = xs.length ↔ xs.Nodup :=
  ⟨fun h => by
    have n := nodup_cnt xs.length (Nat.le_refl _) h
    rwa [List.take_length] at n, fun n => cnt_nodup n _ (Nat.le_refl _)⟩
end
section
variable {P : Program} {w : World} {A : Around} {E : Value → Shared → Prop} {s : Shared}
theorem fill_texts {S : Addr} {h0 : Heap} {us : List Value} {xs : List Str} (hs : StrsAre us xs) (few : xs.length < 4000) :
    Filled P w A E S h0 us.toArray (fun i h => i ≤ xs.length → h.SetOf (strKind P w) S (fun k => decide (k ∈ xs.take i)) (cntTo xs i)) where
  zero := fun h e _ => SetOf_congr ((setObjOf_fresh (knd := strKind P w) _).setOf e (by unfold scanBound; omega)) (fun _ => rfl) rfl
  keep := fun i h h' z k _ hi => by
    obtain ⟨o, es, ep, t, ho, r⟩ := z hi
    exact ⟨o, es, ep, t, k o ho, r⟩
  step := fun i v s hv z x Q hQ => by
    have hv' : us[i]? = some v := by simpa using hv
    have len := StrsAre.len_eq hs
    have il : i < xs.length := by
      have := (List.getElem?_eq_some_iff.mp hv').1
      omega
    have hx := List.getElem?_eq_getElem il
    obtain ⟨t, e⟩ := SS.strs_at hs i v hv'
    have ex : xs.getD i Str.empty = xs[i] := by simp [il]
    rw [ex] at e
    subst e
    have le := cnt_le xs i
    unfold setAdd
    refine wpAny_holding ?_
    refine wpAny_bind ((strKind P w).pyHash (k := xs[i]) (strKind_is _ _ _ _) ?_)
    refine wpAny_setAddHashed_of (knd := strKind P w) (s := { s with toks := s.toks + 1 }) (strKind_is _ _ _ _) rfl (z (Nat.le_of_lt il)) (by unfold scanBound; omega) fun h' sb z2 => ?_
    refine hQ _ h' (s.toks + 1) (Nat.le_succ _) sb fun _ => SetOf_congr z2 (fun k => ?_) ?_
    · show (decide (k ∈ xs.take i) || decide (k = xs[i])) = decide (k ∈ xs.take (i + 1))
      rw [take_next hx, ← Bool.decide_or]
      exact decide_eq_decide.mpr (by rw [List.mem_append, List.mem_singleton])
    · rw [cnt_step hx]
      by_cases c : xs[i] ∈ xs.take i <;> simp [c]
/-- what the set has got of the first i tuples -/
def GotK (P : Program) (w : World) (S : Addr) (ks : List (Addr × List Key)) (i : Nat) (h : Heap) : Prop :=
  ∃ L es ep t, TSet P w h S L es ep t ∧ (∀ p ∈ L, p ∈ ks.take i) ∧ (∀ p ∈ ks.take i, p.2 ∈ L.map (·.2)) ∧ L.length = cntTo (ks.map (·.2)) i
theorem fill_tups {S : Addr} {h0 : Heap} {ks : List (Addr × List Key)} {us : List Value} (hu : A.units < cLine) (hs : us = ks.map fun p => Value.ref p.1) (hk : ∀ p ∈ ks, IsK P w h0 p.2 p.1) (few : ks.length < 64) :
    Filled P w A E S h0 us.toArray (fun i h => i ≤ ks.length → GotK P w S ks i h) where
  zero := fun h e _ => ⟨[], #[], 0, _, ⟨⟨_, e, ⟨rfl, rfl, rfl⟩, rfl⟩, rfl, ⟨List.Pairwise.nil, rfl, rfl, .inl rfl, fun x hx => (by cases hx), fun i h j hi => (by simp at hi)⟩, List.nodup_nil, fun p hp => (by cases hp),
    (by show 0 * 5 < 7 * 3; decide), (by show 0 < 64; decide)⟩, fun p hp => (by cases hp), fun p hp => (by simp at hp), rfl⟩
  keep := fun i h h' z k x hi => by
    obtain ⟨L, es, ep, t, R, g1, g2, g3⟩ := z hi
    obtain ⟨o, ho, r⟩ := R.ob
    exact ⟨L, es, ep, t, ⟨⟨o, k o ho, r⟩, R.es_eq, R.tab, R.nd, fun p hp => isK_ext (hk p (List.mem_of_mem_take (g1 p hp))) x, R.room, R.few⟩, g1, g2, g3⟩
  step := fun i v s hv z x Q hQ => by
    subst hs
    have hv' : (ks.map fun p => Value.ref p.1)[i]? = some v := by simpa using hv
    rw [List.getElem?_map] at hv'
    obtain ⟨p, hp, rfl⟩ := Option.map_eq_some_iff.mp hv'
    have il : i < ks.length := (List.getElem?_eq_some_iff.mp hp).1
    obtain ⟨L, es, ep, t, R, g1, g2, g3⟩ := z (Nat.le_of_lt il)
    have le := cnt_le (ks.map (·.2)) i
    have hx : IsK P w s.heap p.2 p.1 := isK_ext (hk p (List.mem_of_getElem? hp)) x
    have hp2 : (ks.map (·.2))[i]? = some p.2 := by rw [List.getElem?_map, hp]; rfl
    have same : p.2 ∈ L.map (·.2) ↔ p.2 ∈ (ks.map (·.2)).take i := by
      rw [← List.map_take]
      constructor
      · intro h
        obtain ⟨q, hq, e⟩ := List.mem_map.mp h
        exact List.mem_map.mpr ⟨q, g1 q hq, e⟩
      · intro h
        obtain ⟨q, hq, e⟩ := List.mem_map.mp h
        rw [← e]
        exact g2 q hq
    unfold setAdd
    refine wpAny_holding ?_
    refine wpAny_bind (wpAny_pyHash_tuple hu hx ?_)
    refine tadd (s := { s with toks := s.toks + (p.2.length + 1) }) ⟨R.ob, R.es_eq, R.tab, R.nd, R.tup, R.room, R.few⟩ hx hu (by omega) rfl fun b h' L' es' ep' t' sb R' c1 c2 => ?_
    refine hQ b h' _ (Nat.le_add_right _ _) sb fun _ => ⟨L', es', ep', t', R', ?_, ?_, ?_⟩
    · intro q hq
      rw [take_next hp]
      rcases Classical.em (p.2 ∈ L.map (·.2)) with c | c
      · rw [c1 c] at hq
        exact List.mem_append_left _ (g1 q hq)
      · rcases List.mem_cons.mp ((c2 c).mem_iff.mp hq) with e | hq
        · rw [e]
          exact List.mem_append_right _ (List.mem_singleton.mpr rfl)
        · exact List.mem_append_left _ (g1 q hq)
    · intro q hq
      rw [take_next hp] at hq
      rcases Classical.em (p.2 ∈ L.map (·.2)) with c | c
      · rw [c1 c]
        rcases List.mem_append.mp hq with hq | hq
        · exact g2 q hq
        · rw [List.mem_singleton.mp hq]
          exact c
      · rw [((c2 c).map (·.2)).mem_iff, List.map_cons]
        rcases List.mem_append.mp hq with hq | hq
        · exact List.mem_cons_of_mem _ (g2 q hq)
        · rw [List.mem_singleton.mp hq]
          exact List.mem_cons_self
    · rw [cnt_step hp2]
      rcases Classical.em (p.2 ∈ L.map (·.2)) with c | c
      · rw [c1 c, if_pos (same.mp c), g3]
      · rw [(c2 c).length_eq, List.length_cons, if_neg (fun z => c (same.mpr z)), g3]
end
end Kx
end
section
set_option maxRecDepth 100000
set_option maxHeartbeats 4000000
namespace Kx
open PySem PySem.Spec PyProof.Rows L2
/-- x is a list of texts, or of tuples of keys, n of them unlike -/
def Unlike (K : PySem.W.Frag) (H : Hp) (x : V) (n : Nat) : Prop :=
  (∃ (l : Addr) (xs : List Str), x = .ref l ∧ SqL K H l (xs.map V.str) ∧ xs.length < 4000 ∧ n = cntTo xs xs.length) ∨
  (∃ (l : Addr) (ks : List (Addr × List Key)), x = .ref l ∧ SqL K H l (ks.map fun p => V.ref p.1) ∧ (∀ p ∈ ks, SqT K H p.1 (p.2.map kV)) ∧ ks.length < 64 ∧ n = cntTo (ks.map (·.2)) ks.length)
/-- len(set(xs)) -/
def tLenU (K : PySem.W.Frag) (ta : TE) : TE := fun σ H Q => ta σ H fun x H1 => ∃ n : Nat, Unlike K H1 x n ∧ Q (.int n) H1
section
variable {X : Cx} {pins : List (Addr × Obj)} {σ : L2.St} {H : Hp} {s : Shared}
theorem isK_of (I : Inv X pins σ H s) {t : Addr} {ks : List Key} (h : SqT X.K H t (ks.map kV)) : IsK X.prog X.w s.heap ks t := by
  obtain ⟨its, rv, hT, _⟩ := I.tuple h
  obtain ⟨o, ho, hc, n, hd⟩ := hT
  exact ⟨o, its.toArray, n, ho, hc, hd, by simpa using items_are rv⟩
theorem vals_refs : ∀ {ks : List (Addr × List Key)} {us : List Value}, Vals (ks.map fun p => V.ref p.1) us → us = ks.map fun p => Value.ref p.1
  | [], _, .nil => rfl
  | p :: ks, _, .cons r t => by
    rw [vals_refs t]
    have r' : _ = Value.ref p.1 := r
    rw [r']
    rfl
theorem pe_lenU {a : Expr} {ta : TE} {p p2 q pos : Pos} (hc : X.calm = true) (hu : X.A.units + 64 < cLine) (hg : Gl X "len") (hm : X.mg "len" = none) (hg2 : Gl X "set") (hm2 : X.mg "set" = none) (ha : PE X a ta)
    (na : starEach [a] X.env = (false, eval a X.env) :: starEach [] X.env := by rfl) : PE X (.Call (.Name "len" p) [.Call (.Name "set" p2) [a] [] q] [] pos) (tLenU X.K ta) := by
  refine ⟨fun pins s σ H Q I h => ?_⟩
  refine Call_ (ld_blt I hg hm PySem.boot_len ?_)
  refine PyProof.Rows.callWith_builtin1 (PyProof.Rows.args_cons ?_ rfl) rfl rfl
  refine Call_ (ld_blt I hg2 hm2 PyProof.Rows.boot_set ?_)
  refine PyProof.Rows.callWith_type1 (PyProof.Rows.args_cons (thn (ha.run pins s σ H _ I h) fun v s1 ⟨x, H1, I1, r1, n, un, q1⟩ => PyProof.Rows.args_nil ?_) na) na rfl
  have hz : s1.heap.get? s1.heap.objs.size = none := Heap.get?_none_of_le (Nat.le_refl _)
  rcases un with ⟨l, xs, rfl, hq, few, rfl⟩ | ⟨l, ks, rfl, hq, hk, few, rfl⟩
  · cases r1
    obtain ⟨its, r, pl, _⟩ := I1.list hq
    have sa := strsAre_of r
    have len : its.toArray.size = xs.length := by rw [List.size_toArray, ← r.length, List.length_map]
    refine call_set_any (I1.ok.hd hc) pl.isList (fun E => fill_texts sa few) fun h' tk hZ x => ?_
    rw [len] at hZ
    obtain ⟨o, es, ep, t, ho, hex, hd, _, _, _, hf, hn⟩ := hZ (Nat.le_refl _)
    have le := cnt_le xs xs.length
    have I2 : Inv X pins σ H1 { s1 with heap := h', toks := tk } := I1.kept fun b o e => x b o e
    exact PyProof.Rows.args_nil (call_len_set ho hex hd hf (by rw [hn]; omega) ⟨.int _, H1, I2.tok _, ⟨_, by rw [hn]⟩, q1⟩)
  · cases r1
    obtain ⟨its, r, pl, _⟩ := I1.list hq
    have su := vals_refs r
    have len : its.toArray.size = ks.length := by rw [List.size_toArray, su, List.length_map]
    refine call_set_any (I1.ok.hd hc) pl.isList (fun E => fill_tups (by show X.A.units + 3 < cLine; omega) su (fun p hp => isK_of I1 (hk p hp)) few) fun h' tk hZ x => ?_
    rw [len] at hZ
    obtain ⟨L, es, ep, t, R, g1, g2, g3⟩ := hZ (Nat.le_refl _)
    obtain ⟨o, ho, hex, hd⟩ := R.ob
    have sl := ents_size R.es_eq
    have le := cnt_le (ks.map (·.2)) ks.length
    have I2 : Inv X pins σ H1 { s1 with heap := h', toks := tk } := I1.kept fun b o e => x b o e
    have fits : t.fits es.size = true := TSet.fits (s := { s1 with heap := h' }) R
    exact PyProof.Rows.args_nil (call_len_set ho hex hd fits (by rw [sl, g3]; omega) ⟨.int _, H1, I2.tok _, ⟨_, by rw [sl, g3]⟩, q1⟩)
end
end Kx
end
section
set_option maxRecDepth 100000
set_option maxHeartbeats 4000000
namespace Wd
open PySem L2
abbrev Pr := Str × Str
/-- a pair as the values of its tuple, as a key -/
def tv (p : Pr) : V × V := (.str p.1, .str p.2)
def pk (p : Pr) : List Key := [.inr p.1, .inr p.2]
theorem pk_inj {p q : Pr} (h : pk p = pk q) : p = q := by
  unfold pk at h
  injection h with h1 h2
  injection h2 with h2 _
  injection h1 with h1
  injection h2 with h2
  exact Prod.ext h1 h2
/-- all pairs of some texts, in their order -/
def prsS : List Str → List Pr
  | [] => []
  | x :: r => r.map (fun y => (x, y)) ++ prsS r
theorem prs_strs : ∀ xs : List Str, prs (xs.map V.str) = (prsS xs).map tv
  | [] => rfl
  | x :: r => by
    show (r.map V.str).map (fun y => (V.str x, y)) ++ prs (r.map V.str) = _
    rw [prs_strs r, List.map_map]
    show _ = (r.map (fun y => (x, y)) ++ prsS r).map tv
    rw [List.map_append, List.map_map]
    rfl
/-- the list of pairs ps stands at l -/
def PwAt (H : Hp) (l : Addr) (ps : List Pr) : Prop := PrsAt H l (ps.map tv)
/-- some people, ascending, and pairs of them, ascending -/
structure Good (xs : List Str) (ps : List Pr) : Prop where
  asc : Asc xs
  word : ∀ x ∈ xs, IsW x
  few : 1 ≤ xs.length ∧ xs.length ≤ 9
  sub : ps.Sublist (prsS xs)
/-- the world of xs and ps stands at a -/
def WAt (H : Hp) (a : Addr) (xs : List Str) (ps : List Pr) : Prop := ∃ c l, H a = some (.lst [.ref c, .ref l]) ∧ H c = some (.lst (xs.map V.str)) ∧ PwAt H l ps
theorem PrsAt.same {H H' : Hp} {l : Addr} {ps : List (V × V)} (h : PrsAt H l ps) (s : Same H H') : PrsAt H' l ps := by
  obtain ⟨Ts, e, t⟩ := h
  exact ⟨Ts, s _ _ e, t.same s⟩
theorem WAt.same {H H' : Hp} {a : Addr} {xs : List Str} {ps : List Pr} (h : WAt H a xs ps) (s : Same H H') : WAt H' a xs ps := by
  obtain ⟨c, l, e1, e2, e3⟩ := h
  exact ⟨c, l, s _ _ e1, s _ _ e2, e3.same s⟩
theorem mem_prsS {xs : List Str} (a : Asc xs) {p : Pr} (h : p ∈ prsS xs) : p.1 ∈ xs ∧ p.2 ∈ xs ∧ Lt p.1 p.2 := by
  induction xs with
  | nil => cases h
  | cons x r ih =>
    obtain ⟨a1, a2⟩ := List.pairwise_cons.mp a
    rcases List.mem_append.mp h with h | h
    · obtain ⟨y, hy, rfl⟩ := List.mem_map.mp h
      exact ⟨List.mem_cons_self, List.mem_cons_of_mem _ hy, a1 y hy⟩
    · obtain ⟨b1, b2, b3⟩ := ih a2 h
      exact ⟨List.mem_cons_of_mem _ b1, List.mem_cons_of_mem _ b2, b3⟩
theorem prsS_mem {xs : List Str} (a : Asc xs) {p : Pr} (h1 : p.1 ∈ xs) (h2 : p.2 ∈ xs) (h3 : Lt p.1 p.2) : p ∈ prsS xs := by
  induction xs with
  | nil => cases h1
  | cons x r ih =>
    obtain ⟨a1, a2⟩ := List.pairwise_cons.mp a
    refine List.mem_append.mpr ?_
    rcases List.mem_cons.mp h1 with e | h1
    · rcases List.mem_cons.mp h2 with e2 | h2
      · rw [e, e2] at h3
        exact absurd h3 (Lt.irr _)
      · exact .inl (List.mem_map.mpr ⟨p.2, h2, by rw [← e]⟩)
    · rcases List.mem_cons.mp h2 with e2 | h2
      · exfalso
        rw [e2] at h3
        exact Lt.irr _ (h3.tr (a1 _ h1))
      · exact .inr (ih a2 h1 h2)
/-- the order of pairs -/
def LtP (p q : Pr) : Prop := Lt p.1 q.1 ∨ (p.1 = q.1 ∧ Lt p.2 q.2)
theorem LtP.irr (p : Pr) : ¬ LtP p p := fun h => h.elim (Lt.irr _) fun h => Lt.irr _ h.2
theorem LtP.tr {p q r : Pr} (h : LtP p q) (k : LtP q r) : LtP p r := by
  rcases h with h | ⟨e, h⟩
  · rcases k with k | ⟨e2, k⟩
    · exact .inl (h.tr k)
    · exact .inl (e2 ▸ h)
  · rcases k with k | ⟨e2, k⟩
    · exact .inl (e ▸ k)
    · exact .inr ⟨e.trans e2, h.tr k⟩
theorem LtP.tri (p q : Pr) : LtP p q ∨ p = q ∨ LtP q p := by
  rcases Lt.tri p.1 q.1 with h | h | h
  · exact .inl (.inl h)
  · rcases Lt.tri p.2 q.2 with k | k | k
    · exact .inl (.inr ⟨h, k⟩)
    · exact .inr (.inl (Prod.ext h k))
    · exact .inr (.inr (.inr ⟨h.symm, k⟩))
  · exact .inr (.inr (.inl h))
theorem prsS_asc {xs : List Str} (a : Asc xs) : (prsS xs).Pairwise LtP := by
  induction xs with
  | nil => exact List.Pairwise.nil
  | cons x r ih =>
    obtain ⟨a1, a2⟩ := List.pairwise_cons.mp a
    refine List.pairwise_append.mpr ⟨List.pairwise_map.mpr (a2.imp fun h => .inr ⟨rfl, h⟩), ih a2, fun p hp q hq => ?_⟩
    obtain ⟨y, _, rfl⟩ := List.mem_map.mp hp
    exact .inl (a1 _ (mem_prsS a2 hq).1)
/-- two strictly ascending lists of the same pairs are one -/
theorem asc_uniq : ∀ {l m : List Pr}, l.Pairwise LtP → m.Pairwise LtP → (∀ p, p ∈ l ↔ p ∈ m) → l = m
  | [], [], _, _, _ => rfl
  | [], q :: m, _, _, h => absurd ((h q).mpr List.mem_cons_self) (by simp)
  | p :: l, [], _, _, h => absurd ((h p).mp List.mem_cons_self) (by simp)
  | p :: l, q :: m, h1, h2, h => by
    obtain ⟨a1, a2⟩ := List.pairwise_cons.mp h1
    obtain ⟨b1, b2⟩ := List.pairwise_cons.mp h2
    have e : p = q := by
      rcases List.mem_cons.mp ((h p).mp List.mem_cons_self) with e | hp
      · exact e
      · rcases List.mem_cons.mp ((h q).mpr List.mem_cons_self) with e | hq
        · exact e.symm
        · exact absurd ((a1 q hq).tr (b1 p hp)) (LtP.irr _)
    subst e
    refine congrArg (p :: ·) (asc_uniq a2 b2 fun r => ⟨fun hr => ?_, fun hr => ?_⟩)
    · rcases List.mem_cons.mp ((h r).mp (List.mem_cons_of_mem _ hr)) with e | hr'
      · rw [e] at hr
        exact absurd (a1 p hr) (LtP.irr _)
      · exact hr'
    · rcases List.mem_cons.mp ((h r).mpr (List.mem_cons_of_mem _ hr)) with e | hr'
      · rw [e] at hr
        exact absurd (b1 p hr) (LtP.irr _)
      · exact hr'
instance : DecidableEq Pr := inferInstance
/-- what is ascending and among the pairs is the pairs filtered -/
theorem sub_of_asc {xs : List Str} (a : Asc xs) {l : List Pr} (h : l.Pairwise LtP) (m : ∀ p ∈ l, p ∈ prsS xs) : l.Sublist (prsS xs) := by
  have e : l = (prsS xs).filter fun p => decide (p ∈ l) := by
    refine asc_uniq h ((prsS_asc a).filter _) fun p => ⟨fun hp => List.mem_filter.mpr ⟨m p hp, decide_eq_true hp⟩, fun hp => of_decide_eq_true (List.mem_filter.mp hp).2⟩
  rw [e]
  exact List.filter_sublist
theorem Good.ascP {xs : List Str} {ps : List Pr} (g : Good xs ps) : ps.Pairwise LtP := (prsS_asc g.asc).sublist g.sub
theorem Good.nodup {xs : List Str} {ps : List Pr} (g : Good xs ps) : ps.Nodup := List.Pairwise.imp (fun {p q} (h : LtP p q) (e : p = q) => LtP.irr q (by rw [e] at h; exact h)) g.ascP
theorem prsS_len : ∀ xs : List Str, 2 * (prsS xs).length + xs.length = xs.length * xs.length
  | [] => rfl
  | x :: r => by
    have h := prsS_len r
    show 2 * (r.map (fun y => (x, y)) ++ prsS r).length + (r.length + 1) = (r.length + 1) * (r.length + 1)
    rw [List.length_append, List.length_map]
    have e : (r.length + 1) * (r.length + 1) = r.length * r.length + r.length + (r.length + 1) := by
      rw [Nat.add_mul, Nat.one_mul, Nat.mul_add, Nat.mul_one]
    omega
theorem sq9 {n : Nat} (h : n ≤ 9) : n * n ≤ 72 + n := by
  have : n = 0 ∨ n = 1 ∨ n = 2 ∨ n = 3 ∨ n = 4 ∨ n = 5 ∨ n = 6 ∨ n = 7 ∨ n = 8 ∨ n = 9 := by omega
  rcases this with e | e | e | e | e | e | e | e | e | e <;> subst e <;> decide
theorem Good.len0 {xs : List Str} (h : xs.length ≤ 9) : (prsS xs).length ≤ 36 := by
  have h2 := prsS_len xs
  have h3 := sq9 h
  omega
theorem Good.len {xs : List Str} {ps : List Pr} (g : Good xs ps) : ps.length ≤ 36 := Nat.le_trans g.sub.length_le (Good.len0 g.few.2)
end Wd
end
section
set_option maxRecDepth 100000
set_option maxHeartbeats 4000000
namespace Wd
open PySem L2
/-- the dictionary from the pairs -/
def netK (ps : List Pr) : List (List Key × V) := ps.map fun p => (pk p, .bl true)
def spNet : Sp := fun vs H Q _ => ∃ (a : Addr) (xs : List Str) (ps : List Pr), vs = [.ref a] ∧ WAt H a xs ps ∧ ps.Nodup ∧ ps.length ≤ 100 ∧
  ∀ (H' : Hp) (D : Addr), Same H H' → H D = none → H' D = some (.dT (netK ps)) → Q (.ref D) H'
section
variable {P : Program} {w : World} {K : PySem.W.Frag} {mg : Str → Option Value} {base : Heap}
set_option maxHeartbeats 1000000 in
theorem ok_net {f : Addr} {fd : FuncData} (F : Fun K "_law_net" "_law_net" s_net f fd) (T : Bt mg) : FnOk P w K mg base CX0 1 f fd ["_law_world_here"] spNet := by
  refine F.ok c_net (fun vs H Q E h => ?_) (fun cdv A outer s H vs Q E hr h => ?_)
  · obtain ⟨_, _, _, rfl, _⟩ := h
    rfl
  · obtain ⟨a, xs, ps, rfl, ⟨c, l, ha, hc, Ts, hl, tu⟩, nd, few, k⟩ := h
    refine ⟨_, pss_one (ps_ret (pe_callTy (Kx.cr_dictT rfl hr.units) (by rfl) T.dict (by decide +kernel) (pa_cons (pe_lc (own := [("_law_pair_here", 1)]) (g := gName 1) (tt := tYes) rfl c_net.nd (pi_list (pe_ix ix_list (pv 0) pe_int (fun _ _ => rfl)))
      (blkOk_by (N := ["_law_world_here", "_law_pair_here"]) (sc := defScope s_net) (by decide +kernel)) (fun _ _ _ _ _ => pg_name (i := 1) c_net.nd rfl (Or.inl rfl)) (fun _ _ _ _ _ => pts_nil)
      (fun _ _ _ _ _ => pe_tup (pa_cons (pv 1) (pa_cons pe_bl pa_nil)))) pa_nil))), ?_⟩
    refine ⟨_, rfl, a, _, _, _, rfl, rfl, SqL.of ha, rfl, l, rfl, ⟨_, SqL.of hl⟩, fun C hC => ?_⟩
    have lT : Ts.length = ps.length := by rw [tu.1, List.length_map]
    refine lc_list (xs := Ts.map V.ref) (fun j H2 => ∃ Us : List Addr, H2 C = some (.lst (Us.map V.ref)) ∧ Same H H2 ∧ Tups H2 Us ((Ts.take j).map fun T => (V.ref T, V.bl true)))
      ⟨[], upd_same, same_new hC, Tups.nil⟩ (fun j H2 _ ⟨Us, _, s6, _⟩ => SqL.of (s6 _ _ hl)) ?_ ?_
    · rintro j v H2 hv ⟨Us, hu, s6, tu2⟩
      rw [List.getElem?_map] at hv
      obtain ⟨T0, hT, rfl⟩ := Option.map_eq_some_iff.mp hv
      have jl := (List.getElem?_eq_some_iff.mp hT).1
      refine ⟨rfl, _, rfl, by show 2 ≤ sizeLine; decide, fun Z hZ => ?_⟩
      have CZ : C ≠ Z := ne_of_none hu hZ
      have lu : Us.length ≤ 100 := by
        rw [tu2.1, List.length_map, List.length_take]
        omega
      have cne : ∀ T ∈ Us, T ≠ C := tu2.ne fun x y e => by
        rw [hu] at e
        cases e
      refine ⟨_, by rw [upd_ne CZ]; exact hu, by rw [List.length_map, sizeLine_eq]; omega, Us ++ [Z], by rw [upd_same]; simp, fun b o e => ?_, ?_⟩
      · have bC : b ≠ C := ne_of_none e hC
        have e2 := s6 _ _ e
        rw [upd_ne bC, upd_ne (ne_of_none e2 hZ)]
        exact e2
      · rw [take_next hT, List.map_append]
        have t3 : Tups (upd (upd H2 Z (.tup [.ref T0, .bl true])) C (.lst (Us.map V.ref ++ [V.ref Z]))) Us ((Ts.take j).map fun T => (V.ref T, V.bl true)) :=
          tu2.keep fun T o hT' e => by
            rw [upd_ne (cne T hT'), upd_ne (ne_of_none e hZ)]
            exact e
        exact t3.snoc (p := (V.ref T0, V.bl true)) (by rw [upd_ne (Ne.symm CZ), upd_same])
    · rintro H2 ⟨Us, hu, s6, tu2⟩
      rw [List.length_map, List.take_length] at tu2
      have lu : Us.length = Ts.length := by rw [tu2.1, List.length_map]
      refine ⟨C, Us, (Ts.zip ps).map fun q => (pk q.2, q.1, V.bl true), rfl, SqL.of hu, by rw [List.length_map, List.length_zip]; omega, fun j U q h1 h2 => ?_, ?_, fun p hp => ?_⟩
      · rw [List.getElem?_map] at h2
        obtain ⟨⟨T0, p0⟩, hz, rfl⟩ := Option.map_eq_some_iff.mp h2
        obtain ⟨z1, z2⟩ := List.getElem?_zip_eq_some.mp hz
        have e1 := tu2.2 j U (V.ref T0, V.bl true) h1 (by rw [List.getElem?_map, z1]; rfl)
        have e2 := tu.2 j T0 (tv p0) z1 (by rw [List.getElem?_map, z2]; rfl)
        exact ⟨SqT.of e1, s6 _ _ e2⟩
      · rw [List.map_map]
        have e : (Ts.zip ps).map ((fun q : List Key × Addr × V => q.1) ∘ fun q : Addr × Pr => (pk q.2, q.1, V.bl true)) = ((Ts.zip ps).map Prod.snd).map pk := by
          rw [List.map_map]
          rfl
        rw [e, List.map_snd_zip (by omega)]
        exact List.Pairwise.map pk (fun a b (h : a ≠ b) e => h (pk_inj e)) nd
      · have e : ((Ts.zip ps).map fun q => (pk q.2, q.1, V.bl true)).map (fun q : List Key × Addr × V => (q.1, q.2.2)) = netK ps := by
          unfold netK
          conv => rhs; rw [← List.map_snd_zip (l₁ := Ts) (l₂ := ps) (by omega)]
          rw [List.map_map, List.map_map]
          rfl
        rw [e]
        have nP : H p = none := by
          cases e0 : H p with
          | none => rfl
          | some o =>
            rw [s6 _ _ e0] at hp
            cases hp
        exact k _ p (fun b o e0 => by rw [upd_ne (ne_of_none e0 nP)]; exact s6 b o e0) nP upd_same
end
end Wd
end
section
set_option maxRecDepth 100000
set_option maxHeartbeats 4000000
namespace Wd
open PySem L2
theorem net_get (ps : List Pr) (p : Pr) : (valV (netK ps) (pk p)).isSome = decide (p ∈ ps) := by
  unfold valV netK
  rw [Option.isSome_map]
  induction ps with
  | nil => simp
  | cons q ps ih =>
    rw [List.map_cons, List.find?_cons]
    by_cases h : q = p
    · subst h
      simp
    · have h' : ¬ pk q = pk p := fun e => h (pk_inj e)
      simp only [decide_eq_false h']
      rw [ih]
      exact decide_eq_decide.mpr ⟨fun z => List.mem_cons_of_mem _ z, fun z => by
        rcases List.mem_cons.mp z with e | z
        · exact absurd e.symm h
        · exact z⟩
def spOpp : Sp := fun vs H Q _ => ∃ (a : Addr) (xs : List Str) (ps : List Pr), vs = [.ref a] ∧ WAt H a xs ps ∧ Good xs ps ∧
  ∀ (H' : Hp) (D : Addr), Same H H' → H D = none → WAt H' D xs ((prsS xs).filter fun p => decide (p ∉ ps)) → Q (.ref D) H'
theorem same_none {H H' : Hp} {a : Addr} (s : Same H H') (h : H' a = none) : H a = none := by
  cases e : H a with
  | none => rfl
  | some o =>
    rw [s _ _ e] at h
    cases h
theorem same_updN {H H' : Hp} {a : Addr} {o : HO} (s : Same H H') (h : H' a = none) : Same H (upd H' a o) := fun b u e => by
  have e2 := s _ _ e
  rw [upd_ne (ne_of_none e2 h)]
  exact e2
/-- a fresh list is written again: what stood before it stays -/
theorem same_upd2 {H H' : Hp} {C : Addr} {o : HO} (s : Same (upd H C (.lst [])) H' ∨ Same H H') (hC : H C = none) : Same H (upd H' C o) := fun b u e => by
  have nb : b ≠ C := ne_of_none e hC
  rw [upd_ne nb]
  rcases s with s | s
  · exact s _ _ (by rw [upd_ne nb]; exact e)
  · exact s _ _ e
theorem Tups.upd {H : Hp} {Ts : List Addr} {ps : List (V × V)} (t : Tups H Ts ps) {a : Addr} {o : HO} (h : ∀ x y, H a ≠ some (.tup [x, y])) : Tups (L2.upd H a o) Ts ps := by
  have ne := t.ne h
  exact t.keep fun T u hT e => by
    rw [upd_ne (ne T hT)]
    exact e
section
variable {P : Program} {w : World} {K : PySem.W.Frag} {mg : Str → Option Value} {base : Heap}
set_option maxHeartbeats 1000000 in
theorem ok_opp {f : Addr} {fd : FuncData} (F : Fun K "_law_opposite" "_law_opposite" s_opposite f fd) (T : Bt mg) (CN : Has P w K mg base 1 "_law_net" ["_law_world_here"] spNet) (CP : Has P w K mg base 1 "_law_pairs" ["_law_crowd"] spPairs) :
    FnOk P w K mg base CX0 2 f fd ["_law_world_here"] spOpp := by
  obtain ⟨fN, fdN, GN, mN, kN, bN⟩ := CN
  obtain ⟨fP, fdP, GP, mP, kP, bP⟩ := CP
  refine F.ok c_opposite (fun vs H Q E h => ?_) (fun cdv A outer s H vs Q E hr h => ?_)
  · obtain ⟨_, _, _, rfl, _⟩ := h
    rfl
  · obtain ⟨a, xs, ps, rfl, W0, g, k⟩ := h
    have hr1 : Room 1 _ := hr.mono (by decide)
    refine ⟨_, pss_cons (ps_set (i := 1) c_opposite.nd rfl (Or.inr rfl) (pe_call GN hr1 rfl mN kN bN .nil pass0 (pa_cons (pv 0) pa_nil)))
      (pss_one (ps_ret (pe_lst (pa_cons (pe_ix ix_list (pv 0) pe_int (fun _ _ => rfl)) (pa_cons (pe_lc (own := [("_law_pair_here", 2)]) (g := gName 2) rfl c_opposite.nd (pi_list (pe_call GP hr1 rfl mP kP bP .nil pass0 (pa_cons (pe_ix ix_list (pv 0) pe_int (fun _ _ => rfl)) pa_nil)))
        (blkOk_by (N := ["_law_world_here", "_law_net_here", "_law_pair_here"]) (sc := defScope s_opposite) (by decide +kernel)) (fun _ _ _ _ _ => pg_name (i := 2) c_opposite.nd rfl (Or.inl rfl)) (fun _ _ _ _ _ => pts_one (pt_cmp (pc_dnotin (hu_of hr1) (pv 2) (pv 1))))
        (fun _ _ _ _ _ => pv 2)) pa_nil))))), ?_⟩
    obtain ⟨c, l, ha, hc, hps⟩ := id W0
    have few := g.len
    refine ⟨_, rfl, a, xs, ps, rfl, W0, g.nodup, by omega, fun H1 N s1 nN hN => ?_⟩
    have ha1 := s1 _ _ ha
    have hc1 := s1 _ _ hc
    refine ⟨_, rfl, a, _, _, .ref c, rfl, rfl, SqL.of ha1, rfl, ?_⟩
    refine ⟨_, rfl, a, _, _, .ref c, rfl, rfl, SqL.of ha1, rfl, c, xs.map V.str, rfl, hc1, by rw [List.length_map]; have := g.few; omega, fun H2 D s2 nD ⟨Ts, hd, tu⟩ => ?_⟩
    rw [prs_strs] at tu
    have lT : Ts.length = (prsS xs).length := by rw [tu.1, List.length_map]
    have l36 := Good.len0 g.few.2
    have hN2 := s2 _ _ hN
    refine ⟨D, rfl, ⟨_, SqL.of hd⟩, fun C hC => ?_⟩
    refine lc_list (xs := Ts.map V.ref) (fun j H3 => ∃ Us : List Addr, H3 C = some (.lst (Us.map V.ref)) ∧ Same H2 H3 ∧ Tups H3 Us ((((prsS xs).take j).filter fun p => decide (p ∉ ps)).map tv))
      ⟨[], upd_same, same_new hC, Tups.nil⟩ (fun j H3 _ ⟨Us, _, s6, _⟩ => SqL.of (s6 _ _ hd)) ?_ ?_
    · rintro j v H3 hv ⟨Us, hu, s6, tu2⟩
      rw [List.getElem?_map] at hv
      obtain ⟨T0, hT, rfl⟩ := Option.map_eq_some_iff.mp hv
      have jl := (List.getElem?_eq_some_iff.mp hT).1
      have hp : (prsS xs)[j]? = some (prsS xs)[j] := List.getElem?_eq_getElem (by omega)
      generalize (prsS xs)[j] = p at hp
      have e1 := s6 _ _ (tu.2 j T0 (tv p) hT (by rw [List.getElem?_map, hp]; rfl))
      refine ⟨rfl, _, rfl, _, rfl, N, _, rfl, DGet.t (k := pk p) (s6 _ _ hN2) e1, _, rfl, ?_⟩
      rw [net_get]
      have nx : ((prsS xs).take (j + 1)).filter (fun p => decide (p ∉ ps)) = ((prsS xs).take j).filter (fun p => decide (p ∉ ps)) ++ (if p ∈ ps then [] else [p]) := by
        rw [take_next hp, List.filter_append]
        by_cases c : p ∈ ps <;> simp [c]
      refine ite2 (fun hb => ?_) (fun hb => ?_)
      · have c : p ∉ ps := by simpa using hb
        have lu : Us.length ≤ 36 := by
          rw [tu2.1, List.length_map]
          have h1 := List.length_filter_le (fun p => decide (p ∉ ps)) ((prsS xs).take j)
          rw [List.length_take] at h1
          omega
        refine ⟨_, rfl, _, hu, by rw [List.length_map, sizeLine_eq]; omega, Us ++ [T0], by rw [upd_same]; simp, same_upd2 (.inr s6) hC, ?_⟩
        rw [nx, if_neg c, List.map_append]
        have t3 := tu2.upd (a := C) (o := .lst (Us.map V.ref ++ [V.ref T0])) fun x y e => by
          rw [hu] at e
          cases e
        exact t3.snoc (p := tv p) (by rw [upd_ne (ne_of hu e1 (fun z => nomatch z)).symm]; exact e1)
      · have c : p ∈ ps := by simpa using hb
        refine ⟨Us, hu, s6, ?_⟩
        rw [nx, if_pos c, List.append_nil]
        exact tu2
    · rintro H3 ⟨Us, hu, s6, tu2⟩
      have e0 : (prsS xs).take (Ts.map V.ref).length = prsS xs := by rw [List.length_map, lT, List.take_length]
      rw [e0] at tu2
      refine ⟨by show 2 ≤ sizeLine; decide, fun Z hZ => ?_⟩
      have s7 : Same H H3 := (s1.trans s2).trans s6
      refine k _ Z (same_updN s7 hZ) (same_none s7 hZ) ⟨c, C, upd_same, (same_updN s7 hZ) _ _ hc, Us, by rw [upd_ne (ne_of_none hu hZ)]; exact hu, tu2.keep fun T o _ e => by rw [upd_ne (ne_of_none e hZ)]; exact e⟩
end
end Wd
end
section
set_option maxRecDepth 100000
set_option maxHeartbeats 4000000
namespace Wd
open PySem L2
/-- a pair as data -/
def pd (p : Pr) : PyData := .tuple [.str p.1, .str p.2]
instance (p q : Pr) : Decidable (LtP p q) := inferInstanceAs (Decidable (_ ∨ _))
theorem pd_alike (p q : Pr) : PySem.W.alike (pd p) (pd q) = true := by simp [pd, PySem.W.alike, PySem.W.alikeAll]
theorem str_eqv (a b : Str) : PyData.eqv (.str a) (.str b) = decide (a = b) := by
  simp only [PyData.eqv]
  by_cases h : a = b
  · subst h
    simp
  · rw [decide_eq_false h]
    exact beq_eq_false_iff_ne.mpr h
theorem pd_eqv (p q : Pr) : PyData.eqv (pd p) (pd q) = decide (p = q) := by
  have e : PyData.eqv (pd p) (pd q) = (PyData.eqv (.str p.1) (.str q.1) && (PyData.eqv (.str p.2) (.str q.2) && true)) := by simp only [pd, PyData.eqv, PyData.eqvAll]
  rw [e, str_eqv, str_eqv, Bool.and_true, ← Bool.decide_and]
  exact decide_eq_decide.mpr ⟨fun h => Prod.ext h.1 h.2, fun h => by rw [h]; exact ⟨rfl, rfl⟩⟩
theorem pd_lt (p q : Pr) : PySem.W.dataLt (pd p) (pd q) = decide (LtP p q) := by
  have h := PySem.W.dataLt_pair (x := .str p.1) (y := .str p.2) (x' := .str q.1) (y' := .str q.2) (by simp [PySem.W.alike]) (by simp [PySem.W.alike])
  show PySem.W.dataLt (.tuple [.str p.1, .str p.2]) (.tuple [.str q.1, .str q.2]) = _
  rw [h, str_eqv, str_eqv, PySem.W.dataLt_str, PySem.W.dataLt_str]
  by_cases e : p.1 = q.1
  · rw [decide_eq_true e, if_pos rfl]
    by_cases e2 : p.2 = q.2
    · rw [decide_eq_true e2, if_pos rfl]
      refine (decide_eq_false fun z => ?_).symm
      rcases z with z | z
      · rw [e] at z
        exact Lt.irr _ z
      · rw [e2] at z
        exact Lt.irr _ z.2
    · rw [decide_eq_false e2, if_neg (by decide)]
      refine decide_eq_decide.mpr ⟨fun z => .inr ⟨e, z⟩, fun z => ?_⟩
      rcases z with z | z
      · rw [e] at z
        exact absurd z (Lt.irr _)
      · exact z.2
  · rw [decide_eq_false e, if_neg (by decide)]
    refine decide_eq_decide.mpr ⟨fun z => .inl z, fun z => ?_⟩
    rcases z with z | z
    · exact z
    · exact absurd z.1 e
theorem isW_ok {x : Str} (h : IsW x) : PyData.strOk x = true := by
  unfold PyData.strOk
  rw [← Array.all_toList, List.all_eq_true]
  intro c hc
  have := h.2.2 c hc
  exact decide_eq_true (by omega)
theorem pd_shaped {p : Pr} (w1 : IsW p.1) (w2 : IsW p.2) : SeqAt.shaped (pd p) = true := by
  show ((pd p).canLay0 && decide ((pd p).depth ≤ 64)) = true
  have h1 : (pd p).canLay0 = true := by simp [pd, PyData.canLay0, PyData.canLayAll0, isW_ok w1, isW_ok w2]
  have h2 : (pd p).depth = 1 := by simp [pd, PyData.depth, PyData.depthAll]
  rw [h1, h2]
  rfl
theorem pd_depth (p : Pr) : (pd p).depth ≤ 40 := by simp [pd, PyData.depth, PyData.depthAll]
theorem dp_pair {K : PySem.W.Frag} {H : Hp} {T : Addr} {p : Pr} (h : SqT K H T [.str p.1, .str p.2]) : Dp K H (.ref T) (pd p) := .tup h (.cons (.str _) (.cons (.str _) .nil))
/-- the tuples at Ts, with what they hold, sorted -/
def sortZ (Ts : List Addr) (ps : List Pr) : List (Addr × Pr) := (Ts.zip ps).mergeSort fun a b => !decide (LtP b.2 a.2)
theorem sortZ_perm (Ts : List Addr) (ps : List Pr) : (sortZ Ts ps).Perm (Ts.zip ps) := List.mergeSort_perm _ _
theorem sortZ_asc {Ts : List Addr} {ps : List Pr} (hl : Ts.length = ps.length) (nd : ps.Nodup) : ((sortZ Ts ps).map Prod.snd).Pairwise LtP := by
  have h := List.pairwise_mergeSort (le := fun a b : Addr × Pr => !decide (LtP b.2 a.2)) (fun a b c h1 h2 => by
    rw [Bool.not_eq_true', decide_eq_false_iff_not] at h1 h2 ⊢
    intro z
    rcases LtP.tri b.2 a.2 with q | q | q
    · exact h1 q
    · rw [q] at h2
      exact h2 z
    · exact h2 (z.tr q)) (fun a b => by
    rw [Bool.or_eq_true, Bool.not_eq_true', Bool.not_eq_true', decide_eq_false_iff_not, decide_eq_false_iff_not]
    by_cases c : LtP b.2 a.2
    · exact .inr fun z => LtP.irr _ (c.tr z)
    · exact .inl c) (Ts.zip ps)
  have pm := (sortZ_perm Ts ps).map Prod.snd
  rw [List.map_snd_zip (by omega)] at pm
  have nd2 := pm.nodup_iff.mpr nd
  rw [List.pairwise_map]
  have nd3 : (sortZ Ts ps).Pairwise fun a b => a.2 ≠ b.2 := List.pairwise_map.mp nd2
  refine List.Pairwise.imp (fun {a b} (h : (!decide (LtP b.2 a.2)) = true ∧ a.2 ≠ b.2) => ?_) (List.Pairwise.and h nd3)
  rw [Bool.not_eq_true', decide_eq_false_iff_not] at h
  rcases LtP.tri a.2 b.2 with q | q | q
  · exact q
  · exact absurd q h.2
  · exact absurd q h.1
def zv (q : Addr × Pr) : Kx.DV := (.ref q.1, pd q.2)
theorem sorted_zv (Ts : List Addr) (ps : List Pr) : Kx.sortedD ((Ts.zip ps).map zv) = (sortZ Ts ps).map zv := by
  unfold Kx.sortedD sortZ
  refine (List.map_mergeSort fun a _ b _ => ?_).symm
  show (!decide (LtP b.2 a.2)) = PySem.W.dataLe false (fun b : Kx.DV => b.2) (zv a) (zv b)
  rw [PySem.W.dataLe_eq]
  show _ = !PySem.W.dataLt (pd b.2) (pd a.2)
  rw [pd_lt]
/-- sorted(xs) of a list of pairs, none twice -/
theorem sorted_prs {K : PySem.W.Frag} {H : Hp} {a : Addr} {Ts : List Addr} {ps : List Pr} {Q : VK} (ha : H a = some (.lst (Ts.map V.ref))) (tu : Tups H Ts (ps.map tv)) (nd : ps.Nodup)
    (q : ∀ (D : Addr) (Us : List Addr) (qs : List Pr), H D = none → qs.Pairwise LtP → (∀ p, p ∈ qs ↔ p ∈ ps) → Tups H Us (qs.map tv) → (∀ U ∈ Us, U ∈ Ts) → Q (.ref D) (upd H D (.lst (Us.map V.ref)))) : Kx.rSortedD K [.ref a] H Q := by
  have hl : Ts.length = ps.length := by rw [tu.1, List.length_map]
  have e1 : ((Ts.zip ps).map zv).map (fun b => b.1) = Ts.map V.ref := by
    rw [List.map_map]
    have : ((fun b : Kx.DV => b.1) ∘ zv) = V.ref ∘ Prod.fst := rfl
    rw [this, ← List.map_map, List.map_fst_zip (by omega)]
  have zat : ∀ z ∈ Ts.zip ps, z.1 ∈ Ts ∧ H z.1 = some (.tup [.str z.2.1, .str z.2.2]) := fun z hz => by
    obtain ⟨j, hj, e⟩ := List.getElem_of_mem hz
    have e' : (Ts.zip ps)[j]? = some z := by rw [List.getElem?_eq_getElem hj, e]
    obtain ⟨z1, z2⟩ := List.getElem?_zip_eq_some.mp e'
    exact ⟨List.mem_of_getElem? z1, tu.2 j z.1 (tv z.2) z1 (by rw [List.getElem?_map, z2]; rfl)⟩
  refine ⟨a, (Ts.zip ps).map zv, rfl, by rw [e1]; exact SqL.of ha, fun b hb => ?_, ?_, ?_, fun D hD => ?_⟩
  · obtain ⟨z, hz, rfl⟩ := List.mem_map.mp hb
    exact ⟨dp_pair (SqT.of (zat z hz).2), pd_depth z.2⟩
  · rw [List.map_map]
    exact PySem.W.AllAlike.of fun b b' => pd_alike b.2 b'.2
  · rw [List.map_map]
    exact PySem.W.Sortable.tuples fun b => ⟨_, _, rfl⟩
  · rw [sorted_zv, List.map_map]
    have e2 : (sortZ Ts ps).map ((fun b : Kx.DV => b.1) ∘ zv) = ((sortZ Ts ps).map Prod.fst).map V.ref := by
      rw [List.map_map]
      rfl
    rw [e2]
    have pm := sortZ_perm Ts ps
    refine q D ((sortZ Ts ps).map Prod.fst) ((sortZ Ts ps).map Prod.snd) hD (sortZ_asc hl nd) (fun p => ?_) ⟨by simp, fun k T v h1 h2 => ?_⟩ fun U hU => ?_
    · have h := (pm.map Prod.snd).mem_iff (a := p)
      rw [List.map_snd_zip (by omega)] at h
      exact h
    · rw [List.getElem?_map] at h1 h2
      obtain ⟨z, hz, rfl⟩ := Option.map_eq_some_iff.mp h1
      rw [List.getElem?_map, hz] at h2
      obtain rfl : tv z.2 = v := Option.some.inj h2
      exact (zat z (pm.mem_iff.mp (List.mem_of_getElem? hz))).2
    · obtain ⟨z, hz, rfl⟩ := List.mem_map.mp hU
      exact (zat z (pm.mem_iff.mp hz)).1
end Wd
end
section
set_option maxRecDepth 100000
set_option maxHeartbeats 4000000
namespace Wd
open PySem L2
/-- the pairs behind a deed -/
def flip (xs : List Str) (ps : List Pr) (p : Pr) : List Pr := (prsS xs).filter fun q => decide (q ∈ ps) != decide (q = p)
theorem mem_flip {xs : List Str} {ps : List Pr} {p q : Pr} : q ∈ flip xs ps p ↔ q ∈ prsS xs ∧ (decide (q ∈ ps) != decide (q = p)) = true := List.mem_filter
def spDeed : Sp := fun vs H Q _ => ∃ (a t : Addr) (xs : List Str) (ps : List Pr) (p : Pr), vs = [.ref a, .ref t] ∧ WAt H a xs ps ∧ Good xs ps ∧ H t = some (.tup [.str p.1, .str p.2]) ∧ p ∈ prsS xs ∧
  ∀ (H' : Hp) (D : Addr), Same H H' → H D = none → WAt H' D xs (flip xs ps p) → Q (.ref D) H'
section
variable {P : Program} {w : World} {K : PySem.W.Frag} {mg : Str → Option Value} {base : Heap}
set_option maxHeartbeats 1000000 in
theorem ok_deed {f : Addr} {fd : FuncData} (F : Fun K "_law_deed" "_law_deed" s_deed f fd) (T : Bt mg) : FnOk P w K mg base CX0 1 f fd ["_law_world_here", "_law_pair_here"] spDeed := by
  refine F.ok c_deed (fun vs H Q E h => ?_) (fun cdv A outer s H vs Q E hr h => ?_)
  · obtain ⟨_, _, _, _, _, rfl, _⟩ := h
    rfl
  · obtain ⟨a, t, xs, ps, p, rfl, W0, g, ht, hp, k⟩ := h
    refine ⟨_, pss_cons (ps_setLc (i := 3) (own := [("_law_kept", 2)]) (g := gName 2) rfl c_deed.nd rfl rfl (sw_true rfl rfl rfl (by decide +kernel)) (pi_list (pe_ix ix_list (pv 0) pe_int (fun _ _ => rfl)))
        (blkOk_by (N := ["_law_world_here", "_law_pair_here", "_law_kept", "_law_rest"]) (sc := defScope s_deed) (by decide +kernel)) (fun _ _ _ _ _ => pg_name (i := 2) c_deed.nd rfl (Or.inl rfl)) (fun _ _ _ _ _ => pts_one (pt_cmpR (r := rNeD K) (op_neD hr.units) (pv 2) (pv 1) (nomark _)))
        (fun _ _ _ _ _ => pv 2))
      (pss_one (ps_ret (pe_lst (pa_cons (pe_ix ix_list (pv 0) pe_int (fun _ _ => rfl)) (pa_cons (pe_ifExp (pt_cmpR op_lt (pe_callB call_len_seq (by rfl) T.len PySem.boot_len (pa_cons (pv 3) pa_nil)) (pe_callB call_len_seq (by rfl) T.len PySem.boot_len (pa_cons (pe_ix ix_list (pv 0) pe_int (fun _ _ => rfl)) pa_nil)) (nomark _))
        (pv 3) (pe_callB (Kx.cr_sortedD hr.units) (by rfl) T.sorted (by decide +kernel) (pa_cons (pe_op op_cat (pe_ix ix_list (pv 0) pe_int (fun _ _ => rfl)) (pe_lst (pa_cons (pv 1) pa_nil))) pa_nil))) pa_nil))))), ?_⟩
    obtain ⟨c, l, ha, hc, Ts, hl, tu⟩ := id W0
    have few := g.len
    have lT : Ts.length = ps.length := by rw [tu.1, List.length_map]
    have pw : ∀ q ∈ prsS xs, IsW q.1 ∧ IsW q.2 := fun q hq => ⟨g.word _ (mem_prsS g.asc hq).1, g.word _ (mem_prsS g.asc hq).2.1⟩
    refine ⟨_, rfl, a, _, _, .ref l, rfl, rfl, SqL.of ha, rfl, l, rfl, ⟨_, SqL.of hl⟩, fun C hC => ?_⟩
    refine lc_list (xs := Ts.map V.ref) (fun j H2 => ∃ Us : List Addr, H2 C = some (.lst (Us.map V.ref)) ∧ Same H H2 ∧ Tups H2 Us (((ps.take j).filter fun q => decide (q ≠ p)).map tv))
      ⟨[], upd_same, same_new hC, Tups.nil⟩ (fun j H2 _ ⟨Us, _, s6, _⟩ => SqL.of (s6 _ _ hl)) ?_ ?_
    · rintro j v H2 hv ⟨Us, hu, s6, tu2⟩
      rw [List.getElem?_map] at hv
      obtain ⟨T0, hT, rfl⟩ := Option.map_eq_some_iff.mp hv
      have jl := (List.getElem?_eq_some_iff.mp hT).1
      have hq : ps[j]? = some ps[j] := List.getElem?_eq_getElem (by omega)
      have mq : ps[j] ∈ prsS xs := g.sub.subset (List.getElem_mem _)
      generalize ps[j] = q at hq mq
      have e1 := s6 _ _ (tu.2 j T0 (tv q) hT (by rw [List.getElem?_map, hq]; rfl))
      refine ⟨rfl, _, rfl, _, rfl, pd q, pd p, dp_pair (SqT.of e1), dp_pair (SqT.of (s6 _ _ ht)), pd_shaped (pw q mq).1 (pw q mq).2, pd_shaped (pw p hp).1 (pw p hp).2, _, rfl, ?_⟩
      rw [pd_eqv]
      have nx : (ps.take (j + 1)).filter (fun q => decide (q ≠ p)) = (ps.take j).filter (fun q => decide (q ≠ p)) ++ (if q = p then [] else [q]) := by
        rw [take_next hq, List.filter_append]
        by_cases z : q = p <;> simp [z]
      refine ite2 (fun hb => ?_) (fun hb => ?_)
      · have z : q ≠ p := by simpa using hb
        have lu : Us.length ≤ 36 := by
          rw [tu2.1, List.length_map]
          have h1 := List.length_filter_le (fun q => decide (q ≠ p)) (ps.take j)
          rw [List.length_take] at h1
          omega
        refine ⟨_, rfl, _, hu, by rw [List.length_map, sizeLine_eq]; omega, Us ++ [T0], by rw [upd_same]; simp, same_upd2 (.inr s6) hC, ?_⟩
        rw [nx, if_neg z, List.map_append]
        have t3 := tu2.upd (a := C) (o := .lst (Us.map V.ref ++ [V.ref T0])) fun x y e => by
          rw [hu] at e
          cases e
        exact t3.snoc (p := tv q) (by rw [upd_ne (ne_of hu e1 (fun z => nomatch z)).symm]; exact e1)
      · have z : q = p := by simpa using hb
        refine ⟨Us, hu, s6, ?_⟩
        rw [nx, if_pos z, List.append_nil]
        exact tu2
    · rintro H2 ⟨Us, hu, s6, tu2⟩
      have e0 : ps.take (Ts.map V.ref).length = ps := by rw [List.length_map, lT, List.take_length]
      rw [e0] at tu2
      have ha2 := s6 _ _ ha
      have hl2 := s6 _ _ hl
      have lU : Us.length = (ps.filter fun q => decide (q ≠ p)).length := by rw [tu2.1, List.length_map]
      have lF := List.length_filter_le (fun q => decide (q ≠ p)) ps
      refine ⟨_, rfl, a, _, _, .ref c, rfl, rfl, SqL.of ha2, rfl, ?_⟩
      refine ⟨_, rfl, C, _, rfl, .inl (SqL.of hu), _, rfl, a, _, _, .ref l, rfl, rfl, SqL.of ha2, rfl, l, _, rfl, .inl (SqL.of hl2), _, _, rfl, rfl, _, rfl, ?_⟩
      rw [List.length_map, List.length_map, lU, lT]
      refine ite2 (fun hb => ?_) (fun hb => ?_)
      · have hlt : (ps.filter fun q => decide (q ≠ p)).length < ps.length := by
          have := of_decide_eq_true hb
          omega
        have pin : p ∈ ps := by
          apply Classical.byContradiction
          intro no
          have e : ps.filter (fun q => decide (q ≠ p)) = ps := List.filter_eq_self.mpr fun q hq => decide_eq_true fun z => no (z ▸ hq)
          rw [e] at hlt
          exact Nat.lt_irrefl _ hlt
        have ef : ps.filter (fun q => decide (q ≠ p)) = flip xs ps p := asc_uniq (g.ascP.filter _) ((prsS_asc g.asc).filter _) fun q => by
          rw [List.mem_filter, mem_flip]
          constructor
          · rintro ⟨h1, h2⟩
            have h3 := of_decide_eq_true h2
            exact ⟨g.sub.subset h1, by simp [h1, h3]⟩
          · rintro ⟨h1, h2⟩
            by_cases z : q = p
            · subst z
              simp [pin] at h2
            · simp only [decide_eq_false z, Bool.bne_false] at h2
              exact ⟨of_decide_eq_true h2, decide_eq_true z⟩
        refine ⟨_, rfl, by show 2 ≤ sizeLine; decide, fun Z hZ => ?_⟩
        refine k _ Z (same_updN s6 hZ) (same_none s6 hZ) ⟨c, C, upd_same, (same_updN s6 hZ) _ _ hc, Us, by rw [upd_ne (ne_of_none hu hZ)]; exact hu, ?_⟩
        rw [← ef]
        exact tu2.keep fun T o _ e => by rw [upd_ne (ne_of_none e hZ)]; exact e
      · have nin : p ∉ ps := fun pin => by
          apply hb
          refine decide_eq_true ?_
          have hs : (ps.filter fun q => decide (q ≠ p)).length < ps.length := by
            rcases Nat.lt_or_ge (ps.filter fun q => decide (q ≠ p)).length ps.length with z | z
            · exact z
            · exfalso
              have e := (List.filter_sublist (p := fun q => decide (q ≠ p)) (l := ps)).eq_of_length (by omega)
              have h1 : p ∈ ps.filter fun q => decide (q ≠ p) := by rw [e]; exact pin
              exact of_decide_eq_true (List.mem_filter.mp h1).2 rfl
          omega
        refine ⟨_, rfl, a, _, _, .ref l, rfl, rfl, SqL.of ha2, rfl, _, rfl, by show 1 ≤ sizeLine; decide, fun L hL => ?_⟩
        have ll : l ≠ L := ne_of_none hl2 hL
        refine ⟨l, L, _, _, rfl, rfl, by rw [upd_ne ll]; exact hl2, upd_same, by rw [List.length_map, sizeLine_eq]; show _ + 1 ≤ _; omega, fun M hM => ?_⟩
        have s7 : Same H (upd (upd H2 L (.lst [.ref t])) M (.lst (Ts.map V.ref ++ [.ref t]))) := same_updN (same_updN s6 hL) hM
        have tu7 : Tups (upd (upd H2 L (.lst [.ref t])) M (.lst (Ts.map V.ref ++ [.ref t]))) (Ts ++ [t]) ((ps ++ [p]).map tv) := by
          rw [List.map_append]
          exact (tu.same s7).snoc (p := tv p) (s7 _ _ ht)
        dsimp only [tNil]
        refine sorted_prs (by rw [upd_same, List.map_append]; rfl) tu7 (by
          rw [List.nodup_append]
          exact ⟨g.nodup, by simp, fun x hx y hy => by
            rw [List.mem_singleton.mp hy]
            rintro rfl
            exact nin hx⟩) fun D Vs qs nD aq mq tq _ => ?_
        have ef : qs = flip xs ps p := asc_uniq aq ((prsS_asc g.asc).filter _) fun q => by
          rw [mq, List.mem_append, List.mem_singleton, mem_flip]
          constructor
          · rintro (h1 | h1)
            · have z : q ≠ p := fun e => nin (e ▸ h1)
              exact ⟨g.sub.subset h1, by simp [h1, z]⟩
            · subst h1
              exact ⟨hp, by simp [nin]⟩
          · rintro ⟨h1, h2⟩
            by_cases z : q = p
            · exact .inr z
            · simp only [decide_eq_false z, Bool.bne_false] at h2
              exact .inl (of_decide_eq_true h2)
        refine ⟨by show 2 ≤ sizeLine; decide, fun Z hZ => ?_⟩
        have s8 := same_updN (o := .lst (Vs.map V.ref)) s7 nD
        have s9 := same_updN (o := .lst [.ref c, .ref D]) s8 hZ
        refine k _ Z s9 (same_none s8 hZ) ⟨c, D, upd_same, s9 _ _ hc, Vs, ?_, ?_⟩
        · rw [upd_ne (ne_of_none upd_same hZ), upd_same]
        · rw [← ef]
          refine tq.keep fun T o _ e => ?_
          have e2 : upd (upd (upd H2 L (.lst [.ref t])) M (.lst (Ts.map V.ref ++ [.ref t]))) D (.lst (Vs.map V.ref)) T = some o := by rw [upd_ne (ne_of_none e nD)]; exact e
          rw [upd_ne (ne_of_none e2 hZ)]
          exact e2
end
end Wd
end
section
set_option maxRecDepth 100000
set_option maxHeartbeats 4000000
namespace Wd
open PySem L2
/-- a world of some people is made with draws -/
def spMade (m : Nat) : Sp := fun vs H Q _ => ∃ (p c : Addr) (xs : List Str) (c0 : Int) (n : Nat), vs = [.ref p, .ref c] ∧ PurseAt H p c0 (n + m) ∧ H c = some (.lst (xs.map V.str)) ∧ Good xs [] ∧
  ∀ (H' : Hp) (D : Addr) (qs : List Pr), qs.Sublist (prsS xs) → SameX p H H' → H D = none → WAt H' D xs qs → D ≠ p → PurseAt H' p c0 n → Q (.ref D) H'
section
variable {P : Program} {w : World} {K : PySem.W.Frag} {mg : Str → Option Value} {base : Heap}
set_option maxHeartbeats 1000000 in
theorem ok_density {f : Addr} {fd : FuncData} (F : Fun K "_law_by_density" "_law_by_density" s_by_density f fd) (T : Bt mg) (CD : Has P w K mg base 2 "_law_draw" ["_law_purse_here", "_law_many"] spDraw)
    (CP : Has P w K mg base 1 "_law_pairs" ["_law_crowd"] spPairs) : FnOk P w K mg base CX0 3 f fd ["_law_purse_here", "_law_crowd"] (spMade 110) := by
  obtain ⟨fD, fdD, GD, mD, kD, bD⟩ := CD
  obtain ⟨fP, fdP, GP, mP, kP, bP⟩ := CP
  refine F.ok c_by_density (fun vs H Q E h => ?_) (fun cdv A outer s H vs Q E hr h => ?_)
  · obtain ⟨_, _, _, _, _, rfl, _⟩ := h
    rfl
  · obtain ⟨p, c, xs, c0, n, rfl, pa, hc, g, k⟩ := h
    have hr1 : Room 1 _ := hr.mono (by decide)
    have hr2 : Room 2 _ := hr.mono (by decide)
    have ncp : c ≠ p := purse_ne pa hc fun b' c' t' z' e => by
      have l := congrArg (fun o : HO => match o with | .lst (.int i :: _) => true | _ => false) e
      cases xs with
      | nil => simp at l
      | cons x r => simp at l
    refine ⟨_, pss_cons (ps_par (i := 2) (j := 3) rfl c_by_density.nd rfl rfl (by decide) rfl rfl (pa_cons (pe_call GD hr2 rfl mD kD bD .nil pass0 (pa_cons (pv 0) (pa_cons pe_int pa_nil))) (pa_cons (pe_call GP hr1 rfl mP kP bP .nil pass0 (pa_cons (pv 1) pa_nil)) pa_nil)) (by rfl))
      (pss_cons (ps_if (pt_cmpR op_eq (pv 2) pe_int (nomark _)) (pss_one (ps_ret (pe_lst (pa_cons (pv 1) (pa_cons (pe_lc (own := [("_law_pair_here", 4)]) (g := gName 4) rfl c_by_density.nd (pi_list (pv 3))
        (blkOk_by (N := ["_law_purse_here", "_law_crowd", "_law_way", "_law_pairs_here", "_law_pair_here"]) (sc := defScope s_by_density) (by decide +kernel)) (fun _ _ _ _ _ => pg_name (i := 4) c_by_density.nd rfl (Or.inl rfl)) (fun _ _ _ _ _ => pts_one (pt_cmpR op_eq (pe_call GD hr2 rfl mD kD bD .nil pass0 (pa_cons (pv 0) (pa_cons pe_int pa_nil))) pe_int (nomark _)))
        (fun _ _ _ _ _ => pv 4)) pa_nil))))) pss_nil)
      (pss_cons (ps_if (pt_cmpR op_eq (pv 2) pe_int (nomark _)) (pss_one (ps_ret (pe_lst (pa_cons (pv 1) (pa_cons (pe_lc (own := [("_law_pair_here", 4)]) (g := gName 4) rfl c_by_density.nd (pi_list (pv 3))
        (blkOk_by (N := ["_law_purse_here", "_law_crowd", "_law_way", "_law_pairs_here", "_law_pair_here"]) (sc := defScope s_by_density) (by decide +kernel)) (fun _ _ _ _ _ => pg_name (i := 4) c_by_density.nd rfl (Or.inl rfl)) (fun _ _ _ _ _ => pts_one (pt_cmpR op_gt (pe_call GD hr2 rfl mD kD bD .nil pass0 (pa_cons (pv 0) (pa_cons pe_int pa_nil))) pe_int (nomark _)))
        (fun _ _ _ _ _ => pv 4)) pa_nil))))) pss_nil)
      (pss_one (ps_ret (pe_lst (pa_cons (pv 1) (pa_cons (pe_lc (own := [("_law_pair_here", 4)]) (g := gName 4) rfl c_by_density.nd (pi_list (pv 3))
        (blkOk_by (N := ["_law_purse_here", "_law_crowd", "_law_way", "_law_pairs_here", "_law_pair_here"]) (sc := defScope s_by_density) (by decide +kernel)) (fun _ _ _ _ _ => pg_name (i := 4) c_by_density.nd rfl (Or.inl rfl)) (fun _ _ _ _ _ => pts_one (pt_cmpR op_eq (pe_call GD hr2 rfl mD kD bD .nil pass0 (pa_cons (pv 0) (pa_cons pe_int pa_nil))) pe_int (nomark _)))
        (fun _ _ _ _ _ => pv 4)) pa_nil))))))), ?_⟩
    refine ⟨_, rfl, p, _, c0, n + 109, rfl, pa, by decide, by decide, fun H1 r r0 r1 sx1 pa1 => ?_⟩
    refine ⟨_, rfl, c, xs.map V.str, rfl, sx1 _ _ ncp hc, by rw [List.length_map]; have := g.few; omega, fun H2 D s2 nD ⟨Ts, hd, tu⟩ => ?_⟩
    rw [prs_strs] at tu
    have lT : Ts.length = (prsS xs).length := by rw [tu.1, List.length_map]
    have l36 := Good.len0 g.few.2
    have sx2 : SameX p H H2 := sx1.trans (SameX.of s2)
    have pa2 := pa1.same s2
    have nD2 : D ≠ p := purse_none pa1 nD
    refine ⟨_, _, rfl, ?_⟩
    refine ⟨_, rfl, rfl, _, rfl, ?_⟩
    refine ite2 (fun _ => ?_) (fun _ => ?_)
    · refine ⟨_, rfl, _, rfl, D, rfl, ⟨_, SqL.of hd⟩, fun C hC => ?_⟩
      have nC := purse_none pa2 hC
      refine lc_list (xs := Ts.map V.ref) (fun j H3 => ∃ (Us : List Addr) (qs : List Pr), H3 C = some (.lst (Us.map V.ref)) ∧ SameX p H2 H3 ∧ Tups H3 Us (qs.map tv) ∧ qs.Sublist ((prsS xs).take j) ∧ PurseAt H3 p c0 (n + (100 - j)))
        ⟨[], [], upd_same, (SameX.refl p H2).updN hC, Tups.nil, List.nil_sublist _, (pa2.upd nC).less (by omega)⟩ (fun j H3 _ ⟨Us, qs, _, s6, _⟩ => SqL.of (s6 _ _ nD2 hd)) ?_ ?_
      · rintro j v H3 hv ⟨Us, qs, hu, s6, tu2, sb, pa3⟩
        rw [List.getElem?_map] at hv
        obtain ⟨T0, hT, rfl⟩ := Option.map_eq_some_iff.mp hv
        have jl := (List.getElem?_eq_some_iff.mp hT).1
        have hq : (prsS xs)[j]? = some (prsS xs)[j] := List.getElem?_eq_getElem (by omega)
        generalize (prsS xs)[j] = q at hq
        have e1' := tu.2 j T0 (tv q) hT (by rw [List.getElem?_map, hq]; rfl)
        have e0 : n + (100 - j) = n + (100 - (j + 1)) + 1 := by omega
        rw [e0] at pa3
        refine ⟨rfl, _, rfl, p, _, c0, _, rfl, pa3, by decide, by decide, fun H4 u u0 u1 s7 pa4 => ⟨rfl, _, rfl, ?_⟩⟩
        have Cp : C ≠ p := nC
        have T0p : T0 ≠ p := purse_ne pa2 e1' fun _ _ _ _ z => nomatch z
        have e1 := s7 _ _ T0p (s6 _ _ T0p e1')
        have hu4 := s7 _ _ Cp hu
        have tu4 : Tups H4 Us (qs.map tv) := tu2.keep fun T o hT' e => by
          obtain ⟨y, _, ey⟩ := tu2.at hT'
          exact s7 _ _ (purse_ne pa3 ey fun _ _ _ _ z => nomatch z) e
        refine ite2 (fun hb => ?_) (fun hb => ?_)
        · have lu : Us.length ≤ 36 := by
            rw [tu2.1, List.length_map]
            have h1 := sb.length_le
            rw [List.length_take] at h1
            omega
          refine ⟨_, rfl, _, hu4, by rw [List.length_map, sizeLine_eq]; omega, Us ++ [T0], qs ++ [q], by rw [upd_same]; simp, fun b o nb e => ?_, ?_, ?_, pa4.upd Cp⟩
          · rw [upd_ne (ne_of_none e hC)]
            exact s7 _ _ nb (s6 _ _ nb e)
          · rw [List.map_append]
            have t3 := tu4.upd (a := C) (o := .lst (Us.map V.ref ++ [V.ref T0])) fun x y e => by
              rw [hu4] at e
              cases e
            exact t3.snoc (p := tv q) (by rw [upd_ne (ne_of hu4 e1 (fun z => nomatch z)).symm]; exact e1)
          · rw [take_next hq]
            exact sb.append (List.Sublist.refl _)
        · refine ⟨Us, qs, hu4, s6.trans s7, tu4, ?_, pa4⟩
          rw [take_next hq]
          exact sb.trans (List.sublist_append_left _ _)
      · rintro H3 ⟨Us, qs, hu, s6, tu2, sb, pa3⟩
        rw [List.length_map, lT, List.take_length] at sb
        refine ⟨by show 2 ≤ sizeLine; decide, fun Z hZ => ?_⟩
        have nZ := purse_none pa3 hZ
        have s7 := sx2.trans s6
        refine k _ Z qs sb (s7.updN (s7.none hZ nZ)) (s7.none hZ nZ) ⟨c, C, upd_same, ?_, Us, by rw [upd_ne (ne_of_none hu hZ)]; exact hu, tu2.keep fun T o _ e => by rw [upd_ne (ne_of_none e hZ)]; exact e⟩ nZ ((pa3.upd nZ).less (by omega))
        have hc3 := s7 _ _ ncp hc
        rw [upd_ne (ne_of_none hc3 hZ)]
        exact hc3
    · refine ⟨_, rfl, rfl, _, rfl, ?_⟩
      refine ite2 (fun _ => ?_) (fun _ => ?_)
      · refine ⟨_, rfl, _, rfl, D, rfl, ⟨_, SqL.of hd⟩, fun C hC => ?_⟩
        have nC := purse_none pa2 hC
        refine lc_list (xs := Ts.map V.ref) (fun j H3 => ∃ (Us : List Addr) (qs : List Pr), H3 C = some (.lst (Us.map V.ref)) ∧ SameX p H2 H3 ∧ Tups H3 Us (qs.map tv) ∧ qs.Sublist ((prsS xs).take j) ∧ PurseAt H3 p c0 (n + (100 - j)))
          ⟨[], [], upd_same, (SameX.refl p H2).updN hC, Tups.nil, List.nil_sublist _, (pa2.upd nC).less (by omega)⟩ (fun j H3 _ ⟨Us, qs, _, s6, _⟩ => SqL.of (s6 _ _ nD2 hd)) ?_ ?_
        · rintro j v H3 hv ⟨Us, qs, hu, s6, tu2, sb, pa3⟩
          rw [List.getElem?_map] at hv
          obtain ⟨T0, hT, rfl⟩ := Option.map_eq_some_iff.mp hv
          have jl := (List.getElem?_eq_some_iff.mp hT).1
          have hq : (prsS xs)[j]? = some (prsS xs)[j] := List.getElem?_eq_getElem (by omega)
          generalize (prsS xs)[j] = q at hq
          have e1' := tu.2 j T0 (tv q) hT (by rw [List.getElem?_map, hq]; rfl)
          have e0 : n + (100 - j) = n + (100 - (j + 1)) + 1 := by omega
          rw [e0] at pa3
          refine ⟨rfl, _, rfl, p, _, c0, _, rfl, pa3, by decide, by decide, fun H4 u u0 u1 s7 pa4 => ⟨_, _, rfl, rfl, _, rfl, ?_⟩⟩
          have Cp : C ≠ p := nC
          have T0p : T0 ≠ p := purse_ne pa2 e1' fun _ _ _ _ z => nomatch z
          have e1 := s7 _ _ T0p (s6 _ _ T0p e1')
          have hu4 := s7 _ _ Cp hu
          have tu4 : Tups H4 Us (qs.map tv) := tu2.keep fun T o hT' e => by
            obtain ⟨y, _, ey⟩ := tu2.at hT'
            exact s7 _ _ (purse_ne pa3 ey fun _ _ _ _ z => nomatch z) e
          refine ite2 (fun hb => ?_) (fun hb => ?_)
          · have lu : Us.length ≤ 36 := by
              rw [tu2.1, List.length_map]
              have h1 := sb.length_le
              rw [List.length_take] at h1
              omega
            refine ⟨_, rfl, _, hu4, by rw [List.length_map, sizeLine_eq]; omega, Us ++ [T0], qs ++ [q], by rw [upd_same]; simp, fun b o nb e => ?_, ?_, ?_, pa4.upd Cp⟩
            · rw [upd_ne (ne_of_none e hC)]
              exact s7 _ _ nb (s6 _ _ nb e)
            · rw [List.map_append]
              have t3 := tu4.upd (a := C) (o := .lst (Us.map V.ref ++ [V.ref T0])) fun x y e => by
                rw [hu4] at e
                cases e
              exact t3.snoc (p := tv q) (by rw [upd_ne (ne_of hu4 e1 (fun z => nomatch z)).symm]; exact e1)
            · rw [take_next hq]
              exact sb.append (List.Sublist.refl _)
          · refine ⟨Us, qs, hu4, s6.trans s7, tu4, ?_, pa4⟩
            rw [take_next hq]
            exact sb.trans (List.sublist_append_left _ _)
        · rintro H3 ⟨Us, qs, hu, s6, tu2, sb, pa3⟩
          rw [List.length_map, lT, List.take_length] at sb
          refine ⟨by show 2 ≤ sizeLine; decide, fun Z hZ => ?_⟩
          have nZ := purse_none pa3 hZ
          have s7 := sx2.trans s6
          refine k _ Z qs sb (s7.updN (s7.none hZ nZ)) (s7.none hZ nZ) ⟨c, C, upd_same, ?_, Us, by rw [upd_ne (ne_of_none hu hZ)]; exact hu, tu2.keep fun T o _ e => by rw [upd_ne (ne_of_none e hZ)]; exact e⟩ nZ ((pa3.upd nZ).less (by omega))
          have hc3 := s7 _ _ ncp hc
          rw [upd_ne (ne_of_none hc3 hZ)]
          exact hc3
      · refine ⟨_, rfl, _, rfl, D, rfl, ⟨_, SqL.of hd⟩, fun C hC => ?_⟩
        have nC := purse_none pa2 hC
        refine lc_list (xs := Ts.map V.ref) (fun j H3 => ∃ (Us : List Addr) (qs : List Pr), H3 C = some (.lst (Us.map V.ref)) ∧ SameX p H2 H3 ∧ Tups H3 Us (qs.map tv) ∧ qs.Sublist ((prsS xs).take j) ∧ PurseAt H3 p c0 (n + (100 - j)))
          ⟨[], [], upd_same, (SameX.refl p H2).updN hC, Tups.nil, List.nil_sublist _, (pa2.upd nC).less (by omega)⟩ (fun j H3 _ ⟨Us, qs, _, s6, _⟩ => SqL.of (s6 _ _ nD2 hd)) ?_ ?_
        · rintro j v H3 hv ⟨Us, qs, hu, s6, tu2, sb, pa3⟩
          rw [List.getElem?_map] at hv
          obtain ⟨T0, hT, rfl⟩ := Option.map_eq_some_iff.mp hv
          have jl := (List.getElem?_eq_some_iff.mp hT).1
          have hq : (prsS xs)[j]? = some (prsS xs)[j] := List.getElem?_eq_getElem (by omega)
          generalize (prsS xs)[j] = q at hq
          have e1' := tu.2 j T0 (tv q) hT (by rw [List.getElem?_map, hq]; rfl)
          have e0 : n + (100 - j) = n + (100 - (j + 1)) + 1 := by omega
          rw [e0] at pa3
          refine ⟨rfl, _, rfl, p, _, c0, _, rfl, pa3, by decide, by decide, fun H4 u u0 u1 s7 pa4 => ⟨rfl, _, rfl, ?_⟩⟩
          have Cp : C ≠ p := nC
          have T0p : T0 ≠ p := purse_ne pa2 e1' fun _ _ _ _ z => nomatch z
          have e1 := s7 _ _ T0p (s6 _ _ T0p e1')
          have hu4 := s7 _ _ Cp hu
          have tu4 : Tups H4 Us (qs.map tv) := tu2.keep fun T o hT' e => by
            obtain ⟨y, _, ey⟩ := tu2.at hT'
            exact s7 _ _ (purse_ne pa3 ey fun _ _ _ _ z => nomatch z) e
          refine ite2 (fun hb => ?_) (fun hb => ?_)
          · have lu : Us.length ≤ 36 := by
              rw [tu2.1, List.length_map]
              have h1 := sb.length_le
              rw [List.length_take] at h1
              omega
            refine ⟨_, rfl, _, hu4, by rw [List.length_map, sizeLine_eq]; omega, Us ++ [T0], qs ++ [q], by rw [upd_same]; simp, fun b o nb e => ?_, ?_, ?_, pa4.upd Cp⟩
            · rw [upd_ne (ne_of_none e hC)]
              exact s7 _ _ nb (s6 _ _ nb e)
            · rw [List.map_append]
              have t3 := tu4.upd (a := C) (o := .lst (Us.map V.ref ++ [V.ref T0])) fun x y e => by
                rw [hu4] at e
                cases e
              exact t3.snoc (p := tv q) (by rw [upd_ne (ne_of hu4 e1 (fun z => nomatch z)).symm]; exact e1)
            · rw [take_next hq]
              exact sb.append (List.Sublist.refl _)
          · refine ⟨Us, qs, hu4, s6.trans s7, tu4, ?_, pa4⟩
            rw [take_next hq]
            exact sb.trans (List.sublist_append_left _ _)
        · rintro H3 ⟨Us, qs, hu, s6, tu2, sb, pa3⟩
          rw [List.length_map, lT, List.take_length] at sb
          refine ⟨by show 2 ≤ sizeLine; decide, fun Z hZ => ?_⟩
          have nZ := purse_none pa3 hZ
          have s7 := sx2.trans s6
          refine k _ Z qs sb (s7.updN (s7.none hZ nZ)) (s7.none hZ nZ) ⟨c, C, upd_same, ?_, Us, by rw [upd_ne (ne_of_none hu hZ)]; exact hu, tu2.keep fun T o _ e => by rw [upd_ne (ne_of_none e hZ)]; exact e⟩ nZ ((pa3.upd nZ).less (by omega))
          have hc3 := s7 _ _ ncp hc
          rw [upd_ne (ne_of_none hc3 hZ)]
          exact hc3
end
end Wd
end
section
set_option maxRecDepth 100000
set_option maxHeartbeats 4000000
namespace Wd
open PySem L2
abbrev nLab : List Str := ["_law_purse_here", "_law_crowd", "_law_size", "_law_turn", "_law_person", "_law_rows", "_law_tie", "_law_ties", "_law_found", "_law_first", "_law_second", "_law_total", "_law_at", "_law_spot"]
theorem mem_prs {xs : List V} {q : V × V} (h : q ∈ prs xs) : q.1 ∈ xs ∧ q.2 ∈ xs := by
  induction xs with
  | nil => cases h
  | cons x r ih =>
    rcases List.mem_append.mp h with h | h
    · obtain ⟨y, hy, rfl⟩ := List.mem_map.mp h
      exact ⟨List.mem_cons_self, List.mem_cons_of_mem _ hy⟩
    · obtain ⟨h1, h2⟩ := ih h
      exact ⟨List.mem_cons_of_mem _ h1, List.mem_cons_of_mem _ h2⟩
theorem prs_map (f : V → V) : ∀ l : List V, prs (l.map f) = (prs l).map fun q => (f q.1, f q.2)
  | [] => rfl
  | x :: r => by
    show (r.map f).map (fun y => (f x, y)) ++ prs (r.map f) = (r.map (fun y => (x, y)) ++ prs r).map _
    rw [prs_map f r, List.map_append, List.map_map, List.map_map]
    rfl
theorem mem_rgV {n : Nat} {v : V} (h : v ∈ rgV 0 (n : Int)) : ∃ i : Nat, v = .int (i : Int) ∧ i < n := by
  unfold rgV at h
  obtain ⟨i, hi, rfl⟩ := List.mem_map.mp h
  have := List.mem_range.mp hi
  exact ⟨i, by rw [Int.zero_add], by omega⟩
/-- the k-th two of the places is the k-th pair -/
theorem prs_places (xs : List Str) (k : Nat) (q : V × V) (h : (prs (rgV 0 (xs.length : Int)))[k]? = some q) : ∃ (i j : Nat) (a b : Str), q = (.int (i : Int), .int (j : Int)) ∧ xs[i]? = some a ∧ xs[j]? = some b ∧ (prsS xs)[k]? = some (a, b) := by
  have m := mem_prs (List.mem_of_getElem? h)
  obtain ⟨i, e1, hi⟩ := mem_rgV m.1
  obtain ⟨j, e2, hj⟩ := mem_rgV m.2
  let f : V → V := fun v => match v with | .int i => .str (xs.getD i.toNat Str.empty) | _ => .non
  have em : (rgV 0 (xs.length : Int)).map f = xs.map V.str := by
    unfold rgV
    rw [List.map_map, Int.sub_zero, Int.toNat_natCast]
    refine List.ext_getElem? fun t => ?_
    rw [List.getElem?_map, List.getElem?_map]
    by_cases c : t < xs.length
    · rw [List.getElem?_range c, List.getElem?_eq_getElem c]
      show some (V.str (xs.getD ((0 : Int) + (t : Nat)).toNat Str.empty)) = _
      rw [Int.zero_add, Int.toNat_natCast, List.getD_eq_getElem?_getD, List.getElem?_eq_getElem c]
      rfl
    · rw [List.getElem?_eq_none (by rw [List.length_range]; omega), List.getElem?_eq_none (by omega)]
      rfl
  have h2 : (prs ((rgV 0 (xs.length : Int)).map f))[k]? = some (f q.1, f q.2) := by
    rw [prs_map, List.getElem?_map, h]
    rfl
  rw [em, prs_strs, List.getElem?_map] at h2
  obtain ⟨p, hp, ep⟩ := Option.map_eq_some_iff.mp h2
  have ga : xs[i]? = some xs[i] := List.getElem?_eq_getElem hi
  have gb : xs[j]? = some xs[j] := List.getElem?_eq_getElem hj
  have fa : f (.int (i : Int)) = .str xs[i] := by
    show V.str (xs.getD ((i : Int)).toNat Str.empty) = _
    rw [Int.toNat_natCast, List.getD_eq_getElem?_getD, ga]
    rfl
  have fb : f (.int (j : Int)) = .str xs[j] := by
    show V.str (xs.getD ((j : Int)).toNat Str.empty) = _
    rw [Int.toNat_natCast, List.getD_eq_getElem?_getD, gb]
    rfl
  rw [e1, e2, fa, fb] at ep
  have e3 := Prod.mk.inj ep
  injection e3.1 with e4
  injection e3.2 with e5
  exact ⟨i, j, xs[i], xs[j], Prod.ext e1 e2, ga, gb, by rw [hp, ← e4, ← e5]⟩
theorem two_len : ∀ xs : List V, 2 * (prs xs).length + xs.length = xs.length * xs.length
  | [] => rfl
  | x :: r => by
    have h := two_len r
    show 2 * (r.map (fun y => (x, y)) ++ prs r).length + (r.length + 1) = (r.length + 1) * (r.length + 1)
    rw [List.length_append, List.length_map]
    have e : (r.length + 1) * (r.length + 1) = r.length * r.length + r.length + (r.length + 1) := by
      rw [Nat.add_mul, Nat.one_mul, Nat.mul_add, Nat.mul_one]
    omega
/-- a row of bits stands at a -/
def Row (H : Hp) (m : Nat) (a : Addr) : Prop := ∃ ns : List Int, H a = some (.lst (ns.map V.int)) ∧ ns.length = m ∧ ∀ v ∈ ns, 0 ≤ v ∧ v ≤ 1
theorem Row.at {H : Hp} {m : Nat} {a : Addr} (r : Row H m a) {i : Nat} (h : i < m) : ∃ (ns : List Int) (v : Int), H a = some (.lst (ns.map V.int)) ∧ atI (ns.map V.int) (i : Int) = some (.int v) ∧ 0 ≤ v ∧ v ≤ 1 := by
  obtain ⟨ns, e, l, b⟩ := r
  have hi : ns[i]? = some ns[i] := List.getElem?_eq_getElem (by omega)
  exact ⟨ns, ns[i], e, atI_nat (by rw [List.getElem?_map, hi]; rfl), b _ (List.getElem_mem _)⟩
section
variable {P : Program} {w : World} {K : PySem.W.Frag} {mg : Str → Option Value} {base : Heap}
set_option maxHeartbeats 1000000 in
theorem ok_labels {f : Addr} {fd : FuncData} (F : Fun K "_law_by_labels" "_law_by_labels" s_by_labels f fd) (T : Bt mg) (CD : Has P w K mg base 2 "_law_draw" ["_law_purse_here", "_law_many"] spDraw)
    (CP : Has P w K mg base 1 "_law_pairs" ["_law_crowd"] spPairs) : FnOk P w K mg base CX0 3 f fd ["_law_purse_here", "_law_crowd"] (spMade 110) := by
  obtain ⟨fD, fdD, GD, mD, kD, bD⟩ := CD
  obtain ⟨fP, fdP, GP, mP, kP, bP⟩ := CP
  refine F.ok c_by_labels (fun vs H Q E h => ?_) (fun cdv A outer s H vs Q E hr h => ?_)
  · obtain ⟨_, _, _, _, _, rfl, _⟩ := h
    rfl
  · obtain ⟨p, c, xs, c0, n, rfl, pa, hc, g, k⟩ := h
    have hr1 : Room 1 _ := hr.mono (by decide)
    have hr2 : Room 2 _ := hr.mono (by decide)
    refine ⟨_, pss_cons (ps_set (i := 2) c_by_labels.nd rfl (Or.inl rfl) (pe_op op_add pe_int (pe_call GD hr2 rfl mD kD bD .nil pass0 (pa_cons (pv 0) (pa_cons pe_int pa_nil)))))
      (pss_cons (ps_setLc (i := 5) (own := [("_law_turn", 3)]) (g := gName 3) (tt := tYes) rfl c_by_labels.nd rfl rfl (sw_true rfl rfl rfl (by decide +kernel)) (pi_range1 rfl T.range (pa_cons (pv 2) pa_nil))
          (blkOk_by (N := nLab) (sc := defScope s_by_labels) (by decide +kernel)) (fun _ _ _ _ _ => pg_name (i := 3) c_by_labels.nd rfl (Or.inl rfl)) (fun _ _ _ _ _ => pts_nil)
          (fun _ _ _ _ _ => pe_lc (wi := iList K (tVar 1)) (own := [("_law_person", 4)]) (g := gName 4) (tt := tYes) rfl c_by_labels.nd (pi_list (pv 1)) (blkOk_by (by rfl)) (fun _ _ _ _ _ => pg_name (i := 4) c_by_labels.nd rfl (Or.inl rfl)) (fun _ _ _ _ _ => pts_nil)
            (fun _ _ _ _ _ => pe_call GD hr2 rfl mD kD bD .nil pass0 (pa_cons (pv 0) (pa_cons pe_int pa_nil)))))
      (pss_cons (ps_setLc (i := 7) (own := [("_law_tie", 6)]) (g := gName 6) rfl c_by_labels.nd rfl rfl (sw_true rfl rfl rfl (by decide +kernel)) (pi_list (pe_call GP hr1 rfl mP kP bP .nil pass0 (pa_cons (pe_listRg rfl (by rfl) T.list (prg_1 rfl T.range (pv 2))) pa_nil)))
          (blkOk_by (N := nLab) (sc := defScope s_by_labels) (by decide +kernel)) (fun _ _ _ _ _ => pg_name (i := 6) c_by_labels.nd rfl (Or.inl rfl)) (fun _ _ _ _ _ => pts_one (pt_cmpR op_eq (pe_call GD hr2 rfl mD kD bD .nil pass0 (pa_cons (pv 0) (pa_cons pe_int pa_nil))) pe_int (nomark _)))
          (fun _ _ _ _ _ => pv 6))
      (pss_cons (ps_set (i := 8) c_by_labels.nd rfl (Or.inl rfl) (pe_lst pa_nil))
      (pss_cons (ps_for PassesOwn.never rfl (pi_list (pe_call GP hr1 rfl mP kP bP .nil pass0 (pa_cons (pe_listRg rfl (by rfl) T.list (prg_1 rfl T.range (pe_callB call_len_seq (by rfl) T.len PySem.boot_len (pa_cons (pv 1) pa_nil)))) pa_nil)))
          (pg_tup rfl (pgs_cons (pg_name (i := 9) c_by_labels.nd rfl (Or.inl rfl)) (pgs_cons (pg_name (i := 10) c_by_labels.nd rfl (Or.inl rfl)) pgs_nil)))
          (pss_cons (ps_set (i := 11) c_by_labels.nd rfl (Or.inl rfl) pe_int)
          (pss_cons (ps_for PassesOwn.never rfl (pi_list (pv 7)) (pg_tup rfl (pgs_cons (pg_name (i := 12) c_by_labels.nd rfl (Or.inl rfl)) (pgs_cons (pg_name (i := 13) c_by_labels.nd rfl (Or.inl rfl)) pgs_nil)))
            (pss_cons (ps_set (i := 11) c_by_labels.nd rfl (Or.inl rfl) (pe_op op_add (pv 11) (pe_op op_mul (pe_ix ix_list (pe_ix ix_list (pv 5) (pv 12) (fun _ _ => rfl)) (pv 9) (fun _ _ => rfl)) (pe_ix ix_list (pe_ix ix_list (pv 5) (pv 13) (fun _ _ => rfl)) (pv 10) (fun _ _ => rfl)))))
            (pss_one (ps_set (i := 11) c_by_labels.nd rfl (Or.inl rfl) (pe_op op_add (pv 11) (pe_op op_mul (pe_ix ix_list (pe_ix ix_list (pv 5) (pv 13) (fun _ _ => rfl)) (pv 9) (fun _ _ => rfl)) (pe_ix ix_list (pe_ix ix_list (pv 5) (pv 12) (fun _ _ => rfl)) (pv 10) (fun _ _ => rfl))))))))
          (pss_one (ps_if (pt_cmpR op_eq (pe_op op_mod (pe_callTy call_int1 (by rfl) T.int (by decide +kernel) (pa_cons (pv 11) pa_nil)) pe_int) pe_int (nomark _))
            (pss_one (ps_expr (pe_bm PySem.F.plainAttrs_list PySem.F.slot_list_append PySem.F.type_list_append mt_append (pv 8) (pa_cons (pe_tup (pa_cons (pe_ix ix_list (pv 1) (pv 9) (fun _ _ => rfl)) (pa_cons (pe_ix ix_list (pv 1) (pv 10) (fun _ _ => rfl)) pa_nil))) pa_nil)))) pss_nil)))))
      (pss_one (ps_ret (pe_lst (pa_cons (pv 1) (pa_cons (pv 8) pa_nil))))))))), ?_⟩
    have lx := g.few
    have ncp : c ≠ p := purse_ne pa hc fun b' c' t' z' e => by
      have l := congrArg (fun o : HO => match o with | .lst (.int i :: _) => true | _ => false) e
      cases xs with
      | nil => simp at l
      | cons x r => simp at l
    refine ⟨_, rfl, p, _, c0, n + 109, rfl, pa, by decide, by decide, fun H1 r r0 r1 sx1 pa1 => ⟨_, _, rfl, rfl, ?_⟩⟩
    obtain ⟨sz, esz, sz1, sz3⟩ : ∃ sz : Nat, (1 + r : Int) = (sz : Int) ∧ 1 ≤ sz ∧ sz ≤ 3 := ⟨(1 + r).toNat, by omega, by omega, by omega⟩
    show gName 2 (V.int (1 + r)) _ _ _
    rw [esz]
    refine ⟨_, rfl, (sz : Int), rfl, by omega, by omega, fun R hR => ?_⟩
    have nR := purse_none pa1 hR
    have hc1 := sx1 _ _ ncp hc
    have cR := ne_of_none hc1 hR
    refine lc_range (lo := 0) (n := (sz : Int).toNat) (fun i H2 => ∃ Ls : List Addr, H2 R = some (.lst (Ls.map V.ref)) ∧ Ls.length = i ∧ (∀ a ∈ Ls, Row H2 xs.length a ∧ a ≠ R ∧ a ≠ p) ∧ SameX p H1 H2 ∧ PurseAt H2 p c0 (n + 60 + (3 - i) * 10))
      ⟨[], upd_same, rfl, (fun _ h => nomatch h), (SameX.refl p H1).updN hR, (pa1.upd nR).less (by omega)⟩ ?_ ?_
    · rintro i H2 hi ⟨Ls, hl, li, rows, sx2, pa2⟩
      have hc2 := sx2 _ _ ncp hc1
      refine ⟨rfl, _, rfl, c, rfl, ⟨_, SqL.of hc2⟩, fun C hC => ?_⟩
      have nC := purse_none pa2 hC
      have CR : R ≠ C := ne_of_none hl hC
      refine lc_list (xs := xs.map V.str) (fun j H3 => ∃ ns : List Int, H3 C = some (.lst (ns.map V.int)) ∧ ns.length = j ∧ (∀ v ∈ ns, 0 ≤ v ∧ v ≤ 1) ∧ SameX p H2 H3 ∧ PurseAt H3 p c0 (n + 60 + (3 - (i + 1)) * 10 + (10 - j)))
        ⟨[], upd_same, rfl, (fun _ h => nomatch h), (SameX.refl p H2).updN hC, (pa2.upd nC).less (by omega)⟩ (fun j H3 _ ⟨ns, _, _, _, s3, _⟩ => SqL.of (s3 _ _ ncp hc2)) ?_ ?_
      · rintro j v H3 hv ⟨ns, hn, lj, bits, sx3, pa3⟩
        have jl := (List.getElem?_eq_some_iff.mp hv).1
        rw [List.length_map] at jl
        have e0 : n + 60 + (3 - (i + 1)) * 10 + (10 - j) = n + 60 + (3 - (i + 1)) * 10 + (10 - (j + 1)) + 1 := by omega
        rw [e0] at pa3
        refine ⟨rfl, _, rfl, p, _, c0, _, rfl, pa3, by decide, by decide, fun H4 u u0 u1 sx4 pa4 => ?_⟩
        have hn4 := sx4 _ _ nC hn
        refine ⟨_, hn4, by rw [List.length_map, sizeLine_eq]; omega, ns ++ [u], by rw [upd_same]; simp, by rw [List.length_append, List.length_singleton, lj], fun v hv => ?_, (sx3.trans sx4).updN hC, pa4.upd nC⟩
        rcases List.mem_append.mp hv with h | h
        · exact bits v h
        · rw [List.mem_singleton.mp h]
          omega
      · rintro H3 ⟨ns, hn, lj, bits, sx3, pa3⟩
        rw [List.length_map] at lj pa3
        have hl3 := sx3 _ _ nR hl
        refine ⟨_, hl3, by rw [List.length_map, sizeLine_eq]; omega, Ls ++ [C], by rw [upd_same]; simp, by rw [List.length_append, List.length_singleton, li], fun a ha => ?_, (sx2.trans sx3).updN hR, (pa3.upd nR).less (by omega)⟩
        rcases List.mem_append.mp ha with h | h
        · obtain ⟨⟨ms, e1, e2, e3⟩, e4, e5⟩ := rows a h
          exact ⟨⟨ms, by rw [upd_ne e4]; exact sx3 _ _ e5 e1, e2, e3⟩, e4, e5⟩
        · rw [List.mem_singleton.mp h]
          exact ⟨⟨ns, by rw [upd_ne (Ne.symm CR)]; exact hn, lj, bits⟩, Ne.symm CR, nC⟩
    rintro H2 ⟨Ls, hl, li, rows, sx2, pa2⟩
    rw [Int.toNat_natCast] at li pa2
    have hc2 := sx2 _ _ ncp hc1
    -- the ties
    refine ⟨_, rfl, _, rfl, RgOk.of_le (by omega) (by omega) (by omega) (by omega), fun L hL => ?_⟩
    have nL := purse_none pa2 hL
    have lrg : (rgV 0 (sz : Int)).length = sz := by rw [rgV_length]; omega
    refine ⟨L, _, rfl, upd_same, by rw [lrg]; omega, fun H3 D s3 nD ⟨Ts, hd, tu⟩ => ⟨D, rfl, ⟨_, SqL.of hd⟩, fun C hC => ?_⟩⟩
    have pa3 := (pa2.upd (o := .lst (rgV 0 (sz : Int))) nL).same s3
    have sx3 : SameX p H2 H3 := ((SameX.refl p H2).updN hL).trans (SameX.of s3)
    have nDp : D ≠ p := purse_none (pa2.upd (o := .lst (rgV 0 (sz : Int))) nL) nD
    have nC := purse_none pa3 hC
    have pl : (prs (rgV 0 (sz : Int))).length ≤ 9 := by
      have h1 := prs_len (rgV 0 (sz : Int))
      rw [lrg] at h1
      have h2 : sz * sz ≤ 3 * 3 := Nat.mul_le_mul sz3 sz3
      omega
    have lT := tu.1
    refine lc_list (xs := Ts.map V.ref) (fun j H4 => ∃ (Us : List Addr) (qs : List (V × V)), H4 C = some (.lst (Us.map V.ref)) ∧ SameX p H3 H4 ∧ Tups H4 Us qs ∧ (∀ q ∈ qs, q ∈ prs (rgV 0 (sz : Int))) ∧ qs.length ≤ j ∧ PurseAt H4 p c0 (n + 40 + (9 - j)))
      ⟨[], [], upd_same, (SameX.refl p H3).updN hC, Tups.nil, (fun _ h => nomatch h), Nat.le_refl _, (pa3.upd nC).less (by omega)⟩ (fun j H4 _ ⟨Us, qs, _, s6, _⟩ => SqL.of (s6 _ _ nDp hd)) ?_ ?_
    · rintro j v H4 hv ⟨Us, qs, hu, s6, tu2, mq, lq, pa4⟩
      rw [List.getElem?_map] at hv
      obtain ⟨T0, hT, rfl⟩ := Option.map_eq_some_iff.mp hv
      have jl := (List.getElem?_eq_some_iff.mp hT).1
      have hq : (prs (rgV 0 (sz : Int)))[j]? = some (prs (rgV 0 (sz : Int)))[j] := List.getElem?_eq_getElem (by omega)
      have qm : (prs (rgV 0 (sz : Int)))[j] ∈ prs (rgV 0 (sz : Int)) := List.getElem_mem _
      generalize (prs (rgV 0 (sz : Int)))[j] = q at hq qm
      have e1' := tu.2 j T0 q hT hq
      have e0 : n + 40 + (9 - j) = n + 40 + (9 - (j + 1)) + 1 := by omega
      rw [e0] at pa4
      refine ⟨rfl, _, rfl, p, _, c0, _, rfl, pa4, by decide, by decide, fun H5 u u0 u1 s7 pa5 => ⟨rfl, _, rfl, ?_⟩⟩
      have T0p : T0 ≠ p := purse_ne pa3 e1' fun _ _ _ _ z => nomatch z
      have e1 := s7 _ _ T0p (s6 _ _ T0p e1')
      have hu4 := s7 _ _ nC hu
      have tu4 : Tups H5 Us qs := tu2.keep fun T o hT' e => by
        obtain ⟨y, _, ey⟩ := tu2.at hT'
        exact s7 _ _ (purse_ne pa4 ey fun _ _ _ _ z => nomatch z) e
      refine ite2 (fun hb => ?_) (fun hb => ?_)
      · refine ⟨_, rfl, _, hu4, by rw [List.length_map, sizeLine_eq, tu2.1]; omega, Us ++ [T0], qs ++ [q], by rw [upd_same]; simp, fun b o nb e => ?_, ?_, fun z hz => ?_, by rw [List.length_append, List.length_singleton]; omega, pa5.upd nC⟩
        · rw [upd_ne (ne_of_none e hC)]
          exact s7 _ _ nb (s6 _ _ nb e)
        · have t3 := tu4.upd (a := C) (o := .lst (Us.map V.ref ++ [V.ref T0])) fun x y e => by
            rw [hu4] at e
            cases e
          exact t3.snoc (by rw [upd_ne (ne_of hu4 e1 (fun z => nomatch z)).symm]; exact e1)
        · rcases List.mem_append.mp hz with h | h
          · exact mq z h
          · rw [List.mem_singleton.mp h]
            exact qm
      · exact ⟨Us, qs, hu4, s6.trans s7, tu4, mq, by omega, pa5⟩
    rintro H4 ⟨Us, qs, hu, s6, tu2, mq, lq, pa4⟩
    rw [List.length_map] at lq
    have sx4 : SameX p H2 H4 := sx3.trans s6
    have sx04 : SameX p H H4 := (sx1.trans sx2).trans sx4
    have hc4 := sx4 _ _ ncp hc2
    have hl4 := sx4 _ _ nR hl
    have rows4 : ∀ a ∈ Ls, Row H4 xs.length a := fun a ha => by
      obtain ⟨⟨ms, e1, e2, e3⟩, e4, e5⟩ := rows a ha
      exact ⟨ms, sx4 _ _ e5 e1, e2, e3⟩
    -- the friendships
    refine ⟨Nat.zero_le _, fun Fd hF => ?_⟩
    have nF := purse_none pa4 hF
    have cF := ne_of_none hc4 hF
    refine ⟨_, rfl, c, _, rfl, .inl (SqL.of (by rw [upd_ne cF]; exact hc4)), _, rfl, by rw [List.length_map]; exact RgOk.of_le (by omega) (by omega) (by omega) (by omega), fun L2 hL2 => ?_⟩
    rw [List.length_map]
    have lrg2 : (rgV 0 (xs.length : Int)).length = xs.length := by rw [rgV_length]; omega
    have hL24 : H4 L2 = none := by
      have x1 : Fd ≠ L2 := ne_of_none upd_same hL2
      rw [upd_ne (Ne.symm x1)] at hL2
      exact hL2
    refine ⟨L2, _, rfl, upd_same, by rw [lrg2]; omega, fun H5 D2 s5 nD2 ⟨Vs, hd2, tv2⟩ => ⟨D2, rfl, ⟨_, SqL.of hd2⟩, ?_⟩⟩
    have s45 : Same H4 H5 := fun b o e => s5 _ _ ((same_updN (same_updN (o := .lst []) (fun _ _ e => e) hF) hL2) _ _ e)
    have pa5 := pa4.same s45
    have hF5 : H5 Fd = some (.lst []) := s5 _ _ (by rw [upd_ne (ne_of_none upd_same hL2), upd_same])
    have lV := tv2.1
    have l36 := Good.len0 g.few.2
    have hl5 := s45 _ _ hl4
    have hu5 := s45 _ _ hu
    have tu5 := tu2.same s45
    have hc5 := s45 _ _ hc4
    have rows5 : ∀ a ∈ Ls, Row H5 xs.length a := fun a ha => by
      obtain ⟨ms, e1, e2, e3⟩ := rows4 a ha
      exact ⟨ms, s45 _ _ e1, e2, e3⟩
    have nDF : D2 ≠ Fd := fun z => by
      rw [z] at nD2
      rw [upd_ne (ne_of_none upd_same hL2), upd_same] at nD2
      cases nD2
    have CF : C ≠ Fd := ne_of_none hu hF
    have RF : R ≠ Fd := ne_of_none hl4 hF
    refine for_list (xs := Vs.map V.ref) (fun i σ H6 => ∃ (Ws : List Addr) (ws : List Pr) (v9 v10 v11 v12 v13 : Option V), σ = [some (.ref p), some (.ref c), some (.int sz), none, none, some (.ref R), none, some (.ref C), some (.ref Fd), v9, v10, v11, v12, v13] ∧ H6 Fd = some (.lst (Ws.map V.ref)) ∧ Tups H6 Ws (ws.map tv) ∧ ws.Sublist ((prsS xs).take i) ∧ (∀ b o, b ≠ Fd → H5 b = some o → H6 b = some o))
      ⟨[], [], none, none, none, none, none, rfl, hF5, Tups.nil, List.nil_sublist _, fun _ _ _ e => e⟩ ?_ ?_ ?_
    · rintro i σ H6 _ ⟨Ws, ws, v9, v10, v11, v12, v13, rfl, _, _, _, kp⟩
      exact SqL.of (kp _ _ nDF hd2)
    · rintro i x σ H6 hx ⟨Ws, ws, v9, v10, v11, v12, v13, rfl, hf6, tw, sb, kp⟩
      rw [List.getElem?_map] at hx
      obtain ⟨T0, hT, rfl⟩ := Option.map_eq_some_iff.mp hx
      have jl := (List.getElem?_eq_some_iff.mp hT).1
      have hq : (prs (rgV 0 (xs.length : Int)))[i]? = some (prs (rgV 0 (xs.length : Int)))[i] := List.getElem?_eq_getElem (by omega)
      generalize (prs (rgV 0 (xs.length : Int)))[i] = q at hq
      have e1 := tv2.2 i T0 q hT hq
      obtain ⟨fi, se, ta, tb, rfl, hta, htb, hpr⟩ := prs_places xs i q hq
      have fl : fi < xs.length := (List.getElem?_eq_some_iff.mp hta).1
      have sl : se < xs.length := (List.getElem?_eq_some_iff.mp htb).1
      have e6 := kp _ _ (ne_of hF5 e1 (fun z => nomatch z)).symm e1
      have hu6 := kp _ _ CF hu5
      have hl6 := kp _ _ RF hl5
      have hc6 := kp _ _ cF hc5
      have tu6 : Tups H6 Us qs := tu5.keep fun T o hT' e => by
        obtain ⟨y, _, ey⟩ := tu5.at hT'
        exact kp _ _ (ne_of hF5 ey (fun z => nomatch z)).symm e
      have rows6 : ∀ a ∈ Ls, Row H6 xs.length a := fun a ha => by
        obtain ⟨ms, e1, e2, e3⟩ := rows5 a ha
        have aF : a ≠ Fd := fun z => by
          rw [z, hF5] at e1
          cases ms with
          | nil =>
            have : (0 : Nat) = xs.length := e2
            omega
          | cons m ms => cases e1
        exact ⟨ms, kp _ _ aF e1, e2, e3⟩
      refine ⟨T0, _, rfl, SqT.of e6, rfl, _, _, rfl, _, _, rfl, rfl, ?_⟩
      refine ⟨_, rfl, C, rfl, ⟨_, SqL.of hu6⟩, ?_⟩
      refine for_list (xs := Us.map V.ref) (fun j σ H7 => ∃ (t : Int) (v12 v13 : Option V), σ = [some (.ref p), some (.ref c), some (.int sz), none, none, some (.ref R), none, some (.ref C), some (.ref Fd), some (.int fi), some (.int se), some (.int t), v12, v13] ∧ H7 = H6 ∧ 0 ≤ t ∧ t ≤ 2 * (j : Int))
        ⟨0, v12, v13, rfl, rfl, Int.le_refl _, by omega⟩ (fun j σ H7 _ ⟨t, _, _, _, e, _⟩ => by rw [e]; exact SqL.of hu6) ?_ ?_
      · rintro j x σ H7 hx ⟨t, v12, v13, rfl, rfl, t0, t1⟩
        rw [List.getElem?_map] at hx
        obtain ⟨T1, hT1, rfl⟩ := Option.map_eq_some_iff.mp hx
        have jl1 := (List.getElem?_eq_some_iff.mp hT1).1
        have jq : j < qs.length := by
          rw [← tu6.1]
          exact jl1
        have hq1 : qs[j]? = some qs[j] := List.getElem?_eq_getElem jq
        have mm := mem_prs (mq _ (List.getElem_mem jq))
        generalize qs[j] = q1 at hq1 mm
        obtain ⟨a1, ea1, la1⟩ := mem_rgV mm.1
        obtain ⟨a2, ea2, la2⟩ := mem_rgV mm.2
        have eT1 := tu6.2 j T1 q1 hT1 hq1
        rw [ea1, ea2] at eT1
        have g1 : Ls[a1]? = some Ls[a1] := List.getElem?_eq_getElem (by omega)
        have g2 : Ls[a2]? = some Ls[a2] := List.getElem?_eq_getElem (by omega)
        have w1 : atI (Ls.map V.ref) (a1 : Int) = some (.ref Ls[a1]) := atI_nat (by rw [List.getElem?_map, g1]; rfl)
        have w2 : atI (Ls.map V.ref) (a2 : Int) = some (.ref Ls[a2]) := atI_nat (by rw [List.getElem?_map, g2]; rfl)
        obtain ⟨n1, x1, h11, h12, b11, b12⟩ := (rows6 _ (List.getElem_mem (by omega : a1 < Ls.length))).at fl
        obtain ⟨n2, x2, h21, h22, b21, b22⟩ := (rows6 _ (List.getElem_mem (by omega : a2 < Ls.length))).at sl
        obtain ⟨n3, x3, h31, h32, b31, b32⟩ := (rows6 _ (List.getElem_mem (by omega : a2 < Ls.length))).at fl
        obtain ⟨n4, x4, h41, h42, b41, b42⟩ := (rows6 _ (List.getElem_mem (by omega : a1 < Ls.length))).at sl
        have bits : ∀ u v : Int, 0 ≤ u → u ≤ 1 → 0 ≤ v → v ≤ 1 → 0 ≤ u * v ∧ u * v ≤ 1 := fun u v h1 h2 h3 h4 => by
          have : u = 0 ∨ u = 1 := by omega
          rcases this with e | e <;> subst e <;> omega
        obtain ⟨m1, m2⟩ := bits x1 x2 b11 b12 b21 b22
        obtain ⟨m3, m4⟩ := bits x3 x4 b31 b32 b41 b42
        refine ⟨T1, _, rfl, SqT.of eT1, rfl, _, _, rfl, _, _, rfl, rfl, ?_⟩
        refine ⟨_, rfl, _, rfl, _, rfl, R, _, _, _, rfl, rfl, SqL.of hl6, w1, _, rfl, _, _, _, _, rfl, rfl, SqL.of h11, h12, _, rfl, _, rfl, R, _, _, _, rfl, rfl, SqL.of hl6, w2, _, rfl, _, _, _, _, rfl, rfl, SqL.of h21, h22, _, _, rfl, rfl, .inl ⟨by omega, by omega⟩, _, _, rfl, rfl, ?_⟩
        refine ⟨_, rfl, _, rfl, _, rfl, R, _, _, _, rfl, rfl, SqL.of hl6, w2, _, rfl, _, _, _, _, rfl, rfl, SqL.of h31, h32, _, rfl, _, rfl, R, _, _, _, rfl, rfl, SqL.of hl6, w1, _, rfl, _, _, _, _, rfl, rfl, SqL.of h41, h42, _, _, rfl, rfl, .inl ⟨by omega, by omega⟩, _, _, rfl, rfl, ?_⟩
        exact ⟨t + x1 * x2 + x3 * x4, some (.int a1), some (.int a2), rfl, rfl, by omega, by omega⟩
      · rintro σ H7 ⟨t, v12, v13, rfl, rfl, t0, t1⟩
        refine ⟨_, rfl, .inl ⟨_, rfl, _, _, rfl, rfl, (by show (0 : Int) < 2; decide), rfl, _, rfl, ?_⟩⟩
        have sb2 : ws.Sublist ((prsS xs).take (i + 1)) := by
          rw [take_next hpr]
          exact sb.trans (List.sublist_append_left _ _)
        refine ite2 (fun _ => ?_) (fun _ => ?_)
        · refine ⟨_, rfl, .inl ⟨rfl, _, SqL.of hf6⟩, _, rfl, _, rfl, c, _, _, .str ta, rfl, rfl, SqL.of hc6, atI_nat (by rw [List.getElem?_map, hta]; rfl), _, rfl, _, rfl, c, _, _, .str tb, rfl, rfl, SqL.of hc6, atI_nat (by rw [List.getElem?_map, htb]; rfl), by show 2 ≤ sizeLine; decide, fun Z hZ => ?_⟩
          have FZ := ne_of_none hf6 hZ
          have lw : Ws.length ≤ 36 := by
            rw [tw.1, List.length_map]
            have h1 := sb.length_le
            rw [List.length_take] at h1
            omega
          refine ⟨Fd, _, _, rfl, rfl, by rw [upd_ne FZ]; exact hf6, by rw [List.length_map, sizeLine_eq]; omega, Ws ++ [Z], ws ++ [(ta, tb)], _, _, _, _, _, rfl, by rw [upd_same]; simp, ?_, by rw [take_next hpr]; exact sb.append (List.Sublist.refl _), fun b o nb e => ?_⟩
          · rw [List.map_append]
            have t3 : Tups (upd (upd H7 Z (.tup [.str ta, .str tb])) Fd (.lst (Ws.map V.ref ++ [.ref Z]))) Ws (ws.map tv) := (tw.keep (H' := upd H7 Z (.tup [.str ta, .str tb])) fun T o _ e => by rw [upd_ne (ne_of_none e hZ)]; exact e).upd fun x y e => by
              rw [upd_ne FZ, hf6] at e
              cases e
            exact t3.snoc (p := tv (ta, tb)) (by rw [upd_ne (Ne.symm FZ), upd_same]; rfl)
          · have e7 := kp _ _ nb e
            rw [upd_ne nb, upd_ne (ne_of_none e7 hZ)]
            exact e7
        · exact ⟨Ws, ws, _, _, _, _, _, rfl, hf6, tw, sb2, kp⟩
    · rintro σ H6 ⟨Ws, ws, v9, v10, v11, v12, v13, rfl, hf6, tw, sb, kp⟩
      rw [List.length_map, lV] at sb
      have e36 : (prs (rgV 0 (xs.length : Int))).length = (prsS xs).length := by
        have h1 := two_len (rgV 0 (xs.length : Int))
        have h2 := prsS_len xs
        rw [lrg2] at h1
        omega
      rw [e36, List.take_length] at sb
      refine ⟨_, rfl, _, rfl, by show 2 ≤ sizeLine; decide, fun Z hZ => ?_⟩
      have sx6 : SameX p H H6 := fun b o nb e => by
        have e4 := sx04 _ _ nb e
        exact kp _ _ (ne_of_none e4 hF) (s45 _ _ e4)
      have pa6 : PurseAt H6 p c0 n := by
        obtain ⟨b, t, z, e, q⟩ := pa5.less (m := n) (by omega)
        exact ⟨b, t, z, kp _ _ (Ne.symm nF) e, q⟩
      have nZ := purse_none pa6 hZ
      refine k _ Z ws sb (sx6.updN (sx6.none hZ nZ)) (sx6.none hZ nZ) ⟨c, Fd, upd_same, ?_, Ws, by rw [upd_ne (ne_of_none hf6 hZ)]; exact hf6, tw.keep fun T o _ e => by rw [upd_ne (ne_of_none e hZ)]; exact e⟩ nZ (pa6.upd nZ)
      have hc6 := kp _ _ cF hc5
      rw [upd_ne (ne_of_none hc6 hZ)]
      exact hc6
end
end Wd
end
section
set_option maxRecDepth 100000
set_option maxHeartbeats 4000000
namespace Wd
open PySem L2
theorem mk_eq {a b c d : Str} (h : mk a b = mk c d) : (a = c ∧ b = d) ∨ (a = d ∧ b = c) := by
  unfold mk at h
  by_cases h1 : Lt a b <;> by_cases h2 : Lt c d
  · rw [if_pos h1, if_pos h2] at h
    exact .inl (Prod.mk.inj h)
  · rw [if_pos h1, if_neg h2] at h
    exact .inr (Prod.mk.inj h)
  · rw [if_neg h1, if_pos h2] at h
    have := Prod.mk.inj h
    exact .inr ⟨this.2, this.1⟩
  · rw [if_neg h1, if_neg h2] at h
    have := Prod.mk.inj h
    exact .inl ⟨this.2, this.1⟩
theorem mk_mem {xs : List Str} (a : Asc xs) {x y : Str} (hx : x ∈ xs) (hy : y ∈ xs) (ne : x ≠ y) : mk x y ∈ prsS xs := by
  unfold mk
  rcases Lt.tri x y with h | h | h
  · rw [if_pos h]
    exact prsS_mem a hx hy h
  · exact absurd h ne
  · rw [if_neg fun z => Lt.irr _ (z.tr h)]
    exact prsS_mem a hy hx h
theorem mk_has {x y z : Str} (h : z = (mk x y).1 ∨ z = (mk x y).2) : z = x ∨ z = y := by
  unfold mk at h
  split at h
  · exact h
  · exact h.symm
theorem has_mk (x y : Str) : x = (mk x y).1 ∨ x = (mk x y).2 := by
  unfold mk
  split
  · exact .inl rfl
  · exact .inr rfl
/-- pairs told by two places each -/
def IP (ms : List Str) (l : List (Nat × Nat)) : List Pr := l.map fun q => mk (ms.getD q.1 Str.empty) (ms.getD q.2 Str.empty)
def okI (n : Nat) (l : List (Nat × Nat)) : Bool := (l.all fun q => decide (q.1 < n) && decide (q.2 < n) && decide (q.1 ≠ q.2)) &&
  ((List.range l.length).all fun i => (List.range l.length).all fun j => decide (i = j) || (match l[i]?, l[j]? with
    | some a, some b => !(decide (a.1 = b.1) && decide (a.2 = b.2)) && !(decide (a.1 = b.2) && decide (a.2 = b.1))
    | _, _ => true))
theorem getD_inj {ms : List Str} (nd : ms.Nodup) {i j : Nat} (hi : i < ms.length) (hj : j < ms.length) (h : ms.getD i Str.empty = ms.getD j Str.empty) : i = j := by
  rw [List.getD_eq_getElem?_getD, List.getD_eq_getElem?_getD, List.getElem?_eq_getElem hi, List.getElem?_eq_getElem hj] at h
  have h' : ms[i] = ms[j] := h
  rcases Nat.lt_trichotomy i j with c | c | c
  · exact absurd h' (List.pairwise_iff_getElem.mp nd i j hi hj c)
  · exact c
  · exact absurd h'.symm (List.pairwise_iff_getElem.mp nd j i hj hi c)
theorem getD_mem {ms : List Str} {i : Nat} (hi : i < ms.length) : ms.getD i Str.empty ∈ ms := by
  rw [List.getD_eq_getElem?_getD, List.getElem?_eq_getElem hi]
  exact List.getElem_mem hi
theorem ip_ok {xs ms : List Str} {l : List (Nat × Nat)} (a : Asc xs) (pm : ms.Perm xs) (nd : ms.Nodup) (ok : okI ms.length l = true) : (IP ms l).Nodup ∧ ∀ p ∈ IP ms l, p ∈ prsS xs := by
  unfold okI at ok
  rw [Bool.and_eq_true] at ok
  obtain ⟨o1, o2⟩ := ok
  have at_ : ∀ q ∈ l, q.1 < ms.length ∧ q.2 < ms.length ∧ q.1 ≠ q.2 := fun q hq => by
    have h := List.all_eq_true.mp o1 q hq
    simp only [Bool.and_eq_true, decide_eq_true_eq] at h
    exact ⟨h.1.1, h.1.2, h.2⟩
  refine ⟨?_, fun p hp => ?_⟩
  · unfold IP
    refine List.pairwise_map.mpr (List.pairwise_iff_getElem.mpr fun i j hi hj hij e => ?_)
    have h := List.all_eq_true.mp (List.all_eq_true.mp o2 i (List.mem_range.mpr hi)) j (List.mem_range.mpr hj)
    rw [List.getElem?_eq_getElem hi, List.getElem?_eq_getElem hj, decide_eq_false (by omega : ¬ i = j), Bool.false_or] at h
    obtain ⟨a1, a2, _⟩ := at_ _ (List.getElem_mem hi)
    obtain ⟨b1, b2, _⟩ := at_ _ (List.getElem_mem hj)
    have h' : (¬ l[i].1 = l[j].1 ∨ ¬ l[i].2 = l[j].2) ∧ (¬ l[i].1 = l[j].2 ∨ ¬ l[i].2 = l[j].1) := by simpa using h
    rcases mk_eq e with ⟨e1, e2⟩ | ⟨e1, e2⟩
    · exact h'.1.elim (fun z => z (getD_inj nd a1 b1 e1)) fun z => z (getD_inj nd a2 b2 e2)
    · exact h'.2.elim (fun z => z (getD_inj nd a1 b2 e1)) fun z => z (getD_inj nd a2 b1 e2)
  · obtain ⟨q, hq, rfl⟩ := List.mem_map.mp hp
    obtain ⟨a1, a2, a3⟩ := at_ q hq
    exact mk_mem a (pm.mem_iff.mp (getD_mem a1)) (pm.mem_iff.mp (getD_mem a2)) fun e => a3 (getD_inj nd a1 a2 e)
/-- the shapes' places -/
def shPath (n : Nat) : List (Nat × Nat) := (List.range (n - 1)).map fun k => (k, k + 1)
def shRing (n : Nat) : List (Nat × Nat) := (List.range n).map fun k => (if k = 0 then n - 1 else k - 1, k)
def shStar (m : Nat) : List (Nat × Nat) := (List.range m).map fun k => (0, k + 1)
def shTwos (n : Nat) : List (Nat × Nat) := (List.range ((n - 1) / 2)).map fun k => (1 + 2 * k, 2 + 2 * k)
theorem sh_ok : ((List.range 10).all fun n => okI n (shPath n) && (decide (n < 3) || okI n (shRing n)) && okI n (shStar (n - 1)) && okI n (shTwos n ++ shStar (n - 1)) && okI n (shStar (min 1 (n - 1)))) = true := by decide +kernel
theorem twos_n : ((List.range 10).all fun n => decide (n = 0) || (Builtin.Range.small 1 ((n : Int) - 1) 2 && decide (Builtin.Range.rangeSize 1 ((n : Int) - 1) 2 = (((n - 1) / 2 : Nat) : Int)))) = true := by decide +kernel
/-- one pair more in a list that is being made -/
theorem acc_tup {H2 H3 : Hp} {C T : Addr} {Us : List Addr} {qs : List (V × V)} {q : V × V} (hC : H2 C = none) (s : Same H2 H3) (hu : H3 C = some (.lst (Us.map V.ref))) (tu : Tups H3 Us qs) (hT : H3 T = none) :
    upd H3 T (.tup [q.1, q.2]) C = some (.lst (Us.map V.ref)) ∧ upd (upd H3 T (.tup [q.1, q.2])) C (.lst (Us.map V.ref ++ [.ref T])) C = some (.lst ((Us ++ [T]).map V.ref)) ∧
    Same H2 (upd (upd H3 T (.tup [q.1, q.2])) C (.lst (Us.map V.ref ++ [.ref T]))) ∧ Tups (upd (upd H3 T (.tup [q.1, q.2])) C (.lst (Us.map V.ref ++ [.ref T]))) (Us ++ [T]) (qs ++ [q]) := by
  have CT := ne_of_none hu hT
  refine ⟨by rw [upd_ne CT]; exact hu, by rw [upd_same]; simp, fun b o e => ?_, ?_⟩
  · have e2 := s _ _ e
    rw [upd_ne (ne_of_none e hC), upd_ne (ne_of_none e2 hT)]
    exact e2
  · have t3 : Tups (upd (upd H3 T (.tup [q.1, q.2])) C (.lst (Us.map V.ref ++ [.ref T]))) Us qs := (tu.keep (H' := upd H3 T (.tup [q.1, q.2])) fun U o _ e => by rw [upd_ne (ne_of_none e hT)]; exact e).upd fun x y e => by
      rw [upd_ne CT, hu] at e
      cases e
    exact t3.snoc (by rw [upd_ne (Ne.symm CT), upd_same])
end Wd
end
section
set_option maxRecDepth 100000
set_option maxHeartbeats 4000000
namespace Wd
open PySem L2
theorem perm_strs {ys : List V} {xs : List Str} (pm : ys.Perm (xs.map V.str)) : ∃ ms : List Str, ys = ms.map V.str ∧ ms.Perm xs := by
  refine ⟨ys.map fun v => match v with | .str s => s | _ => Str.empty, ?_, ?_⟩
  · rw [List.map_map]
    refine (List.map_id _).symm.trans (List.map_congr_left fun v hv => ?_)
    obtain ⟨s, _, rfl⟩ := List.mem_map.mp (pm.mem_iff.mp hv)
    rfl
  · refine (pm.map _).trans (List.Perm.of_eq ?_)
    rw [List.map_map]
    exact List.map_id _
theorem Asc.nd {xs : List Str} (a : Asc xs) : xs.Nodup := List.Pairwise.imp (fun {x y} (h : Lt x y) (e : x = y) => Lt.irr y (by rw [e] at h; exact h)) a
theorem ip_next {ms : List Str} {l : List (Nat × Nat)} {i : Nat} {q : Nat × Nat} (h : l[i]? = some q) : (IP ms (l.take (i + 1))).map tv = (IP ms (l.take i)).map tv ++ [tv (mk (ms.getD q.1 Str.empty) (ms.getD q.2 Str.empty))] := by
  rw [take_next h]
  unfold IP
  rw [List.map_append, List.map_append]
  rfl
theorem at_ms {ms : List Str} {i : Nat} (h : i < ms.length) : atI (ms.map V.str) (i : Int) = some (.str (ms.getD i Str.empty)) :=
  atI_nat (by rw [List.getElem?_map, List.getElem?_eq_getElem h, List.getD_eq_getElem?_getD, List.getElem?_eq_getElem h]; rfl)
theorem at_msI {ms : List Str} {i : Nat} {j : Int} (h : i < ms.length) (e : j = (i : Int)) : atI (ms.map V.str) j = some (.str (ms.getD i Str.empty)) := by
  rw [e]
  exact at_ms h
theorem at_msP {ms : List Str} {i : Nat} {j : Int} (h : i < ms.length) (e : j = (i : Int) - 1) : atI (ms.map V.str) j = some (.str (ms.getD (if i = 0 then ms.length - 1 else i - 1) Str.empty)) := by
  by_cases z : i = 0
  · subst z
    rw [if_pos rfl, e]
    have ne : ms ≠ [] := List.ne_nil_of_length_pos h
    have hl : (ms.map V.str) = ms.dropLast.map V.str ++ [V.str (ms.getLast ne)] := by
      rw [← List.map_singleton, ← List.map_append, List.dropLast_concat_getLast]
    have h2 := atI_last (ms.dropLast.map V.str) (V.str (ms.getLast ne))
    rw [← hl] at h2
    refine h2.trans ?_
    rw [List.getD_eq_getElem?_getD, List.getElem?_eq_getElem (by omega), List.getLast_eq_getElem]
    rfl
  · rw [if_neg z]
    exact at_msI (by omega) (by omega)
theorem ite_join {c d : Bool} {X A B : Prop} (w : (if d = true then A else B) → X) (h : if (c && d) = true then A else B) : if c = true then X else if false = true then A else B := by
  cases c
  · exact h
  · exact w h
theorem filter_next {α : Type} {f : α → Bool} {l : List α} {i : Nat} {q : α} (h : l[i]? = some q) : (l.take (i + 1)).filter f = (l.take i).filter f ++ if f q = true then [q] else [] := by
  rw [take_next h, List.filter_append]
  cases c : f q <;> simp [c]
/-- one old pair more in a list that is being made -/
theorem keep_tup {H2 H3 : Hp} {C T : Addr} {Us : List Addr} {qs : List (V × V)} {q : V × V} (hC : H2 C = none) (s : Same H2 H3) (hu : H3 C = some (.lst (Us.map V.ref))) (tu : Tups H3 Us qs) (hT : H3 T = some (.tup [q.1, q.2])) :
    upd H3 C (.lst (Us.map V.ref ++ [.ref T])) C = some (.lst ((Us ++ [T]).map V.ref)) ∧ Same H2 (upd H3 C (.lst (Us.map V.ref ++ [.ref T]))) ∧ Tups (upd H3 C (.lst (Us.map V.ref ++ [.ref T]))) (Us ++ [T]) (qs ++ [q]) := by
  refine ⟨by rw [upd_same]; simp, fun b o e => ?_, ?_⟩
  · rw [upd_ne (ne_of_none e hC)]
    exact s _ _ e
  · have t3 := tu.upd (a := C) (o := .lst (Us.map V.ref ++ [V.ref T])) fun x y e => by
      rw [hu] at e
      cases e
    exact t3.snoc (by rw [upd_ne (ne_of hu hT (fun z => nomatch z)).symm]; exact hT)
def farF (x : Str) (q : Pr) : Bool := !inV (.str x) [.str q.1, .str q.2]
theorem farF_iff {x : Str} {q : Pr} : farF x q = true ↔ ¬ (x = q.1 ∨ x = q.2) := by
  unfold farF
  have h := in_strs x [q.1, q.2]
  rw [show inV (.str x) [.str q.1, .str q.2] = decide (x ∈ [q.1, q.2]) from h]
  simp
theorem prsS_nd {xs : List Str} (a : Asc xs) : (prsS xs).Nodup := List.Pairwise.imp (fun {p q} (h : LtP p q) (e : p = q) => LtP.irr q (by rw [e] at h; exact h)) (prsS_asc a)
def sideF (bs : List Str) (q : Pr) : Bool := decide (V.bl (inV (.str q.1) (bs.map V.str)) = V.bl (inV (.str q.2) (bs.map V.str)))
theorem sh_of {n : Nat} (h : n < 10) : okI n (shPath n) = true ∧ (n < 3 ∨ okI n (shRing n) = true) ∧ okI n (shStar (n - 1)) = true ∧ okI n (shTwos n ++ shStar (n - 1)) = true ∧ okI n (shStar (min 1 (n - 1))) = true := by
  have h := List.all_eq_true.mp sh_ok n (List.mem_range.mpr h)
  simp only [Bool.and_eq_true, Bool.or_eq_true, decide_eq_true_eq] at h
  exact ⟨h.1.1.1.1, h.1.1.1.2, h.1.1.2, h.1.2, h.2⟩
abbrev nSh : List Str := ["_law_purse_here", "_law_crowd", "_law_way", "_law_mixed_here", "_law_pairs_here", "_law_at", "_law_late", "_law_pair_here", "_law_near", "_law_part"]
section
variable {P : Program} {w : World} {K : PySem.W.Frag} {mg : Str → Option Value} {base : Heap}
set_option maxHeartbeats 1000000 in
theorem ok_shaped {f : Addr} {fd : FuncData} (F : Fun K "_law_shaped" "_law_shaped" s_shaped f fd) (T : Bt mg) (CD : Has P w K mg base 2 "_law_draw" ["_law_purse_here", "_law_many"] spDraw)
    (CP : Has P w K mg base 1 "_law_pairs" ["_law_crowd"] spPairs) (CR : Has P w K mg base 1 "_law_pair" ["_law_first", "_law_second"] spPair) (CS : Has P w K mg base 3 "_law_shuffled" ["_law_purse_here", "_law_some"] spShuffled) :
    FnOk P w K mg base CX0 4 f fd ["_law_purse_here", "_law_crowd"] (spMade 110) := by
  obtain ⟨fD, fdD, GD, mD, kD, bD⟩ := CD
  obtain ⟨fP, fdP, GP, mP, kP, bP⟩ := CP
  obtain ⟨fR, fdR, GR, mR, kR, bR⟩ := CR
  obtain ⟨fS, fdS, GS, mS, kS, bS⟩ := CS
  refine F.ok c_shaped (fun vs H Q E h => ?_) (fun cdv A outer s H vs Q E hr h => ?_)
  · obtain ⟨_, _, _, _, _, rfl, _⟩ := h
    rfl
  · obtain ⟨p, c, xs, c0, n, rfl, pa, hc, g, k⟩ := h
    have hr1 : Room 1 _ := hr.mono (by decide)
    have hr2 : Room 2 _ := hr.mono (by decide)
    have hr3 : Room 3 _ := hr.mono (by decide)
    refine ⟨_, pss_cons (ps_asg (pe_tup (pa_cons (pe_call GD hr2 rfl mD kD bD .nil pass0 (pa_cons (pv 0) (pa_cons pe_int pa_nil))) (pa_cons (pe_call GS hr3 rfl mS kS bS .nil pass0 (pa_cons (pv 0) (pa_cons (pv 1) pa_nil))) pa_nil)))
        (pg_tup rfl (pgs_cons (pg_name (i := 2) c_shaped.nd rfl (Or.inl rfl)) (pgs_cons (pg_name (i := 3) c_shaped.nd rfl (Or.inr rfl)) pgs_nil))))
      (pss_cons (ps_set (i := 4) c_shaped.nd rfl (Or.inl rfl) (pe_call GP hr1 rfl mP kP bP .nil pass0 (pa_cons (pv 1) pa_nil)))
      (pss_cons (ps_if (pt_cmpR op_eq (pv 2) pe_int (nomark _)) (pss_one (ps_ret (pe_lst (pa_cons (pv 1) (pa_cons (pe_lst pa_nil) pa_nil))))) pss_nil)
      (pss_cons (ps_if (pt_cmpR op_eq (pv 2) pe_int (nomark _)) (pss_one (ps_ret (pe_lst (pa_cons (pv 1) (pa_cons (pv 4) pa_nil))))) pss_nil)
      (pss_cons (ps_if (pt_cmpR op_eq (pv 2) pe_int (nomark _)) (pss_one (ps_ret (pe_lst (pa_cons (pv 1) (pa_cons (pe_callB (Kx.cr_sortedD hr.units) (by rfl) T.sorted (by decide +kernel) (pa_cons (pe_lc (own := [("_law_at", 5)]) (g := gName 5) (tt := tYes) rfl c_shaped.nd (pi_range1 rfl T.range (pa_cons (pe_op op_sub (pe_callB call_len_seq (by rfl) T.len PySem.boot_len (pa_cons (pv 3) pa_nil)) pe_int) pa_nil))
          (blkOk_by (N := nSh) (sc := defScope s_shaped) (by decide +kernel)) (fun _ _ _ _ _ => pg_name (i := 5) c_shaped.nd rfl (Or.inl rfl)) (fun _ _ _ _ _ => pts_nil)
          (fun _ _ _ _ _ => (pe_call GR hr1 rfl mR kR bR .nil pass0 (pa_cons (pe_ix (r := rIxL K) ix_list (pv 3) (pv 5) (fun _ _ => rfl)) (pa_cons (pe_ix (r := rIxL K) ix_list (pv 3) (pe_op op_add (pv 5) pe_int) (fun _ _ => rfl)) pa_nil))))) pa_nil)) pa_nil))))) pss_nil)
      (pss_cons (ps_if (PW.pt (pw_and (pt_cmpR op_eq (pv 2) pe_int (nomark _)) (pw_and1 (pt_cmpR op_gt (pe_callB call_len_seq (by rfl) T.len PySem.boot_len (pa_cons (pv 1) pa_nil)) pe_int (nomark _))))) (pss_one (ps_ret (pe_lst (pa_cons (pv 1) (pa_cons (pe_callB (Kx.cr_sortedD hr.units) (by rfl) T.sorted (by decide +kernel) (pa_cons (pe_lc (own := [("_law_at", 5)]) (g := gName 5) (tt := tYes) rfl c_shaped.nd (pi_range1 rfl T.range (pa_cons (pe_callB call_len_seq (by rfl) T.len PySem.boot_len (pa_cons (pv 3) pa_nil)) pa_nil))
          (blkOk_by (N := nSh) (sc := defScope s_shaped) (by decide +kernel)) (fun _ _ _ _ _ => pg_name (i := 5) c_shaped.nd rfl (Or.inl rfl)) (fun _ _ _ _ _ => pts_nil)
          (fun _ _ _ _ _ => (pe_call GR hr1 rfl mR kR bR .nil pass0 (pa_cons (pe_ix (r := rIxL K) ix_list (pv 3) (pe_op op_sub (pv 5) pe_int) (fun _ _ => rfl)) (pa_cons (pe_ix (r := rIxL K) ix_list (pv 3) (pv 5) (fun _ _ => rfl)) pa_nil))))) pa_nil)) pa_nil))))) pss_nil)
      (pss_cons (ps_if (pt_cmpR op_eq (pv 2) pe_int (nomark _)) (pss_one (ps_ret (pe_lst (pa_cons (pv 1) (pa_cons (pe_callB (Kx.cr_sortedD hr.units) (by rfl) T.sorted (by decide +kernel) (pa_cons (pe_lc (own := [("_law_late", 6)]) (g := gName 6) (tt := tYes) rfl c_shaped.nd (pi_list (pe_slice sl_list (pv 3) (po_some pe_int) po_none))
          (blkOk_by (N := nSh) (sc := defScope s_shaped) (by decide +kernel)) (fun _ _ _ _ _ => pg_name (i := 6) c_shaped.nd rfl (Or.inl rfl)) (fun _ _ _ _ _ => pts_nil)
          (fun _ _ _ _ _ => (pe_call GR hr1 rfl mR kR bR .nil pass0 (pa_cons (pe_ix (r := rIxL K) ix_list (pv 3) pe_int (fun _ _ => rfl)) (pa_cons (pv 6) pa_nil))))) pa_nil)) pa_nil))))) pss_nil)
      (pss_cons (ps_if (pt_cmpR op_eq (pv 2) pe_int (nomark _)) (pss_cons (ps_setLc (i := 8) (own := [("_law_pair_here", 7)]) (g := gName 7) rfl c_shaped.nd rfl rfl (sw_true rfl rfl rfl (by decide +kernel)) (pi_list (pv 4))
          (blkOk_by (N := nSh) (sc := defScope s_shaped) (by decide +kernel)) (fun _ _ _ _ _ => pg_name (i := 7) c_shaped.nd rfl (Or.inl rfl)) (fun _ _ _ _ _ => pts_one (pt_cmpR (r := rIn K true) op_notIn_seq (pe_ix (r := rIxL K) ix_list (pv 3) pe_int (fun _ _ => rfl)) (pv 7) rfl))
          (fun _ _ _ _ _ => pv 7)) (pss_one (ps_ret (pe_lst (pa_cons (pv 1) (pa_cons (pe_callB (Kx.cr_sortedD hr.units) (by rfl) T.sorted (by decide +kernel) (pa_cons (pe_op op_cat (pv 8) (pe_lc (own := [("_law_late", 6)]) (g := gName 6) (tt := tYes) rfl c_shaped.nd (pi_list (pe_slice sl_list (pv 3) (po_some pe_int) (po_some (pe_op op_add pe_int (pe_call GD hr2 rfl mD kD bD .nil pass0 (pa_cons (pv 0) (pa_cons pe_int pa_nil)))))))
          (blkOk_by (N := nSh) (sc := defScope s_shaped) (by decide +kernel)) (fun _ _ _ _ _ => pg_name (i := 6) c_shaped.nd rfl (Or.inl rfl)) (fun _ _ _ _ _ => pts_nil)
          (fun _ _ _ _ _ => (pe_call GR hr1 rfl mR kR bR .nil pass0 (pa_cons (pe_ix (r := rIxL K) ix_list (pv 3) pe_int (fun _ _ => rfl)) (pa_cons (pv 6) pa_nil)))))) pa_nil)) pa_nil)))))) pss_nil)
      (pss_cons (ps_if (pt_cmpR op_eq (pv 2) pe_int (nomark _)) (pss_cons (ps_setLc (i := 8) (own := [("_law_at", 5)]) (g := gName 5) (tt := tYes) rfl c_shaped.nd rfl rfl (sw_true rfl rfl rfl (by decide +kernel)) (pi_range3 rfl T.range (pa_cons pe_int (pa_cons (pe_op op_sub (pe_callB call_len_seq (by rfl) T.len PySem.boot_len (pa_cons (pv 3) pa_nil)) pe_int) (pa_cons pe_int pa_nil))))
          (blkOk_by (N := nSh) (sc := defScope s_shaped) (by decide +kernel)) (fun _ _ _ _ _ => pg_name (i := 5) c_shaped.nd rfl (Or.inl rfl)) (fun _ _ _ _ _ => pts_nil)
          (fun _ _ _ _ _ => (pe_call GR hr1 rfl mR kR bR .nil pass0 (pa_cons (pe_ix (r := rIxL K) ix_list (pv 3) (pv 5) (fun _ _ => rfl)) (pa_cons (pe_ix (r := rIxL K) ix_list (pv 3) (pe_op op_add (pv 5) pe_int) (fun _ _ => rfl)) pa_nil))))) (pss_one (ps_ret (pe_lst (pa_cons (pv 1) (pa_cons (pe_callB (Kx.cr_sortedD hr.units) (by rfl) T.sorted (by decide +kernel) (pa_cons (pe_op op_cat (pv 8) (pe_lc (own := [("_law_late", 6)]) (g := gName 6) (tt := tYes) rfl c_shaped.nd (pi_list (pe_slice sl_list (pv 3) (po_some pe_int) po_none))
          (blkOk_by (N := nSh) (sc := defScope s_shaped) (by decide +kernel)) (fun _ _ _ _ _ => pg_name (i := 6) c_shaped.nd rfl (Or.inl rfl)) (fun _ _ _ _ _ => pts_nil)
          (fun _ _ _ _ _ => (pe_call GR hr1 rfl mR kR bR .nil pass0 (pa_cons (pe_ix (r := rIxL K) ix_list (pv 3) pe_int (fun _ _ => rfl)) (pa_cons (pv 6) pa_nil)))))) pa_nil)) pa_nil)))))) pss_nil)
      (pss_cons (ps_set (i := 9) c_shaped.nd rfl (Or.inr rfl) (pe_slice sl_list (pv 3) po_none (po_some (pe_op op_add pe_int (pe_call GD hr2 rfl mD kD bD .nil pass0 (pa_cons (pv 0) (pa_cons (pe_callB call_len_seq (by rfl) T.len PySem.boot_len (pa_cons (pv 3) pa_nil)) pa_nil)))))))
      (pss_one (ps_ret (pe_lst (pa_cons (pv 1) (pa_cons (pe_lc (own := [("_law_pair_here", 7)]) (g := gName 7) rfl c_shaped.nd (pi_list (pv 4))
          (blkOk_by (N := nSh) (sc := defScope s_shaped) (by decide +kernel)) (fun _ _ _ _ _ => pg_name (i := 7) c_shaped.nd rfl (Or.inl rfl)) (fun _ _ _ _ _ => pts_one (pt_cmpR op_eq (pe_cmpR (r := rIn K false) op_in_seq (pe_ix (r := rIxT K) ix_tup (pv 7) pe_int (fun _ _ => rfl)) (pv 9) rfl) (pe_cmpR (r := rIn K false) op_in_seq (pe_ix (r := rIxT K) ix_tup (pv 7) pe_int (fun _ _ => rfl)) (pv 9) rfl) (nomark _)))
          (fun _ _ _ _ _ => pv 7)) pa_nil)))))))))))))), ?_⟩
    have lx := g.few
    have ncp : c ≠ p := purse_ne pa hc fun b' c' t' z' e => by
      have l := congrArg (fun o : HO => match o with | .lst (.int i :: _) => true | _ => false) e
      cases xs with
      | nil => simp at l
      | cons x r => simp at l
    refine ⟨_, rfl, p, _, c0, n + 109, rfl, pa, by decide, by decide, fun H1 r r0 r1 sx1 pa1 => ?_⟩
    have hc1 := sx1 _ _ ncp hc
    have lxs : (xs.map V.str).length = xs.length := List.length_map _
    refine ⟨_, rfl, _, rfl, p, c, _, c0, n + 100, rfl, pa1.less (by omega), hc1, ncp, by omega, fun H2 S ys pm sx2 nS hS nSp pa2 => ?_⟩
    have hc2 := sx2 _ _ ncp hc1
    refine ⟨by show 2 ≤ sizeLine; decide, fun T0 hT0 => ⟨T0, _, rfl, SqT.of upd_same, rfl, _, _, rfl, _, _, rfl, rfl, ?_⟩⟩
    refine ⟨_, rfl, c, xs.map V.str, rfl, by rw [upd_ne (ne_of_none hc2 hT0)]; exact hc2, by rw [lxs]; omega, fun H4 D s4 nD ⟨Ts, hd, tu⟩ => ?_⟩
    have pa4 : PurseAt H4 p c0 (n + 100) := (pa2.upd (purse_none pa2 hT0)).same s4
    have sx4 : SameX p H H4 := ((sx1.trans sx2).updN ((sx1.trans sx2).none hT0 (purse_none pa2 hT0))).trans (SameX.of s4)
    have hc4 := sx4 _ _ ncp hc
    have nT0 := purse_none pa2 hT0
    have hS4 : H4 S = some (.lst ys) := s4 _ _ (by rw [upd_ne (ne_of_none hS hT0)]; exact hS)
    obtain ⟨ms, rfl, pmm⟩ : ∃ ms : List Str, ys = ms.map V.str ∧ ms.Perm xs := perm_strs pm
    have lms : ms.length = xs.length := pmm.length_eq
    have ndm : ms.Nodup := pmm.nodup_iff.mpr g.asc.nd
    have fin : ∀ (H5 : Hp) (L Z : Addr) (Us : List Addr) (qs : List Pr), SameX p H H5 → H5 L = some (.lst (Us.map V.ref)) → Tups H5 Us (qs.map tv) → H5 Z = none → qs.Sublist (prsS xs) → PurseAt H5 p c0 n → Q (.ref Z) (upd H5 Z (.lst [.ref c, .ref L])) := fun H5 L Z Us qs sx5 hL tL hZ sb pa5 => by
      have nZ := purse_none pa5 hZ
      have hc5 := sx5 _ _ ncp hc
      exact k _ Z qs sb (sx5.updN (sx5.none hZ nZ)) (sx5.none hZ nZ) ⟨c, L, upd_same, by rw [upd_ne (ne_of_none hc5 hZ)]; exact hc5, Us, by rw [upd_ne (ne_of_none hL hZ)]; exact hL, tL.keep fun T o _ e => by rw [upd_ne (ne_of_none e hZ)]; exact e⟩ nZ (pa5.upd nZ)
    have endS : ∀ (H5 : Hp) (C : Addr) (Us : List Addr) (ps : List Pr), SameX p H H5 → H5 C = some (.lst (Us.map V.ref)) → Tups H5 Us (ps.map tv) → ps.Nodup → (∀ q ∈ ps, q ∈ prsS xs) → PurseAt H5 p c0 n →
        Kx.rSortedD K [.ref C] H5 fun x H1 => [V.ref c, x].length ≤ sizeLine ∧ ∀ Z : Addr, H1 Z = none → Q (.ref Z) (upd H1 Z (.lst [.ref c, x])) := fun H5 C Us ps sx5 hu tu5 nd mm pa5 => by
      refine sorted_prs hu tu5 nd fun D2 Us2 qs hD2 asc mq tu6 _ => ⟨by show 2 ≤ sizeLine; decide, fun Z hZ => ?_⟩
      have nD2 := purse_none pa5 hD2
      exact fin _ D2 Z Us2 qs (sx5.updN (sx5.none hD2 nD2)) upd_same (tu6.keep fun T o _ e => by rw [upd_ne (ne_of_none e hD2)]; exact e) hZ (sub_of_asc g.asc asc fun q hq => mm q ((mq q).mp hq)) (pa5.upd nD2)
    have tuS : Tups H4 Ts ((prsS xs).map tv) := by rw [← prs_strs]; exact tu
    have lTs : Ts.length = (prsS xs).length := by rw [tuS.1, List.length_map]
    have l36 := Good.len0 g.few.2
    have sh := sh_of (n := ms.length) (by omega)
    refine ⟨_, rfl, rfl, _, rfl, ?_⟩
    refine ite2 (fun w0 => ?_) (fun w0 => ?_)
    · refine ⟨_, rfl, Nat.zero_le _, fun L hL => ⟨by show 2 ≤ sizeLine; decide, fun Z hZ => ?_⟩⟩
      exact fin _ L Z [] [] (sx4.updN (sx4.none hL (purse_none pa4 hL))) upd_same Tups.nil hZ (List.nil_sublist _) ((pa4.less (by omega)).upd (purse_none pa4 hL))
    refine ⟨_, rfl, rfl, _, rfl, ?_⟩
    refine ite2 (fun w1 => ?_) (fun w1 => ?_)
    · refine ⟨_, rfl, _, rfl, by show 2 ≤ sizeLine; decide, fun Z hZ => ?_⟩
      exact fin _ D Z Ts (prsS xs) sx4 hd (by rw [← prs_strs]; exact tu) hZ (List.Sublist.refl _) (pa4.less (by omega))
    refine ⟨_, rfl, rfl, _, rfl, ?_⟩
    refine ite2 (fun w2 => ?_) (fun w2 => ?_)
    · refine ⟨_, rfl, ?_⟩
      refine ⟨_, rfl, S, ms.map V.str, rfl, .inl (SqL.of hS4), _, _, rfl, rfl, _, rfl, by rw [List.length_map]; omega, by rw [List.length_map]; omega, fun C hC => ?_⟩
      have nC := purse_none pa4 hC
      refine lc_range (lo := 0) (n := (((ms.map V.str).length : Int) - 1).toNat) (fun i H5 => ∃ Us : List Addr, H5 C = some (.lst (Us.map V.ref)) ∧ Same H4 H5 ∧ Tups H5 Us ((IP ms ((shPath ms.length).take i)).map tv))
        ⟨[], upd_same, same_new hC, Tups.nil⟩ ?_ ?_
      · rintro i H5 hi ⟨Us, hu, s5, tu5⟩
        rw [List.length_map] at hi
        have hS5 := s5 _ _ hS4
        have e : (shPath ms.length)[i]? = some (i, i + 1) := by
          unfold shPath
          rw [List.getElem?_map, List.getElem?_range (by omega)]
          rfl
        have lU : Us.length ≤ 9 := by
          rw [tu5.1, List.length_map]
          unfold IP
          rw [List.length_map, List.length_take]
          omega
        refine ⟨rfl, _, rfl, _, rfl, S, _, _, _, rfl, rfl, SqL.of hS5, at_msI (ms := ms) (i := i) (by omega) (by omega), _, rfl, _, rfl, _, _, rfl, rfl, S, _, _, _, rfl, rfl, SqL.of hS5, at_msI (ms := ms) (i := i + 1) (by omega) (by omega), _, _, rfl, fun Z hZ => ?_⟩
        have A := acc_tup (q := tv (mk (ms.getD i Str.empty) (ms.getD (i + 1) Str.empty))) hC s5 hu tu5 hZ
        exact ⟨_, A.1, by rw [List.length_map, sizeLine_eq]; omega, Us ++ [Z], A.2.1, A.2.2.1, by rw [ip_next e]; exact A.2.2.2⟩
      · rintro H5 ⟨Us, hu, s5, tu5⟩
        have et : (shPath ms.length).take (((ms.map V.str).length : Int) - 1).toNat = shPath ms.length := List.take_of_length_le (by
          unfold shPath
          rw [List.length_map, List.length_range, List.length_map]
          omega)
        rw [et] at tu5
        have ok := ip_ok g.asc pmm ndm sh.1
        dsimp only [tNil]
        exact endS H5 C Us _ (sx4.trans (SameX.of s5)) hu tu5 ok.1 ok.2 ((pa4.same s5).less (by omega))
    refine ⟨_, rfl, rfl, _, rfl, ?_⟩
    refine ite_join (fun h => ⟨_, rfl, c, xs.map V.str, rfl, .inl (SqL.of hc4), _, _, rfl, rfl, _, rfl, h⟩) ?_
    refine ite2 (fun w3 => ?_) (fun _ => ?_)
    · refine ⟨_, rfl, ?_⟩
      dsimp only [tC, tNil, tCons, tLst, tVar, tOp, tCB]
      refine ⟨_, rfl, S, ms.map V.str, rfl, .inl (SqL.of hS4), _, rfl, by rw [List.length_map]; omega, by rw [List.length_map]; omega, fun C hC => ?_⟩
      have nC := purse_none pa4 hC
      have big : 3 ≤ ms.length := by
        rw [Bool.and_eq_true, decide_eq_true_eq, decide_eq_true_eq, List.length_map] at w3
        omega
      refine lc_range (lo := 0) (n := ((ms.map V.str).length : Int).toNat) (fun i H5 => ∃ Us : List Addr, H5 C = some (.lst (Us.map V.ref)) ∧ Same H4 H5 ∧ Tups H5 Us ((IP ms ((shRing ms.length).take i)).map tv))
        ⟨[], upd_same, same_new hC, Tups.nil⟩ ?_ ?_
      · rintro i H5 hi ⟨Us, hu, s5, tu5⟩
        rw [List.length_map] at hi
        have hS5 := s5 _ _ hS4
        have e : (shRing ms.length)[i]? = some (if i = 0 then ms.length - 1 else i - 1, i) := by
          unfold shRing
          rw [List.getElem?_map, List.getElem?_range (by omega)]
          rfl
        have lU : Us.length ≤ 9 := by
          rw [tu5.1, List.length_map]
          unfold IP
          rw [List.length_map, List.length_take]
          omega
        refine ⟨rfl, _, rfl, _, rfl, _, _, rfl, rfl, S, _, _, _, rfl, rfl, SqL.of hS5, at_msP (ms := ms) (i := i) (by omega) (by omega), _, rfl, _, rfl, S, _, _, _, rfl, rfl, SqL.of hS5, at_msI (ms := ms) (i := i) (by omega) (by omega), _, _, rfl, fun Z hZ => ?_⟩
        have A := acc_tup (q := tv (mk (ms.getD (if i = 0 then ms.length - 1 else i - 1) Str.empty) (ms.getD i Str.empty))) hC s5 hu tu5 hZ
        exact ⟨_, A.1, by rw [List.length_map, sizeLine_eq]; omega, Us ++ [Z], A.2.1, A.2.2.1, by rw [ip_next e]; exact A.2.2.2⟩
      · rintro H5 ⟨Us, hu, s5, tu5⟩
        have et : (shRing ms.length).take ((ms.map V.str).length : Int).toNat = shRing ms.length := List.take_of_length_le (by
          unfold shRing
          rw [List.length_map, List.length_range, List.length_map]
          omega)
        rw [et] at tu5
        have ok := ip_ok g.asc pmm ndm (sh.2.1.resolve_left (by omega))
        exact endS H5 C Us _ (sx4.trans (SameX.of s5)) hu tu5 ok.1 ok.2 ((pa4.same s5).less (by omega))
    refine ⟨_, rfl, rfl, _, rfl, ?_⟩
    refine ite2 (fun w4 => ?_) (fun _ => ?_)
    · refine ⟨_, rfl, _, rfl, _, rfl, S, ms.map V.str, rfl, SqL.of hS4, fun M hM => ⟨M, rfl, ⟨_, SqL.of upd_same⟩, fun C hC => ?_⟩⟩
      have nM := purse_none pa4 hM
      have pa5 := pa4.upd (o := .lst (cutV (ms.map V.str) (some 1) none)) nM
      have nC := purse_none pa5 hC
      have ec : cutV (ms.map V.str) (some 1) none = (ms.drop 1).map V.str := by
        rw [show (some 1 : Option Int) = some ((1 : Nat) : Int) from rfl, cutV_hi, ← List.map_drop]
      rw [ec] at hC pa5 ⊢
      have s45 : Same H4 (upd H4 M (.lst ((ms.drop 1).map V.str))) := same_new hM
      refine lc_list (xs := (ms.drop 1).map V.str) (fun i H5 => ∃ Us : List Addr, H5 C = some (.lst (Us.map V.ref)) ∧ Same (upd H4 M (.lst ((ms.drop 1).map V.str))) H5 ∧ Tups H5 Us ((IP ms ((shStar (ms.length - 1)).take i)).map tv))
        ⟨[], upd_same, same_new hC, Tups.nil⟩ (fun i H5 _ ⟨Us, _, s5, _⟩ => SqL.of (s5 _ _ upd_same)) ?_ ?_
      · rintro i v H5 hv ⟨Us, hu, s5, tu5⟩
        rw [List.getElem?_map, List.getElem?_drop] at hv
        obtain ⟨t, ht, rfl⟩ := Option.map_eq_some_iff.mp hv
        have hi := (List.getElem?_eq_some_iff.mp ht).1
        have et : ms.getD (i + 1) Str.empty = t := by
          rw [List.getD_eq_getElem?_getD, Nat.add_comm i 1, ht]
          rfl
        have hS5 := s5 _ _ (s45 _ _ hS4)
        have e : (shStar (ms.length - 1))[i]? = some (0, i + 1) := by
          unfold shStar
          rw [List.getElem?_map, List.getElem?_range (by omega)]
          rfl
        have lU : Us.length ≤ 9 := by
          rw [tu5.1, List.length_map]
          unfold IP
          rw [List.length_map, List.length_take]
          omega
        refine ⟨rfl, _, rfl, S, _, _, _, rfl, rfl, SqL.of hS5, at_msI (ms := ms) (i := 0) (by omega) (by omega), _, rfl, _, _, rfl, fun Z hZ => ?_⟩
        have A := acc_tup (q := tv (mk (ms.getD 0 Str.empty) (ms.getD (i + 1) Str.empty))) hC s5 hu tu5 hZ
        rw [et] at A
        exact ⟨_, A.1, by rw [List.length_map, sizeLine_eq]; omega, Us ++ [Z], A.2.1, A.2.2.1, by rw [ip_next e, et]; exact A.2.2.2⟩
      · rintro H5 ⟨Us, hu, s5, tu5⟩
        have et : (shStar (ms.length - 1)).take ((ms.drop 1).map V.str).length = shStar (ms.length - 1) := List.take_of_length_le (by
          unfold shStar
          rw [List.length_map, List.length_range, List.length_map, List.length_drop]
          exact Nat.le_refl _)
        rw [et] at tu5
        have ok := ip_ok g.asc pmm ndm sh.2.2.1
        dsimp only [tNil]
        exact endS H5 C Us _ (sx4.trans (SameX.of fun b o e => s5 _ _ (s45 _ _ e))) hu tu5 ok.1 ok.2 ((pa5.same s5).less (by omega))
    refine ⟨_, rfl, rfl, _, rfl, ?_⟩
    refine ite2 (fun w5 => ?_) (fun _ => ?_)
    · refine ⟨_, rfl, D, rfl, ⟨_, SqL.of hd⟩, fun N hN => ?_⟩
      have nN := purse_none pa4 hN
      refine lc_list (xs := Ts.map V.ref) (fun i H5 => ∃ Us : List Addr, H5 N = some (.lst (Us.map V.ref)) ∧ Same H4 H5 ∧ Tups H5 Us ((((prsS xs).take i).filter (farF (ms.getD 0 Str.empty))).map tv))
        ⟨[], upd_same, same_new hN, Tups.nil⟩ (fun i H5 _ ⟨Us, _, s5, _⟩ => SqL.of (s5 _ _ hd)) ?_ ?_
      · rintro i v H5 hv ⟨Us, hu, s5, tu5⟩
        rw [List.getElem?_map] at hv
        obtain ⟨T1, hT, rfl⟩ := Option.map_eq_some_iff.mp hv
        have jl := (List.getElem?_eq_some_iff.mp hT).1
        obtain ⟨q, hq⟩ : ∃ q, (prsS xs)[i]? = some q := ⟨_, List.getElem?_eq_getElem (by rw [← lTs]; exact jl)⟩
        have e5 := s5 _ _ (tuS.2 i T1 (tv q) hT (by rw [List.getElem?_map, hq]; rfl))
        have lU : Us.length ≤ 36 := by
          rw [tu5.1, List.length_map]
          have h1 := List.length_filter_le (farF (ms.getD 0 Str.empty)) ((prsS xs).take i)
          rw [List.length_take] at h1
          omega
        refine ⟨rfl, _, rfl, S, _, _, _, rfl, rfl, SqL.of (s5 _ _ hS4), at_msI (ms := ms) (i := 0) (by omega) (by omega), _, rfl, T1, _, rfl, .inr (SqT.of e5), rfl, rfl, _, rfl, ?_⟩
        rw [filter_next hq]
        refine ite2 (fun hb => ?_) (fun hb => ?_)
        · have hb : farF (ms.getD 0 Str.empty) q = true := hb
          have A := keep_tup hN s5 hu tu5 e5
          exact ⟨_, rfl, _, hu, by rw [List.length_map, sizeLine_eq]; omega, Us ++ [T1], A.1, A.2.1, by rw [if_pos hb, List.map_append]; exact A.2.2⟩
        · have hb : ¬ farF (ms.getD 0 Str.empty) q = true := hb
          exact ⟨Us, hu, s5, by rw [if_neg hb, List.append_nil]; exact tu5⟩
      rintro H5 ⟨UN, hu, s5, tu5⟩
      rw [List.length_map, lTs, List.take_length] at tu5
      have sx5 : SameX p H H5 := sx4.trans (SameX.of s5)
      have pa5 := pa4.same s5
      have hS5 := s5 _ _ hS4
      refine ⟨_, rfl, _, rfl, _, rfl, _, rfl, _, rfl, p, _, c0, n + 99, rfl, pa5, by decide, by decide, fun H6 u u0 u1 sx6 pa6 => ?_⟩
      have hS6 := sx6 _ _ nSp hS5
      have hu6 := sx6 _ _ nN hu
      have tu6 : Tups H6 UN (((prsS xs).filter (farF (ms.getD 0 Str.empty))).map tv) := tu5.keep fun T o hT' e => by
        obtain ⟨y, _, ey⟩ := tu5.at hT'
        exact sx6 _ _ (purse_ne pa5 ey fun _ _ _ _ z => nomatch z) e
      obtain ⟨m, rfl, m1⟩ : ∃ m : Nat, u = (m : Int) ∧ m ≤ 1 := ⟨u.toNat, by omega, by omega⟩
      refine ⟨_, _, rfl, rfl, _, rfl, S, ms.map V.str, rfl, SqL.of hS6, fun M hM => ⟨M, rfl, ⟨_, SqL.of upd_same⟩, fun C hC => ?_⟩⟩
      have sxH6 : SameX p H H6 := sx5.trans sx6
      have ec : cutV (ms.map V.str) (some 1) (some (1 + (m : Int))) = ((ms.drop 1).take (min m (ms.length - 1))).map V.str := by
        unfold cutV
        rw [show (some 1 : Option Int) = some ((1 : Nat) : Int) from rfl, show (1 + (m : Int)) = ((1 + m : Nat) : Int) by omega, sIx_n, sIx_n, List.length_map, show min 1 ms.length = 1 by omega, show min (1 + m) ms.length - 1 = min m (ms.length - 1) by omega, ← List.map_drop, ← List.map_take]
      have nM := purse_none pa6 hM
      rw [ec] at hC ⊢
      have pa6m := pa6.upd (o := .lst (((ms.drop 1).take (min m (ms.length - 1))).map V.str)) nM
      have nC := purse_none pa6m hC
      have s6m : Same H6 (upd H6 M (.lst (((ms.drop 1).take (min m (ms.length - 1))).map V.str))) := same_new hM
      refine lc_list (xs := ((ms.drop 1).take (min m (ms.length - 1))).map V.str) (fun i H7 => ∃ Us : List Addr, H7 C = some (.lst (Us.map V.ref)) ∧ Same (upd H6 M (.lst (((ms.drop 1).take (min m (ms.length - 1))).map V.str))) H7 ∧ Tups H7 Us ((IP ms ((shStar (min m (ms.length - 1))).take i)).map tv))
        ⟨[], upd_same, same_new hC, Tups.nil⟩ (fun i H7 _ ⟨Us, _, s7, _⟩ => SqL.of (s7 _ _ upd_same)) ?_ ?_
      · rintro i v H7 hv ⟨Us, hu7, s7, tu7⟩
        rw [List.getElem?_map] at hv
        obtain ⟨t, ht, rfl⟩ := Option.map_eq_some_iff.mp hv
        have hi := (List.getElem?_eq_some_iff.mp ht).1
        rw [List.length_take, List.length_drop] at hi
        rw [List.getElem?_take_of_lt (by omega), List.getElem?_drop] at ht
        have et : ms.getD (i + 1) Str.empty = t := by
          rw [List.getD_eq_getElem?_getD, Nat.add_comm i 1, ht]
          rfl
        have e : (shStar (min m (ms.length - 1)))[i]? = some (0, i + 1) := by
          unfold shStar
          rw [List.getElem?_map, List.getElem?_range (by omega)]
          rfl
        have lU : Us.length ≤ 9 := by
          rw [tu7.1, List.length_map]
          unfold IP
          rw [List.length_map, List.length_take]
          omega
        refine ⟨rfl, _, rfl, S, _, _, _, rfl, rfl, SqL.of (s7 _ _ (s6m _ _ hS6)), at_msI (ms := ms) (i := 0) (by omega) (by omega), _, rfl, _, _, rfl, fun Z hZ => ?_⟩
        have A := acc_tup (q := tv (mk (ms.getD 0 Str.empty) (ms.getD (i + 1) Str.empty))) hC s7 hu7 tu7 hZ
        rw [et] at A
        exact ⟨_, A.1, by rw [List.length_map, sizeLine_eq]; omega, Us ++ [Z], A.2.1, A.2.2.1, by rw [ip_next e, et]; exact A.2.2.2⟩
      rintro H7 ⟨Us, hu7, s7, tu7⟩
      have et : (shStar (min m (ms.length - 1))).take (((ms.drop 1).take (min m (ms.length - 1))).map V.str).length = shStar (min m (ms.length - 1)) := List.take_of_length_le (by
        unfold shStar
        rw [List.length_map, List.length_range, List.length_map, List.length_take, List.length_drop]
        omega)
      rw [et] at tu7
      have s67 : Same H6 H7 := fun b o e => s7 _ _ (s6m _ _ e)
      have okS : okI ms.length (shStar (min m (ms.length - 1))) = true := by
        rcases (by omega : m = 0 ∨ m = 1) with e | e <;> subst e
        · rw [Nat.zero_min]
          rfl
        · exact sh.2.2.2.2
      have ok := ip_ok g.asc pmm ndm okS
      have tuN := tu6.same s67
      have lN : UN.length ≤ 36 := by
        rw [tuN.1, List.length_map]
        exact Nat.le_trans (List.length_filter_le _ _) l36
      have lU : Us.length ≤ 9 := by
        rw [tu7.1, List.length_map]
        unfold IP shStar
        rw [List.length_map, List.length_map, List.length_range]
        omega
      refine ⟨N, C, _, _, rfl, rfl, s67 _ _ hu6, hu7, by rw [List.length_map, List.length_map, sizeLine_eq]; omega, fun B hB => ?_⟩
      dsimp only [tNil]
      have pa7 := pa6.same s67
      have nB := purse_none pa7 hB
      have sx7 := sxH6.trans (SameX.of s67)
      refine endS _ B (UN ++ Us) ((prsS xs).filter (farF (ms.getD 0 Str.empty)) ++ IP ms (shStar (min m (ms.length - 1)))) (sx7.updN (sx7.none hB nB)) (by rw [upd_same, List.map_append]) (by rw [List.map_append]; exact (tuN.append tu7).keep fun T o _ e => by rw [upd_ne (ne_of_none e hB)]; exact e)
        (List.pairwise_append.mpr ⟨List.Pairwise.sublist List.filter_sublist (prsS_nd g.asc), ok.1, fun a ha b hb e => ?_⟩) (fun q hq => ?_) ((pa7.upd nB).less (by omega))
      · have h1 := farF_iff.mp (List.mem_filter.mp ha).2
        unfold IP shStar at hb
        rw [List.map_map] at hb
        obtain ⟨j, _, rfl⟩ := List.mem_map.mp hb
        rw [e] at h1
        exact h1 (has_mk _ _)
      · rcases List.mem_append.mp hq with h | h
        · exact (List.mem_filter.mp h).1
        · exact ok.2 q h
    refine ⟨_, rfl, rfl, _, rfl, ?_⟩
    refine ite2 (fun w6 => ?_) (fun _ => ?_)
    · have tw := List.all_eq_true.mp twos_n ms.length (List.mem_range.mpr (by omega))
      rw [Bool.or_eq_true, Bool.and_eq_true, decide_eq_true_eq, decide_eq_true_eq] at tw
      have tw := tw.resolve_left (by omega)
      refine ⟨_, rfl, S, ms.map V.str, rfl, .inl (SqL.of hS4), _, _, rfl, rfl, 1, ((ms.map V.str).length : Int) - 1, 2, (ms.length - 1) / 2, rfl, ⟨by decide, by decide, by rw [List.length_map]; exact tw.1, by rw [List.length_map]; exact tw.2⟩, fun N hN => ?_⟩
      have nN := purse_none pa4 hN
      refine lc_it walk_rangeC (fun i H5 => ∃ Us : List Addr, H5 N = some (.lst (Us.map V.ref)) ∧ Same H4 H5 ∧ Tups H5 Us ((IP ms ((shTwos ms.length).take i)).map tv))
        ⟨[], upd_same, same_new hN, Tups.nil⟩ (fun _ _ _ _ => trivial) ?_ ?_
      · rintro i v H5' H5 hi ⟨Us, hu, s5, tu5⟩ ⟨rfl, rfl⟩
        have hS5 := s5 _ _ hS4
        have e : (shTwos ms.length)[i]? = some (1 + 2 * i, 2 + 2 * i) := by
          unfold shTwos
          rw [List.getElem?_map, List.getElem?_range (by omega)]
          rfl
        have lU : Us.length ≤ 9 := by
          rw [tu5.1, List.length_map]
          unfold IP
          rw [List.length_map, List.length_take]
          omega
        refine ⟨rfl, _, rfl, _, rfl, S, _, _, _, rfl, rfl, SqL.of hS5, at_msI (ms := ms) (i := 1 + 2 * i) (by omega) (by omega), _, rfl, _, rfl, _, _, rfl, rfl, S, _, _, _, rfl, rfl, SqL.of hS5, at_msI (ms := ms) (i := 2 + 2 * i) (by omega) (by omega), _, _, rfl, fun Z hZ => ?_⟩
        have A := acc_tup (q := tv (mk (ms.getD (1 + 2 * i) Str.empty) (ms.getD (2 + 2 * i) Str.empty))) hN s5 hu tu5 hZ
        exact ⟨_, A.1, by rw [List.length_map, sizeLine_eq]; omega, Us ++ [Z], A.2.1, A.2.2.1, by rw [ip_next e]; exact A.2.2.2⟩
      rintro H5 ⟨UN, hu, s5, tu5⟩
      have et : (shTwos ms.length).take ((ms.length - 1) / 2) = shTwos ms.length := List.take_of_length_le (by
        unfold shTwos
        rw [List.length_map, List.length_range]
        exact Nat.le_refl _)
      rw [et] at tu5
      have hS5 := s5 _ _ hS4
      have pa5 := pa4.same s5
      refine ⟨_, rfl, _, rfl, _, rfl, _, rfl, S, ms.map V.str, rfl, SqL.of hS5, fun M hM => ⟨M, rfl, ⟨_, SqL.of upd_same⟩, fun C hC => ?_⟩⟩
      have ec : cutV (ms.map V.str) (some 1) none = ((ms.drop 1).take (ms.length - 1)).map V.str := by
        rw [show (some 1 : Option Int) = some ((1 : Nat) : Int) from rfl, cutV_hi, ← List.map_drop, List.take_of_length_le (by rw [List.length_drop]; exact Nat.le_refl _)]
      have nM := purse_none pa5 hM
      rw [ec] at hC ⊢
      have pa5m := pa5.upd (o := .lst (((ms.drop 1).take (ms.length - 1)).map V.str)) nM
      have nC := purse_none pa5m hC
      have s5m : Same H5 (upd H5 M (.lst (((ms.drop 1).take (ms.length - 1)).map V.str))) := same_new hM
      refine lc_list (xs := ((ms.drop 1).take (ms.length - 1)).map V.str) (fun i H7 => ∃ Us : List Addr, H7 C = some (.lst (Us.map V.ref)) ∧ Same (upd H5 M (.lst (((ms.drop 1).take (ms.length - 1)).map V.str))) H7 ∧ Tups H7 Us ((IP ms ((shStar (ms.length - 1)).take i)).map tv))
        ⟨[], upd_same, same_new hC, Tups.nil⟩ (fun i H7 _ ⟨Us, _, s7, _⟩ => SqL.of (s7 _ _ upd_same)) ?_ ?_
      · rintro i v H7 hv ⟨Us, hu7, s7, tu7⟩
        rw [List.getElem?_map] at hv
        obtain ⟨t, ht, rfl⟩ := Option.map_eq_some_iff.mp hv
        have hi := (List.getElem?_eq_some_iff.mp ht).1
        rw [List.length_take, List.length_drop] at hi
        rw [List.getElem?_take_of_lt (by omega), List.getElem?_drop] at ht
        have et : ms.getD (i + 1) Str.empty = t := by
          rw [List.getD_eq_getElem?_getD, Nat.add_comm i 1, ht]
          rfl
        have e : (shStar (ms.length - 1))[i]? = some (0, i + 1) := by
          unfold shStar
          rw [List.getElem?_map, List.getElem?_range (by omega)]
          rfl
        have lU : Us.length ≤ 9 := by
          rw [tu7.1, List.length_map]
          unfold IP
          rw [List.length_map, List.length_take]
          omega
        refine ⟨rfl, _, rfl, S, _, _, _, rfl, rfl, SqL.of (s7 _ _ (s5m _ _ hS5)), at_msI (ms := ms) (i := 0) (by omega) (by omega), _, rfl, _, _, rfl, fun Z hZ => ?_⟩
        have A := acc_tup (q := tv (mk (ms.getD 0 Str.empty) (ms.getD (i + 1) Str.empty))) hC s7 hu7 tu7 hZ
        rw [et] at A
        exact ⟨_, A.1, by rw [List.length_map, sizeLine_eq]; omega, Us ++ [Z], A.2.1, A.2.2.1, by rw [ip_next e, et]; exact A.2.2.2⟩
      rintro H7 ⟨Us, hu7, s7, tu7⟩
      have et : (shStar (ms.length - 1)).take (((ms.drop 1).take (ms.length - 1)).map V.str).length = shStar (ms.length - 1) := List.take_of_length_le (by
        unfold shStar
        rw [List.length_map, List.length_range, List.length_map, List.length_take, List.length_drop]
        omega)
      rw [et] at tu7
      have s57 : Same H5 H7 := fun b o e => s7 _ _ (s5m _ _ e)
      have ok := ip_ok g.asc pmm ndm sh.2.2.2.1
      have tuN := tu5.same s57
      have lN : UN.length ≤ 9 := by
        rw [tuN.1, List.length_map]
        unfold IP shTwos
        rw [List.length_map, List.length_map, List.length_range]
        omega
      have lU : Us.length ≤ 9 := by
        rw [tu7.1, List.length_map]
        unfold IP shStar
        rw [List.length_map, List.length_map, List.length_range]
        omega
      refine ⟨N, C, _, _, rfl, rfl, s57 _ _ hu, hu7, by rw [List.length_map, List.length_map, sizeLine_eq]; omega, fun B hB => ?_⟩
      dsimp only [tNil]
      have pa7 := pa5.same s57
      have nB := purse_none pa7 hB
      have sx7 := (sx4.trans (SameX.of s5)).trans (SameX.of s57)
      have eI : IP ms (shTwos ms.length ++ shStar (ms.length - 1)) = IP ms (shTwos ms.length) ++ IP ms (shStar (ms.length - 1)) := List.map_append
      exact endS _ B (UN ++ Us) (IP ms (shTwos ms.length ++ shStar (ms.length - 1))) (sx7.updN (sx7.none hB nB)) (by rw [upd_same, List.map_append]) (by rw [eI, List.map_append]; exact (tuN.append tu7).keep fun T o _ e => by rw [upd_ne (ne_of_none e hB)]; exact e)
        ok.1 ok.2 ((pa7.upd nB).less (by omega))
    refine ⟨_, rfl, _, rfl, _, rfl, S, ms.map V.str, rfl, .inl (SqL.of hS4), p, _, c0, n + 99, rfl, pa4, by rw [List.length_map]; omega, by rw [List.length_map]; omega, fun H5 u u0 u1 sx5 pa5 => ?_⟩
    rw [List.length_map] at u1
    have hS5 := sx5 _ _ nSp hS4
    refine ⟨_, _, rfl, rfl, _, rfl, S, ms.map V.str, rfl, SqL.of hS5, fun B hB => ?_⟩
    have nB := purse_none pa5 hB
    obtain ⟨bs, eb, lb⟩ : ∃ bs : List Str, cutV (ms.map V.str) none (some (1 + u)) = bs.map V.str ∧ bs.length ≤ 9 := by
      obtain ⟨m, rfl⟩ : ∃ m : Nat, u = (m : Int) := ⟨u.toNat, by omega⟩
      refine ⟨ms.take (1 + m), ?_, ?_⟩
      · rw [show (1 + (m : Int)) = ((1 + m : Nat) : Int) by omega, cutV_lo, ← List.map_take]
      · rw [List.length_take]
        omega
    rw [eb]
    have nDp : D ≠ p := purse_ne pa4 hd fun b' c' t' z' e => by
      have l := congrArg (fun o : HO => match o with | .lst (.int i :: _) => true | _ => false) e
      cases Ts with
      | nil => simp at l
      | cons x r => simp at l
    have hd5 := sx5 _ _ nDp hd
    have tu5 : Tups H5 Ts ((prsS xs).map tv) := tuS.keep fun T o hT' e => by
      obtain ⟨y, _, ey⟩ := tuS.at hT'
      exact sx5 _ _ (purse_ne pa4 ey fun _ _ _ _ z => nomatch z) e
    have hd6 : upd H5 B (.lst (bs.map V.str)) D = some (.lst (Ts.map V.ref)) := by
      rw [upd_ne (ne_of_none hd5 hB)]
      exact hd5
    have tu6 : Tups (upd H5 B (.lst (bs.map V.str))) Ts ((prsS xs).map tv) := tu5.keep fun T o _ e => by
      rw [upd_ne (ne_of_none e hB)]
      exact e
    refine ⟨_, rfl, _, rfl, D, rfl, ⟨_, SqL.of hd6⟩, fun N hN => ?_⟩
    have pa6 := pa5.upd (o := .lst (bs.map V.str)) nB
    have nN := purse_none pa6 hN
    refine lc_list (xs := Ts.map V.ref) (fun i H7 => ∃ Us : List Addr, H7 N = some (.lst (Us.map V.ref)) ∧ Same (upd H5 B (.lst (bs.map V.str))) H7 ∧ Tups H7 Us ((((prsS xs).take i).filter (sideF bs)).map tv))
      ⟨[], upd_same, same_new hN, Tups.nil⟩ (fun i H7 _ ⟨Us, _, s7, _⟩ => SqL.of (s7 _ _ hd6)) ?_ ?_
    · rintro i v H7 hv ⟨Us, hu, s7, tu7⟩
      rw [List.getElem?_map] at hv
      obtain ⟨T1, hT, rfl⟩ := Option.map_eq_some_iff.mp hv
      have jl := (List.getElem?_eq_some_iff.mp hT).1
      obtain ⟨q, hq⟩ : ∃ q, (prsS xs)[i]? = some q := ⟨_, List.getElem?_eq_getElem (by rw [← lTs]; exact jl)⟩
      have e7 := s7 _ _ (tu6.2 i T1 (tv q) hT (by rw [List.getElem?_map, hq]; rfl))
      have hb7 : H7 B = some (.lst (bs.map V.str)) := s7 _ _ upd_same
      have lU : Us.length ≤ 36 := by
        rw [tu7.1, List.length_map]
        have h1 := List.length_filter_le (sideF bs) ((prsS xs).take i)
        rw [List.length_take] at h1
        omega
      refine ⟨rfl, _, rfl, T1, _, _, _, rfl, rfl, SqT.of e7, rfl, _, rfl, B, _, rfl, .inl (SqL.of hb7), rfl, flat_strs' bs, _, rfl, T1, _, _, _, rfl, rfl, SqT.of e7, rfl, _, rfl, B, _, rfl, .inl (SqL.of hb7), rfl, flat_strs' bs, rfl, _, rfl, ?_⟩
      rw [filter_next hq]
      refine ite2 (fun hb => ?_) (fun hb => ?_)
      · have hb : sideF bs q = true := hb
        have A := keep_tup hN s7 hu tu7 e7
        exact ⟨_, rfl, _, hu, by rw [List.length_map, sizeLine_eq]; omega, Us ++ [T1], A.1, A.2.1, by rw [if_pos hb, List.map_append]; exact A.2.2⟩
      · have hb : ¬ sideF bs q = true := hb
        exact ⟨Us, hu, s7, by rw [if_neg hb, List.append_nil]; exact tu7⟩
    rintro H7 ⟨Us, hu, s7, tu7⟩
    rw [List.length_map, lTs, List.take_length] at tu7
    refine ⟨by show 2 ≤ sizeLine; decide, fun Z hZ => ?_⟩
    have sx7 := (sx4.trans (sx5.updN (sx5.none hB nB))).trans (SameX.of s7)
    exact fin H7 N Z Us _ sx7 hu tu7 hZ List.filter_sublist ((pa6.same s7).less (by omega))
end
end Wd
end
section
set_option maxRecDepth 100000
set_option maxHeartbeats 4000000
namespace Wd
open PySem L2
def spWorld : Sp := fun vs H Q _ => ∃ (p : Addr) (many : Nat) (c0 : Int) (n : Nat), vs = [.ref p, .int many] ∧ PurseAt H p c0 (n + 420) ∧ 1 ≤ many ∧ many ≤ 9 ∧
  ∀ (H' : Hp) (D : Addr) (xs : List Str) (qs : List Pr), xs.length = many → Good xs qs → SameX p H H' → H D = none → WAt H' D xs qs → D ≠ p → PurseAt H' p c0 n → Q (.ref D) H'
theorem sameX_lst {H H' : Hp} {p a : Addr} {c : Int} {n : Nat} {xs : List V} (pa : PurseAt H p c n) (s : SameX p H H') (e : H a = some (.lst xs)) (h : ∀ x ∈ xs, ∀ i : Int, x ≠ .int i) : H' a = some (.lst xs) :=
  s _ _ (purse_ne pa e fun b _ _ _ z => by
    have z : xs = _ := HO.lst.inj z
    exact h (.int b) (by rw [z]; exact List.mem_cons_self) b rfl) e
theorem PwAt.sameX {H H' : Hp} {p a : Addr} {c : Int} {n : Nat} {ps : List Pr} (h : PwAt H a ps) (pa : PurseAt H p c n) (s : SameX p H H') : PwAt H' a ps := by
  obtain ⟨Ts, e, t⟩ := h
  refine ⟨Ts, sameX_lst pa s e (fun x hx i z => ?_), t.keep fun T o hT e => ?_⟩
  · obtain ⟨T, _, rfl⟩ := List.mem_map.mp hx
    cases z
  · obtain ⟨y, _, ey⟩ := t.at hT
    exact s _ _ (purse_ne pa ey fun _ _ _ _ z => nomatch z) e
theorem WAt.sameX {H H' : Hp} {p a : Addr} {c : Int} {n : Nat} {xs : List Str} {ps : List Pr} (h : WAt H a xs ps) (pa : PurseAt H p c n) (s : SameX p H H') : WAt H' a xs ps := by
  obtain ⟨c, l, e1, e2, e3⟩ := h
  refine ⟨c, l, sameX_lst pa s e1 (fun x hx i z => ?_), sameX_lst pa s e2 (fun x hx i z => ?_), e3.sameX pa s⟩
  · rw [z] at hx
    simp at hx
  · obtain ⟨T, _, rfl⟩ := List.mem_map.mp hx
    cases z
section
variable {P : Program} {w : World} {K : PySem.W.Frag} {mg : Str → Option Value} {base : Heap}
set_option maxHeartbeats 1000000 in
theorem ok_world {f : Addr} {fd : FuncData} (F : Fun K "_law_world" "_law_world" s_world f fd) (T : Bt mg) (CD : Has P w K mg base 2 "_law_draw" ["_law_purse_here", "_law_many"] spDraw)
    (CP : Has P w K mg base 1 "_law_pairs" ["_law_crowd"] spPairs) (CO : Has P w K mg base 3 "_law_one_of" ["_law_purse_here", "_law_some"] spOneOf) (CE : Has P w K mg base 5 "_law_people" ["_law_purse_here", "_law_many"] spPeople)
    (CL : Has P w K mg base 3 "_law_by_labels" ["_law_purse_here", "_law_crowd"] (spMade 110)) (CI : Has P w K mg base 3 "_law_by_density" ["_law_purse_here", "_law_crowd"] (spMade 110))
    (CS : Has P w K mg base 4 "_law_shaped" ["_law_purse_here", "_law_crowd"] (spMade 110)) (CX : Has P w K mg base 2 "_law_opposite" ["_law_world_here"] spOpp) (CB : Has P w K mg base 1 "_law_deed" ["_law_world_here", "_law_pair_here"] spDeed) :
    FnOk P w K mg base CX0 6 f fd ["_law_purse_here", "_law_many"] spWorld := by
  obtain ⟨fD, fdD, GD, mD, kD, bD⟩ := CD
  obtain ⟨fP, fdP, GP, mP, kP, bP⟩ := CP
  obtain ⟨fO, fdO, GO, mO, kO, bO⟩ := CO
  obtain ⟨fE, fdE, GE, mE, kE, bE⟩ := CE
  obtain ⟨fL, fdL, GL, mL, kL, bL⟩ := CL
  obtain ⟨fI, fdI, GI, mI, kI, bI⟩ := CI
  obtain ⟨fS, fdS, GS, mS, kS, bS⟩ := CS
  obtain ⟨fX, fdX, GX, mX, kX, bX⟩ := CX
  obtain ⟨fB, fdB, GB, mB, kB, bB⟩ := CB
  refine F.ok c_world (fun vs H Q E h => ?_) (fun cdv A outer s H vs Q E hr h => ?_)
  · obtain ⟨_, _, _, _, rfl, _⟩ := h
    rfl
  · obtain ⟨p, many, c0, n, rfl, pa, h1, h9, k⟩ := h
    have hr1 : Room 1 _ := hr.mono (by decide)
    have hr2 : Room 2 _ := hr.mono (by decide)
    have hr3 : Room 3 _ := hr.mono (by decide)
    have hr4 : Room 4 _ := hr.mono (by decide)
    have hr5 : Room 5 _ := hr.mono (by decide)
    refine ⟨_, pss_cons (ps_par (i := 2) (j := 3) rfl c_world.nd rfl rfl (by decide) rfl rfl (pa_cons (pe_call GE hr5 rfl mE kE bE .nil pass0 (pa_cons (pv 0) (pa_cons (pv 1) pa_nil))) (pa_cons (pe_call GD hr2 rfl mD kD bD .nil pass0 (pa_cons (pv 0) (pa_cons pe_int pa_nil))) pa_nil)) (by rfl))
      (pss_cons (ps_if (pt_cmpR op_eq (pv 3) pe_int (nomark _)) (pss_one (ps_ret (pe_call GL hr3 rfl mL kL bL .nil pass0 (pa_cons (pv 0) (pa_cons (pv 2) pa_nil))))) pss_nil)
      (pss_cons (ps_if (pt_cmpR op_eq (pv 3) pe_int (nomark _)) (pss_one (ps_ret (pe_call GX hr2 rfl mX kX bX .nil pass0 (pa_cons (pe_call GL hr3 rfl mL kL bL .nil pass0 (pa_cons (pv 0) (pa_cons (pv 2) pa_nil))) pa_nil)))) pss_nil)
      (pss_cons (ps_if (pt_cmpR op_eq (pv 3) pe_int (nomark _)) (pss_one (ps_ret (pe_call GS hr4 rfl mS kS bS .nil pass0 (pa_cons (pv 0) (pa_cons (pv 2) pa_nil))))) pss_nil)
      (pss_cons (ps_if (pt_cmpR op_eq (pv 3) pe_int (nomark _)) (pss_cons (ps_set (i := 4) c_world.nd rfl (Or.inl rfl) (pe_call GS hr4 rfl mS kS bS .nil pass0 (pa_cons (pv 0) (pa_cons (pv 2) pa_nil))))
        (pss_one (ps_ret (pe_ifExp (pt_cmpR op_gt (pv 1) pe_int (nomark _)) (pe_call GB hr1 rfl mB kB bB .nil pass0 (pa_cons (pv 4) (pa_cons (pe_call GO hr3 rfl mO kO bO .nil pass0 (pa_cons (pv 0) (pa_cons (pe_call GP hr1 rfl mP kP bP .nil pass0 (pa_cons (pv 2) pa_nil)) pa_nil))) pa_nil))) (pv 4))))) pss_nil)
      (pss_one (ps_ret (pe_call GI hr3 rfl mI kI bI .nil pass0 (pa_cons (pv 0) (pa_cons (pv 2) pa_nil))))))))), ?_⟩
    refine ⟨_, rfl, _, rfl, p, many, c0, n + 120, rfl, pa, h9, fun H1 c xs lx asc hw sx1 nc hc ncp pa1 => ?_⟩
    refine ⟨_, rfl, p, _, c0, n + 119, rfl, pa1, by decide, by decide, fun H2 r r0 r1 sx2 pa2 => ⟨_, _, rfl, ?_⟩⟩
    have hc2 := sx2 _ _ ncp hc
    have g0 : Good xs [] := ⟨asc, hw, by omega, List.nil_sublist _⟩
    have sxH : SameX p H H2 := sx1.trans sx2
    refine ⟨_, rfl, rfl, _, rfl, ?_⟩
    refine ite2 (fun _ => ?_) (fun _ => ?_)
    · refine ⟨_, rfl, _, rfl, p, c, xs, c0, n + 9, rfl, pa2, hc2, g0, fun H3 D qs sb sx3 nD hD nDp pa3 => ?_⟩
      exact k H3 D xs qs lx ⟨asc, hw, by omega, sb⟩ (sxH.trans sx3) (sxH.none nD nDp) hD nDp (pa3.less (by omega))
    refine ⟨_, rfl, rfl, _, rfl, ?_⟩
    refine ite2 (fun _ => ?_) (fun _ => ?_)
    · refine ⟨_, rfl, _, rfl, p, c, xs, c0, n + 9, rfl, pa2, hc2, g0, fun H3 D qs sb sx3 nD hD nDp pa3 => ?_⟩
      refine ⟨D, xs, qs, rfl, hD, ⟨asc, hw, by omega, sb⟩, fun H4 D2 s4 nD2 hD2 => ?_⟩
      have nD2p := purse_none pa3 nD2
      have sx4 : SameX p H H4 := (sxH.trans sx3).trans (SameX.of s4)
      exact k H4 D2 xs _ lx ⟨asc, hw, by omega, List.filter_sublist⟩ sx4 ((sxH.trans sx3).none nD2 nD2p) hD2 nD2p ((pa3.same s4).less (by omega))
    refine ⟨_, rfl, rfl, _, rfl, ?_⟩
    refine ite2 (fun _ => ?_) (fun _ => ?_)
    · refine ⟨_, rfl, _, rfl, p, c, xs, c0, n + 9, rfl, pa2, hc2, g0, fun H3 D qs sb sx3 nD hD nDp pa3 => ?_⟩
      exact k H3 D xs qs lx ⟨asc, hw, by omega, sb⟩ (sxH.trans sx3) (sxH.none nD nDp) hD nDp (pa3.less (by omega))
    refine ⟨_, rfl, rfl, _, rfl, ?_⟩
    refine ite2 (fun _ => ?_) (fun _ => ?_)
    · refine ⟨_, rfl, _, rfl, p, c, xs, c0, n + 9, rfl, pa2, hc2, g0, fun H3 D qs sb sx3 nD hD nDp pa3 => ?_⟩
      have sx3' := sxH.trans sx3
      have hc3 := sx3 _ _ ncp hc2
      have lxs : (xs.map V.str).length = xs.length := List.length_map _
      refine ⟨_, rfl, _, _, rfl, rfl, _, rfl, ?_⟩
      refine ite2 (fun hm => ?_) (fun _ => ?_)
      · have hm : 1 < many := by
          have : (1 : Int) < (many : Int) := of_decide_eq_true hm
          omega
        refine ⟨_, rfl, _, rfl, _, rfl, c, xs.map V.str, rfl, hc3, by omega, fun H4 D2 s4 nD2 ⟨Ts, hd, tu⟩ => ?_⟩
        have pa4 := pa3.same s4
        have nD2p := purse_none pa3 nD2
        rw [prs_strs] at tu
        have lT : Ts.length = (prsS xs).length := by rw [tu.1, List.length_map]
        have l36 := Good.len0 (xs := xs) (by omega)
        have l1 : 1 ≤ (prsS xs).length := by
          have h := prsS_len xs
          rw [lx] at h
          have : many + many ≤ many * many := by
            have := Nat.mul_le_mul_right many (show 2 ≤ many by omega)
            omega
          omega
        refine ⟨p, D2, Ts.map V.ref, c0, n + 8, rfl, pa4, hd, nD2p, by rw [List.length_map]; omega, by rw [List.length_map]; omega, fun H5 i x hx sx5 pa5 => ?_⟩
        rw [List.getElem?_map] at hx
        obtain ⟨T1, hT, rfl⟩ := Option.map_eq_some_iff.mp hx
        have il := (List.getElem?_eq_some_iff.mp hT).1
        obtain ⟨q, hq⟩ : ∃ q, (prsS xs)[i]? = some q := ⟨_, List.getElem?_eq_getElem (by rw [← lT]; exact il)⟩
        have eT := tu.2 i T1 (tv q) hT (by rw [List.getElem?_map, hq]; rfl)
        have eT5 := sx5 _ _ (purse_ne pa4 eT fun _ _ _ _ z => nomatch z) eT
        refine ⟨D, T1, xs, qs, q, rfl, (hD.same s4).sameX pa4 sx5, ⟨asc, hw, by omega, sb⟩, eT5, List.mem_of_getElem? hq, fun H6 D3 s6 nD3 hD3 => ?_⟩
        have nD3p := purse_none pa5 nD3
        have sx5' := (sx3'.trans (SameX.of s4)).trans sx5
        exact k H6 D3 xs _ lx ⟨asc, hw, by omega, List.filter_sublist⟩ (sx5'.trans (SameX.of s6)) (sx5'.none nD3 nD3p) hD3 nD3p ((pa5.same s6).less (by omega))
      · exact ⟨_, rfl, k H3 D xs qs lx ⟨asc, hw, by omega, sb⟩ sx3' (sxH.none nD nDp) hD nDp (pa3.less (by omega))⟩
    refine ⟨_, rfl, _, rfl, p, c, xs, c0, n + 9, rfl, pa2, hc2, g0, fun H3 D qs sb sx3 nD hD nDp pa3 => ?_⟩
    exact k H3 D xs qs lx ⟨asc, hw, by omega, sb⟩ (sxH.trans sx3) (sxH.none nD nDp) hD nDp (pa3.less (by omega))
end
end Wd
end
section
set_option maxRecDepth 100000
set_option maxHeartbeats 4000000
namespace Wd
open PySem L2
def spSized : Sp := fun vs H Q _ => ∃ (p : Addr) (c0 : Int) (n : Nat), vs = [.ref p] ∧ PurseAt H p c0 (n + 2) ∧
  ∀ (H' : Hp) (m : Nat), 1 ≤ m → m ≤ 9 → SameX p H H' → PurseAt H' p c0 n → Q (.int m) H'
section
variable {P : Program} {w : World} {K : PySem.W.Frag} {mg : Str → Option Value} {base : Heap}
theorem ok_sized {f : Addr} {fd : FuncData} (F : Fun K "_law_sized" "_law_sized" s_sized f fd) (CD : Has P w K mg base 2 "_law_draw" ["_law_purse_here", "_law_many"] spDraw) :
    FnOk P w K mg base CX0 3 f fd ["_law_purse_here"] spSized := by
  obtain ⟨fD, fdD, GD, mD, kD, bD⟩ := CD
  refine F.ok c_sized (fun vs H Q E h => ?_) (fun cdv A outer s H vs Q E hr h => ?_)
  · obtain ⟨_, _, _, rfl, _⟩ := h
    rfl
  · obtain ⟨p, c0, n, rfl, pa, k⟩ := h
    have hr2 : Room 2 _ := hr.mono (by decide)
    refine ⟨_, pss_one (ps_ret (pe_ifExp (pt_cmpR op_eq (pe_call GD hr2 rfl mD kD bD .nil pass0 (pa_cons (pv 0) (pa_cons pe_int pa_nil))) pe_int (nomark _))
      (pe_op op_add pe_int (pe_call GD hr2 rfl mD kD bD .nil pass0 (pa_cons (pv 0) (pa_cons pe_int pa_nil))))
      (pe_op op_add pe_int (pe_call GD hr2 rfl mD kD bD .nil pass0 (pa_cons (pv 0) (pa_cons pe_int pa_nil)))))), ?_⟩
    refine ⟨_, rfl, p, _, c0, n + 1, rfl, pa, by decide, by decide, fun H1 r r0 r1 sx1 pa1 => ⟨rfl, _, rfl, ?_⟩⟩
    refine ite2 (fun _ => ?_) (fun _ => ?_)
    · refine ⟨_, rfl, p, _, c0, n, rfl, pa1, by decide, by decide, fun H2 u u0 u1 sx2 pa2 => ⟨_, _, rfl, rfl, ?_⟩⟩
      have e : (1 + u : Int) = ((1 + u).toNat : Int) := by omega
      show Q (V.int (1 + u)) H2
      rw [e]
      exact k H2 _ (by omega) (by omega) (sx1.trans sx2) pa2
    · refine ⟨_, rfl, p, _, c0, n, rfl, pa1, by decide, by decide, fun H2 u u0 u1 sx2 pa2 => ⟨_, _, rfl, rfl, ?_⟩⟩
      have e : (3 + u : Int) = ((3 + u).toNat : Int) := by omega
      show Q (V.int (3 + u)) H2
      rw [e]
      exact k H2 _ (by omega) (by omega) (sx1.trans sx2) pa2
end
end Wd
end
section
set_option maxRecDepth 100000
set_option maxHeartbeats 4000000
namespace Kc
open PySem PySem.Spec PyProof.Rows PySem.Builtin
abbrev TC : String := "itertools.combinations"
theorem mro_c : mroOf (.type TC) = pure [.type TC, .type "object"] := by
  rw [mroOf_type]
  kernel_rfl
theorem new_c : typeLookup (.type TC) "__new__" = pure (some (.builtin "itertools.combinations.__new__")) := by
  rw [typeLookup_type, builtinLookup_eq_fast]
  kernel_rfl
theorem slotI_c : Slot TC "__init__" "object.__init__" :=
  .of (owner := "object") (n := "__init__") (by rw [typeLookup_type, builtinLookup_eq_fast]; kernel_rfl) (by decide +kernel) (by decide +kernel) (by decide +kernel)
    (by first | exact .inl (by decide +kernel) | exact .inr (by decide +kernel)) (by rw [isSubtype_type]; kernel_rfl)
theorem sub_c : isSubtype (.type TC) (.type TC) = pure true := by
  rw [isSubtype_type]
  kernel_rfl
theorem called_c : TypeCalled TC "itertools.combinations.__new__" "object.__init__" :=
  ⟨by decide +kernel, by decide +kernel, ⟨_, _, mro_c⟩, madeBy_type mro_c new_c (by decide +kernel), by decide +kernel, sub_c, slotI_c⟩
theorem typeCall_c (a b : Value) : checkTypeCall TC ⟨[a, b], []⟩ = pure () := by kernel_rfl
theorem newCall_c (a b : Value) : checkBuiltinCall "itertools.combinations.__new__" ⟨[.type TC, a, b], []⟩ = pure () := by kernel_rfl
theorem entryN_c : entryFor table "itertools.combinations.__new__" = some Builtin.«itertools.combinations.__new__» := entryFor_of_tree (by kernel_rfl)
theorem slotIt_c : Slot TC "__iter__" "itertools.combinations.__iter__" :=
  .of (owner := TC) (n := "__iter__") (by rw [typeLookup_type, builtinLookup_eq_fast]; kernel_rfl) (by decide +kernel) (by decide +kernel) (by decide +kernel)
    (by first | exact .inl (by decide +kernel) | exact .inr (by decide +kernel)) sub_c
theorem slotNx_c : Slot TC "__next__" "itertools.combinations.__next__" :=
  .of (owner := TC) (n := "__next__") (by rw [typeLookup_type, builtinLookup_eq_fast]; kernel_rfl) (by decide +kernel) (by decide +kernel) (by decide +kernel)
    (by first | exact .inl (by decide +kernel) | exact .inr (by decide +kernel)) sub_c
theorem entryIt_c : entryFor table "itertools.combinations.__iter__" = some Builtin.«dict_keyiterator.__iter__» :=
  entryFor_alias (id' := "dict_keyiterator.__iter__") (by kernel_rfl) (by first | rfl | decide +kernel | (unfold String.splitOn; simp +decide [String.splitOnAux])) (by decide +kernel) (by kernel_rfl)
theorem entryNx_c : entryFor table "itertools.combinations.__next__" = some Builtin.«itertools.combinations.__next__» := entryFor_of_tree (by kernel_rfl)
def nameC : List Char := ['s', 'n', 'o', 'i', 't', 'a', 'n', 'i', 'b', 'm', 'o', 'c', '.', 's', 'l', 'o', 'o', 't', 'r', 'e', 't', 'i']
theorem owner_c : Manifest.owners.lookup (String.ofList nameC.reverse) = some Manifest.sig_itertools_combinations := by kernel_rfl
theorem argsIt_c (a : Value) : argsOk "itertools.combinations.__iter__" ⟨[a], []⟩ := by
  unfold argsOk
  rw [signature?_of (id := "itertools.combinations.__iter__") (n := ['_', '_', 'r', 'e', 't', 'i', '_', '_']) (o := nameC) (by kernel_rfl) owner_c]
  kernel_rfl
theorem argsNx_c (a : Value) : argsOk "itertools.combinations.__next__" ⟨[a], []⟩ := by
  unfold argsOk
  rw [signature?_of (id := "itertools.combinations.__next__") (n := ['_', '_', 't', 'x', 'e', 'n', '_', '_']) (o := nameC) (by kernel_rfl) owner_c]
  kernel_rfl
theorem noDict_c : typeHasDict (.type TC) = false := by decide +kernel
theorem noLen_c : typeLookup (.type TC) "__len__" = pure none := by
  rw [typeLookup_type, builtinLookup_eq_fast]
  kernel_rfl
theorem noHint_c : typeLookup (.type TC) "__length_hint__" = pure none := by
  rw [typeLookup_type, builtinLookup_eq_fast]
  kernel_rfl
theorem isType_c : isType (.type TC) = pure true := by first | rfl | kernel_rfl
end Kc
end
section
set_option maxRecDepth 100000
set_option maxHeartbeats 4000000
namespace Kc
open PySem PySem.Spec PyProof.Rows PySem.Builtin PySem.Builtin.Itertools
/-- the step of the model, in our own words -/
def nextC (n : Nat) (ix : List Nat) : Option (List Nat) :=
  match (List.range ix.length).reverse.find? fun i => ix.getD i 0 != i + n - ix.length with
  | none => none
  | some i => some (ix.take i ++ (List.range (ix.length - i)).map (ix.getD i 0 + 1 + ·))
def pickC (pool : Value) (ix : List Nat) : Sem Value := do
  let items ← itPoolItems pool
  newTuple (ix.map fun i => items.getD i .none)
def outC (self pool : Value) (ix : List Nat) : Sem PySem.Fin := do
  let result ← pickC pool ix
  let before ← field self 2
  setField self 2 result
  letGo [before] [result]
  ret result
theorem next_eq (self : Value) : Builtin.«itertools.combinations.__next__» ⟨[self], []⟩ = (do
    let (self, _) ← slotArgs "__next__" 0 ⟨[self], []⟩
    let pool ← field self 0
    let ix ← itNumbersFrom self 3
    match ← itIntField self 1 with
    | 0 => setField self 1 (rawInt 1); outC self pool ix
    | 1 =>
      match nextC (← itPoolItems pool).size ix with
      | some next => itSetNumbersFrom self 3 next; outC self pool next
      | none => setField self 1 (rawInt 2); itStop
    | _ => rule "itertools.combinations.ended"; itStop) := rfl
end Kc
end
section
set_option maxRecDepth 100000
set_option maxHeartbeats 4000000
namespace Kc
open PySem PySem.Spec PyProof.Rows PySem.Builtin PySem.Builtin.Itertools
def flds (pool : Addr) (st : Int) (res : Value) (ix : List Nat) : Array Value := ([.ref pool, rawInt st, res] ++ ix.map fun (i : Nat) => rawInt i).toArray
abbrev combO (pool : Addr) (st : Int) (res : Value) (ix : List Nat) : Obj := { cls := .type TC, dict := none, data := .fields (flds pool st res ix), slots := #[] }
section
variable {pool : Addr} {st : Int} {res : Value} {ix : List Nat}
theorem f0 : (flds pool st res ix)[0]? = some (.ref pool) := by simp [flds]
theorem f1 : (flds pool st res ix)[1]? = some (.int st 0) := by simp [flds, rawInt]
theorem f2 : (flds pool st res ix)[2]? = some res := by simp [flds]
theorem fsz : (flds pool st res ix).size = ix.length + 3 := by simp [flds]
theorem fset1 (v : Int) : (flds pool st res ix).setIfInBounds 1 (rawInt v) = flds pool v res ix := by simp [flds]
theorem fset2 (v : Value) : (flds pool st res ix).setIfInBounds 2 v = flds pool st v ix := by simp [flds]
theorem fnums : ((flds pool st res ix).toList.drop 3).map (fun | .int n _ => n.toNat | _ => 0) = ix := by
  have e : (flds pool st res ix).toList.drop 3 = ix.map fun (i : Nat) => rawInt i := by simp [flds]
  rw [e, List.map_map]
  conv => rhs; rw [← List.map_id ix]
  exact List.map_congr_left fun i _ => by simp [rawInt]
theorem fext (jx : List Nat) : (flds pool st res ix).extract 0 3 ++ (jx.map fun (i : Nat) => rawInt i).toArray = flds pool st res jx := by
  apply Array.toList_inj.mp
  simp [flds]
end
section
variable {prog : Program} {w : World} {A : Around} {E : Value → Shared → Prop} {s : Shared} {it pool : Addr} {st : Int} {res : Value} {ix : List Nat} {xs : Array Value}
/-- the pool -/
def Pool (h : Heap) (pool : Addr) (xs : Array Value) : Prop := ∃ o n, h.get? pool = some o ∧ o.data = .seq xs n
theorem upd_f {o' : Obj} (g : Array Value → Array Value) (hit : s.heap.get? it = some (combO pool st res ix)) (e : Obj.mapFields g (combO pool st res ix) = o') : (s.heap.update it (Obj.mapFields g)).get? it = some o' := by
  have h := Heap.get?_update_self (Obj.mapFields g) hit rfl
  rw [e] at h
  exact h
/-- a new tuple of the pool's items, held by the iterator -/
theorem out_item {Q : PySem.Fin → Shared → Prop} (hit : s.heap.get? it = some (combO pool st res ix)) (hp : Pool s.heap pool xs) (hn : ix.length ≤ 1000)
    (h : ∀ h', h'.get? s.heap.objs.size = some { cls := .type "tuple", data := .seq (ix.map fun i => xs.getD i .none).toArray } → h'.get? it = some (combO pool st (.ref s.heap.objs.size) ix) →
      (∀ b o, b ≠ it → s.heap.get? b = some o → h'.get? b = some o) → h'.objs.size = s.heap.objs.size + 1 → Q (.done (.ret (.ref s.heap.objs.size))) { s with heap := h' }) : wpAny (model prog w) A (outC (.ref it) (.ref pool) ix) Q E s := by
  obtain ⟨o, n, ho, hd⟩ := hp
  have lt : it < s.heap.objs.size := Heap.lt_size hit
  unfold outC pickC itPoolItems
  refine wpAny_bind (wpAny_bind (wpAny_bind (wpAny_seqItems ho hd (wpAny_pure ?_))))
  refine wpAny_newTuple ?_ (by rw [List.length_map, sizeLine_eq]; omega)
  generalize hT : s.heap.push { cls := .type "tuple", data := .seq (ix.map fun i => xs.getD i .none).toArray } = h1
  have g1 : h1.get? it = some (combO pool st res ix) := by
    rw [← hT]
    exact Heap.get?_push_of_some _ hit
  have g2 : h1.get? s.heap.objs.size = some { cls := .type "tuple", data := .seq (ix.map fun i => xs.getD i .none).toArray } := by
    rw [← hT]
    exact Heap.get?_push_size _ rfl
  refine wpAny_bind (wpAny_field g1 rfl f2 ?_)
  refine wpAny_bind (wpAny_setField g1 rfl (by rw [fsz]; omega) ?_)
  refine wpAny_bind (wpAny_letGo ?_)
  have ne : s.heap.objs.size ≠ it := Nat.ne_of_gt lt
  refine wpAny_pure (h _ ?_ ?_ (fun b o nb e => ?_) ?_)
  · rw [Heap.get?_update_ne _ _ _ _ ne]
    exact g2
  · exact upd_f (s := { s with heap := h1 }) _ g1 (by simp [Obj.mapFields, fset2])
  · rw [Heap.get?_update_ne _ _ _ _ nb, ← hT]
    exact Heap.get?_push_of_some _ e
  · rw [Heap.size_update, ← hT, size_push']
end
end Kc
end
section
set_option maxRecDepth 100000
set_option maxHeartbeats 4000000
namespace Kc
open PySem PySem.Spec PyProof.Rows PySem.Builtin PySem.Builtin.Itertools
/-- what stands ahead of a turn: fresh with the first places, or behind places whose next are told -/
def Ahead (n : Nat) (st : Int) (ix : List Nat) (nx : Option (List Nat)) : Prop := (st = 0 ∧ nx = some ix) ∨ (st = 1 ∧ nx = nextC n ix) ∨ (st = 2 ∧ nx = none)
section
variable {prog : Program} {w : World} {A : Around} {E : Value → Shared → Prop} {s : Shared} {it pool : Addr} {st : Int} {res : Value} {ix jx : List Nat} {xs : Array Value}
theorem pool_but {h h' : Heap} (hp : Pool h pool xs) (k : ∀ b o, b ≠ it → h.get? b = some o → h'.get? b = some o) (ne : pool ≠ it) : Pool h' pool xs := by
  obtain ⟨o, n, ho, hd⟩ := hp
  exact ⟨o, n, k _ _ ne ho, hd⟩
theorem wp_nums {Q : List Nat → Shared → Prop} (hit : s.heap.get? it = some (combO pool st res ix)) (h : Q ix s) : wpAny (model prog w) A (itNumbersFrom (.ref it) 3) Q E s := by
  unfold itNumbersFrom
  refine wpAny_bind (wpAny_load hit ?_)
  have e := congrArg (fun l => Q l s) (fnums (pool := pool) (st := st) (res := res) (ix := ix))
  exact wpAny_pure (e.mpr h)
theorem wp_setnums {Q : Unit → Shared → Prop} (hit : s.heap.get? it = some (combO pool st res ix)) (hn : jx.length ≤ 1000)
    (h : ∀ h', h'.get? it = some (combO pool st res jx) → (∀ b o, b ≠ it → s.heap.get? b = some o → h'.get? b = some o) → h'.objs.size = s.heap.objs.size → Q () { s with heap := h' }) : wpAny (model prog w) A (itSetNumbersFrom (.ref it) 3 jx) Q E s := by
  unfold itSetNumbersFrom
  refine wpAny_updateFields hit rfl (h _ (upd_f _ hit (by simp [Obj.mapFields, fext])) (fun b o nb e => ?_) (by rw [Heap.size_update])) ?_
  · rw [Heap.get?_update_ne _ _ _ _ nb]
    exact e
  · rw [fext, fsz, sizeLine_eq]
    omega
theorem wp_setst {Q : Unit → Shared → Prop} (v : Int) (hit : s.heap.get? it = some (combO pool st res ix))
    (h : ∀ h', h'.get? it = some (combO pool v res ix) → (∀ b o, b ≠ it → s.heap.get? b = some o → h'.get? b = some o) → h'.objs.size = s.heap.objs.size → Q () { s with heap := h' }) : wpAny (model prog w) A (setField (.ref it) 1 (rawInt v)) Q E s := by
  refine wpAny_setField hit rfl (by rw [fsz]; omega) (h _ (upd_f _ hit (by simp [Obj.mapFields, fset1])) (fun b o nb e => ?_) (by rw [Heap.size_update]))
  rw [Heap.get?_update_ne _ _ _ _ nb]
  exact e
/-- the next item -/
theorem comb_item {n : Nat} {Q : Option Value → Shared → Prop} (hit : s.heap.get? it = some (combO pool st res ix)) (hp : Pool s.heap pool xs) (ne : pool ≠ it) (hn : xs.size = n) (ah : Ahead n st ix (some jx)) (hj : jx.length ≤ 1000)
    (h : ∀ h', h'.get? s.heap.objs.size = some { cls := .type "tuple", data := .seq (jx.map fun i => xs.getD i .none).toArray } → h'.get? it = some (combO pool 1 (.ref s.heap.objs.size) jx) →
      (∀ b o, b ≠ it → s.heap.get? b = some o → h'.get? b = some o) → h'.objs.size = s.heap.objs.size + 1 → Q (some (.ref s.heap.objs.size)) { s with heap := h' }) : wpAny (model prog w) A (pyNext (.ref it)) Q E s := by
  have hT : s.TypeIs (.ref it) TC := ⟨_, hit, rfl⟩
  unfold pyNext
  refine wpAny_bind (wpAny_attempt (wpAny_callSpecial?_slot (name := Str.ofString "__next__") hT slotNx_c (wpAny_call_entry slotNx_c hT entryNx_c ?_ (argsNx_c _))))
  rw [next_eq]
  unfold slotArgs
  refine wpAny_bind (wpAny_pure ?_)
  refine wpAny_bind (wpAny_field hit rfl f0 ?_)
  refine wpAny_bind (wp_nums hit ?_)
  unfold itIntField
  refine wpAny_bind (wpAny_bind (wpAny_field hit rfl f1 (wpAny_pure ?_)))
  rcases ah with ⟨rfl, e⟩ | ⟨rfl, e⟩ | ⟨_, e⟩
  · obtain rfl : jx = ix := Option.some.inj e
    show wpAny _ _ (do setField (.ref it) 1 (rawInt 1); outC (.ref it) (.ref pool) jx) _ _ s
    refine wpAny_bind (wp_setst 1 hit fun h1 g1 k1 z1 => ?_)
    refine out_item (s := { s with heap := h1 }) g1 (pool_but hp k1 ne) hj fun h' a b c d => ⟨_, rfl, wpAny_pure ?_⟩
    dsimp only at a b c d
    rw [z1] at a b d ⊢
    exact h h' a b (fun b o nb e => c b o nb (k1 b o nb e)) d
  · obtain ⟨o, m, ho, hd⟩ := id hp
    show wpAny _ _ (do
      match nextC (← itPoolItems (.ref pool)).size ix with
      | some next => itSetNumbersFrom (.ref it) 3 next; outC (.ref it) (.ref pool) next
      | none => setField (.ref it) 1 (rawInt 2); itStop) _ _ s
    unfold itPoolItems
    refine wpAny_bind (wpAny_bind (wpAny_seqItems ho hd (wpAny_pure ?_)))
    rw [hn, ← e]
    dsimp only
    refine wpAny_bind (wp_setnums hit hj fun h1 g1 k1 z1 => ?_)
    refine out_item (s := { s with heap := h1 }) g1 (pool_but hp k1 ne) hj fun h' a b c d => ⟨_, rfl, wpAny_pure ?_⟩
    dsimp only at a b c d
    rw [z1] at a b d ⊢
    exact h h' a b (fun b o nb e => c b o nb (k1 b o nb e)) d
  · cases e
theorem wp_stop {Q : Option Value → Shared → Prop} {α : Type} {Q2 : α → Shared → Prop} (hh : A.handled = none) (h : ∀ h' e, (∃ o, h'.get? e = some o ∧ o.cls = .type "StopIteration") → (∀ b o, s.heap.get? b = some o → h'.get? b = some o) → E (.ref e) { s with heap := h' }) :
    wpAny (model prog w) A (itStop : Sem α) Q2 E s := by
  unfold itStop
  refine wpAny_bind ?_
  simp only [newExc, newTuple]
  refine wpAny_bind (wpAny_newObj_type ?_ (by size_fits))
  refine wpAny_bind (m := firstArgMember _ _) (wpAny_of_eq (a := Value.none) (by first | rfl | (simp only [firstArgMember]; rfl)) ?_)
  refine wpAny_newObj_type ?_ (by size_fits)
  simp only [raiseNew]
  refine wpAny_bind (wpAny_handled ?_)
  rw [hh]
  refine wpAny_bind (wpAny_pure (wpAny_throw ?_))
  exact h _ _ ⟨_, Heap.get?_push_size _ rfl, rfl⟩ fun b o e => Heap.get?_push_of_some _ (Heap.get?_push_of_some _ e)
/-- the end -/
theorem comb_end {n : Nat} {Q : Option Value → Shared → Prop} (hh : A.handled = none) (hit : s.heap.get? it = some (combO pool st res ix)) (hp : Pool s.heap pool xs) (hn : xs.size = n) (ah : Ahead n st ix none)
    (h : ∀ h', (∀ b o, b ≠ it → s.heap.get? b = some o → h'.get? b = some o) → Q none { s with heap := h' }) : wpAny (model prog w) A (pyNext (.ref it)) Q E s := by
  have hT : s.TypeIs (.ref it) TC := ⟨_, hit, rfl⟩
  unfold pyNext
  refine wpAny_bind (wpAny_attempt (wpAny_callSpecial?_slot (name := Str.ofString "__next__") hT slotNx_c (wpAny_call_entry slotNx_c hT entryNx_c ?_ (argsNx_c _))))
  rw [next_eq]
  unfold slotArgs
  refine wpAny_bind (wpAny_pure ?_)
  refine wpAny_bind (wpAny_field hit rfl f0 ?_)
  refine wpAny_bind (wp_nums hit ?_)
  unfold itIntField
  refine wpAny_bind (wpAny_bind (wpAny_field hit rfl f1 (wpAny_pure ?_)))
  have fin : ∀ (h' : Heap) (e : Addr), (∃ o, h'.get? e = some o ∧ o.cls = .type "StopIteration") → (∀ b o, b ≠ it → s.heap.get? b = some o → h'.get? b = some o) →
      wpAny (model prog w) A (do if ← isInstance (.ref e) (.type "StopIteration") then pure none else throw (.ref e)) Q E { s with heap := h' } := fun h' e ⟨o, ho, hc⟩ k => by
    refine wpAny_bind (wpAny_isInstance (T := "StopIteration") (b := true) ⟨o, ho, hc⟩ isSubtype_stop ?_)
    exact wpAny_pure (h h' k)
  rcases ah with ⟨rfl, e⟩ | ⟨rfl, e⟩ | ⟨rfl, e⟩
  · cases e
  · obtain ⟨o, m, ho, hd⟩ := id hp
    show wpAny _ _ (do
      match nextC (← itPoolItems (.ref pool)).size ix with
      | some next => itSetNumbersFrom (.ref it) 3 next; outC (.ref it) (.ref pool) next
      | none => setField (.ref it) 1 (rawInt 2); itStop) _ _ s
    unfold itPoolItems
    refine wpAny_bind (wpAny_bind (wpAny_seqItems ho hd (wpAny_pure ?_)))
    rw [hn, ← e]
    dsimp only
    refine wpAny_bind (wp_setst 2 hit fun h1 g1 k1 z1 => ?_)
    refine wp_stop (Q := Q) (s := { s with heap := h1 }) (by first | exact hh | simp [hh]) fun h' x hx k => ?_
    exact fin h' x hx fun b o nb e => k b o (k1 b o nb e)
  · show wpAny _ _ (do rule "itertools.combinations.ended"; itStop) _ _ s
    refine wpAny_bind (wpAny_rule ?_)
    refine wp_stop (Q := Q) (by first | exact hh | simp [hh]) fun h' x hx k => ?_
    exact fin h' x hx fun b o nb e => k b o e
theorem comb_self {Q : Value → Shared → Prop} (hit : s.heap.get? it = some (combO pool st res ix)) (h : Q (.ref it) s) : wpAny (model prog w) A (pyIter (.ref it)) Q E s := by
  have hT : s.TypeIs (.ref it) TC := ⟨_, hit, rfl⟩
  refine wpAny_pyIter_slot hT slotIt_c (wpAny_call_entry slotIt_c hT entryIt_c ?_ (argsIt_c _))
  show wpAny _ _ (ret (.ref it)) _ _ s
  exact wpAny_pure ⟨_, rfl, TC, _, hT, slotNx_c.lookup, h⟩
end
end Kc
end
section
set_option maxRecDepth 100000
set_option maxHeartbeats 4000000
namespace Kc
open PySem PySem.Spec PyProof.Rows PySem.Builtin PySem.Builtin.Itertools
def poolC (short : String) (args : Args) : Sem (Value × Value × Nat × Nat) := do
  let (cls, rest) ← itClassAndRest short args
  let [some iterable, some rV] ← itBindNamed short ["iterable", "r"] 2 2 rest args.kw | unsupported "internal:itertools.combinations.__new__"
  let r ← itSsizeArg rV
  let items ← collect iterable
  if r < 0 then rule "itertools.combinations.negative-r"; raiseError "ValueError" "r must be non-negative"
  if itTooMany r then unsupported s!"itertools.{short}.__new__:memory"
  return (cls, ← newTuple items, items.length, r.toNat)
theorem new_eq (args : Args) : Builtin.«itertools.combinations.__new__» args = (do
    let (cls, pool, n, r) ← poolC "combinations" args
    ret (← itNewRecord cls ([pool, rawInt (if r > n then 2 else 0), .none] ++ (List.range r).map fun (i : Nat) => rawInt i))) := rfl
theorem bind_c (a b : Value) : itBindNamed "combinations" ["iterable", "r"] 2 2 [a, b] [] = pure [some a, some b] := by rfl
theorem ix_c (r : Int) (t : Tok) : asIndex (.int r t) = pure r := by first | rfl | kernel_rfl
section
variable {prog : Program} {w : World} {A : Around} {E : Value → Shared → Prop} {s : Shared}
theorem wp_new {l : Addr} {vs : List Value} {r : Nat} {t : Tok} {Q : PySem.Fin → Shared → Prop} (hl : s.heap.IsList l vs.toArray) (hv : vs.length ≤ 1000) (hr : r ≤ 100)
    (h : ∀ h', h'.get? (s.heap.objs.size + 2) = some (combO (s.heap.objs.size + 1) (if r > vs.length then 2 else 0) .none (List.range r)) → h'.get? (s.heap.objs.size + 1) = some { cls := .type "tuple", data := .seq vs.toArray } →
      (∀ b o, s.heap.get? b = some o → h'.get? b = some o) → Q (.done (.ret (.ref (s.heap.objs.size + 2)))) { s with heap := h' }) :
    wpAny (model prog w) A (Builtin.«itertools.combinations.__new__» ⟨[.type TC, .ref l, .int r t], []⟩) Q E s := by
  rw [new_eq]
  unfold poolC
  refine wpAny_bind (wpAny_bind ?_)
  unfold itClassAndRest
  dsimp only
  refine wpAny_bind (wpAny_of_eq isType_c ?_)
  simp only [Bool.not_true, Bool.false_eq_true, if_false]
  refine wpAny_bind (wpAny_of_eq sub_c ?_)
  simp only [Bool.not_true, Bool.false_eq_true, if_false]
  refine wpAny_pure ?_
  dsimp only
  rw [bind_c]
  refine wpAny_bind (wpAny_pure ?_)
  dsimp only
  unfold itSsizeArg
  rw [ix_c]
  refine wpAny_bind (wpAny_bind (wpAny_pure ?_))
  have c1 : (decide ((r : Int) < -(2 ^ 63 : Int)) || decide ((r : Int) ≥ 2 ^ 63)) = false := by
    rw [Bool.or_eq_false_iff]
    exact ⟨decide_eq_false (by omega), decide_eq_false (by omega)⟩
  rw [c1]
  simp only [Bool.false_eq_true, if_false]
  refine wpAny_pure ?_
  refine wpAny_bind (collect_list hl ?_ (by rw [sizeLine_eq]; omega))
  refine wpAny_ite_split (fun z => absurd z (by omega)) (fun _ => ?_)
  try refine wpAny_bind (wpAny_pure ?_)
  have c2 : itTooMany (r : Int) = false := decide_eq_false (by omega)
  refine wpAny_ite_split (fun z => absurd z (by rw [c2]; decide)) (fun _ => ?_)
  try refine wpAny_bind (wpAny_pure ?_)
  have hsz : ((s.heap.push (seqObj "list" #[] 0)).update s.heap.objs.size (Obj.mapSeq (· ++ vs.toArray))).objs.size = s.heap.objs.size + 1 := by
    rw [Heap.size_update, size_push']
  refine wpAny_bind (wpAny_newTuple ?_ (by rw [sizeLine_eq]; omega))
  refine wpAny_pure ?_
  dsimp only
  generalize hT : ((s.heap.push (seqObj "list" #[] 0)).update s.heap.objs.size (Obj.mapSeq (· ++ vs.toArray))).push { cls := .type "tuple", data := .seq vs.toArray } = h1
  have z1 : h1.objs.size = s.heap.objs.size + 2 := by rw [← hT, size_push', hsz]
  have g1 : h1.get? (s.heap.objs.size + 1) = some { cls := .type "tuple", data := .seq vs.toArray } := by
    rw [← hT, ← hsz]
    exact Heap.get?_push_size _ rfl
  have k1 : ∀ b o, s.heap.get? b = some o → h1.get? b = some o := fun b o e => by
    have lt : b < s.heap.objs.size := Heap.lt_size e
    rw [← hT]
    refine Heap.get?_push_of_some _ ?_
    rw [Heap.get?_update_ne _ _ _ _ (Nat.ne_of_lt lt)]
    exact Heap.get?_push_of_some _ e
  unfold itNewRecord
  rw [noDict_c]
  simp only [Bool.not_false, if_true]
  rw [hsz]
  refine wpAny_bind ?_
  refine wpAny_newObj_type ?_ ?_
  · refine wpAny_pure ?_
    rw [z1]
    refine h _ ?_ (Heap.get?_push_of_some _ g1) fun b o e => Heap.get?_push_of_some _ (k1 b o e)
    rw [← z1]
    exact Heap.get?_push_size _ rfl
  · show (flds _ _ _ _).size ≤ _
    rw [fsz, List.length_range, sizeLine_eq]
    omega
def specC (l : Addr) (vs : List Value) (r : Nat) : PySem.Spec := fun _ R s => s.heap.IsList l vs.toArray ∧ vs.length ≤ 1000 ∧ r ≤ 100 ∧
  ∀ h' : Heap, h'.get? (s.heap.objs.size + 2) = some (combO (s.heap.objs.size + 1) (if r > vs.length then 2 else 0) .none (List.range r)) → h'.get? (s.heap.objs.size + 1) = some { cls := .type "tuple", data := .seq vs.toArray } →
    (∀ b o, s.heap.get? b = some o → h'.get? b = some o) → R (.ok (.ret (.ref (s.heap.objs.size + 2)))) { s with heap := h' }
theorem meets_c (l : Addr) (vs : List Value) (r : Nat) (t : Tok) : Meets (Builtin.«itertools.combinations.__new__» ⟨[.type TC, .ref l, .int r t], []⟩) (specC l vs r) :=
  .of_wp fun prog w A R s h => by
    obtain ⟨hl, hv, hr, q⟩ := h
    exact wp_new hl hv hr fun h' a b c => ⟨_, rfl, q h' a b c⟩
/-- combinations(xs, r) -/
theorem call_comb {l : Addr} {vs : List Value} {r : Nat} {t : Tok} {Q : Value → Shared → Prop} (hl : s.heap.IsList l vs.toArray) (hv : vs.length ≤ 1000) (hr : r ≤ 100)
    (h : ∀ h', h'.get? (s.heap.objs.size + 2) = some (combO (s.heap.objs.size + 1) (if r > vs.length then 2 else 0) .none (List.range r)) → h'.get? (s.heap.objs.size + 1) = some { cls := .type "tuple", data := .seq vs.toArray } →
      (∀ b o, s.heap.get? b = some o → h'.get? b = some o) → Q (.ref (s.heap.objs.size + 2)) { s with heap := h' }) : wpAny (model prog w) A (call (.type TC) [.ref l, .int r t]) Q E s := by
  refine callType_new called_c (by decide +kernel) (typeCall_c _ _) (newCall_c _ _) (fun obj => F.args_object_init_3 obj _ _) entryN_c (meets_c l vs r t) ?_
  exact ⟨hl, hv, hr, fun h' a b c => ⟨⟨_, a, rfl⟩, h h' a b c⟩⟩
end
end Kc
end
section
set_option maxRecDepth 100000
set_option maxHeartbeats 4000000
namespace Kc
open PySem PySem.Spec PyProof.Rows L2
/-! ### the places, in their order -/
def ixs2 (n : Nat) : List (List Nat) := (List.range n).flatMap fun i => ((List.range n).filter fun j => decide (i < j)).map fun j => [i, j]
def ixs3 (n : Nat) : List (List Nat) := (List.range n).flatMap fun i => ((List.range n).filter fun j => decide (i < j)).flatMap fun j => ((List.range n).filter fun k => decide (j < k)).map fun k => [i, j, k]
def ixsR (r n : Nat) : List (List Nat) := if r = 2 then ixs2 n else ixs3 n
/-- a list of places that the iterator goes through -/
structure Goes (n r : Nat) (L : List (List Nat)) : Prop where
  start : L[0]? = if r > n then none else some (List.range r)
  next : ∀ t a, L[t]? = some a → nextC n a = L[t + 1]?
  len : ∀ a ∈ L, a.length = r ∧ ∀ i ∈ a, i < n
def okGo (n r : Nat) (L : List (List Nat)) : Bool := (L[0]? == if r > n then none else some (List.range r)) && ((List.range L.length).all fun t => match L[t]? with
  | some a => (nextC n a == L[t + 1]?) && (a.length == r) && a.all fun i => decide (i < n)
  | none => true)
theorem goes_of {n r : Nat} {L : List (List Nat)} (h : okGo n r L = true) : Goes n r L := by
  unfold okGo at h
  rw [Bool.and_eq_true] at h
  obtain ⟨h1, h2⟩ := h
  have all : ∀ t a, L[t]? = some a → (nextC n a = L[t + 1]? ∧ a.length = r) ∧ ∀ i ∈ a, i < n := fun t a e => by
    have lt : t < L.length := (List.getElem?_eq_some_iff.mp e).1
    have q := List.all_eq_true.mp h2 t (List.mem_range.mpr lt)
    rw [e] at q
    simpa using q
  refine ⟨by simpa using h1, fun t a e => (all t a e).1.1, fun a ha => ?_⟩
  obtain ⟨t, ht, e⟩ := List.getElem_of_mem ha
  have q := all t a (by rw [List.getElem?_eq_getElem ht, e])
  exact ⟨q.1.2, q.2⟩
theorem all_go : ((List.range 13).all fun n => okGo n 2 (ixs2 n) && okGo n 3 (ixs3 n)) = true := by decide +kernel
theorem goes2 {n : Nat} (h : n ≤ 12) : Goes n 2 (ixs2 n) := by
  have q := List.all_eq_true.mp all_go n (List.mem_range.mpr (by omega))
  rw [Bool.and_eq_true] at q
  exact goes_of q.1
theorem goes3 {n : Nat} (h : n ≤ 12) : Goes n 3 (ixs3 n) := by
  have q := List.all_eq_true.mp all_go n (List.mem_range.mpr (by omega))
  rw [Bool.and_eq_true] at q
  exact goes_of q.2
/-! ### as a walk of the layer -/
/-- the values at some places -/
def atIx (xs : List V) (ix : List Nat) : List V := ix.map fun i => xs.getD i .non
/-- a new tuple a turn -/
def Itx (xs : List V) (L : List (List Nat)) : It :=
  ⟨fun t _ => t < L.length, fun t H v H' => ∃ T ix, v = .ref T ∧ H T = none ∧ L[t]? = some ix ∧ H' = upd H T (.tup (atIx xs ix)), fun t _ => L.length ≤ t⟩
theorem walk_comb {xs : List V} {L : List (List Nat)} : Walk (Itx xs L) L.length (fun _ => True) (fun t H v H' => ∃ T ix, v = .ref T ∧ H T = none ∧ L[t]? = some ix ∧ H' = upd H T (.tup (atIx xs ix))) :=
  ⟨fun _ _ hi _ => hi, fun _ _ => Nat.le_refl _, fun _ _ _ _ _ _ y => y⟩
def Stands (it pool : Addr) (its : List Value) (n : Nat) (L : List (List Nat)) (t : Nat) (h : Heap) : Prop :=
  (∃ st res ix, h.get? it = some (combO pool st res ix) ∧ Ahead n st ix (L[t]?)) ∧ h.get? pool = some { cls := .type "tuple", data := .seq its.toArray }
theorem vals_atIx {xs : List V} {its : List Value} (r : Vals xs its) : ∀ {ix : List Nat}, (∀ i ∈ ix, i < xs.length) → Vals (atIx xs ix) (ix.map fun i => its.toArray.getD i .none)
  | [], _ => .nil
  | i :: ix, h => by
    have lt := h i List.mem_cons_self
    obtain ⟨u, hu, ru⟩ := r.get (i := i) (x := xs[i]) (List.getElem?_eq_getElem lt)
    have e1 : xs.getD i .non = xs[i] := by simp [lt]
    have e2 : its.toArray.getD i .none = u := by
      rw [Array.getD_eq_getD_getElem?]
      have e3 : its.toArray[i]? = some u := by simpa using hu
      rw [e3]
      rfl
    refine .cons ?_ (vals_atIx r fun j hj => h j (List.mem_cons_of_mem _ hj))
    show RelV (xs.getD i .non) (its.toArray.getD i .none)
    rw [e1, e2]
    exact ru
theorem turn_comb {P : Program} {w : World} {K : PySem.W.Frag} {tg : Expr} {it pool : Addr} {xs : List V} {its : List Value} {r : Nat} {L : List (List Nat)} (rv : Vals xs its) (ne : pool ≠ it) (G : Goes xs.length r L) (hr : r ≤ 100) :
    Turn P w K tg (Itx xs L) [it, pool] it (Stands it pool its xs.length L) where
  mem := by simp
  obj := fun t h st c hc => by
    obtain ⟨⟨s, res, ix, hi, _⟩, hp⟩ := st
    have e' : c = it ∨ c = pool := by simpa using hc
    rcases e' with q | q
    · rw [q]
      exact ⟨_, hi, fun v z => nomatch z⟩
    · rw [q]
      exact ⟨_, hp, fun v z => nomatch z⟩
  keep := fun t h h' st k => by
    obtain ⟨⟨s, res, ix, hi, a⟩, hp⟩ := st
    exact ⟨⟨s, res, ix, k it (by simp) _ hi, a⟩, k pool (by simp) _ hp⟩
  item := by
    intro X hP hw hK hc t pins s σ H E I hf st hg
    subst hP hw hK
    obtain ⟨⟨st0, res, ix, hi, a⟩, hp⟩ := st
    have lt : t < L.length := hg
    have ej : L[t]? = some L[t] := List.getElem?_eq_getElem lt
    rw [ej] at a
    obtain ⟨len, bd⟩ := G.len _ (List.getElem_mem lt)
    generalize L[t] = jx at ej a len bd
    have hz : its.toArray.size = xs.length := by rw [List.size_toArray, ← rv.length]
    refine comb_item hi ⟨_, _, hp, rfl⟩ ne hz a (by omega) fun h' g1 g2 k z => ⟨_, rfl, ?_⟩
    refine go_of (s := { s with heap := h' }) g2 rfl rfl (by decide) ?_
    have new : ObjOk X.prog X.w (upd H s.heap.objs.size (.tup (atIx xs jx))) h' s.heap.objs.size (.tup (atIx xs jx)) := by
      refine ⟨?_, _, vals_atIx rv bd, ⟨_, g1, rfl, _, rfl⟩⟩
      show (atIx xs jx).length ≤ sizeLine
      unfold atIx
      rw [List.length_map, sizeLine_eq]
      omega
    have I1 : Inv X pins σ (upd H s.heap.objs.size (.tup (atIx xs jx))) { s with heap := h' } :=
      I.turnedNew (t' := s.toks) (ch := [it, pool]) (fun c o hb q => k c o (fun q' => hb (by simp [q'])) q) hf (Nat.le_refl _) new
    refine ⟨.ref s.heap.objs.size, _, I1, rfl, ⟨_, jx, rfl, I.hok.fresh (Nat.le_refl _), ej, rfl⟩, ⟨⟨1, _, jx, g2, .inr (.inl ⟨rfl, ?_⟩)⟩, k _ _ ne hp⟩, fun c hcm => ?_⟩
    · exact (G.next t jx ej).symm
    · have hcn := (hf c hcm).1
      have : c ≠ s.heap.objs.size := fun q => by
        have e' : c = it ∨ c = pool := by simpa using hcm
        rcases e' with y | y
        · rw [← y, q] at hi
          exact absurd (Heap.lt_size hi) (Nat.lt_irrefl _)
        · rw [← y, q] at hp
          exact absurd (Heap.lt_size hp) (Nat.lt_irrefl _)
      rw [upd_ne this]
      exact hcn
  done := by
    intro X hP hw hK hc t pins s σ H E I hf st hg
    subst hP hw hK
    obtain ⟨⟨st0, res, ix, hi, a⟩, hp⟩ := st
    have ge : L.length ≤ t := hg
    rw [List.getElem?_eq_none ge] at a
    have hz : its.toArray.size = xs.length := by rw [List.size_toArray, ← rv.length]
    refine comb_end (I.ok.hd hc) hi ⟨_, _, hp, rfl⟩ hz a fun h' k => ⟨rfl, ?_⟩
    obtain ⟨f0, f1, f2, f3, f4, f5⟩ := hf it (by simp)
    exact I.turned (t' := s.toks) k f0 f1 f3 f4 f5
  self := fun A t s Q E st h => by
    obtain ⟨⟨s0, res, ix, hi, _⟩, _⟩ := st
    exact comb_self hi h
end Kc
end
section
set_option maxRecDepth 100000
set_option maxHeartbeats 4000000
namespace Kc
open PySem PySem.Spec PyProof.Rows L2
/-- the tuples told so far -/
def Told (xs : List V) (L : List (List Nat)) (H0 H : Hp) (Ts : List Addr) : Prop := (∀ T ∈ Ts, H0 T = none) ∧ Ts.Nodup ∧ ∀ (j : Nat) T, Ts[j]? = some T → ∃ ix, L[j]? = some ix ∧ H T = some (.tup (atIx xs ix))
section
variable {X : Cx} {pins : List (Addr × Obj)} {σ : L2.St} {A1 : Around}
theorem comb_loop {it pool q : Addr} {xs : List V} {its : List Value} {r : Nat} {L : List (List Nat)} {H0 : Hp} {Rs : Result → Shared → Prop} (hh : A1.handled = none) (rv : Vals xs its) (ne : pool ≠ it) (nq : q ≠ it) (np : q ≠ pool) (G : Goes xs.length r L) (hr : r ≤ 100) (hL : L.length ≤ 4000) (n0 : H0 q = none)
    (done : ∀ Ts H s, Inv X pins σ H s → H q = some (.lst (Ts.map V.ref)) → Ts.length = L.length → Told xs L H0 H Ts → (∀ b o, H0 b = some o → H b = some o) → Rs (.ok (.ret .none)) s) :
    ∀ (m t : Nat) (Ts : List Addr) (H : Hp) (s : Shared), L.length - t = m → t ≤ L.length → Ts.length = t → Inv X pins σ H s → H q = some (.lst (Ts.map V.ref)) → Told xs L H0 H Ts → (∀ b o, H0 b = some o → H b = some o) →
      (∀ b ∈ [it, pool], FpOk X pins H b) → Stands it pool its xs.length L t s.heap → codeAny (model X.prog X.w) A1 (.builtin "list.extend.loop" ⟨[.ref q, .ref it, .none], []⟩) Rs s := by
  intro m
  induction m with
  | zero =>
    intro t Ts H s em ht el I hq td kp hf st
    obtain ⟨⟨st0, res, ix, hi, a⟩, hp⟩ := st
    rw [List.getElem?_eq_none (by omega)] at a
    have hz : its.toArray.size = xs.length := by rw [List.size_toArray, ← rv.length]
    refine codeAny_builtin PySem.F.entry_extend_loop ?_
    rw [Around.under_plainId PySem.F.plain_extend_loop _]
    show wpAny _ A1.in1 (pyNext (.ref it) >>= _) _ _ s
    refine wpAny_bind (comb_end (by simp [hh]) hi ⟨_, _, hp, rfl⟩ hz a fun h' k => ?_)
    obtain ⟨f0, f1, f2, f3, f4, f5⟩ := hf it (by simp)
    exact wpAny_pure (done Ts H _ (I.turned (t' := s.toks) k f0 f1 f3 f4 f5) hq (by omega) td kp)
  | succ m ih =>
    intro t Ts H s em ht el I hq td kp hf st
    obtain ⟨⟨st0, res, ix, hi, a⟩, hp⟩ := st
    have lt : t < L.length := by omega
    have ej : L[t]? = some L[t] := List.getElem?_eq_getElem lt
    rw [ej] at a
    obtain ⟨len, bd⟩ := G.len _ (List.getElem_mem lt)
    generalize L[t] = jx at ej a len bd
    have hz : its.toArray.size = xs.length := by rw [List.size_toArray, ← rv.length]
    refine codeAny_builtin PySem.F.entry_extend_loop ?_
    rw [Around.under_plainId PySem.F.plain_extend_loop _]
    show wpAny _ A1.in1 (pyNext (.ref it) >>= _) _ _ s
    refine wpAny_bind (comb_item hi ⟨_, _, hp, rfl⟩ ne hz a (by omega) fun h' g1 g2 k z => ?_)
    have itl : it < s.heap.objs.size := Heap.lt_size hi
    have pol : pool < s.heap.objs.size := Heap.lt_size hp
    have new : ObjOk X.prog X.w (upd H s.heap.objs.size (.tup (atIx xs jx))) h' s.heap.objs.size (.tup (atIx xs jx)) := by
      refine ⟨?_, _, vals_atIx rv bd, ⟨_, g1, rfl, _, rfl⟩⟩
      show (atIx xs jx).length ≤ sizeLine
      unfold atIx
      rw [List.length_map, sizeLine_eq]
      omega
    have fr : H s.heap.objs.size = none := I.hok.fresh (Nat.le_refl _)
    have I1 : Inv X pins σ (upd H s.heap.objs.size (.tup (atIx xs jx))) { s with heap := h' } :=
      I.turnedNew (t' := s.toks) (ch := [it, pool]) (fun c o hb q => k c o (fun q' => hb (by simp [q'])) q) hf (Nat.le_refl _) new
    have qn : q ≠ s.heap.objs.size := ne_of_none hq fr
    have hq1 : upd H s.heap.objs.size (.tup (atIx xs jx)) q = some (.lst (Ts.map V.ref)) := by rw [upd_ne qn]; exact hq
    show wpAny _ A1.in1 (updateSeq q (·.push (.ref s.heap.objs.size)) >>= _) _ _ _
    obtain ⟨zz, its1, kk, r2, hl, e⟩ := I1.lstM hq1
    have lts : its1.length = Ts.length := by rw [← r2.length, List.length_map]
    refine wpAny_bind (wpAny_updateSeq e rfl (wpAny_pure ⟨plainId_quiet PySem.F.plain_extend_loop _, ?_⟩) (by rw [List.size_toArray, sizeLine_eq]; omega) (by show (its1.toArray.push _).size ≤ sizeLine + 1; rw [Array.size_push, List.size_toArray, sizeLine_eq]; omega))
    have I2 := I1.lset (f := (·.push (Value.ref s.heap.objs.size))) (its' := its1 ++ [Value.ref s.heap.objs.size]) (ys := (Ts ++ [s.heap.objs.size]).map V.ref) (t' := s.toks) hq1 e (by simp) (by
      rw [List.map_append]
      exact r2.append (.cons rfl .nil)) (by rw [List.length_map, List.length_append, List.length_singleton, sizeLine_eq]; omega)
    refine ih (t + 1) (Ts ++ [s.heap.objs.size]) _ _ (by omega) lt (by rw [List.length_append, List.length_singleton]; omega) I2 upd_same ?_ ?_ ?_ ?_
    · have n0' : H0 s.heap.objs.size = none := by
        cases e0 : H0 s.heap.objs.size with
        | none => rfl
        | some o =>
          rw [kp _ _ e0] at fr
          cases fr
      obtain ⟨t1, t2, t3⟩ := td
      have nin : s.heap.objs.size ∉ Ts := fun hm => by
        obtain ⟨j, hj, ej'⟩ := List.getElem_of_mem hm
        obtain ⟨_, _, h3⟩ := t3 j _ (by rw [List.getElem?_eq_getElem hj, ej'])
        rw [fr] at h3
        cases h3
      refine ⟨fun T hT => ?_, ?_, fun j T hT => ?_⟩
      · rcases List.mem_append.mp hT with hT | hT
        · exact t1 T hT
        · rw [List.mem_singleton.mp hT]
          exact n0'
      · rw [List.nodup_append]
        exact ⟨t2, by simp, fun x hx y hy => by
          rw [List.mem_singleton.mp hy]
          rintro rfl
          exact nin hx⟩
      · by_cases c : j < Ts.length
        · rw [List.getElem?_append_left c] at hT
          obtain ⟨ix', a1, a2⟩ := t3 j T hT
          have Tq : T ≠ q := fun z => by
            rw [z, hq] at a2
            cases a2
          exact ⟨ix', a1, by rw [upd_ne Tq, upd_ne (ne_of_none a2 fr)]; exact a2⟩
        · rw [List.getElem?_append_right (by omega)] at hT
          have ej' : j = t := by
            have := (List.getElem?_eq_some_iff.mp hT).1
            rw [List.length_singleton] at this
            omega
          subst ej'
          rw [show Ts.length = j by omega] at hT
          have eT : T = s.heap.objs.size := by simpa using hT.symm
          rw [eT]
          exact ⟨jx, ej, by rw [upd_ne (Ne.symm qn), upd_same]⟩
    · intro b o e0
      have bq : b ≠ q := fun z => by
        rw [z, n0] at e0
        cases e0
      rw [upd_ne bq, upd_ne (ne_of_none (kp b o e0) fr)]
      exact kp b o e0
    · intro b hb
      obtain ⟨f0, f1⟩ := hf b hb
      have b1 : b ≠ q := fun z => by
        have e' : b = it ∨ b = pool := by simpa using hb
        rcases e' with y | y
        · exact nq (z.symm.trans y)
        · exact np (z.symm.trans y)
      have b2 : b ≠ s.heap.objs.size := fun z => by
        have e' : b = it ∨ b = pool := by simpa using hb
        rcases e' with y | y
        · exact Nat.ne_of_lt itl (y.symm.trans z)
        · exact Nat.ne_of_lt pol (y.symm.trans z)
      exact ⟨by rw [upd_ne b1, upd_ne b2]; exact f0, f1⟩
    · refine ⟨⟨1, .ref s.heap.objs.size, jx, ?_, .inr (.inl ⟨rfl, (G.next t jx ej).symm⟩)⟩, ?_⟩
      · exact (Heap.get?_update_other _ _ nq).trans g2
      · exact (Heap.get?_update_other _ _ np).trans (k _ _ ne hp)
end
end Kc
end
section
set_option maxRecDepth 100000
set_option maxHeartbeats 4000000
namespace Kc
open PySem PySem.Spec PyProof.Rows L2
section
variable {X : Cx} {pins : List (Addr × Obj)} {σ : L2.St} {H : Hp} {s : Shared}
theorem hint_c {M : Model} {A : Around} {E : Value → Shared → Prop} {it : Addr} {Q : Bool → Shared → Prop} (hT : s.TypeIs (.ref it) TC) (h : Q true s) : wpAny M A (Builtin.List.listLengthHint (.ref it)) Q E s := by
  unfold Builtin.List.listLengthHint
  refine wpAny_bind (wpAny_specialOf hT noLen_c ?_)
  refine PySem.W.KFB.if_not rfl ?_
  refine PySem.W.KFB.if_not rfl ?_
  refine wpAny_bind (wpAny_specialOf hT noHint_c ?_)
  exact wpAny_pure h
theorem list_comb {it pool : Addr} {xs : List V} {its : List Value} {r : Nat} {L : List (List Nat)} {Q : VK} (hc : X.calm = true) (I : Inv X pins σ H s) (rv : Vals xs its) (ne : pool ≠ it) (G : Goes xs.length r L) (hr : r ≤ 100) (hL : L.length ≤ 4000)
    (hf : ∀ b ∈ [it, pool], FpOk X pins H b) (st : Stands it pool its xs.length L 0 s.heap)
    (done : ∀ (H2 : Hp) (D : Addr) (Ts : List Addr), Same H H2 → H D = none → H2 D = some (.lst (Ts.map V.ref)) → Told xs L H H2 Ts → Ts.length = L.length → Q (.ref D) H2) :
    wpAny (model X.prog X.w) X.A (call (.type "list") [.ref it]) (EP X pins σ Q) X.xe s := by
  refine callType_codes (Q₁ := fun r1 s1 => r1 = .ref s.heap.objs.size ∧ s1 = { s with heap := s.heap.push { cls := .type "list", data := .seq #[] } }) PySem.F.called_list (PySem.F.typeCall_list_1 _) PySem.F.entry_list_init
    (code_list_new _ ⟨rfl, rfl⟩) fun r1 s1 h1 => ?_
  obtain ⟨rfl, rfl⟩ := h1
  have hS : (s.heap.push { cls := .type "list", data := .seq #[] }).get? s.heap.objs.size = some { cls := .type "list", data := .seq #[] } := Heap.get?_push_size _ rfl
  refine ⟨⟨_, hS, rfl⟩, PySem.F.args_list_init_2 _ _, ?_⟩
  have fr : H s.heap.objs.size = none := I.hok.fresh (Nat.le_refl _)
  have I1 : Inv X pins σ (upd H s.heap.objs.size (.lst [])) { s with heap := s.heap.push { cls := .type "list", data := .seq #[] } } := I.lnew (its := []) (t' := s.toks) .nil (Nat.zero_le _)
  obtain ⟨⟨st0, res, ix, hi, a⟩, hp⟩ := st
  have itl : it < s.heap.objs.size := Heap.lt_size hi
  have pol : pool < s.heap.objs.size := Heap.lt_size hp
  have nq : s.heap.objs.size ≠ it := Nat.ne_of_gt itl
  have np : s.heap.objs.size ≠ pool := Nat.ne_of_gt pol
  show wpAny _ _ (do let old ← Builtin.List.listItems (.ref s.heap.objs.size); Builtin.List.listUpdate (.ref s.heap.objs.size) (fun _ => #[]); letGo old.toList.reverse; Builtin.List.listExtendWith (.ref s.heap.objs.size) (.ref it) .none) _ _ _
  refine wpAny_bind ?_
  unfold Builtin.List.listItems
  refine wpAny_bind (wpAny_seqItems hS rfl (wpAny_pure ?_))
  show wpAny _ _ (updateSeq s.heap.objs.size (fun _ => #[]) >>= fun _ => letGo (#[] : Array Value).toList.reverse >>= fun _ => Builtin.List.listExtendWith (.ref s.heap.objs.size) (.ref it) .none) _ _ _
  refine wpAny_bind (wpAny_updateSeq hS rfl ?_)
  have I2 := I1.lset (f := fun _ => #[]) (its := []) (its' := []) (ys := []) (t' := s.toks) upd_same hS rfl .nil (Nat.zero_le _)
  rw [upd_upd] at I2
  refine wpAny_bind (wpAny_letGo ?_)
  have g1 : ((s.heap.push { cls := .type "list", data := .seq #[] }).update s.heap.objs.size (Obj.mapSeq fun _ => (#[] : Array Value))).get? it = some (combO pool st0 res ix) := (Heap.get?_update_other _ _ nq).trans (Heap.get?_push_of_some _ hi)
  have g2 : ((s.heap.push { cls := .type "list", data := .seq #[] }).update s.heap.objs.size (Obj.mapSeq fun _ => (#[] : Array Value))).get? pool = some { cls := .type "tuple", data := .seq its.toArray } := (Heap.get?_update_other _ _ np).trans (Heap.get?_push_of_some _ hp)
  generalize (s.heap.push { cls := .type "list", data := .seq #[] }).update s.heap.objs.size (Obj.mapSeq fun _ => (#[] : Array Value)) = h2 at I2 g1 g2 ⊢
  have hT : Shared.TypeIs { s with heap := h2, toks := s.toks } (.ref it) TC := ⟨_, g1, rfl⟩
  unfold Builtin.List.listExtendWith
  refine wpAny_bind (wpAny_typeOf hT ?_)
  have h1 : Builtin.List.listSameRef (.ref s.heap.objs.size) (.ref it) = false := by simp [Builtin.List.listSameRef, nq]
  have h3 : (Value.type TC == Value.type "list") = false := by decide
  have h4 : (Value.type TC == Value.type "tuple") = false := by decide
  simp only [h1, h3, h4, Bool.or_false, Bool.false_eq_true, if_false]
  refine wpAny_bind (comb_self g1 ?_)
  refine wpAny_bind (wpAny_holding (hint_c hT ?_))
  have fp2 : ∀ b ∈ [it, pool], FpOk X pins (upd H s.heap.objs.size (.lst [])) b := fun b hb => by
    obtain ⟨f0, f1⟩ := hf b hb
    have b1 : b ≠ s.heap.objs.size := fun z => by
      have e' : b = it ∨ b = pool := by simpa using hb
      rcases e' with y | y
      · exact nq (z.symm.trans y)
      · exact np (z.symm.trans y)
    exact ⟨by rw [upd_ne b1]; exact f0, f1⟩
  have kp0 : ∀ b o, H b = some o → upd H s.heap.objs.size (.lst []) b = some o := fun b o e => by
    rw [upd_ne (ne_of_none e fr)]
    exact e
  have fin : ∀ {h3 : Heap}, Inv X pins σ (upd H s.heap.objs.size (.lst [])) { s with heap := h3, toks := s.toks } → Stands it pool its xs.length L 0 h3 →
      codeAny (model X.prog X.w) X.A.in1 (.builtin "list.extend.loop" ⟨[.ref s.heap.objs.size, .ref it, .none], []⟩) (wants (fun r s₂ => r = .none ∧ EP X pins σ Q (.ref s.heap.objs.size) s₂) X.xe) { s with heap := h3, toks := s.toks } := fun {h3} I3 st3 => by
    refine comb_loop (q := s.heap.objs.size) (H0 := H) (by simp [I.ok.hd hc]) rv ne nq np G hr hL fr (fun Ts H2 s2 J hq lt td kp => ?_) (L.length - 0) 0 [] _ _ rfl (Nat.zero_le _) rfl I3 upd_same ⟨(fun T hT => nomatch hT), List.nodup_nil, (fun j T hT => by simp at hT)⟩ kp0 fp2 st3
    exact ⟨rfl, .ref s.heap.objs.size, H2, J, rfl, done H2 _ Ts kp fr hq td lt⟩
  refine wpAny_ite_split (fun _ => ?_) (fun z => absurd rfl z)
  refine wpAny_bind (wpAny_rule ?_)
  refine wpAny_bind ?_
  show wpAny _ _ (updateSeq s.heap.objs.size (·.push .none) >>= fun _ => updateSeq s.heap.objs.size (·.pop)) _ _ _
  obtain ⟨z, its3, k, r3, hl3, e3⟩ := I2.lstM upd_same
  cases r3
  refine wpAny_bind (wpAny_updateSeq e3 rfl ?_)
  have I3 := I2.lset (f := (·.push Value.none)) (its' := [Value.none]) (ys := [.non]) (t' := s.toks) upd_same e3 (by simp) (.cons rfl .nil) (by rw [List.length_singleton, sizeLine_eq]; decide)
  obtain ⟨z4, its4, k4, r4, hl4, e4⟩ := I3.lstM upd_same
  obtain ⟨u4, rfl, ru4⟩ := r4.one
  refine wpAny_updateSeq e4 rfl ?_ (by show 1 ≤ sizeLine; rw [sizeLine_eq]; decide) (by show 0 ≤ sizeLine + 1; exact Nat.zero_le _)
  have I4 := I3.lset (f := (·.pop)) (its := [u4]) (its' := []) (ys := []) (t' := s.toks) upd_same e4 (by rfl) .nil (Nat.zero_le _)
  rw [upd_upd, upd_upd] at I4
  refine wpAny_pure ⟨plainId_quiet PySem.F.plain_extend_loop _, fin I4 ⟨⟨st0, res, ix, ?_, a⟩, ?_⟩⟩
  · exact (Heap.get?_update_other _ _ nq).trans ((Heap.get?_update_other _ _ nq).trans g1)
  · exact (Heap.get?_update_other _ _ np).trans ((Heap.get?_update_other _ _ np).trans g2)
end
end Kc
end
section
set_option maxRecDepth 100000
set_option maxHeartbeats 4000000
namespace Kc
open PySem PySem.Spec PyProof.Rows L2
theorem goesR {r n : Nat} (hr : r = 2 ∨ r = 3) (h : n ≤ 12) : Goes n r (ixsR r n) := by
  rcases hr with rfl | rfl
  · exact goes2 h
  · exact goes3 h
theorem all_len : ((List.range 13).all fun n => decide ((ixs2 n).length ≤ 4000) && decide ((ixs3 n).length ≤ 4000)) = true := by decide +kernel
theorem lenR {r n : Nat} (hr : r = 2 ∨ r = 3) (h : n ≤ 12) : (ixsR r n).length ≤ 4000 := by
  have q := List.all_eq_true.mp all_len n (List.mem_range.mpr (by omega))
  rw [Bool.and_eq_true] at q
  rcases hr with rfl | rfl
  · exact of_decide_eq_true q.1
  · exact of_decide_eq_true q.2
/-- what combinations(xs, r) asks -/
def rComb (K : PySem.W.Frag) (vs : List V) (H : Hp) (F : List V → Nat → Prop) : Prop := ∃ (a : Addr) (xs : List V) (r : Nat), vs = [.ref a, .int r] ∧ SqL K H a xs ∧ xs.length ≤ 12 ∧ (r = 2 ∨ r = 3) ∧ F xs r
def iComb (K : PySem.W.Frag) (ta : TA) : TI := fun σ H R => ta σ H fun vs H1 => rComb K vs H1 fun xs r => R (Itx xs (ixsR r xs.length)) H1
def tListComb (K : PySem.W.Frag) (ta : TA) : TE := fun σ H Q => ta σ H fun vs H1 => rComb K vs H1 fun xs r => ∀ (H2 : Hp) (D : Addr) (Ts : List Addr), Same H1 H2 → H1 D = none → H2 D = some (.lst (Ts.map V.ref)) →
  Told xs (ixsR r xs.length) H1 H2 Ts → Ts.length = (ixsR r xs.length).length → Q (.ref D) H2
section
variable {X : Cx} {pins : List (Addr × Obj)} {σ : L2.St} {H : Hp} {s : Shared}
/-- the iterator is made -/
theorem made_comb {vs : List V} {us : List Value} {F : List V → Nat → Prop} {Q : Value → Shared → Prop} (I : Inv X pins σ H s) (rv : Vals vs us) (h : rComb X.K vs H F)
    (q : ∀ (it pool : Addr) (xs : List V) (its : List Value) (r : Nat) (h' : Heap), F xs r → xs.length ≤ 12 → (r = 2 ∨ r = 3) → Vals xs its → pool ≠ it → Inv X pins σ H { s with heap := h' } → (∀ b ∈ [it, pool], FpOk X pins H b) → Stands it pool its xs.length (ixsR r xs.length) 0 h' → Q (.ref it) { s with heap := h' }) :
    wpAny (model X.prog X.w) X.A (call (.type TC) us) Q X.xe s := by
  obtain ⟨a, xs, r, rfl, hs, few, hr, f⟩ := h
  obtain ⟨u1, u2, rfl, r1, r2⟩ := vals2 rv
  obtain rfl : u1 = Value.ref a := r1
  obtain ⟨t, rfl⟩ := r2
  obtain ⟨its, rx, pl, _⟩ := I.list hs
  have len := rx.length
  refine call_comb pl.isList (by omega) (by rcases hr with e | e <;> omega) fun h' g1 g2 k => ?_
  have G := goesR (n := xs.length) hr few
  have I2 : Inv X pins σ H { s with heap := h' } := I.kept (t' := s.toks) k
  refine q _ _ xs its r h' f few hr rx (Nat.ne_of_lt (Nat.lt_succ_self _)) I2 (fun b hb => ?_) ⟨⟨_, _, _, g1, ?_⟩, g2⟩
  · have e' : b = s.heap.objs.size + 2 ∨ b = s.heap.objs.size + 1 := by simpa using hb
    have le : s.heap.objs.size ≤ b := by
      rcases e' with z | z
      · rw [z]
        exact Nat.le_add_right _ _
      · rw [z]
        exact Nat.le_add_right _ _
    exact I.fpOk le (I.hok.fresh le)
  · by_cases c : r > its.length
    · refine .inr (.inr ⟨by simp [c], ?_⟩)
      rw [G.start, if_pos (by omega)]
    · refine .inl ⟨by simp [c], ?_⟩
      rw [G.start, if_neg (by omega)]
/-- for .. in combinations(xs, r) -/
theorem pi_comb {tg e e2 : Expr} {ta : TA} {p pos : Pos} (hg : Gl X "combinations") (hm : X.mg "combinations" = some (.type TC)) (ha : PA X [e, e2] ta) (hs : starEach [e, e2] X.env = (false, eval e X.env) :: starEach [e2] X.env := by rfl)
    (hpl : (backTo pos (starEach [e2] X.env)).any (·.1) = false := by rfl) : PI X tg (.Call (.Name "combinations" p) [e, e2] [] pos) (iComb X.K ta) := by
  refine ⟨fun pins s σ H R I h => ?_⟩
  refine Call_ (ld_glob I hg hm (PyProof.Rows.callWith_type1 (thn (ha.run pos pins s σ H _ I h) fun us s1 ⟨vs, H1, I1, r1, q1⟩ => ?_) hs hpl))
  refine made_comb I1 r1 q1 fun it pool xs its r h' f few hr rx ne I2 hf st => ?_
  obtain ⟨⟨st0, res, ix, hi, a⟩, hp⟩ := id st
  exact comb_self hi ⟨it, [it, pool], _, _, H1, rfl, I2, turn_comb rx ne (goesR hr few) (by rcases hr with e | e <;> omega), st, hf, f⟩
/-- list(combinations(xs, r)) -/
theorem pe_listComb {e e2 : Expr} {ta : TA} {p p2 pos pos2 : Pos} (hc : X.calm = true) (hg : Gl X "list") (hm : X.mg "list" = none) (hg2 : Gl X "combinations") (hm2 : X.mg "combinations" = some (.type TC)) (ha : PA X [e, e2] ta)
    (hs : starEach [e, e2] X.env = (false, eval e X.env) :: starEach [e2] X.env := by rfl) (hpl : (backTo pos2 (starEach [e2] X.env)).any (·.1) = false := by rfl) :
    PE X (.Call (.Name "list" p) [.Call (.Name "combinations" p2) [e, e2] [] pos2] [] pos) (tListComb X.K ta) := by
  refine ⟨fun pins s σ H Q I h => ?_⟩
  refine Call_ (ld_blt I hg hm PyProof.Rows.boot_list ?_)
  refine PyProof.Rows.callWith_type1 (PyProof.Rows.args_cons ?_ rfl) rfl rfl
  refine Call_ (ld_glob I hg2 hm2 (PyProof.Rows.callWith_type1 (thn (ha.run pos2 pins s σ H _ I h) fun us s1 ⟨vs, H1, I1, r1, q1⟩ => ?_) hs hpl))
  refine made_comb I1 r1 q1 fun it pool xs its r h' f few hr rx ne I2 hf st => PyProof.Rows.args_nil ?_
  exact list_comb hc I2 rx ne (goesR hr few) (by rcases hr with e | e <;> omega) (lenR hr few) hf st fun H2 D Ts a b c d e => f H2 D Ts a b c d e
end
end Kc
end
section
set_option maxRecDepth 100000
set_option maxHeartbeats 4000000
namespace Wd
open PySem L2
theorem ite_f {c : Bool} {A B : Prop} (hc : c = false) (h : B) : if c = true then A else B := by
  subst hc
  exact iteF h
theorem ite_t {c : Bool} {A B : Prop} (hc : c = true) (h : A) : if c = true then A else B := by
  subst hc
  exact iteT h
/-- isinstance of a thing of a built-in type -/
theorem isW_lt {x : Str} (h : IsW x) (i : Nat) (c : Nat) (hc : x.cps[i]? = some c) : 97 ≤ c ∧ c ≤ 122 := h.2.2 c (by
  rw [← Array.getElem?_toList] at hc
  exact List.mem_of_getElem? hc)
theorem le_sign {a b : Nat} (h : a ≤ b) : (!decide ((⟨#[b]⟩ : Str).cps.toList < (⟨#[a]⟩ : Str).cps.toList)) = true := by
  rw [Bool.not_eq_true', decide_eq_false_iff_not]
  show ¬ ([b] < [a])
  intro z
  rcases List.cons_lt_cons_iff.mp z with q | q
  · omega
  · exact absurd q.2 (by simp)
def spIsWord : Sp := fun vs H Q _ => ∃ x : Str, vs = [.str x] ∧ IsW x ∧ ∀ H', Same H H' → Q (.bl true) H'
/-- a list of texts, none twice; or of pairs -/
def spUnlike (K : PySem.W.Frag) : Sp := fun vs H Q _ => ∃ (l : Addr), vs = [.ref l] ∧ ((∃ xs : List Str, SqL K H l (xs.map V.str) ∧ xs.length < 4000 ∧ xs.Nodup) ∨
  ∃ (Ts : List Addr) (ps : List Pr), SqL K H l (Ts.map V.ref) ∧ Tups H Ts (ps.map tv) ∧ ps.length < 64 ∧ ps.Nodup) ∧ Q (.bl true) H
section
variable {P : Program} {w : World} {K : PySem.W.Frag} {mg : Str → Option Value} {base : Heap}
theorem ok_is_word {f : Addr} {fd : FuncData} (F : Fun K "is_word" "is_word" sp_is_word f fd) (T : Bt mg) (mL : ∃ t, mg "LONGEST_WORD" = some (.int 8 t)) : FnOk P w K mg base CX0 1 f fd ["value"] spIsWord := by
  obtain ⟨t8, mL⟩ := mL
  refine F.ok cp_is_word (fun vs H Q E h => ?_) (fun cdv A outer s H vs Q E hr h => ?_)
  · obtain ⟨_, rfl, _⟩ := h
    rfl
  · obtain ⟨x, rfl, hx, k⟩ := h
    refine ⟨_, pss_cons (ps_if (PW.pt (pw_or (pt_not (pt_val (pe_callB call_isi (by rfl) T.isi (by decide +kernel) (pa_cons (pv 0) (pa_cons (pe_bltn (v := .ty "str") (by rfl) T.str (by decide +kernel) rfl) pa_nil)))))
        (pw_or1 (pt_cmpR op_gt (pe_callB call_len_str (by rfl) T.len PySem.boot_len (pa_cons (pv 0) pa_nil)) (pe_glob (v := .int 8) rfl mL ⟨_, rfl⟩) (nomark _))))) (pss_one (ps_ret pe_bl)) pss_nil)
      (pss_one (ps_ret (pe_and (pe_cmpR op_gt (pe_callB call_len_str (by rfl) T.len PySem.boot_len (pa_cons (pv 0) pa_nil)) pe_int (nomark _))
        (pe_one (pe_callB (cr_all rfl) (by rfl) T.all (by decide +kernel) (pa_cons (pe_lc (own := [("letter", 1)]) (g := gName 1) (tt := tYes) rfl cp_is_word.nd (pi_str (pv 0))
          (blkOk_by (N := ["value", "letter"]) (sc := defScope sp_is_word) (by decide +kernel)) (fun _ _ _ _ _ => pg_name (i := 1) cp_is_word.nd rfl (Or.inl rfl)) (fun _ _ _ _ _ => pts_nil)
          (fun _ _ _ _ _ => pe_chain op_le_str op_le_str pe_str (pv 1) pe_str)) pa_nil)))))), ?_⟩
    have l8 : x.length ≤ 8 := hx.2.1
    have l1 : 1 ≤ x.length := hx.1
    refine ⟨_, rfl, _, _, _, _, _, rfl, .ty "str", .base (.str x), kit_ty (a := "str") (r := true) (by decide +kernel), _, rfl, ?_⟩
    refine iteF ?_
    refine ⟨_, rfl, _, rfl, by rw [sizeLine_eq]; omega, _, _, rfl, rfl, _, rfl, ?_⟩
    refine ite_f (decide_eq_false (by omega)) ?_
    refine ⟨_, rfl, _, rfl, by rw [sizeLine_eq]; omega, _, _, rfl, rfl, _, rfl, ?_⟩
    refine ite_t (decide_eq_true (by omega)) ?_
    refine ⟨_, rfl, _, rfl, fun D hD => ?_⟩
    refine lc_it walk_str (fun i H' => H' = upd H D (.lst ((List.replicate i true).map V.bl))) rfl (fun _ _ _ _ => True.intro) ?_ ?_
    · rintro i v H1 H' hi rfl ⟨rfl, c, hc, rfl⟩
      have hb := isW_lt hx i c hc
      refine ⟨rfl, _, rfl, _, _, rfl, rfl, _, rfl, ?_⟩
      refine ite_t (le_sign hb.1) ?_
      refine ⟨_, _, rfl, rfl, _, upd_same, by rw [List.length_map, List.length_replicate, sizeLine_eq]; have : x.cps.size = x.length := rfl; omega, ?_⟩
      rw [upd_upd]
      refine congrArg (fun l => upd H D (.lst l)) ?_
      rw [List.replicate_succ', List.map_append]
      refine congrArg (fun b => (List.replicate i true).map V.bl ++ [V.bl b]) ?_
      exact le_sign hb.2
    · rintro H' rfl
      refine ⟨D, _, rfl, SqL.of upd_same, ?_⟩
      have e : (List.replicate x.cps.size true).all id = true := by simp
      rw [e]
      exact k _ (same_new hD)
theorem ok_unlike {f : Addr} {fd : FuncData} (F : Fun K "are_unlike" "are_unlike" sp_are_unlike f fd) (T : Bt mg) : FnOk P w K mg base CX0 1 f fd ["things"] (spUnlike K) := by
  refine F.ok cp_are_unlike (fun vs H Q E h => ?_) (fun cdv A outer s H vs Q E hr h => ?_)
  · obtain ⟨_, rfl, _⟩ := h
    rfl
  · obtain ⟨l, rfl, hx, k⟩ := h
    refine ⟨_, pss_one (ps_ret (pe_cmpR op_eq (Kx.pe_lenU rfl hr.units (by rfl) T.len (by rfl) T.set (pv 0)) (pe_callB call_len_seq (by rfl) T.len PySem.boot_len (pa_cons (pv 0) pa_nil)) (nomark _))), ?_⟩
    rcases hx with ⟨xs, h1, h2, h3⟩ | ⟨Ts, ps, h1, h2, h3, h4⟩
    · refine ⟨_, rfl, _, .inl ⟨l, xs, rfl, h1, h2, rfl⟩, _, rfl, l, _, rfl, .inl h1, rfl, ?_⟩
      rw [List.length_map, (Kx.cnt_iff xs).mpr h3]
      rw [decide_eq_true rfl]
      exact k
    · have lT : Ts.length = ps.length := by rw [h2.1, List.length_map]
      have e1 : (Ts.zip ps).map (fun z => V.ref z.1) = Ts.map V.ref := by
        have : ((Ts.zip ps).map Prod.fst).map V.ref = Ts.map V.ref := by rw [List.map_fst_zip (by omega)]
        rw [← this, List.map_map]
        rfl
      refine ⟨_, rfl, _, .inr ⟨l, (Ts.zip ps).map fun z => (z.1, pk z.2), rfl, by rw [List.map_map]; exact e1 ▸ h1, fun z hz => ?_, by rw [List.length_map, List.length_zip]; omega, rfl⟩, _, rfl, l, _, rfl, .inl h1, rfl, ?_⟩
      · obtain ⟨y, hy, rfl⟩ := List.mem_map.mp hz
        obtain ⟨j, hj, e⟩ := List.getElem_of_mem hy
        have e' : (Ts.zip ps)[j]? = some y := by rw [List.getElem?_eq_getElem hj, e]
        obtain ⟨z1, z2⟩ := List.getElem?_zip_eq_some.mp e'
        exact SqT.of (h2.2 j y.1 (tv y.2) z1 (by rw [List.getElem?_map, z2]; rfl))
      · have e2 : ((Ts.zip ps).map fun z => (z.1, pk z.2)).map (fun q => q.2) = ps.map pk := by
          have : ((Ts.zip ps).map Prod.snd).map pk = ps.map pk := by rw [List.map_snd_zip (by omega)]
          rw [← this, List.map_map, List.map_map]
          rfl
        have e3 : ((Ts.zip ps).map fun z => (z.1, pk z.2)).length = (ps.map pk).length := by rw [List.length_map, List.length_map, List.length_zip]; omega
        have nd : (ps.map pk).Nodup := List.Pairwise.map pk (fun a b (h : a ≠ b) e => h (pk_inj e)) h4
        rw [e2, e3, (Kx.cnt_iff _).mpr nd, List.length_map, List.length_map, lT]
        rw [decide_eq_true rfl]
        exact k
end
end Wd
end
section
set_option maxRecDepth 100000
set_option maxHeartbeats 4000000
namespace Wd
open PySem L2
def trues (n : Nat) : List V := (List.replicate n true).map V.bl
theorem trues_len (n : Nat) : (trues n).length = n := by rw [trues, List.length_map, List.length_replicate]
theorem trues_next (n : Nat) : trues n ++ [.bl true] = trues (n + 1) := by
  rw [trues, trues, List.replicate_succ', List.map_append]
  rfl
theorem trues_all (n : Nat) : (List.replicate n true).all id = true := by simp
/-- pairs of these people -/
def Of (xs : List Str) (ps : List Pr) : Prop := ∀ p ∈ ps, p.1 ∈ xs ∧ p.2 ∈ xs ∧ Lt p.1 p.2
theorem Good.of {xs : List Str} {ps : List Pr} (g : Good xs ps) : Of xs ps := fun _ h => mem_prsS g.asc (g.sub.subset h)
def spIsPair : Sp := fun vs H Q _ => ∃ (t : Addr) (p : Pr), vs = [.ref t] ∧ H t = some (.tup [.str p.1, .str p.2]) ∧ IsW p.1 ∧ IsW p.2 ∧ Lt p.1 p.2 ∧ ∀ H', Same H H' → Q (.bl true) H'
def spArePpl : Sp := fun vs H Q _ => ∃ (l : Addr) (xs : List Str), vs = [.ref l] ∧ H l = some (.lst (xs.map V.str)) ∧ xs.Nodup ∧ (∀ x ∈ xs, IsW x) ∧ 1 ≤ xs.length ∧ xs.length ≤ 100 ∧ ∀ H', Same H H' → Q (.bl true) H'
def spPairOf : Sp := fun vs H Q _ => ∃ (l t : Addr) (xs : List Str) (p : Pr), vs = [.ref l, .ref t] ∧ H l = some (.lst (xs.map V.str)) ∧ H t = some (.tup [.str p.1, .str p.2]) ∧ p.1 ∈ xs ∧ p.2 ∈ xs ∧ Lt p.1 p.2 ∧ Q (.bl true) H
def spPairsOf : Sp := fun vs H Q _ => ∃ (l m : Addr) (xs : List Str) (ps : List Pr), vs = [.ref l, .ref m] ∧ H l = some (.lst (xs.map V.str)) ∧ PwAt H m ps ∧ ps.Nodup ∧ ps.length ≤ 60 ∧ Of xs ps ∧ ∀ H', Same H H' → Q (.bl true) H'
section
variable {P : Program} {w : World} {K : PySem.W.Frag} {mg : Str → Option Value} {base : Heap}
theorem ok_is_person {f : Addr} {fd : FuncData} (F : Fun K "is_person" "is_person" sp_is_person f fd) (CW : Has P w K mg base 1 "is_word" ["value"] spIsWord) : FnOk P w K mg base CX0 2 f fd ["value"] spIsWord := by
  obtain ⟨fW, fdW, GW, mW, kW, bW⟩ := CW
  refine F.ok cp_is_person (fun vs H Q E h => ?_) (fun cdv A outer s H vs Q E hr h => ?_)
  · obtain ⟨_, rfl, _⟩ := h
    rfl
  · obtain ⟨x, rfl, hx, k⟩ := h
    refine ⟨_, pss_one (ps_ret (pe_call GW hr rfl mW kW bW .nil pass0 (pa_cons (pv 0) pa_nil))), ?_⟩
    exact ⟨_, rfl, x, rfl, hx, k⟩
theorem ok_are_people {f : Addr} {fd : FuncData} (F : Fun K "are_people" "are_people" sp_are_people f fd) (T : Bt mg) (CW : Has P w K mg base 2 "is_person" ["value"] spIsWord) (CU : Has P w K mg base 1 "are_unlike" ["things"] (spUnlike K)) :
    FnOk P w K mg base CX0 3 f fd ["value"] spArePpl := by
  obtain ⟨fW, fdW, GW, mW, kW, bW⟩ := CW
  obtain ⟨fU, fdU, GU, mU, kU, bU⟩ := CU
  refine F.ok cp_are_people (fun vs H Q E h => ?_) (fun cdv A outer s H vs Q E hr h => ?_)
  · obtain ⟨_, _, rfl, _⟩ := h
    rfl
  · obtain ⟨l, xs, rfl, hl, nd, hw, l1, l2, k⟩ := h
    have hr1 : Room 1 _ := hr.mono (by decide)
    refine ⟨_, pss_cons (ps_if (PW.pt (pw_or (pt_not (pt_val (pe_callB call_isi (by rfl) T.isi (by decide +kernel) (pa_cons (pv 0) (pa_cons (pe_bltn (v := .ty "list") (by rfl) T.list (by decide +kernel) rfl) pa_nil)))))
        (pw_or1 (pt_cmpR op_eq (pe_callB call_len_seq (by rfl) T.len PySem.boot_len (pa_cons (pv 0) pa_nil)) pe_int (nomark _))))) (pss_one (ps_ret pe_bl)) pss_nil)
      (pss_one (ps_ret (pe_and (pe_callB (cr_all rfl) (by rfl) T.all (by decide +kernel) (pa_cons (pe_lc (own := [("person", 1)]) (g := gName 1) (tt := tYes) rfl cp_are_people.nd (pi_list (pv 0))
          (blkOk_by (N := ["value", "person"]) (sc := defScope sp_are_people) (by decide +kernel)) (fun _ _ _ _ _ => pg_name (i := 1) cp_are_people.nd rfl (Or.inl rfl)) (fun _ _ _ _ _ => pts_nil)
          (fun _ _ _ _ _ => pe_call GW hr rfl mW kW bW .nil pass0 (pa_cons (pv 1) pa_nil))) pa_nil))
        (pe_one (pe_call GU hr1 rfl mU kU bU .nil pass0 (pa_cons (pv 0) pa_nil)))))), ?_⟩
    refine ⟨_, rfl, _, _, _, _, _, rfl, .ty "list", .base (.lst hl), kit_ty (a := "list") (r := true) (by decide +kernel), _, rfl, ?_⟩
    refine iteF ?_
    refine ⟨_, rfl, l, _, rfl, .inl (SqL.of hl), rfl, _, rfl, ?_⟩
    refine ite_f (decide_eq_false (fun e => ?_)) ?_
    · have e := V.int.inj e
      rw [List.length_map] at e
      omega
    refine ⟨_, rfl, l, rfl, ⟨_, SqL.of hl⟩, fun D hD => ?_⟩
    refine lc_list (xs := xs.map V.str) (fun i H' => H' D = some (.lst (trues i)) ∧ Same H H') ⟨upd_same, same_new hD⟩ (fun i H' _ h => SqL.of (h.2 _ _ hl)) ?_ ?_
    · rintro i v H' hv ⟨hd, s1⟩
      rw [List.getElem?_map] at hv
      obtain ⟨x, hx, rfl⟩ := Option.map_eq_some_iff.mp hv
      have il := (List.getElem?_eq_some_iff.mp hx).1
      refine ⟨rfl, _, rfl, x, rfl, hw x (List.mem_of_getElem? hx), fun H2 s2 => ?_⟩
      refine ⟨_, s2 _ _ hd, by rw [trues_len, sizeLine_eq]; omega, ?_, same_upd2 (.inr (s1.trans s2)) hD⟩
      rw [upd_same, trues_next]
    · rintro H' ⟨hd, s1⟩
      refine ⟨D, _, rfl, SqL.of hd, ?_⟩
      rw [trues_all]
      refine ⟨_, rfl, iteT ?_⟩
      exact ⟨_, rfl, l, rfl, .inl ⟨xs, SqL.of (s1 _ _ hl), by omega, nd⟩, k _ s1⟩
theorem ok_is_pair_of {f : Addr} {fd : FuncData} (F : Fun K "is_pair_of" "is_pair_of" sp_is_pair_of f fd) (T : Bt mg) : FnOk P w K mg base CX0 1 f fd ["people", "value"] spPairOf := by
  refine F.ok cp_is_pair_of (fun vs H Q E h => ?_) (fun cdv A outer s H vs Q E hr h => ?_)
  · obtain ⟨_, _, _, _, rfl, _⟩ := h
    rfl
  · obtain ⟨l, t, xs, p, rfl, hl, ht, m1, m2, lt, k⟩ := h
    refine ⟨_, pss_cons (ps_if (PW.pt (pw_or (pt_not (pt_val (pe_callB call_isi (by rfl) T.isi (by decide +kernel) (pa_cons (pv 1) (pa_cons (pe_bltn (v := .ty "tuple") (by rfl) T.tuple (by decide +kernel) rfl) pa_nil)))))
        (pw_or1 (pt_cmpR op_ne (pe_callB call_len_seq (by rfl) T.len PySem.boot_len (pa_cons (pv 1) pa_nil)) pe_int (nomark _))))) (pss_one (ps_ret pe_bl)) pss_nil)
      (pss_one (ps_ret (pe_and (pe_cmpR op_in_seq (pe_ix ix_tup (pv 1) pe_int (fun _ _ => rfl)) (pv 0) rfl)
        (pe_and (pe_cmpR op_in_seq (pe_ix ix_tup (pv 1) pe_int (fun _ _ => rfl)) (pv 0) rfl)
        (pe_one (pe_cmpR op_lt_str (pe_ix ix_tup (pv 1) pe_int (fun _ _ => rfl)) (pe_ix ix_tup (pv 1) pe_int (fun _ _ => rfl)) (nomark _))))))), ?_⟩
    refine ⟨_, rfl, _, _, _, _, _, rfl, .ty "tuple", .base (.tup ht), kit_ty (a := "tuple") (r := true) (by decide +kernel), _, rfl, ?_⟩
    refine iteF ?_
    refine ⟨_, rfl, t, _, rfl, .inr (SqT.of ht), rfl, _, rfl, ?_⟩
    refine ite_f (by rfl) ?_
    refine ⟨_, rfl, t, _, _, .str p.1, rfl, rfl, SqT.of ht, rfl, _, rfl, l, _, rfl, .inl (SqL.of hl), rfl, flat_strs' xs, ?_⟩
    rw [in_strs, decide_eq_true m1]
    refine ⟨_, rfl, iteT ?_⟩
    refine ⟨_, rfl, t, _, _, .str p.2, rfl, rfl, SqT.of ht, rfl, _, rfl, l, _, rfl, .inl (SqL.of hl), rfl, flat_strs' xs, ?_⟩
    rw [in_strs, decide_eq_true m2]
    refine ⟨_, rfl, iteT ?_⟩
    refine ⟨_, rfl, t, _, _, .str p.1, rfl, rfl, SqT.of ht, rfl, _, rfl, t, _, _, .str p.2, rfl, rfl, SqT.of ht, rfl, _, _, rfl, rfl, ?_⟩
    have e : decide (p.1.cps.toList < p.2.cps.toList) = true := decide_eq_true lt
    rw [e]
    exact k
theorem ok_are_pairs_of {f : Addr} {fd : FuncData} (F : Fun K "are_pairs_of" "are_pairs_of" sp_are_pairs_of f fd) (T : Bt mg) (CP : Has P w K mg base 1 "is_pair_of" ["people", "value"] spPairOf) (CU : Has P w K mg base 1 "are_unlike" ["things"] (spUnlike K)) :
    FnOk P w K mg base CX0 2 f fd ["people", "value"] spPairsOf := by
  obtain ⟨fW, fdW, GW, mW, kW, bW⟩ := CP
  obtain ⟨fU, fdU, GU, mU, kU, bU⟩ := CU
  refine F.ok cp_are_pairs_of (fun vs H Q E h => ?_) (fun cdv A outer s H vs Q E hr h => ?_)
  · obtain ⟨_, _, _, _, rfl, _⟩ := h
    rfl
  · obtain ⟨l, m, xs, ps, rfl, hl, ⟨Ts, hm, tu⟩, nd, l2, of, k⟩ := h
    refine ⟨_, pss_cons (ps_if (pt_not (pt_val (pe_callB call_isi (by rfl) T.isi (by decide +kernel) (pa_cons (pv 1) (pa_cons (pe_bltn (v := .ty "list") (by rfl) T.list (by decide +kernel) rfl) pa_nil))))) (pss_one (ps_ret pe_bl)) pss_nil)
      (pss_one (ps_ret (pe_and (pe_callB (cr_all rfl) (by rfl) T.all (by decide +kernel) (pa_cons (pe_lc (own := [("pair", 2)]) (g := gName 2) (tt := tYes) rfl cp_are_pairs_of.nd (pi_list (pv 1))
          (blkOk_by (N := ["people", "value", "pair"]) (sc := defScope sp_are_pairs_of) (by decide +kernel)) (fun _ _ _ _ _ => pg_name (i := 2) cp_are_pairs_of.nd rfl (Or.inl rfl)) (fun _ _ _ _ _ => pts_nil)
          (fun _ _ _ _ _ => pe_call GW hr rfl mW kW bW .nil pass0 (pa_cons (pv 0) (pa_cons (pv 2) pa_nil)))) pa_nil))
        (pe_one (pe_call GU hr rfl mU kU bU .nil pass0 (pa_cons (pv 1) pa_nil)))))), ?_⟩
    have lT : Ts.length = ps.length := by rw [tu.1, List.length_map]
    refine ⟨_, rfl, _, _, _, _, _, rfl, .ty "list", .base (.lst hm), kit_ty (a := "list") (r := true) (by decide +kernel), _, rfl, ?_⟩
    refine iteF ?_
    refine ⟨_, rfl, m, rfl, ⟨_, SqL.of hm⟩, fun D hD => ?_⟩
    refine lc_list (xs := Ts.map V.ref) (fun i H' => H' D = some (.lst (trues i)) ∧ Same H H') ⟨upd_same, same_new hD⟩ (fun i H' _ h => SqL.of (h.2 _ _ hm)) ?_ ?_
    · rintro i v H' hv ⟨hd, s1⟩
      rw [List.getElem?_map] at hv
      obtain ⟨U, hU, rfl⟩ := Option.map_eq_some_iff.mp hv
      have il := (List.getElem?_eq_some_iff.mp hU).1
      have hp : ps[i]? = some ps[i] := List.getElem?_eq_getElem (by omega)
      have mp := of _ (List.mem_of_getElem? hp)
      generalize ps[i] = p at hp mp
      have e1 := s1 _ _ (tu.2 i U (tv p) hU (by rw [List.getElem?_map, hp]; rfl))
      refine ⟨rfl, _, rfl, _, rfl, l, U, xs, p, rfl, s1 _ _ hl, e1, mp.1, mp.2.1, mp.2.2, ?_⟩
      refine ⟨_, hd, by rw [trues_len, sizeLine_eq]; omega, ?_, same_upd2 (.inr s1) hD⟩
      rw [upd_same, trues_next]
    · rintro H' ⟨hd, s1⟩
      refine ⟨D, _, rfl, SqL.of hd, ?_⟩
      rw [trues_all]
      refine ⟨_, rfl, iteT ?_⟩
      exact ⟨_, rfl, m, rfl, .inr ⟨Ts, ps, SqL.of (s1 _ _ hm), tu.same s1, by omega, nd⟩, k _ s1⟩
end
end Wd
end
section
set_option maxRecDepth 100000
set_option maxHeartbeats 4000000
namespace Wd
open PySem L2
theorem ascS_uniq : ∀ {l m : List Str}, Asc l → Asc m → (∀ x, x ∈ l ↔ x ∈ m) → l = m
  | [], [], _, _, _ => rfl
  | [], y :: m, _, _, h => absurd ((h y).mpr List.mem_cons_self) (by simp)
  | x :: l, [], _, _, h => absurd ((h x).mp List.mem_cons_self) (by simp)
  | x :: l, y :: m, a, b, h => by
    obtain ⟨a1, a2⟩ := List.pairwise_cons.mp a
    obtain ⟨b1, b2⟩ := List.pairwise_cons.mp b
    have e : x = y := by
      rcases List.mem_cons.mp ((h x).mp List.mem_cons_self) with z | z
      · exact z
      · rcases List.mem_cons.mp ((h y).mpr List.mem_cons_self) with q | q
        · exact q.symm
        · exact absurd ((b1 x z).tr (a1 y q)) (Lt.irr _)
    subst e
    rw [ascS_uniq a2 b2 fun z => ?_]
    constructor
    · intro hz
      rcases List.mem_cons.mp ((h z).mp (List.mem_cons_of_mem _ hz)) with q | q
      · rw [q] at hz
        exact absurd (a1 x hz) (Lt.irr _)
      · exact q
    · intro hz
      rcases List.mem_cons.mp ((h z).mpr (List.mem_cons_of_mem _ hz)) with q | q
      · rw [q] at hz
        exact absurd (b1 x hz) (Lt.irr _)
      · exact q
/-- the attributes as __init__ stores them -/
def cF (a b : Addr) : List (Str × V) := putF "_friends" (.ref b) (putF "_people" (.ref a) [])
theorem cF_p (a b : Addr) : (cF a b).lookup ("_people" : Str) = some (.ref a) := by
  unfold cF
  rw [lookup_putF, if_neg (by decide +kernel), lookup_putF, if_pos rfl]
theorem cF_f (a b : Addr) : (cF a b).lookup ("_friends" : Str) = some (.ref b) := by
  unfold cF
  rw [lookup_putF, if_pos rfl]
theorem cF_no (a b : Addr) {m : Str} (h1 : ¬ m = "_friends") (h2 : ¬ m = "_people") : (cF a b).lookup m = none := by
  unfold cF
  rw [lookup_putF, if_neg h1, lookup_putF, if_neg h2]
  all_goals rfl
/-- a company of xs and ps stands at c -/
def CAt (C : Addr) (H : Hp) (c : Addr) (xs : List Str) (ps : List Pr) : Prop := ∃ dx a b, H c = some (.ins C dx (cF a b)) ∧ H a = some (.lst (xs.map V.str)) ∧ PwAt H b ps
theorem PwAt.same {H H' : Hp} {l : Addr} {ps : List Pr} (h : PwAt H l ps) (s : Same H H') : PwAt H' l ps := PrsAt.same h s
theorem CAt.same {C : Addr} {H H' : Hp} {c : Addr} {xs : List Str} {ps : List Pr} (h : CAt C H c xs ps) (s : Same H H') : CAt C H' c xs ps := by
  obtain ⟨dx, a, b, h1, h2, h3⟩ := h
  exact ⟨dx, a, b, s _ _ h1, s _ _ h2, h3.same s⟩
theorem CAt.sameX {C : Addr} {H H' : Hp} {q c : Addr} {c0 : Int} {n : Nat} {xs : List Str} {ps : List Pr} (h : CAt C H c xs ps) (pa : PurseAt H q c0 n) (s : SameX q H H') : CAt C H' c xs ps := by
  obtain ⟨dx, a, b, h1, h2, h3⟩ := h
  refine ⟨dx, a, b, s _ _ (purse_ne pa h1 fun _ _ _ _ z => nomatch z) h1, sameX_lst pa s h2 (fun x hx i z => ?_), h3.sameX pa s⟩
  obtain ⟨y, _, e⟩ := List.mem_map.mp hx
  rw [z] at e
  cases e
structure CT (K : PySem.W.Frag) (mg : Str → Option Value) (C : Addr) : Prop where
  nP : NoAttr K C "_people"
  nF : NoAttr K C "_friends"
  mC : mg "Company" = some (.ref C)
  is : C8.InsC K C
def sdL (xs : List Str) : PyData := .list (xs.map PyData.str)
def pdL (ps : List Pr) : PyData := .list (ps.map pd)
theorem dp_strs {K : PySem.W.Frag} {H : Hp} : ∀ xs : List Str, DpAll K H (xs.map V.str) (xs.map PyData.str)
  | [] => .nil
  | x :: xs => .cons (.str x) (dp_strs xs)
theorem dp_sdL {K : PySem.W.Frag} {H : Hp} {a : Addr} {xs : List Str} (h : SqL K H a (xs.map V.str)) : Dp K H (.ref a) (sdL xs) := .lst h (dp_strs xs)
theorem dp_prsL {K : PySem.W.Frag} {H : Hp} : ∀ (Ts : List Addr) (ps : List Pr), Tups H Ts (ps.map tv) → DpAll K H (Ts.map V.ref) (ps.map pd)
  | [], [], _ => .nil
  | [], p :: ps, t => by have := t.1; simp at this
  | T :: Ts, [], t => by have := t.1; simp at this
  | T :: Ts, p :: ps, t => .cons (dp_pair (SqT.of (t.2 0 T (tv p) rfl rfl))) (dp_prsL Ts ps ⟨by have := t.1; simpa using this, fun k U q h1 h2 => t.2 (k + 1) U q (by simpa using h1) (by simpa using h2)⟩)
theorem dp_pdL {K : PySem.W.Frag} {H : Hp} {a : Addr} {Ts : List Addr} {ps : List Pr} (h : SqL K H a (Ts.map V.ref)) (t : Tups H Ts (ps.map tv)) : Dp K H (.ref a) (pdL ps) := .lst h (dp_prsL Ts ps t)
theorem lay_sd : ∀ xs : List Str, (∀ x ∈ xs, IsW x) → PyData.canLayAll0 (xs.map PyData.str) = true ∧ PyData.depthAll (xs.map PyData.str) = 0
  | [], _ => by simp [PyData.canLayAll0, PyData.depthAll]
  | x :: xs, h => by
    obtain ⟨h1, h2⟩ := lay_sd xs fun y hy => h y (List.mem_cons_of_mem _ hy)
    simp [PyData.canLayAll0, PyData.depthAll, PyData.canLay0, PyData.depth, isW_ok (h x List.mem_cons_self), h1, h2]
theorem lay_pd : ∀ ps : List Pr, (∀ p ∈ ps, IsW p.1 ∧ IsW p.2) → PyData.canLayAll0 (ps.map pd) = true ∧ PyData.depthAll (ps.map pd) ≤ 1
  | [], _ => by simp [PyData.canLayAll0, PyData.depthAll]
  | p :: ps, h => by
    obtain ⟨h1, h2⟩ := lay_pd ps fun y hy => h y (List.mem_cons_of_mem _ hy)
    have hp := h p List.mem_cons_self
    have e1 : (pd p).canLay0 = true := by simp [pd, PyData.canLay0, PyData.canLayAll0, isW_ok hp.1, isW_ok hp.2]
    have e2 : (pd p).depth = 1 := by simp [pd, PyData.depth, PyData.depthAll]
    refine ⟨by simp [PyData.canLayAll0, e1, h1], ?_⟩
    simp only [List.map_cons, PyData.depthAll, e2]
    omega
theorem sdL_lay {xs : List Str} (h : ∀ x ∈ xs, IsW x) : PyData.canLay0 (sdL xs) = true := by
  unfold sdL
  simp only [PyData.canLay0]
  exact (lay_sd xs h).1
theorem pdL_lay {ps : List Pr} (h : ∀ p ∈ ps, IsW p.1 ∧ IsW p.2) : PyData.canLay0 (pdL ps) = true := by
  unfold pdL
  simp only [PyData.canLay0]
  exact (lay_pd ps h).1
theorem sdL_shaped {xs : List Str} (h : ∀ x ∈ xs, IsW x) : SeqAt.shaped (sdL xs) = true := by
  have d : PyData.depth (sdL xs) ≤ 64 := by
    unfold sdL
    simp only [PyData.depth]
    have := (lay_sd xs h).2
    omega
  show (PyData.canLay0 (sdL xs) && decide (PyData.depth (sdL xs) ≤ 64)) = true
  rw [sdL_lay h, decide_eq_true d]
  rfl
theorem pdL_shaped {ps : List Pr} (h : ∀ p ∈ ps, IsW p.1 ∧ IsW p.2) : SeqAt.shaped (pdL ps) = true := by
  have d : PyData.depth (pdL ps) ≤ 64 := by
    unfold pdL
    simp only [PyData.depth]
    have := (lay_pd ps h).2
    omega
  show (PyData.canLay0 (pdL ps) && decide (PyData.depth (pdL ps) ≤ 64)) = true
  rw [pdL_lay h, decide_eq_true d]
  rfl
theorem Good.wp {xs : List Str} {ps : List Pr} (g : Good xs ps) : ∀ p ∈ ps, IsW p.1 ∧ IsW p.2 := fun p hp => ⟨g.word _ (g.of p hp).1, g.word _ (g.of p hp).2.1⟩
abbrev cI : Stmt := inClass cl_Company 0
abbrev cP : Stmt := inClass cl_Company 1
abbrev cFr : Stmt := inClass cl_Company 2
abbrev cE : Stmt := inClass cl_Company 3
theorem sc_I : FnScope ["self", "people", "friends"] ["self", "people", "friends"] (defScope cI) := ⟨rfl, rfl, rfl, by decide +kernel, rfl, by decide +kernel, by decide +kernel⟩
theorem sc_P : FnScope ["self"] ["self"] (defScope cP) := ⟨rfl, rfl, rfl, by decide +kernel, rfl, by decide +kernel, by decide +kernel⟩
theorem sc_F : FnScope ["self"] ["self"] (defScope cFr) := ⟨rfl, rfl, rfl, by decide +kernel, rfl, by decide +kernel, by decide +kernel⟩
theorem sc_E : FnScope ["self", "other"] ["self", "other"] (defScope cE) := ⟨rfl, rfl, rfl, by decide +kernel, rfl, by decide +kernel, by decide +kernel⟩
def spInit (C : Addr) : Sp := fun vs H Q _ => ∃ (p dx l m : Addr) (ys xs : List Str) (qs ps : List Pr), vs = [.ref p, .ref l, .ref m] ∧ H p = some (.ins C dx []) ∧ H l = some (.lst (ys.map V.str)) ∧ PwAt H m qs ∧ ys.Perm xs ∧ qs.Perm ps ∧ Good xs ps ∧
  ∀ H', SameX p H H' → CAt C H' p xs ps → Q .non H'
def spPplM (C : Addr) : Sp := fun vs H Q _ => ∃ (c : Addr) (xs : List Str) (ps : List Pr), vs = [.ref c] ∧ CAt C H c xs ps ∧ xs.length ≤ 100 ∧ ∀ D, H D = none → Q (.ref D) (upd H D (.lst (xs.map V.str)))
def spFrM (C : Addr) : Sp := fun vs H Q _ => ∃ (c : Addr) (xs : List Str) (ps : List Pr), vs = [.ref c] ∧ CAt C H c xs ps ∧ ps.length ≤ 100 ∧ ∀ (D : Addr) (H' : Hp), H D = none → Same H H' → PwAt H' D ps → Q (.ref D) H'
/-- two companies that are equal -/
def CEq (C : Addr) (a b : Addr) (H : Hp) : Prop := ∃ xs ps, Good xs ps ∧ CAt C H a xs ps ∧ CAt C H b xs ps
section
variable {P : Program} {w : World} {K : PySem.W.Frag} {mg : Str → Option Value} {base : Heap}
theorem ok_init {f C : Addr} {fd : FuncData} (F : Fun K "__init__" "Company.__init__" cI f fd) (T : Bt mg) (TC : CT K mg C) (CA : Has P w K mg base 3 "are_people" ["value"] spArePpl) (CB : Has P w K mg base 2 "are_pairs_of" ["people", "value"] spPairsOf) :
    FnOk P w K mg base CX0 4 f fd ["self", "people", "friends"] (spInit C) := by
  obtain ⟨fA, fdA, GA, mA, kA, bA⟩ := CA
  obtain ⟨fB, fdB, GB, mB, kB, bB⟩ := CB
  refine F.ok sc_I (fun vs H Q E h => ?_) (fun cdv A outer s H vs Q E hr h => ?_)
  · obtain ⟨_, _, _, _, _, _, _, _, rfl, _⟩ := h
    rfl
  · obtain ⟨p, dx, l, m, ys, xs, qs, ps, rfl, hp, hl, hm, py, pq, g, k⟩ := h
    have hr2 : Room 2 _ := hr.mono (by decide)
    have few := g.len
    have l9 := g.few
    have ly := py.length_eq
    have lq := pq.length_eq
    refine ⟨_, pss_cons (ps_if (pt_not (pt_val (pe_call GA hr rfl mA kA bA .nil pass0 (pa_cons (pv 1) pa_nil)))) (pss_one ps_never) pss_nil)
      (pss_cons (ps_if (pt_not (pt_val (pe_call GB hr2 rfl mB kB bB .nil pass0 (pa_cons (pv 1) (pa_cons (pv 2) pa_nil))))) (pss_one ps_never) pss_nil)
      (pss_cons (ps_fld (pv 0) (pe_callB cr_sortedS (by rfl) T.sorted (by decide +kernel) (pa_cons (pv 1) pa_nil)) rfl)
      (pss_one (ps_fld (pv 0) (pe_callB (Kx.cr_sortedD hr.units) (by rfl) T.sorted (by decide +kernel) (pa_cons (pv 2) pa_nil)) rfl)))), ?_⟩
    refine ⟨_, rfl, l, ys, rfl, hl, py.nodup_iff.mpr g.asc.nd, fun x hx => g.word x (py.mem_iff.mp hx), by omega, by omega, fun H1 s1 => ?_⟩
    refine ⟨_, rfl, iteF ?_⟩
    refine ⟨_, rfl, _, rfl, l, m, ys, qs, rfl, s1 _ _ hl, hm.same s1, pq.nodup_iff.mpr g.nodup, by omega, fun q hq => ?_, fun H2 s2 => ?_⟩
    · have o := g.of q (pq.mem_iff.mp hq)
      exact ⟨py.mem_iff.mpr o.1, py.mem_iff.mpr o.2.1, o.2.2⟩
    refine ⟨_, rfl, iteF ?_⟩
    have s12 := s1.trans s2
    refine ⟨_, rfl, l, ys, rfl, SqL.of (s12 _ _ hl), by omega, fun zs a pz so hA => ?_⟩
    have ez : zs = xs := ascS_uniq (asc_of_sorted so (pz.nodup_iff.mpr (py.nodup_iff.mpr g.asc.nd))) g.asc fun x => by rw [pz.mem_iff, py.mem_iff]
    subst ez
    have hp2 := s12 _ _ hp
    have pa : p ≠ a := ne_of_none hp2 hA
    refine ⟨_, rfl, p, C, dx, [], rfl, by rw [upd_ne pa]; exact hp2, TC.is.cl, TC.nP, (by show 0 < 1000; decide), ?_⟩
    obtain ⟨Ts, hm1, tu⟩ := hm.same s12
    have mp : m ≠ p := fun z => by
      rw [z, hp2] at hm1
      cases hm1
    have ma : m ≠ a := ne_of_none hm1 hA
    have tne : ∀ {H' : Hp} {U : Addr} {o : HO}, H2 U = some o → U ≠ p → upd (upd H2 a (.lst (zs.map V.str))) p (.ins C dx (putF "_people" (.ref a) [])) U = some o := fun {H' U o} e n => by
      rw [upd_ne n, upd_ne (ne_of_none e hA)]
      exact e
    have sx3 : SameX p H (upd (upd H2 a (.lst (zs.map V.str))) p (.ins C dx (putF "_people" (.ref a) []))) := ((SameX.of s12).updN (same_none s12 hA)).trans SameX.upd
    have tu3 : Tups (upd (upd H2 a (.lst (zs.map V.str))) p (.ins C dx (putF "_people" (.ref a) []))) Ts (qs.map tv) := tu.keep fun U o hU e => tne (H' := H2) e fun z => by
      obtain ⟨y, _, ey⟩ := tu.at hU
      rw [z, hp2] at ey
      cases ey
    refine ⟨_, rfl, ?_⟩
    dsimp only [tNil]
    refine sorted_prs (tne (H' := H2) hm1 mp) tu3 (pq.nodup_iff.mpr g.nodup) fun D Us rs nD ar mr ur _ => ?_
    have er : rs = ps := asc_uniq ar g.ascP fun q => by rw [mr, pq.mem_iff]
    subst er
    have pD : p ≠ D := ne_of_none upd_same nD
    have aD : a ≠ D := ne_of_none (by rw [upd_ne (Ne.symm pa), upd_same]) nD
    refine ⟨_, rfl, p, C, dx, _, rfl, by rw [upd_ne pD, upd_same], TC.is.cl, TC.nF, (by show 1 < 1000; decide), ?_⟩
    refine k _ ((sx3.updN (sx3.none nD (Ne.symm pD))).trans SameX.upd) ⟨dx, a, D, upd_same, ?_, Us, ?_, ?_⟩
    · rw [upd_ne (Ne.symm pa), upd_ne aD, upd_ne (Ne.symm pa), upd_same]
    · rw [upd_ne (Ne.symm pD), upd_same]
    · refine ur.keep fun U o hU e => ?_
      obtain ⟨y, _, ey⟩ := ur.at hU
      have up : U ≠ p := fun z => by
        rw [z, upd_same] at ey
        cases ey
      rw [upd_ne up, upd_ne (ne_of_none e nD)]
      exact e
theorem ok_ppl {f C : Addr} {fd : FuncData} (F : Fun K "people" "Company.people" cP f fd) (T : Bt mg) (TC : CT K mg C) : FnOk P w K mg base CX0 1 f fd ["self"] (spPplM C) := by
  refine F.ok sc_P (fun vs H Q E h => ?_) (fun cdv A outer s H vs Q E hr h => ?_)
  · obtain ⟨_, _, _, rfl, _⟩ := h
    rfl
  · obtain ⟨c, xs, ps, rfl, ⟨dx, a, b, h1, h2, h3⟩, few, k⟩ := h
    refine ⟨_, pss_one (ps_ret (pe_callTy call_list_of (by rfl) T.list (by decide +kernel) (pa_cons (pe_fld (pv 0) rfl) pa_nil))), ?_⟩
    exact ⟨_, rfl, c, C, dx, _, _, rfl, h1, TC.is.cl, TC.nP, cF_p a b, a, _, rfl, .inl (SqL.of h2), fun D hD => k D hD⟩
theorem ok_frs {f C : Addr} {fd : FuncData} (F : Fun K "friends" "Company.friends" cFr f fd) (T : Bt mg) (TC : CT K mg C) : FnOk P w K mg base CX0 1 f fd ["self"] (spFrM C) := by
  refine F.ok sc_F (fun vs H Q E h => ?_) (fun cdv A outer s H vs Q E hr h => ?_)
  · obtain ⟨_, _, _, rfl, _⟩ := h
    rfl
  · obtain ⟨c, xs, ps, rfl, ⟨dx, a, b, h1, h2, Ts, h3, tu⟩, few, k⟩ := h
    refine ⟨_, pss_one (ps_ret (pe_callTy call_list_of (by rfl) T.list (by decide +kernel) (pa_cons (pe_fld (pv 0) rfl) pa_nil))), ?_⟩
    refine ⟨_, rfl, c, C, dx, _, _, rfl, h1, TC.is.cl, TC.nF, cF_f a b, b, _, rfl, .inl (SqL.of h3), fun D hD => k D _ hD (same_new hD) ⟨Ts, upd_same, tu.same (same_new hD)⟩⟩
theorem ok_eq {f C : Addr} {fd : FuncData} (F : Fun K "__eq__" "Company.__eq__" cE f fd) (T : Bt mg) (TC : CT K mg C) : FnOk P w K mg base CX0 1 f fd ["self", "other"] (spEq (CEq C)) := by
  refine F.ok sc_E (fun vs H Q E h => ?_) (fun cdv A outer s H vs Q E hr h => ?_)
  · obtain ⟨_, _, rfl, _⟩ := h
    rfl
  · obtain ⟨c, d, rfl, ⟨xs, ps, g, ⟨dx, a, b, h1, h2, Ts, h3, tu⟩, ⟨dy, a', b', g1, g2, Us, g3, uu⟩⟩, k⟩ := h
    refine ⟨_, pss_one (ps_ret (pe_and (pe_callB (C8.call_isC TC.is) (by rfl) T.isi (by decide +kernel) (pa_cons (pv 1) (pa_cons (C8.pe_gc (v := .ref C) rfl ⟨_, TC.mC, rfl⟩) pa_nil)))
      (pe_and (pe_cmpR (op_eqD hr.units) (pe_fld (pv 0) rfl) (pe_fld (pv 1) rfl) (nomark _))
      (pe_one (pe_cmpR (op_eqD hr.units) (pe_fld (pv 0) rfl) (pe_fld (pv 1) rfl) (nomark _)))))), ?_⟩
    refine ⟨_, rfl, d, dy, _, rfl, g1, _, rfl, iteT ?_⟩
    refine ⟨_, rfl, c, C, dx, _, _, rfl, h1, TC.is.cl, TC.nP, cF_p a b, _, rfl, d, C, dy, _, _, rfl, g1, TC.is.cl, TC.nP, cF_p a' b', ?_⟩
    refine ⟨sdL xs, sdL xs, dp_sdL (SqL.of h2), dp_sdL (SqL.of g2), sdL_shaped g.word, sdL_shaped g.word, _, rfl, ite_t (SeqAt.eqv_refl _ (sdL_lay g.word)) ?_⟩
    refine ⟨_, rfl, c, C, dx, _, _, rfl, h1, TC.is.cl, TC.nF, cF_f a b, _, rfl, d, C, dy, _, _, rfl, g1, TC.is.cl, TC.nF, cF_f a' b', ?_⟩
    refine ⟨pdL ps, pdL ps, dp_pdL (SqL.of h3) tu, dp_pdL (SqL.of g3) uu, pdL_shaped g.wp, pdL_shaped g.wp, ?_⟩
    rw [SeqAt.eqv_refl _ (pdL_lay g.wp)]
    exact k H Ext.rfl'
end
end Wd
end
section
set_option maxRecDepth 100000
set_option maxHeartbeats 4000000
namespace Wd
open PySem PySem.Spec PyProof.Rows L2
/-- what stands at the value's address is locked from here on -/
def tFrz (td : TE) : TE := fun σ H Q => td σ H fun x H1 => ∃ d u, x = .ref d ∧ H1 d = some u ∧ Mut (some u) ∧ ∀ o, Q x (L2.upd H1 d (.frz o u))
section
variable {X : Cx}
theorem pe_frz {e : Expr} {td : TE} (he : PE X e td) : PE X e (tFrz td) := by
  refine ⟨fun pins s σ H Q I h => thn (he.run pins s σ H _ I h) ?_⟩
  rintro v s1 ⟨x, H1, I1, r1, d, u, rfl, hd, mu, q⟩
  obtain ⟨o, I2⟩ := I1.lock hd mu
  exact ⟨_, _, I2, r1, q o⟩
/-- name = {k: v for ..} on one line, a local -/
theorem ps_setDc {i : Nat} {y : Str} {py pos spos : Pos} {kx vx tg iter : Expr} {ifs : List Expr} {scope : Scope} {own : List (Str × Nat)} {wi : TI} {g : TG} {tt : TT} {tk tv : TE}
    (calm : X.calm = true) (nd : X.N.Nodup) (at_ : X.N[i]? = some y) (loc : X.env.scope.names.lookup y = some .local)
    (sw : swapsWith (.DictComp kx vx [⟨tg, iter, ifs, 0⟩] scope pos) (some (.Name y py)) spos.line X.env = pure true) (wk : PI X tg iter wi) (ok : BlkOk X.N X.env.scope scope own)
    (tgt : ∀ (s : Shared) (H : Hp) (C : Addr) (cl : List (Str × Addr)) (fp : List Addr), PG (X.blk s H scope (compEnvC scope cl C X.env) fp) tg g)
    (tst : ∀ (s : Shared) (H : Hp) (C : Addr) (cl : List (Str × Addr)) (fp : List Addr), PTs (X.blk s H scope (compEnvC scope cl C X.env) fp) ifs tt)
    (key : ∀ (s : Shared) (H : Hp) (C : Addr) (cl : List (Str × Addr)) (fp : List Addr), PE (X.blk s H scope (compEnvC scope cl C X.env) fp) kx tk)
    (val : ∀ (s : Shared) (H : Hp) (C : Addr) (cl : List (Str × Addr)) (fp : List Addr), PE (X.blk s H scope (compEnvC scope cl C X.env) fp) vx tv)
    (fold : ∀ x, foldedSetIterable iter X.env x = pure x := by intro _; rfl) : PS X (.Assign [.Name y py] (.DictComp kx vx [⟨tg, iter, ifs, 0⟩] scope pos) spos) (tAsg (tDc wi g tt tk tv (own.map (·.2))) (gName i)) := by
  refine ⟨fun pins s σ H D I h => ?_⟩
  rw [exec_Assign_Name_used _ _ _ _ sw]
  refine wpAny_bind (wpAny_standAt (wpAny_bind ?_))
  show wpAny _ X.A (do let _ ← comprehension (.DictComp kx vx [⟨tg, iter, ifs, 0⟩] scope pos) scope X.env (firstIterPos [⟨tg, iter, ifs, 0⟩] pos) newDict false (eval iter X.env) (some (assign (.Name y py) X.env))) _ _ s
  have go : tDc wi g tt tk tv (own.map (·.2)) σ H (fun x H1 => gName i x σ H1 D.nx) := h
  refine wpAny_bind (thn (dc_core (Qf := fun _ s' => SP X pins D .next s') calm nd I wk ok tgt tst key val fold go fun L C s2 m H2 I2 q hn f => ?_) fun _ _ z => wpAny_pure (wpAny_pure z))
  show wpAny _ _ (assign (.Name y py) X.env (.ref L)) _ _ _
  obtain ⟨a0, a1, a2, a3, a4, a5⟩ := f
  refine wpAny_assign_Name (store_ok2 (v := V.ref L) I2 nd at_ (.inl loc) rfl (fun s3 I3 ⟨a, b, c⟩ => ?_) (.inr loc))
  have ne : C ≠ a := c.elim (fun z => z ▸ a1) fun z e => a4 y a z e.symm
  exact ⟨m, hn.sameBut b ne, fun h3 k3 => ⟨_, H2, I3.turned (t' := s3.toks) (fun u o hb e => (k3.2 u hb).trans e) a0 a1 a3 a4 a5, q⟩⟩
theorem sw_dict {kx vx : Expr} {gs : List Comprehension} {scope : Scope} {pos py : Pos} {y : Str} {l : Nat} {env : Env} (fn : env.scope.kind = .function) (loc : env.scope.names.lookup y = some .local) (row : (py.line == pos.line) = true)
    (no : (scope.names.any fun (n, k) => n == y && (k == .local || k == .cell)) = false) : swapsWith (.DictComp kx vx gs scope pos) (some (.Name y py)) l env = pure true := by
  have k1 : env.kindOf y = some .local := loc
  have k2 : env.blockKind = .function := by
    unfold Env.blockKind
    rw [fn]
    rfl
  unfold swapsWith
  simp only [k1, k2, no, Expr.pos, row]
  rfl
end
/-- a dict comprehension over any walk: Pv by the turn and the heap -/
theorem dc_walk {J : It} {n : Nat} {G : Hp → Prop} {Y : Nat → Hp → V → Hp → Prop} (wk : Walk J n G Y) {g : TG} {tt : TT} {tk tv : TE} {vs : List Nat} {σ : L2.St} {H1 : Hp} {D : Addr} {Qd : Hp → Prop} (Pv : Nat → Hp → Prop)
    (start : Pv 0 (L2.upd H1 D (.dK []))) (stays : ∀ i H, i ≤ n → Pv i H → G H)
    (turn : ∀ i x H H', i < n → Pv i H → Y i H x H' → g x (wipe σ vs) H' fun σ2 H2 => wipe σ2 vs = wipe σ vs ∧ tt σ2 H2 fun b H3 => if b = true then tk σ2 H3 fun y H4 => tv σ2 H4 fun z H5 =>
      ∃ kvs k, y = kV k ∧ H5 D = some (.dK kvs) ∧ kvs.length < sizeLine ∧ Pv (i + 1) (L2.upd H5 D (.dK (putK kvs k z))) else Pv (i + 1) H3) (fin : ∀ H, Pv n H → Qd H) :
    ∃ W : Nat → Nat → Hp → Prop, (∃ m, W 0 m (L2.upd H1 D (.dK []))) ∧ ∀ i m H, W i m H → (J.stop i H ∧ Qd H) ∨ (J.go i H ∧ ∃ Nx : Hp → Prop, (∀ H', Nx H' → ∃ m', m' < m ∧ W (i + 1) m' H') ∧
      ∀ x H', J.yld i H x H' → g x (wipe σ vs) H' fun σ2 H2 => wipe σ2 vs = wipe σ vs ∧ tt σ2 H2 fun b H3 => if b = true then tk σ2 H3 fun y H4 => tv σ2 H4 fun z H5 =>
        ∃ kvs k, y = kV k ∧ H5 D = some (.dK kvs) ∧ kvs.length < sizeLine ∧ Nx (L2.upd H5 D (.dK (putK kvs k z))) else Nx H3) := by
  refine ⟨fun i m H => (m + i = n) ∧ Pv i H, ⟨n, rfl, start⟩, ?_⟩
  rintro i m H ⟨e, p⟩
  have gh := stays i H (by omega) p
  rcases Nat.eq_or_lt_of_le (show i ≤ n by omega) with z | z
  · subst z
    exact .inl ⟨wk.stops H gh, fin H p⟩
  · refine .inr ⟨wk.goes i H z gh, Pv (i + 1), fun H' q => ⟨m - 1, by omega, by omega, q⟩, fun x H' y => ?_⟩
    exact turn i x H H' z p (wk.yields i H x H' z gh y)
end Wd
end
section
set_option maxRecDepth 100000
set_option maxHeartbeats 4000000
namespace Wd
open PySem L2
/-- a method without arguments that keeps a promise -/
def HasM (P : Program) (w : World) (K : PySem.W.Frag) (mg : Str → Option Value) (base : Heap) (C : Addr) (k : Nat) (m : Str) (sp : Sp) : Prop :=
  ∃ (f : Addr) (fd : FuncData), FnOk P w K mg base CX0 k f fd ["self"] sp ∧ Meth K C m f ∧ Binds K fd ["self"] []
def spChk (C : Addr) : Sp := fun vs H Q _ => ∃ (c dx : Addr) (fs : List (Str × V)), vs = [.ref c] ∧ H c = some (.ins C dx fs) ∧ Q .non H
def spChkP (C : Addr) : Sp := fun vs H Q _ => ∃ (c : Addr) (x : Str) (xs : List Str) (ps : List Pr), vs = [.ref c, .str x] ∧ CAt C H c xs ps ∧ Good xs ps ∧ x ∈ xs ∧ ∀ H', Same H H' → Q .non H'
def spChkT (C : Addr) : Sp := fun vs H Q _ => ∃ (c t : Addr) (p : Pr) (xs : List Str) (ps : List Pr), vs = [.ref c, .ref t] ∧ CAt C H c xs ps ∧ Good xs ps ∧ H t = some (.tup [.str p.1, .str p.2]) ∧ p ∈ prsS xs ∧ ∀ H', Same H H' → Q .non H'
def spAllP : Sp := fun vs H Q _ => ∃ (l : Addr) (ys xs : List Str), vs = [.ref l] ∧ H l = some (.lst (ys.map V.str)) ∧ ys.Perm xs ∧ Asc xs ∧ xs.length ≤ 12 ∧ ∀ (H' : Hp) (D : Addr), Same H H' → H D = none → PwAt H' D (prsS xs) → Q (.ref D) H'
/-! combinations of two are the pairs -/
theorem range_cons (n : Nat) : List.range (n + 1) = 0 :: (List.range n).map Nat.succ := List.range_succ_eq_map
theorem ixs2_prs : ∀ xs : List V, (Kc.ixs2 xs.length).map (Kc.atIx xs) = (prs xs).map fun q => [q.1, q.2]
  | [] => rfl
  | x :: r => by
    have ih := ixs2_prs r
    have e1 : ((List.range (r.length + 1)).filter fun j => decide (0 < j)) = (List.range r.length).map Nat.succ := by
      rw [range_cons, List.filter_cons_of_neg (by simp), List.filter_eq_self.mpr]
      intro a ha
      obtain ⟨b, _, rfl⟩ := List.mem_map.mp ha
      simp
    have e2 : ∀ i, ((List.range (r.length + 1)).filter fun j => decide (i.succ < j)) = ((List.range r.length).filter fun j => decide (i < j)).map Nat.succ := fun i => by
      rw [range_cons, List.filter_cons_of_neg (by simp), List.filter_map]
      congr 1
      refine List.filter_congr fun a _ => ?_
      show decide (i.succ < a.succ) = decide (i < a)
      exact decide_eq_decide.mpr ⟨fun h => by omega, fun h => by omega⟩
    have e3 : Kc.ixs2 (r.length + 1) = (List.range r.length).map (fun j => [0, j.succ]) ++ (Kc.ixs2 r.length).map (fun l => l.map Nat.succ) := by
      unfold Kc.ixs2
      conv => lhs; rw [range_cons]
      rw [List.flatMap_cons]
      congr 1
      · rw [← range_cons, e1, List.map_map]
        rfl
      · rw [← range_cons, List.flatMap_map, List.map_flatMap]
        congr 1
        funext i
        rw [e2, List.map_map, List.map_map]
        rfl
    show (Kc.ixs2 (r.length + 1)).map (Kc.atIx (x :: r)) = (r.map (fun y => (x, y)) ++ prs r).map fun q => [q.1, q.2]
    rw [e3, List.map_append, List.map_append, List.map_map, List.map_map, List.map_map]
    congr 1
    · have : r = (List.range r.length).map fun j => r.getD j V.non := by
        apply List.ext_getElem (by simp)
        intro i h1 h2
        simp [List.getD_eq_getElem?_getD, List.getElem?_eq_getElem h1]
      conv => rhs; rw [this]
      rw [List.map_map]
      refine List.map_congr_left fun j _ => ?_
      rfl
    · rw [← ih]
      refine List.map_congr_left fun l _ => ?_
      show (l.map Nat.succ).map (fun i => (x :: r).getD i V.non) = l.map fun i => r.getD i V.non
      rw [List.map_map]
      rfl
section
variable {P : Program} {w : World} {K : PySem.W.Frag} {mg : Str → Option Value} {base : Heap}
theorem ok_check {f C : Addr} {fd : FuncData} (F : Fun K "check_company" "check_company" sp_check_company f fd) (T : Bt mg) (TC : CT K mg C) : FnOk P w K mg base CX0 1 f fd ["company"] (spChk C) := by
  refine F.ok cp_check_company (fun vs H Q E h => ?_) (fun cdv A outer s H vs Q E hr h => ?_)
  · obtain ⟨_, _, _, rfl, _⟩ := h
    rfl
  · obtain ⟨c, dx, fs, rfl, hc, k⟩ := h
    refine ⟨_, pss_one (ps_if (pt_not (pt_val (pe_callB (C8.call_isC TC.is) (by rfl) T.isi (by decide +kernel) (pa_cons (pv 0) (pa_cons (C8.pe_gc (v := .ref C) rfl ⟨_, TC.mC, rfl⟩) pa_nil))))) (pss_one ps_never) pss_nil), ?_⟩
    exact ⟨_, rfl, c, dx, fs, rfl, hc, _, rfl, iteF k⟩
theorem ok_checkP {f C : Addr} {fd : FuncData} (F : Fun K "check_person_of" "check_person_of" sp_check_person_of f fd) (T : Bt mg) (TC : CT K mg C) (MP : HasM P w K mg base C 1 "people" (spPplM C)) :
    FnOk P w K mg base CX0 2 f fd ["company", "person"] (spChkP C) := by
  obtain ⟨fP, fdP, GP, mP, bP⟩ := MP
  refine F.ok cp_check_person_of (fun vs H Q E h => ?_) (fun cdv A outer s H vs Q E hr h => ?_)
  · obtain ⟨_, _, _, _, rfl, _⟩ := h
    rfl
  · obtain ⟨c, x, xs, ps, rfl, hc, g, hx, k⟩ := h
    refine ⟨_, pss_one (ps_if (pt_cmpR op_notIn_seq (pv 1) (pe_meth0 (pv 0) TC.is.cl mP GP hr bP .nil pass0) rfl) (pss_one ps_never) pss_nil), ?_⟩
    obtain ⟨dx, a, b, h1, h2, h3⟩ := id hc
    have l9 := g.few
    refine ⟨_, rfl, _, rfl, c, dx, _, rfl, h1, cF_no a b (by decide +kernel) (by decide +kernel), c, xs, ps, rfl, hc, by omega, fun D hD => ?_⟩
    refine ⟨D, _, rfl, .inl (SqL.of upd_same), rfl, flat_strs' xs, _, rfl, ?_⟩
    rw [in_strs, decide_eq_true hx]
    exact iteF (k _ (same_new hD))
theorem ok_checkT {f C : Addr} {fd : FuncData} (F : Fun K "check_pair_of" "check_pair_of" sp_check_pair_of f fd) (T : Bt mg) (TC : CT K mg C) (MP : HasM P w K mg base C 1 "people" (spPplM C)) (CP : Has P w K mg base 1 "is_pair_of" ["people", "value"] spPairOf) :
    FnOk P w K mg base CX0 2 f fd ["company", "pair"] (spChkT C) := by
  obtain ⟨fP, fdP, GP, mP, bP⟩ := MP
  obtain ⟨fW, fdW, GW, mW, kW, bW⟩ := CP
  refine F.ok cp_check_pair_of (fun vs H Q E h => ?_) (fun cdv A outer s H vs Q E hr h => ?_)
  · obtain ⟨_, _, _, _, _, rfl, _⟩ := h
    rfl
  · obtain ⟨c, t, p, xs, ps, rfl, hc, g, ht, hp, k⟩ := h
    refine ⟨_, pss_one (ps_if (pt_not (pt_val (pe_call GW hr rfl mW kW bW .nil pass0 (pa_cons (pe_meth0 (pv 0) TC.is.cl mP GP hr bP .nil pass0) (pa_cons (pv 1) pa_nil))))) (pss_one ps_never) pss_nil), ?_⟩
    obtain ⟨dx, a, b, h1, h2, h3⟩ := id hc
    have l9 := g.few
    obtain ⟨m1, m2, lt⟩ := mem_prsS g.asc hp
    refine ⟨_, rfl, c, dx, _, rfl, h1, cF_no a b (by decide +kernel) (by decide +kernel), c, xs, ps, rfl, hc, by omega, fun D hD => ?_⟩
    exact ⟨_, rfl, D, t, xs, p, rfl, upd_same, same_new hD _ _ ht, m1, m2, lt, _, rfl, iteF (k _ (same_new hD))⟩
theorem ok_all_pairs {f : Addr} {fd : FuncData} (F : Fun K "all_pairs" "all_pairs" sp_all_pairs f fd) (T : Bt mg) (mC : mg "combinations" = some (.type Kc.TC)) : FnOk P w K mg base CX0 1 f fd ["people"] spAllP := by
  refine F.ok cp_all_pairs (fun vs H Q E h => ?_) (fun cdv A outer s H vs Q E hr h => ?_)
  · obtain ⟨_, _, _, rfl, _⟩ := h
    rfl
  · obtain ⟨l, ys, xs, rfl, hl, pm, asc, few, k⟩ := h
    have le := pm.length_eq
    refine ⟨_, pss_cons (ps_set (i := 1) cp_all_pairs.nd rfl (Or.inl rfl) (pe_callB cr_sortedS (by rfl) T.sorted (by decide +kernel) (pa_cons (pv 0) pa_nil)))
      (pss_one (ps_ret (Kc.pe_listComb rfl (by rfl) T.list (by rfl) mC (pa_cons (pv 1) (pa_cons pe_int pa_nil))))), ?_⟩
    refine ⟨_, rfl, l, ys, rfl, SqL.of hl, by omega, fun zs a pz so hA => ?_⟩
    have ez : zs = xs := ascS_uniq (asc_of_sorted so (pz.nodup_iff.mpr (pm.nodup_iff.mpr asc.nd))) asc fun x => by rw [pz.mem_iff, pm.mem_iff]
    subst ez
    refine ⟨_, rfl, a, zs.map V.str, 2, rfl, SqL.of upd_same, by rw [List.length_map]; exact few, .inl rfl, fun H2 D Ts s2 nD hd told lt => ?_⟩
    refine k H2 D ((same_new hA).trans s2) ?_ ⟨Ts, hd, ?_, fun j U q hU hq => ?_⟩
    · exact same_none (same_new hA) nD
    · have e := congrArg List.length (ixs2_prs (zs.map V.str))
      rw [List.length_map, List.length_map, prs_strs, List.length_map] at e
      rw [lt, List.length_map]
      exact e
    · obtain ⟨ix, hx, e⟩ := told.2.2 j U hU
      have e2 := congrArg (fun l => l[j]?) (ixs2_prs (zs.map V.str))
      have e3 : (Kc.ixs2 (zs.map V.str).length)[j]? = some ix := hx
      simp only [List.getElem?_map, e3, prs_strs, Option.map_some] at e2
      rw [List.getElem?_map] at hq
      obtain ⟨p, hp, rfl⟩ := Option.map_eq_some_iff.mp hq
      rw [hp] at e2
      have e4 := Option.some.inj e2
      rw [e, e4]
end
end Wd
end
section
set_option maxRecDepth 100000
set_option maxHeartbeats 4000000
namespace Wd
open PySem L2
theorem nd_inj {α : Type} {l : List α} {i j : Nat} {a : α} (nd : l.Nodup) (h1 : l[i]? = some a) (h2 : l[j]? = some a) : i = j :=
  (List.getElem?_inj (List.getElem?_eq_some_iff.mp h1).1 nd).mp (h1.trans h2.symm)
/-- a dictionary from people -/
def dkv (xs : List Str) (vs : List V) : List (Key × V) := (xs.zip vs).map fun z => (Sum.inr z.1, z.2)
theorem dkv_len {xs : List Str} {vs : List V} (h : vs.length = xs.length) : (dkv xs vs).length = xs.length := by
  unfold dkv
  rw [List.length_map, List.length_zip]
  omega
theorem dkv_get : ∀ {xs : List Str} {vs : List V} {i : Nat} {x : Str} {v : V}, xs.Nodup → xs[i]? = some x → vs[i]? = some v → valV (dkv xs vs) (Sum.inr x : Key) = some v
  | [], vs, i, x, v, _, h, _ => by simp at h
  | y :: xs, [], i, x, v, _, _, h => by simp at h
  | y :: xs, u :: vs, 0, x, v, _, h1, h2 => by
    simp at h1 h2
    subst h1 h2
    exact valV_pos (p := ((Sum.inr y : Key), u)) rfl
  | y :: xs, u :: vs, i + 1, x, v, nd, h1, h2 => by
    simp at h1 h2
    obtain ⟨n1, n2⟩ := List.nodup_cons.mp nd
    have ne : ¬ (Sum.inr y : Key) = Sum.inr x := fun e => n1 (by
      have := Sum.inr.inj e
      rw [this]
      exact List.mem_of_getElem? h1)
    show valV (((Sum.inr y : Key), u) :: dkv xs vs) _ = _
    rw [valV_neg ne]
    exact dkv_get n2 h1 h2
theorem dkv_none : ∀ {xs : List Str} {vs : List V} {x : Str}, x ∉ xs → valV (dkv xs vs) (Sum.inr x : Key) = none
  | [], vs, x, _ => rfl
  | y :: xs, [], x, _ => rfl
  | y :: xs, u :: vs, x, h => by
    have ne : ¬ (Sum.inr y : Key) = Sum.inr x := fun e => h (by
      have := Sum.inr.inj e
      rw [this]
      exact List.mem_cons_self)
    show valV (((Sum.inr y : Key), u) :: dkv xs vs) _ = _
    rw [valV_neg ne]
    exact dkv_none fun z => h (List.mem_cons_of_mem _ z)
theorem dkv_snoc {xs : List Str} {vs : List V} {x : Str} {v : V} (h : x ∉ xs) (l : vs.length = xs.length) : putK (dkv xs vs) (Sum.inr x : Key) v = dkv (xs ++ [x]) (vs ++ [v]) := by
  rw [putK_new v (dkv_none h)]
  unfold dkv
  rw [List.zip_append l.symm, List.map_append]
  rfl
theorem dkv_set : ∀ {xs : List Str} {vs : List V} {i : Nat} {x : Str} {v : V}, xs.Nodup → xs[i]? = some x → i < vs.length → putK (dkv xs vs) (Sum.inr x : Key) v = dkv xs (vs.set i v) := by
  have go : ∀ {xs : List Str} {vs : List V} {i : Nat} {x : Str} {v : V}, xs.Nodup → xs[i]? = some x → (dkv xs vs).map (fun kv => if kv.1 = (Sum.inr x : Key) then (kv.1, v) else kv) = dkv xs (vs.set i v) := by
    intro xs
    induction xs with
    | nil => intro vs i x v _ h; simp at h
    | cons y xs ih =>
      intro vs i x v nd h1
      obtain ⟨n1, n2⟩ := List.nodup_cons.mp nd
      cases vs with
      | nil => rfl
      | cons u vs =>
        have stay : ∀ {x : Str} (vs : List V), x ∉ xs → (dkv xs vs).map (fun kv => if kv.1 = (Sum.inr x : Key) then (kv.1, v) else kv) = dkv xs vs := fun {x} vs hn => by
          conv => rhs; rw [← List.map_id (dkv xs vs)]
          refine List.map_congr_left fun kv hk => ?_
          obtain ⟨z, hz, rfl⟩ := List.mem_map.mp hk
          have : ¬ (Sum.inr z.1 : Key) = Sum.inr x := fun e => hn (by
            rw [← Sum.inr.inj e]
            exact (List.of_mem_zip (show (z.1, z.2) ∈ xs.zip vs from hz)).1)
          rw [if_neg this]
          rfl
        cases i with
        | zero =>
          simp at h1
          subst h1
          show (if (Sum.inr y : Key) = Sum.inr y then ((Sum.inr y : Key), v) else _) :: (dkv xs vs).map _ = ((Sum.inr y : Key), v) :: dkv xs vs
          rw [if_pos rfl, stay vs n1]
        | succ i =>
          simp at h1
          have ne : ¬ (Sum.inr y : Key) = Sum.inr x := fun e => n1 (by
            rw [Sum.inr.inj e]
            exact List.mem_of_getElem? h1)
          show (if (Sum.inr y : Key) = Sum.inr x then _ else ((Sum.inr y : Key), u)) :: (dkv xs vs).map _ = ((Sum.inr y : Key), u) :: dkv xs (vs.set i v)
          rw [if_neg ne, ih n2 h1]
  intro xs vs i x v nd h1 h2
  have hv := dkv_get nd h1 (List.getElem?_eq_getElem h2)
  unfold putK
  rw [valV_any, hv]
  exact go nd h1
/-- the friends of x among ps, as they come -/
def frs (ps : List Pr) (x : Str) : List Str := ps.filterMap fun p => if p.1 = x then some p.2 else if p.2 = x then some p.1 else none
theorem frs_len (ps : List Pr) (x : Str) : (frs ps x).length ≤ ps.length := List.length_filterMap_le _ _
theorem frs_snoc (ps : List Pr) (p : Pr) (x : Str) : frs (ps ++ [p]) x = frs ps x ++ (if p.1 = x then [p.2] else if p.2 = x then [p.1] else []) := by
  unfold frs
  rw [List.filterMap_append]
  congr 1
  by_cases h1 : p.1 = x
  · simp [h1]
  · by_cases h2 : p.2 = x <;> simp [h1, h2]
/-- a dictionary from the people to lists: fs x for each -/
def CirAt (H : Hp) (D : Addr) (xs : List Str) (Ls : List Addr) (fs : Str → List Str) : Prop := H D = some (.dK (dkv xs (Ls.map V.ref))) ∧ Ls.length = xs.length ∧ Ls.Nodup ∧ ∀ (i : Nat) x L, xs[i]? = some x → Ls[i]? = some L → H L = some (.lst ((fs x).map V.str))
def spCirc (C : Addr) : Sp := fun vs H Q _ => ∃ (c : Addr) (xs : List Str) (ps : List Pr), vs = [.ref c] ∧ CAt C H c xs ps ∧ Good xs ps ∧
  ∀ (H' : Hp) (D : Addr) (Ls : List Addr), Same H H' → H D = none → (∀ L ∈ Ls, H L = none) → CirAt H' D xs Ls (frs ps) → Q (.ref D) H'
section
variable {P : Program} {w : World} {K : PySem.W.Frag} {mg : Str → Option Value} {base : Heap}
theorem ok_circles {f C : Addr} {fd : FuncData} (F : Fun K "circles" "circles" sp_circles f fd) (T : Bt mg) (TC : CT K mg C) (MP : HasM P w K mg base C 1 "people" (spPplM C)) (MF : HasM P w K mg base C 1 "friends" (spFrM C)) :
    FnOk P w K mg base CX0 2 f fd ["company"] (spCirc C) := by
  obtain ⟨fP, fdP, GP, mP, bP⟩ := MP
  obtain ⟨fF, fdF, GF, mF, bF⟩ := MF
  refine F.ok cp_circles (fun vs H Q E h => ?_) (fun cdv A outer s H vs Q E hr h => ?_)
  · obtain ⟨_, _, _, rfl, _⟩ := h
    rfl
  · obtain ⟨c, xs, ps, rfl, hc, g, k⟩ := h
    have hu := hu_of hr
    refine ⟨_, pss_cons (ps_setDc (i := 2) (own := [("person", 1)]) (g := gName 1) (tt := tYes) rfl cp_circles.nd rfl rfl (sw_dict rfl rfl rfl (by decide +kernel)) (pi_list (pe_meth0 (pv 0) TC.is.cl mP GP hr bP .nil pass0))
        (blkOk_by (N := ["company", "person", "found", "one", "other"]) (sc := defScope sp_circles) (by decide +kernel)) (fun _ _ _ _ _ => pg_name (i := 1) cp_circles.nd rfl (Or.inl rfl)) (fun _ _ _ _ _ => pts_nil) (fun _ _ _ _ _ => pv 1) (fun _ _ _ _ _ => pe_lst pa_nil))
      (pss_cons (ps_for PassesOwn.never rfl (pi_list (pe_meth0 (pv 0) TC.is.cl mF GF hr bF .nil pass0)) (pg_tup rfl (pgs_cons (pg_name (i := 3) cp_circles.nd rfl (Or.inl rfl)) (pgs_cons (pg_name (i := 4) cp_circles.nd rfl (Or.inl rfl)) pgs_nil)))
        (pss_cons (ps_expr (pe_bm PySem.F.plainAttrs_list PySem.F.slot_list_append PySem.F.type_list_append mt_append (pe_dget hu (pv 2) (pv 3) (fun _ _ => rfl)) (pa_cons (pv 4) pa_nil)))
        (pss_one (ps_expr (pe_bm PySem.F.plainAttrs_list PySem.F.slot_list_append PySem.F.type_list_append mt_append (pe_dget hu (pv 2) (pv 4) (fun _ _ => rfl)) (pa_cons (pv 3) pa_nil))))))
      (pss_one (ps_ret (pv 2)))), ?_⟩
    obtain ⟨dx, a, b, h1, h2, h3⟩ := id hc
    have l9 := g.few
    have few := g.len
    have nx := g.asc.nd
    refine ⟨_, rfl, c, dx, _, rfl, h1, cF_no a b (by decide +kernel) (by decide +kernel), c, xs, ps, rfl, hc, by omega, fun L0 hL0 => ?_⟩
    refine ⟨L0, rfl, ⟨_, SqL.of upd_same⟩, fun D hD => ?_⟩
    have s0 := same_new (o := .lst (xs.map V.str)) hL0
    have nD : H D = none := same_none s0 hD
    refine dc_walk (walk_list (K := K) (a := L0) (xs := xs.map V.str)) (fun i H' => ∃ Ls : List Addr, Same H H' ∧ H' L0 = some (.lst (xs.map V.str)) ∧ CirAt H' D (xs.take i) Ls (fun _ => []) ∧ ∀ L ∈ Ls, H L = none)
      ⟨[], s0.trans (same_new hD), ?_, ⟨upd_same, rfl, List.nodup_nil, fun i x L e _ => by simp at e⟩, fun _ z => nomatch z⟩ (fun i H' _ ⟨_, _, z, _⟩ => SqL.of z) ?_ ?_
    · exact same_new hD _ _ upd_same
    · rintro i v H1 _ hi ⟨Ls, s1, hl0, ⟨hd, ll, nd, at_⟩, fresh⟩ ⟨rfl, hv⟩
      rw [List.getElem?_map] at hv
      obtain ⟨x, hx, rfl⟩ := Option.map_eq_some_iff.mp hv
      refine ⟨rfl, _, rfl, ?_⟩
      refine ⟨Nat.zero_le _, fun L hL => ?_⟩
      have DL : D ≠ L := ne_of_none hd hL
      have i9 : i < xs.length := (List.getElem?_eq_some_iff.mp hx).1
      have ll' : (Ls.map V.ref).length = (xs.take i).length := by rw [List.length_map]; exact ll
      refine ⟨_, Sum.inr x, rfl, by rw [upd_ne DL]; exact hd, ?_, Ls ++ [L], ?_, ?_, ⟨?_, ?_, ?_, ?_⟩, ?_⟩
      · rw [dkv_len ll', List.length_take, sizeLine_eq]
        omega
      · exact same_upd2 (.inr (same_updN s1 hL)) nD
      · rw [upd_ne (ne_of_none (show upd H L0 (.lst (xs.map V.str)) L0 = some _ from upd_same) hD), upd_ne (ne_of_none hl0 hL)]
        exact hl0
      · have nin : x ∉ xs.take i := fun z => by
          obtain ⟨j, hj, e⟩ := List.getElem_of_mem z
          rw [List.length_take] at hj
          rw [List.getElem_take] at e
          have := nd_inj nx (List.getElem?_eq_some_iff.mpr ⟨by omega, e⟩) hx
          omega
        rw [upd_same, take_next hx, dkv_snoc nin ll', List.map_append]
        rfl
      · rw [List.length_append, ll, take_next hx, List.length_append]
        rfl
      · rw [List.nodup_append]
        refine ⟨nd, by simp, fun y hy z hz => ?_⟩
        rw [List.mem_singleton.mp hz]
        rintro rfl
        obtain ⟨j, hj, e⟩ := List.getElem_of_mem hy
        have hj' : j < (xs.take i).length := by rw [← ll]; exact hj
        have := at_ j _ y (List.getElem?_eq_getElem hj') (by rw [List.getElem?_eq_getElem hj, e])
        rw [hL] at this
        cases this
      · intro j y M hy hM
        rw [take_next hx] at hy
        by_cases hj : j < Ls.length
        · rw [List.getElem?_append_left hj] at hM
          rw [List.getElem?_append_left (by rw [← ll]; exact hj)] at hy
          have e := at_ j y M hy hM
          have MD : M ≠ D := fun z => by
            rw [z, hd] at e
            cases e
          rw [upd_ne MD, upd_ne (ne_of_none e hL)]
          exact e
        · rw [List.getElem?_append_right (by omega)] at hM
          have e : M = L := by
            cases hq : j - Ls.length with
            | zero =>
              rw [hq] at hM
              simpa using hM.symm
            | succ q =>
              rw [hq] at hM
              simp at hM
          subst e
          rw [upd_ne (Ne.symm DL), upd_same]
          rfl
      · intro M hM
        rcases List.mem_append.mp hM with z | z
        · exact fresh M z
        · rw [List.mem_singleton.mp z]
          exact same_none s1 hL
    · rintro H1 ⟨Ls, s1, hl0, ci, fresh⟩
      rw [List.length_map, List.take_length] at ci
      have hc1 := hc.same s1
      obtain ⟨dx1, a1, b1, g1, g2, g3⟩ := id hc1
      refine ⟨_, rfl, c, dx1, _, rfl, g1, cF_no a1 b1 (by decide +kernel) (by decide +kernel), c, xs, ps, rfl, hc1, by omega, fun M H2 nM s2 ⟨Ts, hm, tu⟩ => ?_⟩
      have lT : Ts.length = ps.length := by rw [tu.1, List.length_map]
      refine ⟨M, rfl, ⟨_, SqL.of hm⟩, ?_⟩
      have s12 := s1.trans s2
      refine for_list (xs := Ts.map V.ref) (fun i σ H' => ∃ v3 v4 : Option V, σ = [some (.ref c), none, some (.ref D), v3, v4] ∧ Same H H' ∧ H' M = some (.lst (Ts.map V.ref)) ∧ Tups H' Ts (ps.map tv) ∧ CirAt H' D xs Ls (frs (ps.take i)))
        ⟨none, none, rfl, s12, hm, tu, ⟨s2 _ _ ci.1, ci.2.1, ci.2.2.1, fun i x L e1 e2 => s2 _ _ (ci.2.2.2 i x L e1 e2)⟩⟩ (fun i σ H' _ ⟨_, _, _, _, z, _⟩ => SqL.of z) ?_ ?_
      · rintro i v σ H' hv ⟨v3, v4, rfl, s3, hm3, tu3, hd, ll, nd, at_⟩
        rw [List.getElem?_map] at hv
        obtain ⟨U, hU, rfl⟩ := Option.map_eq_some_iff.mp hv
        have il := (List.getElem?_eq_some_iff.mp hU).1
        obtain ⟨p, hp⟩ : ∃ p, ps[i]? = some p := ⟨_, List.getElem?_eq_getElem (by omega)⟩
        have eU := tu3.2 i U (tv p) hU (by rw [List.getElem?_map, hp]; rfl)
        obtain ⟨m1, m2, lt⟩ := g.of p (List.mem_of_getElem? hp)
        have ne12 : p.1 ≠ p.2 := fun e => Lt.irr p.2 (by rw [e] at lt; exact lt)
        obtain ⟨i1, hi1, e1⟩ := List.getElem_of_mem m1
        obtain ⟨i2, hi2, e2⟩ := List.getElem_of_mem m2
        have x1 : xs[i1]? = some p.1 := by rw [List.getElem?_eq_getElem hi1, e1]
        have x2 : xs[i2]? = some p.2 := by rw [List.getElem?_eq_getElem hi2, e2]
        have L1 : Ls[i1]? = some (Ls[i1]'(by omega)) := List.getElem?_eq_getElem _
        have L2 : Ls[i2]? = some (Ls[i2]'(by omega)) := List.getElem?_eq_getElem _
        have neL : Ls[i1]'(by omega) ≠ Ls[i2]'(by omega) := fun z => by
          have := nd_inj nd L1 (by rw [z]; exact L2)
          subst this
          exact ne12 (Option.some.inj (x1.symm.trans x2))
        generalize Ls[i1]'(by omega) = A1 at L1 neL
        generalize Ls[i2]'(by omega) = A2 at L2 neL
        have a1 := at_ i1 _ A1 x1 L1
        have a2 := at_ i2 _ A2 x2 L2
        have lf : ∀ x, (frs (ps.take i) x).length ≤ 36 := fun x => by
          have h1 := frs_len (ps.take i) x
          rw [List.length_take] at h1
          omega
        have d1 : A1 ≠ D := fun z => by
          rw [z, hd] at a1
          cases a1
        have d2 : A2 ≠ D := fun z => by
          rw [z, hd] at a2
          cases a2
        have n1 : A1 ≠ M := fun z => by
          have w1 := ci.2.2.2 i1 _ A1 x1 L1
          rw [z, nM] at w1
          cases w1
        have n2 : A2 ≠ M := fun z => by
          have w1 := ci.2.2.2 i2 _ A2 x2 L2
          rw [z, nM] at w1
          cases w1
        refine ⟨U, _, rfl, SqT.of eU, rfl, _, _, rfl, _, _, rfl, rfl, ?_⟩
        refine ⟨_, rfl, _, rfl, D, .ref A1, rfl, ?_, .inl ⟨rfl, _, SqL.of a1⟩, _, rfl, A1, _, _, rfl, rfl, a1, by rw [List.length_map, sizeLine_eq]; have := lf p.1; omega, ?_⟩
        · rw [← dkv_get (vs := Ls.map V.ref) nx x1 (by rw [List.getElem?_map, L1]; rfl)]
          exact DGet.k (k := Sum.inr p.1) hd
        have hd' : ∀ o, upd H' A1 o D = some (.dK (dkv xs (Ls.map V.ref))) := fun o => by rw [upd_ne (Ne.symm d1)]; exact hd
        have a2' : ∀ o, upd H' A1 o A2 = some (.lst ((frs (ps.take i) p.2).map V.str)) := fun o => by rw [upd_ne (Ne.symm neL)]; exact a2
        refine ⟨_, rfl, _, rfl, D, .ref A2, rfl, ?_, .inl ⟨rfl, _, SqL.of (a2' _)⟩, _, rfl, A2, _, _, rfl, rfl, a2' _, by rw [List.length_map, sizeLine_eq]; have := lf p.2; omega, ?_⟩
        · rw [← dkv_get (vs := Ls.map V.ref) nx x2 (by rw [List.getElem?_map, L2]; rfl)]
          exact DGet.k (k := Sum.inr p.2) (hd' _)
        have keepM : ∀ {q : Addr} {o : HO}, q ≠ A1 → q ≠ A2 → H' q = some o → upd (upd H' A1 (.lst ((frs (ps.take i) p.1).map V.str ++ [V.str p.2]))) A2 (.lst ((frs (ps.take i) p.2).map V.str ++ [V.str p.1])) q = some o := fun {q o} z1 z2 e => by
          rw [upd_ne z2, upd_ne z1]
          exact e
        have tne : ∀ T ∈ Ts, T ≠ A1 ∧ T ≠ A2 := fun T hT => by
          obtain ⟨y, _, ey⟩ := tu3.at hT
          constructor
          · intro z
            rw [z, a1] at ey
            cases ey
          · intro z
            rw [z, a2] at ey
            cases ey
        have fr1 := fresh A1 (List.mem_of_getElem? L1)
        have fr2 := fresh A2 (List.mem_of_getElem? L2)
        refine ⟨_, _, rfl, fun q o e => keepM (fun z => ?_) (fun z => ?_) (s3 _ _ e), keepM (Ne.symm n1) (Ne.symm n2) hm3, tu3.keep fun T o hT e => keepM (tne T hT).1 (tne T hT).2 e, keepM (Ne.symm d1) (Ne.symm d2) hd, ll, nd, fun j x L hx hL => ?_⟩
        · rw [z, fr1] at e
          cases e
        · rw [z, fr2] at e
          cases e
        · rw [take_next hp, frs_snoc]
          have inj : ∀ {j j' : Nat} {L : Addr}, Ls[j]? = some L → Ls[j']? = some L → j = j' := fun {j j' L} h h' => by
            exact nd_inj nd h h'
          by_cases z2 : L = A2
          · subst z2
            have : j = i2 := inj hL L2
            subst this
            have ex : x = p.2 := Option.some.inj (hx.symm.trans x2)
            subst ex
            rw [upd_same, if_neg ne12, if_pos rfl, List.map_append]
            rfl
          · by_cases z1 : L = A1
            · subst z1
              have : j = i1 := inj hL L1
              subst this
              have ex : x = p.1 := Option.some.inj (hx.symm.trans x1)
              subst ex
              rw [upd_ne neL, upd_same, if_pos rfl, List.map_append]
              rfl
            · have ne1 : ¬ p.1 = x := fun e => z1 (by
                have : j = i1 := nd_inj nx hx (by rw [x1, e])
                subst this
                exact Option.some.inj (hL.symm.trans L1))
              have ne2 : ¬ p.2 = x := fun e => z2 (by
                have : j = i2 := nd_inj nx hx (by rw [x2, e])
                subst this
                exact Option.some.inj (hL.symm.trans L2))
              rw [if_neg ne1, if_neg ne2, List.append_nil, upd_ne z2, upd_ne z1]
              exact at_ j x L hx hL
      · rintro σ H' ⟨v3, v4, rfl, s3, hm3, tu3, ci3⟩
        have e : ps.take (Ts.map V.ref).length = ps := by rw [List.length_map, lT, List.take_length]
        rw [e] at ci3
        exact ⟨_, rfl, k H' D Ls s3 nD fresh ci3⟩
end
end Wd
end
section
set_option maxRecDepth 100000
set_option maxHeartbeats 4000000
namespace Wd
open PySem L2
theorem room65 {k : Nat} {A : Around} (r : Room k A) : A.units + 65 < cLine := by
  have := r.un
  omega
theorem any_pd (ps : List Pr) (p : Pr) : (ps.map pd).any (fun z => PyData.eqv z (pd p)) = decide (p ∈ ps) := by
  rw [List.any_map]
  induction ps with
  | nil => simp
  | cons q ps ih =>
    rw [List.any_cons, ih]
    show (PyData.eqv (pd q) (pd p) || decide (p ∈ ps)) = decide (p ∈ q :: ps)
    rw [pd_eqv]
    by_cases h : q = p
    · subst h
      simp
    · rw [decide_eq_false h, Bool.false_or]
      exact decide_eq_decide.mpr ⟨fun z => List.mem_cons_of_mem _ z, fun z => by
        rcases List.mem_cons.mp z with e | z
        · exact absurd e.symm h
        · exact z⟩
theorem mem_frs {ps : List Pr} {x y : Str} (h : ∀ p ∈ ps, Lt p.1 p.2) : y ∈ frs ps x ↔ y ≠ x ∧ mk x y ∈ ps := by
  unfold frs
  rw [List.mem_filterMap]
  constructor
  · rintro ⟨p, hp, e⟩
    have lt := h p hp
    by_cases h1 : p.1 = x
    · rw [if_pos h1] at e
      have e := Option.some.inj e
      subst h1 e
      refine ⟨fun z => Lt.irr p.1 (by rw [z] at lt; exact lt), ?_⟩
      unfold mk
      rw [if_pos lt]
      exact hp
    · rw [if_neg h1] at e
      by_cases h2 : p.2 = x
      · rw [if_pos h2] at e
        have e := Option.some.inj e
        subst h2 e
        refine ⟨h1, ?_⟩
        unfold mk
        rw [if_neg fun z => Lt.irr _ (z.tr lt)]
        exact hp
      · rw [if_neg h2] at e
        cases e
  · rintro ⟨ne, hm⟩
    refine ⟨_, hm, ?_⟩
    unfold mk
    by_cases c : Lt x y
    · rw [if_pos c, if_pos rfl]
    · rw [if_neg c, if_neg ne, if_pos rfl]
theorem frs_asc {xs : List Str} {ps : List Pr} (g : Good xs ps) (x : Str) : Asc (frs ps x) := by
  show ((frs ps x)).Pairwise Lt
  unfold frs
  rw [List.pairwise_filterMap]
  have hp : ps.Pairwise fun p q => LtP p q ∧ Lt p.1 p.2 ∧ Lt q.1 q.2 := by
    have a := g.ascP
    have b := g.of
    clear g
    induction ps with
    | nil => exact List.Pairwise.nil
    | cons p ps ih =>
      obtain ⟨a1, a2⟩ := List.pairwise_cons.mp a
      exact List.pairwise_cons.mpr ⟨fun q hq => ⟨a1 q hq, (b p List.mem_cons_self).2.2, (b q (List.mem_cons_of_mem _ hq)).2.2⟩, ih a2 fun q hq => b q (List.mem_cons_of_mem _ hq)⟩
  refine List.Pairwise.imp (fun {p q} h => ?_) hp
  obtain ⟨l, lp, lq⟩ := h
  intro b hb b' hb'
  by_cases p1 : p.1 = x
  · rw [if_pos p1] at hb
    have hb := Option.some.inj hb
    subst hb
    by_cases q1 : q.1 = x
    · rw [if_pos q1] at hb'
      have hb' := Option.some.inj hb'
      subst hb'
      rcases l with z | z
      · rw [p1, q1] at z
        exact absurd z (Lt.irr _)
      · exact z.2
    · rw [if_neg q1] at hb'
      by_cases q2 : q.2 = x
      · exfalso
        rcases l with z | z
        · rw [p1, ← q2] at z
          exact Lt.irr _ (z.tr lq)
        · exact q1 (z.1.symm.trans p1)
      · rw [if_neg q2] at hb'
        cases hb'
  · rw [if_neg p1] at hb
    by_cases p2 : p.2 = x
    · rw [if_pos p2] at hb
      have hb := Option.some.inj hb
      subst hb
      by_cases q1 : q.1 = x
      · rw [if_pos q1] at hb'
        have hb' := Option.some.inj hb'
        subst hb'
        rw [p2, ← q1] at lp
        exact lp.tr lq
      · rw [if_neg q1] at hb'
        by_cases q2 : q.2 = x
        · rw [if_pos q2] at hb'
          have hb' := Option.some.inj hb'
          subst hb'
          rcases l with z | z
          · exact z
          · rw [p2, q2] at z
            exact absurd z.2 (Lt.irr _)
        · rw [if_neg q2] at hb'
          cases hb'
    · rw [if_neg p2] at hb
      cases hb
/-- the friends are those of the people whose pair is one -/
theorem frs_eq {xs : List Str} {ps : List Pr} (g : Good xs ps) (x : Str) : frs ps x = xs.filter fun y => decide (y ≠ x ∧ mk x y ∈ ps) :=
  ascS_uniq (frs_asc g x) (List.Pairwise.filter _ g.asc) fun y => by
    rw [mem_frs fun p hp => (g.of p hp).2.2, List.mem_filter]
    constructor
    · rintro ⟨h1, h2⟩
      refine ⟨?_, decide_eq_true ⟨h1, h2⟩⟩
      have o := g.of _ h2
      rcases has_mk y x with z | z
      · have : mk x y = mk y x := by
          unfold mk
          by_cases c : Lt x y
          · rw [if_pos c, if_neg fun q => Lt.irr _ (c.tr q)]
          · by_cases d : Lt y x
            · rw [if_neg c, if_pos d]
            · rcases Lt.tri x y with q | q | q
              · exact absurd q c
              · exact absurd q.symm h1
              · exact absurd q d
        rw [z, ← this]
        exact o.1
      · have : mk x y = mk y x := by
          unfold mk
          by_cases c : Lt x y
          · rw [if_pos c, if_neg fun q => Lt.irr _ (c.tr q)]
          · by_cases d : Lt y x
            · rw [if_neg c, if_pos d]
            · rcases Lt.tri x y with q | q | q
              · exact absurd q c
              · exact absurd q.symm h1
              · exact absurd q d
        rw [z, ← this]
        exact o.2.1
    · rintro ⟨_, h⟩
      exact of_decide_eq_true h
theorem frs_le {xs : List Str} {ps : List Pr} (g : Good xs ps) (x : Str) : (frs ps x).length ≤ 9 := by
  rw [frs_eq g]
  exact Nat.le_trans (List.length_filter_le _ _) g.few.2
theorem same_over {H H' : Hp} {a : Addr} {o : HO} (s : Same H H') (h : H a = none) : Same H (upd H' a o) := same_upd2 (.inr s) h
theorem dkv_at {xs : List Str} {vs : List V} {i : Nat} {x : Str} {v : V} (h1 : xs[i]? = some x) (h2 : vs[i]? = some v) : (dkv xs vs)[i]? = some ((Sum.inr x : Key), v) := by
  unfold dkv
  rw [List.getElem?_map, List.getElem?_zip_eq_some (z := (x, v)) |>.mpr ⟨h1, h2⟩]
  rfl
def rLen (K : PySem.W.Frag) : List V → Hp → VK → Prop := fun xs H Q => ∃ p ys, xs = [.ref p] ∧ (SqL K H p ys ∨ SqT K H p ys) ∧ Q (.int ys.length) H
def spStr (C : Addr) : Sp := fun vs H Q _ => ∃ (c : Addr) (xs : List Str) (ps : List Pr), vs = [.ref c] ∧ CAt C H c xs ps ∧ Good xs ps ∧ ∀ (H' : Hp) (D : Addr), Same H H' → H D = none → PwAt H' D ((prsS xs).filter fun p => decide (p ∉ ps)) → Q (.ref D) H'
def spFrOf (C : Addr) : Sp := fun vs H Q _ => ∃ (c : Addr) (x : Str) (xs : List Str) (ps : List Pr), vs = [.ref c, .str x] ∧ CAt C H c xs ps ∧ Good xs ps ∧ x ∈ xs ∧ ∀ (H' : Hp) (L : Addr), Same H H' → H L = none → H' L = some (.lst ((frs ps x).map V.str)) → Q (.ref L) H'
def spAreF (C : Addr) : Sp := fun vs H Q _ => ∃ (c t : Addr) (p : Pr) (xs : List Str) (ps : List Pr), vs = [.ref c, .ref t] ∧ CAt C H c xs ps ∧ Good xs ps ∧ H t = some (.tup [.str p.1, .str p.2]) ∧ p ∈ prsS xs ∧ ∀ H', Same H H' → Q (.bl (decide (p ∈ ps))) H'
def degs (xs : List Str) (ps : List Pr) : List V := xs.map fun x => V.int ((frs ps x).length : Nat)
def spNums (C : Addr) : Sp := fun vs H Q _ => ∃ (c : Addr) (xs : List Str) (ps : List Pr), vs = [.ref c] ∧ CAt C H c xs ps ∧ Good xs ps ∧ ∀ (H' : Hp) (D : Addr), Same H H' → H D = none → H' D = some (.dK (dkv xs (degs xs ps))) → Q (.ref D) H'
section
variable {P : Program} {w : World} {K : PySem.W.Frag} {mg : Str → Option Value} {base : Heap}
theorem ok_strangers {f C : Addr} {fd : FuncData} (F : Fun K "strangers" "strangers" sp_strangers f fd) (T : Bt mg) (TC : CT K mg C) (CC : Has P w K mg base 1 "check_company" ["company"] (spChk C)) (CA : Has P w K mg base 1 "all_pairs" ["people"] spAllP)
    (MP : HasM P w K mg base C 1 "people" (spPplM C)) (MF : HasM P w K mg base C 1 "friends" (spFrM C)) : FnOk P w K mg base CX0 2 f fd ["company"] (spStr C) := by
  obtain ⟨fP, fdP, GP, mP, bP⟩ := MP
  obtain ⟨fF, fdF, GF, mF, bF⟩ := MF
  obtain ⟨fC, fdC, GC, mC, kC, bC⟩ := CC
  obtain ⟨fA, fdA, GA, mA, kA, bA⟩ := CA
  refine F.ok cp_strangers (fun vs H Q E h => ?_) (fun cdv A outer s H vs Q E hr h => ?_)
  · obtain ⟨_, _, _, rfl, _⟩ := h
    rfl
  · obtain ⟨c, xs, ps, rfl, hc, g, k⟩ := h
    refine ⟨_, pss_cons (ps_expr (pe_call GC hr rfl mC kC bC .nil pass0 (pa_cons (pv 0) pa_nil)))
      (pss_cons (ps_set (i := 1) cp_strangers.nd rfl (Or.inr rfl) (pe_meth0 (pv 0) TC.is.cl mF GF hr bF .nil pass0))
      (pss_one (ps_ret (pe_lc (own := [("pair", 2)]) (g := gName 2) rfl cp_strangers.nd (pi_list (pe_call GA hr rfl mA kA bA .nil pass0 (pa_cons (pe_meth0 (pv 0) TC.is.cl mP GP hr bP .nil pass0) pa_nil)))
        (blkOk_by (N := ["company", "friends", "pair"]) (sc := defScope sp_strangers) (by decide +kernel)) (fun _ _ _ _ _ => pg_name (i := 2) cp_strangers.nd rfl (Or.inl rfl)) (fun _ _ _ _ _ => pts_one (pt_cmpR (r := rNotInD K) (op_notInD (room65 hr)) (pv 2) (pv 1) rfl))
        (fun _ _ _ _ _ => pv 2))))), ?_⟩
    obtain ⟨dx, a, b, h1, h2, h3⟩ := id hc
    have l9 := g.few
    have few := g.len
    refine ⟨_, rfl, c, dx, _, rfl, h1, ?_⟩
    refine ⟨_, rfl, c, dx, _, rfl, h1, cF_no a b (by decide +kernel) (by decide +kernel), c, xs, ps, rfl, hc, by omega, fun M H1 nM s1 ⟨Ts, hm, tu⟩ => ?_⟩
    have hc1 := hc.same s1
    refine ⟨_, rfl, c, dx, _, rfl, s1 _ _ h1, cF_no a b (by decide +kernel) (by decide +kernel), c, xs, ps, rfl, hc1, by omega, fun L hL => ?_⟩
    have s2 := same_new (o := .lst (xs.map V.str)) hL
    refine ⟨L, xs, xs, rfl, upd_same, List.Perm.refl _, g.asc, by omega, fun H3 D s3 nD ⟨Us, hd, uu⟩ => ?_⟩
    have s123 := (s1.trans s2).trans s3
    have hm3 := (s2.trans s3) _ _ hm
    have tu3 := tu.same (s2.trans s3)
    have lU : Us.length = (prsS xs).length := by rw [uu.1, List.length_map]
    have l36 := Good.len0 l9.2
    refine ⟨D, rfl, ⟨_, SqL.of hd⟩, fun R hR => ?_⟩
    refine lc_list (xs := Us.map V.ref) (fun j H4 => ∃ Vs : List Addr, H4 R = some (.lst (Vs.map V.ref)) ∧ Same H3 H4 ∧ Tups H4 Vs ((((prsS xs).take j).filter fun p => decide (p ∉ ps)).map tv))
      ⟨[], upd_same, same_new hR, Tups.nil⟩ (fun j H4 _ ⟨_, _, s6, _⟩ => SqL.of (s6 _ _ hd)) ?_ ?_
    · rintro j v H4 hv ⟨Vs, hr4, s6, tv4⟩
      rw [List.getElem?_map] at hv
      obtain ⟨U, hU, rfl⟩ := Option.map_eq_some_iff.mp hv
      have jl := (List.getElem?_eq_some_iff.mp hU).1
      obtain ⟨p, hp⟩ : ∃ p, (prsS xs)[j]? = some p := ⟨_, List.getElem?_eq_getElem (by omega)⟩
      have e1 := s6 _ _ (uu.2 j U (tv p) hU (by rw [List.getElem?_map, hp]; rfl))
      have mp := mem_prsS g.asc (List.mem_of_getElem? hp)
      refine ⟨rfl, _, rfl, _, rfl, pd p, ps.map pd, dp_pair (SqT.of e1), dp_pdL (SqL.of (s6 _ _ hm3)) (tu3.same s6), pd_shaped (g.word _ mp.1) (g.word _ mp.2.1), pdL_shaped g.wp, _, rfl, ?_⟩
      rw [any_pd]
      have nx : ((prsS xs).take (j + 1)).filter (fun p => decide (p ∉ ps)) = ((prsS xs).take j).filter (fun p => decide (p ∉ ps)) ++ (if p ∈ ps then [] else [p]) := by
        rw [take_next hp, List.filter_append]
        by_cases z : p ∈ ps <;> simp [z]
      refine ite2 (fun hb => ?_) (fun hb => ?_)
      · have z : p ∉ ps := by simpa using hb
        have lu : Vs.length ≤ 36 := by
          rw [tv4.1, List.length_map]
          have h1 := List.length_filter_le (fun p => decide (p ∉ ps)) ((prsS xs).take j)
          rw [List.length_take] at h1
          omega
        refine ⟨_, rfl, _, hr4, by rw [List.length_map, sizeLine_eq]; omega, Vs ++ [U], by rw [upd_same]; simp, same_over s6 hR, ?_⟩
        rw [nx, if_neg z, List.map_append]
        have t3 := tv4.upd (a := R) (o := .lst (Vs.map V.ref ++ [V.ref U])) fun x y e => by
          rw [hr4] at e
          cases e
        exact t3.snoc (p := tv p) (by rw [upd_ne (ne_of hr4 e1 (fun z => nomatch z)).symm]; exact e1)
      · have z : p ∈ ps := by simpa using hb
        refine ⟨Vs, hr4, s6, ?_⟩
        rw [nx, if_pos z, List.append_nil]
        exact tv4
    · rintro H4 ⟨Vs, hr4, s6, tv4⟩
      have e0 : (prsS xs).take (Us.map V.ref).length = prsS xs := by rw [List.length_map, lU, List.take_length]
      rw [e0] at tv4
      exact k H4 R (s123.trans s6) (same_none s123 hR) ⟨Vs, hr4, tv4⟩
theorem ok_friends_of {f C : Addr} {fd : FuncData} (F : Fun K "friends_of" "friends_of" sp_friends_of f fd) (T : Bt mg) (TC : CT K mg C) (CC : Has P w K mg base 1 "check_company" ["company"] (spChk C)) (CP : Has P w K mg base 2 "check_person_of" ["company", "person"] (spChkP C))
    (CI : Has P w K mg base 2 "circles" ["company"] (spCirc C)) : FnOk P w K mg base CX0 3 f fd ["company", "person"] (spFrOf C) := by
  obtain ⟨fC, fdC, GC, mC, kC, bC⟩ := CC
  obtain ⟨fP, fdP, GP, mP, kP, bP⟩ := CP
  obtain ⟨fI, fdI, GI, mI, kI, bI⟩ := CI
  refine F.ok cp_friends_of (fun vs H Q E h => ?_) (fun cdv A outer s H vs Q E hr h => ?_)
  · obtain ⟨_, _, _, _, rfl, _⟩ := h
    rfl
  · obtain ⟨c, x, xs, ps, rfl, hc, g, hx, k⟩ := h
    have hr1 : Room 1 _ := hr.mono (by decide)
    refine ⟨_, pss_cons (ps_expr (pe_call GC hr1 rfl mC kC bC .nil pass0 (pa_cons (pv 0) pa_nil)))
      (pss_cons (ps_expr (pe_call GP hr rfl mP kP bP .nil pass0 (pa_cons (pv 0) (pa_cons (pv 1) pa_nil))))
      (pss_one (ps_ret (pe_dget (hu_of hr) (pe_call GI hr rfl mI kI bI .nil pass0 (pa_cons (pv 0) pa_nil)) (pv 1) (fun _ _ => rfl))))), ?_⟩
    obtain ⟨dx, a, b, h1, h2, h3⟩ := id hc
    refine ⟨_, rfl, c, dx, _, rfl, h1, ?_⟩
    refine ⟨_, rfl, _, rfl, c, x, xs, ps, rfl, hc, g, hx, fun H1 s1 => ?_⟩
    refine ⟨_, rfl, c, xs, ps, rfl, hc.same s1, g, fun H2 D Ls s2 nD fresh ci => ?_⟩
    obtain ⟨i, hi, e⟩ := List.getElem_of_mem hx
    have x1 : xs[i]? = some x := by rw [List.getElem?_eq_getElem hi, e]
    obtain ⟨hd, ll, nd, at_⟩ := ci
    obtain ⟨L, hL⟩ : ∃ L, Ls[i]? = some L := ⟨_, List.getElem?_eq_getElem (by omega)⟩
    refine ⟨_, rfl, D, .ref L, rfl, ?_, ?_⟩
    · rw [← dkv_get (vs := Ls.map V.ref) g.asc.nd x1 (by rw [List.getElem?_map, hL]; rfl)]
      exact DGet.k (k := Sum.inr x) hd
    · exact k H2 L (s1.trans s2) (same_none s1 (fresh L (List.mem_of_getElem? hL))) (at_ i x L x1 hL)
theorem ok_are_friends {f C : Addr} {fd : FuncData} (F : Fun K "are_friends" "are_friends" sp_are_friends f fd) (T : Bt mg) (TC : CT K mg C) (CC : Has P w K mg base 1 "check_company" ["company"] (spChk C)) (CP : Has P w K mg base 2 "check_pair_of" ["company", "pair"] (spChkT C))
    (MF : HasM P w K mg base C 1 "friends" (spFrM C)) : FnOk P w K mg base CX0 3 f fd ["company", "pair"] (spAreF C) := by
  obtain ⟨fC, fdC, GC, mC, kC, bC⟩ := CC
  obtain ⟨fP, fdP, GP, mP, kP, bP⟩ := CP
  obtain ⟨fF, fdF, GF, mF, bF⟩ := MF
  refine F.ok cp_are_friends (fun vs H Q E h => ?_) (fun cdv A outer s H vs Q E hr h => ?_)
  · obtain ⟨_, _, _, _, _, rfl, _⟩ := h
    rfl
  · obtain ⟨c, t, p, xs, ps, rfl, hc, g, ht, hp, k⟩ := h
    have hr1 : Room 1 _ := hr.mono (by decide)
    refine ⟨_, pss_cons (ps_expr (pe_call GC hr1 rfl mC kC bC .nil pass0 (pa_cons (pv 0) pa_nil)))
      (pss_cons (ps_expr (pe_call GP hr rfl mP kP bP .nil pass0 (pa_cons (pv 0) (pa_cons (pv 1) pa_nil))))
      (pss_one (ps_ret (pe_cmpR (op_inD (room65 hr)) (pv 1) (pe_meth0 (pv 0) TC.is.cl mF GF hr1 bF .nil pass0) rfl)))), ?_⟩
    obtain ⟨dx, a, b, h1, h2, h3⟩ := id hc
    have few := g.len
    have mp := mem_prsS g.asc hp
    refine ⟨_, rfl, c, dx, _, rfl, h1, ?_⟩
    refine ⟨_, rfl, _, rfl, c, t, p, xs, ps, rfl, hc, g, ht, hp, fun H1 s1 => ?_⟩
    refine ⟨_, rfl, _, rfl, c, dx, _, rfl, s1 _ _ h1, cF_no a b (by decide +kernel) (by decide +kernel), c, xs, ps, rfl, hc.same s1, by omega, fun M H2 nM s2 ⟨Ts, hm, tu⟩ => ?_⟩
    refine ⟨pd p, ps.map pd, dp_pair (SqT.of ((s1.trans s2) _ _ ht)), dp_pdL (SqL.of hm) tu, pd_shaped (g.word _ mp.1) (g.word _ mp.2.1), pdL_shaped g.wp, ?_⟩
    rw [any_pd]
    exact k H2 (s1.trans s2)
theorem ok_friend_numbers {f C : Addr} {fd : FuncData} (F : Fun K "friend_numbers" "friend_numbers" sp_friend_numbers f fd) (T : Bt mg) (TC : CT K mg C) (CC : Has P w K mg base 1 "check_company" ["company"] (spChk C))
    (CI : Has P w K mg base 2 "circles" ["company"] (spCirc C)) : FnOk P w K mg base CX0 3 f fd ["company"] (spNums C) := by
  obtain ⟨fC, fdC, GC, mC, kC, bC⟩ := CC
  obtain ⟨fI, fdI, GI, mI, kI, bI⟩ := CI
  refine F.ok cp_friend_numbers (fun vs H Q E h => ?_) (fun cdv A outer s H vs Q E hr h => ?_)
  · obtain ⟨_, _, _, rfl, _⟩ := h
    rfl
  · obtain ⟨c, xs, ps, rfl, hc, g, k⟩ := h
    have hr1 : Room 1 _ := hr.mono (by decide)
    refine ⟨_, pss_cons (ps_expr (pe_call GC hr1 rfl mC kC bC .nil pass0 (pa_cons (pv 0) pa_nil)))
      (pss_one (ps_ret (pe_dc (own := [("person", 1), ("circle", 2)]) (g := gTup K 2 (gCons (gName 1) (gCons (gName 2) gNil))) (tt := tYes) rfl cp_friend_numbers.nd (pi_items (pe_frz (pe_call GI hr rfl mI kI bI .nil pass0 (pa_cons (pv 0) pa_nil))))
        (blkOk_by (N := ["company", "person", "circle"]) (sc := defScope sp_friend_numbers) (by decide +kernel)) (fun _ _ _ _ _ => pg_tup rfl (pgs_cons (pg_name (i := 1) cp_friend_numbers.nd rfl (Or.inl rfl)) (pgs_cons (pg_name (i := 2) cp_friend_numbers.nd rfl (Or.inl rfl)) pgs_nil)))
        (fun _ _ _ _ _ => pts_nil) (fun _ _ _ _ _ => pv 1) (fun _ _ _ _ _ => pe_callB (r := rLen K) call_len_seq (by rfl) T.len PySem.boot_len (pa_cons (pv 2) pa_nil))))), ?_⟩
    obtain ⟨dx, a, b, h1, h2, h3⟩ := id hc
    have l9 := g.few
    refine ⟨_, rfl, c, dx, _, rfl, h1, ?_⟩
    refine ⟨_, rfl, c, xs, ps, rfl, hc, g, fun H1 Dc Ls s1 nD ls ci => ⟨Dc, _, rfl, ci.1, True.intro, fun o => ?_⟩⟩
    have ll := ci.2.1
    refine ⟨Dc, o, _, rfl, upd_same, fun D hD => ?_⟩
    have s2 : Same H (upd H1 Dc (.frz o (.dK (dkv xs (Ls.map V.ref))))) := same_over s1 nD
    have nDD : H D = none := same_none s2 hD
    have neD : Dc ≠ D := ne_of_none upd_same hD
    have at1 : ∀ (i : Nat) x L, xs[i]? = some x → Ls[i]? = some L → L ≠ Dc ∧ H1 L = some (.lst ((frs ps x).map V.str)) := fun i x L hx hL => by
      have e := ci.2.2.2 i x L hx hL
      refine ⟨fun z => ?_, e⟩
      rw [z, ci.1] at e
      cases e
    refine dc_walk (walk_items (d := Dc) (o := o) (kvs := dkv xs (Ls.map V.ref))) (fun i H' => Same H H' ∧ H' Dc = some (.frz o (.dK (dkv xs (Ls.map V.ref)))) ∧ (∀ (i : Nat) x L, xs[i]? = some x → Ls[i]? = some L → H' L = some (.lst ((frs ps x).map V.str))) ∧ H' D = some (.dK (dkv (xs.take i) ((degs xs ps).take i))))
      ⟨same_over s2 nDD, by rw [upd_ne neD, upd_same], fun i x L hx hL => ?_, upd_same⟩ (fun i H' _ z => z.2.1) ?_ ?_
    · obtain ⟨n1, e⟩ := at1 i x L hx hL
      have e2 : upd H1 Dc (.frz o (.dK (dkv xs (Ls.map V.ref)))) L = some (.lst ((frs ps x).map V.str)) := by rw [upd_ne n1]; exact e
      rw [upd_ne (ne_of_none e2 hD)]
      exact e2
    · rintro i v H2 H3 hi ⟨s3, hf, at_, hd⟩ ⟨T0, kx, vx, rfl, nT, rfl, ek, ev⟩
      rw [dkv_len (by rw [List.length_map]; exact ll)] at hi
      obtain ⟨x, hx⟩ : ∃ x, xs[i]? = some x := ⟨_, List.getElem?_eq_getElem hi⟩
      obtain ⟨L, hL⟩ : ∃ L, Ls[i]? = some L := ⟨_, List.getElem?_eq_getElem (by omega)⟩
      have ea := dkv_at (vs := Ls.map V.ref) hx (by rw [List.getElem?_map, hL]; rfl)
      simp only [ea, Option.map_some] at ek ev
      have ek := Option.some.inj ek
      have ev := Option.some.inj ev
      subst ek ev
      have hLT := at_ i x L hx hL
      have DT : D ≠ T0 := ne_of_none hd nT
      have ld : (degs xs ps).length = xs.length := List.length_map _
      refine ⟨T0, _, rfl, SqT.of upd_same, rfl, _, _, rfl, _, _, rfl, rfl, rfl, ?_⟩
      refine ⟨_, rfl, _, rfl, L, _, rfl, .inl (SqL.of (by rw [upd_ne (ne_of_none hLT nT)]; exact hLT)), _, Sum.inr x, rfl, by rw [upd_ne DT]; exact hd, ?_, same_over (same_over s3 (same_none s3 nT)) nDD, ?_, fun j y M hy hM => ?_, ?_⟩
      · rw [dkv_len (by rw [List.length_take, List.length_take, ld]), List.length_take, sizeLine_eq]
        omega
      · rw [upd_ne neD, upd_ne (ne_of_none hf nT)]
        exact hf
      · have e := at_ j y M hy hM
        have MD : M ≠ D := fun z => by
          rw [z, hd] at e
          cases e
        rw [upd_ne MD, upd_ne (ne_of_none e nT)]
        exact e
      · have nin : x ∉ xs.take i := fun z => by
          obtain ⟨j, hj, e⟩ := List.getElem_of_mem z
          rw [List.length_take] at hj
          rw [List.getElem_take] at e
          have := nd_inj g.asc.nd (List.getElem?_eq_some_iff.mpr ⟨by omega, e⟩) hx
          omega
        rw [upd_same, dkv_snoc nin (by rw [List.length_take, List.length_take, ld]), List.length_map, take_next hx]
        refine congrArg (fun l => some (HO.dK (dkv (xs.take i ++ [x]) l))) ?_
        exact (take_next (by unfold degs; rw [List.getElem?_map, hx]; rfl)).symm
    · rintro H2 ⟨s3, hf, at_, hd⟩
      rw [dkv_len (by rw [List.length_map]; exact ll), List.take_length] at hd
      have e : (degs xs ps).take xs.length = degs xs ps := List.take_of_length_le (by unfold degs; rw [List.length_map]; exact Nat.le_refl _)
      rw [e] at hd
      exact k H2 D s3 nDD hd
end
end Wd
end
section
set_option maxRecDepth 100000
set_option maxHeartbeats 4000000
namespace Wd
open PySem L2
def spForks (C : Addr) : Sp := fun vs H Q _ => ∃ (c : Addr) (x : Str) (xs : List Str) (ps : List Pr), vs = [.ref c, .str x] ∧ CAt C H c xs ps ∧ Good xs ps ∧ x ∈ xs ∧ ∀ (H' : Hp) (D : Addr), Same H H' → H D = none → PwAt H' D (prsS (frs ps x)) → Q (.ref D) H'
def forkL (xs : List Str) (ps : List Pr) : List Int := xs.map fun x => ((prsS (frs ps x)).length : Int)
def spForkN (C : Addr) : Sp := fun vs H Q _ => ∃ (c : Addr) (xs : List Str) (ps : List Pr), vs = [.ref c] ∧ CAt C H c xs ps ∧ Good xs ps ∧ ∀ H', Same H H' → Q (.int (forkL xs ps).sum) H'
def oddF (ps : List Pr) (x : Str) : Bool := decide (V.int (((frs ps x).length : Nat) % 2 : Int) = V.int 1)
def spOddP (C : Addr) : Sp := fun vs H Q _ => ∃ (c : Addr) (xs : List Str) (ps : List Pr), vs = [.ref c] ∧ CAt C H c xs ps ∧ Good xs ps ∧ ∀ (H' : Hp) (D : Addr), Same H H' → H D = none → H' D = some (.lst ((xs.filter (oddF ps)).map V.str)) → Q (.ref D) H'
def pow (b : Bool) : Str := if b = true then "part" else "befriend"
def spIsChg : Sp := fun vs H Q _ => ∃ (t u : Addr) (b : Bool) (p : Pr), vs = [.ref t] ∧ H t = some (.tup [.str (pow b), .ref u]) ∧ H u = some (.tup [.str p.1, .str p.2]) ∧ IsW p.1 ∧ IsW p.2 ∧ Lt p.1 p.2 ∧ ∀ H', Same H H' → Q (.bl true) H'
def spFit (C : Addr) : Sp := fun vs H Q _ => ∃ (c t u : Addr) (p : Pr) (xs : List Str) (ps : List Pr), vs = [.ref c, .ref t] ∧ CAt C H c xs ps ∧ Good xs ps ∧ H t = some (.tup [.str (pow (decide (p ∈ ps))), .ref u]) ∧ H u = some (.tup [.str p.1, .str p.2]) ∧ p ∈ prsS xs ∧ ∀ H', Same H H' → Q (.bl true) H'
def spTurn (C : Addr) : Sp := fun vs H Q _ => ∃ (c u : Addr) (p : Pr) (xs : List Str) (ps : List Pr), vs = [.ref c, .ref u] ∧ CAt C H c xs ps ∧ Good xs ps ∧ H u = some (.tup [.str p.1, .str p.2]) ∧ p ∈ prsS xs ∧ ∀ (H' : Hp) (D : Addr), Same H H' → H D = none → CAt C H' D xs (flip xs ps p) → Q (.ref D) H'
def spChgd (C : Addr) : Sp := fun vs H Q _ => ∃ (c t u : Addr) (p : Pr) (xs : List Str) (ps : List Pr), vs = [.ref c, .ref t] ∧ CAt C H c xs ps ∧ Good xs ps ∧ H t = some (.tup [.str (pow (decide (p ∈ ps))), .ref u]) ∧ H u = some (.tup [.str p.1, .str p.2]) ∧ p ∈ prsS xs ∧
  ∀ (H' : Hp) (D : Addr), Same H H' → H D = none → CAt C H' D xs (flip xs ps p) → Q (.ref D) H'
theorem Good.flip {xs : List Str} {ps : List Pr} (g : Good xs ps) (p : Pr) : Good xs (Wd.flip xs ps p) := ⟨g.asc, g.word, g.few, List.filter_sublist⟩
section
variable {P : Program} {w : World} {K : PySem.W.Frag} {mg : Str → Option Value} {base : Heap}
end
end Wd
end
section
set_option maxRecDepth 100000
set_option maxHeartbeats 4000000
namespace Wd
open PySem L2
theorem flip_out {xs : List Str} {ps : List Pr} {p : Pr} (g : Good xs ps) (hp : p ∈ prsS xs) (n : p ∉ ps) : (ps ++ [p]).Perm (flip xs ps p) := by
  refine (List.perm_ext_iff_of_nodup ?_ ((g.flip p).nodup)).mpr fun q => ?_
  · rw [List.nodup_append]
    refine ⟨g.nodup, by simp, fun a ha b hb => ?_⟩
    rw [List.mem_singleton.mp hb]
    rintro rfl
    exact n ha
  · rw [List.mem_append, List.mem_singleton, mem_flip]
    constructor
    · rintro (h | h)
      · have z : q ≠ p := fun e => n (e ▸ h)
        exact ⟨g.sub.subset h, by simp [h, z]⟩
      · subst h
        exact ⟨hp, by simp [n]⟩
    · rintro ⟨h1, h2⟩
      by_cases z : q = p
      · exact .inr z
      · simp only [decide_eq_false z, Bool.bne_false] at h2
        exact .inl (of_decide_eq_true h2)
theorem flip_in {xs : List Str} {ps : List Pr} {p : Pr} (g : Good xs ps) (n : p ∈ ps) : ps.filter (fun q => decide (q ≠ p)) = flip xs ps p :=
  asc_uniq (g.ascP.filter _) ((prsS_asc g.asc).filter _) fun q => by
    rw [List.mem_filter, mem_flip]
    constructor
    · rintro ⟨h1, h2⟩
      have h3 := of_decide_eq_true h2
      exact ⟨g.sub.subset h1, by simp [h1, h3]⟩
    · rintro ⟨h1, h2⟩
      by_cases z : q = p
      · subst z
        simp [n] at h2
      · simp only [decide_eq_false z, Bool.bne_false] at h2
        exact ⟨of_decide_eq_true h2, decide_eq_true z⟩
/-- how a company is made -/
structure Maker (P : Program) (w : World) (K : PySem.W.Frag) (mg : Str → Option Value) (base : Heap) (C : Addr) : Prop where
  ex : ∃ (f : Addr) (fd : FuncData), Mk K C f ∧ FnOk P w K mg base CX0 4 f fd ["self", "people", "friends"] (spInit C) ∧ Binds K fd ["self", "people", "friends"] []
section
variable {P : Program} {w : World} {K : PySem.W.Frag} {mg : Str → Option Value} {base : Heap}
end
end Wd
end
section
set_option maxRecDepth 100000
set_option maxHeartbeats 4000000
namespace Wd
open PySem PySem.Spec PyProof.Rows L2
theorem pick_whole (items : Array Value) : slicePick items none none (some 1) = items := by
  have e : slicePick items none none (some 1) = slicePick items none none none := rfl
  have h := slicePick_cut items.toList none none
  rw [e, show items = items.toList.toArray from rfl, h]
  have z0 : HT.sIx items.toList.length 0 none = 0 := rfl
  have z1 : HT.sIx items.toList.length items.toList.length none = items.toList.length := rfl
  rw [z0, z1, List.drop_zero, Nat.sub_zero, List.take_length]
/-- xs[::step], step a name that is 1 or -1 -/
def tStepL (K : PySem.W.Frag) (te : TE) (i : Nat) : TE := fun σ H Q => te σ H fun x H1 => ∃ (a : Addr) (xs : List V) (b : Bool), x = .ref a ∧ σ[i]? = some (some (.int (if b = true then 1 else -1))) ∧ SqL K H1 a xs ∧ ∀ p, H1 p = none → Q (.ref p) (L2.upd H1 p (.lst (if b = true then xs else xs.reverse)))
theorem pe_stepL {X : Cx} {e : Expr} {te : TE} {i : Nat} {y : Str} {p1 p3 pos : Pos} (he : PE X e te) (hs : PE X (.Name y p1) (tVar i)) : PE X (.Subscript e (.Slice none none (some (.Name y p1)) p3) pos) (tStepL X.K te i) := by
  refine ⟨fun pins s σ H Q I h => Subscript_ (thn (he.run pins s σ H _ I h) ?_)⟩
  rintro v s1 ⟨x, H1, I1, r1, a, xs, b, rfl, hv, hx, k⟩
  cases r1
  have part : PO X (some (.Name y p1)) (tPart (tVar i)) := po_some hs
  refine wpAny_Slice (thn (po_none.run pins s1 σ H1 (fun o H2 => o = none ∧ H2 = H1) I1 ⟨rfl, rfl⟩) ?_)
  rintro vl s2 ⟨l, H2, I2, pl, rfl, rfl⟩
  refine thn (po_none.run pins s2 σ H2 (fun o H3 => o = none ∧ H3 = H2) I2 ⟨rfl, rfl⟩) ?_
  rintro vu s3 ⟨u, H3, I3, pu, rfl, rfl⟩
  refine thn (part.run pins s3 σ H3 (fun o H4 => o = some (if b = true then 1 else -1) ∧ H4 = H3) I3 ⟨_, hv, _, rfl, rfl, rfl⟩) ?_
  rintro vs s4 ⟨o, H4, I4, pt, rfl, rfl⟩
  have I5 : Inv X pins σ H4 { s4 with heap := s4.heap.push { cls := .type "slice", data := .fields #[vl, vu, vs] } } := I4.kept (t' := s4.toks) fun _ _ z => Heap.get?_push_of_some _ z
  obtain ⟨its, r, ht, hz⟩ := I5.list hx
  have hlen := r.length
  show wpAny (model X.prog X.w) X.A (subscriptTail e (.Slice none none (some (.Name y p1)) p3) (.ref a) (.ref s4.heap.objs.size)) (EP X pins σ Q) X.xe { s4 with heap := s4.heap.push { cls := .type "slice", data := .fields #[vl, vu, vs] } }
  refine tail_any (ops := [.ref a, .ref s4.heap.objs.size]) ht.isList.typeIs (PySem.slot_list_getitem.lookup) ?_ (by with_unfolding_all rfl)
  refine wpAny_getItem_list_slice ht.isList (Heap.IsSliceOf.new _ vl vu vs) pl pu pt (by cases b <;> decide) ?_ (by rw [List.size_toArray]; omega)
  cases b with
  | true =>
    have e1 : slicePick its.toArray none none (some (if true = true then 1 else -1)) = its.toArray := pick_whole _
    rw [e1]
    refine ⟨.ref _, _, I5.laid (t' := s4.toks) (o := .lst xs) (fun _ _ z => Heap.get?_push_of_some _ z) (Nat.le_refl _) ⟨hz, _, 0, r, Heap.get?_push_size _ rfl⟩, rfl, k _ (I5.hok.fresh (Nat.le_refl _))⟩
  | false =>
    have e1 : slicePick its.toArray none none (some (if false = true then 1 else -1)) = its.toArray.toList.reverse.toArray := PySem.W.krv_pick _
    rw [e1]
    refine ⟨.ref _, _, I5.laid (t' := s4.toks) (o := .lst xs.reverse) (fun _ _ z => Heap.get?_push_of_some _ z) (Nat.le_refl _) ⟨by rw [List.length_reverse]; exact hz, _, 0, r.reverse, Heap.get?_push_size _ rfl⟩, rfl, k _ (I5.hok.fresh (Nat.le_refl _))⟩
end Wd
end
section
set_option maxRecDepth 100000
set_option maxHeartbeats 4000000
namespace Wd
open PySem L2
theorem Tups.rev {H : Hp} {Ts : List Addr} {ps : List (V × V)} (t : Tups H Ts ps) : Tups H Ts.reverse ps.reverse := by
  refine ⟨by rw [List.length_reverse, List.length_reverse, t.1], fun k T p h1 h2 => ?_⟩
  have l1 : k < Ts.reverse.length := (List.getElem?_eq_some_iff.mp h1).1
  rw [List.length_reverse] at l1
  rw [List.getElem?_reverse l1] at h1
  rw [List.getElem?_reverse (by rw [← t.1]; exact l1), ← t.1] at h2
  exact t.2 _ T p h1 h2
theorem map_set {α β : Type} [DecidableEq α] {xs : List α} {f : α → β} {i : Nat} {x : α} {v : β} (nd : xs.Nodup) (h : xs[i]? = some x) : (xs.map f).set i v = xs.map fun y => if y = x then v else f y := by
  apply List.ext_getElem?
  intro j
  rw [List.getElem?_set, List.getElem?_map, List.getElem?_map]
  by_cases e : i = j
  · subst e
    have := (List.getElem?_eq_some_iff.mp h).1
    rw [if_pos rfl, if_pos (by rw [List.length_map]; exact this), h]
    simp
  · rw [if_neg e]
    cases hj : xs[j]? with
    | none => rfl
    | some y =>
      have : y ≠ x := fun z => e (nd_inj nd h (by rw [hj, z]))
      simp [this]
theorem merge_dkv : ∀ (more acc : List Str) (f : Str → V), (acc ++ more).Nodup → mergeK (dkv acc (acc.map f)) (dkv more (more.map f)) = dkv (acc ++ more) ((acc ++ more).map f)
  | [], acc, f, _ => by
    rw [List.append_nil]
    rfl
  | x :: more, acc, f, nd => by
    have nin : x ∉ acc := fun z => (List.nodup_append.mp nd).2.2 x z x List.mem_cons_self rfl
    have e : acc ++ x :: more = (acc ++ [x]) ++ more := by rw [List.append_assoc]; rfl
    show mergeK (putK (dkv acc (acc.map f)) (Sum.inr x) (f x)) (dkv more (more.map f)) = _
    rw [dkv_snoc nin (List.length_map _), e]
    have h := merge_dkv more (acc ++ [x]) f (by rw [← e]; exact nd)
    rw [List.map_append] at h
    exact h
theorem dkv_mem {xs : List Str} {vs : List V} {i : Nat} {kv : Key × V} (h : (dkv xs vs)[i]? = some kv) : ∃ x v, xs[i]? = some x ∧ vs[i]? = some v ∧ kv = (Sum.inr x, v) := by
  unfold dkv at h
  rw [List.getElem?_map] at h
  obtain ⟨z, hz, rfl⟩ := Option.map_eq_some_iff.mp h
  obtain ⟨z1, z2⟩ := List.getElem?_zip_eq_some.mp hz
  exact ⟨_, _, z1, z2, rfl⟩
theorem paired_of {α β : Type} {R : α → β → Prop} : ∀ {as : List α} {bs : List β}, as.length = bs.length → (∀ (i : Nat) a b, as[i]? = some a → bs[i]? = some b → R a b) → Paired R as bs
  | [], [], _, _ => .nil
  | [], b :: bs, h, _ => by simp at h
  | a :: as, [], h, _ => by simp at h
  | a :: as, b :: bs, h, r => .cons (r 0 a b rfl rfl) (paired_of (by simpa using h) fun i x y h1 h2 => r (i + 1) x y (by simpa using h1) (by simpa using h2))
def spComp (C : Addr) : Sp := fun vs H Q _ => ∃ (a : Addr) (xs : List Str) (ps : List Pr), vs = [.ref a] ∧ WAt H a xs ps ∧ Good xs ps ∧ ∀ (H' : Hp) (D : Addr), Same H H' → H D = none → CAt C H' D xs ps → Q (.ref D) H'
def spNumL : Sp := fun vs H Q _ => ∃ (a : Addr) (xs : List Str) (ps : List Pr), vs = [.ref a] ∧ WAt H a xs ps ∧ Good xs ps ∧ ∀ (H' : Hp) (D : Addr), Same H H' → H D = none → H' D = some (.dK (dkv xs (degs xs ps))) → Q (.ref D) H'
def spOddL : Sp := fun vs H Q _ => ∃ (a : Addr) (xs : List Str) (ps : List Pr), vs = [.ref a] ∧ WAt H a xs ps ∧ Good xs ps ∧ ∀ (H' : Hp) (D : Addr), Same H H' → H D = none → H' D = some (.lst ((xs.filter (oddF ps)).map V.str)) → Q (.ref D) H'
def spFrL : Sp := fun vs H Q _ => ∃ (a : Addr) (x : Str) (xs : List Str) (ps : List Pr), vs = [.ref a, .str x] ∧ WAt H a xs ps ∧ Good xs ps ∧ ∀ (H' : Hp) (D : Addr), Same H H' → H D = none → H' D = some (.lst ((frs ps x).map V.str)) → Q (.ref D) H'
def spFksL : Sp := fun vs H Q _ => ∃ (a : Addr) (xs : List Str) (ps : List Pr), vs = [.ref a] ∧ WAt H a xs ps ∧ Good xs ps ∧ ∀ H', Same H H' → Q (.int (forkL xs ps).sum) H'
section
variable {P : Program} {w : World} {K : PySem.W.Frag} {mg : Str → Option Value} {base : Heap}
theorem ok_company {f C : Addr} {fd : FuncData} (F : Fun K "_law_company" "_law_company" s_company f fd) (T : Bt mg) (TC : CT K mg C) (M : Maker P w K mg base C) : FnOk P w K mg base CX0 6 f fd ["_law_world_here"] (spComp C) := by
  obtain ⟨fI, fdI, MI, GI, bI⟩ := M.ex
  refine F.ok c_company (fun vs H Q E h => ?_) (fun cdv A outer s H vs Q E hr h => ?_)
  · obtain ⟨_, _, _, rfl, _⟩ := h
    rfl
  · obtain ⟨a, xs, ps, rfl, ⟨c, l, ha, hc, Ts, hl, tu⟩, g, k⟩ := h
    refine ⟨_, pss_cons (ps_set (i := 1) c_company.nd rfl (Or.inl rfl) (pe_op op_sub pe_int (pe_op op_mul pe_int (pe_op op_mod (pe_callTy call_int1 (by rfl) T.int (by decide +kernel) (pa_cons (pe_callB call_len_seq (by rfl) T.len PySem.boot_len (pa_cons (pe_ix ix_list (pv 0) pe_int (fun _ _ => rfl)) pa_nil)) pa_nil)) pe_int))))
      (pss_one (ps_ret (pe_make MI GI hr rfl TC.mC bI .nil pass0 (pa_cons (pe_stepL (i := 1) (pe_ix ix_list (pv 0) pe_int (fun _ _ => rfl)) (pv 1)) (pa_cons (pe_stepL (i := 1) (pe_ix ix_list (pv 0) pe_int (fun _ _ => rfl)) (pv 1)) pa_nil))))), ?_⟩
    have few := g.len
    have lT : Ts.length = ps.length := by rw [tu.1, List.length_map]
    refine ⟨_, rfl, a, _, _, .ref l, rfl, rfl, SqL.of ha, rfl, l, _, rfl, .inl (SqL.of hl), .inl ⟨_, rfl, ?_⟩⟩
    refine ⟨_, _, rfl, rfl, (by show (0 : Int) < 2; decide), _, _, rfl, rfl, .inl ⟨by decide, by decide⟩, _, _, rfl, rfl, ?_⟩
    have eb : ∃ b : Bool, (1 - 2 * (((Ts.map V.ref).length : Nat) % 2 : Int)) = if b = true then 1 else -1 := by
      rcases (show ((Ts.map V.ref).length : Int) % 2 = 0 ∨ ((Ts.map V.ref).length : Int) % 2 = 1 by omega) with z | z
      · exact ⟨true, by rw [z]; rfl⟩
      · exact ⟨false, by rw [z]; rfl⟩
    obtain ⟨b, eb⟩ := eb
    refine ⟨_, rfl, a, _, _, .ref c, rfl, rfl, SqL.of ha, rfl, c, xs.map V.str, b, rfl, congrArg (fun i => some (some (V.int i))) eb, SqL.of hc, fun L hL => ?_⟩
    have s1 := same_new (o := .lst (if b = true then xs.map V.str else (xs.map V.str).reverse)) hL
    refine ⟨_, rfl, a, _, _, .ref l, rfl, rfl, SqL.of (s1 _ _ ha), rfl, l, Ts.map V.ref, b, rfl, congrArg (fun i => some (some (V.int i))) eb, SqL.of (s1 _ _ hl), fun N hN => ?_⟩
    have s2 := same_updN (o := .lst (if b = true then Ts.map V.ref else (Ts.map V.ref).reverse)) s1 hN
    intro x dx nx ndx nex
    have nx' : upd (upd (upd H L (.lst (if b = true then xs.map V.str else (xs.map V.str).reverse))) N (.lst (if b = true then Ts.map V.ref else (Ts.map V.ref).reverse))) dx (.own x) x = none := by rw [upd_ne (Ne.symm nex)]; exact nx
    have s3 := same_updN (o := .ins C dx []) (same_new (o := .own x) ndx) nx'
    have nH : H x = none := same_none s2 nx
    have LN : L ≠ N := ne_of_none upd_same hN
    refine ⟨x, dx, L, N, if b = true then xs else xs.reverse, xs, if b = true then ps else ps.reverse, ps, rfl, upd_same, s3 _ _ ?_, ⟨if b = true then Ts else Ts.reverse, s3 _ _ ?_, ?_⟩, ?_, ?_, g, fun H4 sx ca => ⟨rfl, ?_⟩⟩
    · rw [upd_ne LN, upd_same]
      cases b <;> simp
    · rw [upd_same]
      cases b <;> simp
    · have t3 := tu.same (s2.trans s3)
      cases b with
      | true => exact t3
      | false =>
        have := t3.rev
        rw [← List.map_reverse (f := tv)] at this
        exact this
    · cases b with
      | true => exact List.Perm.refl _
      | false => exact List.reverse_perm _
    · cases b with
      | true => exact List.Perm.refl _
      | false => exact List.reverse_perm _
    · exact k H4 x (fun q o e => sx q o (ne_of_none e nH) ((s2.trans s3) _ _ e)) nH ca
theorem ok_numbers {f : Addr} {fd : FuncData} (F : Fun K "_law_numbers" "_law_numbers" s_numbers f fd) (T : Bt mg) : FnOk P w K mg base CX0 1 f fd ["_law_world_here"] spNumL := by
  refine F.ok c_numbers (fun vs H Q E h => ?_) (fun cdv A outer s H vs Q E hr h => ?_)
  · obtain ⟨_, _, _, rfl, _⟩ := h
    rfl
  · obtain ⟨a, xs, ps, rfl, ⟨c, l, ha, hc, Ts, hl, tu⟩, g, k⟩ := h
    have hu := hu_of hr
    refine ⟨_, pss_cons (ps_set (i := 2) c_numbers.nd rfl (Or.inl rfl) (pe_callTy (call_dictP rfl) (by rfl) T.dict (by decide +kernel) (pa_cons (pe_lc (own := [("_law_person", 1)]) (g := gName 1) (tt := tYes) rfl c_numbers.nd (pi_list (pe_ix ix_list (pv 0) pe_int (fun _ _ => rfl)))
        (blkOk_by (N := ["_law_world_here", "_law_person", "_law_found", "_law_first", "_law_second"]) (sc := defScope s_numbers) (by decide +kernel)) (fun _ _ _ _ _ => pg_name (i := 1) c_numbers.nd rfl (Or.inl rfl)) (fun _ _ _ _ _ => pts_nil)
        (fun _ _ _ _ _ => pe_tup (pa_cons (pv 1) (pa_cons pe_int pa_nil)))) pa_nil)))
      (pss_cons (ps_for PassesOwn.never rfl (pi_list (pe_ix ix_list (pv 0) pe_int (fun _ _ => rfl))) (pg_tup rfl (pgs_cons (pg_name (i := 3) c_numbers.nd rfl (Or.inl rfl)) (pgs_cons (pg_name (i := 4) c_numbers.nd rfl (Or.inl rfl)) pgs_nil)))
        (pss_cons (ps_dput hu (pv 2) (pv 3) (pe_op op_add (pe_dget hu (pv 2) (pv 3) (fun _ _ => rfl)) pe_int) rfl)
        (pss_one (ps_dput hu (pv 2) (pv 4) (pe_op op_add (pe_dget hu (pv 2) (pv 4) (fun _ _ => rfl)) pe_int) rfl))))
      (pss_one (ps_ret (pv 2)))), ?_⟩
    have few := g.len
    have l9 := g.few
    have nx := g.asc.nd
    have lT : Ts.length = ps.length := by rw [tu.1, List.length_map]
    refine ⟨_, rfl, a, _, _, .ref c, rfl, rfl, SqL.of ha, rfl, c, rfl, ⟨_, SqL.of hc⟩, fun B hB => ?_⟩
    refine lc_list (xs := xs.map V.str) (fun j H2 => ∃ Us : List Addr, H2 B = some (.lst (Us.map V.ref)) ∧ Same H H2 ∧ Tups H2 Us ((xs.take j).map fun x => (V.str x, V.int 0)))
      ⟨[], upd_same, same_new hB, Tups.nil⟩ (fun j H2 _ ⟨Us, _, s6, _⟩ => SqL.of (s6 _ _ hc)) ?_ ?_
    · rintro j v H2 hv ⟨Us, hu2, s6, tu2⟩
      rw [List.getElem?_map] at hv
      obtain ⟨x, hx, rfl⟩ := Option.map_eq_some_iff.mp hv
      have jl := (List.getElem?_eq_some_iff.mp hx).1
      refine ⟨rfl, _, rfl, by show 2 ≤ sizeLine; decide, fun Z hZ => ?_⟩
      have BZ : B ≠ Z := ne_of_none hu2 hZ
      have lu : Us.length ≤ 9 := by
        rw [tu2.1, List.length_map, List.length_take]
        omega
      refine ⟨_, by rw [upd_ne BZ]; exact hu2, by rw [List.length_map, sizeLine_eq]; omega, Us ++ [Z], by rw [upd_same]; simp, same_over (same_updN s6 hZ) hB, ?_⟩
      rw [take_next hx, List.map_append]
      have cne : ∀ T ∈ Us, T ≠ B := tu2.ne fun x y e => by
        rw [hu2] at e
        cases e
      have t3 : Tups (upd (upd H2 Z (.tup [.str x, .int 0])) B (.lst (Us.map V.ref ++ [V.ref Z]))) Us ((xs.take j).map fun x => (V.str x, V.int 0)) := tu2.keep fun T o hT e => by
        rw [upd_ne (cne T hT), upd_ne (ne_of_none e hZ)]
        exact e
      exact t3.snoc (p := (V.str x, V.int 0)) (by rw [upd_ne (Ne.symm BZ), upd_same])
    · rintro H2 ⟨Us, hu2, s6, tu2⟩
      rw [List.length_map, List.take_length] at tu2
      refine ⟨B, Us, dkv xs (xs.map fun _ => V.int 0), rfl, SqL.of hu2, paired_of (by rw [tu2.1, List.length_map, dkv_len (List.length_map _)]) fun i U kv hU hkv => ?_, fun D hD => ?_⟩
      · obtain ⟨x, v, h1, h2, rfl⟩ := dkv_mem hkv
        rw [List.getElem?_map, h1] at h2
        have h2 := Option.some.inj h2
        subst h2
        exact SqT.of (tu2.2 i U (V.str x, V.int 0) hU (by rw [List.getElem?_map, h1]; rfl))
      have em : mergeK [] (dkv xs (xs.map fun _ => V.int 0)) = dkv xs (xs.map fun _ => V.int 0) := merge_dkv xs [] (fun _ => V.int 0) nx
      rw [em]
      have nD : H D = none := same_none s6 hD
      have s7 := same_updN (o := .dK (dkv xs (xs.map fun _ => V.int 0))) s6 hD
      refine ⟨_, rfl, a, _, _, .ref l, rfl, rfl, SqL.of (s7 _ _ ha), rfl, l, rfl, ⟨_, SqL.of (s7 _ _ hl)⟩, ?_⟩
      refine for_list (xs := Ts.map V.ref) (fun i σ H' => ∃ v3 v4 : Option V, σ = [some (.ref a), none, some (.ref D), v3, v4] ∧ Same H H' ∧ H' D = some (.dK (dkv xs (degs xs (ps.take i)))))
        ⟨none, none, rfl, s7, upd_same⟩ (fun i σ H' _ ⟨_, _, _, z, _⟩ => SqL.of (z _ _ hl)) ?_ ?_
      · rintro i v σ H' hv ⟨v3, v4, rfl, s3, hd⟩
        rw [List.getElem?_map] at hv
        obtain ⟨U, hU, rfl⟩ := Option.map_eq_some_iff.mp hv
        have il := (List.getElem?_eq_some_iff.mp hU).1
        obtain ⟨p, hp⟩ : ∃ p, ps[i]? = some p := ⟨_, List.getElem?_eq_getElem (by omega)⟩
        have eU := s3 _ _ (tu.2 i U (tv p) hU (by rw [List.getElem?_map, hp]; rfl))
        obtain ⟨m1, m2, lt⟩ := g.of p (List.mem_of_getElem? hp)
        have ne12 : p.1 ≠ p.2 := fun e => Lt.irr p.2 (by rw [e] at lt; exact lt)
        obtain ⟨i1, hi1, e1⟩ := List.getElem_of_mem m1
        obtain ⟨i2, hi2, e2⟩ := List.getElem_of_mem m2
        have x1 : xs[i1]? = some p.1 := by rw [List.getElem?_eq_getElem hi1, e1]
        have x2 : xs[i2]? = some p.2 := by rw [List.getElem?_eq_getElem hi2, e2]
        have ld : ∀ f : Str → V, (xs.map f).length = xs.length := fun f => List.length_map _
        refine ⟨U, _, rfl, SqT.of eU, rfl, _, _, rfl, _, _, rfl, rfl, ?_⟩
        refine ⟨_, rfl, _, rfl, D, .int ((frs (ps.take i) p.1).length : Nat), rfl, ?_, _, _, rfl, rfl, _, rfl, _, rfl, D, _, rfl, DPut.k (k := Sum.inr p.1) hd (by rw [dkv_len (show (degs xs (ps.take i)).length = xs.length from ld _), sizeLine_eq]; omega), ?_⟩
        · rw [← dkv_get (vs := degs xs (ps.take i)) nx x1 (by unfold degs; rw [List.getElem?_map, x1]; rfl)]
          exact DGet.k (k := Sum.inr p.1) hd
        have st1 : putK (dkv xs (degs xs (ps.take i))) (Sum.inr p.1) (V.int (((frs (ps.take i) p.1).length : Nat) + 1)) = dkv xs (xs.map fun y => if y = p.1 then V.int (((frs (ps.take i) p.1).length : Nat) + 1) else V.int ((frs (ps.take i) y).length : Nat)) := by
          rw [dkv_set nx x1 (by unfold degs; rw [ld]; exact hi1)]
          unfold degs
          rw [map_set nx x1]
        rw [st1]
        refine ⟨_, rfl, _, rfl, D, .int ((frs (ps.take i) p.2).length : Nat), rfl, ?_, _, _, rfl, rfl, _, rfl, _, rfl, D, _, rfl, DPut.k (k := Sum.inr p.2) upd_same (by rw [dkv_len (ld _), sizeLine_eq]; omega), ?_⟩
        · rw [← dkv_get (vs := xs.map fun y => if y = p.1 then V.int (((frs (ps.take i) p.1).length : Nat) + 1) else V.int ((frs (ps.take i) y).length : Nat)) nx x2 (by rw [List.getElem?_map, x2]; simp [Ne.symm ne12])]
          exact DGet.k (k := Sum.inr p.2) upd_same
        refine ⟨_, _, rfl, same_over (same_over s3 nD) nD, ?_⟩
        rw [upd_same, dkv_set nx x2 (by rw [ld]; exact hi2), map_set nx x2, take_next hp]
        refine congrArg (fun l => some (HO.dK (dkv xs l))) ?_
        unfold degs
        refine List.map_congr_left fun y _ => ?_
        rw [frs_snoc, List.length_append]
        by_cases z2 : y = p.2
        · subst z2
          rw [if_pos rfl, if_neg ne12, if_pos rfl]
          rfl
        · rw [if_neg z2]
          by_cases z1 : y = p.1
          · subst z1
            rw [if_pos rfl, if_pos rfl]
            rfl
          · rw [if_neg z1, if_neg (fun e => z1 e.symm), if_neg (fun e => z2 e.symm)]
            rfl
      · rintro σ H' ⟨v3, v4, rfl, s3, hd⟩
        have e : ps.take (Ts.map V.ref).length = ps := by rw [List.length_map, lT, List.take_length]
        rw [e] at hd
        exact ⟨_, rfl, k H' D s3 nD hd⟩
theorem ok_frL {f : Addr} {fd : FuncData} (F : Fun K "_law_friends_of" "_law_friends_of" s_friends_of f fd) (T : Bt mg) (CN : Has P w K mg base 1 "_law_net" ["_law_world_here"] spNet) (CP : Has P w K mg base 1 "_law_pair" ["_law_first", "_law_second"] spPair) :
    FnOk P w K mg base CX0 2 f fd ["_law_world_here", "_law_person"] spFrL := by
  obtain ⟨fN, fdN, GN, mN, kN, bN⟩ := CN
  obtain ⟨fP, fdP, GP, mP, kP, bP⟩ := CP
  refine F.ok c_friends_of (fun vs H Q E h => ?_) (fun cdv A outer s H vs Q E hr h => ?_)
  · obtain ⟨_, _, _, _, rfl, _⟩ := h
    rfl
  · obtain ⟨a, x, xs, ps, rfl, W0, g, k⟩ := h
    refine ⟨_, pss_cons (ps_set (i := 2) c_friends_of.nd rfl (Or.inr rfl) (pe_call GN hr rfl mN kN bN .nil pass0 (pa_cons (pv 0) pa_nil)))
      (pss_one (ps_ret (pe_lc (own := [("_law_late", 3)]) (g := gName 3) rfl c_friends_of.nd (pi_list (pe_ix ix_list (pv 0) pe_int (fun _ _ => rfl)))
        (blkOk_by (N := ["_law_world_here", "_law_person", "_law_net_here", "_law_late"]) (sc := defScope s_friends_of) (by decide +kernel)) (fun _ _ _ _ _ => pg_name (i := 3) c_friends_of.nd rfl (Or.inl rfl))
        (fun _ _ _ _ _ => pts_one (PW.pt (pw_and (pt_cmpR op_ne (pv 3) (pv 1) (nomark _)) (pw_and1 (pt_cmp (pc_din (hu_of hr) (pe_call GP hr rfl mP kP bP .nil pass0 (pa_cons (pv 1) (pa_cons (pv 3) pa_nil))) (pv 2))))))) (fun _ _ _ _ _ => pv 3)))), ?_⟩
    obtain ⟨c, l, ha, hc, hps⟩ := id W0
    have l9 := g.few
    have few := g.len
    refine ⟨_, rfl, a, xs, ps, rfl, W0, g.nodup, by omega, fun H1 N s1 nN hN => ?_⟩
    refine ⟨_, rfl, a, _, _, .ref c, rfl, rfl, SqL.of (s1 _ _ ha), rfl, c, rfl, ⟨_, SqL.of (s1 _ _ hc)⟩, fun D hD => ?_⟩
    have nD : H D = none := same_none s1 hD
    have DN : N ≠ D := ne_of_none hN hD
    rw [frs_eq g] at k
    refine lc_list (xs := xs.map V.str) (fun i H2 => Same H H2 ∧ H2 N = some (.dT (netK ps)) ∧ H2 D = some (.lst (((xs.take i).filter fun y => decide (y ≠ x ∧ mk x y ∈ ps)).map V.str)))
      ⟨same_over s1 nD, by rw [upd_ne DN]; exact hN, upd_same⟩ (fun i H2 _ z => SqL.of (z.1 _ _ hc)) ?_ ?_
    · rintro i v H2 hv ⟨s3, hn, hd⟩
      rw [List.getElem?_map] at hv
      obtain ⟨y, hy, rfl⟩ := Option.map_eq_some_iff.mp hv
      have il := (List.getElem?_eq_some_iff.mp hy).1
      have nx : ((xs.take (i + 1)).filter fun y => decide (y ≠ x ∧ mk x y ∈ ps)) = ((xs.take i).filter fun y => decide (y ≠ x ∧ mk x y ∈ ps)) ++ if decide (y ≠ x ∧ mk x y ∈ ps) = true then [y] else [] := filter_next hy
      refine ⟨rfl, _, rfl, _, rfl, rfl, _, rfl, ?_⟩
      refine ite2 (fun hb => ?_) (fun hb => ?_)
      · have hb : y ≠ x := fun e => by
          rw [e] at hb
          simp at hb
        refine ⟨_, rfl, _, rfl, x, y, rfl, fun T0 nT => ?_⟩
        have sT := same_updN (o := .tup [.str (mk x y).1, .str (mk x y).2]) s3 nT
        have hnT : upd H2 T0 (.tup [.str (mk x y).1, .str (mk x y).2]) N = some (.dT (netK ps)) := by rw [upd_ne (ne_of_none hn nT)]; exact hn
        have DT : D ≠ T0 := ne_of_none hd nT
        refine ⟨_, rfl, N, _, rfl, DGet.t (k := pk (mk x y)) hnT upd_same, _, rfl, ?_⟩
        rw [net_get]
        refine ite2 (fun hc2 => ?_) (fun hc2 => ?_)
        · have hm : mk x y ∈ ps := of_decide_eq_true hc2
          refine ⟨_, rfl, _, by rw [upd_ne DT]; exact hd, ?_, same_over sT nD, by rw [upd_ne DN]; exact hnT, ?_⟩
          · have h1 := List.length_filter_le (fun y => decide (y ≠ x ∧ mk x y ∈ ps)) (xs.take i)
            rw [List.length_map, sizeLine_eq]
            rw [List.length_take] at h1
            omega
          · rw [upd_same, nx, if_pos (decide_eq_true ⟨hb, hm⟩), List.map_append]
            rfl
        · have hm : mk x y ∉ ps := fun z => hc2 (decide_eq_true z)
          refine ⟨sT, hnT, ?_⟩
          rw [upd_ne DT, nx, if_neg (fun z => hm (of_decide_eq_true z).2), List.append_nil]
          exact hd
      · have hb : y = x := by
          rcases Classical.em (y = x) with z | z
          · exact z
          · exact absurd (by simp [z]) hb
        refine ⟨s3, hn, ?_⟩
        rw [nx, if_neg (fun z => (of_decide_eq_true z).1 hb), List.append_nil]
        exact hd
    · rintro H2 ⟨s3, hn, hd⟩
      rw [List.length_map, List.take_length] at hd
      exact k H2 D s3 nD hd
end
end Wd
end
section
set_option maxRecDepth 100000
set_option maxHeartbeats 4000000
namespace Wd
open PySem L2
/-- 1 if the two are one of the pairs -/
def ev (ps : List Pr) (a b : Str) : Nat := if (a, b) ∈ ps then 1 else 0
/-- what a triple with so many friendships is worth -/
def gg (t : Nat) : Int := if t = 2 then 1 else if t = 3 then 3 else 0
def inn (ps : List Pr) (x y : Str) : List Str → Int
  | [] => 0
  | z :: s => gg (ev ps x y + ev ps x z + ev ps y z) + inn ps x y s
def row (ps : List Pr) (x : Str) : List Str → Int
  | [] => 0
  | y :: s => inn ps x y s + row ps x s
def tri (ps : List Pr) : List Str → Int
  | [] => 0
  | x :: r => row ps x r + tri ps r
def four (a b c d : Int) : List V := [.int a, .int b, .int c, .int d]
theorem slot4 (a b c d : Int) {t : Nat} (h : t ≤ 3) : ∃ v : Int, atI (four a b c d) (t : Int) = some (.int v) ∧ ixN (four a b c d).length (t : Int) = some t ∧ ∃ a' b' c' d' : Int, (four a b c d).set t (.int (v + 1)) = four a' b' c' d' ∧ c' + 3 * d' = c + 3 * d + gg t := by
  rcases (show t = 0 ∨ t = 1 ∨ t = 2 ∨ t = 3 by omega) with rfl | rfl | rfl | rfl
  · exact ⟨a, rfl, rfl, a + 1, b, c, d, rfl, by show _ = c + 3 * d + 0; omega⟩
  · exact ⟨b, rfl, rfl, a, b + 1, c, d, rfl, by show _ = c + 3 * d + 0; omega⟩
  · exact ⟨c, rfl, rfl, a, b, c + 1, d, rfl, by show _ = c + 3 * d + 1; omega⟩
  · exact ⟨d, rfl, rfl, a, b, c, d + 1, rfl, by show _ = c + 3 * d + 3; omega⟩
theorem drop_next {α : Type} {l : List α} {i : Nat} {x : α} (h : l[i]? = some x) : l.drop i = x :: l.drop (i + 1) := by
  obtain ⟨h1, h2⟩ := List.getElem?_eq_some_iff.mp h
  rw [List.drop_eq_getElem_cons h1, h2]
def spTri : Sp := fun vs H Q _ => ∃ (a : Addr) (xs : List Str) (ps : List Pr), vs = [.ref a] ∧ WAt H a xs ps ∧ Good xs ps ∧ ∀ (H' : Hp) (D : Addr) (a b c d : Int), Same H H' → H D = none → H' D = some (.lst (four a b c d)) → c + 3 * d = tri ps xs → Q (.ref D) H'
section
variable {P : Program} {w : World} {K : PySem.W.Frag} {mg : Str → Option Value} {base : Heap}
end
end Wd
end
section
set_option maxRecDepth 100000
set_option maxHeartbeats 4000000
namespace Wd
open PySem L2
def Atom (v : V) : Prop := (∃ i, v = .int i) ∨ (∃ x, v = .str x) ∨ ∃ b, v = .bl b
/-- the same data, at most n deep -/
inductive Sm (H : Hp) : Nat → V → V → Prop
  | atom {v : V} (n : Nat) (h : Atom v) : Sm H n v v
  | lst {n : Nat} {a b : Addr} {xs ys : List V} (ha : H a = some (.lst xs)) (hb : H b = some (.lst ys)) (l : xs.length = ys.length) (few : xs.length ≤ 100) (h : ∀ (i : Nat) x y, xs[i]? = some x → ys[i]? = some y → Sm H n x y) : Sm H (n + 1) (.ref a) (.ref b)
  | tup {n : Nat} {a b : Addr} {xs ys : List V} (ha : H a = some (.tup xs)) (hb : H b = some (.tup ys)) (l : xs.length = ys.length) (few : xs.length ≤ 100) (h : ∀ (i : Nat) x y, xs[i]? = some x → ys[i]? = some y → Sm H n x y) : Sm H (n + 1) (.ref a) (.ref b)
  | dct {n : Nat} {a b : Addr} {xs : List Str} {vs : List V} (ha : H a = some (.dK (dkv xs vs))) (hb : H b = some (.dK (dkv xs vs))) (ne : a ≠ b) (l : vs.length = xs.length) (few : xs.length ≤ 100) (nd : xs.Nodup) (h : ∀ v ∈ vs, Atom v) : Sm H (n + 2) (.ref a) (.ref b)
theorem Sm.same {H H' : Hp} (s : Same H H') : ∀ {n : Nat} {x y : V}, Sm H n x y → Sm H' n x y := by
  intro n x y h
  induction h with
  | atom n h => exact .atom n h
  | lst ha hb l few _ ih => exact .lst (s _ _ ha) (s _ _ hb) l few ih
  | tup ha hb l few _ ih => exact .tup (s _ _ ha) (s _ _ hb) l few ih
  | dct ha hb ne l few nd h => exact .dct (s _ _ ha) (s _ _ hb) ne l few nd h
theorem Sm.up {H : Hp} {n : Nat} {x y : V} (h : Sm H n x y) : Sm H (n + 1) x y := by
  induction h with
  | atom n h => exact .atom _ h
  | lst ha hb l few _ ih => exact .lst ha hb l few ih
  | tup ha hb l few _ ih => exact .tup ha hb l few ih
  | dct ha hb ne l few nd h => exact .dct ha hb ne l few nd h
theorem Sm.le {H : Hp} {n m : Nat} {x y : V} (h : Sm H n x y) (l : n ≤ m) : Sm H m x y := by
  induction l with
  | refl => exact h
  | step _ ih => exact ih.up
def spExact (n : Nat) : Sp := fun vs H Q _ => ∃ x y : V, vs = [x, y] ∧ Sm H n x y ∧ ∀ H', Same H H' → Q (.bl true) H'
theorem kit2 {K : PySem.W.Frag} {a : String} {b c : Bool} (h1 : kitB a "list" = some b) (h2 : kitB a "tuple" = some c) : PySem.W.kitAny K (.type a) [.type "list", .type "tuple"] = some (b || c) := by
  cases b with
  | true => exact kitAny_cons (kit_ty h1) (fun z => nomatch z) fun _ => rfl
  | false =>
    refine kitAny_cons (kit_ty h1) (fun _ => ?_) (fun z => nomatch z)
    cases c with
    | true => exact kitAny_cons (kit_ty h2) (fun z => nomatch z) fun _ => rfl
    | false => exact kitAny_cons (kit_ty h2) (fun _ => rfl) (fun z => nomatch z)
/-- the class of a plain thing, and what isinstance says of it -/
structure Cl (K : PySem.W.Frag) (H : Hp) (v : V) (t : String) (l u d i b : Bool) : Prop where
  ty : TyX K H v (.type t)
  l : kitB t "list" = some l
  u : kitB t "tuple" = some u
  d : kitB t "dict" = some d
  i : kitB t "int" = some i
  b : kitB t "bool" = some b
theorem atom_cl {K : PySem.W.Frag} {H : Hp} {v : V} (h : Atom v) : ∃ t i b, Cl K H v t false false false i b := by
  rcases h with ⟨z, rfl⟩ | ⟨z, rfl⟩ | ⟨z, rfl⟩
  · exact ⟨"int", true, false, .base (.int z), by decide +kernel, by decide +kernel, by decide +kernel, by decide +kernel, by decide +kernel⟩
  · exact ⟨"str", false, false, .base (.str z), by decide +kernel, by decide +kernel, by decide +kernel, by decide +kernel, by decide +kernel⟩
  · exact ⟨"bool", true, true, .base (.bl z), by decide +kernel, by decide +kernel, by decide +kernel, by decide +kernel, by decide +kernel⟩
theorem atom_flat {v : V} (h : Atom v) : scal v v = true := by
  rcases h with ⟨z, rfl⟩ | ⟨z, rfl⟩ | ⟨z, rfl⟩ <;> rfl
section
variable {P : Program} {w : World} {K : PySem.W.Frag} {mg : Str → Option Value} {base : Heap}
theorem ok_exact0 {f : Addr} {fd : FuncData} (F : Fun K "_law_exact" "_law_exact" s_exact f fd) (T : Bt mg) : FnOk P w K mg base CX0 1 f fd ["_law_mine", "_law_theirs"] (spExact 0) := by
  refine F.ok c_exact (fun vs H Q E h => ?_) (fun cdv A outer s H vs Q E hr h => ?_)
  · obtain ⟨_, _, rfl, _⟩ := h
    rfl
  · obtain ⟨x, y, rfl, sm, k⟩ := h
    refine ⟨_, pss_cons (ps_if (pt_val (pe_callB call_isiT (by rfl) T.isi (by decide +kernel) (pa_cons (pv 0) (pa_cons (pe_tup (pa_cons (pe_bltn (v := .ty "list") (by rfl) T.list (by decide +kernel) rfl) (pa_cons (pe_bltn (v := .ty "tuple") (by rfl) T.tuple (by decide +kernel) rfl) pa_nil))) pa_nil)))) pss_never pss_nil)
      (pss_cons (ps_if (pt_val (pe_callB call_isi (by rfl) T.isi (by decide +kernel) (pa_cons (pv 0) (pa_cons (pe_bltn (v := .ty "dict") (by rfl) T.dict (by decide +kernel) rfl) pa_nil)))) pss_never pss_nil)
      (pss_cons (ps_set (i := 2) c_exact.nd rfl (Or.inl rfl) (pe_cmpR op_eq (pe_callB call_isi (by rfl) T.isi (by decide +kernel) (pa_cons (pv 0) (pa_cons (pe_bltn (v := .ty "int") (by rfl) T.int (by decide +kernel) rfl) pa_nil))) (pe_callB call_isi (by rfl) T.isi (by decide +kernel) (pa_cons (pv 1) (pa_cons (pe_bltn (v := .ty "int") (by rfl) T.int (by decide +kernel) rfl) pa_nil))) (nomark _)))
      (pss_one (ps_ret (pe_and (pv 2) (pe_and (pe_cmpR op_eq (pe_callB call_isi (by rfl) T.isi (by decide +kernel) (pa_cons (pv 0) (pa_cons (pe_bltn (v := .ty "bool") (by rfl) T.bool (by decide +kernel) rfl) pa_nil))) (pe_callB call_isi (by rfl) T.isi (by decide +kernel) (pa_cons (pv 1) (pa_cons (pe_bltn (v := .ty "bool") (by rfl) T.bool (by decide +kernel) rfl) pa_nil))) (nomark _))
        (pe_one (pe_cmpR op_eq (pv 0) (pv 1) (nomark _))))))))), ?_⟩
    cases sm with
    | atom _ ha =>
      obtain ⟨t, i, b, C⟩ := atom_cl (K := K) (H := H) ha
      refine ⟨_, rfl, by show 2 ≤ sizeLine; decide, fun T1 hT1 => ?_⟩
      obtain ⟨t', i', b', C'⟩ := atom_cl (K := K) (H := upd H T1 (.tup [.ty "list", .ty "tuple"])) ha
      refine ⟨_, T1, _, _, _, _, rfl, upd_same, .cons (.ty "list") (.cons (.ty "tuple") .nil), C'.ty, kit2 C'.l C'.u, _, rfl, iteF ?_⟩
      refine ⟨_, rfl, _, _, _, _, _, rfl, .ty "dict", C'.ty, kit_ty C'.d, _, rfl, iteF ?_⟩
      refine ⟨_, rfl, _, _, _, _, _, rfl, .ty "int", C'.ty, kit_ty C'.i, _, rfl, _, _, _, _, _, rfl, .ty "int", C'.ty, kit_ty C'.i, rfl, ?_⟩
      refine ⟨_, rfl, _, rfl, ite_t (decide_eq_true rfl) ?_⟩
      refine ⟨_, rfl, _, _, _, _, _, rfl, .ty "bool", C'.ty, kit_ty C'.b, _, rfl, _, _, _, _, _, rfl, .ty "bool", C'.ty, kit_ty C'.b, rfl, _, rfl, ite_t (decide_eq_true rfl) ?_⟩
      refine ⟨_, rfl, _, rfl, atom_flat ha, ?_⟩
      rw [decide_eq_true rfl]
      exact k _ (same_new hT1)
theorem walk_zipT {a b : Addr} {xs ys : List V} {n : Nat} (h1 : xs.length = n) (h2 : ys.length = n) : Walk (RZ.ItzT K a b) n (fun H => SqT K H a xs ∧ SqT K H b ys) (YPair (fun i => xs[i]?) (fun i => ys[i]?)) := by
  refine ⟨fun i H hi q => ⟨xs, ys, xs[i]'(by omega), ys[i]'(by omega), q.1, q.2, List.getElem?_eq_getElem _, List.getElem?_eq_getElem _⟩, fun H q => ⟨xs, ys, q.1, q.2, .inl (by omega)⟩, ?_⟩
  rintro i H v H' hi q ⟨T0, x, y, e1, e2, e3, e4, e5⟩
  exact ⟨T0, x, y, e1, e2, e3, e4 xs q.1, e5 ys q.2⟩
theorem ok_exactS {f : Addr} {fd : FuncData} {m : Nat} (F : Fun K "_law_exact" "_law_exact" s_exact f fd) (T : Bt mg) (mE : mg "_law_exact" = some (.ref f)) (bE : Binds K fd ["_law_mine", "_law_theirs"] []) (GE : FnOk P w K mg base CX0 (m + 1) f fd ["_law_mine", "_law_theirs"] (spExact m)) :
    FnOk P w K mg base CX0 (m + 2) f fd ["_law_mine", "_law_theirs"] (spExact (m + 1)) := by
  refine F.ok c_exact (fun vs H Q E h => ?_) (fun cdv A outer s H vs Q E hr h => ?_)
  · obtain ⟨_, _, rfl, _⟩ := h
    rfl
  · obtain ⟨x, y, rfl, sm, k⟩ := h
    have hu := hu_of hr
    refine ⟨_, pss_cons (ps_if (pt_val (pe_callB call_isiT (by rfl) T.isi (by decide +kernel) (pa_cons (pv 0) (pa_cons (pe_tup (pa_cons (pe_bltn (v := .ty "list") (by rfl) T.list (by decide +kernel) rfl) (pa_cons (pe_bltn (v := .ty "tuple") (by rfl) T.tuple (by decide +kernel) rfl) pa_nil))) pa_nil))))
        (pss_cons (ps_set (i := 2) c_exact.nd rfl (Or.inl rfl) (pe_and (pe_cmpR op_eq (pe_callB call_isi (by rfl) T.isi (by decide +kernel) (pa_cons (pv 1) (pa_cons (pe_bltn (v := .ty "list") (by rfl) T.list (by decide +kernel) rfl) pa_nil))) (pe_callB call_isi (by rfl) T.isi (by decide +kernel) (pa_cons (pv 0) (pa_cons (pe_bltn (v := .ty "list") (by rfl) T.list (by decide +kernel) rfl) pa_nil))) (nomark _)) (pe_one (pe_cmpR op_eq (pe_callB call_isi (by rfl) T.isi (by decide +kernel) (pa_cons (pv 1) (pa_cons (pe_bltn (v := .ty "tuple") (by rfl) T.tuple (by decide +kernel) rfl) pa_nil))) (pe_callB call_isi (by rfl) T.isi (by decide +kernel) (pa_cons (pv 0) (pa_cons (pe_bltn (v := .ty "tuple") (by rfl) T.tuple (by decide +kernel) rfl) pa_nil))) (nomark _)))))
        (pss_one (ps_ret (pe_and (pv 2) (pe_and (pe_cmpR op_eq (pe_callB call_len_seq (by rfl) T.len PySem.boot_len (pa_cons (pv 0) pa_nil)) (pe_callB call_len_seq (by rfl) T.len PySem.boot_len (pa_cons (pv 1) pa_nil)) (nomark _)) (pe_one (pe_callB (cr_all rfl) (by rfl) T.all (by decide +kernel) (pa_cons (pe_lc (own := [("_law_a", 3), ("_law_b", 4)]) (g := gTup K 2 (gCons (gName 3) (gCons (gName 4) gNil))) (tt := tYes) rfl c_exact.nd (RZ.pi_zipA (by rfl) T.zip (pa_cons (pv 0) (pa_cons (pv 1) pa_nil)))
          (blkOk_by (N := ["_law_mine", "_law_theirs", "_law_alike", "_law_a", "_law_b", "_law_key"]) (sc := defScope s_exact) (by decide +kernel)) (fun _ _ _ _ _ => pg_tup rfl (pgs_cons (pg_name (i := 3) c_exact.nd rfl (Or.inl rfl)) (pgs_cons (pg_name (i := 4) c_exact.nd rfl (Or.inl rfl)) pgs_nil))) (fun _ _ _ _ _ => pts_nil)
          (fun _ _ _ _ _ => pe_call GE hr rfl mE F.kp bE .nil pass0 (pa_cons (pv 3) (pa_cons (pv 4) pa_nil)))) pa_nil)))))))) pss_nil)
      (pss_cons (ps_if (pt_val (pe_callB call_isi (by rfl) T.isi (by decide +kernel) (pa_cons (pv 0) (pa_cons (pe_bltn (v := .ty "dict") (by rfl) T.dict (by decide +kernel) rfl) pa_nil))))
        (pss_cons (ps_set (i := 2) c_exact.nd rfl (Or.inl rfl) (pe_and (pe_callB call_isi (by rfl) T.isi (by decide +kernel) (pa_cons (pv 1) (pa_cons (pe_bltn (v := .ty "dict") (by rfl) T.dict (by decide +kernel) rfl) pa_nil))) (pe_one (pe_call GE hr rfl mE F.kp bE .nil pass0 (pa_cons (pe_callTy (call_listD rfl) (by rfl) T.list (by decide +kernel) (pa_cons (pv 0) pa_nil)) (pa_cons (pe_callTy (call_listD rfl) (by rfl) T.list (by decide +kernel) (pa_cons (pv 1) pa_nil)) pa_nil))))))
        (pss_one (ps_lock (ps_ret (pe_and (pv 2) (pe_one (pe_callB (cr_all rfl) (by rfl) T.all (by decide +kernel) (pa_cons (pe_lc (own := [("_law_key", 5)]) (g := gName 5) (tt := tYes) rfl c_exact.nd (pi_keys (pv 0))
          (blkOk_by (N := ["_law_mine", "_law_theirs", "_law_alike", "_law_a", "_law_b", "_law_key"]) (sc := defScope s_exact) (by decide +kernel)) (fun _ _ _ _ _ => pg_name (i := 5) c_exact.nd rfl (Or.inl rfl)) (fun _ _ _ _ _ => pts_nil)
          (fun _ _ _ _ _ => pe_call GE hr rfl mE F.kp bE .nil pass0 (pa_cons (pe_dget hu (pv 0) (pv 5) (fun _ _ => rfl)) (pa_cons (pe_dget hu (pv 1) (pv 5) (fun _ _ => rfl)) pa_nil)))) pa_nil)))))))) pss_nil)
      (pss_cons (ps_set (i := 2) c_exact.nd rfl (Or.inl rfl) (pe_cmpR op_eq (pe_callB call_isi (by rfl) T.isi (by decide +kernel) (pa_cons (pv 0) (pa_cons (pe_bltn (v := .ty "int") (by rfl) T.int (by decide +kernel) rfl) pa_nil))) (pe_callB call_isi (by rfl) T.isi (by decide +kernel) (pa_cons (pv 1) (pa_cons (pe_bltn (v := .ty "int") (by rfl) T.int (by decide +kernel) rfl) pa_nil))) (nomark _)))
      (pss_one (ps_ret (pe_and (pv 2) (pe_and (pe_cmpR op_eq (pe_callB call_isi (by rfl) T.isi (by decide +kernel) (pa_cons (pv 0) (pa_cons (pe_bltn (v := .ty "bool") (by rfl) T.bool (by decide +kernel) rfl) pa_nil))) (pe_callB call_isi (by rfl) T.isi (by decide +kernel) (pa_cons (pv 1) (pa_cons (pe_bltn (v := .ty "bool") (by rfl) T.bool (by decide +kernel) rfl) pa_nil))) (nomark _))
        (pe_one (pe_cmpR op_eq (pv 0) (pv 1) (nomark _))))))))), ?_⟩
    refine ⟨_, rfl, by show 2 ≤ sizeLine; decide, fun T1 hT1 => ?_⟩
    have s1 := same_new (o := .tup [.ty "list", .ty "tuple"]) hT1
    have sm1 := sm.same s1
    have hT := (upd_same : upd H T1 (.tup [.ty "list", .ty "tuple"]) T1 = some (.tup [.ty "list", .ty "tuple"]))
    generalize upd H T1 (.tup [.ty "list", .ty "tuple"]) = H1 at s1 sm1 hT ⊢
    clear sm
    cases sm1 with
    | atom _ ha =>
      obtain ⟨t', i', b', C'⟩ := atom_cl (K := K) (H := H1) ha
      refine ⟨_, T1, _, _, _, _, rfl, hT, .cons (.ty "list") (.cons (.ty "tuple") .nil), C'.ty, kit2 C'.l C'.u, _, rfl, iteF ?_⟩
      refine ⟨_, rfl, _, _, _, _, _, rfl, .ty "dict", C'.ty, kit_ty C'.d, _, rfl, iteF ?_⟩
      refine ⟨_, rfl, _, _, _, _, _, rfl, .ty "int", C'.ty, kit_ty C'.i, _, rfl, _, _, _, _, _, rfl, .ty "int", C'.ty, kit_ty C'.i, rfl, ?_⟩
      refine ⟨_, rfl, _, rfl, ite_t (decide_eq_true rfl) ?_⟩
      refine ⟨_, rfl, _, _, _, _, _, rfl, .ty "bool", C'.ty, kit_ty C'.b, _, rfl, _, _, _, _, _, rfl, .ty "bool", C'.ty, kit_ty C'.b, rfl, _, rfl, ite_t (decide_eq_true rfl) ?_⟩
      refine ⟨_, rfl, _, rfl, atom_flat ha, ?_⟩
      rw [decide_eq_true rfl]
      exact k _ s1
    | @lst _ a b xs ys ha hb l few h =>
      have c1 : Cl K H1 (.ref a) "list" true false false false false := ⟨.base (.lst ha), by decide +kernel, by decide +kernel, by decide +kernel, by decide +kernel, by decide +kernel⟩
      have c2 : Cl K H1 (.ref b) "list" true false false false false := ⟨.base (.lst hb), by decide +kernel, by decide +kernel, by decide +kernel, by decide +kernel, by decide +kernel⟩
      refine ⟨_, T1, _, _, _, _, rfl, hT, .cons (.ty "list") (.cons (.ty "tuple") .nil), c1.ty, kit2 c1.l c1.u, _, rfl, iteT ?_⟩
      refine ⟨_, rfl, _, _, _, _, _, rfl, .ty "list", c2.ty, kit_ty c2.l, _, rfl, _, _, _, _, _, rfl, .ty "list", c1.ty, kit_ty c1.l, rfl, _, rfl, ite_t (decide_eq_true rfl) ?_⟩
      refine ⟨_, rfl, _, _, _, _, _, rfl, .ty "tuple", c2.ty, kit_ty c2.u, _, rfl, _, _, _, _, _, rfl, .ty "tuple", c1.ty, kit_ty c1.u, rfl, ?_⟩
      refine ⟨_, rfl, _, rfl, ite_t (decide_eq_true rfl) ?_⟩
      refine ⟨_, rfl, a, _, rfl, .inl (SqL.of ha), _, rfl, b, _, rfl, .inl (SqL.of hb), rfl, _, rfl, ite_t (decide_eq_true (by rw [l])) ?_⟩
      refine ⟨_, rfl, _, rfl, a, b, xs, ys, rfl, .inl ⟨SqL.of ha, SqL.of hb, fun D hD => ?_⟩⟩
      refine lc_it (walk_zip (K := K) (a := a) (b := b) (xs := xs) (ys := ys) (n := xs.length) (by omega)) (fun i H' => Same H1 H' ∧ H' D = some (.lst (trues i))) ⟨same_new hD, upd_same⟩ (fun i H' _ z => ⟨SqL.of (z.1 _ _ ha), SqL.of (z.1 _ _ hb)⟩) ?_ ?_
      · rintro i v H2 H3 hi ⟨s2, hd⟩ ⟨T0, p, q, rfl, nT, rfl, ep, eq⟩
        refine ⟨T0, _, rfl, SqT.of upd_same, rfl, _, _, rfl, _, _, rfl, rfl, rfl, ?_⟩
        have s3 := same_updN (o := .tup [p, q]) s2 nT
        refine ⟨_, rfl, _, rfl, p, q, rfl, (h i p q ep eq).same s3, fun H4 s4 => ?_⟩
        have hd4 := s4 _ _ (show upd H2 T0 (.tup [p, q]) D = some (.lst (trues i)) by rw [upd_ne (ne_of_none hd nT)]; exact hd)
        refine ⟨_, hd4, by rw [trues_len, sizeLine_eq]; omega, same_over (s3.trans s4) hD, ?_⟩
        rw [upd_same, trues_next]
      · rintro H2 ⟨s2, hd⟩
        refine ⟨D, _, rfl, SqL.of hd, ?_⟩
        rw [trues_all]
        exact k H2 (s1.trans s2)
    | @tup _ a b xs ys ha hb l few h =>
      have c1 : Cl K H1 (.ref a) "tuple" false true false false false := ⟨.base (.tup ha), by decide +kernel, by decide +kernel, by decide +kernel, by decide +kernel, by decide +kernel⟩
      have c2 : Cl K H1 (.ref b) "tuple" false true false false false := ⟨.base (.tup hb), by decide +kernel, by decide +kernel, by decide +kernel, by decide +kernel, by decide +kernel⟩
      refine ⟨_, T1, _, _, _, _, rfl, hT, .cons (.ty "list") (.cons (.ty "tuple") .nil), c1.ty, kit2 c1.l c1.u, _, rfl, iteT ?_⟩
      refine ⟨_, rfl, _, _, _, _, _, rfl, .ty "list", c2.ty, kit_ty c2.l, _, rfl, _, _, _, _, _, rfl, .ty "list", c1.ty, kit_ty c1.l, rfl, _, rfl, ite_t (decide_eq_true rfl) ?_⟩
      refine ⟨_, rfl, _, _, _, _, _, rfl, .ty "tuple", c2.ty, kit_ty c2.u, _, rfl, _, _, _, _, _, rfl, .ty "tuple", c1.ty, kit_ty c1.u, rfl, ?_⟩
      refine ⟨_, rfl, _, rfl, ite_t (decide_eq_true rfl) ?_⟩
      refine ⟨_, rfl, a, _, rfl, .inr (SqT.of ha), _, rfl, b, _, rfl, .inr (SqT.of hb), rfl, _, rfl, ite_t (decide_eq_true (by rw [l])) ?_⟩
      refine ⟨_, rfl, _, rfl, a, b, xs, ys, rfl, .inr ⟨SqT.of ha, SqT.of hb, fun D hD => ?_⟩⟩
      refine lc_it (walk_zipT (K := K) (a := a) (b := b) (xs := xs) (ys := ys) (n := xs.length) rfl l.symm) (fun i H' => Same H1 H' ∧ H' D = some (.lst (trues i))) ⟨same_new hD, upd_same⟩ (fun i H' _ z => ⟨SqT.of (z.1 _ _ ha), SqT.of (z.1 _ _ hb)⟩) ?_ ?_
      · rintro i v H2 H3 hi ⟨s2, hd⟩ ⟨T0, p, q, rfl, nT, rfl, ep, eq⟩
        refine ⟨T0, _, rfl, SqT.of upd_same, rfl, _, _, rfl, _, _, rfl, rfl, rfl, ?_⟩
        have s3 := same_updN (o := .tup [p, q]) s2 nT
        refine ⟨_, rfl, _, rfl, p, q, rfl, (h i p q ep eq).same s3, fun H4 s4 => ?_⟩
        have hd4 := s4 _ _ (show upd H2 T0 (.tup [p, q]) D = some (.lst (trues i)) by rw [upd_ne (ne_of_none hd nT)]; exact hd)
        refine ⟨_, hd4, by rw [trues_len, sizeLine_eq]; omega, same_over (s3.trans s4) hD, ?_⟩
        rw [upd_same, trues_next]
      · rintro H2 ⟨s2, hd⟩
        refine ⟨D, _, rfl, SqL.of hd, ?_⟩
        rw [trues_all]
        exact k H2 (s1.trans s2)
    | @dct n a b xs vs ha hb ne l few nd h =>
      have c1 : Cl K H1 (.ref a) "dict" false false true false false := ⟨.base (.dK ha), by decide +kernel, by decide +kernel, by decide +kernel, by decide +kernel, by decide +kernel⟩
      have c2 : Cl K H1 (.ref b) "dict" false false true false false := ⟨.base (.dK hb), by decide +kernel, by decide +kernel, by decide +kernel, by decide +kernel, by decide +kernel⟩
      refine ⟨_, T1, _, _, _, _, rfl, hT, .cons (.ty "list") (.cons (.ty "tuple") .nil), c1.ty, kit2 c1.l c1.u, _, rfl, iteF ?_⟩
      refine ⟨_, rfl, _, _, _, _, _, rfl, .ty "dict", c1.ty, kit_ty c1.d, _, rfl, iteT ?_⟩
      refine ⟨_, rfl, _, _, _, _, _, rfl, .ty "dict", c2.ty, kit_ty c2.d, _, rfl, iteT ?_⟩
      have ekeys : (dkv xs vs).map (fun kv => kV kv.1) = xs.map V.str := by
        unfold dkv
        rw [List.map_map]
        have : ((xs.zip vs).map Prod.fst).map V.str = xs.map V.str := by rw [List.map_fst_zip (by omega)]
        rw [← this, List.map_map]
        rfl
      refine ⟨_, rfl, a, _, rfl, .inl ha, fun L hL => ?_⟩
      rw [ekeys]
      have s2 := same_new (o := .lst (xs.map V.str)) hL
      refine ⟨_, rfl, b, _, rfl, .inl (s2 _ _ hb), fun M hM => ?_⟩
      rw [ekeys]
      have s3 := same_updN (o := .lst (xs.map V.str)) s2 hM
      refine ⟨_, _, rfl, .lst (n := n) (xs := xs.map V.str) (ys := xs.map V.str) (by rw [upd_ne (ne_of_none upd_same hM), upd_same]) upd_same rfl (by rw [List.length_map]; exact few) (fun i p q hp hq => ?_), fun H4 s4 => ?_⟩
      · have : p = q := Option.some.inj (hp.symm.trans hq)
        subst this
        rw [List.getElem?_map] at hp
        obtain ⟨z, _, rfl⟩ := Option.map_eq_some_iff.mp hp
        exact .atom _ (.inr (.inl ⟨z, rfl⟩))
      have s14 := s3.trans s4
      have ha4 := s14 _ _ ha
      have hb4 := s14 _ _ hb
      refine ⟨a, _, ha4, True.intro, fun od => ?_⟩
      have hbl : upd H4 a (.frz od (.dK (dkv xs vs))) b = some (.dK (dkv xs vs)) := by rw [upd_ne (Ne.symm ne)]; exact hb4
      refine ⟨_, rfl, _, rfl, iteT ?_⟩
      refine ⟨_, rfl, a, od, rfl, .inl ⟨_, upd_same, fun D hD => ?_⟩⟩
      have Da : D ≠ a := fun z => by
        rw [z, upd_same] at hD
        cases hD
      refine lc_it (walk_keys (d := a) (o := od) (kvs := dkv xs vs)) (fun i H' => Same (upd H4 a (.frz od (.dK (dkv xs vs)))) H' ∧ H' D = some (.lst (trues i))) ⟨same_new hD, upd_same⟩ (fun i H' _ z => z.1 _ _ upd_same) ?_ ?_
      · rintro i v H5 _ hi ⟨s5, hd⟩ ⟨rfl, ky, vv, ek, rfl⟩
        rw [dkv_len l] at hi
        obtain ⟨x, v', hx, hv, e⟩ := dkv_mem ek
        obtain ⟨rfl, rfl⟩ := Prod.mk.inj e
        have g1 := dkv_get nd hx hv
        refine ⟨rfl, _, rfl, _, rfl, a, vv, rfl, .inl ⟨_, Sum.inr x, .inr ⟨od, s5 _ _ upd_same⟩, rfl, g1.symm⟩, _, rfl, _, rfl, b, vv, rfl, .inl ⟨_, Sum.inr x, .inl (s5 _ _ hbl), rfl, g1.symm⟩, ?_⟩
        refine ⟨_, _, rfl, .atom _ (h vv (List.mem_of_getElem? hv)), fun H6 s6 => ?_⟩
        refine ⟨_, s6 _ _ hd, by rw [trues_len, sizeLine_eq]; omega, same_over (s5.trans s6) hD, ?_⟩
        rw [upd_same, trues_next]
      · rintro H5 ⟨s5, hd⟩
        refine ⟨D, _, rfl, SqL.of hd, s5 _ _ upd_same, ?_⟩
        rw [trues_all]
        refine k _ fun q o e => ?_
        have e4 := s14 _ _ (s1 _ _ e)
        by_cases z : q = a
        · subst z
          rw [upd_same]
          exact ha4.symm.trans e4
        · rw [upd_ne z]
          exact s5 _ _ (by rw [upd_ne z]; exact e4)
theorem ok_exact {f : Addr} {fd : FuncData} (F : Fun K "_law_exact" "_law_exact" s_exact f fd) (T : Bt mg) (mE : mg "_law_exact" = some (.ref f)) (bE : Binds K fd ["_law_mine", "_law_theirs"] []) : ∀ n, FnOk P w K mg base CX0 (n + 1) f fd ["_law_mine", "_law_theirs"] (spExact n)
  | 0 => ok_exact0 F T
  | n + 1 => ok_exactS F T mE bE (ok_exact F T mE bE n)
end
end Wd
end
section
set_option maxRecDepth 100000
set_option maxHeartbeats 4000000
namespace Wd
open PySem L2
theorem sm_strs {H : Hp} {a b : Addr} {xs : List Str} (n : Nat) (ha : H a = some (.lst (xs.map V.str))) (hb : H b = some (.lst (xs.map V.str))) (few : xs.length ≤ 100) : Sm H (n + 1) (.ref a) (.ref b) :=
  .lst ha hb rfl (by rw [List.length_map]; exact few) fun i p q hp hq => by
    have e : p = q := Option.some.inj (hp.symm.trans hq)
    subst e
    rw [List.getElem?_map] at hp
    obtain ⟨z, _, rfl⟩ := Option.map_eq_some_iff.mp hp
    exact .atom _ (.inr (.inl ⟨z, rfl⟩))
theorem sm_pair {H : Hp} {a b : Addr} {p : Pr} (n : Nat) (ha : H a = some (.tup [.str p.1, .str p.2])) (hb : H b = some (.tup [.str p.1, .str p.2])) : Sm H (n + 1) (.ref a) (.ref b) :=
  .tup ha hb rfl (by show 2 ≤ 100; decide) fun i u v hp hq => by
    have e : u = v := Option.some.inj (hp.symm.trans hq)
    subst e
    have m := List.mem_of_getElem? hp
    rcases List.mem_cons.mp m with rfl | m
    · exact .atom _ (.inr (.inl ⟨_, rfl⟩))
    · rw [List.mem_singleton.mp m]
      exact .atom _ (.inr (.inl ⟨_, rfl⟩))
theorem sm_prs {H : Hp} {a b : Addr} {ps : List Pr} (n : Nat) (ha : PwAt H a ps) (hb : PwAt H b ps) (few : ps.length ≤ 100) : Sm H (n + 2) (.ref a) (.ref b) := by
  obtain ⟨Ts, h1, t1⟩ := ha
  obtain ⟨Us, h2, t2⟩ := hb
  have l1 := t1.1
  have l2 := t2.1
  rw [List.length_map] at l1 l2
  refine .lst h1 h2 (by rw [List.length_map, List.length_map, l1, l2]) (by rw [List.length_map, l1]; exact few) fun i u v hu hv => ?_
  rw [List.getElem?_map] at hu hv
  obtain ⟨T, hT, rfl⟩ := Option.map_eq_some_iff.mp hu
  obtain ⟨U, hU, rfl⟩ := Option.map_eq_some_iff.mp hv
  have il := (List.getElem?_eq_some_iff.mp hT).1
  obtain ⟨p, hp⟩ : ∃ p, ps[i]? = some p := ⟨_, List.getElem?_eq_getElem (by omega)⟩
  exact sm_pair n (t1.2 i T (tv p) hT (by rw [List.getElem?_map, hp]; rfl)) (t2.2 i U (tv p) hU (by rw [List.getElem?_map, hp]; rfl))
theorem sm_two {H : Hp} {a b : Addr} {x1 x2 y1 y2 : V} {n : Nat} (ha : H a = some (.lst [x1, x2])) (hb : H b = some (.lst [y1, y2])) (h1 : Sm H n x1 y1) (h2 : Sm H n x2 y2) : Sm H (n + 1) (.ref a) (.ref b) :=
  .lst ha hb rfl (by show 2 ≤ 100; decide) fun i u v hu hv => by
    rcases i with _ | _ | i
    · simp at hu hv
      subst hu hv
      exact h1
    · simp at hu hv
      subst hu hv
      exact h2
    · simp at hu
theorem sm_three {H : Hp} {a b : Addr} {x1 x2 x3 y1 y2 y3 : V} {n : Nat} (ha : H a = some (.lst [x1, x2, x3])) (hb : H b = some (.lst [y1, y2, y3])) (h1 : Sm H n x1 y1) (h2 : Sm H n x2 y2) (h3 : Sm H n x3 y3) : Sm H (n + 1) (.ref a) (.ref b) :=
  .lst ha hb rfl (by show 3 ≤ 100; decide) fun i u v hu hv => by
    rcases i with _ | _ | _ | i
    · simp at hu hv
      subst hu hv
      exact h1
    · simp at hu hv
      subst hu hv
      exact h2
    · simp at hu hv
      subst hu hv
      exact h3
    · simp at hu
theorem sm_bools {H : Hp} {a b : Addr} {bs : List Bool} (n : Nat) (ha : H a = some (.lst (bs.map V.bl))) (hb : H b = some (.lst (bs.map V.bl))) (few : bs.length ≤ 100) : Sm H (n + 1) (.ref a) (.ref b) :=
  .lst ha hb rfl (by rw [List.length_map]; exact few) fun i p q hp hq => by
    have e : p = q := Option.some.inj (hp.symm.trans hq)
    subst e
    rw [List.getElem?_map] at hp
    obtain ⟨z, _, rfl⟩ := Option.map_eq_some_iff.mp hp
    exact .atom _ (.inr (.inr ⟨z, rfl⟩))
/-- a list of things at R, one for each of xs, each as G says -/
def Each (H : Hp) (R : Addr) (xs : List Str) (G : Str → Addr → Hp → Prop) : Prop := ∃ Ls : List Addr, H R = some (.lst (Ls.map V.ref)) ∧ Ls.length = xs.length ∧ ∀ (i : Nat) x L, xs[i]? = some x → Ls[i]? = some L → G x L H
theorem Each.same {H H' : Hp} {R : Addr} {xs : List Str} {G : Str → Addr → Hp → Prop} (h : Each H R xs G) (s : Same H H') (mono : ∀ x L, G x L H → G x L H') : Each H' R xs G := by
  obtain ⟨Ls, h1, h2, h3⟩ := h
  exact ⟨Ls, s _ _ h1, h2, fun i x L e1 e2 => mono x L (h3 i x L e1 e2)⟩
theorem sm_each {H : Hp} {R S : Addr} {xs : List Str} {G G' : Str → Addr → Hp → Prop} {n : Nat} (h1 : Each H R xs G) (h2 : Each H S xs G') (few : xs.length ≤ 100) (h : ∀ x L M, x ∈ xs → G x L H → G' x M H → Sm H n (.ref L) (.ref M)) : Sm H (n + 1) (.ref R) (.ref S) := by
  obtain ⟨Ls, a1, a2, a3⟩ := h1
  obtain ⟨Ms, b1, b2, b3⟩ := h2
  refine .lst a1 b1 (by rw [List.length_map, List.length_map, a2, b2]) (by rw [List.length_map, a2]; exact few) fun i u v hu hv => ?_
  rw [List.getElem?_map] at hu hv
  obtain ⟨L, hL, rfl⟩ := Option.map_eq_some_iff.mp hu
  obtain ⟨M, hM, rfl⟩ := Option.map_eq_some_iff.mp hv
  have il := (List.getElem?_eq_some_iff.mp hL).1
  obtain ⟨x, hx⟩ : ∃ x, xs[i]? = some x := ⟨_, List.getElem?_eq_getElem (by omega)⟩
  exact h x L M (List.mem_of_getElem? hx) (a3 i x L hx hL) (b3 i x M hx hM)
/-- one more of them -/
theorem each_next {H0 H1 H2 : Hp} {R L : Addr} {xs : List Str} {i : Nat} {x : Str} {G : Str → Addr → Hp → Prop} {Ls : List Addr} (hR : H0 R = none) (s : Same H0 H1) (hr : H1 R = some (.lst (Ls.map V.ref))) (hx : xs[i]? = some x) (hl : Ls.length = (xs.take i).length) (ok : ∀ (j : Nat) y M, (xs.take i)[j]? = some y → Ls[j]? = some M → G y M H1)
    (s2 : Same H1 H2) (mono : ∀ y M, G y M H1 → G y M H2) (now : G x L H2) (keep : ∀ y M o, G y M H2 → G y M (upd H2 R o)) :
    ∃ Ms : List Addr, (Ls.map V.ref ++ [V.ref L]) = Ms.map V.ref ∧ Ms.length = (xs.take (i + 1)).length ∧ ∀ (j : Nat) y M, (xs.take (i + 1))[j]? = some y → Ms[j]? = some M → G y M (upd H2 R (.lst (Ms.map V.ref))) := by
  refine ⟨Ls ++ [L], by rw [List.map_append]; rfl, by rw [List.length_append, hl, take_next hx, List.length_append]; rfl, fun j y M hy hM => ?_⟩
  rw [take_next hx] at hy
  by_cases hj : j < Ls.length
  · rw [List.getElem?_append_left hj] at hM
    rw [List.getElem?_append_left (by rw [← hl]; exact hj)] at hy
    exact keep _ _ _ (mono _ _ (ok j y M hy hM))
  · rw [List.getElem?_append_right (by omega)] at hM
    rw [List.getElem?_append_right (by rw [← hl]; omega)] at hy
    rw [hl] at hM
    cases hq : j - (xs.take i).length with
    | zero =>
      rw [hq] at hM hy
      simp at hM hy
      subst hM hy
      exact keep _ _ _ now
    | succ q =>
      rw [hq] at hM
      simp at hM
/-- a list of the friends of x -/
def FrG (ps : List Pr) (D : Addr) : Str → Addr → Hp → Prop := fun x L H => L ≠ D ∧ H L = some (.lst ((frs ps x).map V.str))
def spStays (C : Addr) : Sp := fun vs H Q _ => ∃ (a c : Addr) (xs : List Str) (ps : List Pr), vs = [.ref a, .ref c] ∧ WAt H a xs ps ∧ CAt C H c xs ps ∧ Good xs ps ∧ ∀ H', Same H H' → Q (.bl true) H'
/-- the own ==, as a method -/
def HasEq (P : Program) (w : World) (K : PySem.W.Frag) (mg : Str → Option Value) (base : Heap) (C : Addr) : Prop :=
  ∃ (f : Addr) (fd : FuncData), FnOk P w K mg base CX0 1 f fd ["self", "other"] (spEq (CEq C)) ∧ PySem.W.findIn K (.ref C) "__eq__" = some (some (.ref f)) ∧ PySem.W.isFn K (.ref f) = true ∧ Binds K fd ["self", "other"] []
section
variable {P : Program} {w : World} {K : PySem.W.Frag} {mg : Str → Option Value} {base : Heap}
theorem ok_stays {f C : Addr} {fd : FuncData} (F : Fun K "_law_stays" "_law_stays" s_stays f fd) (T : Bt mg) (TC : CT K mg C) (MP : HasM P w K mg base C 1 "people" (spPplM C)) (MF : HasM P w K mg base C 1 "friends" (spFrM C)) (ME : HasEq P w K mg base C)
    (CE : Has P w K mg base 4 "_law_exact" ["_law_mine", "_law_theirs"] (spExact 3)) (CC : Has P w K mg base 6 "_law_company" ["_law_world_here"] (spComp C)) : FnOk P w K mg base CX0 7 f fd ["_law_world_here", "_law_company_here"] (spStays C) := by
  obtain ⟨fP, fdP, GP, mP, bP⟩ := MP
  obtain ⟨fF, fdF, GF, mF, bF⟩ := MF
  obtain ⟨fQ, fdQ, GQ, aQ, nQ, bQ⟩ := ME
  obtain ⟨fE, fdE, GE, mE, kE, bE⟩ := CE
  obtain ⟨fC, fdC, GC, mC, kC, bC⟩ := CC
  refine F.ok c_stays (fun vs H Q E h => ?_) (fun cdv A outer s H vs Q E hr h => ?_)
  · obtain ⟨_, _, _, _, rfl, _⟩ := h
    rfl
  · obtain ⟨a, c, xs, ps, rfl, W0, hc, g, k⟩ := h
    have hr1 : Room 1 _ := hr.mono (by decide)
    have hr4 : Room 4 _ := hr.mono (by decide)
    refine ⟨_, pss_one (ps_ret (pe_and (pe_call GE hr4 rfl mE kE bE .nil pass0 (pa_cons (pe_lst (pa_cons (pe_meth0 (pv 1) TC.is.cl mP GP hr1 bP .nil pass0) (pa_cons (pe_meth0 (pv 1) TC.is.cl mF GF hr1 bF .nil pass0) pa_nil)))
        (pa_cons (pe_lst (pa_cons (pe_callTy call_list_of (by rfl) T.list (by decide +kernel) (pa_cons (pe_ix ix_list (pv 0) pe_int (fun _ _ => rfl)) pa_nil)) (pa_cons (pe_callTy call_list_of (by rfl) T.list (by decide +kernel) (pa_cons (pe_ix ix_list (pv 0) pe_int (fun _ _ => rfl)) pa_nil)) pa_nil))) pa_nil)))
      (pe_one (pe_cmpR (op_eqG (rcG_ins GQ aQ nQ bQ pass0) hr1) (pv 1) (pe_call GC hr rfl mC kC bC .nil pass0 (pa_cons (pv 0) pa_nil)) (nomark _))))), ?_⟩
    obtain ⟨dx, pa, pb, h1, h2, h3⟩ := id hc
    obtain ⟨wc, wl, ha, hwc, Ts, hwl, tu⟩ := id W0
    have l9 := g.few
    have few := g.len
    refine ⟨_, rfl, c, dx, _, rfl, h1, cF_no pa pb (by decide +kernel) (by decide +kernel), c, xs, ps, rfl, hc, by omega, fun L hL => ?_⟩
    have s1 := same_new (o := .lst (xs.map V.str)) hL
    have eL : upd H L (.lst (xs.map V.str)) L = some (.lst (xs.map V.str)) := upd_same
    generalize upd H L (.lst (xs.map V.str)) = H1 at s1 eL ⊢
    refine ⟨_, rfl, c, dx, _, rfl, s1 _ _ h1, cF_no pa pb (by decide +kernel) (by decide +kernel), c, xs, ps, rfl, hc.same s1, by omega, fun M H2 nM s2 hM => ?_⟩
    refine ⟨by show 2 ≤ sizeLine; decide, fun N1 hN1 => ?_⟩
    have s3 := same_updN (o := .lst [.ref L, .ref M]) (s1.trans s2) hN1
    have e3 : Same H2 (upd H2 N1 (.lst [.ref L, .ref M])) := same_new hN1
    have eN1 : upd H2 N1 (.lst [.ref L, .ref M]) N1 = some (.lst [.ref L, .ref M]) := upd_same
    generalize upd H2 N1 (.lst [.ref L, .ref M]) = H3 at s3 e3 eN1 ⊢
    refine ⟨_, rfl, a, _, _, .ref wc, rfl, rfl, SqL.of (s3 _ _ ha), rfl, wc, _, rfl, .inl (SqL.of (s3 _ _ hwc)), fun L' hL' => ?_⟩
    have s4 := same_updN (o := .lst (xs.map V.str)) s3 hL'
    have e4 : Same H3 (upd H3 L' (.lst (xs.map V.str))) := same_new hL'
    have eL' : upd H3 L' (.lst (xs.map V.str)) L' = some (.lst (xs.map V.str)) := upd_same
    generalize upd H3 L' (.lst (xs.map V.str)) = H4 at s4 e4 eL' ⊢
    refine ⟨_, rfl, a, _, _, .ref wl, rfl, rfl, SqL.of (s4 _ _ ha), rfl, wl, _, rfl, .inl (SqL.of (s4 _ _ hwl)), fun M' hM' => ?_⟩
    have s5 := same_updN (o := .lst (Ts.map V.ref)) s4 hM'
    have e5 : Same H4 (upd H4 M' (.lst (Ts.map V.ref))) := same_new hM'
    have eM' : upd H4 M' (.lst (Ts.map V.ref)) M' = some (.lst (Ts.map V.ref)) := upd_same
    generalize upd H4 M' (.lst (Ts.map V.ref)) = H5 at s5 e5 eM' ⊢
    refine ⟨by show 2 ≤ sizeLine; decide, fun N2 hN2 => ?_⟩
    have s6 := same_updN (o := .lst [.ref L', .ref M']) s5 hN2
    have e6 : Same H5 (upd H5 N2 (.lst [.ref L', .ref M'])) := same_new hN2
    have eN2 : upd H5 N2 (.lst [.ref L', .ref M']) N2 = some (.lst [.ref L', .ref M']) := upd_same
    generalize upd H5 N2 (.lst [.ref L', .ref M']) = H6 at s6 e6 eN2 ⊢
    have t3 := ((e3.trans e4).trans e5).trans e6
    refine ⟨_, _, rfl, sm_two (n := 2) (((e4.trans e5).trans e6) _ _ eN1) eN2 (sm_strs 1 (((s2.trans t3)) _ _ eL) ((e5.trans e6) _ _ eL') (by omega)) (sm_prs 0 (hM.same t3) ⟨Ts, e6 _ _ eM', tu.same s6⟩ (by omega)), fun H7 s7 => ?_⟩
    refine ⟨_, rfl, iteT ?_⟩
    have s67 := s6.trans s7
    refine ⟨_, rfl, _, rfl, a, xs, ps, rfl, W0.same s67, g, fun H8 Z s8 nZ cz => ?_⟩
    obtain ⟨dy, qa, qb, g1, g2, g3⟩ := id cz
    have c8 := (hc.same s67).same s8
    obtain ⟨dz, ra, rb, k1, k2, k3⟩ := id c8
    exact ⟨⟨c, Z, dz, dy, _, _, rfl, rfl, k1, g1, xs, ps, g, c8, cz⟩, fun H9 e9 => k H9 ((s67.trans s8).trans e9)⟩
end
end Wd
end
section
set_option maxRecDepth 100000
set_option maxHeartbeats 4000000
namespace Wd
open PySem L2
theorem frG_keep {ps : List Pr} {D : Addr} {H : Hp} (y : Str) (M : Addr) (o : HO) (h : FrG ps D y M H) : FrG ps D y M (upd H D o) := ⟨h.1, by rw [upd_ne h.1]; exact h.2⟩
theorem frG_same {ps : List Pr} {D : Addr} {H H' : Hp} (s : Same H H') (y : Str) (M : Addr) (h : FrG ps D y M H) : FrG ps D y M H' := ⟨h.1, s _ _ h.2⟩
theorem frG_sm {ps : List Pr} {D D' : Addr} {H : Hp} {x : Str} {L M : Addr} (g : (frs ps x).length ≤ 9) (h1 : FrG ps D x L H) (h2 : FrG ps D' x M H) : Sm H 1 (.ref L) (.ref M) := sm_strs 0 h1.2 h2.2 (by omega)
/-- which of the pairs are friends -/
def inB (xs : List Str) (ps : List Pr) : List Bool := (prsS xs).map fun p => decide (p ∈ ps)
def spStands (C : Addr) : Sp := spStays C
section
variable {P : Program} {w : World} {K : PySem.W.Frag} {mg : Str → Option Value} {base : Heap}
theorem ok_stands {f C : Addr} {fd : FuncData} (F : Fun K "_law_stands" "_law_stands" s_stands f fd) (T : Bt mg) (TC : CT K mg C)
    (C1 : Has P w K mg base 3 "friends_of" ["company", "person"] (spFrOf C)) (C2 : Has P w K mg base 3 "friend_numbers" ["company"] (spNums C)) (C3 : Has P w K mg base 2 "strangers" ["company"] (spStr C)) (C4 : Has P w K mg base 2 "_law_friends_of" ["_law_world_here", "_law_person"] spFrL)
    (C5 : Has P w K mg base 1 "_law_numbers" ["_law_world_here"] spNumL) (C6 : Has P w K mg base 2 "_law_opposite" ["_law_world_here"] spOpp) (C7 : Has P w K mg base 1 "_law_pairs" ["_law_crowd"] spPairs) (C8 : Has P w K mg base 3 "are_friends" ["company", "pair"] (spAreF C))
    (CE : Has P w K mg base 4 "_law_exact" ["_law_mine", "_law_theirs"] (spExact 3)) (CS : Has P w K mg base 7 "_law_stays" ["_law_world_here", "_law_company_here"] (spStays C)) : FnOk P w K mg base CX0 8 f fd ["_law_world_here", "_law_company_here"] (spStands C) := by
  obtain ⟨f1, d1, G1, m1, k1, b1⟩ := C1
  obtain ⟨f2, d2, G2, m2, k2, b2⟩ := C2
  obtain ⟨f3, d3, G3, m3, k3, b3⟩ := C3
  obtain ⟨f4, d4, G4, m4, k4, b4⟩ := C4
  obtain ⟨f5, d5, G5, m5, k5, b5⟩ := C5
  obtain ⟨f6, d6, G6, m6, k6, b6⟩ := C6
  obtain ⟨f7, d7, G7, m7, k7, b7⟩ := C7
  obtain ⟨f8, d8, G8, m8, k8, b8⟩ := C8
  obtain ⟨fE, dE, GE, mE, kE, bE⟩ := CE
  obtain ⟨fS, dS, GS, mS, kS, bS⟩ := CS
  refine F.ok c_stands (fun vs H Q E h => ?_) (fun cdv A outer s H vs Q E hr h => ?_)
  · obtain ⟨_, _, _, _, rfl, _⟩ := h
    rfl
  · obtain ⟨a, c, xs, ps, rfl, W0, hc, g, k⟩ := h
    have hr1 : Room 1 _ := hr.mono (by decide)
    have hr2 : Room 2 _ := hr.mono (by decide)
    have hr3 : Room 3 _ := hr.mono (by decide)
    have hr4 : Room 4 _ := hr.mono (by decide)
    refine ⟨_, pss_cons (ps_set (i := 3) c_stands.nd rfl (Or.inl rfl) (pe_lst (pa_cons (pe_lc (own := [("_law_person", 2)]) (g := gName 2) (tt := tYes) rfl c_stands.nd (pi_list (pe_ix ix_list (pv 0) pe_int (fun _ _ => rfl)))
          (blkOk_by (N := ["_law_world_here", "_law_company_here", "_law_person", "_law_told", "_law_due", "_law_pairs_here", "_law_pair_here"]) (sc := defScope s_stands) (by decide +kernel)) (fun _ _ _ _ _ => pg_name (i := 2) c_stands.nd rfl (Or.inl rfl)) (fun _ _ _ _ _ => pts_nil)
          (fun _ _ _ _ _ => pe_call G1 hr3 rfl m1 k1 b1 .nil pass0 (pa_cons (pv 1) (pa_cons (pv 2) pa_nil))))
        (pa_cons (pe_call G2 hr3 rfl m2 k2 b2 .nil pass0 (pa_cons (pv 1) pa_nil)) (pa_cons (pe_call G3 hr2 rfl m3 k3 b3 .nil pass0 (pa_cons (pv 1) pa_nil)) pa_nil)))))
      (pss_cons (ps_set (i := 4) c_stands.nd rfl (Or.inl rfl) (pe_lst (pa_cons (pe_lc (own := [("_law_person", 2)]) (g := gName 2) (tt := tYes) rfl c_stands.nd (pi_list (pe_ix ix_list (pv 0) pe_int (fun _ _ => rfl)))
          (blkOk_by (N := ["_law_world_here", "_law_company_here", "_law_person", "_law_told", "_law_due", "_law_pairs_here", "_law_pair_here"]) (sc := defScope s_stands) (by decide +kernel)) (fun _ _ _ _ _ => pg_name (i := 2) c_stands.nd rfl (Or.inl rfl)) (fun _ _ _ _ _ => pts_nil)
          (fun _ _ _ _ _ => pe_call G4 hr2 rfl m4 k4 b4 .nil pass0 (pa_cons (pv 0) (pa_cons (pv 2) pa_nil))))
        (pa_cons (pe_call G5 hr1 rfl m5 k5 b5 .nil pass0 (pa_cons (pv 0) pa_nil)) (pa_cons (pe_ix ix_list (pe_call G6 hr2 rfl m6 k6 b6 .nil pass0 (pa_cons (pv 0) pa_nil)) pe_int (fun _ _ => rfl)) pa_nil)))))
      (pss_cons (ps_set (i := 5) c_stands.nd rfl (Or.inl rfl) (pe_call G7 hr1 rfl m7 k7 b7 .nil pass0 (pa_cons (pe_ix ix_list (pv 0) pe_int (fun _ _ => rfl)) pa_nil)))
      (pss_cons (ps_if (PW.pt (pw_or (pt_not (pt_val (pe_call GE hr4 rfl mE kE bE .nil pass0 (pa_cons (pv 3) (pa_cons (pv 4) pa_nil)))))
        (pw_or1 (pt_not (pt_val (pe_call GE hr4 rfl mE kE bE .nil pass0
          (pa_cons (pe_lc (own := [("_law_pair_here", 6)]) (g := gName 6) (tt := tYes) rfl c_stands.nd (pi_list (pv 5))
            (blkOk_by (N := ["_law_world_here", "_law_company_here", "_law_person", "_law_told", "_law_due", "_law_pairs_here", "_law_pair_here"]) (sc := defScope s_stands) (by decide +kernel)) (fun _ _ _ _ _ => pg_name (i := 6) c_stands.nd rfl (Or.inl rfl)) (fun _ _ _ _ _ => pts_nil)
            (fun _ _ _ _ _ => pe_call G8 hr3 rfl m8 k8 b8 .nil pass0 (pa_cons (pv 1) (pa_cons (pv 6) pa_nil))))
          (pa_cons (pe_lc (own := [("_law_pair_here", 6)]) (g := gName 6) (tt := tYes) rfl c_stands.nd (pi_list (pv 5))
            (blkOk_by (N := ["_law_world_here", "_law_company_here", "_law_person", "_law_told", "_law_due", "_law_pairs_here", "_law_pair_here"]) (sc := defScope s_stands) (by decide +kernel)) (fun _ _ _ _ _ => pg_name (i := 6) c_stands.nd rfl (Or.inl rfl)) (fun _ _ _ _ _ => pts_nil)
            (fun _ _ _ _ _ => pe_cmpR (r := rInD K) (op_inD (room65 hr)) (pv 6) (pe_ix (r := rIxL K) ix_list (pv 0) pe_int (fun _ _ => rfl)) rfl)) pa_nil)))))))) (pss_one ps_never) pss_nil)
      (pss_one (ps_ret (pe_call GS hr rfl mS kS bS .nil pass0 (pa_cons (pv 0) (pa_cons (pv 1) pa_nil)))))))), ?_⟩
    obtain ⟨wc, wl, ha, hwc, Ts, hwl, tu⟩ := id W0
    have l9 := g.few
    have few := g.len
    have lxs : (xs.map V.str).length = xs.length := List.length_map _
    -- told
    refine ⟨_, rfl, a, _, _, .ref wc, rfl, rfl, SqL.of ha, rfl, wc, rfl, ⟨_, SqL.of hwc⟩, fun R hR => ?_⟩
    refine lc_list (xs := xs.map V.str) (fun i H' => ∃ Ls : List Addr, H' R = some (.lst (Ls.map V.ref)) ∧ Same H H' ∧ Ls.length = (xs.take i).length ∧ ∀ (j : Nat) y M, (xs.take i)[j]? = some y → Ls[j]? = some M → FrG ps R y M H')
      ⟨[], upd_same, same_new hR, rfl, fun j y M e _ => by simp at e⟩ (fun i H' _ ⟨_, _, z, _⟩ => SqL.of (z _ _ hwc)) ?_ ?_
    · rintro i v H1 hv ⟨Ls, hr1, s1, ll, at_⟩
      rw [List.getElem?_map] at hv
      obtain ⟨x, hx, rfl⟩ := Option.map_eq_some_iff.mp hv
      have il := (List.getElem?_eq_some_iff.mp hx).1
      refine ⟨rfl, _, rfl, _, rfl, c, x, xs, ps, rfl, hc.same s1, g, List.mem_of_getElem? hx, fun H2 L s2 nL hL => ?_⟩
      have RL : R ≠ L := ne_of_none hr1 nL
      obtain ⟨Ms, e1, e2, e3⟩ := each_next (G := FrG ps R) hR s1 hr1 hx ll at_ s2 (fun y M z => frG_same s2 y M z) ⟨Ne.symm RL, hL⟩ frG_keep
      refine ⟨_, s2 _ _ hr1, by rw [List.length_map, ll, List.length_take, sizeLine_eq]; omega, Ms, by rw [upd_same, e1], same_over (s1.trans s2) hR, e2, ?_⟩
      rw [e1]
      exact e3
    · rintro H1 ⟨Ls, hr1, s1, ll, at_⟩
      rw [lxs, List.take_length] at ll at_
      have E1 : Each H1 R xs (FrG ps R) := ⟨Ls, hr1, ll, at_⟩
      clear at_ ll hr1
      refine ⟨_, rfl, c, xs, ps, rfl, hc.same s1, g, fun H2 D s2 nD hD => ?_⟩
      have s12 := s1.trans s2
      refine ⟨_, rfl, c, xs, ps, rfl, hc.same s12, g, fun H3 S s3 nS hS => ?_⟩
      have s13 := s12.trans s3
      refine ⟨by show 3 ≤ sizeLine; decide, fun N1 hN1 => ?_⟩
      have s4 := same_updN (o := .lst [.ref R, .ref D, .ref S]) s13 hN1
      have e4 : Same H3 (upd H3 N1 (.lst [.ref R, .ref D, .ref S])) := same_new hN1
      have eN1 : upd H3 N1 (.lst [.ref R, .ref D, .ref S]) N1 = some (.lst [.ref R, .ref D, .ref S]) := upd_same
      generalize upd H3 N1 (.lst [.ref R, .ref D, .ref S]) = H4 at s4 e4 eN1 ⊢
      have E4 : Each H4 R xs (FrG ps R) := E1.same ((s2.trans s3).trans e4) fun x L z => frG_same ((s2.trans s3).trans e4) x L z
      have D4 := (s3.trans e4) _ _ hD
      have S4 := hS.same e4
      -- due
      refine ⟨_, rfl, a, _, _, .ref wc, rfl, rfl, SqL.of (s4 _ _ ha), rfl, wc, rfl, ⟨_, SqL.of (s4 _ _ hwc)⟩, fun R' hR' => ?_⟩
      refine lc_list (xs := xs.map V.str) (fun i H' => ∃ Ls : List Addr, H' R' = some (.lst (Ls.map V.ref)) ∧ Same H4 H' ∧ Ls.length = (xs.take i).length ∧ ∀ (j : Nat) y M, (xs.take i)[j]? = some y → Ls[j]? = some M → FrG ps R' y M H')
        ⟨[], upd_same, same_new hR', rfl, fun j y M e _ => by simp at e⟩ (fun i H' _ ⟨_, _, z, _⟩ => SqL.of ((s4.trans z) _ _ hwc)) ?_ ?_
      · rintro i v H5 hv ⟨Ls, hr5, s5, ll, at_⟩
        rw [List.getElem?_map] at hv
        obtain ⟨x, hx, rfl⟩ := Option.map_eq_some_iff.mp hv
        have il := (List.getElem?_eq_some_iff.mp hx).1
        refine ⟨rfl, _, rfl, _, rfl, a, x, xs, ps, rfl, W0.same (s4.trans s5), g, fun H6 L s6 nL hL => ?_⟩
        have RL : R' ≠ L := ne_of_none hr5 nL
        obtain ⟨Ms, e1, e2, e3⟩ := each_next (G := FrG ps R') hR' s5 hr5 hx ll at_ s6 (fun y M z => frG_same s6 y M z) ⟨Ne.symm RL, hL⟩ frG_keep
        refine ⟨_, s6 _ _ hr5, by rw [List.length_map, ll, List.length_take, sizeLine_eq]; omega, Ms, by rw [upd_same, e1], same_over (s5.trans s6) hR', e2, ?_⟩
        rw [e1]
        exact e3
      · rintro H5 ⟨Ls', hr5, s5, ll, at_⟩
        rw [lxs, List.take_length] at ll at_
        have E5 : Each H5 R' xs (FrG ps R') := ⟨Ls', hr5, ll, at_⟩
        clear at_ ll hr5
        have s45 := s4.trans s5
        refine ⟨_, rfl, a, xs, ps, rfl, W0.same s45, g, fun H6 D' s6 nD' hD' => ?_⟩
        have s46 := s45.trans s6
        refine ⟨_, rfl, a, xs, ps, rfl, W0.same s46, g, fun H7 O s7 nO ⟨oc, ol, hO, hoc, hol⟩ => ?_⟩
        have s47 := s46.trans s7
        refine ⟨O, _, _, .ref ol, rfl, rfl, SqL.of hO, rfl, ?_⟩
        refine ⟨by show 3 ≤ sizeLine; decide, fun N2 hN2 => ?_⟩
        have s8 := same_updN (o := .lst [.ref R', .ref D', .ref ol]) s47 hN2
        have e8 : Same H7 (upd H7 N2 (.lst [.ref R', .ref D', .ref ol])) := same_new hN2
        have eN2 : upd H7 N2 (.lst [.ref R', .ref D', .ref ol]) N2 = some (.lst [.ref R', .ref D', .ref ol]) := upd_same
        generalize upd H7 N2 (.lst [.ref R', .ref D', .ref ol]) = H8 at s8 e8 eN2 ⊢
        have t58 := (s6.trans s7).trans e8
        have t48 := s5.trans t58
        have DD : D ≠ D' := fun z => by
          have q := s5 _ _ D4
          rw [z, nD'] at q
          cases q
        have smL : Sm H8 3 (.ref N1) (.ref N2) := by
          refine sm_three (t48 _ _ eN1) eN2 (sm_each (E4.same t48 fun x L z => frG_same t48 x L z) (E5.same t58 fun x L z => frG_same t58 x L z) (by omega) fun x L M _ z1 z2 => frG_sm (frs_le g x) z1 z2) ?_ (sm_prs 0 (S4.same t48) (hol.same e8) ?_)
          · refine .dct (n := 0) (t48 _ _ D4) ((s7.trans e8) _ _ hD') DD (List.length_map _) (by omega) g.asc.nd fun v hv => ?_
            obtain ⟨x, _, rfl⟩ := List.mem_map.mp hv
            exact .inl ⟨_, rfl⟩
          · have h1 := List.length_filter_le (fun p => decide (p ∉ ps)) (prsS xs)
            have h2 := Good.len0 (xs := xs) l9.2
            omega
        -- pairs
        refine ⟨_, rfl, a, _, _, .ref wc, rfl, rfl, SqL.of (s8 _ _ ha), rfl, wc, xs.map V.str, rfl, s8 _ _ hwc, by omega, fun H9 B s9 nB ⟨Us, hB, uu⟩ => ?_⟩
        rw [prs_strs] at uu
        have lU : Us.length = (prsS xs).length := by rw [uu.1, List.length_map]
        have l36 := Good.len0 (xs := xs) l9.2
        have s89 := s8.trans s9
        refine ⟨_, rfl, _, rfl, _, _, rfl, smL.same s9, fun H10 s10 => ?_⟩
        refine ⟨_, rfl, iteF ?_⟩
        have s8t := s89.trans s10
        have hB10 := s10 _ _ hB
        have uu10 := uu.same s10
        refine ⟨_, rfl, B, rfl, ⟨_, SqL.of hB10⟩, fun V1 hV1 => ?_⟩
        refine lc_list (xs := Us.map V.ref) (fun i H' => Same H10 H' ∧ H' V1 = some (.lst (((inB xs ps).take i).map V.bl))) ⟨same_new hV1, upd_same⟩ (fun i H' _ z => SqL.of (z.1 _ _ hB10)) ?_ ?_
        · rintro i v H11 hv ⟨s11, hv1⟩
          rw [List.getElem?_map] at hv
          obtain ⟨U, hU, rfl⟩ := Option.map_eq_some_iff.mp hv
          have il := (List.getElem?_eq_some_iff.mp hU).1
          obtain ⟨p, hp⟩ : ∃ p, (prsS xs)[i]? = some p := ⟨_, List.getElem?_eq_getElem (by omega)⟩
          have eU := s11 _ _ (uu10.2 i U (tv p) hU (by rw [List.getElem?_map, hp]; rfl))
          have st := s8t.trans s11
          refine ⟨rfl, _, rfl, _, rfl, c, U, p, xs, ps, rfl, hc.same st, g, eU, List.mem_of_getElem? hp, fun H12 s12 => ?_⟩
          refine ⟨_, s12 _ _ hv1, by rw [List.length_map, List.length_take, sizeLine_eq]; omega, same_over (s11.trans s12) hV1, ?_⟩
          have eb : (inB xs ps)[i]? = some (decide (p ∈ ps)) := by unfold inB; rw [List.getElem?_map, hp]; rfl
          rw [upd_same, take_next eb, List.map_append]
          rfl
        · rintro H11 ⟨s11, hv1⟩
          have ib : (inB xs ps).length = (prsS xs).length := List.length_map _
          rw [List.length_map, List.take_of_length_le (by rw [ib]; omega)] at hv1
          have st := s8t.trans s11
          have hB11 := s11 _ _ hB10
          have uu11 := uu10.same s11
          refine ⟨_, rfl, B, rfl, ⟨_, SqL.of hB11⟩, fun V2 hV2 => ?_⟩
          refine lc_list (xs := Us.map V.ref) (fun i H' => Same H11 H' ∧ H' V2 = some (.lst (((inB xs ps).take i).map V.bl))) ⟨same_new hV2, upd_same⟩ (fun i H' _ z => SqL.of (z.1 _ _ hB11)) ?_ ?_
          · rintro i v H12 hv ⟨s12, hv2⟩
            rw [List.getElem?_map] at hv
            obtain ⟨U, hU, rfl⟩ := Option.map_eq_some_iff.mp hv
            have il := (List.getElem?_eq_some_iff.mp hU).1
            obtain ⟨p, hp⟩ : ∃ p, (prsS xs)[i]? = some p := ⟨_, List.getElem?_eq_getElem (by omega)⟩
            have eU := s12 _ _ (uu11.2 i U (tv p) hU (by rw [List.getElem?_map, hp]; rfl))
            have mp := mem_prsS g.asc (List.mem_of_getElem? hp)
            have st2 := st.trans s12
            refine ⟨rfl, _, rfl, _, rfl, a, _, _, .ref wl, rfl, rfl, SqL.of (st2 _ _ ha), rfl, pd p, ps.map pd, dp_pair (SqT.of eU), dp_pdL (SqL.of (st2 _ _ hwl)) (tu.same st2), pd_shaped (g.word _ mp.1) (g.word _ mp.2.1), pdL_shaped g.wp, ?_⟩
            rw [any_pd]
            refine ⟨_, hv2, by rw [List.length_map, List.length_take, sizeLine_eq]; omega, same_over s12 hV2, ?_⟩
            have eb : (inB xs ps)[i]? = some (decide (p ∈ ps)) := by unfold inB; rw [List.getElem?_map, hp]; rfl
            rw [upd_same, take_next eb, List.map_append]
            rfl
          · rintro H12 ⟨s12, hv2⟩
            rw [List.length_map, List.take_of_length_le (by rw [ib]; omega)] at hv2
            refine ⟨_, _, rfl, sm_bools 2 (s12 _ _ hv1) hv2 (by omega), fun H13 s13 => ?_⟩
            refine ⟨_, rfl, iteF ?_⟩
            have st3 := (st.trans s12).trans s13
            exact ⟨_, rfl, _, rfl, a, c, xs, ps, rfl, W0.same st3, hc.same st3, g, fun H14 s14 => k H14 (st3.trans s14)⟩
end
end Wd
end
section
set_option maxRecDepth 100000
set_option maxHeartbeats 4000000
namespace Wd
open PySem L2
def psum (h : Str → Str → Int) : List Str → Int
  | [] => 0
  | y :: s => (s.map (h y)).sum + psum h s
theorem sum_zero {α : Type} {f : α → Int} : ∀ {l : List α}, (∀ x ∈ l, f x = 0) → (l.map f).sum = 0
  | [], _ => rfl
  | x :: l, h => by
    rw [List.map_cons, List.sum_cons, h x List.mem_cons_self, sum_zero fun y hy => h y (List.mem_cons_of_mem _ hy)]
    rfl
theorem sum_add {α : Type} (f g : α → Int) : ∀ l : List α, (l.map fun x => f x + g x).sum = (l.map f).sum + (l.map g).sum
  | [] => rfl
  | x :: l => by
    rw [List.map_cons, List.sum_cons, sum_add f g l, List.map_cons, List.sum_cons, List.map_cons, List.sum_cons]
    omega
theorem psum_add (f g : Str → Str → Int) : ∀ l : List Str, psum (fun y z => f y z + g y z) l = psum f l + psum g l
  | [] => rfl
  | y :: l => by
    show (l.map fun z => f y z + g y z).sum + psum (fun y z => f y z + g y z) l = ((l.map (f y)).sum + psum f l) + ((l.map (g y)).sum + psum g l)
    rw [psum_add f g l, sum_add]
    omega
theorem sum_congr {α : Type} {f g : α → Int} {l : List α} (h : ∀ x ∈ l, f x = g x) : (l.map f).sum = (l.map g).sum := by
  rw [List.map_congr_left h]
theorem psum_congr {f g : Str → Str → Int} : ∀ {l : List Str}, l.Pairwise (fun y z => f y z = g y z) → psum f l = psum g l
  | [], _ => rfl
  | y :: l, h => by
    obtain ⟨h1, h2⟩ := List.pairwise_cons.mp h
    show (l.map (f y)).sum + psum f l = (l.map (g y)).sum + psum g l
    rw [psum_congr h2, sum_congr h1]
/-- all twos in both orders are the pairs both ways, and each with itself -/
theorem twice (k : Str → Str → Int) (h0 : ∀ u, k u u = 0) : ∀ r : List Str, (r.map fun u => (r.map (k u)).sum).sum = psum (fun y z => k y z + k z y) r
  | [] => rfl
  | x :: r => by
    have ih := twice k h0 r
    show (k x x + (r.map (k x)).sum) + (r.map fun u => (k u x + (r.map (k u)).sum)).sum = (r.map fun z => k x z + k z x).sum + psum (fun y z => k y z + k z y) r
    rw [sum_add, sum_add, h0, ih]
    omega
/-- what a triple is worth: its paths of two, by their middle -/
def GG (F : Str → Str → Int) (x y z : Str) : Int := F x y * F x z + (F y x * F y z + F z x * F z y)
def TT (F : Str → Str → Int) : List Str → Int
  | [] => 0
  | x :: r => psum (GG F x) r + TT F r
theorem centre (F : Str → Str → Int) (h0 : ∀ u, F u u = 0) : ∀ xs : List Str, (xs.map fun x => psum (fun y z => F x y * F x z) xs).sum = TT F xs
  | [] => rfl
  | x :: r => by
    have ih := centre F h0 r
    have e1 : psum (fun y z => F x y * F x z) (x :: r) = psum (fun y z => F x y * F x z) r := by
      show (r.map fun z => F x x * F x z).sum + psum (fun y z => F x y * F x z) r = _
      rw [sum_zero fun z _ => by rw [h0, Int.zero_mul]]
      omega
    have e2 : (r.map fun u => psum (fun y z => F u y * F u z) (x :: r)).sum = psum (fun y z => F y x * F y z + F z x * F z y) r + TT F r := by
      show (r.map fun u => ((r.map fun z => F u x * F u z).sum + psum (fun y z => F u y * F u z) r)).sum = _
      rw [sum_add, ih, twice (fun u z => F u x * F u z) (fun u => by show F u x * F u u = 0; rw [h0, Int.mul_zero]) r]
    show psum (fun y z => F x y * F x z) (x :: r) + (r.map fun u => psum (fun y z => F u y * F u z) (x :: r)).sum = psum (GG F x) r + TT F r
    rw [e1, e2]
    have e3 : psum (GG F x) r = psum (fun y z => F x y * F x z) r + psum (fun y z => F y x * F y z + F z x * F z y) r := psum_add _ _ r
    rw [e3]
    omega
def bq (q : Str → Bool) (y : Str) : Int := if q y = true then 1 else 0
theorem len_filter (q : Str → Bool) : ∀ r : List Str, ((r.filter q).length : Int) = (r.map (bq q)).sum
  | [] => rfl
  | y :: r => by
    rw [List.map_cons, List.sum_cons, ← len_filter q r]
    by_cases h : q y = true
    · rw [List.filter_cons_of_pos h, List.length_cons]
      unfold bq
      rw [if_pos h]
      omega
    · rw [List.filter_cons_of_neg h]
      unfold bq
      rw [if_neg h]
      omega
theorem len_pairs (q : Str → Bool) : ∀ xs : List Str, ((prsS (xs.filter q)).length : Int) = psum (fun y z => bq q y * bq q z) xs
  | [] => rfl
  | x :: r => by
    have ih := len_pairs q r
    show _ = (r.map fun z => bq q x * bq q z).sum + psum (fun y z => bq q y * bq q z) r
    rw [← ih]
    by_cases h : q x = true
    · rw [List.filter_cons_of_pos h]
      show (((r.filter q).map (fun y => (x, y)) ++ prsS (r.filter q)).length : Int) = _
      rw [List.length_append, List.length_map]
      have e : (r.map fun z => bq q x * bq q z) = r.map (bq q) := List.map_congr_left fun z _ => by
        have : bq q x = 1 := if_pos h
        rw [this, Int.one_mul]
      rw [e, ← len_filter]
      omega
    · rw [List.filter_cons_of_neg h, sum_zero fun z _ => by
        have : bq q x = 0 := if_neg h
        rw [this, Int.zero_mul]]
      omega
/-- 1 if x and y are friends -/
def FF (ps : List Pr) (x y : Str) : Int := bq (fun y => decide (y ≠ x ∧ mk x y ∈ ps)) y
theorem ff_self (ps : List Pr) (u : Str) : FF ps u u = 0 := by
  unfold FF bq
  rw [if_neg (by simp)]
theorem mk_comm (x y : Str) : mk x y = mk y x := by
  unfold mk
  by_cases c : Lt x y
  · rw [if_pos c, if_neg fun q => Lt.irr _ (c.tr q)]
  · by_cases d : Lt y x
    · rw [if_neg c, if_pos d]
    · rcases Lt.tri x y with q | q | q
      · exact absurd q c
      · subst q
        rfl
      · exact absurd q d
theorem ff_pos {ps : List Pr} {x y : Str} (h : y ≠ x ∧ mk x y ∈ ps) : FF ps x y = 1 := if_pos (decide_eq_true h)
theorem ff_neg {ps : List Pr} {x y : Str} (h : ¬ (y ≠ x ∧ mk x y ∈ ps)) : FF ps x y = 0 := if_neg fun z => h (of_decide_eq_true z)
theorem ff_comm (ps : List Pr) (x y : Str) : FF ps x y = FF ps y x := by
  by_cases c : y ≠ x ∧ mk x y ∈ ps
  · rw [ff_pos c, ff_pos ⟨Ne.symm c.1, by rw [mk_comm]; exact c.2⟩]
  · rw [ff_neg c, ff_neg fun z => c ⟨Ne.symm z.1, by rw [mk_comm]; exact z.2⟩]
theorem ff_ev {ps : List Pr} {x y : Str} (h : Lt x y) : FF ps x y = (ev ps x y : Nat) := by
  have e : mk x y = (x, y) := if_pos h
  have ne : y ≠ x := fun e => Lt.irr x (by rw [e] at h; exact h)
  unfold ev
  by_cases d : (x, y) ∈ ps
  · rw [ff_pos ⟨ne, by rw [e]; exact d⟩, if_pos d]
    rfl
  · rw [ff_neg fun z => d (by rw [← e]; exact z.2), if_neg d]
    rfl
theorem ev_le (ps : List Pr) (a b : Str) : ev ps a b = 0 ∨ ev ps a b = 1 := by
  unfold ev
  split
  · exact .inr rfl
  · exact .inl rfl
theorem gg_eq {ps : List Pr} {x y z : Str} (h1 : Lt x y) (h2 : Lt y z) : gg (ev ps x y + ev ps x z + ev ps y z) = GG (FF ps) x y z := by
  unfold GG
  rw [ff_comm ps y x, ff_comm ps z x, ff_comm ps z y, ff_ev h1, ff_ev (h1.tr h2), ff_ev h2]
  rcases ev_le ps x y with a | a <;> rcases ev_le ps x z with b | b <;> rcases ev_le ps y z with c | c <;> rw [a, b, c] <;> rfl
theorem inn_eq {ps : List Pr} {x y : Str} (h : Lt x y) : ∀ {s : List Str}, (∀ z ∈ s, Lt y z) → inn ps x y s = (s.map (GG (FF ps) x y)).sum
  | [], _ => rfl
  | z :: s, q => by
    show gg _ + inn ps x y s = GG (FF ps) x y z + (s.map (GG (FF ps) x y)).sum
    rw [inn_eq h fun u hu => q u (List.mem_cons_of_mem _ hu), gg_eq h (q z List.mem_cons_self)]
theorem row_eq {ps : List Pr} {x : Str} : ∀ {r : List Str}, Asc r → (∀ y ∈ r, Lt x y) → row ps x r = psum (GG (FF ps) x) r
  | [], _, _ => rfl
  | y :: r, a, h => by
    obtain ⟨a1, a2⟩ := List.pairwise_cons.mp a
    show inn ps x y r + row ps x r = (r.map (GG (FF ps) x y)).sum + psum (GG (FF ps) x) r
    rw [inn_eq (h y List.mem_cons_self) a1, row_eq a2 fun z hz => h z (List.mem_cons_of_mem _ hz)]
theorem tri_eq {ps : List Pr} : ∀ {xs : List Str}, Asc xs → tri ps xs = TT (FF ps) xs
  | [], _ => rfl
  | x :: r, a => by
    obtain ⟨a1, a2⟩ := List.pairwise_cons.mp a
    show row ps x r + tri ps r = psum (GG (FF ps) x) r + TT (FF ps) r
    rw [row_eq a2 a1, tri_eq a2]
/-- the forks are the triples with two friendships and three times the triangles -/
theorem forks_tri {xs : List Str} {ps : List Pr} (g : Good xs ps) : (forkL xs ps).sum = tri ps xs := by
  rw [tri_eq g.asc, ← centre (FF ps) (ff_self ps) xs]
  unfold forkL
  refine sum_congr fun x _ => ?_
  rw [frs_eq g, len_pairs]
  rfl
theorem perm_sum {l m : List Int} (h : l.Perm m) : l.sum = m.sum := by
  induction h with
  | nil => rfl
  | cons x _ ih => rw [List.sum_cons, List.sum_cons, ih]
  | swap x y l =>
    simp only [List.sum_cons]
    omega
  | trans _ _ h1 h2 => exact h1.trans h2
/-! the odd people are an even number -/
theorem one_of {a : Str} : ∀ {xs : List Str}, xs.Nodup → a ∈ xs → (xs.map fun x => if a = x then 1 else 0).sum = 1
  | [], _, h => nomatch h
  | x :: xs, nd, h => by
    obtain ⟨n1, n2⟩ := List.nodup_cons.mp nd
    rw [List.map_cons, List.sum_cons]
    by_cases e : a = x
    · subst e
      have z : (xs.map fun x => if a = x then 1 else 0).sum = 0 := by
        have : (xs.map fun x => if a = x then 1 else 0) = xs.map fun _ => 0 := List.map_congr_left fun y hy => if_neg (show ¬ a = y from fun q => n1 (by rw [q]; exact hy))
        rw [this]
        clear nd h n1 n2 this
        induction xs with
        | nil => rfl
        | cons _ _ ih => rw [List.map_cons, List.sum_cons, ih]
      rw [if_pos rfl, z]
    · rw [if_neg e, one_of n2 ((List.mem_cons.mp h).resolve_left e)]
theorem nsum_add {α : Type} (f g : α → Nat) : ∀ l : List α, (l.map fun x => f x + g x).sum = (l.map f).sum + (l.map g).sum
  | [] => rfl
  | x :: l => by
    rw [List.map_cons, List.sum_cons, nsum_add f g l, List.map_cons, List.sum_cons, List.map_cons, List.sum_cons]
    omega
theorem deg_sum {xs : List Str} (nd : xs.Nodup) : ∀ {ps : List Pr}, Of xs ps → (xs.map fun x => (frs ps x).length).sum = 2 * ps.length
  | [], ofs => by
    clear ofs
    have : (xs.map fun x => (frs [] x).length) = xs.map fun _ => 0 := rfl
    rw [this]
    clear nd this
    induction xs with
    | nil => rfl
    | cons _ _ ih =>
      rw [List.map_cons, List.sum_cons, ih]
      rfl
  | p :: ps, of => by
    have ih := deg_sum nd (ps := ps) fun q hq => of q (List.mem_cons_of_mem _ hq)
    obtain ⟨h1, h2, h3⟩ := of p List.mem_cons_self
    have ne : p.1 ≠ p.2 := fun e => Lt.irr p.2 (by rw [e] at h3; exact h3)
    have e : (xs.map fun x => (frs (p :: ps) x).length) = xs.map fun x => ((if p.1 = x then 1 else 0) + (if p.2 = x then 1 else 0)) + (frs ps x).length := List.map_congr_left fun x _ => by
      unfold frs
      rw [List.filterMap_cons]
      by_cases z1 : p.1 = x
      · have z2 : ¬ p.2 = x := fun q => ne (z1.trans q.symm)
        simp [z1, z2]
        omega
      · by_cases z2 : p.2 = x
        · simp [z1, z2]
          omega
        · simp [z1, z2]
    rw [e, nsum_add, nsum_add, one_of nd h1, one_of nd h2, ih, List.length_cons]
    omega
theorem odd_len (f : Str → Nat) (o : Str → Bool) (h : ∀ x, o x = decide (f x % 2 = 1)) : ∀ xs : List Str, (xs.filter o).length % 2 = (xs.map f).sum % 2
  | [] => rfl
  | x :: xs => by
    have ih := odd_len f o h xs
    rw [List.map_cons, List.sum_cons]
    by_cases c : o x = true
    · rw [List.filter_cons_of_pos c, List.length_cons]
      have : f x % 2 = 1 := by
        rw [h] at c
        exact of_decide_eq_true c
      omega
    · rw [List.filter_cons_of_neg c]
      have : ¬ f x % 2 = 1 := fun z => c (by rw [h]; exact decide_eq_true z)
      omega
theorem odd_even {xs : List Str} {ps : List Pr} (g : Good xs ps) : (xs.filter (oddF ps)).length % 2 = 0 := by
  rw [odd_len (fun x => (frs ps x).length) (oddF ps) (fun x => ?_) xs, deg_sum g.asc.nd g.of]
  · omega
  · unfold oddF
    refine decide_eq_decide.mpr ⟨fun e => ?_, fun e => ?_⟩
    · have := V.int.inj e
      omega
    · refine congrArg V.int ?_
      omega
end Wd
end
section
set_option maxRecDepth 100000
set_option maxHeartbeats 4000000
namespace Wd
open PySem L2
/-- a tuple of the numbers of kinds, written at the top -/
def KT (K : PySem.W.Frag) (t : Addr) : Prop := ∀ H : Hp, SqT K H t [.int 0, .int 1, .int 2]
def outF (p : Pr) (r : Str) : Bool := !decide (r ∈ [p.1, p.2])
/-- how many of a pair are friends of r -/
def kf (ps : List Pr) (p : Pr) (r : Str) : Nat := ([p.1, p.2].filter fun y => decide (y ∈ frs ps r)).length
def kfs (xs : List Str) (ps : List Pr) (p : Pr) : List Int := (xs.filter (outF p)).map fun r => ((kf ps p r : Nat) : Int)
def nmk (xs : List Str) (ps : List Pr) (p : Pr) (k : Int) : Int := ((kfs xs ps p).count k : Nat)
/-- a locked dictionary from the people to lists -/
def CirF (H : Hp) (D : Addr) (xs : List Str) (Ls : List Addr) (fs : Str → List Str) : Prop := (∃ o, H D = some (.frz o (.dK (dkv xs (Ls.map V.ref))))) ∧ Ls.length = xs.length ∧ ∀ (i : Nat) x L, xs[i]? = some x → Ls[i]? = some L → H L = some (.lst ((fs x).map V.str))
theorem CirF.same {H H' : Hp} {D : Addr} {xs : List Str} {Ls : List Addr} {fs : Str → List Str} (h : CirF H D xs Ls fs) (s : Same H H') : CirF H' D xs Ls fs := by
  obtain ⟨⟨o, a⟩, b, c⟩ := h
  exact ⟨⟨o, s _ _ a⟩, b, fun i x L e1 e2 => s _ _ (c i x L e1 e2)⟩
theorem CirF.of {H : Hp} {D : Addr} {xs : List Str} {Ls : List Addr} {fs : Str → List Str} (h : CirAt H D xs Ls fs) (o : _) : CirF (upd H D (.frz o (.dK (dkv xs (Ls.map V.ref))))) D xs Ls fs := by
  refine ⟨⟨o, upd_same⟩, h.2.1, fun i x L e1 e2 => ?_⟩
  have e := h.2.2.2 i x L e1 e2
  have n : L ≠ D := fun z => by
    rw [z, h.1] at e
    cases e
  rw [upd_ne n]
  exact e
def spIsCnt : Sp := fun vs H Q _ => ∃ i : Int, vs = [.int i] ∧ 0 ≤ i ∧ Q (.bl true) H
def spAmong (K : PySem.W.Frag) : Sp := fun vs H Q _ => ∃ (i : Int) (t : Addr), vs = [.int i, .ref t] ∧ SqT K H t [.int 0, .int 1, .int 2] ∧ (i = 0 ∨ i = 1 ∨ i = 2) ∧ Q .non H
def spKind : Sp := fun vs H Q _ => ∃ (D t : Addr) (r : Str) (p : Pr) (xs : List Str) (ps : List Pr) (Ls : List Addr), vs = [.ref D, .ref t, .str r] ∧ CirF H D xs Ls (frs ps) ∧ Good xs ps ∧ H t = some (.tup [.str p.1, .str p.2]) ∧ r ∈ xs ∧ ∀ H', Same H H' → Q (.int (kf ps p r : Nat)) H'
def spNumOf : Sp := fun vs H Q _ => ∃ (D t : Addr) (p : Pr) (xs : List Str) (ps : List Pr) (Ls : List Addr), vs = [.ref D, .ref t] ∧ CirF H D xs Ls (frs ps) ∧ Good xs ps ∧ H t = some (.tup [.str p.1, .str p.2]) ∧
  ∀ (H' : Hp) (L : Addr), Same H H' → H L = none → H' L = some (.lst [.int (nmk xs ps p 0), .int (nmk xs ps p 1), .int (nmk xs ps p 2)]) → Q (.ref L) H'
section
variable {P : Program} {w : World} {K : PySem.W.Frag} {mg : Str → Option Value} {base : Heap}
theorem ok_is_count {f : Addr} {fd : FuncData} (F : Fun K "is_count" "is_count" sp_is_count f fd) (T : Bt mg) : FnOk P w K mg base CX0 1 f fd ["value"] spIsCnt := by
  refine F.ok cp_is_count (fun vs H Q E h => ?_) (fun cdv A outer s H vs Q E hr h => ?_)
  · obtain ⟨_, rfl, _⟩ := h
    rfl
  · obtain ⟨i, rfl, h0, k⟩ := h
    refine ⟨_, pss_one (ps_ret (pe_and (pe_callB call_isi (by rfl) T.isi (by decide +kernel) (pa_cons (pv 0) (pa_cons (pe_bltn (v := .ty "int") (by rfl) T.int (by decide +kernel) rfl) pa_nil)))
      (pe_and (pe_not (pe_callB call_isi (by rfl) T.isi (by decide +kernel) (pa_cons (pv 0) (pa_cons (pe_bltn (v := .ty "bool") (by rfl) T.bool (by decide +kernel) rfl) pa_nil))))
      (pe_one (pe_cmpR op_ge (pv 0) pe_int (nomark _)))))), ?_⟩
    refine ⟨_, rfl, _, _, _, _, _, rfl, .ty "int", .base (.int i), kit_ty (a := "int") (r := true) (by decide +kernel), _, rfl, iteT ?_⟩
    refine ⟨_, rfl, _, _, _, _, _, rfl, .ty "bool", .base (.int i), kit_ty (a := "int") (r := false) (by decide +kernel), _, rfl, _, rfl, iteT ?_⟩
    refine ⟨_, rfl, _, _, rfl, rfl, ?_⟩
    show Q (.bl (decide (0 ≤ i))) H
    rw [decide_eq_true h0]
    exact k
theorem ok_among {f : Addr} {fd : FuncData} (F : Fun K "check_among" "check_among" sp_check_among f fd) (T : Bt mg) (CC : Has P w K mg base 1 "is_count" ["value"] spIsCnt) : FnOk P w K mg base CX0 2 f fd ["number", "numbers"] (spAmong K) := by
  obtain ⟨fC, fdC, GC, mC, kC, bC⟩ := CC
  refine F.ok cp_check_among (fun vs H Q E h => ?_) (fun cdv A outer s H vs Q E hr h => ?_)
  · obtain ⟨_, _, rfl, _⟩ := h
    rfl
  · obtain ⟨i, t, rfl, ht, hi, k⟩ := h
    refine ⟨_, pss_one (ps_if (PW.pt (pw_or (pt_not (pt_val (pe_call GC hr rfl mC kC bC .nil pass0 (pa_cons (pv 0) pa_nil)))) (pw_or1 (pt_cmpR op_notIn_seq (pv 0) (pv 1) rfl)))) (pss_one ps_never) pss_nil), ?_⟩
    refine ⟨_, rfl, i, rfl, by omega, _, rfl, iteF ?_⟩
    refine ⟨_, rfl, _, rfl, t, _, rfl, .inr ht, rfl, rfl, _, rfl, ?_⟩
    rcases hi with rfl | rfl | rfl
    all_goals exact iteF k
theorem ok_kind_of {f : Addr} {fd : FuncData} (F : Fun K "kind_of" "kind_of" sp_kind_of f fd) (T : Bt mg) : FnOk P w K mg base CX0 1 f fd ["known", "pair", "person"] spKind := by
  refine F.ok cp_kind_of (fun vs H Q E h => ?_) (fun cdv A outer s H vs Q E hr h => ?_)
  · obtain ⟨_, _, _, _, _, _, _, rfl, _⟩ := h
    rfl
  · obtain ⟨D, t, r, p, xs, ps, Ls, rfl, ci, g, ht, hx, k⟩ := h
    refine ⟨_, pss_one (ps_ret (pe_callB call_len_seq (by rfl) T.len PySem.boot_len (pa_cons (pe_lc (own := [("one", 3)]) (g := gName 3) rfl cp_kind_of.nd (pi_tup (pv 1))
      (blkOk_by (N := ["known", "pair", "person", "one"]) (sc := defScope sp_kind_of) (by decide +kernel)) (fun _ _ _ _ _ => pg_name (i := 3) cp_kind_of.nd rfl (Or.inl rfl))
      (fun _ _ _ _ _ => pts_one (pt_cmpR (r := rIn K false) op_in_seq (pv 3) (pe_dget (hu_of hr) (pv 0) (pv 2) (fun _ _ => rfl)) rfl)) (fun _ _ _ _ _ => pv 3)) pa_nil))), ?_⟩
    obtain ⟨⟨o, hd⟩, ll, at_⟩ := ci
    obtain ⟨j, hj, e⟩ := List.getElem_of_mem hx
    have x1 : xs[j]? = some r := by rw [List.getElem?_eq_getElem hj, e]
    obtain ⟨L, hL⟩ : ∃ L, Ls[j]? = some L := ⟨_, List.getElem?_eq_getElem (by omega)⟩
    have el := at_ j r L x1 hL
    have gt := dkv_get (vs := Ls.map V.ref) g.asc.nd x1 (by rw [List.getElem?_map, hL]; rfl)
    refine ⟨_, rfl, t, rfl, ⟨_, SqT.of ht⟩, fun R hR => ?_⟩
    refine lc_it (walk_tup (K := K) (a := t) (xs := [V.str p.1, V.str p.2])) (fun i H' => Same H H' ∧ H' R = some (.lst ((([p.1, p.2].take i).filter fun y => decide (y ∈ frs ps r)).map V.str)))
      ⟨same_new hR, upd_same⟩ (fun i H' _ z => SqT.of (z.1 _ _ ht)) ?_ ?_
    · rintro i v H1 _ hi ⟨s1, hr1⟩ ⟨rfl, hv⟩
      have hv' : ([p.1, p.2].map V.str)[i]? = some v := hv
      rw [List.getElem?_map] at hv'
      obtain ⟨y, hy, rfl⟩ := Option.map_eq_some_iff.mp hv'
      have nx : (([p.1, p.2].take (i + 1)).filter fun y => decide (y ∈ frs ps r)) = (([p.1, p.2].take i).filter fun y => decide (y ∈ frs ps r)) ++ if decide (y ∈ frs ps r) = true then [y] else [] := filter_next hy
      refine ⟨rfl, _, rfl, _, rfl, _, rfl, D, .ref L, rfl, .inl ⟨_, Sum.inr r, .inr ⟨o, s1 _ _ hd⟩, rfl, gt.symm⟩, ?_⟩
      refine ⟨L, _, rfl, .inl (SqL.of (s1 _ _ el)), rfl, flat_strs' _, _, rfl, ?_⟩
      rw [in_strs]
      refine ite2 (fun hb => ?_) (fun hb => ?_)
      · have hb : decide (y ∈ frs ps r) = true := hb
        refine ⟨_, rfl, _, hr1, ?_, same_over s1 hR, ?_⟩
        · have h1 := List.length_filter_le (fun y => decide (y ∈ frs ps r)) ([p.1, p.2].take i)
          rw [List.length_map, sizeLine_eq]
          have h2 : ([p.1, p.2].take i).length ≤ 2 := by
            rw [List.length_take]
            exact Nat.min_le_right _ _
          omega
        · rw [upd_same, nx, if_pos hb, List.map_append]
          rfl
      · have hb : ¬ decide (y ∈ frs ps r) = true := hb
        refine ⟨s1, ?_⟩
        rw [nx, if_neg hb, List.append_nil]
        exact hr1
    · rintro H1 ⟨s1, hr1⟩
      refine ⟨R, _, rfl, .inl (SqL.of hr1), ?_⟩
      rw [List.length_map]
      exact k H1 s1
end
end Wd
end
section
set_option maxRecDepth 100000
set_option maxHeartbeats 4000000
namespace Wd
open PySem L2
theorem nin_pair (r : Str) (p : Pr) : (!inV (.str r) [.str p.1, .str p.2]) = outF p r := by
  have e := in_strs r [p.1, p.2]
  unfold outF
  rw [← e]
  rfl
def oddK (xs : List Str) (ps : List Pr) (k : Int) (p : Pr) : Bool := decide (nmk xs ps p k % 2 = 1)
def thL (xs : List Str) (ps : List Pr) (p : Pr) (k : Int) : List Str := xs.filter fun r => outF p r && decide (((kf ps p r : Nat) : Int) = k)
def spOddPr : Sp := fun vs H Q _ => ∃ (D t : Addr) (k : Int) (p : Pr) (xs : List Str) (ps : List Pr) (Ls : List Addr), vs = [.ref D, .ref t, .int k] ∧ CirF H D xs Ls (frs ps) ∧ Good xs ps ∧ H t = some (.tup [.str p.1, .str p.2]) ∧ (k = 0 ∨ k = 1 ∨ k = 2) ∧ ∀ H', Same H H' → Q (.bl (oddK xs ps k p)) H'
def spThird (C : Addr) : Sp := fun vs H Q _ => ∃ (c t : Addr) (k : Int) (p : Pr) (xs : List Str) (ps : List Pr), vs = [.ref c, .ref t, .int k] ∧ CAt C H c xs ps ∧ Good xs ps ∧ H t = some (.tup [.str p.1, .str p.2]) ∧ p ∈ prsS xs ∧ (k = 0 ∨ k = 1 ∨ k = 2) ∧
  ∀ (H' : Hp) (L : Addr), Same H H' → H L = none → H' L = some (.lst ((thL xs ps p k).map V.str)) → Q (.ref L) H'
def numL (xs : List Str) (ps : List Pr) (p : Pr) : List V := [.int (nmk xs ps p 0), .int (nmk xs ps p 1), .int (nmk xs ps p 2)]
def spKN (C : Addr) : Sp := fun vs H Q _ => ∃ (c t : Addr) (p : Pr) (xs : List Str) (ps : List Pr), vs = [.ref c, .ref t] ∧ CAt C H c xs ps ∧ Good xs ps ∧ H t = some (.tup [.str p.1, .str p.2]) ∧ p ∈ prsS xs ∧
  ∀ (H' : Hp) (L : Addr), Same H H' → H L = none → H' L = some (.lst (numL xs ps p)) → Q (.ref L) H'
section
variable {P : Program} {w : World} {K : PySem.W.Frag} {mg : Str → Option Value} {base : Heap}
theorem ok_numbers_of {f kd : Addr} {fd : FuncData} (F : Fun K "numbers_of" "numbers_of" sp_numbers_of f fd) (T : Bt mg) (mK : mg "KINDS" = some (.ref kd)) (hK : KT K kd) (CK : Has P w K mg base 1 "kind_of" ["known", "pair", "person"] spKind) :
    FnOk P w K mg base CX0 2 f fd ["known", "pair"] spNumOf := by
  obtain ⟨fC, fdC, GC, mC, kC, bC⟩ := CK
  refine F.ok cp_numbers_of (fun vs H Q E h => ?_) (fun cdv A outer s H vs Q E hr h => ?_)
  · obtain ⟨_, _, _, _, _, _, rfl, _⟩ := h
    rfl
  · obtain ⟨D, t, p, xs, ps, Ls, rfl, ci, g, ht, k⟩ := h
    refine ⟨_, pss_cons (ps_set (i := 3) cp_numbers_of.nd rfl (Or.inr rfl) (pe_lc (own := [("person", 2)]) (g := gName 2) rfl cp_numbers_of.nd (pi_keys (pv 0))
        (blkOk_by (N := ["known", "pair", "person", "kinds", "kind"]) (sc := defScope sp_numbers_of) (by decide +kernel)) (fun _ _ _ _ _ => pg_name (i := 2) cp_numbers_of.nd rfl (Or.inl rfl))
        (fun _ _ _ _ _ => pts_one (pt_cmpR (r := rIn K true) op_notIn_seq (pv 2) (pv 1) rfl)) (fun _ _ _ _ _ => pe_call GC hr rfl mC kC bC .nil pass0 (pa_cons (pv 0) (pa_cons (pv 1) (pa_cons (pv 2) pa_nil))))))
      (pss_one (ps_ret (pe_lc (own := [("kind", 4)]) (g := gName 4) (tt := tYes) (te := tBM K "list" (rCntI K) (tVar 3) (tCons (tVar 4) tNil)) rfl cp_numbers_of.nd (pi_tup (C8.pe_gc (v := .ref kd) rfl ⟨_, mK, rfl⟩))
        (blkOk_by (N := ["known", "pair", "person", "kinds", "kind"]) (sc := defScope sp_numbers_of) (by decide +kernel)) (fun _ _ _ _ _ => pg_name (i := 4) cp_numbers_of.nd rfl (Or.inl rfl)) (fun _ _ _ _ _ => pts_nil)
        (fun _ _ _ _ _ => pe_bm PySem.F.plainAttrs_list PySem.F.slot_list_count PySem.F.type_list_count mt_lcount (pv 3) (pa_cons (pv 4) pa_nil))))), ?_⟩
    obtain ⟨⟨o, hd⟩, ll, at_⟩ := id ci
    have l9 := g.few
    have lv : (Ls.map V.ref).length = xs.length := by rw [List.length_map]; exact ll
    refine ⟨_, rfl, D, o, rfl, .inl ⟨_, hd, fun R hR => ?_⟩⟩
    have nR : H R = none := hR
    refine lc_it (walk_keys (d := D) (o := o) (kvs := dkv xs (Ls.map V.ref))) (fun i H' => Same H H' ∧ H' R = some (.lst ((((xs.take i).filter (outF p)).map fun r => ((kf ps p r : Nat) : Int)).map V.int)))
      ⟨same_new hR, upd_same⟩ (fun i H' _ z => z.1 _ _ hd) ?_ ?_
    · rintro i v H1 _ hi ⟨s1, hr1⟩ ⟨rfl, ky, vv, ek, rfl⟩
      rw [dkv_len lv] at hi
      obtain ⟨x, v', hx, hv, e⟩ := dkv_mem ek
      obtain ⟨rfl, rfl⟩ := Prod.mk.inj e
      have nx : ((xs.take (i + 1)).filter (outF p)) = (xs.take i).filter (outF p) ++ if outF p x = true then [x] else [] := filter_next hx
      refine ⟨rfl, _, rfl, _, rfl, t, _, rfl, .inr (SqT.of (s1 _ _ ht)), rfl, rfl, _, rfl, ?_⟩
      refine ite2 (fun hb => ?_) (fun hb => ?_)
      · have hb : (!inV (.str x) [.str p.1, .str p.2]) = true := hb
        rw [nin_pair] at hb
        refine ⟨_, rfl, _, rfl, _, rfl, D, t, x, p, xs, ps, Ls, rfl, ci.same s1, g, s1 _ _ ht, List.mem_of_getElem? hx, fun H2 s2 => ?_⟩
        refine ⟨_, s2 _ _ hr1, ?_, same_over (s1.trans s2) hR, ?_⟩
        · have h1 := List.length_filter_le (outF p) (xs.take i)
          rw [List.length_map, List.length_map, sizeLine_eq]
          rw [List.length_take] at h1
          omega
        · rw [upd_same, nx, if_pos hb, List.map_append, List.map_append]
          rfl
      · have hb : ¬ (!inV (.str x) [.str p.1, .str p.2]) = true := hb
        rw [nin_pair] at hb
        refine ⟨s1, ?_⟩
        rw [nx, if_neg hb, List.append_nil]
        exact hr1
    · rintro H1 ⟨s1, hr1⟩
      rw [dkv_len lv, List.take_length] at hr1
      have hr1 : H1 R = some (.lst ((kfs xs ps p).map V.int)) := hr1
      refine ⟨kd, rfl, ⟨_, hK _⟩, fun S hS => ?_⟩
      refine lc_it (walk_tup (K := K) (a := kd) (xs := [V.int 0, V.int 1, V.int 2])) (fun i H' => Same H1 H' ∧ H' S = some (.lst ((([0, 1, 2] : List Int).take i).map fun k => V.int (nmk xs ps p k)))) ⟨same_new hS, upd_same⟩ (fun i H' _ z => hK _) ?_ ?_
      · rintro i v H2 _ hi ⟨s2, hs2⟩ ⟨rfl, hv⟩
        have hv' : (([0, 1, 2] : List Int).map V.int)[i]? = some v := hv
        rw [List.getElem?_map] at hv'
        obtain ⟨y, hy, rfl⟩ := Option.map_eq_some_iff.mp hv'
        refine ⟨rfl, _, rfl, .inl ⟨rfl, _, SqL.of (s2 _ _ hr1)⟩, _, rfl, R, kfs xs ps p, y, rfl, rfl, SqL.of (s2 _ _ hr1), ?_⟩
        refine ⟨_, hs2, ?_, same_over s2 hS, ?_⟩
        · rw [List.length_map, List.length_take, sizeLine_eq]
          have : (([0, 1, 2] : List Int)).length = 3 := rfl
          omega
        · rw [upd_same, take_next hy, List.map_append]
          rfl
      · rintro H2 ⟨s2, hs2⟩
        exact k H2 S (s1.trans s2) (same_none s1 hS) hs2
end
end Wd
end
section
set_option maxRecDepth 100000
set_option maxHeartbeats 4000000
namespace Wd
open PySem L2
def spOddPs (C : Addr) : Sp := fun vs H Q _ => ∃ (c : Addr) (k : Int) (xs : List Str) (ps : List Pr), vs = [.ref c, .int k] ∧ CAt C H c xs ps ∧ Good xs ps ∧ (k = 0 ∨ k = 1 ∨ k = 2) ∧
  ∀ (H' : Hp) (L : Addr), Same H H' → H L = none → PwAt H' L ((prsS xs).filter (oddK xs ps k)) → Q (.ref L) H'
def oddN (xs : List Str) (ps : List Pr) (k : Int) (x : Str) : List Str := xs.filter fun y => decide (y ≠ x) && oddK xs ps k (mk x y)
def spOddFs (C : Addr) : Sp := fun vs H Q _ => ∃ (c : Addr) (x : Str) (k : Int) (xs : List Str) (ps : List Pr), vs = [.ref c, .str x, .int k] ∧ CAt C H c xs ps ∧ Good xs ps ∧ x ∈ xs ∧ (k = 0 ∨ k = 1 ∨ k = 2) ∧
  ∀ (H' : Hp) (L : Addr), Same H H' → H L = none → H' L = some (.lst ((oddN xs ps k x).map V.str)) → Q (.ref L) H'
section
variable {P : Program} {w : World} {K : PySem.W.Frag} {mg : Str → Option Value} {base : Heap}
theorem ok_ppair_of {f : Addr} {fd : FuncData} (F : Fun K "pair_of" "pair_of" sp_pair_of f fd) : FnOk P w K mg base CX0 1 f fd ["one", "other"] spPair := by
  refine F.ok cp_pair_of (fun vs H Q E h => ?_) (fun cdv A outer s H vs Q E hr h => ?_)
  · obtain ⟨_, _, rfl, _⟩ := h
    rfl
  · obtain ⟨a, b, rfl, k⟩ := h
    refine ⟨_, pss_one (ps_ret (pe_ifExp (pt_cmpR op_lt_str (pv 0) (pv 1) (nomark _)) (pe_tup (pa_cons (pv 0) (pa_cons (pv 1) pa_nil))) (pe_tup (pa_cons (pv 1) (pa_cons (pv 0) pa_nil))))), ?_⟩
    refine ⟨_, rfl, _, rfl, _, _, rfl, rfl, _, rfl, ?_⟩
    refine ite2 (fun hb => ?_) (fun hb => ?_)
    · have c : Lt a b := of_decide_eq_true hb
      refine ⟨_, rfl, _, rfl, by show 2 ≤ sizeLine; decide, fun T hT => ?_⟩
      have q := k T hT
      unfold mk at q
      rw [if_pos c] at q
      exact q
    · have c : ¬ Lt a b := fun z => hb (decide_eq_true z)
      refine ⟨_, rfl, _, rfl, by show 2 ≤ sizeLine; decide, fun T hT => ?_⟩
      have q := k T hT
      unfold mk at q
      rw [if_neg c] at q
      exact q
theorem ok_third_people {f kd C : Addr} {fd : FuncData} (F : Fun K "third_people" "third_people" sp_third_people f fd) (T : Bt mg) (TC : CT K mg C) (mK : mg "KINDS" = some (.ref kd)) (hK : KT K kd) (CC : Has P w K mg base 1 "check_company" ["company"] (spChk C)) (CT' : Has P w K mg base 2 "check_pair_of" ["company", "pair"] (spChkT C))
    (CA : Has P w K mg base 2 "check_among" ["number", "numbers"] (spAmong K)) (CI : Has P w K mg base 2 "circles" ["company"] (spCirc C)) (CK : Has P w K mg base 1 "kind_of" ["known", "pair", "person"] spKind) :
    FnOk P w K mg base CX0 3 f fd ["company", "pair", "kind"] (spThird C) := by
  obtain ⟨f1, d1, G1, m1, k1, b1⟩ := CC
  obtain ⟨f2, d2, G2, m2, k2, b2⟩ := CT'
  obtain ⟨f3, d3, G3, m3, k3, b3⟩ := CA
  obtain ⟨f4, d4, G4, m4, k4, b4⟩ := CI
  obtain ⟨f5, d5, G5, m5, k5, b5⟩ := CK
  refine F.ok cp_third_people (fun vs H Q E h => ?_) (fun cdv A outer s H vs Q E hr h => ?_)
  · obtain ⟨_, _, _, _, _, _, rfl, _⟩ := h
    rfl
  · obtain ⟨c, t, k0, p, xs, ps, rfl, hc, g, ht, hp, hk, k⟩ := h
    have hr1 : Room 1 _ := hr.mono (by decide)
    refine ⟨_, pss_cons (ps_expr (pe_call G1 hr1 rfl m1 k1 b1 .nil pass0 (pa_cons (pv 0) pa_nil)))
      (pss_cons (ps_expr (pe_call G2 hr rfl m2 k2 b2 .nil pass0 (pa_cons (pv 0) (pa_cons (pv 1) pa_nil))))
      (pss_cons (ps_expr (pe_call G3 hr rfl m3 k3 b3 .nil pass0 (pa_cons (pv 2) (pa_cons (C8.pe_gc (v := .ref kd) rfl ⟨_, mK, rfl⟩) pa_nil))))
      (pss_cons (ps_set (i := 3) cp_third_people.nd rfl (Or.inr rfl) (pe_frz (pe_call G4 hr rfl m4 k4 b4 .nil pass0 (pa_cons (pv 0) pa_nil))))
      (pss_one (ps_ret (pe_lc (own := [("person", 4)]) (g := gName 4) rfl cp_third_people.nd (pi_keys (pv 3))
        (blkOk_by (N := ["company", "pair", "kind", "known", "person"]) (sc := defScope sp_third_people) (by decide +kernel)) (fun _ _ _ _ _ => pg_name (i := 4) cp_third_people.nd rfl (Or.inl rfl))
        (fun _ _ _ _ _ => pts_one (PW.pt (pw_and (pt_cmpR (r := rIn K true) op_notIn_seq (pv 4) (pv 1) rfl) (pw_and1 (pt_cmpR op_eq (pe_call G5 hr1 rfl m5 k5 b5 .nil pass0 (pa_cons (pv 3) (pa_cons (pv 1) (pa_cons (pv 4) pa_nil)))) (pv 2) (nomark _)))))) (fun _ _ _ _ _ => pv 4))))))), ?_⟩
    obtain ⟨dx, a, b, h1, h2, h3⟩ := id hc
    have l9 := g.few
    refine ⟨_, rfl, c, dx, _, rfl, h1, ?_⟩
    refine ⟨_, rfl, _, rfl, c, t, p, xs, ps, rfl, hc, g, ht, hp, fun H1 s1 => ?_⟩
    refine ⟨_, rfl, k0, kd, rfl, hK _, hk, ?_⟩
    refine ⟨_, rfl, c, xs, ps, rfl, hc.same s1, g, fun H2 D Ls s2 nD fresh ci => ⟨D, _, rfl, ci.1, True.intro, fun o => ?_⟩⟩
    have cf := CirF.of ci o
    have s12 : Same H (upd H2 D (.frz o (.dK (dkv xs (Ls.map V.ref))))) := same_over (s1.trans s2) (same_none s1 nD)
    have hd : upd H2 D (.frz o (.dK (dkv xs (Ls.map V.ref)))) D = some (.frz o (.dK (dkv xs (Ls.map V.ref)))) := upd_same
    have lv : (Ls.map V.ref).length = xs.length := by rw [List.length_map]; exact ci.2.1
    generalize upd H2 D (.frz o (.dK (dkv xs (Ls.map V.ref)))) = H3 at cf s12 hd ⊢
    refine ⟨_, rfl, D, o, rfl, .inl ⟨_, hd, fun R hR => ?_⟩⟩
    refine lc_it (walk_keys (d := D) (o := o) (kvs := dkv xs (Ls.map V.ref))) (fun i H' => Same H3 H' ∧ H' R = some (.lst (((xs.take i).filter fun r => outF p r && decide (((kf ps p r : Nat) : Int) = k0)).map V.str)))
      ⟨same_new hR, upd_same⟩ (fun i H' _ z => z.1 _ _ hd) ?_ ?_
    · rintro i v H4 _ hi ⟨s4, hr4⟩ ⟨rfl, ky, vv, ek, rfl⟩
      rw [dkv_len lv] at hi
      obtain ⟨x, v', hx, hv, e⟩ := dkv_mem ek
      obtain ⟨rfl, rfl⟩ := Prod.mk.inj e
      have nx : ((xs.take (i + 1)).filter fun r => outF p r && decide (((kf ps p r : Nat) : Int) = k0)) = ((xs.take i).filter fun r => outF p r && decide (((kf ps p r : Nat) : Int) = k0)) ++ if (outF p x && decide (((kf ps p x : Nat) : Int) = k0)) = true then [x] else [] := filter_next hx
      refine ⟨rfl, _, rfl, _, rfl, t, _, rfl, .inr (SqT.of ((s12.trans s4) _ _ ht)), rfl, rfl, _, rfl, ?_⟩
      refine ite2 (fun hb => ?_) (fun hb => ?_)
      · have hb : (!inV (.str x) [.str p.1, .str p.2]) = true := hb
        rw [nin_pair] at hb
        refine ⟨_, rfl, _, rfl, _, rfl, D, t, x, p, xs, ps, Ls, rfl, cf.same s4, g, (s12.trans s4) _ _ ht, List.mem_of_getElem? hx, fun H5 s5 => ?_⟩
        refine ⟨_, rfl, rfl, _, rfl, ?_⟩
        refine ite2 (fun hc => ?_) (fun hc => ?_)
        · have hc : ((kf ps p x : Nat) : Int) = k0 := V.int.inj (of_decide_eq_true hc)
          refine ⟨_, rfl, _, s5 _ _ hr4, ?_, same_over (s4.trans s5) hR, ?_⟩
          · have h1 := List.length_filter_le (fun r => outF p r && decide (((kf ps p r : Nat) : Int) = k0)) (xs.take i)
            rw [List.length_map, sizeLine_eq]
            rw [List.length_take] at h1
            omega
          · rw [upd_same, nx, if_pos (by rw [hb, decide_eq_true hc]; rfl), List.map_append]
            rfl
        · have hc : ¬ ((kf ps p x : Nat) : Int) = k0 := fun z => hc (by rw [z]; exact decide_eq_true rfl)
          refine ⟨s4.trans s5, ?_⟩
          rw [nx, if_neg (by rw [hb, decide_eq_false hc]; exact fun z => nomatch z), List.append_nil]
          exact s5 _ _ hr4
      · have hb : ¬ (!inV (.str x) [.str p.1, .str p.2]) = true := hb
        rw [nin_pair] at hb
        refine ⟨s4, ?_⟩
        rw [nx, if_neg (by rw [Bool.eq_false_iff.mpr hb]; exact fun z => nomatch z), List.append_nil]
        exact hr4
    · rintro H4 ⟨s4, hr4⟩
      rw [dkv_len lv, List.take_length] at hr4
      exact k H4 R (s12.trans s4) (same_none s12 hR) hr4
theorem ok_kind_numbers {f C : Addr} {fd : FuncData} (F : Fun K "kind_numbers" "kind_numbers" sp_kind_numbers f fd) (T : Bt mg) (TC : CT K mg C) (CC : Has P w K mg base 1 "check_company" ["company"] (spChk C)) (CT' : Has P w K mg base 2 "check_pair_of" ["company", "pair"] (spChkT C))
    (CI : Has P w K mg base 2 "circles" ["company"] (spCirc C)) (CN : Has P w K mg base 2 "numbers_of" ["known", "pair"] spNumOf) : FnOk P w K mg base CX0 3 f fd ["company", "pair"] (spKN C) := by
  obtain ⟨f1, d1, G1, m1, k1, b1⟩ := CC
  obtain ⟨f2, d2, G2, m2, k2, b2⟩ := CT'
  obtain ⟨f4, d4, G4, m4, k4, b4⟩ := CI
  obtain ⟨f5, d5, G5, m5, k5, b5⟩ := CN
  refine F.ok cp_kind_numbers (fun vs H Q E h => ?_) (fun cdv A outer s H vs Q E hr h => ?_)
  · obtain ⟨_, _, _, _, _, rfl, _⟩ := h
    rfl
  · obtain ⟨c, t, p, xs, ps, rfl, hc, g, ht, hp, k⟩ := h
    have hr1 : Room 1 _ := hr.mono (by decide)
    refine ⟨_, pss_cons (ps_expr (pe_call G1 hr1 rfl m1 k1 b1 .nil pass0 (pa_cons (pv 0) pa_nil)))
      (pss_cons (ps_expr (pe_call G2 hr rfl m2 k2 b2 .nil pass0 (pa_cons (pv 0) (pa_cons (pv 1) pa_nil))))
      (pss_one (ps_ret (pe_call G5 hr rfl m5 k5 b5 .nil pass0 (pa_cons (pe_frz (pe_call G4 hr rfl m4 k4 b4 .nil pass0 (pa_cons (pv 0) pa_nil))) (pa_cons (pv 1) pa_nil)))))), ?_⟩
    obtain ⟨dx, a, b, h1, h2, h3⟩ := id hc
    refine ⟨_, rfl, c, dx, _, rfl, h1, ?_⟩
    refine ⟨_, rfl, _, rfl, c, t, p, xs, ps, rfl, hc, g, ht, hp, fun H1 s1 => ?_⟩
    refine ⟨_, rfl, c, xs, ps, rfl, hc.same s1, g, fun H2 D Ls s2 nD fresh ci => ⟨D, _, rfl, ci.1, True.intro, fun o => ?_⟩⟩
    have s12 : Same H (upd H2 D (.frz o (.dK (dkv xs (Ls.map V.ref))))) := same_over (s1.trans s2) (same_none s1 nD)
    refine ⟨_, rfl, D, t, p, xs, ps, Ls, rfl, CirF.of ci o, g, s12 _ _ ht, fun H3 L s3 nL hL => k H3 L (s12.trans s3) (same_none s12 nL) hL⟩
end
end Wd
end
section
set_option maxRecDepth 100000
set_option maxHeartbeats 4000000
namespace Wd
open PySem L2
/-! data, and where it stands: lists only at addresses that A allows -/
inductive Dt
  | atm (v : V)
  | ls (l : List Dt)
  | tp (l : List Dt)
inductive Is (A : Addr → Prop) (H : Hp) : Nat → Dt → V → Prop
  | atm {v : V} (n : Nat) (h : Atom v) : Is A H n (.atm v) v
  | ls {n : Nat} {a : Addr} {vs : List V} {ds : List Dt} (ha : H a = some (.lst vs)) (hA : A a) (l : vs.length = ds.length) (few : ds.length ≤ 100) (h : ∀ (i : Nat) v d, vs[i]? = some v → ds[i]? = some d → Is A H n d v) : Is A H (n + 1) (.ls ds) (.ref a)
  | tp {n : Nat} {a : Addr} {vs : List V} {ds : List Dt} (ha : H a = some (.tup vs)) (l : vs.length = ds.length) (few : ds.length ≤ 100) (h : ∀ (i : Nat) v d, vs[i]? = some v → ds[i]? = some d → Is A H n d v) : Is A H (n + 1) (.tp ds) (.ref a)
theorem Is.same {A : Addr → Prop} {H H' : Hp} (s : Same H H') {n : Nat} {d : Dt} {v : V} (h : Is A H n d v) : Is A H' n d v := by
  induction h with
  | atm n h => exact .atm n h
  | ls ha hA l few _ ih => exact .ls (s _ _ ha) hA l few ih
  | tp ha l few _ ih => exact .tp (s _ _ ha) l few ih
theorem Is.weak {A B : Addr → Prop} {H : Hp} (s : ∀ a, A a → B a) {n : Nat} {d : Dt} {v : V} (h : Is A H n d v) : Is B H n d v := by
  induction h with
  | atm n h => exact .atm n h
  | ls ha hA l few _ ih => exact .ls ha (s _ hA) l few ih
  | tp ha l few _ ih => exact .tp ha l few ih
theorem Is.up {A : Addr → Prop} {H : Hp} {n : Nat} {d : Dt} {v : V} (h : Is A H n d v) : Is A H (n + 1) d v := by
  induction h with
  | atm n h => exact .atm _ h
  | ls ha hA l few _ ih => exact .ls ha hA l few ih
  | tp ha l few _ ih => exact .tp ha l few ih
theorem Is.keep {A : Addr → Prop} {H : Hp} {R : Addr} {xs ys : List V} (hR : H R = some (.lst xs)) (nA : ¬ A R) {n : Nat} {d : Dt} {v : V} (h : Is A H n d v) : Is A (upd H R (.lst ys)) n d v := by
  induction h with
  | atm n h => exact .atm _ h
  | ls ha hA l few _ ih => exact .ls (by rw [upd_ne fun z => nA (by rw [← z]; exact hA)]; exact ha) hA l few ih
  | tp ha l few _ ih =>
    refine .tp ?_ l few ih
    rw [upd_ne fun z => ?_]
    · exact ha
    · rw [z, hR] at ha
      cases ha
theorem Is.sm {A B : Addr → Prop} {H : Hp} {n : Nat} {d : Dt} {v : V} (h : Is A H n d v) : ∀ {u : V}, Is B H n d u → Sm H n v u := by
  induction h with
  | atm n h =>
    intro u g
    cases g with
    | atm _ _ => exact .atom _ h
  | @ls n a vs ds ha hA l few hh ih =>
    intro u g
    cases g with
    | ls hb hB l2 _ h2 =>
      refine .lst ha hb (l.trans l2.symm) (by rw [l]; exact few) fun i x y hx hy => ?_
      obtain ⟨d, hd⟩ : ∃ d, ds[i]? = some d := ⟨_, List.getElem?_eq_getElem (Nat.lt_of_lt_of_eq (List.getElem?_eq_some_iff.mp hx).1 l)⟩
      exact ih i x d hx hd (h2 i y d hy hd)
  | @tp n a vs ds ha l few hh ih =>
    intro u g
    cases g with
    | tp hb l2 _ h2 =>
      refine .tup ha hb (l.trans l2.symm) (by rw [l]; exact few) fun i x y hx hy => ?_
      obtain ⟨d, hd⟩ : ∃ d, ds[i]? = some d := ⟨_, List.getElem?_eq_getElem (Nat.lt_of_lt_of_eq (List.getElem?_eq_some_iff.mp hx).1 l)⟩
      exact ih i x d hx hd (h2 i y d hy hd)
/-- the list R under way, its items fresh since H0 -/
def Bld (H0 : Hp) (R : Addr) (H : Hp) (n : Nat) (ds : List Dt) : Prop := ∃ vs : List V, H R = some (.lst vs) ∧ vs.length = ds.length ∧ ∀ (i : Nat) v d, vs[i]? = some v → ds[i]? = some d → Is (fun a => H0 a = none) H n d v
theorem bld_nil {H0 : Hp} {R : Addr} {H : Hp} {n : Nat} (h : H R = some (.lst [])) : Bld H0 R H n [] := ⟨[], h, rfl, fun i v d e _ => by simp at e⟩
theorem bld_snoc {H0 H1 H2 : Hp} {R : Addr} {n : Nat} {ds : List Dt} {d : Dt} {v : V} (b : Bld H0 R H1 n ds) (s : Same H1 H2) (hv : Is (fun a => H0 a = none) H2 n d v) (hR : H0 R ≠ none) :
    ∃ vs : List V, H2 R = some (.lst vs) ∧ vs.length = ds.length ∧ Bld H0 R (upd H2 R (.lst (vs ++ [v]))) n (ds ++ [d]) := by
  obtain ⟨vs, h, l, at_⟩ := b
  refine ⟨vs, s _ _ h, l, vs ++ [v], upd_same, by rw [List.length_append, List.length_append, l]; rfl, fun i u e h1 h2 => ?_⟩
  refine Is.keep (s _ _ h) hR ?_
  by_cases c : i < vs.length
  · rw [List.getElem?_append_left c] at h1
    rw [List.getElem?_append_left (by rw [← l]; exact c)] at h2
    exact (at_ i u e h1 h2).same s
  · rw [List.getElem?_append_right (by omega)] at h1
    rw [List.getElem?_append_right (by omega), ← l] at h2
    cases hq : i - vs.length with
    | zero =>
      rw [hq] at h1 h2
      simp at h1 h2
      subst h1 h2
      exact hv
    | succ q =>
      rw [hq] at h1
      simp at h1
theorem bld_done {H0 : Hp} {R : Addr} {H : Hp} {n : Nat} {ds : List Dt} {B : Addr → Prop} (b : Bld H0 R H n ds) (hR : B R) (sub : ∀ a, H0 a = none → B a) (few : ds.length ≤ 100) : Is B H (n + 1) (.ls ds) (.ref R) := by
  obtain ⟨vs, h, l, at_⟩ := b
  exact .ls h hR l few fun i v d h1 h2 => (at_ i v d h1 h2).weak sub
theorem Bld.len {H0 : Hp} {R : Addr} {H : Hp} {n : Nat} {ds : List Dt} (b : Bld H0 R H n ds) : ∃ vs : List V, H R = some (.lst vs) ∧ vs.length = ds.length := by
  obtain ⟨vs, h, l, _⟩ := b
  exact ⟨vs, h, l⟩
/-- data that is atoms -/
def dS (xs : List Str) : Dt := .ls (xs.map fun x => .atm (.str x))
def dI (ns : List Int) : Dt := .ls (ns.map fun x => .atm (.int x))
def dP (p : Pr) : Dt := .tp [.atm (.str p.1), .atm (.str p.2)]
def dPs (ps : List Pr) : Dt := .ls (ps.map dP)
theorem is_map {α : Type} {A : Addr → Prop} {H : Hp} {a : Addr} {xs : List α} {f : α → V} (n : Nat) (hf : ∀ x, Atom (f x)) (ha : H a = some (.lst (xs.map f))) (hA : A a) (few : xs.length ≤ 100) : Is A H (n + 1) (.ls (xs.map fun x => .atm (f x))) (.ref a) :=
  .ls ha hA (by rw [List.length_map, List.length_map]) (by rw [List.length_map]; exact few) fun i v d h1 h2 => by
    rw [List.getElem?_map] at h1 h2
    cases hx : xs[i]? with
    | none =>
      rw [hx] at h1
      cases h1
    | some x =>
      rw [hx] at h1 h2
      cases h1
      cases h2
      exact .atm n (hf x)
theorem is_strs {A : Addr → Prop} {H : Hp} {a : Addr} {xs : List Str} (n : Nat) (ha : H a = some (.lst (xs.map V.str))) (hA : A a) (few : xs.length ≤ 100) : Is A H (n + 1) (dS xs) (.ref a) := is_map n (fun x => .inr (.inl ⟨x, rfl⟩)) ha hA few
theorem is_ints {A : Addr → Prop} {H : Hp} {a : Addr} {xs : List Int} (n : Nat) (ha : H a = some (.lst (xs.map V.int))) (hA : A a) (few : xs.length ≤ 100) : Is A H (n + 1) (dI xs) (.ref a) := is_map n (fun x => .inl ⟨x, rfl⟩) ha hA few
theorem is_prs {A : Addr → Prop} {H : Hp} {a : Addr} {ps : List Pr} (n : Nat) (ha : PwAt H a ps) (hA : A a) (few : ps.length ≤ 100) : Is A H (n + 2) (dPs ps) (.ref a) := by
  obtain ⟨Ts, h, t⟩ := ha
  have lT : Ts.length = ps.length := by rw [t.1, List.length_map]
  refine .ls h hA (by rw [List.length_map, List.length_map, lT]) (by rw [List.length_map]; exact few) fun i v d h1 h2 => ?_
  rw [List.getElem?_map] at h1 h2
  obtain ⟨T, hT, rfl⟩ := Option.map_eq_some_iff.mp h1
  obtain ⟨p, hp, rfl⟩ := Option.map_eq_some_iff.mp h2
  refine .tp (t.2 i T (tv p) hT (by rw [List.getElem?_map, hp]; rfl)) rfl (by show 2 ≤ 100; decide) fun j u e g1 g2 => ?_
  rcases j with _ | _ | j
  · simp [tv] at g1 g2
    subst g1 g2
    exact .atm n (.inr (.inl ⟨_, rfl⟩))
  · simp [tv] at g1 g2
    subst g1 g2
    exact .atm n (.inr (.inl ⟨_, rfl⟩))
  · simp at g1
/-! the law's kinds -/
theorem kf_two (ps : List Pr) (p : Pr) (r : Str) : kf ps p r = (if p.1 ∈ frs ps r then 1 else 0) + (if p.2 ∈ frs ps r then 1 else 0) := by
  unfold kf
  by_cases a : p.1 ∈ frs ps r <;> by_cases b : p.2 ∈ frs ps r <;> simp [a, b]
theorem kf_net {xs : List Str} {ps : List Pr} (g : Good xs ps) {p : Pr} {r : Str} (h : outF p r = true) : kf ps p r = (if mk r p.1 ∈ ps then 1 else 0) + (if mk r p.2 ∈ ps then 1 else 0) := by
  have lt : ∀ q ∈ ps, Lt q.1 q.2 := fun q hq => (g.of q hq).2.2
  have h : r ∉ [p.1, p.2] := of_decide_eq_true (by unfold outF at h; rw [← decide_not] at h; exact h)
  have n1 : p.1 ≠ r := fun z => h (by rw [z]; exact List.mem_cons_self)
  have n2 : p.2 ≠ r := fun z => h (by rw [z]; exact List.mem_cons_of_mem _ List.mem_cons_self)
  rw [kf_two]
  simp only [mem_frs lt, n1, n2, ne_eq, not_false_eq_true, true_and]
theorem frs_sym {xs : List Str} {ps : List Pr} (g : Good xs ps) {x y : Str} : x ∈ frs ps y ↔ y ∈ frs ps x := by
  have lt : ∀ q ∈ ps, Lt q.1 q.2 := fun q hq => (g.of q hq).2.2
  rw [mem_frs lt, mem_frs lt, mk_comm]
  exact ⟨fun h => ⟨Ne.symm h.1, h.2⟩, fun h => ⟨Ne.symm h.1, h.2⟩⟩
theorem nmk_snoc (xs : List Str) (ps : List Pr) (p : Pr) (x : Str) (k : Int) : nmk (xs ++ [x]) ps p k = nmk xs ps p k + if outF p x = true ∧ ((kf ps p x : Nat) : Int) = k then 1 else 0 := by
  unfold nmk kfs
  rw [List.filter_append, List.map_append, List.count_append]
  by_cases h : outF p x = true
  · have e : [x].filter (outF p) = [x] := by rw [List.filter_cons_of_pos h]; rfl
    rw [e]
    by_cases c : ((kf ps p x : Nat) : Int) = k
    · rw [if_pos ⟨h, c⟩]
      show ((_ + List.count k [((kf ps p x : Nat) : Int)] : Nat) : Int) = _
      rw [c, List.count_singleton_self]
      omega
    · rw [if_neg fun z => c z.2]
      show ((_ + List.count k [((kf ps p x : Nat) : Int)] : Nat) : Int) = _
      have : List.count k [((kf ps p x : Nat) : Int)] = 0 := List.count_eq_zero.mpr fun z => c (List.mem_singleton.mp z).symm
      rw [this]
      omega
  · have e : [x].filter (outF p) = [] := by rw [List.filter_cons_of_neg h]; rfl
    rw [e, if_neg fun z => h z.1]
    show ((_ + 0 : Nat) : Int) = _
    omega
theorem slot3 (xs : List Str) (ps : List Pr) (p : Pr) (x : Str) (h : outF p x = true) : ∃ v : Int, atI (numL xs ps p) ((kf ps p x : Nat) : Int) = some (.int v) ∧ ixN (numL xs ps p).length ((kf ps p x : Nat) : Int) = some (kf ps p x) ∧ (numL xs ps p).set (kf ps p x) (.int (v + 1)) = numL (xs ++ [x]) ps p := by
  have t : kf ps p x = 0 ∨ kf ps p x = 1 ∨ kf ps p x = 2 := by
    rw [kf_two]
    split <;> split <;> simp
  have e : ∀ k, nmk (xs ++ [x]) ps p k = nmk xs ps p k + if ((kf ps p x : Nat) : Int) = k then 1 else 0 := fun k => by
    rw [nmk_snoc]
    simp [h]
  unfold numL
  rw [e 0, e 1, e 2]
  rcases t with t | t | t <;> rw [t]
  · refine ⟨nmk xs ps p 0, rfl, rfl, ?_⟩
    simp
  · refine ⟨nmk xs ps p 1, rfl, rfl, ?_⟩
    simp
  · refine ⟨nmk xs ps p 2, rfl, rfl, ?_⟩
    simp
def spKindsL : Sp := fun vs H Q _ => ∃ (a t : Addr) (p : Pr) (xs : List Str) (ps : List Pr), vs = [.ref a, .ref t] ∧ WAt H a xs ps ∧ Good xs ps ∧ H t = some (.tup [.str p.1, .str p.2]) ∧
  ∀ (H' : Hp) (L : Addr), Same H H' → H L = none → H' L = some (.lst (numL xs ps p)) → Q (.ref L) H'
def spThirdL : Sp := fun vs H Q _ => ∃ (a t : Addr) (k : Int) (p : Pr) (xs : List Str) (ps : List Pr), vs = [.ref a, .ref t, .int k] ∧ WAt H a xs ps ∧ Good xs ps ∧ H t = some (.tup [.str p.1, .str p.2]) ∧
  ∀ (H' : Hp) (L : Addr), Same H H' → H L = none → H' L = some (.lst ((thL xs ps p k).map V.str)) → Q (.ref L) H'
section
variable {P : Program} {w : World} {K : PySem.W.Frag} {mg : Str → Option Value} {base : Heap}
theorem ok_kinds {f : Addr} {fd : FuncData} (F : Fun K "_law_kinds" "_law_kinds" s_kinds f fd) (T : Bt mg) (CN : Has P w K mg base 1 "_law_net" ["_law_world_here"] spNet) (CP : Has P w K mg base 1 "_law_pair" ["_law_first", "_law_second"] spPair) :
    FnOk P w K mg base CX0 2 f fd ["_law_world_here", "_law_pair_here"] spKindsL := by
  obtain ⟨f1, d1, G1, m1, k1, b1⟩ := CN
  obtain ⟨f2, d2, G2, m2, k2, b2⟩ := CP
  refine F.ok c_kinds (fun vs H Q E h => ?_) (fun cdv A outer s H vs Q E hr h => ?_)
  · obtain ⟨_, _, _, _, _, rfl, _⟩ := h
    rfl
  · obtain ⟨a, t, p, xs, ps, rfl, W0, g, ht, k⟩ := h
    have hu := hu_of hr
    refine ⟨_, pss_cons (ps_par (i := 2) (j := 3) rfl c_kinds.nd rfl rfl (by decide) rfl rfl (pa_cons (pe_call G1 hr rfl m1 k1 b1 .nil pass0 (pa_cons (pv 0) pa_nil)) (pa_cons (pe_lst (pa_cons pe_int (pa_cons pe_int (pa_cons pe_int pa_nil)))) pa_nil)) (by rfl))
      (pss_cons (ps_for PassesOwn.never rfl (pi_list (pe_ix ix_list (pv 0) pe_int (fun _ _ => rfl))) (pg_name (i := 4) c_kinds.nd rfl (Or.inl rfl))
        (pss_one (ps_if (pt_cmpR op_notIn_seq (pv 4) (pv 1) rfl)
          (pss_cons (ps_set (i := 5) c_kinds.nd rfl (Or.inl rfl) (pe_op op_add
              (pe_callTy call_int1 (by rfl) T.int (by decide +kernel) (pa_cons (pe_cmp (pc_din hu (pe_call G2 hr rfl m2 k2 b2 .nil pass0 (pa_cons (pv 4) (pa_cons (pe_ix ix_tup (pv 1) pe_int (fun _ _ => rfl)) pa_nil))) (pv 2)) rfl) pa_nil))
              (pe_callTy call_int1 (by rfl) T.int (by decide +kernel) (pa_cons (pe_cmp (pc_din hu (pe_call G2 hr rfl m2 k2 b2 .nil pass0 (pa_cons (pv 4) (pa_cons (pe_ix ix_tup (pv 1) pe_int (fun _ _ => rfl)) pa_nil))) (pv 2)) rfl) pa_nil))))
          (pss_one (ps_asg (pe_op op_add (pe_ix ix_list (pv 3) (pv 5) (fun _ _ => rfl)) pe_int) (pg_sub (pv 3) (pv 5) set_list)))) pss_nil)))
      (pss_one (ps_ret (pv 3)))), ?_⟩
    obtain ⟨c, l, ha, hc, hps⟩ := id W0
    have l9 := g.few
    have few := g.len
    have lxs : (xs.map V.str).length = xs.length := List.length_map _
    refine ⟨_, rfl, a, xs, ps, rfl, W0, g.nodup, by omega, fun H1 N s1 nN hN => ?_⟩
    refine ⟨by show 3 ≤ sizeLine; decide, fun D hD => ?_⟩
    have nD : H D = none := same_none s1 hD
    have ND : N ≠ D := ne_of_none hN hD
    refine ⟨_, _, rfl, ?_⟩
    refine ⟨_, rfl, a, _, _, .ref c, rfl, rfl, SqL.of (same_over s1 nD _ _ ha), rfl, c, rfl, ⟨_, SqL.of (same_over s1 nD _ _ hc)⟩, ?_⟩
    refine for_list (xs := xs.map V.str) (fun i σ H' => ∃ v4 v5 : Option V, σ = [some (.ref a), some (.ref t), some (.ref N), some (.ref D), v4, v5] ∧ Same H H' ∧ H' N = some (.dT (netK ps)) ∧ H' D = some (.lst (numL (xs.take i) ps p)))
      ⟨none, none, rfl, same_over s1 nD, by rw [upd_ne ND]; exact hN, upd_same⟩ (fun i σ H' _ ⟨_, _, _, z, _⟩ => SqL.of (z _ _ hc)) ?_ ?_
    · rintro i v σ H2 hv ⟨v4, v5, rfl, s2, hn2, hd2⟩
      rw [List.getElem?_map] at hv
      obtain ⟨x, hx, rfl⟩ := Option.map_eq_some_iff.mp hv
      refine ⟨_, rfl, _, rfl, t, _, rfl, .inr (SqT.of (s2 _ _ ht)), rfl, rfl, _, rfl, ?_⟩
      refine ite2 (fun hb => ?_) (fun hb => ?_)
      · have hb : (!inV (.str x) [.str p.1, .str p.2]) = true := hb
        rw [nin_pair] at hb
        refine ⟨_, rfl, _, rfl, t, _, _, .str p.1, rfl, rfl, SqT.of (s2 _ _ ht), rfl, x, p.1, rfl, fun T1 nT1 => ?_⟩
        have e3 := same_new (o := .tup [.str (mk x p.1).1, .str (mk x p.1).2]) nT1
        have h31 : upd H2 T1 (.tup [.str (mk x p.1).1, .str (mk x p.1).2]) T1 = some (.tup [.str (mk x p.1).1, .str (mk x p.1).2]) := upd_same
        generalize upd H2 T1 (.tup [.str (mk x p.1).1, .str (mk x p.1).2]) = H3 at e3 h31 ⊢
        have s3 := s2.trans e3
        refine ⟨_, rfl, N, _, rfl, DGet.t (k := pk (mk x p.1)) (e3 _ _ hn2) h31, .inr ⟨_, rfl, ?_⟩⟩
        rw [net_get]
        refine ⟨_, rfl, _, rfl, t, _, _, .str p.2, rfl, rfl, SqT.of (s3 _ _ ht), rfl, x, p.2, rfl, fun T2 nT2 => ?_⟩
        have e4 := same_new (o := .tup [.str (mk x p.2).1, .str (mk x p.2).2]) nT2
        have h41 : upd H3 T2 (.tup [.str (mk x p.2).1, .str (mk x p.2).2]) T2 = some (.tup [.str (mk x p.2).1, .str (mk x p.2).2]) := upd_same
        generalize upd H3 T2 (.tup [.str (mk x p.2).1, .str (mk x p.2).2]) = H4 at e4 h41 ⊢
        have s4 := s3.trans e4
        refine ⟨_, rfl, N, _, rfl, DGet.t (k := pk (mk x p.2)) ((e3.trans e4) _ _ hn2) h41, .inr ⟨_, rfl, ?_⟩⟩
        rw [net_get]
        have eb : ∀ q, (if decide (q ∈ ps) = true then (1 : Int) else 0) = ((if q ∈ ps then 1 else 0 : Nat) : Int) := fun q => by
          by_cases z : q ∈ ps <;> simp [z]
        rw [eb, eb]
        refine ⟨_, _, rfl, rfl, ?_⟩
        have ek : (((if mk x p.1 ∈ ps then 1 else 0 : Nat) : Int) + ((if mk x p.2 ∈ ps then 1 else 0 : Nat) : Int)) = ((kf ps p x : Nat) : Int) := by
          rw [kf_net g hb]
          omega
        show _
        obtain ⟨v, hv1, hv2, hv3⟩ := slot3 (xs.take i) ps p x hb
        have hd4 := (e3.trans e4) _ _ hd2
        have nDD : H D = none := nD
        refine ⟨_, rfl, _, rfl, D, _, _, _, rfl, congrArg V.int ek, SqL.of hd4, hv1, _, _, rfl, rfl, _, rfl, _, rfl, D, _, _, _, rfl, congrArg V.int ek, hd4, hv2, ?_⟩
        refine ⟨_, _, rfl, same_over s4 nDD, by rw [upd_ne ND]; exact (e3.trans e4) _ _ hn2, ?_⟩
        rw [upd_same, take_next hx, hv3]
      · have hb : ¬ (!inV (.str x) [.str p.1, .str p.2]) = true := hb
        rw [nin_pair] at hb
        have e : numL (xs.take (i + 1)) ps p = numL (xs.take i) ps p := by
          unfold numL
          rw [take_next hx, nmk_snoc, nmk_snoc, nmk_snoc]
          simp [hb]
        refine ⟨_, _, rfl, s2, hn2, ?_⟩
        rw [e]
        exact hd2
    · rintro σ H2 ⟨v4, v5, rfl, s2, hn2, hd2⟩
      rw [lxs, List.take_length] at hd2
      exact ⟨_, rfl, k H2 D s2 nD hd2⟩
end
end Wd
end
section
set_option maxRecDepth 100000
set_option maxHeartbeats 4000000
namespace Wd
open PySem L2
abbrev Tr := Str × Str × Str
def LtT (a b : Tr) : Prop := Lt a.1 b.1 ∨ (a.1 = b.1 ∧ LtP a.2 b.2)
instance (a b : Tr) : Decidable (LtT a b) := inferInstanceAs (Decidable (_ ∨ _))
theorem LtT.no {a b : Tr} (h : LtT a b) : ¬ LtT b a := fun z => by
  rcases h with h | ⟨e, h⟩
  · rcases z with z | ⟨e, _⟩
    · exact Lt.irr _ (h.tr z)
    · rw [e] at h
      exact Lt.irr _ h
  · rcases z with z | ⟨_, z⟩
    · rw [e] at z
      exact Lt.irr _ z
    · exact LtP.irr _ (h.tr z)
theorem LtT.irr (a : Tr) : ¬ LtT a a := fun h => h.no h
theorem LtT.tr {a b c : Tr} (h : LtT a b) (k : LtT b c) : LtT a c := by
  rcases h with h | ⟨e, h⟩
  · rcases k with k | ⟨e2, _⟩
    · exact .inl (h.tr k)
    · exact .inl (by rw [← e2]; exact h)
  · rcases k with k | ⟨e2, k⟩
    · exact .inl (by rw [e]; exact k)
    · exact .inr ⟨e.trans e2, h.tr k⟩
theorem LtT.tri (a b : Tr) : LtT a b ∨ a = b ∨ LtT b a := by
  rcases Lt.tri a.1 b.1 with h | h | h
  · exact .inl (.inl h)
  · rcases LtP.tri a.2 b.2 with k | k | k
    · exact .inl (.inr ⟨h, k⟩)
    · exact .inr (.inl (Prod.ext h k))
    · exact .inr (.inr (.inr ⟨h.symm, k⟩))
  · exact .inr (.inr (.inl h))
theorem prsS_sorted : ∀ {xs : List Str}, Asc xs → (prsS xs).Pairwise LtP
  | [], _ => List.Pairwise.nil
  | x :: r, a => by
    obtain ⟨a1, a2⟩ := List.pairwise_cons.mp a
    show (r.map (fun y => (x, y)) ++ prsS r).Pairwise LtP
    refine List.pairwise_append.mpr ⟨List.pairwise_map.mpr (a2.imp fun h => .inr ⟨rfl, h⟩), prsS_sorted a2, fun p hp q hq => ?_⟩
    obtain ⟨y, hy, rfl⟩ := List.mem_map.mp hp
    exact .inl (a1 _ (mem_prsS a2 hq).1)
/-- what moves: a pair, a third one, its kind before and behind -/
abbrev Mv := Pr × Str × Int × Int
def mvk (m : Mv) : Tr := (m.1.1, m.1.2, m.2.1)
def mvd (m : Mv) : PyData := .tuple [pd m.1, .str m.2.1, .int m.2.2.1, .int m.2.2.2]
theorem lt_mvk {a b : Mv} (h : mvk a ≠ mvk b) : PySem.W.dataLt (mvd a) (mvd b) = decide (LtT (mvk a) (mvk b)) := by
  have h1 := PySem.W.dataLt_cons (x := pd a.1) (y := pd b.1) (pd_alike _ _) [.str a.2.1, .int a.2.2.1, .int a.2.2.2] [.str b.2.1, .int b.2.2.1, .int b.2.2.2]
  have h2 := PySem.W.dataLt_cons (x := .str a.2.1) (y := .str b.2.1) (by simp [PySem.W.alike]) [.int a.2.2.1, .int a.2.2.2] [.int b.2.2.1, .int b.2.2.2]
  unfold mvd
  rw [PySem.W.dataLt_tuple, h1, pd_eqv, pd_lt, h2, str_eqv, PySem.W.dataLt_str]
  by_cases e : a.1 = b.1
  · have ne : a.2.1 ≠ b.2.1 := fun z => h (by unfold mvk; rw [e, z])
    rw [decide_eq_true e, if_pos rfl, decide_eq_false ne, if_neg (by decide)]
    refine decide_eq_decide.mpr ⟨fun z => .inr ⟨show a.1.1 = b.1.1 from congrArg Prod.fst e, .inr ⟨show a.1.2 = b.1.2 from congrArg Prod.snd e, z⟩⟩, fun z => ?_⟩
    rcases z with z | ⟨_, z | ⟨_, z⟩⟩
    · exact absurd (show Lt a.1.1 b.1.1 from z) (by rw [e]; exact Lt.irr _)
    · exact absurd (show Lt a.1.2 b.1.2 from z) (by rw [e]; exact Lt.irr _)
    · exact z
  · rw [decide_eq_false e, if_neg (by decide)]
    refine decide_eq_decide.mpr ⟨fun z => ?_, fun z => ?_⟩
    · rcases z with z | ⟨z1, z⟩
      · exact .inl z
      · exact .inr ⟨z1, .inl z⟩
    · rcases z with z | ⟨z1, z | ⟨z2, z⟩⟩
      · exact .inl z
      · exact .inr ⟨z1, z⟩
      · exact absurd (show a.1 = b.1 from Prod.ext z1 z2) e
theorem lt_self (d : PyData) : PySem.W.dataLt d d = false := PyProof.Rows.lex_irrefl _
theorem mvd_depth (m : Mv) : (mvd m).depth ≤ 40 := by simp [mvd, pd, PyData.depth, PyData.depthAll]
theorem mvd_alike (p q : Mv) : PySem.W.alike (mvd p) (mvd q) = true := by simp [mvd, pd, PySem.W.alike, PySem.W.alikeAll]
theorem key_eq {α : Type} {key : α → Tr} : ∀ {ms : List α}, (ms.map key).Nodup → ∀ {x y : α}, x ∈ ms → y ∈ ms → key x = key y → x = y
  | [], _, _, _, h, _, _ => nomatch h
  | m :: ms, nd, x, y, hx, hy, e => by
    obtain ⟨n1, n2⟩ := List.nodup_cons.mp (show (key m :: ms.map key).Nodup from nd)
    rcases List.mem_cons.mp hx with e1 | hx2
    · rcases List.mem_cons.mp hy with e2 | hy2
      · exact e1.trans e2.symm
      · exact absurd (show key m ∈ ms.map key by rw [← e1, e]; exact List.mem_map_of_mem (f := key) hy2) n1
    · rcases List.mem_cons.mp hy with e2 | hy2
      · exact absurd (show key m ∈ ms.map key by rw [← e2, ← e]; exact List.mem_map_of_mem (f := key) hx2) n1
      · exact key_eq n2 hx2 hy2 e
/-- sorted(xs) of tuples that three texts tell apart -/
theorem sorted_by {K : PySem.W.Frag} {H : Hp} {a : Addr} {α : Type} (enc : α → PyData) (key : α → Tr) (lt : ∀ x y, key x ≠ key y → PySem.W.dataLt (enc x) (enc y) = decide (LtT (key x) (key y))) (al : ∀ x y, PySem.W.alike (enc x) (enc y) = true)
    (tu : ∀ x, ∃ h r, enc x = .tuple (h :: r)) (de : ∀ x, (enc x).depth ≤ 40) {Ts : List Addr} {ms : List α} {Q : VK} (ha : H a = some (.lst (Ts.map V.ref))) (hl : Ts.length = ms.length)
    (dp : ∀ (i : Nat) T m, Ts[i]? = some T → ms[i]? = some m → Dp K H (.ref T) (enc m)) (nd : (ms.map key).Nodup)
    (q : ∀ (D : Addr) (zs : List (Addr × α)), H D = none → zs.Perm (Ts.zip ms) → (zs.map fun z => key z.2).Pairwise LtT → Q (.ref D) (upd H D (.lst ((zs.map Prod.fst).map V.ref)))) : Kx.rSortedD K [.ref a] H Q := by
  let zt : Addr × α → Kx.DV := fun q => (.ref q.1, enc q.2)
  have e1 : ((Ts.zip ms).map zt).map (fun b => b.1) = Ts.map V.ref := by
    rw [List.map_map]
    have : ((fun b : Kx.DV => b.1) ∘ zt) = V.ref ∘ Prod.fst := rfl
    rw [this, ← List.map_map, List.map_fst_zip (by omega)]
  have snd : (Ts.zip ms).map Prod.snd = ms := List.map_snd_zip (by omega)
  have inm : ∀ z ∈ Ts.zip ms, z.2 ∈ ms := fun z hz => snd ▸ List.mem_map_of_mem (f := Prod.snd) hz
  have le_ : ∀ x ∈ Ts.zip ms, ∀ y ∈ Ts.zip ms, (!decide (LtT (key y.2) (key x.2))) = PySem.W.dataLe false (fun b : Kx.DV => b.2) (zt x) (zt y) := fun x hx y hy => by
    rw [PySem.W.dataLe_eq]
    show _ = !PySem.W.dataLt (enc y.2) (enc x.2)
    by_cases c : key y.2 = key x.2
    · have e := key_eq nd (inm y hy) (inm x hx) c
      rw [e, lt_self, decide_eq_false (LtT.irr _)]
    · rw [lt _ _ c]
  let zs := (Ts.zip ms).mergeSort fun x y => !decide (LtT (key y.2) (key x.2))
  have e2 : Kx.sortedD ((Ts.zip ms).map zt) = zs.map zt := (List.map_mergeSort le_).symm
  have pm : zs.Perm (Ts.zip ms) := List.mergeSort_perm _ _
  refine ⟨a, (Ts.zip ms).map zt, rfl, by rw [e1]; exact SqL.of ha, fun b hb => ?_, ?_, ?_, fun D hD => ?_⟩
  · obtain ⟨z, hz, rfl⟩ := List.mem_map.mp hb
    obtain ⟨j, hj, e⟩ := List.getElem_of_mem hz
    obtain ⟨z1, z2⟩ := List.getElem?_zip_eq_some.mp (show (Ts.zip ms)[j]? = some z by rw [List.getElem?_eq_getElem hj, e])
    exact ⟨dp j z.1 z.2 z1 z2, de z.2⟩
  · rw [List.map_map]
    exact PySem.W.AllAlike.of fun b b' => al b.2 b'.2
  · rw [List.map_map]
    exact PySem.W.Sortable.tuples fun b => tu b.2
  · have e3 : (zs.map zt).map (fun b => b.1) = (zs.map Prod.fst).map V.ref := by
      rw [List.map_map, List.map_map]
      rfl
    rw [e2, e3]
    refine q D zs hD pm ?_
    have h := List.pairwise_mergeSort (le := fun x y : Addr × α => !decide (LtT (key y.2) (key x.2))) (fun a b c h1 h2 => by
      rw [Bool.not_eq_true', decide_eq_false_iff_not] at h1 h2 ⊢
      intro z
      rcases LtT.tri (key b.2) (key a.2) with q | q | q
      · exact h1 q
      · rw [q] at h2
        exact h2 z
      · exact h2 (z.tr q)) (fun a b => by
      rw [Bool.or_eq_true, Bool.not_eq_true', Bool.not_eq_true', decide_eq_false_iff_not, decide_eq_false_iff_not]
      by_cases c : LtT (key b.2) (key a.2)
      · exact .inr c.no
      · exact .inl c) (Ts.zip ms)
    have nd2 : (zs.map fun z => key z.2).Nodup := by
      have p2 := pm.map fun z => key z.2
      refine p2.nodup_iff.mpr ?_
      have e4 : (Ts.zip ms).map (fun z => key z.2) = ms.map key := by
        conv => rhs; rw [← snd, List.map_map]
        rfl
      rw [e4]
      exact nd
    have nd3 : zs.Pairwise fun a b => key a.2 ≠ key b.2 := List.pairwise_map.mp nd2
    refine List.pairwise_map.mpr (List.Pairwise.imp (fun {a b} (h : (!decide (LtT (key b.2) (key a.2))) = true ∧ key a.2 ≠ key b.2) => ?_) (List.Pairwise.and h nd3))
    rw [Bool.not_eq_true', decide_eq_false_iff_not] at h
    rcases LtT.tri (key a.2) (key b.2) with q | q | q
    · exact q
    · exact absurd q h.2
    · exact absurd q h.1
/-- two ascending lists of the same items are one -/
theorem asc_one {α : Type} {key : α → Tr} {xs ys : List α} (pm : xs.Perm ys) (h1 : (xs.map key).Pairwise LtT) (h2 : (ys.map key).Pairwise LtT) : xs = ys := by
  refine pm.eq_of_pairwise (le := fun a b => LtT (key a) (key b)) (fun a b _ _ x y => absurd y x.no) (List.pairwise_map.mp h1) (List.pairwise_map.mp h2)
end Wd
end
section
set_option maxRecDepth 100000
set_option maxHeartbeats 4000000
namespace Wd
open PySem L2
theorem thL_len (xs : List Str) (ps : List Pr) (p : Pr) (k : Int) : (((thL xs ps p k).length : Nat) : Int) = nmk xs ps p k := by
  unfold thL nmk kfs
  induction xs with
  | nil => rfl
  | cons x xs ih =>
    by_cases h : outF p x = true
    · rw [List.filter_cons_of_pos (p := outF p) h, List.map_cons, List.count_cons]
      by_cases c : ((kf ps p x : Nat) : Int) = k
      · rw [List.filter_cons_of_pos (by rw [h, decide_eq_true c]; rfl), List.length_cons, if_pos (by rw [c]; exact beq_self_eq_true k)]
        omega
      · rw [List.filter_cons_of_neg (by rw [h, decide_eq_false c]; exact fun z => nomatch z), if_neg (fun z => c (eq_of_beq z))]
        omega
    · rw [List.filter_cons_of_neg (p := outF p) h, List.filter_cons_of_neg (by rw [Bool.eq_false_iff.mpr h]; exact fun z => nomatch z)]
      exact ih
def dOdds (xs : List Str) (ps : List Pr) : List Dt := ([0, 1, 2] : List Int).map (fun k => dPs ((prsS xs).filter (oddK xs ps k))) ++ xs.map fun x => dS (oddN xs ps 2 x)
def spOwn : Sp := fun vs H Q _ => ∃ (a : Addr) (xs : List Str) (ps : List Pr), vs = [.ref a] ∧ WAt H a xs ps ∧ Good xs ps ∧
  ∀ (H' : Hp) (L : Addr), Same H H' → Is (fun b => H b = none) H' 3 (.ls (dOdds xs ps)) (.ref L) → Q (.ref L) H'
theorem odd_filter_len (xs : List Str) (f : Pr → Bool) (h : xs.length ≤ 9) : ((prsS xs).filter f).length ≤ 36 := Nat.le_trans (List.length_filter_le _ _) (Good.len0 h)
theorem fresh_of {H H2 : Hp} {R a : Addr} {o o2 : HO} (h : H2 R = some o2) (s : Same H H2) (ha : H2 a = none) : upd H R o a = none := by
  rw [upd_ne fun z => ?_]
  · exact same_none s ha
  · rw [z, h] at ha
    cases ha
theorem fresh_out {H : Hp} {R a : Addr} {o : HO} (h : upd H R o a = none) : H a = none := by
  by_cases z : a = R
  · rw [z, upd_same] at h
    cases h
  · rw [upd_ne z] at h
    exact h
theorem Bld.weak {H0 H1 : Hp} {R : Addr} {H : Hp} {n : Nat} {ds : List Dt} (b : Bld H0 R H n ds) (s : ∀ a, H0 a = none → H1 a = none) : Bld H1 R H n ds := by
  obtain ⟨vs, h, l, at_⟩ := b
  exact ⟨vs, h, l, fun i v d h1 h2 => (at_ i v d h1 h2).weak s⟩
theorem bld_cat {H0 H1 H2 : Hp} {F Z : Addr} {n : Nat} {ds : List Dt} {d : Dt} {v : V} {vs : List V} (b : Bld H0 F H1 n ds) (hF : H1 F = some (.lst vs)) (s : Same H1 H2) (hv : Is (fun a => H0 a = none) H2 n d v) (hZ : H2 Z = some (.lst (vs ++ [v]))) : Bld H0 Z H2 n (ds ++ [d]) := by
  obtain ⟨us, h, l, at_⟩ := b
  have e := HO.lst.inj (Option.some.inj (h.symm.trans hF))
  subst e
  refine ⟨_, hZ, by rw [List.length_append, List.length_append, l]; rfl, fun i u e h1 h2 => ?_⟩
  by_cases c : i < us.length
  · rw [List.getElem?_append_left c] at h1
    rw [List.getElem?_append_left (by rw [← l]; exact c)] at h2
    exact (at_ i u e h1 h2).same s
  · rw [List.getElem?_append_right (by omega)] at h1
    rw [List.getElem?_append_right (by omega), ← l] at h2
    cases hq : i - us.length with
    | zero =>
      rw [hq] at h1 h2
      simp at h1 h2
      subst h1 h2
      exact hv
    | succ q =>
      rw [hq] at h1
      simp at h1
theorem is_prs_inv {A : Addr → Prop} {H : Hp} {n : Nat} {ps : List Pr} {v : V} (h : Is A H n (dPs ps) v) : ∃ a, v = .ref a ∧ PwAt H a ps := by
  cases h with
  | @ls n a vs ds ha hA l few hh =>
    refine ⟨a, rfl, ?_⟩
    rw [List.length_map] at l
    have ex : ∀ i, i < vs.length → ∃ T p, vs[i]? = some (.ref T) ∧ ps[i]? = some p ∧ H T = some (.tup [.str p.1, .str p.2]) := fun i hi => by
      obtain ⟨p, hp⟩ : ∃ p, ps[i]? = some p := ⟨_, List.getElem?_eq_getElem (by omega)⟩
      obtain ⟨u, hu⟩ : ∃ u, vs[i]? = some u := ⟨_, List.getElem?_eq_getElem hi⟩
      have z := hh i u (dP p) hu (by rw [List.getElem?_map, hp]; rfl)
      cases z with
      | @tp n T ws es hT l2 f2 h2 =>
        refine ⟨T, p, hu, hp, ?_⟩
        rw [hT]
        match ws, l2, h2 with
        | [w1, w2], _, h2 =>
          have a1 := h2 0 w1 _ rfl rfl
          have a2 := h2 1 w2 _ rfl rfl
          cases a1
          cases a2
          rfl
    refine ⟨vs.map fun v => match v with | .ref T => T | _ => 0, ?_, by rw [List.length_map, List.length_map, l], fun k T q h1 h2 => ?_⟩
    · rw [ha, List.map_map]
      refine congrArg (fun l => some (HO.lst l)) ?_
      refine List.ext_getElem? fun i => ?_
      rw [List.getElem?_map]
      by_cases c : i < vs.length
      · obtain ⟨T, p, e, _⟩ := ex i c
        rw [e]
        rfl
      · rw [List.getElem?_eq_none (by omega)]
        rfl
    · rw [List.getElem?_map] at h1 h2
      obtain ⟨u, hu, rfl⟩ := Option.map_eq_some_iff.mp h1
      obtain ⟨p, hp, rfl⟩ := Option.map_eq_some_iff.mp h2
      obtain ⟨T, p', e1, e2, e3⟩ := ex k (List.getElem?_eq_some_iff.mp hu).1
      have z1 := Option.some.inj (hu.symm.trans e1)
      have z2 := Option.some.inj (hp.symm.trans e2)
      subst z1 z2
      exact e3
section
variable {P : Program} {w : World} {K : PySem.W.Frag} {mg : Str → Option Value} {base : Heap}
abbrev nOwn : List Str := ["_law_world_here", "_law_kind", "_law_pair_here", "_law_found", "_law_person", "_law_other"]
end
end Wd
end
section
set_option maxRecDepth 100000
set_option maxHeartbeats 4000000
namespace Wd
open PySem L2
theorem ff_frs {xs : List Str} {ps : List Pr} (g : Good xs ps) (x r : Str) : FF ps x r = if r ∈ frs ps x then 1 else 0 := by
  have lt : ∀ q ∈ ps, Lt q.1 q.2 := fun q hq => (g.of q hq).2.2
  by_cases z : r ∈ frs ps x
  · rw [if_pos z, ff_pos ((mem_frs lt).mp z)]
  · rw [if_neg z, ff_neg fun q => z ((mem_frs lt).mpr q)]
theorem deg_ff {xs : List Str} {ps : List Pr} (g : Good xs ps) (x : Str) : (((frs ps x).length : Nat) : Int) = (xs.map (FF ps x)).sum := by
  rw [frs_eq g, len_filter]
  rfl
theorem nmk_sum (xs : List Str) (ps : List Pr) (p : Pr) (k : Int) : nmk xs ps p k = (xs.map (bq fun r => outF p r && decide (((kf ps p r : Nat) : Int) = k))).sum := by
  rw [← thL_len]
  exact len_filter _ xs
theorem sum_at {a : Str} {c : Int} : ∀ {xs : List Str}, xs.Nodup → a ∈ xs → (xs.map fun r => if r = a then c else 0).sum = c
  | [], _, h => nomatch h
  | x :: xs, nd, h => by
    obtain ⟨n1, n2⟩ := List.nodup_cons.mp nd
    rw [List.map_cons, List.sum_cons]
    by_cases e : x = a
    · subst e
      rw [if_pos rfl, sum_zero fun y hy => if_neg fun z => n1 (by rw [← z]; exact hy)]
      omega
    · rw [if_neg e, sum_at n2 ((List.mem_cons.mp h).resolve_left fun z => e z.symm)]
      omega
/-- how many friends two people have together: third people of kind 1, twice those of kind 2, and each other -/
theorem two_degs {xs : List Str} {ps : List Pr} (g : Good xs ps) {p : Pr} (hp : p ∈ prsS xs) : (((frs ps p.1).length : Nat) : Int) + (((frs ps p.2).length : Nat) : Int) = nmk xs ps p 1 + 2 * nmk xs ps p 2 + 2 * FF ps p.1 p.2 := by
  obtain ⟨m1, m2, lt⟩ := mem_prsS g.asc hp
  have ne : p.1 ≠ p.2 := fun e => Lt.irr p.2 (by rw [e] at lt; exact lt)
  have nd := g.asc.nd
  rw [deg_ff g, deg_ff g, ← sum_add, nmk_sum, nmk_sum]
  have e : ∀ r ∈ xs, FF ps p.1 r + FF ps p.2 r = (bq (fun r => outF p r && decide (((kf ps p r : Nat) : Int) = 1)) r + (bq (fun r => outF p r && decide (((kf ps p r : Nat) : Int) = 2)) r + bq (fun r => outF p r && decide (((kf ps p r : Nat) : Int) = 2)) r)) + ((if r = p.1 then FF ps p.2 p.1 else 0) + (if r = p.2 then FF ps p.1 p.2 else 0)) := fun r _ => by
    by_cases z1 : r = p.1
    · have o : outF p r = false := by rw [z1]; unfold outF; rw [decide_eq_true List.mem_cons_self]; rfl
      have b : ∀ k : Int, bq (fun r => outF p r && decide (((kf ps p r : Nat) : Int) = k)) r = 0 := fun k => if_neg (by
        show ¬ (outF p r && decide (((kf ps p r : Nat) : Int) = k)) = true
        rw [o]
        exact fun z => nomatch z)
      rw [b, b, if_pos z1, if_neg (fun z => ne (z1.symm.trans z)), z1, ff_self]
      omega
    · by_cases z2 : r = p.2
      · have o : outF p r = false := by rw [z2]; unfold outF; rw [decide_eq_true (List.mem_cons_of_mem _ List.mem_cons_self)]; rfl
        have b : ∀ k : Int, bq (fun r => outF p r && decide (((kf ps p r : Nat) : Int) = k)) r = 0 := fun k => if_neg (by
          show ¬ (outF p r && decide (((kf ps p r : Nat) : Int) = k)) = true
          rw [o]
          exact fun z => nomatch z)
        rw [b, b, if_neg z1, if_pos z2, z2, ff_self]
        omega
      · have o : outF p r = true := by
          unfold outF
          rw [decide_eq_false fun z => ?_]
          · rfl
          · rcases List.mem_cons.mp z with z | z
            · exact z1 z
            · exact z2 (List.mem_singleton.mp z)
        rw [if_neg z1, if_neg z2, ff_frs g, ff_frs g]
        have b0 : ∀ k : Int, bq (fun r => outF p r && decide (((kf ps p r : Nat) : Int) = k)) r = if ((kf ps p r : Nat) : Int) = k then 1 else 0 := fun k => by
          show (if (outF p r && decide (((kf ps p r : Nat) : Int) = k)) = true then (1 : Int) else 0) = _
          rw [o, Bool.true_and]
          by_cases c : ((kf ps p r : Nat) : Int) = k <;> simp [c]
        rw [b0, b0, kf_two]
        have s1 : p.1 ∈ frs ps r ↔ r ∈ frs ps p.1 := frs_sym g
        have s2 : p.2 ∈ frs ps r ↔ r ∈ frs ps p.2 := frs_sym g
        by_cases a : r ∈ frs ps p.1 <;> by_cases b : r ∈ frs ps p.2 <;> simp [a, b, s1, s2]
  rw [sum_congr e, sum_add, sum_add, sum_add, sum_add, sum_at nd m1, sum_at nd m2, ff_comm ps p.2 p.1]
  omega
theorem odd_one {xs : List Str} {ps : List Pr} (g : Good xs ps) {p : Pr} (hp : p ∈ prsS xs) : oddK xs ps 1 p = decide (((((frs ps p.1).length : Nat) : Int) + (((frs ps p.2).length : Nat) : Int)) % 2 = 1) := by
  unfold oddK
  rw [two_degs g hp]
  exact decide_eq_decide.mpr ⟨fun z => by omega, fun z => by omega⟩
/-- who stands in a pair with an odd number of third people of kind 1: by the numbers of friends -/
theorem odd_ones {xs : List Str} {ps : List Pr} (g : Good xs ps) {x : Str} (hx : x ∈ xs) : oddN xs ps 1 x = xs.filter fun y => decide (V.int (((((frs ps y).length : Nat) : Int) + (((frs ps x).length : Nat) : Int)) % 2) = V.int 1) := by
  unfold oddN
  refine List.filter_congr fun y hy => ?_
  have e : ∀ n : Int, (decide (V.int (n % 2) = V.int 1)) = decide (n % 2 = 1) := fun n => decide_eq_decide.mpr ⟨fun z => V.int.inj z, fun z => congrArg V.int z⟩
  rw [e]
  by_cases c : y = x
  · rw [c, decide_eq_false fun z => z rfl, Bool.false_and]
    exact (decide_eq_false (by omega)).symm
  · rw [decide_eq_true c, Bool.true_and, odd_one g (mk_mem g.asc hx hy fun z => c z.symm)]
    unfold mk
    by_cases l : Lt x y
    · rw [if_pos l]
      show decide (((((frs ps x).length : Nat) : Int) + (((frs ps y).length : Nat) : Int)) % 2 = 1) = _
      rw [Int.add_comm]
    · rw [if_neg l]
end Wd
end
section
set_option maxRecDepth 100000
set_option maxHeartbeats 4000000
namespace Wd
open PySem L2
def stp (ps : List Pr) (p : Pr) : Int := if p ∈ ps then -1 else 1
theorem outF_iff {p : Pr} {r : Str} : outF p r = true ↔ r ≠ p.1 ∧ r ≠ p.2 := by
  unfold outF
  rw [Bool.not_eq_true', decide_eq_false_iff_not]
  simp
theorem mk_lt {a b : Str} (h : Lt a b) : mk a b = (a, b) := if_pos h
theorem mk_pr {o : Pr} (h : Lt o.1 o.2) : mk o.1 o.2 = o := mk_lt h
/-- what turning p does to the kind of r -/
theorem kf_flip {xs : List Str} {ps : List Pr} (g : Good xs ps) {p o : Pr} {r : Str} (hp : p ∈ prsS xs) (ho : o ∈ prsS xs) (hr : r ∈ xs) (h : outF o r = true) :
    ((kf (Wd.flip xs ps p) o r : Nat) : Int) = ((kf ps o r : Nat) : Int) + if mk r o.1 = p ∨ mk r o.2 = p then stp ps p else 0 := by
  obtain ⟨m1, m2, lo⟩ := mem_prsS g.asc ho
  obtain ⟨n1, n2⟩ := outF_iff.mp h
  have q1 := mk_mem g.asc hr m1 n1
  have q2 := mk_mem g.asc hr m2 n2
  have f1 : mk r o.1 ∈ Wd.flip xs ps p ↔ ((mk r o.1 ∈ ps ∧ mk r o.1 ≠ p) ∨ (mk r o.1 ∉ ps ∧ mk r o.1 = p)) := by
    rw [mem_flip]
    by_cases a : mk r o.1 ∈ ps <;> by_cases b : mk r o.1 = p <;> simp [a, b, q1, hp]
  have f2 : mk r o.2 ∈ Wd.flip xs ps p ↔ ((mk r o.2 ∈ ps ∧ mk r o.2 ≠ p) ∨ (mk r o.2 ∉ ps ∧ mk r o.2 = p)) := by
    rw [mem_flip]
    by_cases a : mk r o.2 ∈ ps <;> by_cases b : mk r o.2 = p <;> simp [a, b, q2, hp]
  have ne : ¬ (mk r o.1 = p ∧ mk r o.2 = p) := fun z => by
    rcases mk_eq (z.1.trans z.2.symm) with ⟨_, e⟩ | ⟨e, _⟩
    · rw [e] at lo
      exact Lt.irr _ lo
    · exact n2 e
  rw [kf_net (g.flip p) h, kf_net g h]
  simp only [f1, f2]
  unfold stp
  by_cases c : mk r o.1 = p
  · have d : mk r o.2 ≠ p := fun z => ne ⟨c, z⟩
    rw [c]
    by_cases e : p ∈ ps <;> by_cases e2 : mk r o.2 ∈ ps <;> simp [d, e, e2]
  · by_cases d : mk r o.2 = p
    · rw [d]
      by_cases e : p ∈ ps <;> by_cases e2 : mk r o.1 ∈ ps <;> simp [c, e, e2]
    · by_cases e : mk r o.1 ∈ ps <;> by_cases e2 : mk r o.2 ∈ ps <;> simp [c, d, e, e2]
theorem stp_ne (ps : List Pr) (p : Pr) : stp ps p ≠ 0 := by
  unfold stp
  split <;> decide
theorem flip_flip {xs : List Str} {ps : List Pr} (g : Good xs ps) {p : Pr} (hp : p ∈ prsS xs) : Wd.flip xs (Wd.flip xs ps p) p = ps :=
  asc_uniq ((g.flip p).flip p).ascP g.ascP fun q => by
    rw [mem_flip]
    by_cases a : q ∈ ps
    · have hq := g.sub.subset a
      by_cases b : q = p
      · have c : q ∉ Wd.flip xs ps p := fun z => by
          have := (mem_flip.mp z).2
          rw [decide_eq_true a, decide_eq_true b] at this
          cases this
        rw [decide_eq_false c, decide_eq_true b]
        exact ⟨fun _ => a, fun _ => ⟨hq, rfl⟩⟩
      · have c : q ∈ Wd.flip xs ps p := mem_flip.mpr ⟨hq, by rw [decide_eq_true a, decide_eq_false b]; rfl⟩
        rw [decide_eq_true c, decide_eq_false b]
        exact ⟨fun _ => a, fun _ => ⟨hq, rfl⟩⟩
    · by_cases b : q = p
      · have c : q ∈ Wd.flip xs ps p := mem_flip.mpr ⟨by rw [b]; exact hp, by rw [decide_eq_false a, decide_eq_true b]; rfl⟩
        rw [decide_eq_true c, decide_eq_true b]
        exact ⟨fun z => (nomatch z.2), fun z => absurd z a⟩
      · have c : q ∉ Wd.flip xs ps p := fun z => by
          have := (mem_flip.mp z).2
          rw [decide_eq_false a, decide_eq_false b] at this
          cases this
        rw [decide_eq_false c, decide_eq_false b]
        exact ⟨fun z => (nomatch z.2), fun z => absurd z a⟩
/-! the two lists of moves -/
def side (xs : List Str) (ps : List Pr) (p : Pr) (s t : Str) : List Mv := (xs.filter (outF p)).map fun r => (mk s r, t, ((kf ps (mk s r) t : Nat) : Int), ((kf ps (mk s r) t : Nat) : Int) + stp ps p)
def prog (xs : List Str) (ps : List Pr) (p : Pr) : List Mv := side xs ps p p.1 p.2 ++ side xs ps p p.2 p.1
def rowM (xs : List Str) (ps qs : List Pr) (o : Pr) : List Mv := ((xs.filter (outF o)).filter fun r => decide (((kf ps o r : Nat) : Int) ≠ ((kf qs o r : Nat) : Int))).map fun r => (o, r, ((kf ps o r : Nat) : Int), ((kf qs o r : Nat) : Int))
def due (xs : List Str) (ps qs : List Pr) : List Mv := (prsS xs).flatMap (rowM xs ps qs)
theorem mem_side {xs : List Str} {ps : List Pr} {p : Pr} {s t : Str} {m : Mv} : m ∈ side xs ps p s t ↔ ∃ r, r ∈ xs ∧ outF p r = true ∧ m = (mk s r, t, ((kf ps (mk s r) t : Nat) : Int), ((kf ps (mk s r) t : Nat) : Int) + stp ps p) := by
  unfold side
  rw [List.mem_map]
  constructor
  · rintro ⟨r, hr, rfl⟩
    obtain ⟨a, b⟩ := List.mem_filter.mp hr
    exact ⟨r, a, b, rfl⟩
  · rintro ⟨r, a, b, rfl⟩
    exact ⟨r, List.mem_filter.mpr ⟨a, b⟩, rfl⟩
theorem mem_rowM {xs : List Str} {ps qs : List Pr} {o : Pr} {m : Mv} : m ∈ rowM xs ps qs o ↔ ∃ r, r ∈ xs ∧ outF o r = true ∧ ((kf ps o r : Nat) : Int) ≠ ((kf qs o r : Nat) : Int) ∧ m = (o, r, ((kf ps o r : Nat) : Int), ((kf qs o r : Nat) : Int)) := by
  unfold rowM
  rw [List.mem_map]
  constructor
  · rintro ⟨r, hr, rfl⟩
    obtain ⟨a, b⟩ := List.mem_filter.mp hr
    obtain ⟨c, d⟩ := List.mem_filter.mp a
    exact ⟨r, c, d, of_decide_eq_true b, rfl⟩
  · rintro ⟨r, a, b, c, rfl⟩
    exact ⟨r, List.mem_filter.mpr ⟨List.mem_filter.mpr ⟨a, b⟩, decide_eq_true c⟩, rfl⟩
theorem mem_due {xs : List Str} {ps qs : List Pr} {m : Mv} : m ∈ due xs ps qs ↔ ∃ o, o ∈ prsS xs ∧ m ∈ rowM xs ps qs o := List.mem_flatMap
theorem due_asc {xs : List Str} {ps qs : List Pr} (a : Asc xs) : ((due xs ps qs).map mvk).Pairwise LtT := by
  unfold due
  rw [List.map_flatMap, List.pairwise_flatMap]
  refine ⟨fun o ho => ?_, (prsS_sorted a).imp fun {o o'} l x hx y hy => ?_⟩
  · unfold rowM
    rw [List.map_map]
    refine List.pairwise_map.mpr (((a.filter _).filter _).imp fun {r r'} l => ?_)
    exact .inr ⟨rfl, .inr ⟨rfl, l⟩⟩
  · obtain ⟨m, hm, rfl⟩ := List.mem_map.mp hx
    obtain ⟨n, hn, rfl⟩ := List.mem_map.mp hy
    obtain ⟨r, _, _, _, rfl⟩ := mem_rowM.mp hm
    obtain ⟨r', _, _, _, rfl⟩ := mem_rowM.mp hn
    rcases l with l | ⟨e, l⟩
    · exact .inl l
    · exact .inr ⟨e, .inl l⟩
theorem nodup_of_asc {α : Type} {key : α → Tr} {ms : List α} (h : (ms.map key).Pairwise LtT) : (ms.map key).Nodup := h.imp fun {a b} l e => by
  rw [e] at l
  exact LtT.irr _ l
theorem nodup_of_keys {α : Type} {key : α → Tr} {ms : List α} (h : (ms.map key).Nodup) : ms.Nodup := List.Pairwise.imp (fun {a b} (l : key a ≠ key b) (e : a = b) => l (by rw [e])) (List.pairwise_map.mp h)
theorem side_keys {xs : List Str} {ps : List Pr} {p : Pr} {s t : Str} (a : Asc xs) (hs : ∀ r, outF p r = true → r ≠ s) : ((side xs ps p s t).map mvk).Nodup := by
  unfold side
  rw [List.map_map]
  refine List.pairwise_map.mpr (List.Pairwise.imp_of_mem (fun {r r'} hr hr' (l : Lt r r') e => ?_) (a.filter _))
  have e1 : mk s r = mk s r' := Prod.ext (congrArg (fun z : Tr => z.1) e) (congrArg (fun z : Tr => z.2.1) e)
  rcases mk_eq e1 with ⟨_, e2⟩ | ⟨e2, _⟩
  · rw [e2] at l
    exact Lt.irr _ l
  · exact hs r' (List.mem_filter.mp hr').2 e2.symm
theorem prog_keys {xs : List Str} {ps : List Pr} {p : Pr} (a : Asc xs) (hp : p ∈ prsS xs) : ((prog xs ps p).map mvk).Nodup := by
  obtain ⟨_, _, lt⟩ := mem_prsS a hp
  unfold prog
  rw [List.map_append, List.nodup_append]
  refine ⟨side_keys a fun r h => (outF_iff.mp h).1, side_keys a fun r h => (outF_iff.mp h).2, fun x hx y hy e => ?_⟩
  obtain ⟨m, hm, rfl⟩ := List.mem_map.mp hx
  obtain ⟨n, hn, rfl⟩ := List.mem_map.mp hy
  obtain ⟨r, _, _, rfl⟩ := mem_side.mp hm
  obtain ⟨r', _, _, rfl⟩ := mem_side.mp hn
  have e2 : p.2 = p.1 := congrArg (fun z : Tr => z.2.2) e
  rw [e2] at lt
  exact Lt.irr _ lt
theorem side_in {xs : List Str} {ps : List Pr} (g : Good xs ps) {p : Pr} (hp : p ∈ prsS xs) {s t : Str} (st : (s = p.1 ∧ t = p.2) ∨ (s = p.2 ∧ t = p.1)) {r : Str} (hr : r ∈ xs) (o : outF p r = true) :
    mk s r ∈ prsS xs ∧ t ∈ xs ∧ outF (mk s r) t = true ∧ ((kf (Wd.flip xs ps p) (mk s r) t : Nat) : Int) = ((kf ps (mk s r) t : Nat) : Int) + stp ps p := by
  obtain ⟨m1, m2, lt⟩ := mem_prsS g.asc hp
  obtain ⟨n1, n2⟩ := outF_iff.mp o
  have ms : s ∈ xs ∧ t ∈ xs ∧ s ≠ r ∧ t ≠ r ∧ t ≠ s ∧ mk t s = p := by
    have ne : p.1 ≠ p.2 := fun z => by
      rw [z] at lt
      exact Lt.irr _ lt
    rcases st with ⟨rfl, rfl⟩ | ⟨rfl, rfl⟩
    · exact ⟨m1, m2, n1.symm, n2.symm, ne.symm, by rw [mk_comm, mk_pr lt]⟩
    · exact ⟨m2, m1, n2.symm, n1.symm, ne, mk_pr lt⟩
  obtain ⟨hs, ht, sr, tr, ts, e⟩ := ms
  have ho := mk_mem g.asc hs hr sr
  have out : outF (mk s r) t = true := outF_iff.mpr ⟨fun z => by
    rcases mk_has (.inl z) with q | q
    · exact ts q
    · exact tr q, fun z => by
    rcases mk_has (.inr z) with q | q
    · exact ts q
    · exact tr q⟩
  refine ⟨ho, ht, out, ?_⟩
  rw [kf_flip g hp ho ht out, if_pos]
  rcases has_mk s r with q | q
  · left
    rw [← q]
    exact e
  · right
    rw [← q]
    exact e
/-- what the program tells is what is due -/
theorem prog_due {xs : List Str} {ps : List Pr} (g : Good xs ps) {p : Pr} (hp : p ∈ prsS xs) : (prog xs ps p).Perm (due xs ps (Wd.flip xs ps p)) := by
  refine (List.perm_ext_iff_of_nodup (nodup_of_keys (prog_keys g.asc hp)) (nodup_of_keys (nodup_of_asc (due_asc g.asc)))).mpr fun m => ?_
  obtain ⟨m1, m2, lt⟩ := mem_prsS g.asc hp
  constructor
  · intro h
    have : ∃ s t r, ((s = p.1 ∧ t = p.2) ∨ (s = p.2 ∧ t = p.1)) ∧ r ∈ xs ∧ outF p r = true ∧ m = (mk s r, t, ((kf ps (mk s r) t : Nat) : Int), ((kf ps (mk s r) t : Nat) : Int) + stp ps p) := by
      rcases List.mem_append.mp h with h | h
      · obtain ⟨r, a, b, e⟩ := mem_side.mp h
        exact ⟨_, _, r, .inl ⟨rfl, rfl⟩, a, b, e⟩
      · obtain ⟨r, a, b, e⟩ := mem_side.mp h
        exact ⟨_, _, r, .inr ⟨rfl, rfl⟩, a, b, e⟩
    obtain ⟨s, t, r, st, hr, o, rfl⟩ := this
    obtain ⟨h1, h2, h3, h4⟩ := side_in g hp st hr o
    refine mem_due.mpr ⟨mk s r, h1, mem_rowM.mpr ⟨t, h2, h3, ?_, ?_⟩⟩
    · rw [h4]
      have := stp_ne ps p
      omega
    · rw [h4]
  · intro h
    obtain ⟨o, ho, hm⟩ := mem_due.mp h
    obtain ⟨r, hr, out, ne, rfl⟩ := mem_rowM.mp hm
    obtain ⟨o1, o2, lo⟩ := mem_prsS g.asc ho
    obtain ⟨q1, q2⟩ := outF_iff.mp out
    rw [kf_flip g hp ho hr out] at ne
    have c : mk r o.1 = p ∨ mk r o.2 = p := by
      refine Classical.byContradiction fun z => ne ?_
      rw [if_neg z]
      omega
    have lne : o.1 ≠ o.2 := fun z => by
      rw [z] at lo
      exact Lt.irr _ lo
    -- the one of o that is of p, and the other
    have key : ∀ s z : Str, s ∈ xs → z ∈ xs → s ≠ z → r ≠ s → r ≠ z → mk s z = o → mk r s = p → (o, r, ((kf ps o r : Nat) : Int), ((kf (Wd.flip xs ps p) o r : Nat) : Int)) ∈ prog xs ps p := fun s z hs hz sz rs rz eo ep => by
      have st : (s = p.1 ∧ r = p.2) ∨ (s = p.2 ∧ r = p.1) := by
        have e : mk r s = mk p.1 p.2 := ep.trans (mk_pr lt).symm
        rcases mk_eq e with ⟨a, b⟩ | ⟨a, b⟩
        · exact .inr ⟨b, a⟩
        · exact .inl ⟨b, a⟩
      have oz : outF p z = true := outF_iff.mpr (by
        rcases st with ⟨a, b⟩ | ⟨a, b⟩
        · exact ⟨fun q => sz (a.trans q.symm), fun q => rz (b.trans q.symm)⟩
        · exact ⟨fun q => rz (b.trans q.symm), fun q => sz (a.trans q.symm)⟩)
      obtain ⟨h1, h2, h3, h4⟩ := side_in g hp st hz oz
      rw [eo] at h4
      rw [h4]
      refine List.mem_append.mpr ?_
      rcases st with ⟨a, b⟩ | ⟨a, b⟩
      · exact .inl (mem_side.mpr ⟨z, hz, oz, by rw [← a, ← b, eo]⟩)
      · exact .inr (mem_side.mpr ⟨z, hz, oz, by rw [← a, ← b, eo]⟩)
    rcases c with c | c
    · exact key o.1 o.2 o1 o2 lne q1 q2 (mk_pr lo) c
    · exact key o.2 o.1 o2 o1 lne.symm q2 q1 (by rw [mk_comm, mk_pr lo]) c
theorem out_len {xs : List Str} (a : Asc xs) {p : Pr} (hp : p ∈ prsS xs) : (xs.filter (outF p)).length + 2 = xs.length := by
  obtain ⟨m1, m2, lt⟩ := mem_prsS a hp
  have h := List.length_eq_countP_add_countP (p := outF p) (l := xs)
  rw [List.countP_eq_length_filter, List.countP_eq_length_filter] at h
  have e : (xs.filter fun r => decide ¬ (outF p r = true)).Perm [p.1, p.2] := by
    refine (List.perm_ext_iff_of_nodup (List.Nodup.sublist List.filter_sublist a.nd) ?_).mpr fun r => ?_
    · refine List.nodup_cons.mpr ⟨fun z => ?_, List.nodup_cons.mpr ⟨fun z => (nomatch z), List.nodup_nil⟩⟩
      rw [List.mem_singleton.mp z] at lt
      exact Lt.irr _ lt
    · rw [List.mem_filter]
      have t : (decide ¬ (outF p r = true)) = true ↔ r ∈ [p.1, p.2] := by
        unfold outF
        simp
      rw [t]
      refine ⟨fun z => z.2, fun z => ⟨?_, z⟩⟩
      rcases List.mem_cons.mp z with rfl | z
      · exact m1
      · rw [List.mem_singleton.mp z]
        exact m2
  have e2 := e.length_eq
  have e3 : [p.1, p.2].length = 2 := rfl
  omega
theorem due_len {xs : List Str} {ps : List Pr} (g : Good xs ps) {p : Pr} (hp : p ∈ prsS xs) : ((due xs ps (Wd.flip xs ps p)).length : Int) = 2 * ((xs.length : Int) - 2) := by
  have h := (prog_due g hp).length_eq
  have h2 := out_len g.asc hp
  rw [← h]
  unfold prog side
  rw [List.length_append, List.length_map, List.length_map]
  omega
def sw (m : Mv) : Mv := (m.1, m.2.1, m.2.2.2, m.2.2.1)
theorem due_sw (xs : List Str) (ps qs : List Pr) : due xs qs ps = (due xs ps qs).map sw := by
  unfold due
  rw [List.map_flatMap]
  congr 1
  funext o
  unfold rowM
  rw [List.map_map]
  have e : ((xs.filter (outF o)).filter fun r => decide (((kf qs o r : Nat) : Int) ≠ ((kf ps o r : Nat) : Int))) = (xs.filter (outF o)).filter fun r => decide (((kf ps o r : Nat) : Int) ≠ ((kf qs o r : Nat) : Int)) :=
    List.filter_congr fun r _ => decide_eq_decide.mpr ⟨fun z => Ne.symm z, fun z => Ne.symm z⟩
  rw [e]
  rfl
theorem kf_le (ps : List Pr) (o : Pr) (r : Str) : kf ps o r = 0 ∨ kf ps o r = 1 ∨ kf ps o r = 2 := by
  rw [kf_two]
  split <;> split <;> simp
end Wd
end
section
set_option maxRecDepth 100000
set_option maxHeartbeats 4000000
namespace Wd
open PySem L2
def MvAt (H : Hp) (T : Addr) (m : Mv) : Prop := ∃ U, H T = some (.tup [.ref U, .str m.2.1, .int m.2.2.1, .int m.2.2.2]) ∧ H U = some (.tup [.str m.1.1, .str m.1.2])
theorem MvAt.same {H H' : Hp} {T : Addr} {m : Mv} (h : MvAt H T m) (s : Same H H') : MvAt H' T m := by
  obtain ⟨U, a, b⟩ := h
  exact ⟨U, s _ _ a, s _ _ b⟩
def MvL (H : Hp) (Ts : List Addr) (ms : List Mv) : Prop := Ts.length = ms.length ∧ ∀ (i : Nat) T m, Ts[i]? = some T → ms[i]? = some m → MvAt H T m
def MvsAt (H : Hp) (L : Addr) (ms : List Mv) : Prop := ∃ Ts : List Addr, H L = some (.lst (Ts.map V.ref)) ∧ MvL H Ts ms
theorem MvL.same {H H' : Hp} {Ts : List Addr} {ms : List Mv} (h : MvL H Ts ms) (s : Same H H') : MvL H' Ts ms := ⟨h.1, fun i T m a b => (h.2 i T m a b).same s⟩
theorem MvsAt.same {H H' : Hp} {L : Addr} {ms : List Mv} (h : MvsAt H L ms) (s : Same H H') : MvsAt H' L ms := by
  obtain ⟨Ts, a, b⟩ := h
  exact ⟨Ts, s _ _ a, b.same s⟩
theorem mvL_nil {H : Hp} : MvL H [] [] := ⟨rfl, fun i T m h => by simp at h⟩
theorem MvAt.upd {H : Hp} {R T : Addr} {xs : List V} {o : HO} {m : Mv} (h : MvAt H T m) (hR : H R = some (.lst xs)) : MvAt (upd H R o) T m := by
  obtain ⟨U, a, b⟩ := h
  refine ⟨U, ?_, ?_⟩
  · rw [upd_ne fun z => by
      rw [z, hR] at a
      cases a]
    exact a
  · rw [upd_ne fun z => by
      rw [z, hR] at b
      cases b]
    exact b
theorem mvL_snoc {H : Hp} {R T : Addr} {xs : List V} {o : HO} {Ts : List Addr} {ms : List Mv} {m : Mv} (h : MvL H Ts ms) (hR : H R = some (.lst xs)) (hT : MvAt H T m) : MvL (upd H R o) (Ts ++ [T]) (ms ++ [m]) := by
  refine ⟨by rw [List.length_append, List.length_append, h.1]; rfl, fun i U n h1 h2 => ?_⟩
  by_cases c : i < Ts.length
  · rw [List.getElem?_append_left c] at h1
    rw [List.getElem?_append_left (by rw [← h.1]; exact c)] at h2
    exact (h.2 i U n h1 h2).upd hR
  · rw [List.getElem?_append_right (by omega)] at h1
    rw [List.getElem?_append_right (by have := h.1; omega), ← h.1] at h2
    cases hq : i - Ts.length with
    | zero =>
      rw [hq] at h1 h2
      simp at h1 h2
      subst h1 h2
      exact hT.upd hR
    | succ q =>
      rw [hq] at h1
      simp at h1
/-- the tuples' data -/
theorem MvAt.dp {K : PySem.W.Frag} {H : Hp} {T : Addr} {m : Mv} (h : MvAt H T m) : Dp K H (.ref T) (mvd m) := by
  obtain ⟨U, a, b⟩ := h
  exact .tup (SqT.of a) (.cons (dp_pair (SqT.of b)) (.cons (.str _) (.cons (.int _) (.cons (.int _) .nil))))
def dM (m : Mv) : Dt := .tp [dP m.1, .atm (.str m.2.1), .atm (.int m.2.2.1), .atm (.int m.2.2.2)]
def dMs (ms : List Mv) : Dt := .ls (ms.map dM)
theorem is_pair {A : Addr → Prop} {H : Hp} {U : Addr} {p : Pr} (n : Nat) (h : H U = some (.tup [.str p.1, .str p.2])) : Is A H (n + 1) (dP p) (.ref U) := .tp h rfl (by show 2 ≤ 100; decide) fun j u e g1 g2 => by
  rcases j with _ | _ | j
  · simp at g1 g2
    subst g1 g2
    exact .atm n (.inr (.inl ⟨_, rfl⟩))
  · simp at g1 g2
    subst g1 g2
    exact .atm n (.inr (.inl ⟨_, rfl⟩))
  · simp at g1
theorem MvAt.is {A : Addr → Prop} {H : Hp} {T : Addr} {m : Mv} (n : Nat) (h : MvAt H T m) : Is A H (n + 2) (dM m) (.ref T) := by
  obtain ⟨U, a, b⟩ := h
  refine .tp a rfl (by show 4 ≤ 100; decide) fun j u e g1 g2 => ?_
  rcases j with _ | _ | _ | _ | j
  · simp at g1 g2
    subst g1 g2
    exact is_pair n b
  · simp at g1 g2
    subst g1 g2
    exact .atm (n + 1) (.inr (.inl ⟨_, rfl⟩))
  · simp at g1 g2
    subst g1 g2
    exact .atm (n + 1) (.inl ⟨_, rfl⟩)
  · simp at g1 g2
    subst g1 g2
    exact .atm (n + 1) (.inl ⟨_, rfl⟩)
  · simp at g1
theorem is_mvs {A : Addr → Prop} {H : Hp} {L : Addr} {ms : List Mv} (n : Nat) (h : MvsAt H L ms) (hA : A L) (few : ms.length ≤ 100) : Is A H (n + 3) (dMs ms) (.ref L) := by
  obtain ⟨Ts, a, b⟩ := h
  refine .ls a hA (by rw [List.length_map, List.length_map, b.1]) (by rw [List.length_map]; exact few) fun i v d h1 h2 => ?_
  rw [List.getElem?_map] at h1 h2
  obtain ⟨T, hT, rfl⟩ := Option.map_eq_some_iff.mp h1
  obtain ⟨m, hm, rfl⟩ := Option.map_eq_some_iff.mp h2
  exact (b.2 i T m hT hm).is n
/-- sorted(xs) of moves: the ascending ones -/
theorem sorted_mvs {K : PySem.W.Frag} {H : Hp} {a : Addr} {Ts : List Addr} {ms rs : List Mv} {Q : VK} (ha : H a = some (.lst (Ts.map V.ref))) (ml : MvL H Ts ms) (pm : ms.Perm rs) (asc : (rs.map mvk).Pairwise LtT)
    (q : ∀ (D : Addr) (o : HO), H D = none → MvsAt (upd H D o) D rs → Q (.ref D) (upd H D o)) : Kx.rSortedD K [.ref a] H Q := by
  have nd : (ms.map mvk).Nodup := (pm.map mvk).nodup_iff.mpr (nodup_of_asc asc)
  refine sorted_by mvd mvk (fun x y h => lt_mvk h) mvd_alike (fun m => ⟨_, _, rfl⟩) mvd_depth ha ml.1 (fun i T m h1 h2 => (ml.2 i T m h1 h2).dp) nd fun D zs hD pz asz => q D _ hD ?_
  have e : zs.map Prod.snd = rs := by
    have p1 := pz.map Prod.snd
    rw [List.map_snd_zip (by rw [ml.1]; exact Nat.le_refl _)] at p1
    refine asc_one (p1.trans pm) ?_ asc
    rw [List.map_map]
    exact asz
  refine ⟨zs.map Prod.fst, upd_same, by rw [← e]; simp, fun i T m h1 h2 => ?_⟩
  rw [← e] at h2
  rw [List.getElem?_map] at h1 h2
  obtain ⟨z, hz, rfl⟩ := Option.map_eq_some_iff.mp h1
  rw [hz] at h2
  obtain rfl : z.2 = m := Option.some.inj h2
  obtain ⟨j, hj, e3⟩ := List.getElem_of_mem (pz.mem_iff.mp (List.mem_of_getElem? hz))
  obtain ⟨z1, z2⟩ := List.getElem?_zip_eq_some.mp (show (Ts.zip ms)[j]? = some z by rw [List.getElem?_eq_getElem hj, e3])
  exact (ml.2 j z.1 z.2 z1 z2).same (same_new hD)
def mvs (xs : List Str) (ps : List Pr) (p : Pr) : List Mv := due xs ps (Wd.flip xs ps p)
def spKM (C : Addr) : Sp := fun vs H Q _ => ∃ (c t : Addr) (p : Pr) (xs : List Str) (ps : List Pr), vs = [.ref c, .ref t] ∧ CAt C H c xs ps ∧ Good xs ps ∧ H t = some (.tup [.str p.1, .str p.2]) ∧ p ∈ prsS xs ∧
  ∀ (H' : Hp) (L : Addr), Same H H' → H L = none → MvsAt H' L (mvs xs ps p) → Q (.ref L) H'
theorem side_snoc {xs : List Str} {ps : List Pr} {p : Pr} {s t : Str} {i : Nat} {r : Str} (h : xs[i]? = some r) : side (xs.take (i + 1)) ps p s t = side (xs.take i) ps p s t ++ if outF p r = true then [(mk s r, t, ((kf ps (mk s r) t : Nat) : Int), ((kf ps (mk s r) t : Nat) : Int) + stp ps p)] else [] := by
  unfold side
  rw [filter_next h, List.map_append]
  congr 1
  split <;> rfl
theorem side_few {xs : List Str} {ps : List Pr} {p : Pr} {s t : Str} (h : xs.length ≤ 9) (i : Nat) : (side (xs.take i) ps p s t).length ≤ 9 := by
  unfold side
  rw [List.length_map]
  have h1 := List.length_filter_le (outF p) (xs.take i)
  rw [List.length_take] at h1
  omega
def part (xs : List Str) (ps : List Pr) (p : Pr) : Nat → List Mv
  | 0 => []
  | 1 => side xs ps p p.1 p.2
  | _ => prog xs ps p
section
variable {P : Program} {w : World} {K : PySem.W.Frag} {mg : Str → Option Value} {base : Heap}
theorem ok_kinds_moved {f C : Addr} {fd : FuncData} (F : Fun K "kinds_moved" "kinds_moved" sp_kinds_moved f fd) (T : Bt mg) (TC : CT K mg C) (CC : Has P w K mg base 1 "check_company" ["company"] (spChk C)) (CT' : Has P w K mg base 2 "check_pair_of" ["company", "pair"] (spChkT C))
    (CI : Has P w K mg base 2 "circles" ["company"] (spCirc C)) (CQ : Has P w K mg base 1 "pair_of" ["one", "other"] spPair) (CK : Has P w K mg base 1 "kind_of" ["known", "pair", "person"] spKind) : FnOk P w K mg base CX0 3 f fd ["company", "pair"] (spKM C) := by
  obtain ⟨f1, d1, G1, m1, k1, b1⟩ := CC
  obtain ⟨f2, d2, G2, m2, k2, b2⟩ := CT'
  obtain ⟨f4, d4, G4, m4, k4, b4⟩ := CI
  obtain ⟨f6, d6, G6, m6, k6, b6⟩ := CQ
  obtain ⟨f7, d7, G7, m7, k7, b7⟩ := CK
  refine F.ok cp_kinds_moved (fun vs H Q E h => ?_) (fun cdv A outer s H vs Q E hr h => ?_)
  · obtain ⟨_, _, _, _, _, rfl, _⟩ := h
    rfl
  · obtain ⟨c, t, p, xs, ps, rfl, hc, g, ht, hp, k⟩ := h
    have hr1 : Room 1 _ := hr.mono (by decide)
    have hu := hu_of hr
    refine ⟨_, pss_cons (ps_expr (pe_call G1 hr1 rfl m1 k1 b1 .nil pass0 (pa_cons (pv 0) pa_nil)))
      (pss_cons (ps_expr (pe_call G2 hr rfl m2 k2 b2 .nil pass0 (pa_cons (pv 0) (pa_cons (pv 1) pa_nil))))
      (pss_cons (ps_set (i := 2) cp_kinds_moved.nd rfl (Or.inl rfl) (pe_frz (pe_call G4 hr rfl m4 k4 b4 .nil pass0 (pa_cons (pv 0) pa_nil))))
      (pss_cons (ps_set (i := 3) cp_kinds_moved.nd rfl (Or.inl rfl) (pe_ifExp (pt_cmpR op_in_seq (pe_ix ix_tup (pv 1) pe_int (fun _ _ => rfl)) (pe_dget hu (pv 2) (pe_ix ix_tup (pv 1) pe_int (fun _ _ => rfl)) (fun _ _ => rfl)) rfl) (pe_un un_neg pe_int) pe_int))
      (pss_cons (ps_set (i := 4) cp_kinds_moved.nd rfl (Or.inl rfl) (pe_lst pa_nil))
      (pss_cons (ps_for PassesOwn.never rfl (pi_tup (pe_tup (pa_cons (pv 1) (pa_cons (pe_tup (pa_cons (pe_ix ix_tup (pv 1) pe_int (fun _ _ => rfl)) (pa_cons (pe_ix ix_tup (pv 1) pe_int (fun _ _ => rfl)) pa_nil))) pa_nil)))) (pg_tup rfl (pgs_cons (pg_name (i := 5) cp_kinds_moved.nd rfl (Or.inl rfl)) (pgs_cons (pg_name (i := 6) cp_kinds_moved.nd rfl (Or.inl rfl)) pgs_nil)))
        (pss_one (ps_for PassesOwn.never rfl (pi_keys (pv 2)) (pg_name (i := 7) cp_kinds_moved.nd rfl (Or.inl rfl))
          (pss_one (ps_if (pt_cmpR op_notIn_seq (pv 7) (pv 1) rfl)
            (pss_cons (ps_set (i := 8) cp_kinds_moved.nd rfl (Or.inl rfl) (pe_call G6 hr1 rfl m6 k6 b6 .nil pass0 (pa_cons (pv 5) (pa_cons (pv 7) pa_nil))))
            (pss_cons (ps_set (i := 9) cp_kinds_moved.nd rfl (Or.inl rfl) (pe_call G7 hr1 rfl m7 k7 b7 .nil pass0 (pa_cons (pv 2) (pa_cons (pv 8) (pa_cons (pv 6) pa_nil)))))
            (pss_one (ps_expr (pe_bm PySem.F.plainAttrs_list PySem.F.slot_list_append PySem.F.type_list_append mt_append (pv 4) (pa_cons (pe_tup (pa_cons (pv 8) (pa_cons (pv 6) (pa_cons (pv 9) (pa_cons (pe_op op_add (pv 9) (pv 3)) pa_nil))))) pa_nil)))))) pss_nil)))))
      (pss_one (ps_ret (pe_callB (Kx.cr_sortedD hr.units) (by rfl) T.sorted (by decide +kernel) (pa_cons (pv 4) pa_nil))))))))), ?_⟩
    obtain ⟨dx, a, b, h1, h2, h3⟩ := id hc
    have l9 := g.few
    obtain ⟨mp1, mp2, lt⟩ := mem_prsS g.asc hp
    have hmv : ∀ q ∈ ps, Lt q.1 q.2 := fun q hq => (g.of q hq).2.2
    refine ⟨_, rfl, c, dx, _, rfl, h1, ?_⟩
    refine ⟨_, rfl, _, rfl, c, t, p, xs, ps, rfl, hc, g, ht, hp, fun H1 s1 => ?_⟩
    refine ⟨_, rfl, c, xs, ps, rfl, hc.same s1, g, fun H2 D Ls s2 nD fresh ci => ⟨D, _, rfl, ci.1, True.intro, fun o => ?_⟩⟩
    have cf := CirF.of ci o
    have s12 : Same H (upd H2 D (.frz o (.dK (dkv xs (Ls.map V.ref))))) := same_over (s1.trans s2) (same_none s1 nD)
    have hd : upd H2 D (.frz o (.dK (dkv xs (Ls.map V.ref)))) D = some (.frz o (.dK (dkv xs (Ls.map V.ref)))) := upd_same
    have lv : (Ls.map V.ref).length = xs.length := by rw [List.length_map]; exact ci.2.1
    generalize upd H2 D (.frz o (.dK (dkv xs (Ls.map V.ref)))) = H3 at cf s12 hd ⊢
    have ht3 := s12 _ _ ht
    obtain ⟨j1, hj1, e1⟩ := List.getElem_of_mem mp1
    have x1 : xs[j1]? = some p.1 := by rw [List.getElem?_eq_getElem hj1, e1]
    obtain ⟨L1, hL1⟩ : ∃ L, Ls[j1]? = some L := ⟨_, List.getElem?_eq_getElem (by rw [List.length_map] at lv; omega)⟩
    have el := cf.2.2 j1 p.1 L1 x1 hL1
    have gt := dkv_get (vs := Ls.map V.ref) g.asc.nd x1 (by rw [List.getElem?_map, hL1]; rfl)
    refine ⟨_, rfl, t, _, _, .str p.2, rfl, rfl, SqT.of ht3, rfl, _, rfl, _, rfl, t, _, _, .str p.1, rfl, rfl, SqT.of ht3, rfl, D, .ref L1, rfl, .inl ⟨_, Sum.inr p.1, .inr ⟨o, hd⟩, rfl, gt.symm⟩, ?_⟩
    refine ⟨L1, _, rfl, .inl (SqL.of el), rfl, flat_strs' _, _, rfl, ?_⟩
    rw [in_strs]
    have est : p.2 ∈ frs ps p.1 ↔ p ∈ ps := by
      rw [mem_frs hmv, mk_pr lt]
      exact ⟨fun z => z.2, fun z => ⟨fun e => by rw [e] at lt; exact Lt.irr _ lt, z⟩⟩
    have esp : ∀ σ : Int, (σ = stp ps p) → True := fun _ _ => True.intro
    refine ite2 (fun hb => ⟨1, rfl, ?_⟩) (fun hb => ?_)
    all_goals
      refine ⟨Nat.zero_le _, fun R hR => ?_⟩
      have e4 : Same H3 (upd H3 R (.lst [])) := same_new hR
      have hR4 : upd H3 R (.lst []) R = some (.lst []) := upd_same
      generalize upd H3 R (.lst []) = H4 at e4 hR4 ⊢
      have s14 := s12.trans e4
      have ht4 := s14 _ _ ht
      refine ⟨_, rfl, _, rfl, t, _, _, .str p.2, rfl, rfl, SqT.of ht4, rfl, _, rfl, t, _, _, .str p.1, rfl, rfl, SqT.of ht4, rfl, by show 2 ≤ sizeLine; decide, fun T1 hT1 => ?_⟩
      have e5 : Same H4 (upd H4 T1 (.tup [.str p.2, .str p.1])) := same_new hT1
      have hT5 : upd H4 T1 (.tup [.str p.2, .str p.1]) T1 = some (.tup [.str p.2, .str p.1]) := upd_same
      generalize upd H4 T1 (.tup [.str p.2, .str p.1]) = H5 at e5 hT5 ⊢
      refine ⟨by show 2 ≤ sizeLine; decide, fun T2 hT2 => ⟨T2, rfl, ⟨_, SqT.of upd_same⟩, ?_⟩⟩
      have e6 : Same H5 (upd H5 T2 (.tup [.ref t, .ref T1])) := same_new hT2
      have hT6 : upd H5 T2 (.tup [.ref t, .ref T1]) T2 = some (.tup [.ref t, .ref T1]) := upd_same
      generalize upd H5 T2 (.tup [.ref t, .ref T1]) = H6 at e6 hT6 ⊢
      have s36 := (e4.trans e5).trans e6
      have hR6 := (e5.trans e6) _ _ hR4
      have nTR : T2 ≠ R := fun z => by
        rw [z, hR6] at hT6
        cases hT6
      have tups : ∀ (i : Nat) v, [V.ref t, V.ref T1][i]? = some v → ∃ (U : Addr) (s' t' : Str), v = .ref U ∧ H6 U = some (.tup [.str s', .str t']) ∧ ((s' = p.1 ∧ t' = p.2) ∨ (s' = p.2 ∧ t' = p.1)) ∧ part xs ps p i ++ side xs ps p s' t' = part xs ps p (i + 1) := fun i v hv => by
        rcases i with _ | _ | i
        · have : V.ref t = v := Option.some.inj hv
          subst this
          exact ⟨t, p.1, p.2, rfl, (s12.trans s36) _ _ ht, .inl ⟨rfl, rfl⟩, rfl⟩
        · have : V.ref T1 = v := Option.some.inj hv
          subst this
          exact ⟨T1, p.2, p.1, rfl, e6 _ _ hT5, .inr ⟨rfl, rfl⟩, rfl⟩
        · simp at hv
      have pf : ∀ i, (part xs ps p i).length ≤ 18 := fun i => by
        have a1 := side_few (ps := ps) (p := p) (s := p.1) (t := p.2) l9.2 xs.length
        have a2 := side_few (ps := ps) (p := p) (s := p.2) (t := p.1) l9.2 xs.length
        rw [List.take_length] at a1 a2
        rcases i with _ | _ | i
        · exact Nat.zero_le _
        · show (side xs ps p p.1 p.2).length ≤ 18
          omega
        · show (side xs ps p p.1 p.2 ++ side xs ps p p.2 p.1).length ≤ 18
          rw [List.length_append]
          omega
      refine for_tup (xs := [V.ref t, V.ref T1]) (fun i σ H' => ∃ v5 v6 v7 v8 v9 : Option V, ∃ Ts : List Addr, σ = [some (.ref c), some (.ref t), some (.ref D), some (.int (stp ps p)), some (.ref R), v5, v6, v7, v8, v9] ∧ SameX R H6 H' ∧ H' R = some (.lst (Ts.map V.ref)) ∧ MvL H' Ts (part xs ps p i))
        ⟨none, none, none, none, none, [], ?_, SameX.refl _ _, (e5.trans e6) _ _ hR4, mvL_nil⟩ (fun i σ H' _ ⟨_, _, _, _, _, _, _, z, _⟩ => SqT.of (z _ _ nTR hT6)) ?_ ?_
      · first
        | rw [show stp ps p = -1 from if_pos (est.mp (of_decide_eq_true hb))]; rfl
        | rw [show stp ps p = 1 from if_neg fun z => hb (decide_eq_true (est.mpr z))]; rfl
      · rintro i v σ H7 hv ⟨v5, v6, v7, v8, v9, Ts, rfl, sx, hR7, ml⟩
        obtain ⟨U, s', t', rfl, hU6, st, epart⟩ := tups i v hv
        have nUR : U ≠ R := fun z => by
          rw [z, hR6] at hU6
          cases hU6
        have hU7 := sx _ _ nUR hU6
        have nDR : D ≠ R := fun z => by
          have := s36 _ _ hd
          rw [z, hR6] at this
          cases this
        refine ⟨U, _, rfl, SqT.of hU7, rfl, _, _, rfl, _, _, rfl, rfl, ?_⟩
        have hd6 := s36 _ _ hd
        refine ⟨_, rfl, D, o, rfl, .inl ⟨_, sx _ _ nDR hd6, ?_⟩⟩
        have hs' : s' ∈ xs ∧ t' ∈ xs := by
          rcases st with ⟨rfl, rfl⟩ | ⟨rfl, rfl⟩
          · exact ⟨mp1, mp2⟩
          · exact ⟨mp2, mp1⟩
        have nt6 : t ≠ R := fun z => by
          have := (s12.trans s36) _ _ ht
          rw [z, hR6] at this
          cases this
        have ht6 := (s12.trans s36) _ _ ht
        refine for_it (walk_keys (d := D) (o := o) (kvs := dkv xs (Ls.map V.ref))) (fun j σ H' => ∃ v7 v8 v9 : Option V, ∃ Ts : List Addr, σ = [some (.ref c), some (.ref t), some (.ref D), some (.int (stp ps p)), some (.ref R), some (.str s'), some (.str t'), v7, v8, v9] ∧ SameX R H6 H' ∧ H' R = some (.lst (Ts.map V.ref)) ∧ MvL H' Ts (part xs ps p i ++ side (xs.take j) ps p s' t'))
          ⟨_, _, _, Ts, rfl, sx, hR7, by rw [show side (xs.take 0) ps p s' t' = [] from rfl, List.append_nil]; exact ml⟩ (fun j σ H' _ ⟨_, _, _, _, _, z, _⟩ => z _ _ nDR hd6) ?_ ?_
        · rintro j v σ _ H8 hj ⟨v7, v8, v9, Ts, rfl, sx, hR8, ml⟩ ⟨rfl, ky, vv, ek, rfl⟩
          rw [dkv_len lv] at hj
          obtain ⟨r, v', hx, hv, e⟩ := dkv_mem ek
          obtain ⟨rfl, rfl⟩ := Prod.mk.inj e
          have hr := List.mem_of_getElem? hx
          have nx := side_snoc (ps := ps) (p := p) (s := s') (t := t') hx
          refine ⟨_, rfl, _, rfl, t, _, rfl, .inr (SqT.of (sx _ _ nt6 ht6)), rfl, rfl, _, rfl, ?_⟩
          refine ite2 (fun hb => ?_) (fun hb => ?_)
          · have hb : (!inV (.str r) [.str p.1, .str p.2]) = true := hb
            rw [nin_pair] at hb
            obtain ⟨q1, q2, q3, q4⟩ := side_in g hp st hr hb
            refine ⟨_, rfl, _, rfl, s', r, rfl, fun O nO => ?_⟩
            have nRO : R ≠ O := ne_of_none hR8 nO
            have e9 : Same H8 (upd H8 O (.tup [.str (mk s' r).1, .str (mk s' r).2])) := same_new nO
            have hO9 : upd H8 O (.tup [.str (mk s' r).1, .str (mk s' r).2]) O = some (.tup [.str (mk s' r).1, .str (mk s' r).2]) := upd_same
            generalize upd H8 O (.tup [.str (mk s' r).1, .str (mk s' r).2]) = H9 at e9 hO9 ⊢
            have cf9 : CirF H9 D xs Ls (frs ps) := by
              obtain ⟨⟨o', z1⟩, z2, z3⟩ := cf.same s36
              refine ⟨⟨o', e9 _ _ (sx _ _ nDR z1)⟩, z2, fun i x L y1 y2 => e9 _ _ (sx _ _ (fun z => ?_) (z3 i x L y1 y2))⟩
              have y3 := cf.2.2 i x L y1 y2
              exact ne_of_none y3 hR z
            refine ⟨_, rfl, _, rfl, _, rfl, D, O, t', mk s' r, xs, ps, Ls, rfl, cf9, g, hO9, hs'.2, fun H10 s10 => ?_⟩
            have s810 := e9.trans s10
            refine ⟨_, rfl, .inl ⟨rfl, _, SqL.of (s810 _ _ hR8)⟩, ?_⟩
            refine ⟨_, rfl, _, rfl, _, rfl, _, rfl, _, rfl, _, _, rfl, rfl, by show 4 ≤ sizeLine; decide, fun M hM => ?_⟩
            have s811 : Same H8 (upd H10 M (.tup [.ref O, .str t', .int ((kf ps (mk s' r) t' : Nat) : Int), .int (((kf ps (mk s' r) t' : Nat) : Int) + stp ps p)])) := same_over s810 (same_none s810 hM)
            have hMm : MvAt (upd H10 M (.tup [.ref O, .str t', .int ((kf ps (mk s' r) t' : Nat) : Int), .int (((kf ps (mk s' r) t' : Nat) : Int) + stp ps p)])) M (mk s' r, t', ((kf ps (mk s' r) t' : Nat) : Int), ((kf ps (mk s' r) t' : Nat) : Int) + stp ps p) := ⟨O, upd_same, by rw [upd_ne (ne_of_none (s10 _ _ hO9) hM)]; exact s10 _ _ hO9⟩
            generalize upd H10 M (.tup [.ref O, .str t', .int ((kf ps (mk s' r) t' : Nat) : Int), .int (((kf ps (mk s' r) t' : Nat) : Int) + stp ps p)]) = H11 at s811 hMm ⊢
            have hR11 := s811 _ _ hR8
            refine ⟨R, _, _, rfl, rfl, hR11, ?_, ?_⟩
            · rw [List.length_map, ml.1, List.length_append, sizeLine_eq]
              have := pf i
              have := side_few (ps := ps) (p := p) (s := s') (t := t') l9.2 j
              omega
            refine ⟨_, _, _, Ts ++ [M], rfl, fun b o nb e => ?_, by rw [upd_same, List.map_append]; rfl, ?_⟩
            · rw [upd_ne nb]
              exact s811 _ _ (sx _ _ nb e)
            · rw [nx, if_pos hb, ← List.append_assoc]
              exact mvL_snoc (ml.same s811) hR11 hMm
          · have hb : ¬ (!inV (.str r) [.str p.1, .str p.2]) = true := hb
            rw [nin_pair] at hb
            refine ⟨_, _, _, Ts, rfl, sx, hR8, ?_⟩
            rw [nx, if_neg hb, List.append_nil]
            exact ml
        · rintro σ H8 ⟨v7, v8, v9, Ts, rfl, sx, hR8, ml⟩
          rw [dkv_len lv, List.take_length, epart] at ml
          exact ⟨_, _, _, _, _, Ts, rfl, sx, hR8, ml⟩
      · rintro σ H7 ⟨v5, v6, v7, v8, v9, Ts, rfl, sx, hR7, ml⟩
        have ml : MvL H7 Ts (prog xs ps p) := ml
        refine ⟨_, rfl, ?_⟩
        dsimp only [tNil]
        refine sorted_mvs hR7 ml (prog_due g hp) (due_asc g.asc) fun L o hL hm => ?_
        have nR : H R = none := same_none s12 hR
        have s07 : Same H H7 := fun b u e => sx _ _ (ne_of_none e nR) ((s12.trans s36) _ _ e)
        exact k _ L (same_updN s07 hL) (same_none s07 hL) hm
end
end Wd
end
section
set_option maxRecDepth 100000
set_option maxHeartbeats 4000000
namespace Wd
open PySem L2
theorem mk_word {a b : Str} (h1 : IsW a) (h2 : IsW b) : IsW (mk a b).1 ∧ IsW (mk a b).2 := by
  unfold mk
  split
  · exact ⟨h1, h2⟩
  · exact ⟨h2, h1⟩
theorem mem_two {p : Pr} {y : Str} (h : y ∈ [p.1, p.2]) : y = p.1 ∨ y = p.2 := by simpa using h
theorem pe_no {X : Cx} {e : Expr} : PE X e (fun _ _ _ => False) := ⟨fun _ _ _ _ _ _ h => h.elim⟩
def spSame (n : Nat) : Sp := fun vs H Q _ => ∃ (v : V) (d : Dt), vs = [v] ∧ Is (fun _ => True) H n d v ∧ ∀ (H' : Hp) (u : V), Same H H' → Is (fun a => H a = none) H' n d u → Q u H'
/-- a tuple made of what was just built -/
theorem bld_tup {H0 : Hp} {R T : Addr} {H : Hp} {n : Nat} {ds : List Dt} {B : Addr → Prop} {vs : List V} (h : H T = some (.tup vs)) (l : vs.length = ds.length) (few : ds.length ≤ 100) (at_ : ∀ (i : Nat) v d, vs[i]? = some v → ds[i]? = some d → Is B H n d v) : Is B H (n + 1) (.tp ds) (.ref T) := .tp h l few at_
section
variable {P : Program} {w : World} {K : PySem.W.Frag} {mg : Str → Option Value} {base : Heap}
theorem ok_same0 {f : Addr} {fd : FuncData} (F : Fun K "_law_same" "_law_same" s_same f fd) (T : Bt mg) : FnOk P w K mg base CX0 1 f fd ["_law_thing"] (spSame 0) := by
  refine F.ok c_same (fun vs H Q E h => ?_) (fun cdv A outer s H vs Q E hr h => ?_)
  · obtain ⟨_, _, rfl, _⟩ := h
    rfl
  · obtain ⟨v, d, rfl, is, k⟩ := h
    refine ⟨_, pss_cons (ps_if (pt_val (pe_callB call_isi (by rfl) T.isi (by decide +kernel) (pa_cons (pv 0) (pa_cons (pe_bltn (v := .ty "dict") (by rfl) T.dict (by decide +kernel) rfl) pa_nil)))) pss_never pss_nil)
      (pss_cons (ps_if (pt_val (pe_callB call_isi (by rfl) T.isi (by decide +kernel) (pa_cons (pv 0) (pa_cons (pe_bltn (v := .ty "list") (by rfl) T.list (by decide +kernel) rfl) pa_nil)))) pss_never pss_nil)
      (pss_one (ps_ret (pe_ifExp (pt_val (pe_callB call_isi (by rfl) T.isi (by decide +kernel) (pa_cons (pv 0) (pa_cons (pe_bltn (v := .ty "tuple") (by rfl) T.tuple (by decide +kernel) rfl) pa_nil)))) pe_no (pv 0))))), ?_⟩
    cases is with
    | atm _ ha =>
      obtain ⟨t, i, b, C⟩ := atom_cl (K := K) (H := H) ha
      refine ⟨_, rfl, _, _, _, _, _, rfl, .ty "dict", C.ty, kit_ty C.d, _, rfl, iteF ?_⟩
      refine ⟨_, rfl, _, _, _, _, _, rfl, .ty "list", C.ty, kit_ty C.l, _, rfl, iteF ?_⟩
      refine ⟨_, rfl, _, _, _, _, _, rfl, .ty "tuple", C.ty, kit_ty C.u, _, rfl, iteF ?_⟩
      exact ⟨_, rfl, k H v (Same.refl _) (.atm 0 ha)⟩
theorem ok_sameS {f : Addr} {fd : FuncData} {m : Nat} (F : Fun K "_law_same" "_law_same" s_same f fd) (T : Bt mg) (mE : mg "_law_same" = some (.ref f)) (bE : Binds K fd ["_law_thing"] []) (GE : FnOk P w K mg base CX0 (m + 1) f fd ["_law_thing"] (spSame m)) :
    FnOk P w K mg base CX0 (m + 2) f fd ["_law_thing"] (spSame (m + 1)) := by
  refine F.ok c_same (fun vs H Q E h => ?_) (fun cdv A outer s H vs Q E hr h => ?_)
  · obtain ⟨_, _, rfl, _⟩ := h
    rfl
  · obtain ⟨v, d, rfl, is, k⟩ := h
    refine ⟨_, pss_cons (ps_if (pt_val (pe_callB call_isi (by rfl) T.isi (by decide +kernel) (pa_cons (pv 0) (pa_cons (pe_bltn (v := .ty "dict") (by rfl) T.dict (by decide +kernel) rfl) pa_nil)))) pss_never pss_nil)
      (pss_cons (ps_if (pt_val (pe_callB call_isi (by rfl) T.isi (by decide +kernel) (pa_cons (pv 0) (pa_cons (pe_bltn (v := .ty "list") (by rfl) T.list (by decide +kernel) rfl) pa_nil))))
        (pss_one (ps_ret (pe_lc (own := [("_law_item", 2)]) (g := gName 2) (tt := tYes) rfl c_same.nd (pi_list (pv 0))
          (blkOk_by (N := ["_law_thing", "_law_key", "_law_item"]) (sc := defScope s_same) (by decide +kernel)) (fun _ _ _ _ _ => pg_name (i := 2) c_same.nd rfl (Or.inl rfl)) (fun _ _ _ _ _ => pts_nil)
          (fun _ _ _ _ _ => pe_call GE hr rfl mE F.kp bE .nil pass0 (pa_cons (pv 2) pa_nil))))) pss_nil)
      (pss_one (ps_ret (pe_ifExp (pt_val (pe_callB call_isi (by rfl) T.isi (by decide +kernel) (pa_cons (pv 0) (pa_cons (pe_bltn (v := .ty "tuple") (by rfl) T.tuple (by decide +kernel) rfl) pa_nil))))
        (pe_callTy call_tuple_of (by rfl) T.tuple (by decide +kernel) (pa_cons (pe_lc (own := [("_law_item", 2)]) (g := gName 2) (tt := tYes) rfl c_same.nd (pi_tup (pv 0))
          (blkOk_by (N := ["_law_thing", "_law_key", "_law_item"]) (sc := defScope s_same) (by decide +kernel)) (fun _ _ _ _ _ => pg_name (i := 2) c_same.nd rfl (Or.inl rfl)) (fun _ _ _ _ _ => pts_nil)
          (fun _ _ _ _ _ => pe_call GE hr rfl mE F.kp bE .nil pass0 (pa_cons (pv 2) pa_nil))) pa_nil)) (pv 0))))), ?_⟩
    cases is with
    | atm _ ha =>
      obtain ⟨t, i, b, C⟩ := atom_cl (K := K) (H := H) ha
      refine ⟨_, rfl, _, _, _, _, _, rfl, .ty "dict", C.ty, kit_ty C.d, _, rfl, iteF ?_⟩
      refine ⟨_, rfl, _, _, _, _, _, rfl, .ty "list", C.ty, kit_ty C.l, _, rfl, iteF ?_⟩
      refine ⟨_, rfl, _, _, _, _, _, rfl, .ty "tuple", C.ty, kit_ty C.u, _, rfl, iteF ?_⟩
      exact ⟨_, rfl, k H v (Same.refl _) (.atm _ ha)⟩
    | @ls _ a vs ds ha hA l few h =>
      have C : Cl K H (.ref a) "list" true false false false false := ⟨.base (.lst ha), by decide +kernel, by decide +kernel, by decide +kernel, by decide +kernel, by decide +kernel⟩
      refine ⟨_, rfl, _, _, _, _, _, rfl, .ty "dict", C.ty, kit_ty C.d, _, rfl, iteF ?_⟩
      refine ⟨_, rfl, _, _, _, _, _, rfl, .ty "list", C.ty, kit_ty C.l, _, rfl, iteT ?_⟩
      refine ⟨_, rfl, a, rfl, ⟨_, SqL.of ha⟩, fun R hR => ?_⟩
      have nR : upd H R (.lst []) R ≠ none := fun z => by
        rw [upd_same] at z
        cases z
      refine lc_list (xs := vs) (fun i H' => Same H H' ∧ Bld (upd H R (.lst [])) R H' m (ds.take i)) ⟨same_new hR, bld_nil upd_same⟩ (fun i H' _ z => SqL.of (z.1 _ _ ha)) ?_ ?_
      · rintro i v H1 hv ⟨s1, bl⟩
        have il := (List.getElem?_eq_some_iff.mp hv).1
        obtain ⟨d, hd⟩ : ∃ d, ds[i]? = some d := ⟨_, List.getElem?_eq_getElem (by omega)⟩
        obtain ⟨us, eu, _⟩ := bl.len
        refine ⟨rfl, _, rfl, v, d, rfl, (h i v d hv hd).same s1, fun H2 u s2 hu => ?_⟩
        obtain ⟨ws, e1, e2, e3⟩ := bld_snoc bl s2 (hu.weak fun b hb => fresh_of eu s1 hb) nR
        refine ⟨ws, e1, by rw [e2, List.length_take, sizeLine_eq]; omega, same_over (s1.trans s2) hR, ?_⟩
        rw [take_next hd]
        exact e3
      · rintro H1 ⟨s1, bl⟩
        rw [l, List.take_length] at bl
        exact k H1 _ s1 (bld_done bl hR (fun b hb => fresh_out hb) few)
    | @tp _ a vs ds ha l few h =>
      have C : Cl K H (.ref a) "tuple" false true false false false := ⟨.base (.tup ha), by decide +kernel, by decide +kernel, by decide +kernel, by decide +kernel, by decide +kernel⟩
      refine ⟨_, rfl, _, _, _, _, _, rfl, .ty "dict", C.ty, kit_ty C.d, _, rfl, iteF ?_⟩
      refine ⟨_, rfl, _, _, _, _, _, rfl, .ty "list", C.ty, kit_ty C.l, _, rfl, iteF ?_⟩
      refine ⟨_, rfl, _, _, _, _, _, rfl, .ty "tuple", C.ty, kit_ty C.u, _, rfl, iteT ?_⟩
      refine ⟨_, rfl, a, rfl, ⟨_, SqT.of ha⟩, fun R hR => ?_⟩
      have nR : upd H R (.lst []) R ≠ none := fun z => by
        rw [upd_same] at z
        cases z
      refine lc_it (walk_tup (K := K) (a := a) (xs := vs)) (fun i H' => Same H H' ∧ Bld (upd H R (.lst [])) R H' m (ds.take i)) ⟨same_new hR, bld_nil upd_same⟩ (fun i H' _ z => SqT.of (z.1 _ _ ha)) ?_ ?_
      · rintro i v H1 _ hi ⟨s1, bl⟩ ⟨rfl, hv⟩
        obtain ⟨d, hd⟩ : ∃ d, ds[i]? = some d := ⟨_, List.getElem?_eq_getElem (by omega)⟩
        obtain ⟨us, eu, _⟩ := bl.len
        refine ⟨rfl, _, rfl, v, d, rfl, (h i v d hv hd).same s1, fun H2 u s2 hu => ?_⟩
        obtain ⟨ws, e1, e2, e3⟩ := bld_snoc bl s2 (hu.weak fun b hb => fresh_of eu s1 hb) nR
        refine ⟨ws, e1, by rw [e2, List.length_take, sizeLine_eq]; omega, same_over (s1.trans s2) hR, ?_⟩
        rw [take_next hd]
        exact e3
      · rintro H1 ⟨s1, bl⟩
        rw [l, List.take_length] at bl
        obtain ⟨ws, e1, e2, e3⟩ := bl
        refine ⟨R, ws, rfl, .inl ⟨SqL.of e1, fun U hU => ?_⟩⟩
        have s2 : Same H1 (upd H1 U (.tup ws)) := same_new hU
        exact k _ _ (s1.trans s2) (.tp upd_same e2 few fun i v d h1 h2 => ((e3 i v d h1 h2).same s2).weak fun b hb => fresh_out hb)
def spKO : Sp := fun vs H Q _ => ∃ (a t : Addr) (p : Pr) (r : Str) (xs : List Str) (ps : List Pr), vs = [.ref a, .ref t, .str r] ∧ WAt H a xs ps ∧ Good xs ps ∧ H t = some (.tup [.str p.1, .str p.2]) ∧ p ∈ prsS xs ∧ r ∈ xs ∧ outF p r = true ∧ ∀ H', Same H H' → Q (.int (kf ps p r : Nat)) H'
theorem ok_kind_ofL {f : Addr} {fd : FuncData} (F : Fun K "_law_kind_of" "_law_kind_of" s_kind_of f fd) (T : Bt mg) (CP : Has P w K mg base 1 "_law_pair" ["_law_first", "_law_second"] spPair) : FnOk P w K mg base CX0 2 f fd ["_law_world_here", "_law_pair_here", "_law_person"] spKO := by
  obtain ⟨f2, d2, G2, m2, k2, b2⟩ := CP
  refine F.ok c_kind_of (fun vs H Q E h => ?_) (fun cdv A outer s H vs Q E hr h => ?_)
  · obtain ⟨_, _, _, _, _, _, rfl, _⟩ := h
    rfl
  · obtain ⟨a, t, p, r, xs, ps, rfl, W0, g, ht, hp, hrx, out, k⟩ := h
    obtain ⟨mp1, mp2, _⟩ := mem_prsS g.asc hp
    refine ⟨_, pss_one (ps_ret (pe_callB call_len_seq (by rfl) T.len PySem.boot_len (pa_cons (pe_lc (own := [("_law_one", 3)]) (g := gName 3) rfl c_kind_of.nd (pi_tup (pv 1))
      (blkOk_by (N := ["_law_world_here", "_law_pair_here", "_law_person", "_law_one"]) (sc := defScope s_kind_of) (by decide +kernel)) (fun _ _ _ _ _ => pg_name (i := 3) c_kind_of.nd rfl (Or.inl rfl))
      (fun _ _ _ _ _ => pts_one (pt_cmpR (r := rInD K) (op_inD (room65 hr)) (pe_call G2 hr rfl m2 k2 b2 .nil pass0 (pa_cons (pv 3) (pa_cons (pv 2) pa_nil))) (pe_ix (r := rIxL K) ix_list (pv 0) pe_int (fun _ _ => rfl)) rfl)) (fun _ _ _ _ _ => pv 3)) pa_nil))), ?_⟩
    obtain ⟨c, l, ha, hc, Ps, hl, tp⟩ := id W0
    refine ⟨_, rfl, t, rfl, ⟨_, SqT.of ht⟩, fun R hR => ?_⟩
    have ht2 : ∀ {H'}, Same H H' → H' t = some (.tup ([p.1, p.2].map V.str)) := fun s => s _ _ ht
    have hR0 : upd H R (.lst []) R = some (.lst (([] : List Str).map V.str)) := upd_same
    refine lc_it (walk_tup (K := K) (a := t) (xs := [p.1, p.2].map V.str)) (fun i H' => Same H H' ∧ H' R = some (.lst ((([p.1, p.2].take i).filter fun y => decide (y ∈ frs ps r)).map V.str)))
      ⟨same_new hR, upd_same⟩ (fun i H' _ z => SqT.of (ht2 z.1)) ?_ ?_
    · rintro i v _ H1 hi ⟨s1, hr1⟩ ⟨rfl, hv⟩
      rw [List.getElem?_map] at hv
      obtain ⟨y, hy, rfl⟩ := Option.map_eq_some_iff.mp hv
      have nx : (([p.1, p.2].take (i + 1)).filter fun y => decide (y ∈ frs ps r)) = (([p.1, p.2].take i).filter fun y => decide (y ∈ frs ps r)) ++ if decide (y ∈ frs ps r) = true then [y] else [] := filter_next hy
      have yx : y ∈ xs := by
        have := List.mem_of_getElem? hy
        simp at this
        rcases this with rfl | rfl
        · exact mp1
        · exact mp2
      have yr : r ≠ y := by
        obtain ⟨n1, n2⟩ := outF_iff.mp out
        have := List.mem_of_getElem? hy
        simp at this
        rcases this with rfl | rfl
        · exact n1
        · exact n2
      have em : y ∈ frs ps r ↔ mk y r ∈ ps := by
        rw [mem_frs fun q hq => (g.of q hq).2.2, mk_comm]
        exact ⟨fun z => z.2, fun z => ⟨Ne.symm yr, z⟩⟩
      refine ⟨rfl, _, rfl, _, rfl, y, r, rfl, fun O nO => ?_⟩
      have e2 : Same H1 (upd H1 O (.tup [.str (mk y r).1, .str (mk y r).2])) := same_new nO
      have hO : upd H1 O (.tup [.str (mk y r).1, .str (mk y r).2]) O = some (.tup [.str (mk y r).1, .str (mk y r).2]) := upd_same
      generalize upd H1 O (.tup [.str (mk y r).1, .str (mk y r).2]) = H2 at e2 hO ⊢
      have s2 := s1.trans e2
      refine ⟨_, rfl, a, _, _, .ref l, rfl, rfl, SqL.of (s2 _ _ ha), rfl, pd (mk y r), ps.map pd, dp_pair (SqT.of hO), dp_pdL (SqL.of (s2 _ _ hl)) (tp.same s2), ?_, pdL_shaped g.wp, _, rfl, ?_⟩
      · exact pd_shaped (mk_word (g.word _ yx) (g.word _ hrx)).1 (mk_word (g.word _ yx) (g.word _ hrx)).2
      rw [any_pd]
      refine ite2 (fun hb => ?_) (fun hb => ?_)
      · have hb : decide (y ∈ frs ps r) = true := decide_eq_true (em.mpr (of_decide_eq_true hb))
        refine ⟨_, rfl, _, e2 _ _ hr1, ?_, same_over s2 hR, ?_⟩
        · have h1 := List.length_filter_le (fun y => decide (y ∈ frs ps r)) ([p.1, p.2].take i)
          rw [List.length_map, sizeLine_eq]
          have h2 : ([p.1, p.2].take i).length ≤ 2 := by
            rw [List.length_take]
            exact Nat.min_le_right _ _
          omega
        · rw [upd_same, nx, if_pos hb, List.map_append]
          rfl
      · have hb : ¬ decide (y ∈ frs ps r) = true := fun z => hb (decide_eq_true (em.mp (of_decide_eq_true z)))
        refine ⟨s2, ?_⟩
        rw [nx, if_neg hb, List.append_nil]
        exact e2 _ _ hr1
    · rintro H1 ⟨s1, hr1⟩
      refine ⟨R, _, rfl, .inl (SqL.of hr1), ?_⟩
      rw [List.length_map]
      exact k H1 s1
end
end Wd
end
section
set_option maxRecDepth 100000
set_option maxHeartbeats 8000000
namespace Wd
open PySem L2
theorem kf_own {xs : List Str} {ps : List Pr} (g : Good xs ps) {p : Pr} {r : Str} (hp : p ∈ prsS xs) (hr : r ∈ xs) (h : outF p r = true) : ((kf (Wd.flip xs ps p) p r : Nat) : Int) = ((kf ps p r : Nat) : Int) := by
  obtain ⟨m1, m2, lo⟩ := mem_prsS g.asc hp
  obtain ⟨n1, n2⟩ := outF_iff.mp h
  rw [kf_flip g hp hp hr h, if_neg]
  · omega
  · rintro (z | z)
    · rcases mk_eq (z.trans (mk_pr lo).symm) with ⟨e, _⟩ | ⟨e, _⟩
      · exact n1 e
      · exact n2 e
    · rcases mk_eq (z.trans (mk_pr lo).symm) with ⟨e, _⟩ | ⟨e, _⟩
      · exact n1 e
      · exact n2 e
theorem numL_flip {xs : List Str} {ps : List Pr} (g : Good xs ps) {p : Pr} (hp : p ∈ prsS xs) : numL xs (Wd.flip xs ps p) p = numL xs ps p := by
  have e : kfs xs (Wd.flip xs ps p) p = kfs xs ps p := by
    unfold kfs
    refine List.map_congr_left fun r hr => ?_
    obtain ⟨a, b⟩ := List.mem_filter.mp hr
    exact kf_own g hp a b
  unfold numL nmk
  rw [e]
theorem choose_list {α β : Type} {P : α → β → Prop} : ∀ {l : List α}, (∀ a ∈ l, ∃ b, P a b) → ∃ m : List β, m.length = l.length ∧ ∀ (i : Nat) a b, l[i]? = some a → m[i]? = some b → P a b
  | [], _ => ⟨[], rfl, fun i a b h => by simp at h⟩
  | a :: l, h => by
    obtain ⟨b, hb⟩ := h a List.mem_cons_self
    obtain ⟨m, lm, hm⟩ := choose_list fun x hx => h x (List.mem_cons_of_mem _ hx)
    refine ⟨b :: m, by rw [List.length_cons, List.length_cons, lm], fun i x y h1 h2 => ?_⟩
    cases i with
    | zero =>
      simp at h1 h2
      subst h1 h2
      exact hb
    | succ i =>
      simp at h1 h2
      exact hm i x y h1 h2
theorem cut_refs (Us : List Addr) (lo hi : Option Int) : ∃ Ws : List Addr, cutV (Us.map V.ref) lo hi = Ws.map V.ref ∧ Ws.length ≤ Us.length ∧ ∀ W ∈ Ws, W ∈ Us := by
  refine ⟨_, by unfold cutV; rw [← List.map_drop, ← List.map_take], ?_, fun W h => List.mem_of_mem_drop (List.mem_of_mem_take h)⟩
  rw [List.length_take, List.length_drop]
  omega
theorem mvs_few {xs : List Str} {ps : List Pr} (g : Good xs ps) {p : Pr} (hp : p ∈ prsS xs) : (mvs xs ps p).length ≤ 14 := by
  have h := due_len g hp
  have l9 := g.few
  unfold mvs
  omega
theorem perm_refs {ys : List V} {Us : List Addr} (pm : ys.Perm (Us.map V.ref)) : ∃ Vs : List Addr, ys = Vs.map V.ref ∧ Vs.Perm Us := by
  obtain ⟨ws, pw, ew⟩ := perm_lift V.ref pm Us rfl
  exact ⟨ws, ew.symm, pw⟩
def spMR : Sp := fun vs H Q _ => ∃ (p a : Addr) (c0 : Int) (xs : List Str) (ps : List Pr), vs = [.ref p, .ref a] ∧ PurseAt H p c0 300 ∧ WAt H a xs ps ∧ Good xs ps ∧ ∀ H', SameX p H H' → Q (.bl true) H'
abbrev nA5 : List Str := ["_law_purse_here", "_law_world_here", "_law_company_here", "_law_pairs_here", "_law_pair_here", "_law_kept", "_law_noted", "_law_later", "_law_late", "_law_due", "_law_other", "_law_person", "_law_before", "_law_behind", "_law_told", "_law_back"]
section
variable {P : Program} {w : World} {K : PySem.W.Frag} {mg : Str → Option Value} {base : Heap}
theorem ok_mr {f C : Addr} {fd : FuncData} (F : Fun K "_law_moves_right" "_law_moves_right" s_moves_right f fd) (T : Bt mg) (TC : CT K mg C)
    (C1 : Has P w K mg base 6 "_law_company" ["_law_world_here"] (spComp C)) (C2 : Has P w K mg base 1 "_law_pairs" ["_law_crowd"] spPairs) (C3 : Has P w K mg base 3 "kinds_moved" ["company", "pair"] (spKM C)) (C4 : Has P w K mg base 5 "_law_same" ["_law_thing"] (spSame 4))
    (C5 : Has P w K mg base 1 "_law_deed" ["_law_world_here", "_law_pair_here"] spDeed) (C6 : Has P w K mg base 3 "_law_shuffled" ["_law_purse_here", "_law_some"] spShuffled) (C7 : Has P w K mg base 2 "_law_kind_of" ["_law_world_here", "_law_pair_here", "_law_person"] spKO)
    (C8 : Has P w K mg base 3 "kind_numbers" ["company", "pair"] (spKN C)) (C9 : Has P w K mg base 2 "_law_kinds" ["_law_world_here", "_law_pair_here"] spKindsL) (CT' : Has P w K mg base 3 "third_people" ["company", "pair", "kind"] (spThird C))
    (CE : Has P w K mg base 6 "_law_exact" ["_law_mine", "_law_theirs"] (spExact 5)) (CS : Has P w K mg base 8 "_law_stands" ["_law_world_here", "_law_company_here"] (spStands C)) : FnOk P w K mg base CX0 9 f fd ["_law_purse_here", "_law_world_here"] spMR := by
  obtain ⟨f1, d1, G1, m1, k1, b1⟩ := C1
  obtain ⟨f2, d2, G2, m2, k2, b2⟩ := C2
  obtain ⟨f3, d3, G3, m3, k3, b3⟩ := C3
  obtain ⟨f4, d4, G4, m4, k4, b4⟩ := C4
  obtain ⟨f5, d5, G5, m5, k5, b5⟩ := C5
  obtain ⟨f6, d6, G6, m6, k6, b6⟩ := C6
  obtain ⟨f7, d7, G7, m7, k7, b7⟩ := C7
  obtain ⟨f8, d8, G8, m8, k8, b8⟩ := C8
  obtain ⟨f9, d9, G9, m9, k9, b9⟩ := C9
  obtain ⟨fT, dT', GT, mT, kT, bT⟩ := CT'
  obtain ⟨fE, dE, GE, mE, kE, bE⟩ := CE
  obtain ⟨fS, dS', GS, mS, kS, bS⟩ := CS
  refine F.ok c_moves_right (fun vs H Q E h => ?_) (fun cdv A outer s H vs Q E hr h => ?_)
  · obtain ⟨_, _, _, _, _, rfl, _⟩ := h
    rfl
  · obtain ⟨p, a, c0, xs, ps, rfl, pa, W0, g, k⟩ := h
    have hr1 : Room 1 _ := hr.mono (by decide)
    have hr2 : Room 2 _ := hr.mono (by decide)
    have hr3 : Room 3 _ := hr.mono (by decide)
    have hr5 : Room 5 _ := hr.mono (by decide)
    have hr6 : Room 6 _ := hr.mono (by decide)
    refine ⟨_, pss_cons (ps_asg (pe_tup (pa_cons (pe_call G1 hr6 rfl m1 k1 b1 .nil pass0 (pa_cons (pv 1) pa_nil)) (pa_cons (pe_call G2 hr1 rfl m2 k2 b2 .nil pass0 (pa_cons (pe_ix ix_list (pv 1) pe_int (fun _ _ => rfl)) pa_nil)) pa_nil)))
        (pg_tup rfl (pgs_cons (pg_name (i := 2) c_moves_right.nd rfl (Or.inr rfl)) (pgs_cons (pg_name (i := 3) c_moves_right.nd rfl (Or.inl rfl)) pgs_nil))))
      (pss_cons (ps_setLc (i := 5) (own := [("_law_pair_here", 4)]) (g := gName 4) (tt := tYes) rfl c_moves_right.nd rfl rfl (sw_true rfl rfl rfl (by decide +kernel)) (pi_list (pe_slice sl_list (pv 3) po_none (po_some pe_int)))
        (blkOk_by (N := nA5) (sc := defScope s_moves_right) (by decide +kernel)) (fun _ _ _ _ _ => pg_name (i := 4) c_moves_right.nd rfl (Or.inl rfl)) (fun _ _ _ _ _ => pts_nil) (fun _ _ _ _ _ => pe_call G3 hr3 rfl m3 k3 b3 .nil pass0 (pa_cons (pv 2) (pa_cons (pv 4) pa_nil))))
      (pss_cons (ps_par (i := 6) (j := 7) rfl c_moves_right.nd rfl rfl (by decide) rfl rfl (pa_cons (pe_call G4 hr5 rfl m4 k4 b4 .nil pass0 (pa_cons (pv 5) pa_nil))
          (pa_cons (pe_lc (own := [("_law_pair_here", 4)]) (g := gName 4) (tt := tYes) rfl c_moves_right.nd (pi_list (pe_slice sl_list (pv 3) (po_some (pe_un un_neg pe_int)) po_none))
            (blkOk_by (N := nA5) (sc := defScope s_moves_right) (by decide +kernel)) (fun _ _ _ _ _ => pg_name (i := 4) c_moves_right.nd rfl (Or.inl rfl)) (fun _ _ _ _ _ => pts_nil) (fun _ _ _ _ _ => pe_call G3 hr3 rfl m3 k3 b3 .nil pass0 (pa_cons (pv 2) (pa_cons (pv 4) pa_nil)))) pa_nil)) (by rfl))
      (pss_cons (ps_if (pt_not (pt_val (pe_call GE hr6 rfl mE kE bE .nil pass0 (pa_cons (pe_lst (pa_cons (pv 5) (pa_cons (pe_callB call_len_seq (by rfl) T.len PySem.boot_len (pa_cons (pv 7) pa_nil)) pa_nil)))
          (pa_cons (pe_lst (pa_cons (pv 6) (pa_cons (pe_callB call_len_seq (by rfl) T.len PySem.boot_len (pa_cons (pe_slice sl_list (pv 3) (po_some (pe_un un_neg pe_int)) po_none) pa_nil)) pa_nil))) pa_nil))))) (pss_one ps_never) pss_nil)
      (pss_cons (ps_for PassesOwn.never rfl (pi_list (pe_slice sl_list (pe_call G6 hr3 rfl m6 k6 b6 .nil pass0 (pa_cons (pv 0) (pa_cons (pv 3) pa_nil))) po_none (po_some pe_int))) (pg_name (i := 4) c_moves_right.nd rfl (Or.inl rfl))
        (pss_cons (ps_par (i := 8) (j := 9) rfl c_moves_right.nd rfl rfl (by decide) rfl rfl (pa_cons (pe_call G5 hr1 rfl m5 k5 b5 .nil pass0 (pa_cons (pv 1) (pa_cons (pv 4) pa_nil))) (pa_cons (pe_lst pa_nil) pa_nil)) (by rfl))
        (pss_cons (ps_for PassesOwn.never rfl (pi_list (pv 3)) (pg_name (i := 10) c_moves_right.nd rfl (Or.inr rfl))
          (pss_one (ps_for PassesOwn.never rfl (pi_list (pe_lc (own := [("_law_person", 11)]) (g := gName 11) rfl c_moves_right.nd (pi_list (pe_ix ix_list (pv 1) pe_int (fun _ _ => rfl)))
              (blkOk_by (N := nA5) (sc := defScope s_moves_right) (by decide +kernel)) (fun _ _ _ _ _ => pg_name (i := 11) c_moves_right.nd rfl (Or.inl rfl)) (fun _ _ _ _ _ => pts_one (pt_cmpR (r := rIn K true) op_notIn_seq (pv 11) (pv 10) rfl)) (fun _ _ _ _ _ => pv 11))) (pg_name (i := 11) c_moves_right.nd rfl (Or.inl rfl))
            (pss_cons (ps_par (i := 12) (j := 13) rfl c_moves_right.nd rfl rfl (by decide) rfl rfl (pa_cons (pe_call G7 hr2 rfl m7 k7 b7 .nil pass0 (pa_cons (pv 1) (pa_cons (pv 10) (pa_cons (pv 11) pa_nil)))) (pa_cons (pe_call G7 hr2 rfl m7 k7 b7 .nil pass0 (pa_cons (pv 8) (pa_cons (pv 10) (pa_cons (pv 11) pa_nil)))) pa_nil)) (by rfl))
            (pss_one (ps_if (pt_cmpR op_ne (pv 12) (pv 13) (nomark _)) (pss_one (ps_expr (pe_bm PySem.F.plainAttrs_list PySem.F.slot_list_append PySem.F.type_list_append mt_append (pv 9) (pa_cons (pe_tup (pa_cons (pv 10) (pa_cons (pv 11) (pa_cons (pv 12) (pa_cons (pv 13) pa_nil))))) pa_nil)))) pss_nil))))))
        (pss_cons (ps_set (i := 14) c_moves_right.nd rfl (Or.inl rfl) (pe_call G3 hr3 rfl m3 k3 b3 .nil pass0 (pa_cons (pv 2) (pa_cons (pv 4) pa_nil))))
        (pss_cons (ps_if (PW.pt (pw_or (pt_not (pt_val (pe_call GE hr6 rfl mE kE bE .nil pass0 (pa_cons (pv 14) (pa_cons (pe_callB (Kx.cr_sortedD hr.units) (by rfl) T.sorted (by decide +kernel) (pa_cons (pv 9) pa_nil)) pa_nil)))))
            (pw_or1 (pt_cmpR op_ne (pe_callB call_len_seq (by rfl) T.len PySem.boot_len (pa_cons (pv 9) pa_nil)) (pe_op op_mul pe_int (pe_op op_sub (pe_callB call_len_seq (by rfl) T.len PySem.boot_len (pa_cons (pe_ix ix_list (pv 1) pe_int (fun _ _ => rfl)) pa_nil)) pe_int)) (nomark _))))) (pss_one ps_never) pss_nil)
        (pss_cons (ps_expr (pe_bm PySem.F.plainAttrs_list PySem.F.slot_list_append PySem.F.type_list_append mt_append (pv 14) (pa_cons pe_non pa_nil)))
        (pss_cons (ps_if (pt_not (pt_val (pe_call GE hr6 rfl mE kE bE .nil pass0 (pa_cons (pe_call G3 hr3 rfl m3 k3 b3 .nil pass0 (pa_cons (pv 2) (pa_cons (pv 4) pa_nil))) (pa_cons (pe_callB (Kx.cr_sortedD hr.units) (by rfl) T.sorted (by decide +kernel) (pa_cons (pv 9) pa_nil)) pa_nil))))) (pss_one ps_never) pss_nil)
        (pss_cons (ps_set (i := 15) c_moves_right.nd rfl (Or.inl rfl) (pe_callB (Kx.cr_sortedD hr.units) (by rfl) T.sorted (by decide +kernel) (pa_cons
            (pe_lc (own := [("_law_other", 10), ("_law_person", 11), ("_law_before", 12), ("_law_behind", 13)]) (g := gTup K 4 (gCons (gName 10) (gCons (gName 11) (gCons (gName 12) (gCons (gName 13) gNil))))) (tt := tYes) rfl c_moves_right.nd (pi_list (pv 9))
              (blkOk_by (N := nA5) (sc := defScope s_moves_right) (by decide +kernel)) (fun _ _ _ _ _ => pg_tup rfl (pgs_cons (pg_name (i := 10) c_moves_right.nd rfl (Or.inl rfl)) (pgs_cons (pg_name (i := 11) c_moves_right.nd rfl (Or.inl rfl)) (pgs_cons (pg_name (i := 12) c_moves_right.nd rfl (Or.inl rfl)) (pgs_cons (pg_name (i := 13) c_moves_right.nd rfl (Or.inl rfl)) pgs_nil))))) (fun _ _ _ _ _ => pts_nil)
              (fun _ _ _ _ _ => pe_tup (pa_cons (pv 10) (pa_cons (pv 11) (pa_cons (pv 13) (pa_cons (pv 12) pa_nil)))))) pa_nil)))
        (pss_cons (ps_if (pt_not (pt_val (pe_call GE hr6 rfl mE kE bE .nil pass0 (pa_cons (pe_lst (pa_cons (pe_call G3 hr3 rfl m3 k3 b3 .nil pass0 (pa_cons (pe_call G1 hr6 rfl m1 k1 b1 .nil pass0 (pa_cons (pv 8) pa_nil)) (pa_cons (pv 4) pa_nil))) (pa_cons (pe_call G8 hr3 rfl m8 k8 b8 .nil pass0 (pa_cons (pe_call G1 hr6 rfl m1 k1 b1 .nil pass0 (pa_cons (pv 8) pa_nil)) (pa_cons (pv 4) pa_nil))) pa_nil)))
            (pa_cons (pe_lst (pa_cons (pv 15) (pa_cons (pe_call G9 hr2 rfl m9 k9 b9 .nil pass0 (pa_cons (pv 1) (pa_cons (pv 4) pa_nil))) pa_nil))) pa_nil))))) (pss_one ps_never) pss_nil)
        (pss_one (ps_for PassesOwn.never rfl (pi_list (pe_slice sl_list (pe_call G6 hr3 rfl m6 k6 b6 .nil pass0 (pa_cons (pv 0) (pa_cons (pv 9) pa_nil))) po_none (po_some pe_int))) (pg_tup rfl (pgs_cons (pg_name (i := 10) c_moves_right.nd rfl (Or.inr rfl)) (pgs_cons (pg_name (i := 11) c_moves_right.nd rfl (Or.inl rfl)) (pgs_cons (pg_name (i := 12) c_moves_right.nd rfl (Or.inl rfl)) (pgs_cons (pg_name (i := 13) c_moves_right.nd rfl (Or.inl rfl)) pgs_nil)))))
          (pss_one (ps_if (PW.pt (pw_or (pt_cmpR op_notIn_seq (pv 11) (pe_call GT hr3 rfl mT kT bT .nil pass0 (pa_cons (pv 2) (pa_cons (pv 10) (pa_cons (pv 12) pa_nil)))) rfl)
            (pw_or1 (pt_cmpR op_in_seq (pv 11) (pe_call GT hr3 rfl mT kT bT .nil pass0 (pa_cons (pv 2) (pa_cons (pv 10) (pa_cons (pv 13) pa_nil)))) rfl)))) (pss_one ps_never) pss_nil)))))))))))))
      (pss_one (ps_ret (pe_call GS hr rfl mS kS bS .nil pass0 (pa_cons (pv 1) (pa_cons (pv 2) pa_nil))))))))), ?_⟩
    obtain ⟨wc, wl, ha, hwc, Ts, hwl, tu⟩ := id W0
    have l9 := g.few
    have few := g.len
    have l36 := Good.len0 (xs := xs) l9.2
    have lxs : (xs.map V.str).length = xs.length := List.length_map _
    refine ⟨_, rfl, a, xs, ps, rfl, W0, g, fun H1 c s1 nc hc => ?_⟩
    refine ⟨_, rfl, a, _, _, .ref wc, rfl, rfl, SqL.of (s1 _ _ ha), rfl, wc, xs.map V.str, rfl, s1 _ _ hwc, by omega, fun H2 B s2 nB ⟨Us, hB, uu⟩ => ?_⟩
    rw [prs_strs] at uu
    have lU : Us.length = (prsS xs).length := by rw [uu.1, List.length_map]
    refine ⟨by show 2 ≤ sizeLine; decide, fun T1 hT1 => ?_⟩
    have e3 : Same H2 (upd H2 T1 (.tup [.ref c, .ref B])) := same_new hT1
    refine ⟨T1, _, rfl, SqT.of upd_same, rfl, _, _, rfl, _, _, rfl, rfl, ?_⟩
    generalize upd H2 T1 (.tup [.ref c, .ref B]) = H3 at e3 ⊢
    have s03 := (s1.trans s2).trans e3
    have hc3 := hc.same (s2.trans e3)
    have hB3 := e3 _ _ hB
    have uu3 := uu.same e3
    have W3 := W0.same s03
    have pa3 := pa.same s03
    have atU : ∀ (i : Nat) U, Us[i]? = some U → ∃ q, (prsS xs)[i]? = some q ∧ q ∈ prsS xs ∧ H3 U = some (.tup [.str q.1, .str q.2]) := fun i U h => by
      have := (List.getElem?_eq_some_iff.mp h).1
      obtain ⟨q, hq⟩ : ∃ q, (prsS xs)[i]? = some q := ⟨_, List.getElem?_eq_getElem (by omega)⟩
      exact ⟨q, hq, List.mem_of_getElem? hq, uu3.2 i U (tv q) h (by rw [List.getElem?_map, hq]; rfl)⟩
    clear hB uu tu hwl hwc ha s1 s2 e3 hT1 nc hc W0
    -- kept
    have pairs : ∀ U ∈ Us, ∃ q, q ∈ prsS xs ∧ H3 U = some (.tup [.str q.1, .str q.2]) := fun U hU => by
      obtain ⟨i, hi, e⟩ := List.getElem_of_mem hU
      obtain ⟨q, _, h1, h2⟩ := atU i U (by rw [List.getElem?_eq_getElem hi, e])
      exact ⟨q, h1, h2⟩
    obtain ⟨Ks, ek, lk, mk_⟩ := cut_refs Us none (some 3)
    obtain ⟨kq, lkq, atk⟩ := choose_list fun U hU => pairs U (mk_ U hU)
    refine ⟨_, rfl, 3, rfl, B, _, rfl, SqL.of hB3, fun Z hZ => ?_⟩
    rw [ek]
    have e4 : Same H3 (upd H3 Z (.lst (Ks.map V.ref))) := same_new hZ
    have hZ4 : upd H3 Z (.lst (Ks.map V.ref)) Z = some (.lst (Ks.map V.ref)) := upd_same
    generalize upd H3 Z (.lst (Ks.map V.ref)) = H4 at e4 hZ4 ⊢
    refine ⟨Z, rfl, ⟨_, SqL.of hZ4⟩, fun Kp hKp => ?_⟩
    have nKp : upd H4 Kp (.lst []) Kp ≠ none := fun z => by
      rw [upd_same] at z
      cases z
    refine lc_list (xs := Ks.map V.ref) (fun i H' => Same H4 H' ∧ Bld (upd H4 Kp (.lst [])) Kp H' 3 ((kq.take i).map fun q => dMs (mvs xs ps q))) ⟨same_new hKp, bld_nil upd_same⟩ (fun i H' _ z => SqL.of (z.1 _ _ hZ4)) ?_ ?_
    · rintro i v H5 hv ⟨s5, bl⟩
      rw [List.getElem?_map] at hv
      obtain ⟨U, hU, rfl⟩ := Option.map_eq_some_iff.mp hv
      have il := (List.getElem?_eq_some_iff.mp hU).1
      obtain ⟨q, hq⟩ : ∃ q, kq[i]? = some q := ⟨_, List.getElem?_eq_getElem (by omega)⟩
      obtain ⟨hq1, eU⟩ := atk i U q hU hq
      refine ⟨rfl, _, rfl, _, rfl, c, U, q, xs, ps, rfl, hc3.same (e4.trans s5), g, (e4.trans s5) _ _ eU, hq1, fun H6 L s6 nL hL => ?_⟩
      obtain ⟨us, eu, _⟩ := bl.len
      obtain ⟨vs, e1, e2, e3⟩ := bld_snoc bl s6 (is_mvs 0 hL (fresh_of eu s5 nL) (by have := mvs_few g hq1; omega)) nKp
      refine ⟨vs, e1, by rw [e2, List.length_map, List.length_take, sizeLine_eq]; omega, same_over (s5.trans s6) hKp, ?_⟩
      rw [take_next hq, List.map_append]
      exact e3
    rintro H5 ⟨s5, bK⟩
    rw [List.length_map, ← lkq, List.take_length] at bK
    have isK : Is (fun _ => True) H5 4 (.ls (kq.map fun q => dMs (mvs xs ps q))) (.ref Kp) := bld_done bK True.intro (fun _ _ => True.intro) (by rw [List.length_map]; omega)
    refine ⟨_, rfl, _, _, rfl, isK, fun H6 no s6 isN => ?_⟩
    have s36 := (e4.trans s5).trans s6
    -- later
    obtain ⟨Rs, er, lr, mr⟩ := cut_refs Us (some (-3)) none
    refine ⟨_, rfl, 3, rfl, -3, rfl, B, _, rfl, SqL.of (s36 _ _ hB3), fun Z2 hZ2 => ?_⟩
    rw [er]
    have e7 : Same H6 (upd H6 Z2 (.lst (Rs.map V.ref))) := same_new hZ2
    have hZ7 : upd H6 Z2 (.lst (Rs.map V.ref)) Z2 = some (.lst (Rs.map V.ref)) := upd_same
    generalize upd H6 Z2 (.lst (Rs.map V.ref)) = H7 at e7 hZ7 ⊢
    refine ⟨Z2, rfl, ⟨_, SqL.of hZ7⟩, fun La hLa => ?_⟩
    refine lc_list (xs := Rs.map V.ref) (fun i H' => Same H7 H' ∧ ∃ vs : List V, H' La = some (.lst vs) ∧ vs.length = i) ⟨same_new hLa, [], upd_same, rfl⟩ (fun i H' _ z => SqL.of (z.1 _ _ hZ7)) ?_ ?_
    · rintro i v H8 hv ⟨s8, vs, hvs, lvs⟩
      rw [List.getElem?_map] at hv
      obtain ⟨U, hU, rfl⟩ := Option.map_eq_some_iff.mp hv
      have il := (List.getElem?_eq_some_iff.mp hU).1
      obtain ⟨q, hq1, eU⟩ := pairs U (mr U (List.mem_of_getElem? hU))
      have s38 := (s36.trans e7).trans s8
      refine ⟨rfl, _, rfl, _, rfl, c, U, q, xs, ps, rfl, hc3.same s38, g, s38 _ _ eU, hq1, fun H9 L s9 nL hL => ?_⟩
      exact ⟨vs, s9 _ _ hvs, by rw [lvs, sizeLine_eq]; omega, same_over (s8.trans s9) hLa, _, upd_same, by rw [List.length_append, lvs]; rfl⟩
    rintro H8 ⟨s8, vs, hvs, lvs⟩
    have s68 := e7.trans s8
    have s38 := s36.trans s68
    refine ⟨_, _, rfl, ?_⟩
    -- the first look
    refine ⟨_, rfl, _, rfl, La, _, rfl, .inl (SqL.of hvs), by show 2 ≤ sizeLine; decide, fun L1 hL1 => ?_⟩
    have e9 : Same H8 (upd H8 L1 (.lst [.ref Kp, .int (vs.length : Nat)])) := same_new hL1
    have eL1 : upd H8 L1 (.lst [.ref Kp, .int (vs.length : Nat)]) L1 = some (.lst [.ref Kp, .int (vs.length : Nat)]) := upd_same
    generalize upd H8 L1 (.lst [.ref Kp, .int (vs.length : Nat)]) = H9 at e9 eL1 ⊢
    refine ⟨_, rfl, _, rfl, 3, rfl, -3, rfl, B, _, rfl, SqL.of ((s38.trans e9) _ _ hB3), fun Z3 hZ3 => ?_⟩
    rw [er]
    have e10 : Same H9 (upd H9 Z3 (.lst (Rs.map V.ref))) := same_new hZ3
    refine ⟨Z3, _, rfl, .inl (SqL.of upd_same), ?_⟩
    generalize upd H9 Z3 (.lst (Rs.map V.ref)) = H10 at e10 ⊢
    refine ⟨by show 2 ≤ sizeLine; decide, fun L2 hL2 => ?_⟩
    have e11 : Same H10 (upd H10 L2 (.lst [no, .int ((Rs.map V.ref).length : Nat)])) := same_new hL2
    have eL2 : upd H10 L2 (.lst [no, .int ((Rs.map V.ref).length : Nat)]) L2 = some (.lst [no, .int ((Rs.map V.ref).length : Nat)]) := upd_same
    generalize upd H10 L2 (.lst [no, .int ((Rs.map V.ref).length : Nat)]) = H11 at e11 eL2 ⊢
    rw [lvs] at eL1
    have s911 := e10.trans e11
    have s611 := (s68.trans e9).trans s911
    have i1 : Sm H11 4 (.ref Kp) no := ((isK.same s6).same s611).sm (isN.same s611)
    refine ⟨_, _, rfl, sm_two (n := 4) (s911 _ _ eL1) eL2 i1 (.atom _ (.inl ⟨_, rfl⟩)), fun H12 s12 => ⟨_, rfl, iteF ?_⟩⟩
    have s312 := (s36.trans s611).trans s12
    have hc12 := hc3.same s312
    have W12 := W3.same s312
    have pa12 := pa3.same s312
    have hB12 := s312 _ _ hB3
    have pairs12 : ∀ U ∈ Us, ∃ q, q ∈ prsS xs ∧ H12 U = some (.tup [.str q.1, .str q.2]) := fun U hU => by
      obtain ⟨q, h1, h2⟩ := pairs U hU
      exact ⟨q, h1, s312 _ _ h2⟩
    have atU12 : ∀ (i : Nat) U, Us[i]? = some U → ∃ q, (prsS xs)[i]? = some q ∧ q ∈ prsS xs ∧ H12 U = some (.tup [.str q.1, .str q.2]) := fun i U h => by
      obtain ⟨q, h1, h2, h3⟩ := atU i U h
      exact ⟨q, h1, h2, s312 _ _ h3⟩
    have s012 := s03.trans s312
    clear i1 s611 s911 eL1 eL2 e11 hL2 e10 hZ3 e9 hL1 hvs lvs s8 s68 s38 hLa e7 hZ7 hZ2 isN s6 isK bK s5 nKp hKp e4 hZ4 hZ s36 pairs atU uu3 W3 pa3 hB3 hc3 s03 er lr mr atk lkq ek lk mk_ s312 s12
    have rB : ∀ x ∈ Us.map V.ref, ∀ i : Int, x ≠ .int i := fun x hx i z => by
      obtain ⟨y, _, e⟩ := List.mem_map.mp hx
      rw [z] at e
      cases e
    have nBp : B ≠ p := purse_ne pa12 hB12 fun b c t z e => by
      have e := HO.lst.inj e
      have m : V.int b ∈ Us.map V.ref := by rw [e]; exact List.mem_cons_self
      exact rB _ m b rfl
    refine ⟨_, rfl, _, rfl, p, B, Us.map V.ref, c0, 200, rfl, pa12.less (by rw [List.length_map]; omega), hB12, nBp, by rw [List.length_map]; omega, fun H13 Sl ys pm sx13 nSl hSl nSlp pa13 => ?_⟩
    obtain ⟨Vs, rfl, pVs⟩ := perm_refs pm
    have W13 := W12.sameX pa12 sx13
    have hc13 := hc12.sameX pa12 sx13
    have hB13 := sameX_lst pa12 sx13 hB12 rB
    have tup13 : ∀ {U : Addr} {a b : V}, H12 U = some (.tup [a, b]) → H13 U = some (.tup [a, b]) := fun e => sx13 _ _ (purse_ne pa12 e fun _ _ _ _ z => nomatch z) e
    refine ⟨8, rfl, Sl, _, rfl, SqL.of hSl, fun Z hZ => ⟨Z, rfl, ⟨_, SqL.of upd_same⟩, ?_⟩⟩
    have ec : cutV (Vs.map V.ref) none (some 8) = (Vs.take 8).map V.ref := by
      rw [List.map_take]
      exact cutV_lo (Vs.map V.ref) 8
    rw [ec]
    have s14 := same_new (o := .lst ((Vs.take 8).map V.ref)) hZ
    have hZ14 : upd H13 Z (.lst ((Vs.take 8).map V.ref)) Z = some (.lst ((Vs.take 8).map V.ref)) := upd_same
    have nZp : Z ≠ p := purse_none pa13 hZ
    generalize upd H13 Z (.lst ((Vs.take 8).map V.ref)) = H14 at s14 hZ14 ⊢
    have sx014 : SameX p H H14 := ((SameX.of s012).trans sx13).trans (SameX.of s14)
    have pa14 := pa13.same s14
    have W14 := W13.same s14
    have hc14 := hc13.same s14
    have hB14 := s14 _ _ hB13
    have atU14 : ∀ (i : Nat) U, Us[i]? = some U → ∃ q, (prsS xs)[i]? = some q ∧ q ∈ prsS xs ∧ H14 U = some (.tup [.str q.1, .str q.2]) := fun i U h => by
      obtain ⟨q, h1, h2, h3⟩ := atU12 i U h
      exact ⟨q, h1, h2, s14 _ _ (tup13 h3)⟩
    clear atU12 tup13 pairs12 hB13 hc13 W13 pa13 sx13 nSl hSl nSlp pa12 hB12 W12 hc12 s012 s14 hZ
    refine for_list (xs := (Vs.take 8).map V.ref) (fun i σ H' => ∃ v4 v8 v9 v10 v11 v12 v13 v14 v15 : Option V, σ = [some (.ref p), some (.ref a), some (.ref c), some (.ref B), v4, some (.ref Kp), some no, some (.ref La), v8, v9, v10, v11, v12, v13, v14, v15] ∧ SameX p H14 H' ∧ PurseAt H' p c0 (14 * (8 - i)))
      ⟨_, _, _, _, _, _, _, _, _, rfl, SameX.refl _ _, pa14.less (by omega)⟩ (fun i σ H' _ ⟨_, _, _, _, _, _, _, _, _, _, z, _⟩ => SqL.of (z _ _ nZp hZ14)) ?_ ?_
    · rintro i v σ H15 hv ⟨v4, v8, v9, v10, v11, v12, v13, v14, v15, rfl, sx15, pa15⟩
      rw [List.getElem?_map] at hv
      obtain ⟨U, hU, rfl⟩ := Option.map_eq_some_iff.mp hv
      have i8 : i < 8 := by
        have := (List.getElem?_eq_some_iff.mp hU).1
        rw [List.length_take] at this
        omega
      have mU : U ∈ Us := pVs.mem_iff.mp (List.mem_of_mem_take (List.mem_of_getElem? hU))
      obtain ⟨iu, hiu, eiu⟩ := List.getElem_of_mem mU
      obtain ⟨q, _, hq, eU14⟩ := atU14 iu U (by rw [List.getElem?_eq_getElem hiu, eiu])
      have tupX : ∀ {U : Addr} {a b : V}, H14 U = some (.tup [a, b]) → H15 U = some (.tup [a, b]) := fun e => sx15 _ _ (purse_ne pa14 e fun _ _ _ _ z => nomatch z) e
      have eU := tupX eU14
      have W15 := W14.sameX pa14 sx15
      have hc15 := hc14.sameX pa14 sx15
      have hB15 := sx15 _ _ nBp hB14
      have atU15 : ∀ (i : Nat) U, Us[i]? = some U → ∃ q, (prsS xs)[i]? = some q ∧ q ∈ prsS xs ∧ H15 U = some (.tup [.str q.1, .str q.2]) := fun i U h => by
        obtain ⟨q, h1, h2, h3⟩ := atU14 i U h
        exact ⟨q, h1, h2, tupX h3⟩
      have gf := g.flip q
      refine ⟨_, rfl, _, rfl, a, U, xs, ps, q, rfl, W15, g, eU, hq, fun H16 Dl s16 nDl wDl => ⟨Nat.zero_le _, fun Du hDu => ⟨_, _, rfl, ?_⟩⟩⟩
      have e17 : Same H16 (upd H16 Du (.lst [])) := same_new hDu
      have hDu17 : upd H16 Du (.lst []) Du = some (.lst []) := upd_same
      have nDu : H15 Du = none := same_none s16 hDu
      generalize upd H16 Du (.lst []) = H17 at e17 hDu17 ⊢
      have s1517 := s16.trans e17
      -- all that is due
      have W17 := W15.same s1517
      have wD17 := wDl.same e17
      obtain ⟨wc', wl', ha', hwc', Ps', hwl', tp'⟩ := id W17
      have lst17 : ∀ {A : Addr} {xs : List V}, H16 A = some (.lst xs) → A ≠ Du := fun e => ne_of_none e hDu
      have sx17 : ∀ {H' : Hp}, SameX Du H17 H' → Same H16 H' := fun sx b o e => sx _ _ (ne_of_none e hDu) (e17 _ _ e)
      refine ⟨_, rfl, B, rfl, ⟨_, SqL.of (s1517 _ _ hB15)⟩, ?_⟩
      refine for_list (xs := Us.map V.ref) (fun j σ H' => ∃ v10 v11 v12 v13 : Option V, ∃ Ts : List Addr, σ = [some (.ref p), some (.ref a), some (.ref c), some (.ref B), some (.ref U), some (.ref Kp), some no, some (.ref La), some (.ref Dl), some (.ref Du), v10, v11, v12, v13, v14, v15] ∧ SameX Du H17 H' ∧ H' Du = some (.lst (Ts.map V.ref)) ∧ MvL H' Ts (((prsS xs).take j).flatMap (rowM xs ps (Wd.flip xs ps q))))
        ⟨_, _, _, _, [], rfl, SameX.refl _ _, hDu17, mvL_nil⟩ (fun j σ H' _ ⟨_, _, _, _, _, _, z, _⟩ => SqL.of (sx17 z _ _ (s16 _ _ hB15))) ?_ ?_
      · rintro j v σ H18 hv ⟨v10, v11, v12, v13, Ts, rfl, sx18, hDu18, ml⟩
        rw [List.getElem?_map] at hv
        obtain ⟨O, hO, rfl⟩ := Option.map_eq_some_iff.mp hv
        obtain ⟨o, ho, mo, eO15⟩ := atU15 j O hO
        have s1618 := sx17 sx18
        have s1518 := s16.trans s1618
        have eO := s1518 _ _ eO15
        have W18 := W15.same s1518
        obtain ⟨wc2, wl2, ha2, hwc2, Ps2, hwl2, tp2⟩ := id W18
        refine ⟨_, rfl, a, _, _, .ref wc2, rfl, rfl, SqL.of ha2, rfl, wc2, rfl, ⟨_, SqL.of hwc2⟩, fun R hR => ?_⟩
        have fo9 : (xs.filter (outF o)).length ≤ 9 := Nat.le_trans (List.length_filter_le _ _) l9.2
        refine lc_list (xs := xs.map V.str) (fun i H' => Same H18 H' ∧ H' R = some (.lst (((xs.take i).filter (outF o)).map V.str))) ⟨same_new hR, upd_same⟩ (fun i H' _ z => SqL.of (z.1 _ _ hwc2)) ?_ ?_
        · rintro i2 v H19 hv ⟨s19, hr19⟩
          rw [List.getElem?_map] at hv
          obtain ⟨x, hx, rfl⟩ := Option.map_eq_some_iff.mp hv
          have nx : ((xs.take (i2 + 1)).filter (outF o)) = (xs.take i2).filter (outF o) ++ if outF o x = true then [x] else [] := filter_next hx
          refine ⟨rfl, _, rfl, _, rfl, O, _, rfl, .inr (SqT.of (s19 _ _ eO)), rfl, rfl, _, rfl, ?_⟩
          refine ite2 (fun hb => ?_) (fun hb => ?_)
          · have hb : (!inV (.str x) [.str o.1, .str o.2]) = true := hb
            rw [nin_pair] at hb
            refine ⟨_, rfl, _, hr19, ?_, same_over s19 hR, ?_⟩
            · have h1 := List.length_filter_le (outF o) (xs.take i2)
              rw [List.length_map, sizeLine_eq]
              rw [List.length_take] at h1
              omega
            · rw [upd_same, nx, if_pos hb, List.map_append]
              rfl
          · have hb : ¬ (!inV (.str x) [.str o.1, .str o.2]) = true := hb
            rw [nin_pair] at hb
            refine ⟨s19, ?_⟩
            rw [nx, if_neg hb, List.append_nil]
            exact hr19
        rintro H19 ⟨s19, hr19⟩
        rw [lxs, List.take_length] at hr19
        have sx19 : SameX Du H17 H19 := sx18.trans (SameX.of s19)
        have hDu19 := s19 _ _ hDu18
        have ml19 := ml.same s19
        have s1519 := s1518.trans s19
        have wD19 : WAt H19 Dl xs (Wd.flip xs ps q) := (wDl.same s1618).same s19
        have W19 := W15.same s1519
        have nRDu : R ≠ Du := fun z => by
          rw [z, hDu18] at hR
          cases hR
        have accl : ((prsS xs).take j).length ≤ 36 := by
          rw [List.length_take]
          omega
        refine ⟨R, rfl, ⟨_, SqL.of hr19⟩, ?_⟩
        refine for_list (xs := (xs.filter (outF o)).map V.str) (fun j2 σ H' => ∃ v11 v12 v13 : Option V, ∃ Ts : List Addr, σ = [some (.ref p), some (.ref a), some (.ref c), some (.ref B), some (.ref U), some (.ref Kp), some no, some (.ref La), some (.ref Dl), some (.ref Du), some (.ref O), v11, v12, v13, v14, v15] ∧ SameX Du H19 H' ∧ H' Du = some (.lst (Ts.map V.ref)) ∧ Ts.length ≤ 14 + j2 ∧ MvL H' Ts (((prsS xs).take j).flatMap (rowM xs ps (Wd.flip xs ps q)) ++ (((xs.filter (outF o)).take j2).filter fun r => decide (((kf ps o r : Nat) : Int) ≠ ((kf (Wd.flip xs ps q) o r : Nat) : Int))).map fun r => (o, r, ((kf ps o r : Nat) : Int), ((kf (Wd.flip xs ps q) o r : Nat) : Int))))
          ⟨_, _, _, Ts, rfl, SameX.refl _ _, hDu19, ?_, by rw [show (List.take 0 (xs.filter (outF o))) = [] from rfl, List.filter_nil, List.map_nil, List.append_nil]; exact ml19⟩ (fun j2 σ H' _ ⟨_, _, _, _, _, z, _⟩ => SqL.of (z _ _ nRDu hr19)) ?_ ?_
        · have h1 := mvs_few g hq
          have h2 : (((prsS xs).take j).flatMap (rowM xs ps (Wd.flip xs ps q))).Sublist (mvs xs ps q) := by
            show (((prsS xs).take j).flatMap (rowM xs ps (Wd.flip xs ps q))).Sublist ((prsS xs).flatMap (rowM xs ps (Wd.flip xs ps q)))
            conv => rhs; rw [← List.take_append_drop j (prsS xs), List.flatMap_append]
            exact List.sublist_append_left _ _
          have h3 := h2.length_le
          have h4 := ml.1
          omega
        · rintro j2 v σ H20 hv ⟨v11, v12, v13, Ts, rfl, sx20, hDu20, lT, ml⟩
          rw [List.getElem?_map] at hv
          obtain ⟨r, hr', rfl⟩ := Option.map_eq_some_iff.mp hv
          have mr' := List.mem_filter.mp (List.mem_of_getElem? hr')
          have j9 := (List.getElem?_eq_some_iff.mp hr').1
          have s1920 : ∀ {A : Addr} {u : HO}, H16 A = some u → H20 A = some u := fun e => sx20 _ _ (ne_of_none e hDu) (s19 _ _ (s1618 _ _ e))
          have s1620 : Same H16 H20 := fun A u e => s1920 e
          have s1520 := s16.trans s1620
          refine ⟨_, rfl, _, rfl, _, rfl, a, O, o, r, xs, ps, rfl, W15.same s1520, g, s1520 _ _ eO15, mo, mr'.1, mr'.2, fun H21 s21 => ?_⟩
          refine ⟨_, rfl, _, rfl, _, rfl, Dl, O, o, r, xs, Wd.flip xs ps q, rfl, (wDl.same s1620).same s21, gf, (s1520.trans s21) _ _ eO15, mo, mr'.1, mr'.2, fun H22 s22 => ⟨_, _, rfl, ?_⟩⟩
          have s2022 := s21.trans s22
          have nx := filter_next (f := fun r => decide (((kf ps o r : Nat) : Int) ≠ ((kf (Wd.flip xs ps q) o r : Nat) : Int))) hr'
          refine ⟨_, rfl, _, rfl, rfl, _, rfl, ?_⟩
          have hDu22 : H22 Du = some (.lst (Ts.map V.ref)) := s2022 _ _ hDu20
          refine ite2 (fun hb => ?_) (fun hb => ?_)
          · have hb : ((kf ps o r : Nat) : Int) ≠ ((kf (Wd.flip xs ps q) o r : Nat) : Int) := fun e => by
              have hb : (!decide (V.int ((kf ps o r : Nat) : Int) = V.int ((kf (Wd.flip xs ps q) o r : Nat) : Int))) = true := hb
              rw [e] at hb
              simp at hb
            refine ⟨_, rfl, .inl ⟨rfl, _, SqL.of hDu22⟩, ?_⟩
            refine ⟨_, rfl, _, rfl, _, rfl, _, rfl, by show 4 ≤ sizeLine; decide, fun M hM => ?_⟩
            have e23 : Same H22 (upd H22 M (.tup [.ref O, .str r, .int ((kf ps o r : Nat) : Int), .int ((kf (Wd.flip xs ps q) o r : Nat) : Int)])) := same_new hM
            have hMm : MvAt (upd H22 M (.tup [.ref O, .str r, .int ((kf ps o r : Nat) : Int), .int ((kf (Wd.flip xs ps q) o r : Nat) : Int)])) M (o, r, ((kf ps o r : Nat) : Int), ((kf (Wd.flip xs ps q) o r : Nat) : Int)) := ⟨O, upd_same, e23 _ _ ((s1520.trans s2022) _ _ eO15)⟩
            generalize upd H22 M (.tup [.ref O, .str r, .int ((kf ps o r : Nat) : Int), .int ((kf (Wd.flip xs ps q) o r : Nat) : Int)]) = H23 at e23 hMm ⊢
            refine ⟨Du, _, _, rfl, rfl, e23 _ _ hDu22, by rw [List.length_map, sizeLine_eq]; omega, ?_⟩
            refine ⟨_, _, _, Ts ++ [M], rfl, fun b o nb e => ?_, by rw [upd_same, List.map_append]; rfl, by rw [List.length_append]; show _ + 1 ≤ _; omega, ?_⟩
            · rw [upd_ne nb]
              exact (s2022.trans e23) _ _ (sx20 _ _ nb e)
            · rw [nx, if_pos (decide_eq_true hb), List.map_append, ← List.append_assoc]
              exact mvL_snoc (ml.same (s2022.trans e23)) (e23 _ _ hDu22) hMm
          · have hb : ((kf ps o r : Nat) : Int) = ((kf (Wd.flip xs ps q) o r : Nat) : Int) := Classical.byContradiction fun e => hb (by
              show (!decide (V.int ((kf ps o r : Nat) : Int) = V.int ((kf (Wd.flip xs ps q) o r : Nat) : Int))) = true
              rw [decide_eq_false fun z => e (V.int.inj z)]
              rfl)
            refine ⟨_, _, _, Ts, rfl, fun b o nb e => s2022 _ _ (sx20 _ _ nb e), hDu22, by omega, ?_⟩
            rw [nx, if_neg (by rw [decide_eq_false fun z => z hb]; exact fun z => nomatch z), List.append_nil]
            exact ml.same s2022
        · rintro σ H20 ⟨v11, v12, v13, Ts, rfl, sx20, hDu20, lT, ml⟩
          rw [List.length_map, List.take_length] at ml
          refine ⟨_, _, _, _, Ts, rfl, sx19.trans sx20, hDu20, ?_⟩
          rw [take_next ho, List.flatMap_append]
          have e : [o].flatMap (rowM xs ps (Wd.flip xs ps q)) = rowM xs ps (Wd.flip xs ps q) o := by simp
          rw [e]
          exact ml
      rintro σ H18 ⟨v10, v11, v12, v13, Ts, rfl, sx18, hDu18, ml⟩
      rw [List.length_map, lU, List.take_length] at ml
      have ml : MvL H18 Ts (mvs xs ps q) := ml
      have s1618 := sx17 sx18
      have s1518 := s16.trans s1618
      have fewM := mvs_few g hq
      have ascM : ((mvs xs ps q).map mvk).Pairwise LtT := due_asc g.asc
      clear lst17 sx17 sx18 tp' hwl' hwc' ha' wD17 W17 s1517 e17 hDu17
      have wD18 := wDl.same s1618
      have W18 := W15.same s1518
      have hc18 := hc15.same s1518
      have eU18 := s1518 _ _ eU
      have hB18 := s1518 _ _ hB15
      have pa18 := pa15.same s1518
      clear wDl s16 s1618
      -- told
      refine ⟨_, rfl, _, rfl, c, U, q, xs, ps, rfl, hc18, g, eU18, hq, fun H19 To s19 nTo hTo => ?_⟩
      have toDu : To ≠ Du := fun z => by
        rw [z, hDu18] at nTo
        cases nTo
      refine ⟨_, rfl, _, rfl, ?_⟩
      dsimp only [tNil]
      refine sorted_mvs (s19 _ _ hDu18) (ml.same s19) (List.Perm.refl _) ascM fun L oL hL hmL => ?_
      have e20 : Same H19 (upd H19 L oL) := same_new hL
      generalize upd H19 L oL = H20 at e20 hmL ⊢
      have few100 : (mvs xs ps q).length ≤ 100 := by omega
      have isM : ∀ {A : Addr → Prop} {H' : Hp} {D : Addr}, MvsAt H' D (mvs xs ps q) → A D → Is A H' 3 (dMs (mvs xs ps q)) (.ref D) := fun h hA => is_mvs 0 h hA few100
      refine ⟨_, _, rfl, ((isM (A := fun _ => True) (hTo.same e20) True.intro).sm (isM (A := fun _ => True) hmL True.intro)).up.up, fun H21 s21 => ?_⟩
      refine ⟨_, rfl, iteF ?_⟩
      have s1821 := (s19.trans e20).trans s21
      have W21 := W18.same s1821
      obtain ⟨wc3, wl3, ha3, hwc3, Ps3, hwl3, tp3⟩ := id W21
      have hDu21 := s1821 _ _ hDu18
      refine ⟨_, rfl, Du, _, rfl, .inl (SqL.of hDu21), _, rfl, a, _, _, .ref wc3, rfl, rfl, SqL.of ha3, rfl, wc3, _, rfl, .inl (SqL.of hwc3), ?_⟩
      have lTs : (Ts.map V.ref).length = (mvs xs ps q).length := by rw [List.length_map, ml.1]
      have dl := due_len g hq
      refine ⟨_, _, rfl, rfl, _, _, rfl, rfl, .inl ⟨by decide, by decide⟩, ?_⟩
      refine ⟨rfl, _, rfl, ite_f ?_ ?_⟩
      · show (!decide (V.int ((Ts.map V.ref).length : Nat) = V.int (2 * (((xs.map V.str).length : Nat) - 2 : Int)))) = false
        rw [decide_eq_true]
        · rfl
        · refine congrArg V.int ?_
          rw [lTs, lxs]
          exact dl
      obtain ⟨Ms, hTo19, mlTo⟩ := id hTo
      have hTo21 := (e20.trans s21) _ _ hTo19
      refine ⟨_, rfl, .inl ⟨rfl, _, SqL.of hTo21⟩, To, _, _, rfl, rfl, hTo21, ?_, ?_⟩
      · rw [List.length_map, mlTo.1, sizeLine_eq]
        omega
      have s1822 : Same H18 (upd H21 To (.lst (Ms.map V.ref ++ [.non]))) := same_over s1821 nTo
      generalize upd H21 To (.lst (Ms.map V.ref ++ [.non])) = H22 at s1822 ⊢
      clear hTo21 hTo19 mlTo hDu21 hwl3 tp3 hwc3 ha3 W21 s21 hmL e20 hL hTo s19 s1821 nTo toDu
      -- told once more
      refine ⟨_, rfl, _, rfl, c, U, q, xs, ps, rfl, hc18.same s1822, g, s1822 _ _ eU18, hq, fun H23 To2 s23 nTo2 hTo2 => ?_⟩
      have s1823 := s1822.trans s23
      refine ⟨_, rfl, ?_⟩
      dsimp only [tNil]
      refine sorted_mvs (s1823 _ _ hDu18) (ml.same s1823) (List.Perm.refl _) ascM fun L2 oL2 hL2 hmL2 => ?_
      have e24 : Same H23 (upd H23 L2 oL2) := same_new hL2
      generalize upd H23 L2 oL2 = H24 at e24 hmL2 ⊢
      refine ⟨_, _, rfl, ((isM (A := fun _ => True) (hTo2.same e24) True.intro).sm (isM (A := fun _ => True) hmL2 True.intro)).up.up, fun H25 s25 => ⟨_, rfl, iteF ?_⟩⟩
      have s1825 := (s1823.trans e24).trans s25
      have hDu25 := s1825 _ _ hDu18
      have ml25 := ml.same s1825
      clear hmL2 e24 hL2 hTo2 nTo2 s23 s1822 s1823
      -- back
      refine ⟨_, rfl, Du, rfl, ⟨_, SqL.of hDu25⟩, fun R hR => ?_⟩
      refine lc_list (xs := Ts.map V.ref) (fun i H' => Same H25 H' ∧ ∃ Bs : List Addr, H' R = some (.lst (Bs.map V.ref)) ∧ MvL H' Bs (((mvs xs ps q).take i).map sw)) ⟨same_new hR, [], upd_same, mvL_nil⟩ (fun i H' _ z => SqL.of (z.1 _ _ hDu25)) ?_ ?_
      · rintro i2 v H26 hv ⟨s26, Bs, hr26, mb⟩
        rw [List.getElem?_map] at hv
        obtain ⟨M, hM, rfl⟩ := Option.map_eq_some_iff.mp hv
        have il := (List.getElem?_eq_some_iff.mp hM).1
        obtain ⟨m, hm⟩ : ∃ m, (mvs xs ps q)[i2]? = some m := ⟨_, List.getElem?_eq_getElem (by have := ml25.1; omega)⟩
        obtain ⟨Ua, hMa, hUa⟩ := (ml25.2 i2 M m hM hm).same s26
        refine ⟨M, _, rfl, SqT.of hMa, rfl, _, _, rfl, _, _, rfl, _, _, rfl, _, _, rfl, rfl, rfl, ?_⟩
        refine ⟨_, rfl, _, rfl, _, rfl, _, rfl, by show 4 ≤ sizeLine; decide, fun Mb hMb => ?_⟩
        have e27 : Same H26 (upd H26 Mb (.tup [.ref Ua, .str m.2.1, .int m.2.2.2, .int m.2.2.1])) := same_new hMb
        have hmb : MvAt (upd H26 Mb (.tup [.ref Ua, .str m.2.1, .int m.2.2.2, .int m.2.2.1])) Mb (sw m) := ⟨Ua, upd_same, e27 _ _ hUa⟩
        generalize upd H26 Mb (.tup [.ref Ua, .str m.2.1, .int m.2.2.2, .int m.2.2.1]) = H27 at e27 hmb ⊢
        refine ⟨_, e27 _ _ hr26, ?_, same_over (s26.trans e27) hR, Bs ++ [Mb], by rw [upd_same, List.map_append]; rfl, ?_⟩
        · rw [List.length_map, mb.1, List.length_map, List.length_take, sizeLine_eq]
          omega
        · rw [take_next hm, List.map_append]
          exact mvL_snoc (mb.same e27) (e27 _ _ hr26) hmb
      rintro H26 ⟨s26, Bs, hr26, mb⟩
      rw [List.length_map, ml25.1, List.take_length] at mb
      have ascB : (((mvs xs ps q).map sw).map mvk).Pairwise LtT := by
        rw [List.map_map]
        exact ascM
      have eB : due xs (Wd.flip xs ps q) (Wd.flip xs (Wd.flip xs ps q) q) = (mvs xs ps q).map sw := by
        rw [flip_flip g hq]
        exact due_sw xs ps (Wd.flip xs ps q)
      dsimp only [tNil]
      refine sorted_mvs hr26 mb (List.Perm.refl _) ascB fun Ba oB hBa hmB => ?_
      have e27 : Same H26 (upd H26 Ba oB) := same_new hBa
      generalize upd H26 Ba oB = H27 at e27 hmB ⊢
      have s1827 := (s1825.trans s26).trans e27
      -- the changed company
      refine ⟨_, rfl, Dl, xs, Wd.flip xs ps q, rfl, wD18.same s1827, gf, fun H28 c2 s28 nc2 hc2 => ?_⟩
      refine ⟨_, rfl, c2, U, q, xs, Wd.flip xs ps q, rfl, hc2, gf, (s1827.trans s28) _ _ eU18, hq, fun H29 L3 s29 nL3 hL3 => ?_⟩
      have s1829 := (s1827.trans s28).trans s29
      refine ⟨_, rfl, Dl, xs, Wd.flip xs ps q, rfl, wD18.same s1829, gf, fun H30 c3 s30 nc3 hc3 => ?_⟩
      refine ⟨_, rfl, c3, U, q, xs, Wd.flip xs ps q, rfl, hc3, gf, (s1829.trans s30) _ _ eU18, hq, fun H31 N1 s31 nN1 hN1 => ⟨by show 2 ≤ sizeLine; decide, fun LA hLA => ?_⟩⟩
      have e32 : Same H31 (upd H31 LA (.lst [.ref L3, .ref N1])) := same_new hLA
      have eLA : upd H31 LA (.lst [.ref L3, .ref N1]) LA = some (.lst [.ref L3, .ref N1]) := upd_same
      generalize upd H31 LA (.lst [.ref L3, .ref N1]) = H32 at e32 eLA ⊢
      have s2932 := (s30.trans s31).trans e32
      have s1832 := s1829.trans s2932
      refine ⟨_, rfl, _, rfl, _, rfl, a, U, q, xs, ps, rfl, W18.same s1832, g, s1832 _ _ eU18, fun H33 N2 s33 nN2 hN2 => ⟨by show 2 ≤ sizeLine; decide, fun LB hLB => ?_⟩⟩
      have e34 : Same H33 (upd H33 LB (.lst [.ref Ba, .ref N2])) := same_new hLB
      have eLB : upd H33 LB (.lst [.ref Ba, .ref N2]) LB = some (.lst [.ref Ba, .ref N2]) := upd_same
      generalize upd H33 LB (.lst [.ref Ba, .ref N2]) = H34 at e34 eLB ⊢
      have s3234 := s33.trans e34
      have isB : ∀ {D : Addr}, MvsAt H34 D ((mvs xs ps q).map sw) → Is (fun _ => True) H34 3 (dMs ((mvs xs ps q).map sw)) (.ref D) := fun h => is_mvs 0 h True.intro (by rw [List.length_map]; exact few100)
      have isNn : ∀ {D : Addr}, H34 D = some (.lst (numL xs ps q)) → Is (fun _ => True) H34 1 (dI [nmk xs ps q 0, nmk xs ps q 1, nmk xs ps q 2]) (.ref D) := fun h => is_ints 0 h True.intro (by show 3 ≤ 100; decide)
      rw [numL_flip g hq] at hN1
      have hL3' : MvsAt H29 L3 (due xs (Wd.flip xs ps q) (Wd.flip xs (Wd.flip xs ps q) q)) := hL3
      rw [eB] at hL3'
      have i1 : Sm H34 3 (.ref L3) (.ref Ba) := (isB (hL3'.same (s2932.trans s3234))).sm (isB (hmB.same ((s28.trans s29).trans (s2932.trans s3234))))
      have i2 : Sm H34 1 (.ref N1) (.ref N2) := (isNn ((e32.trans s3234) _ _ hN1)).sm (isNn (e34 _ _ hN2))
      refine ⟨_, _, rfl, sm_two (n := 4) (s3234 _ _ eLA) eLB i1.up i2.up.up.up, fun H35 s35 => ⟨_, rfl, iteF ?_⟩⟩
      have s1835 := (s1832.trans s3234).trans s35
      clear i1 i2 isB isNn hL3' hL3 hN1 hN2 eLA eLB e34 hLB nN2 s33 s3234 s2932 e32 hLA nN1 s31 nc3 hc3 s30 s1829 s1832 s29 nL3 s28 nc2 hc2 hmB e27 hBa s1827 mb hr26 s26 hR ml25 hDu25 s1825
      -- at the third people
      have hc35 := hc18.same s1835
      have hDu35 := s1835 _ _ hDu18
      have ml35 := ml.same s1835
      have pa35 := pa18.same s1835
      have nDup : Du ≠ p := purse_none pa15 nDu
      refine ⟨_, rfl, _, rfl, p, Du, Ts.map V.ref, c0, 14 * (8 - (i + 1)), rfl, pa35.less (by rw [lTs]; omega), hDu35, nDup, by rw [lTs]; omega, fun H36 Sl ys pm sx36 nSl hSl nSlp pa36 => ?_⟩
      obtain ⟨Vs2, rfl, pVs2⟩ := perm_refs pm
      obtain ⟨Ws, ew, lw, mw⟩ := cut_refs Vs2 none (some 4)
      refine ⟨4, rfl, Sl, _, rfl, SqL.of hSl, fun Z hZ => ⟨Z, rfl, ⟨_, SqL.of upd_same⟩, ?_⟩⟩
      rw [ew]
      have hc36 := hc35.sameX pa35 sx36
      have s37 := same_new (o := .lst (Ws.map V.ref)) hZ
      have hZ37 : upd H36 Z (.lst (Ws.map V.ref)) Z = some (.lst (Ws.map V.ref)) := upd_same
      generalize upd H36 Z (.lst (Ws.map V.ref)) = H37 at s37 hZ37 ⊢
      have hc37 := hc36.same s37
      have tupY : ∀ {U : Addr} {vs : List V}, H35 U = some (.tup vs) → H37 U = some (.tup vs) := fun e => s37 _ _ (sx36 _ _ (purse_ne pa35 e fun _ _ _ _ z => nomatch z) e)
      have sx1437 : SameX p H14 H37 := ((sx15.trans (SameX.of (s1518.trans s1835))).trans sx36).trans (SameX.of s37)
      refine for_list (xs := Ws.map V.ref) (fun j σ H' => ∃ v10 v11 v12 v13 : Option V, σ = [some (.ref p), some (.ref a), some (.ref c), some (.ref B), some (.ref U), some (.ref Kp), some no, some (.ref La), some (.ref Dl), some (.ref Du), v10, v11, v12, v13, some (.ref To), some (.ref Ba)] ∧ Same H37 H')
        ⟨_, _, _, _, rfl, Same.refl _⟩ (fun j σ H' _ ⟨_, _, _, _, _, z⟩ => SqL.of (z _ _ hZ37)) ?_ ?_
      · rintro j v σ H38 hv ⟨v10, v11, v12, v13, rfl, s38⟩
        rw [List.getElem?_map] at hv
        obtain ⟨M, hM, rfl⟩ := Option.map_eq_some_iff.mp hv
        have mM : M ∈ Ts := pVs2.mem_iff.mp (mw M (List.mem_of_getElem? hM))
        obtain ⟨im, him, eim⟩ := List.getElem_of_mem mM
        obtain ⟨m, hm⟩ : ∃ m, (mvs xs ps q)[im]? = some m := ⟨_, List.getElem?_eq_getElem (by have := ml35.1; omega)⟩
        obtain ⟨O, hMt, hOt⟩ := ml35.2 im M m (by rw [List.getElem?_eq_getElem him, eim]) hm
        have hMt := s38 _ _ (tupY hMt)
        have hOt := s38 _ _ (tupY hOt)
        obtain ⟨o, ho, hmo⟩ := mem_due.mp (List.mem_of_getElem? hm)
        obtain ⟨r, hr', out, ne, rfl⟩ := mem_rowM.mp hmo
        have kf3 : ∀ (ps : List Pr), (((kf ps o r : Nat) : Int) = 0 ∨ ((kf ps o r : Nat) : Int) = 1 ∨ ((kf ps o r : Nat) : Int) = 2) := fun ps => by
          rcases kf_le ps o r with h | h | h <;> rw [h] <;> decide
        refine ⟨M, _, rfl, SqT.of hMt, rfl, _, _, rfl, _, _, rfl, _, _, rfl, _, _, rfl, rfl, ?_⟩
        refine ⟨_, rfl, _, rfl, _, rfl, _, rfl, c, O, _, o, xs, ps, rfl, hc37.same s38, g, hOt, ho, kf3 ps, fun H39 L4 s39 nL4 hL4 => ?_⟩
        refine ⟨L4, _, rfl, .inl (SqL.of hL4), rfl, flat_strs' _, _, rfl, ?_⟩
        rw [in_strs]
        have min : r ∈ thL xs ps o ((kf ps o r : Nat) : Int) := List.mem_filter.mpr ⟨hr', by rw [out, decide_eq_true rfl]; rfl⟩
        refine ite_f (show (!decide (r ∈ thL xs ps o ((kf ps o r : Nat) : Int))) = false by rw [decide_eq_true min]; rfl) ?_
        refine ⟨_, rfl, _, rfl, _, rfl, _, rfl, c, O, _, o, xs, ps, rfl, (hc37.same s38).same s39, g, s39 _ _ hOt, ho, kf3 (Wd.flip xs ps q), fun H40 L5 s40 nL5 hL5 => ?_⟩
        refine ⟨L5, _, rfl, .inl (SqL.of hL5), rfl, flat_strs' _, _, rfl, ?_⟩
        rw [in_strs]
        refine ite_f (decide_eq_false fun z => ?_) ?_
        · have z := (List.mem_filter.mp z).2
          rw [Bool.and_eq_true] at z
          exact ne (of_decide_eq_true z.2)
        exact ⟨_, _, _, _, rfl, (s38.trans s39).trans s40⟩
      · rintro σ H38 ⟨v10, v11, v12, v13, rfl, s38⟩
        exact ⟨_, _, _, _, _, _, _, _, _, rfl, sx1437.trans (SameX.of s38), (pa36.same s37).same s38⟩
    · rintro σ H15 ⟨v4, v8, v9, v10, v11, v12, v13, v14, v15, rfl, sx15, pa15⟩
      have W15 := W14.sameX pa14 sx15
      have hc15 := hc14.sameX pa14 sx15
      exact ⟨_, rfl, _, rfl, a, c, xs, ps, rfl, W15, hc15, g, fun H30 s30 => k H30 ((sx014.trans sx15).trans (SameX.of s30))⟩
end
end Wd
end
section
set_option maxRecDepth 100000
set_option maxHeartbeats 4000000
namespace Wd
open PySem L2
def spLaw (K : PySem.W.Frag) : Sp := fun vs H Q _ => ∃ (a : Addr) (ns : List Int), vs = [.ref a] ∧ SqL K H a (ns.map V.int) ∧ ns.length ≤ 63 ∧ ∀ H', Q (.bl true) H'
section
variable {P : Program} {w : World} {K : PySem.W.Frag} {mg : Str → Option Value} {base : Heap}
theorem ok_same {f : Addr} {fd : FuncData} (F : Fun K "_law_same" "_law_same" s_same f fd) (T : Bt mg) (mE : mg "_law_same" = some (.ref f)) (bE : Binds K fd ["_law_thing"] []) : ∀ n, FnOk P w K mg base CX0 (n + 1) f fd ["_law_thing"] (spSame n)
  | 0 => ok_same0 F T
  | n + 1 => ok_sameS F T mE bE (ok_same F T mE bE n)
theorem ok_law {f : Addr} {fd : FuncData} (F : Fun K "law" "law" s_law f fd) (T : Bt mg) (C1 : Has P w K mg base 2 "_law_purses" ["_law_script", "_law_few"] (spPurses K)) (C2 : Has P w K mg base 9 "_law_moves_right" ["_law_purse_here", "_law_world_here"] spMR)
    (C3 : Has P w K mg base 6 "_law_world" ["_law_purse_here", "_law_many"] spWorld) (C4 : Has P w K mg base 3 "_law_sized" ["_law_purse_here"] spSized) : FnOk P w K mg base CX0 10 f fd ["_law_script"] (spLaw K) := by
  obtain ⟨f1, d1, G1, m1, k1, b1⟩ := C1
  obtain ⟨f2, d2, G2, m2, k2, b2⟩ := C2
  obtain ⟨f3, d3, G3, m3, k3, b3⟩ := C3
  obtain ⟨f4, d4, G4, m4, k4, b4⟩ := C4
  refine F.ok c_law (fun vs H Q E h => ?_) (fun cdv A outer s H vs Q E hr h => ?_)
  · obtain ⟨_, _, rfl, _⟩ := h
    rfl
  · obtain ⟨a, ns, rfl, hS, l63, k⟩ := h
    have hr2 : Room 2 _ := hr.mono (by decide)
    have hr3 : Room 3 _ := hr.mono (by decide)
    have hr6 : Room 6 _ := hr.mono (by decide)
    refine ⟨_, pss_cons (ps_for PassesOwn.never rfl (pi_list (pe_call G1 hr2 rfl m1 k1 b1 .nil pass0 (pa_cons (pv 0) (pa_cons pe_int pa_nil)))) (pg_name (i := 1) c_law.nd rfl (Or.inl rfl))
        (pss_one (ps_if (pt_not (pt_val (pe_call G2 hr rfl m2 k2 b2 .nil pass0 (pa_cons (pv 1) (pa_cons (pe_call G3 hr6 rfl m3 k3 b3 .nil pass0 (pa_cons (pv 1) (pa_cons (pe_call G4 hr3 rfl m4 k4 b4 .nil pass0 (pa_cons (pv 1) pa_nil)) pa_nil))) pa_nil))))) (pss_one ps_never) pss_nil)))
      (pss_one (ps_ret pe_bl)), ?_⟩
    refine ⟨_, rfl, a, ns, 2, rfl, hS, by decide, fun H1 D ps s1 nD hD nd hp => ?_⟩
    refine ⟨D, rfl, ⟨_, SqL.of hD⟩, ?_⟩
    refine for_list (xs := ps.map V.ref) (fun i σ H' => ∃ v1 : Option V, σ = [some (.ref a), v1] ∧ H' D = some (.lst (ps.map V.ref)) ∧ ∀ (j : Nat) q, i ≤ j → ps[j]? = some q → ∃ c, PurseAt H' q c 1000000)
      ⟨none, rfl, hD, fun j q _ hq => (hp q (List.mem_of_getElem? hq)).2⟩ (fun i σ H' _ ⟨_, _, z, _⟩ => SqL.of z) ?_ ?_
    · rintro i v σ H2 hv ⟨v1, rfl, hd, hp2⟩
      rw [List.getElem?_map] at hv
      obtain ⟨q, hq, rfl⟩ := Option.map_eq_some_iff.mp hv
      obtain ⟨c0, pa⟩ := hp2 i q (Nat.le_refl _) hq
      have refs : ∀ x ∈ ps.map V.ref, ∀ i : Int, x ≠ .int i := fun x hx i z => by
        obtain ⟨y, _, e⟩ := List.mem_map.mp hx
        rw [z] at e
        cases e
      refine ⟨_, rfl, _, rfl, _, rfl, q, c0, 999998, rfl, pa.less (by omega), fun H3 m m0 m1 sx3 pa3 => ?_⟩
      refine ⟨q, m, c0, 999000, rfl, pa3.less (by omega), m0, m1, fun H4 W xs qs lx g sx4 nW hW nWq pa4 => ?_⟩
      refine ⟨q, W, c0, xs, qs, rfl, pa4.less (by omega), hW, g, fun H5 sx5 => ?_⟩
      refine ⟨_, rfl, iteF ?_⟩
      have sx := (sx3.trans sx4).trans sx5
      refine ⟨_, rfl, sameX_lst pa sx hd refs, fun j q' hj hq' => ?_⟩
      obtain ⟨c', b, t, z, e, r⟩ := hp2 j q' (by omega) hq'
      have ne : q' ≠ q := fun z => by
        have := nd_inj nd hq (by rw [hq', z])
        omega
      exact ⟨c', b, t, z, sx q' _ ne e, r⟩
    · rintro σ H2 ⟨v1, rfl, hd, hp2⟩
      exact k H2
end
end Wd
end
section
set_option maxRecDepth 100000
set_option maxHeartbeats 0
namespace Wd
open PySem PySem.Spec PyProof.Rows L2
def d0 : He.DefD := ⟨("is_word", none), "is_word", "is_word", defArgs sp_is_word, defBody sp_is_word, defScope sp_is_word, [], []⟩
def d1 : He.DefD := ⟨("is_count", none), "is_count", "is_count", defArgs sp_is_count, defBody sp_is_count, defScope sp_is_count, [], []⟩
def d2 : He.DefD := ⟨("are_unlike", none), "are_unlike", "are_unlike", defArgs sp_are_unlike, defBody sp_are_unlike, defScope sp_are_unlike, [], []⟩
def d3 : He.DefD := ⟨("is_person", none), "is_person", "is_person", defArgs sp_is_person, defBody sp_is_person, defScope sp_is_person, [], []⟩
def d4 : He.DefD := ⟨("Company", some "__init__"), "__init__", "Company.__init__", defArgs cI, defBody cI, defScope cI, [], []⟩
def d5 : He.DefD := ⟨("Company", some "people"), "people", "Company.people", defArgs cP, defBody cP, defScope cP, [], []⟩
def d6 : He.DefD := ⟨("Company", some "friends"), "friends", "Company.friends", defArgs cFr, defBody cFr, defScope cFr, [], []⟩
def d7 : He.DefD := ⟨("Company", some "__eq__"), "__eq__", "Company.__eq__", defArgs cE, defBody cE, defScope cE, [], []⟩
def d8 : He.DefD := ⟨("are_people", none), "are_people", "are_people", defArgs sp_are_people, defBody sp_are_people, defScope sp_are_people, [], []⟩
def d9 : He.DefD := ⟨("is_pair_of", none), "is_pair_of", "is_pair_of", defArgs sp_is_pair_of, defBody sp_is_pair_of, defScope sp_is_pair_of, [], []⟩
def d10 : He.DefD := ⟨("are_pairs_of", none), "are_pairs_of", "are_pairs_of", defArgs sp_are_pairs_of, defBody sp_are_pairs_of, defScope sp_are_pairs_of, [], []⟩
def d11 : He.DefD := ⟨("check_company", none), "check_company", "check_company", defArgs sp_check_company, defBody sp_check_company, defScope sp_check_company, [], []⟩
def d12 : He.DefD := ⟨("check_person_of", none), "check_person_of", "check_person_of", defArgs sp_check_person_of, defBody sp_check_person_of, defScope sp_check_person_of, [], []⟩
def d13 : He.DefD := ⟨("check_pair_of", none), "check_pair_of", "check_pair_of", defArgs sp_check_pair_of, defBody sp_check_pair_of, defScope sp_check_pair_of, [], []⟩
def d14 : He.DefD := ⟨("pair_of", none), "pair_of", "pair_of", defArgs sp_pair_of, defBody sp_pair_of, defScope sp_pair_of, [], []⟩
def d15 : He.DefD := ⟨("all_pairs", none), "all_pairs", "all_pairs", defArgs sp_all_pairs, defBody sp_all_pairs, defScope sp_all_pairs, [], []⟩
def d16 : He.DefD := ⟨("circles", none), "circles", "circles", defArgs sp_circles, defBody sp_circles, defScope sp_circles, [], []⟩
def d17 : He.DefD := ⟨("strangers", none), "strangers", "strangers", defArgs sp_strangers, defBody sp_strangers, defScope sp_strangers, [], []⟩
def d18 : He.DefD := ⟨("friends_of", none), "friends_of", "friends_of", defArgs sp_friends_of, defBody sp_friends_of, defScope sp_friends_of, [], []⟩
def d19 : He.DefD := ⟨("are_friends", none), "are_friends", "are_friends", defArgs sp_are_friends, defBody sp_are_friends, defScope sp_are_friends, [], []⟩
def d20 : He.DefD := ⟨("friend_numbers", none), "friend_numbers", "friend_numbers", defArgs sp_friend_numbers, defBody sp_friend_numbers, defScope sp_friend_numbers, [], []⟩
def d21 : He.DefD := ⟨("check_among", none), "check_among", "check_among", defArgs sp_check_among, defBody sp_check_among, defScope sp_check_among, [], []⟩
def d22 : He.DefD := ⟨("kind_of", none), "kind_of", "kind_of", defArgs sp_kind_of, defBody sp_kind_of, defScope sp_kind_of, [], []⟩
def d23 : He.DefD := ⟨("numbers_of", none), "numbers_of", "numbers_of", defArgs sp_numbers_of, defBody sp_numbers_of, defScope sp_numbers_of, [], []⟩
def d24 : He.DefD := ⟨("third_people", none), "third_people", "third_people", defArgs sp_third_people, defBody sp_third_people, defScope sp_third_people, [], []⟩
def d25 : He.DefD := ⟨("kind_numbers", none), "kind_numbers", "kind_numbers", defArgs sp_kind_numbers, defBody sp_kind_numbers, defScope sp_kind_numbers, [], []⟩
def d26 : He.DefD := ⟨("kinds_moved", none), "kinds_moved", "kinds_moved", defArgs sp_kinds_moved, defBody sp_kinds_moved, defScope sp_kinds_moved, [], []⟩
def d27 : He.DefD := ⟨("_law_purse", none), "_law_purse", "_law_purse", defArgs s_purse, defBody s_purse, defScope s_purse, [], []⟩
def d28 : He.DefD := ⟨("_law_mixed", none), "_law_mixed", "_law_mixed", defArgs s_mixed, defBody s_mixed, defScope s_mixed, [], []⟩
def d29 : He.DefD := ⟨("_law_draw", none), "_law_draw", "_law_draw", defArgs s_draw, defBody s_draw, defScope s_draw, [], []⟩
def d30 : He.DefD := ⟨("_law_purses", none), "_law_purses", "_law_purses", defArgs s_purses, defBody s_purses, defScope s_purses, [], []⟩
def d31 : He.DefD := ⟨("_law_one_of", none), "_law_one_of", "_law_one_of", defArgs s_one_of, defBody s_one_of, defScope s_one_of, [], []⟩
def d32 : He.DefD := ⟨("_law_shuffled", none), "_law_shuffled", "_law_shuffled", defArgs s_shuffled, defBody s_shuffled, defScope s_shuffled, [], []⟩
def d33 : He.DefD := ⟨("_law_same", none), "_law_same", "_law_same", defArgs s_same, defBody s_same, defScope s_same, [], []⟩
def d34 : He.DefD := ⟨("_law_exact", none), "_law_exact", "_law_exact", defArgs s_exact, defBody s_exact, defScope s_exact, [], []⟩
def d35 : He.DefD := ⟨("_law_word", none), "_law_word", "_law_word", defArgs s_word, defBody s_word, defScope s_word, [], []⟩
def d36 : He.DefD := ⟨("_law_words", none), "_law_words", "_law_words", defArgs s_words, defBody s_words, defScope s_words, [], []⟩
def d37 : He.DefD := ⟨("_law_people", none), "_law_people", "_law_people", defArgs s_people, defBody s_people, defScope s_people, [], []⟩
def d38 : He.DefD := ⟨("_law_pair", none), "_law_pair", "_law_pair", defArgs s_pair, defBody s_pair, defScope s_pair, [], []⟩
def d39 : He.DefD := ⟨("_law_pairs", none), "_law_pairs", "_law_pairs", defArgs s_pairs, defBody s_pairs, defScope s_pairs, [], []⟩
def d40 : He.DefD := ⟨("_law_net", none), "_law_net", "_law_net", defArgs s_net, defBody s_net, defScope s_net, [], []⟩
def d41 : He.DefD := ⟨("_law_deed", none), "_law_deed", "_law_deed", defArgs s_deed, defBody s_deed, defScope s_deed, [], []⟩
def d42 : He.DefD := ⟨("_law_kinds", none), "_law_kinds", "_law_kinds", defArgs s_kinds, defBody s_kinds, defScope s_kinds, [], []⟩
def d43 : He.DefD := ⟨("_law_numbers", none), "_law_numbers", "_law_numbers", defArgs s_numbers, defBody s_numbers, defScope s_numbers, [], []⟩
def d44 : He.DefD := ⟨("_law_friends_of", none), "_law_friends_of", "_law_friends_of", defArgs s_friends_of, defBody s_friends_of, defScope s_friends_of, [], []⟩
def d45 : He.DefD := ⟨("_law_opposite", none), "_law_opposite", "_law_opposite", defArgs s_opposite, defBody s_opposite, defScope s_opposite, [], []⟩
def d46 : He.DefD := ⟨("_law_by_density", none), "_law_by_density", "_law_by_density", defArgs s_by_density, defBody s_by_density, defScope s_by_density, [], []⟩
def d47 : He.DefD := ⟨("_law_by_labels", none), "_law_by_labels", "_law_by_labels", defArgs s_by_labels, defBody s_by_labels, defScope s_by_labels, [], []⟩
def d48 : He.DefD := ⟨("_law_shaped", none), "_law_shaped", "_law_shaped", defArgs s_shaped, defBody s_shaped, defScope s_shaped, [], []⟩
def d49 : He.DefD := ⟨("_law_world", none), "_law_world", "_law_world", defArgs s_world, defBody s_world, defScope s_world, [], []⟩
def d50 : He.DefD := ⟨("_law_company", none), "_law_company", "_law_company", defArgs s_company, defBody s_company, defScope s_company, [], []⟩
def d51 : He.DefD := ⟨("_law_sized", none), "_law_sized", "_law_sized", defArgs s_sized, defBody s_sized, defScope s_sized, [], []⟩
def d52 : He.DefD := ⟨("_law_stays", none), "_law_stays", "_law_stays", defArgs s_stays, defBody s_stays, defScope s_stays, [], []⟩
def d53 : He.DefD := ⟨("_law_kind_of", none), "_law_kind_of", "_law_kind_of", defArgs s_kind_of, defBody s_kind_of, defScope s_kind_of, [], []⟩
def d54 : He.DefD := ⟨("_law_moves_right", none), "_law_moves_right", "_law_moves_right", defArgs s_moves_right, defBody s_moves_right, defScope s_moves_right, [], []⟩
def d55 : He.DefD := ⟨("_law_stands", none), "_law_stands", "_law_stands", defArgs s_stands, defBody s_stands, defScope s_stands, [], []⟩
def d56 : He.DefD := ⟨("law", none), "law", "law", defArgs s_law, defBody s_law, defScope s_law, [], []⟩
def fn0 : List He.DefD := [d0, d1, d2, d3, d4, d5, d6, d7, d8, d9, d10, d11, d12, d13, d14, d15, d16, d17, d18, d19]
def fn1 : List He.DefD := [d20, d21, d22, d23, d24, d25, d26, d27, d28, d29, d30, d31, d32, d33, d34, d35, d36, d37, d38, d39]
def fn2 : List He.DefD := [d40, d41, d42, d43, d44, d45, d46, d47, d48, d49, d50, d51, d52, d53, d54, d55, d56]
def fnA : List He.DefD := fn0 ++ fn1 ++ fn2
def fa0 : List He.Fa := [.glo "is_word", .glo "is_count", .glo "are_unlike", .glo "is_person", .glo "are_people", .glo "is_pair_of", .glo "are_pairs_of", .glo "check_company", .glo "check_person_of", .glo "check_pair_of", .glo "pair_of", .glo "all_pairs", .glo "circles", .glo "strangers", .glo "friends_of", .glo "are_friends", .glo "friend_numbers", .glo "check_among", .glo "kind_of", .glo "numbers_of"]
def fa1 : List He.Fa := [.glo "third_people", .glo "kind_numbers", .glo "kinds_moved", .glo "_law_purse", .glo "_law_mixed", .glo "_law_draw", .glo "_law_purses", .glo "_law_one_of", .glo "_law_shuffled", .glo "_law_same", .glo "_law_exact", .glo "_law_word", .glo "_law_words", .glo "_law_people", .glo "_law_pair", .glo "_law_pairs", .glo "_law_net", .glo "_law_deed", .glo "_law_kinds", .glo "_law_numbers"]
def fa2 : List He.Fa := [.glo "_law_friends_of", .glo "_law_opposite", .glo "_law_by_density", .glo "_law_by_labels", .glo "_law_shaped", .glo "_law_world", .glo "_law_company", .glo "_law_sized", .glo "_law_stays", .glo "_law_kind_of", .glo "_law_moves_right", .glo "_law_stands", .glo "law", .glo "Company", .cls "Company", .noat "Company" "_people", .noat "Company" "_friends", .meth "Company" "people", .meth "Company" "friends", .meth "Company" "__eq__"]
def fa3 : List He.Fa := [.mkr "Company", .int "LONGEST_WORD" 8, .free "sum", .free "max", .free "min", .free "int", .free "range", .free "len", .free "sorted", .free "list", .free "dict", .free "set", .free "all", .free "zip", .free "isinstance", .free "str", .free "tuple", .free "bool"]
def faA : List He.Fa := fa0 ++ fa1 ++ fa2 ++ fa3
def nm0 : List PySem.Str := ["combinations", "FriendError", "InvalidPerson", "InvalidPeople", "InvalidPair", "InvalidPairs", "InvalidCompany", "InvalidCount", "LONGEST_WORD", "is_word", "is_count", "are_unlike", "is_person", "Company", "are_people", "is_pair_of", "are_pairs_of", "check_company", "check_person_of", "check_pair_of"]
def nm1 : List PySem.Str := ["pair_of", "all_pairs", "circles", "strangers", "friends_of", "are_friends", "friend_numbers", "KINDS", "check_among", "kind_of", "numbers_of", "third_people", "kind_numbers", "kinds_moved", "_law_purse", "_law_mixed", "_law_draw", "_law_purses", "_law_one_of", "_law_shuffled"]
def nm2 : List PySem.Str := ["_law_same", "_law_exact", "_law_word", "_law_words", "_law_people", "_law_pair", "_law_pairs", "_law_net", "_law_deed", "_law_kinds", "_law_numbers", "_law_friends_of", "_law_opposite", "_law_by_density", "_law_by_labels", "_law_shaped", "_law_world", "_law_company", "_law_sized", "_law_stays"]
def nm3 : List PySem.Str := ["_law_kind_of", "_law_moves_right", "_law_stands"]
def nmA : List PySem.Str := nm0 ++ nm1 ++ nm2 ++ nm3
def lawAt : Nat := 68
/-- the tuple of kinds, as it stands at the top -/
def tupB (K : PySem.W.Frag) : Bool := match List.lookup (He.ga K "KINDS") K with
  | some o => (match o.cls with
    | .type s => s == "tuple"
    | _ => false) && (match o.data with
    | .seq its _ => (match its.toList with
      | [.int a _, .int b _, .int c _] => decide (a = 0) && (decide (b = 1) && decide (c = 2))
      | _ => false)
    | _ => false)
  | none => false
theorem tup_ok {K : PySem.W.Frag} (h : tupB K = true) : ∀ H : Hp, SqT K H (He.ga K "KINDS") [.int 0, .int 1, .int 2] := by
  intro H
  unfold tupB at h
  split at h
  · rename_i o ho
    obtain ⟨h1, h2⟩ := He.ba h
    split at h1
    · rename_i s hs
      have e := eq_of_beq h1
      subst e
      split at h2
      · rename_i its n hd
        split at h2
        · rename_i a ta b tb c tc hl
          obtain ⟨ea, h2⟩ := He.ba h2
          obtain ⟨eb, ec⟩ := He.ba h2
          have ea := of_decide_eq_true ea
          have eb := of_decide_eq_true eb
          have ec := of_decide_eq_true ec
          subst ea eb ec
          refine .inr ⟨o, its, n, ho, hs, hd, ?_, ?_⟩
          · rw [← Array.length_toList, hl]
            show 3 ≤ sizeLine
            decide
          · rw [hl]
            exact .cons ⟨_, rfl⟩ (.cons ⟨_, rfl⟩ (.cons ⟨_, rfl⟩ .nil))
        · cases h2
      · cases h2
    · cases h1
  · cases h
/-- the rest that the end asks: the import, what isinstance asks of the class -/
def exB (K : PySem.W.Frag) : Bool := tupB K && (He.eqO (PySem.W.nsIn K mainGlobals "KINDS") (some (some (.ref (He.ga K "KINDS")))) && (He.eqO (PySem.W.nsIn K mainGlobals "combinations") (some (some (.type Kc.TC))) && (He.eqO (PySem.W.findIn K (.ref (He.ga K "Company")) "__class__") (some (some (.builtin "object.__class__"))) &&
  (He.eqO (PySem.W.specialIn K (.builtin "object.__class__") "__get__") (some (some (.builtin "getset_descriptor.__get__"))) && (decide (PySem.W.takesIn K (.builtin "object.__class__") = some true) &&
  (decide (PySem.W.mroIn K (He.ga K "Company") (.type "object") = some true) && decide (PySem.W.kitOne K (.ref (He.ga K "Company")) (.ref (He.ga K "Company")) = some true)))))))
def obsM (n : Nat) (g : Addr → Option Obj) : He.AlD × Bool := (He.obsD faA fnA (He.frG g (He.asD g n)), exB (He.frG g (He.asD g n)))
def hookM (n : Nat) : PySem.W.Hook where
  α := He.AlD × Bool
  obs := fun s => obsM n s.heap.get?
  val := fun _ => (He.valD fnA, true)
  says := fun _ h => ∃ K : PySem.W.Frag, K.In h ∧ He.SaysD faA fnA K ∧ exB K = true
  of := fun _ _ e => ⟨_, He.frG_in, congrArg (fun z : He.AlD × Bool => z.1) e, congrArg (fun z : He.AlD × Bool => z.2) e⟩
  keeps := fun _ _ _ ⟨K, hK, c, d⟩ k => ⟨K, PySem.W.Frag.In.keeps hK k, c, d⟩
abbrev RR : PySem.W.OpenRow := PySem.W.OpenLaw.row PySem.Challenge.rw_evenfriends_k10_whole_kinds_that_move
abbrev hk : PySem.W.Hook := hookM 4
def ob (s : PySem.W.SharedT) : He.AlD × Bool := obsM 4 (HandSHeadRun.getT s)
theorem ob_eq (s : PySem.W.SharedT) : ob s = hk.obs s.abs := by
  have e : HandSHeadRun.getT s = s.abs.heap.get? := funext (HandSHeadRun.getT_eq s)
  show obsM 4 (HandSHeadRun.getT s) = obsM 4 s.abs.heap.get?
  rw [e]
end Wd
end
section
set_option maxRecDepth 100000
set_option maxHeartbeats 4000000
namespace Wd
open PySem PySem.Spec PyProof.Rows L2
theorem fun_of {K : PySem.W.Frag} {x q : PySem.Str} {st : Stmt} {f : Addr} {fd : FuncData} (F : FunD K x q (defArgs st) (defBody st) (defScope st) [] [] f fd) : Fun K x q st f fd := by
  obtain ⟨oc, od, dV, kV, doc, pm, an, cdv, ct, osl, e, lk, hcd, hd, _⟩ := F.ex
  rcases hd with ⟨_, rfl⟩ | ⟨z, _⟩
  · exact ⟨⟨oc, od, kV, doc, pm, an, cdv, ct, osl, e, lk, hcd⟩, F.kp⟩
  · exact absurd rfl z
theorem facts {P : Program} {w : World} {K : PySem.W.Frag} {h : Heap} {mg : PySem.Str → Option Value} {fa : Addr} (X : K.In h) (G : h.Ns mainGlobals mg) (hfa : mg ("law" : PySem.Str) = some (.ref fa)) (c : He.SaysD faA fnA K) (ce : exB K = true) :
    ∃ fd : FuncData, (∀ (s : Shared) (v : Value), BindsTo s fd ⟨[v], []⟩ [("_law_script", v)]) ∧ ∀ base : Heap, K.In base → base.Ns mainGlobals mg → FnOk P w K mg base CX0 10 fa fd ["_law_script"] (spLaw K) := by
  obtain ⟨d_is_word, D_is_word⟩ := c.def_ 0 (d := d0) rfl
  have F_is_word : Fun K "is_word" "is_word" sp_is_word (He.ga K "is_word") d_is_word := fun_of D_is_word
  have b_is_word : Binds K d_is_word ["value"] [] := D_is_word.bindsN fun _ _ _ _ _ _ us hl => match us, hl with | [_], _ => rfl
  have g_is_word : mg "is_word" = some (.ref (He.ga K "is_word")) := He.glo_ok X G (c.fact 0 (f := .glo "is_word") rfl)
  obtain ⟨d_is_count, D_is_count⟩ := c.def_ 1 (d := d1) rfl
  have F_is_count : Fun K "is_count" "is_count" sp_is_count (He.ga K "is_count") d_is_count := fun_of D_is_count
  have b_is_count : Binds K d_is_count ["value"] [] := D_is_count.bindsN fun _ _ _ _ _ _ us hl => match us, hl with | [_], _ => rfl
  have g_is_count : mg "is_count" = some (.ref (He.ga K "is_count")) := He.glo_ok X G (c.fact 1 (f := .glo "is_count") rfl)
  obtain ⟨d_are_unlike, D_are_unlike⟩ := c.def_ 2 (d := d2) rfl
  have F_are_unlike : Fun K "are_unlike" "are_unlike" sp_are_unlike (He.ga K "are_unlike") d_are_unlike := fun_of D_are_unlike
  have b_are_unlike : Binds K d_are_unlike ["things"] [] := D_are_unlike.bindsN fun _ _ _ _ _ _ us hl => match us, hl with | [_], _ => rfl
  have g_are_unlike : mg "are_unlike" = some (.ref (He.ga K "are_unlike")) := He.glo_ok X G (c.fact 2 (f := .glo "are_unlike") rfl)
  obtain ⟨d_is_person, D_is_person⟩ := c.def_ 3 (d := d3) rfl
  have F_is_person : Fun K "is_person" "is_person" sp_is_person (He.ga K "is_person") d_is_person := fun_of D_is_person
  have b_is_person : Binds K d_is_person ["value"] [] := D_is_person.bindsN fun _ _ _ _ _ _ us hl => match us, hl with | [_], _ => rfl
  have g_is_person : mg "is_person" = some (.ref (He.ga K "is_person")) := He.glo_ok X G (c.fact 3 (f := .glo "is_person") rfl)
  obtain ⟨d_are_people, D_are_people⟩ := c.def_ 8 (d := d8) rfl
  have F_are_people : Fun K "are_people" "are_people" sp_are_people (He.ga K "are_people") d_are_people := fun_of D_are_people
  have b_are_people : Binds K d_are_people ["value"] [] := D_are_people.bindsN fun _ _ _ _ _ _ us hl => match us, hl with | [_], _ => rfl
  have g_are_people : mg "are_people" = some (.ref (He.ga K "are_people")) := He.glo_ok X G (c.fact 4 (f := .glo "are_people") rfl)
  obtain ⟨d_is_pair_of, D_is_pair_of⟩ := c.def_ 9 (d := d9) rfl
  have F_is_pair_of : Fun K "is_pair_of" "is_pair_of" sp_is_pair_of (He.ga K "is_pair_of") d_is_pair_of := fun_of D_is_pair_of
  have b_is_pair_of : Binds K d_is_pair_of ["people", "value"] [] := D_is_pair_of.bindsN fun _ _ _ _ _ _ us hl => match us, hl with | [_, _], _ => rfl
  have g_is_pair_of : mg "is_pair_of" = some (.ref (He.ga K "is_pair_of")) := He.glo_ok X G (c.fact 5 (f := .glo "is_pair_of") rfl)
  obtain ⟨d_are_pairs_of, D_are_pairs_of⟩ := c.def_ 10 (d := d10) rfl
  have F_are_pairs_of : Fun K "are_pairs_of" "are_pairs_of" sp_are_pairs_of (He.ga K "are_pairs_of") d_are_pairs_of := fun_of D_are_pairs_of
  have b_are_pairs_of : Binds K d_are_pairs_of ["people", "value"] [] := D_are_pairs_of.bindsN fun _ _ _ _ _ _ us hl => match us, hl with | [_, _], _ => rfl
  have g_are_pairs_of : mg "are_pairs_of" = some (.ref (He.ga K "are_pairs_of")) := He.glo_ok X G (c.fact 6 (f := .glo "are_pairs_of") rfl)
  obtain ⟨d_check_company, D_check_company⟩ := c.def_ 11 (d := d11) rfl
  have F_check_company : Fun K "check_company" "check_company" sp_check_company (He.ga K "check_company") d_check_company := fun_of D_check_company
  have b_check_company : Binds K d_check_company ["company"] [] := D_check_company.bindsN fun _ _ _ _ _ _ us hl => match us, hl with | [_], _ => rfl
  have g_check_company : mg "check_company" = some (.ref (He.ga K "check_company")) := He.glo_ok X G (c.fact 7 (f := .glo "check_company") rfl)
  obtain ⟨d_check_person_of, D_check_person_of⟩ := c.def_ 12 (d := d12) rfl
  have F_check_person_of : Fun K "check_person_of" "check_person_of" sp_check_person_of (He.ga K "check_person_of") d_check_person_of := fun_of D_check_person_of
  have b_check_person_of : Binds K d_check_person_of ["company", "person"] [] := D_check_person_of.bindsN fun _ _ _ _ _ _ us hl => match us, hl with | [_, _], _ => rfl
  have g_check_person_of : mg "check_person_of" = some (.ref (He.ga K "check_person_of")) := He.glo_ok X G (c.fact 8 (f := .glo "check_person_of") rfl)
  obtain ⟨d_check_pair_of, D_check_pair_of⟩ := c.def_ 13 (d := d13) rfl
  have F_check_pair_of : Fun K "check_pair_of" "check_pair_of" sp_check_pair_of (He.ga K "check_pair_of") d_check_pair_of := fun_of D_check_pair_of
  have b_check_pair_of : Binds K d_check_pair_of ["company", "pair"] [] := D_check_pair_of.bindsN fun _ _ _ _ _ _ us hl => match us, hl with | [_, _], _ => rfl
  have g_check_pair_of : mg "check_pair_of" = some (.ref (He.ga K "check_pair_of")) := He.glo_ok X G (c.fact 9 (f := .glo "check_pair_of") rfl)
  obtain ⟨d_pair_of, D_pair_of⟩ := c.def_ 14 (d := d14) rfl
  have F_pair_of : Fun K "pair_of" "pair_of" sp_pair_of (He.ga K "pair_of") d_pair_of := fun_of D_pair_of
  have b_pair_of : Binds K d_pair_of ["one", "other"] [] := D_pair_of.bindsN fun _ _ _ _ _ _ us hl => match us, hl with | [_, _], _ => rfl
  have g_pair_of : mg "pair_of" = some (.ref (He.ga K "pair_of")) := He.glo_ok X G (c.fact 10 (f := .glo "pair_of") rfl)
  obtain ⟨d_all_pairs, D_all_pairs⟩ := c.def_ 15 (d := d15) rfl
  have F_all_pairs : Fun K "all_pairs" "all_pairs" sp_all_pairs (He.ga K "all_pairs") d_all_pairs := fun_of D_all_pairs
  have b_all_pairs : Binds K d_all_pairs ["people"] [] := D_all_pairs.bindsN fun _ _ _ _ _ _ us hl => match us, hl with | [_], _ => rfl
  have g_all_pairs : mg "all_pairs" = some (.ref (He.ga K "all_pairs")) := He.glo_ok X G (c.fact 11 (f := .glo "all_pairs") rfl)
  obtain ⟨d_circles, D_circles⟩ := c.def_ 16 (d := d16) rfl
  have F_circles : Fun K "circles" "circles" sp_circles (He.ga K "circles") d_circles := fun_of D_circles
  have b_circles : Binds K d_circles ["company"] [] := D_circles.bindsN fun _ _ _ _ _ _ us hl => match us, hl with | [_], _ => rfl
  have g_circles : mg "circles" = some (.ref (He.ga K "circles")) := He.glo_ok X G (c.fact 12 (f := .glo "circles") rfl)
  obtain ⟨d_strangers, D_strangers⟩ := c.def_ 17 (d := d17) rfl
  have F_strangers : Fun K "strangers" "strangers" sp_strangers (He.ga K "strangers") d_strangers := fun_of D_strangers
  have b_strangers : Binds K d_strangers ["company"] [] := D_strangers.bindsN fun _ _ _ _ _ _ us hl => match us, hl with | [_], _ => rfl
  have g_strangers : mg "strangers" = some (.ref (He.ga K "strangers")) := He.glo_ok X G (c.fact 13 (f := .glo "strangers") rfl)
  obtain ⟨d_friends_of, D_friends_of⟩ := c.def_ 18 (d := d18) rfl
  have F_friends_of : Fun K "friends_of" "friends_of" sp_friends_of (He.ga K "friends_of") d_friends_of := fun_of D_friends_of
  have b_friends_of : Binds K d_friends_of ["company", "person"] [] := D_friends_of.bindsN fun _ _ _ _ _ _ us hl => match us, hl with | [_, _], _ => rfl
  have g_friends_of : mg "friends_of" = some (.ref (He.ga K "friends_of")) := He.glo_ok X G (c.fact 14 (f := .glo "friends_of") rfl)
  obtain ⟨d_are_friends, D_are_friends⟩ := c.def_ 19 (d := d19) rfl
  have F_are_friends : Fun K "are_friends" "are_friends" sp_are_friends (He.ga K "are_friends") d_are_friends := fun_of D_are_friends
  have b_are_friends : Binds K d_are_friends ["company", "pair"] [] := D_are_friends.bindsN fun _ _ _ _ _ _ us hl => match us, hl with | [_, _], _ => rfl
  have g_are_friends : mg "are_friends" = some (.ref (He.ga K "are_friends")) := He.glo_ok X G (c.fact 15 (f := .glo "are_friends") rfl)
  obtain ⟨d_friend_numbers, D_friend_numbers⟩ := c.def_ 20 (d := d20) rfl
  have F_friend_numbers : Fun K "friend_numbers" "friend_numbers" sp_friend_numbers (He.ga K "friend_numbers") d_friend_numbers := fun_of D_friend_numbers
  have b_friend_numbers : Binds K d_friend_numbers ["company"] [] := D_friend_numbers.bindsN fun _ _ _ _ _ _ us hl => match us, hl with | [_], _ => rfl
  have g_friend_numbers : mg "friend_numbers" = some (.ref (He.ga K "friend_numbers")) := He.glo_ok X G (c.fact 16 (f := .glo "friend_numbers") rfl)
  obtain ⟨d_check_among, D_check_among⟩ := c.def_ 21 (d := d21) rfl
  have F_check_among : Fun K "check_among" "check_among" sp_check_among (He.ga K "check_among") d_check_among := fun_of D_check_among
  have b_check_among : Binds K d_check_among ["number", "numbers"] [] := D_check_among.bindsN fun _ _ _ _ _ _ us hl => match us, hl with | [_, _], _ => rfl
  have g_check_among : mg "check_among" = some (.ref (He.ga K "check_among")) := He.glo_ok X G (c.fact 17 (f := .glo "check_among") rfl)
  obtain ⟨d_kind_of, D_kind_of⟩ := c.def_ 22 (d := d22) rfl
  have F_kind_of : Fun K "kind_of" "kind_of" sp_kind_of (He.ga K "kind_of") d_kind_of := fun_of D_kind_of
  have b_kind_of : Binds K d_kind_of ["known", "pair", "person"] [] := D_kind_of.bindsN fun _ _ _ _ _ _ us hl => match us, hl with | [_, _, _], _ => rfl
  have g_kind_of : mg "kind_of" = some (.ref (He.ga K "kind_of")) := He.glo_ok X G (c.fact 18 (f := .glo "kind_of") rfl)
  obtain ⟨d_numbers_of, D_numbers_of⟩ := c.def_ 23 (d := d23) rfl
  have F_numbers_of : Fun K "numbers_of" "numbers_of" sp_numbers_of (He.ga K "numbers_of") d_numbers_of := fun_of D_numbers_of
  have b_numbers_of : Binds K d_numbers_of ["known", "pair"] [] := D_numbers_of.bindsN fun _ _ _ _ _ _ us hl => match us, hl with | [_, _], _ => rfl
  have g_numbers_of : mg "numbers_of" = some (.ref (He.ga K "numbers_of")) := He.glo_ok X G (c.fact 19 (f := .glo "numbers_of") rfl)
  obtain ⟨d_third_people, D_third_people⟩ := c.def_ 24 (d := d24) rfl
  have F_third_people : Fun K "third_people" "third_people" sp_third_people (He.ga K "third_people") d_third_people := fun_of D_third_people
  have b_third_people : Binds K d_third_people ["company", "pair", "kind"] [] := D_third_people.bindsN fun _ _ _ _ _ _ us hl => match us, hl with | [_, _, _], _ => rfl
  have g_third_people : mg "third_people" = some (.ref (He.ga K "third_people")) := He.glo_ok X G (c.fact 20 (f := .glo "third_people") rfl)
  obtain ⟨d_kind_numbers, D_kind_numbers⟩ := c.def_ 25 (d := d25) rfl
  have F_kind_numbers : Fun K "kind_numbers" "kind_numbers" sp_kind_numbers (He.ga K "kind_numbers") d_kind_numbers := fun_of D_kind_numbers
  have b_kind_numbers : Binds K d_kind_numbers ["company", "pair"] [] := D_kind_numbers.bindsN fun _ _ _ _ _ _ us hl => match us, hl with | [_, _], _ => rfl
  have g_kind_numbers : mg "kind_numbers" = some (.ref (He.ga K "kind_numbers")) := He.glo_ok X G (c.fact 21 (f := .glo "kind_numbers") rfl)
  obtain ⟨d_kinds_moved, D_kinds_moved⟩ := c.def_ 26 (d := d26) rfl
  have F_kinds_moved : Fun K "kinds_moved" "kinds_moved" sp_kinds_moved (He.ga K "kinds_moved") d_kinds_moved := fun_of D_kinds_moved
  have b_kinds_moved : Binds K d_kinds_moved ["company", "pair"] [] := D_kinds_moved.bindsN fun _ _ _ _ _ _ us hl => match us, hl with | [_, _], _ => rfl
  have g_kinds_moved : mg "kinds_moved" = some (.ref (He.ga K "kinds_moved")) := He.glo_ok X G (c.fact 22 (f := .glo "kinds_moved") rfl)
  obtain ⟨d__law_purse, D__law_purse⟩ := c.def_ 27 (d := d27) rfl
  have F__law_purse : Fun K "_law_purse" "_law_purse" s_purse (He.ga K "_law_purse") d__law_purse := fun_of D__law_purse
  have b__law_purse : Binds K d__law_purse ["_law_script", "_law_at"] [] := D__law_purse.bindsN fun _ _ _ _ _ _ us hl => match us, hl with | [_, _], _ => rfl
  have g__law_purse : mg "_law_purse" = some (.ref (He.ga K "_law_purse")) := He.glo_ok X G (c.fact 23 (f := .glo "_law_purse") rfl)
  obtain ⟨d__law_mixed, D__law_mixed⟩ := c.def_ 28 (d := d28) rfl
  have F__law_mixed : Fun K "_law_mixed" "_law_mixed" s_mixed (He.ga K "_law_mixed") d__law_mixed := fun_of D__law_mixed
  have b__law_mixed : Binds K d__law_mixed ["_law_seed", "_law_turn", "_law_at"] [] := D__law_mixed.bindsN fun _ _ _ _ _ _ us hl => match us, hl with | [_, _, _], _ => rfl
  have g__law_mixed : mg "_law_mixed" = some (.ref (He.ga K "_law_mixed")) := He.glo_ok X G (c.fact 24 (f := .glo "_law_mixed") rfl)
  obtain ⟨d__law_draw, D__law_draw⟩ := c.def_ 29 (d := d29) rfl
  have F__law_draw : Fun K "_law_draw" "_law_draw" s_draw (He.ga K "_law_draw") d__law_draw := fun_of D__law_draw
  have b__law_draw : Binds K d__law_draw ["_law_purse_here", "_law_many"] [] := D__law_draw.bindsN fun _ _ _ _ _ _ us hl => match us, hl with | [_, _], _ => rfl
  have g__law_draw : mg "_law_draw" = some (.ref (He.ga K "_law_draw")) := He.glo_ok X G (c.fact 25 (f := .glo "_law_draw") rfl)
  obtain ⟨d__law_purses, D__law_purses⟩ := c.def_ 30 (d := d30) rfl
  have F__law_purses : Fun K "_law_purses" "_law_purses" s_purses (He.ga K "_law_purses") d__law_purses := fun_of D__law_purses
  have b__law_purses : Binds K d__law_purses ["_law_script", "_law_few"] [] := D__law_purses.bindsN fun _ _ _ _ _ _ us hl => match us, hl with | [_, _], _ => rfl
  have g__law_purses : mg "_law_purses" = some (.ref (He.ga K "_law_purses")) := He.glo_ok X G (c.fact 26 (f := .glo "_law_purses") rfl)
  obtain ⟨d__law_one_of, D__law_one_of⟩ := c.def_ 31 (d := d31) rfl
  have F__law_one_of : Fun K "_law_one_of" "_law_one_of" s_one_of (He.ga K "_law_one_of") d__law_one_of := fun_of D__law_one_of
  have b__law_one_of : Binds K d__law_one_of ["_law_purse_here", "_law_some"] [] := D__law_one_of.bindsN fun _ _ _ _ _ _ us hl => match us, hl with | [_, _], _ => rfl
  have g__law_one_of : mg "_law_one_of" = some (.ref (He.ga K "_law_one_of")) := He.glo_ok X G (c.fact 27 (f := .glo "_law_one_of") rfl)
  obtain ⟨d__law_shuffled, D__law_shuffled⟩ := c.def_ 32 (d := d32) rfl
  have F__law_shuffled : Fun K "_law_shuffled" "_law_shuffled" s_shuffled (He.ga K "_law_shuffled") d__law_shuffled := fun_of D__law_shuffled
  have b__law_shuffled : Binds K d__law_shuffled ["_law_purse_here", "_law_some"] [] := D__law_shuffled.bindsN fun _ _ _ _ _ _ us hl => match us, hl with | [_, _], _ => rfl
  have g__law_shuffled : mg "_law_shuffled" = some (.ref (He.ga K "_law_shuffled")) := He.glo_ok X G (c.fact 28 (f := .glo "_law_shuffled") rfl)
  obtain ⟨d__law_same, D__law_same⟩ := c.def_ 33 (d := d33) rfl
  have F__law_same : Fun K "_law_same" "_law_same" s_same (He.ga K "_law_same") d__law_same := fun_of D__law_same
  have b__law_same : Binds K d__law_same ["_law_thing"] [] := D__law_same.bindsN fun _ _ _ _ _ _ us hl => match us, hl with | [_], _ => rfl
  have g__law_same : mg "_law_same" = some (.ref (He.ga K "_law_same")) := He.glo_ok X G (c.fact 29 (f := .glo "_law_same") rfl)
  obtain ⟨d__law_exact, D__law_exact⟩ := c.def_ 34 (d := d34) rfl
  have F__law_exact : Fun K "_law_exact" "_law_exact" s_exact (He.ga K "_law_exact") d__law_exact := fun_of D__law_exact
  have b__law_exact : Binds K d__law_exact ["_law_mine", "_law_theirs"] [] := D__law_exact.bindsN fun _ _ _ _ _ _ us hl => match us, hl with | [_, _], _ => rfl
  have g__law_exact : mg "_law_exact" = some (.ref (He.ga K "_law_exact")) := He.glo_ok X G (c.fact 30 (f := .glo "_law_exact") rfl)
  obtain ⟨d__law_word, D__law_word⟩ := c.def_ 35 (d := d35) rfl
  have F__law_word : Fun K "_law_word" "_law_word" s_word (He.ga K "_law_word") d__law_word := fun_of D__law_word
  have b__law_word : Binds K d__law_word ["_law_purse_here"] [] := D__law_word.bindsN fun _ _ _ _ _ _ us hl => match us, hl with | [_], _ => rfl
  have g__law_word : mg "_law_word" = some (.ref (He.ga K "_law_word")) := He.glo_ok X G (c.fact 31 (f := .glo "_law_word") rfl)
  obtain ⟨d__law_words, D__law_words⟩ := c.def_ 36 (d := d36) rfl
  have F__law_words : Fun K "_law_words" "_law_words" s_words (He.ga K "_law_words") d__law_words := fun_of D__law_words
  have b__law_words : Binds K d__law_words ["_law_purse_here", "_law_many"] [] := D__law_words.bindsN fun _ _ _ _ _ _ us hl => match us, hl with | [_, _], _ => rfl
  have g__law_words : mg "_law_words" = some (.ref (He.ga K "_law_words")) := He.glo_ok X G (c.fact 32 (f := .glo "_law_words") rfl)
  obtain ⟨d__law_people, D__law_people⟩ := c.def_ 37 (d := d37) rfl
  have F__law_people : Fun K "_law_people" "_law_people" s_people (He.ga K "_law_people") d__law_people := fun_of D__law_people
  have b__law_people : Binds K d__law_people ["_law_purse_here", "_law_many"] [] := D__law_people.bindsN fun _ _ _ _ _ _ us hl => match us, hl with | [_, _], _ => rfl
  have g__law_people : mg "_law_people" = some (.ref (He.ga K "_law_people")) := He.glo_ok X G (c.fact 33 (f := .glo "_law_people") rfl)
  obtain ⟨d__law_pair, D__law_pair⟩ := c.def_ 38 (d := d38) rfl
  have F__law_pair : Fun K "_law_pair" "_law_pair" s_pair (He.ga K "_law_pair") d__law_pair := fun_of D__law_pair
  have b__law_pair : Binds K d__law_pair ["_law_first", "_law_second"] [] := D__law_pair.bindsN fun _ _ _ _ _ _ us hl => match us, hl with | [_, _], _ => rfl
  have g__law_pair : mg "_law_pair" = some (.ref (He.ga K "_law_pair")) := He.glo_ok X G (c.fact 34 (f := .glo "_law_pair") rfl)
  obtain ⟨d__law_pairs, D__law_pairs⟩ := c.def_ 39 (d := d39) rfl
  have F__law_pairs : Fun K "_law_pairs" "_law_pairs" s_pairs (He.ga K "_law_pairs") d__law_pairs := fun_of D__law_pairs
  have b__law_pairs : Binds K d__law_pairs ["_law_crowd"] [] := D__law_pairs.bindsN fun _ _ _ _ _ _ us hl => match us, hl with | [_], _ => rfl
  have g__law_pairs : mg "_law_pairs" = some (.ref (He.ga K "_law_pairs")) := He.glo_ok X G (c.fact 35 (f := .glo "_law_pairs") rfl)
  obtain ⟨d__law_net, D__law_net⟩ := c.def_ 40 (d := d40) rfl
  have F__law_net : Fun K "_law_net" "_law_net" s_net (He.ga K "_law_net") d__law_net := fun_of D__law_net
  have b__law_net : Binds K d__law_net ["_law_world_here"] [] := D__law_net.bindsN fun _ _ _ _ _ _ us hl => match us, hl with | [_], _ => rfl
  have g__law_net : mg "_law_net" = some (.ref (He.ga K "_law_net")) := He.glo_ok X G (c.fact 36 (f := .glo "_law_net") rfl)
  obtain ⟨d__law_deed, D__law_deed⟩ := c.def_ 41 (d := d41) rfl
  have F__law_deed : Fun K "_law_deed" "_law_deed" s_deed (He.ga K "_law_deed") d__law_deed := fun_of D__law_deed
  have b__law_deed : Binds K d__law_deed ["_law_world_here", "_law_pair_here"] [] := D__law_deed.bindsN fun _ _ _ _ _ _ us hl => match us, hl with | [_, _], _ => rfl
  have g__law_deed : mg "_law_deed" = some (.ref (He.ga K "_law_deed")) := He.glo_ok X G (c.fact 37 (f := .glo "_law_deed") rfl)
  obtain ⟨d__law_kinds, D__law_kinds⟩ := c.def_ 42 (d := d42) rfl
  have F__law_kinds : Fun K "_law_kinds" "_law_kinds" s_kinds (He.ga K "_law_kinds") d__law_kinds := fun_of D__law_kinds
  have b__law_kinds : Binds K d__law_kinds ["_law_world_here", "_law_pair_here"] [] := D__law_kinds.bindsN fun _ _ _ _ _ _ us hl => match us, hl with | [_, _], _ => rfl
  have g__law_kinds : mg "_law_kinds" = some (.ref (He.ga K "_law_kinds")) := He.glo_ok X G (c.fact 38 (f := .glo "_law_kinds") rfl)
  obtain ⟨d__law_numbers, D__law_numbers⟩ := c.def_ 43 (d := d43) rfl
  have F__law_numbers : Fun K "_law_numbers" "_law_numbers" s_numbers (He.ga K "_law_numbers") d__law_numbers := fun_of D__law_numbers
  have b__law_numbers : Binds K d__law_numbers ["_law_world_here"] [] := D__law_numbers.bindsN fun _ _ _ _ _ _ us hl => match us, hl with | [_], _ => rfl
  have g__law_numbers : mg "_law_numbers" = some (.ref (He.ga K "_law_numbers")) := He.glo_ok X G (c.fact 39 (f := .glo "_law_numbers") rfl)
  obtain ⟨d__law_friends_of, D__law_friends_of⟩ := c.def_ 44 (d := d44) rfl
  have F__law_friends_of : Fun K "_law_friends_of" "_law_friends_of" s_friends_of (He.ga K "_law_friends_of") d__law_friends_of := fun_of D__law_friends_of
  have b__law_friends_of : Binds K d__law_friends_of ["_law_world_here", "_law_person"] [] := D__law_friends_of.bindsN fun _ _ _ _ _ _ us hl => match us, hl with | [_, _], _ => rfl
  have g__law_friends_of : mg "_law_friends_of" = some (.ref (He.ga K "_law_friends_of")) := He.glo_ok X G (c.fact 40 (f := .glo "_law_friends_of") rfl)
  obtain ⟨d__law_opposite, D__law_opposite⟩ := c.def_ 45 (d := d45) rfl
  have F__law_opposite : Fun K "_law_opposite" "_law_opposite" s_opposite (He.ga K "_law_opposite") d__law_opposite := fun_of D__law_opposite
  have b__law_opposite : Binds K d__law_opposite ["_law_world_here"] [] := D__law_opposite.bindsN fun _ _ _ _ _ _ us hl => match us, hl with | [_], _ => rfl
  have g__law_opposite : mg "_law_opposite" = some (.ref (He.ga K "_law_opposite")) := He.glo_ok X G (c.fact 41 (f := .glo "_law_opposite") rfl)
  obtain ⟨d__law_by_density, D__law_by_density⟩ := c.def_ 46 (d := d46) rfl
  have F__law_by_density : Fun K "_law_by_density" "_law_by_density" s_by_density (He.ga K "_law_by_density") d__law_by_density := fun_of D__law_by_density
  have b__law_by_density : Binds K d__law_by_density ["_law_purse_here", "_law_crowd"] [] := D__law_by_density.bindsN fun _ _ _ _ _ _ us hl => match us, hl with | [_, _], _ => rfl
  have g__law_by_density : mg "_law_by_density" = some (.ref (He.ga K "_law_by_density")) := He.glo_ok X G (c.fact 42 (f := .glo "_law_by_density") rfl)
  obtain ⟨d__law_by_labels, D__law_by_labels⟩ := c.def_ 47 (d := d47) rfl
  have F__law_by_labels : Fun K "_law_by_labels" "_law_by_labels" s_by_labels (He.ga K "_law_by_labels") d__law_by_labels := fun_of D__law_by_labels
  have b__law_by_labels : Binds K d__law_by_labels ["_law_purse_here", "_law_crowd"] [] := D__law_by_labels.bindsN fun _ _ _ _ _ _ us hl => match us, hl with | [_, _], _ => rfl
  have g__law_by_labels : mg "_law_by_labels" = some (.ref (He.ga K "_law_by_labels")) := He.glo_ok X G (c.fact 43 (f := .glo "_law_by_labels") rfl)
  obtain ⟨d__law_shaped, D__law_shaped⟩ := c.def_ 48 (d := d48) rfl
  have F__law_shaped : Fun K "_law_shaped" "_law_shaped" s_shaped (He.ga K "_law_shaped") d__law_shaped := fun_of D__law_shaped
  have b__law_shaped : Binds K d__law_shaped ["_law_purse_here", "_law_crowd"] [] := D__law_shaped.bindsN fun _ _ _ _ _ _ us hl => match us, hl with | [_, _], _ => rfl
  have g__law_shaped : mg "_law_shaped" = some (.ref (He.ga K "_law_shaped")) := He.glo_ok X G (c.fact 44 (f := .glo "_law_shaped") rfl)
  obtain ⟨d__law_world, D__law_world⟩ := c.def_ 49 (d := d49) rfl
  have F__law_world : Fun K "_law_world" "_law_world" s_world (He.ga K "_law_world") d__law_world := fun_of D__law_world
  have b__law_world : Binds K d__law_world ["_law_purse_here", "_law_many"] [] := D__law_world.bindsN fun _ _ _ _ _ _ us hl => match us, hl with | [_, _], _ => rfl
  have g__law_world : mg "_law_world" = some (.ref (He.ga K "_law_world")) := He.glo_ok X G (c.fact 45 (f := .glo "_law_world") rfl)
  obtain ⟨d__law_company, D__law_company⟩ := c.def_ 50 (d := d50) rfl
  have F__law_company : Fun K "_law_company" "_law_company" s_company (He.ga K "_law_company") d__law_company := fun_of D__law_company
  have b__law_company : Binds K d__law_company ["_law_world_here"] [] := D__law_company.bindsN fun _ _ _ _ _ _ us hl => match us, hl with | [_], _ => rfl
  have g__law_company : mg "_law_company" = some (.ref (He.ga K "_law_company")) := He.glo_ok X G (c.fact 46 (f := .glo "_law_company") rfl)
  obtain ⟨d__law_sized, D__law_sized⟩ := c.def_ 51 (d := d51) rfl
  have F__law_sized : Fun K "_law_sized" "_law_sized" s_sized (He.ga K "_law_sized") d__law_sized := fun_of D__law_sized
  have b__law_sized : Binds K d__law_sized ["_law_purse_here"] [] := D__law_sized.bindsN fun _ _ _ _ _ _ us hl => match us, hl with | [_], _ => rfl
  have g__law_sized : mg "_law_sized" = some (.ref (He.ga K "_law_sized")) := He.glo_ok X G (c.fact 47 (f := .glo "_law_sized") rfl)
  obtain ⟨d__law_stays, D__law_stays⟩ := c.def_ 52 (d := d52) rfl
  have F__law_stays : Fun K "_law_stays" "_law_stays" s_stays (He.ga K "_law_stays") d__law_stays := fun_of D__law_stays
  have b__law_stays : Binds K d__law_stays ["_law_world_here", "_law_company_here"] [] := D__law_stays.bindsN fun _ _ _ _ _ _ us hl => match us, hl with | [_, _], _ => rfl
  have g__law_stays : mg "_law_stays" = some (.ref (He.ga K "_law_stays")) := He.glo_ok X G (c.fact 48 (f := .glo "_law_stays") rfl)
  obtain ⟨d__law_kind_of, D__law_kind_of⟩ := c.def_ 53 (d := d53) rfl
  have F__law_kind_of : Fun K "_law_kind_of" "_law_kind_of" s_kind_of (He.ga K "_law_kind_of") d__law_kind_of := fun_of D__law_kind_of
  have b__law_kind_of : Binds K d__law_kind_of ["_law_world_here", "_law_pair_here", "_law_person"] [] := D__law_kind_of.bindsN fun _ _ _ _ _ _ us hl => match us, hl with | [_, _, _], _ => rfl
  have g__law_kind_of : mg "_law_kind_of" = some (.ref (He.ga K "_law_kind_of")) := He.glo_ok X G (c.fact 49 (f := .glo "_law_kind_of") rfl)
  obtain ⟨d__law_moves_right, D__law_moves_right⟩ := c.def_ 54 (d := d54) rfl
  have F__law_moves_right : Fun K "_law_moves_right" "_law_moves_right" s_moves_right (He.ga K "_law_moves_right") d__law_moves_right := fun_of D__law_moves_right
  have b__law_moves_right : Binds K d__law_moves_right ["_law_purse_here", "_law_world_here"] [] := D__law_moves_right.bindsN fun _ _ _ _ _ _ us hl => match us, hl with | [_, _], _ => rfl
  have g__law_moves_right : mg "_law_moves_right" = some (.ref (He.ga K "_law_moves_right")) := He.glo_ok X G (c.fact 50 (f := .glo "_law_moves_right") rfl)
  obtain ⟨d__law_stands, D__law_stands⟩ := c.def_ 55 (d := d55) rfl
  have F__law_stands : Fun K "_law_stands" "_law_stands" s_stands (He.ga K "_law_stands") d__law_stands := fun_of D__law_stands
  have b__law_stands : Binds K d__law_stands ["_law_world_here", "_law_company_here"] [] := D__law_stands.bindsN fun _ _ _ _ _ _ us hl => match us, hl with | [_, _], _ => rfl
  have g__law_stands : mg "_law_stands" = some (.ref (He.ga K "_law_stands")) := He.glo_ok X G (c.fact 51 (f := .glo "_law_stands") rfl)
  obtain ⟨d_law, D_law⟩ := c.def_ 56 (d := d56) rfl
  have F_law : Fun K "law" "law" s_law (He.ga K "law") d_law := fun_of D_law
  have b_law : Binds K d_law ["_law_script"] [] := D_law.bindsN fun _ _ _ _ _ _ us hl => match us, hl with | [_], _ => rfl
  have g_law : mg "law" = some (.ref (He.ga K "law")) := He.glo_ok X G (c.fact 52 (f := .glo "law") rfl)
  obtain ⟨d_mpeople, D_mpeople⟩ := c.def_ 5 (d := d5) rfl
  have F_mpeople : Fun K "people" "Company.people" cP (He.ma K (He.ga K "Company") "people") d_mpeople := fun_of D_mpeople
  have b_mpeople : Binds K d_mpeople ["self"] [] := D_mpeople.bindsN fun _ _ _ _ _ _ us hl => match us, hl with | [_], _ => rfl
  have m_mpeople : Meth K (He.ga K "Company") "people" (He.ma K (He.ga K "Company") "people") := He.meth_ok (c.fact 57 (f := .meth "Company" "people") rfl)
  obtain ⟨d_mfriends, D_mfriends⟩ := c.def_ 6 (d := d6) rfl
  have F_mfriends : Fun K "friends" "Company.friends" cFr (He.ma K (He.ga K "Company") "friends") d_mfriends := fun_of D_mfriends
  have b_mfriends : Binds K d_mfriends ["self"] [] := D_mfriends.bindsN fun _ _ _ _ _ _ us hl => match us, hl with | [_], _ => rfl
  have m_mfriends : Meth K (He.ga K "Company") "friends" (He.ma K (He.ga K "Company") "friends") := He.meth_ok (c.fact 58 (f := .meth "Company" "friends") rfl)
  obtain ⟨d_meq, D_meq⟩ := c.def_ 7 (d := d7) rfl
  have F_meq : Fun K "__eq__" "Company.__eq__" cE (He.ma K (He.ga K "Company") "__eq__") d_meq := fun_of D_meq
  have b_meq : Binds K d_meq ["self", "other"] [] := D_meq.bindsN fun _ _ _ _ _ _ us hl => match us, hl with | [_, _], _ => rfl
  have m_meq : Meth K (He.ga K "Company") "__eq__" (He.ma K (He.ga K "Company") "__eq__") := He.meth_ok (c.fact 59 (f := .meth "Company" "__eq__") rfl)
  obtain ⟨d_minit, D_minit⟩ := c.def_ 4 (d := d4) rfl
  have F_minit : Fun K "__init__" "Company.__init__" cI (He.ma K (He.ga K "Company") "__init__") d_minit := fun_of D_minit
  have b_minit : Binds K d_minit ["self", "people", "friends"] [] := D_minit.bindsN fun _ _ _ _ _ _ us hl => match us, hl with | [_, _, _], _ => rfl
  obtain ⟨xt, ce⟩ := He.ba ce
  obtain ⟨xk, ce⟩ := He.ba ce
  obtain ⟨x1, ce⟩ := He.ba ce
  obtain ⟨x2, ce⟩ := He.ba ce
  obtain ⟨x3, ce⟩ := He.ba ce
  obtain ⟨x4, ce⟩ := He.ba ce
  obtain ⟨x5, x6⟩ := He.ba ce
  have hKd : KT K (He.ga K "KINDS") := tup_ok xt
  have mKd : mg "KINDS" = some (.ref (He.ga K "KINDS")) := PySem.W.mg_of X G (He.eqO_ok xk)
  have mCo : mg "combinations" = some (.type Kc.TC) := PySem.W.mg_of X G (He.eqO_ok x1)
  have cls : Cls K (He.ga K "Company") := He.cls_ok (c.fact 54 (f := .cls "Company") rfl)
  have TC : CT K mg (He.ga K "Company") := ⟨He.noat_ok (c.fact 55 (f := .noat "Company" "_people") rfl), He.noat_ok (c.fact 56 (f := .noat "Company" "_friends") rfl), He.glo_ok X G (c.fact 53 (f := .glo "Company") rfl), ⟨cls, He.eqO_ok x2, He.eqO_ok x3, of_decide_eq_true x4, of_decide_eq_true x5, of_decide_eq_true x6⟩⟩
  have mk : Mk K (He.ga K "Company") (He.ma K (He.ga K "Company") "__init__") := He.mkr_ok (c.fact 60 (f := .mkr "Company") rfl)
  have mL := He.int_ok X G (c.fact 61 (f := .int "LONGEST_WORD" 8) rfl)
  have T : Bt mg := ⟨He.free_ok X G (c.fact 62 (f := .free "sum") rfl), He.free_ok X G (c.fact 63 (f := .free "max") rfl), He.free_ok X G (c.fact 64 (f := .free "min") rfl), He.free_ok X G (c.fact 65 (f := .free "int") rfl), He.free_ok X G (c.fact 66 (f := .free "range") rfl), He.free_ok X G (c.fact 67 (f := .free "len") rfl), He.free_ok X G (c.fact 68 (f := .free "sorted") rfl), He.free_ok X G (c.fact 69 (f := .free "list") rfl), He.free_ok X G (c.fact 70 (f := .free "dict") rfl), He.free_ok X G (c.fact 71 (f := .free "set") rfl), He.free_ok X G (c.fact 72 (f := .free "all") rfl), He.free_ok X G (c.fact 73 (f := .free "zip") rfl), He.free_ok X G (c.fact 74 (f := .free "isinstance") rfl), He.free_ok X G (c.fact 75 (f := .free "str") rfl), He.free_ok X G (c.fact 76 (f := .free "tuple") rfl), He.free_ok X G (c.fact 77 (f := .free "bool") rfl)⟩
  have e := hfa.symm.trans g_law
  cases e
  have b := FunD.bindsA (ps := ["_law_script"]) D_law fun _ _ _ _ _ _ us hl => match us, hl with | [_], _ => rfl
  refine ⟨d_law, fun s v => b s [v] rfl, fun base hIn hNs => ?_⟩
  have G_is_word : FnOk P w K mg base CX0 1 (He.ga K "is_word") d_is_word ["value"] spIsWord := ok_is_word F_is_word T mL
  have H_is_word : Has P w K mg base 1 "is_word" ["value"] spIsWord := ⟨_, _, G_is_word, g_is_word, F_is_word.kp, b_is_word⟩
  have G_are_unlike : FnOk P w K mg base CX0 1 (He.ga K "are_unlike") d_are_unlike ["things"] (spUnlike K) := ok_unlike F_are_unlike T
  have H_are_unlike : Has P w K mg base 1 "are_unlike" ["things"] (spUnlike K) := ⟨_, _, G_are_unlike, g_are_unlike, F_are_unlike.kp, b_are_unlike⟩
  have G_is_person : FnOk P w K mg base CX0 2 (He.ga K "is_person") d_is_person ["value"] spIsWord := ok_is_person F_is_person H_is_word
  have H_is_person : Has P w K mg base 2 "is_person" ["value"] spIsWord := ⟨_, _, G_is_person, g_is_person, F_is_person.kp, b_is_person⟩
  have G_are_people : FnOk P w K mg base CX0 3 (He.ga K "are_people") d_are_people ["value"] spArePpl := ok_are_people F_are_people T H_is_person H_are_unlike
  have H_are_people : Has P w K mg base 3 "are_people" ["value"] spArePpl := ⟨_, _, G_are_people, g_are_people, F_are_people.kp, b_are_people⟩
  have G_is_pair_of : FnOk P w K mg base CX0 1 (He.ga K "is_pair_of") d_is_pair_of ["people", "value"] spPairOf := ok_is_pair_of F_is_pair_of T
  have H_is_pair_of : Has P w K mg base 1 "is_pair_of" ["people", "value"] spPairOf := ⟨_, _, G_is_pair_of, g_is_pair_of, F_is_pair_of.kp, b_is_pair_of⟩
  have G_are_pairs_of : FnOk P w K mg base CX0 2 (He.ga K "are_pairs_of") d_are_pairs_of ["people", "value"] spPairsOf := ok_are_pairs_of F_are_pairs_of T H_is_pair_of H_are_unlike
  have H_are_pairs_of : Has P w K mg base 2 "are_pairs_of" ["people", "value"] spPairsOf := ⟨_, _, G_are_pairs_of, g_are_pairs_of, F_are_pairs_of.kp, b_are_pairs_of⟩
  have M_people : HasM P w K mg base (He.ga K "Company") 1 "people" (spPplM (He.ga K "Company")) := ⟨_, _, ok_ppl F_mpeople T TC, m_mpeople, b_mpeople⟩
  have M_friends : HasM P w K mg base (He.ga K "Company") 1 "friends" (spFrM (He.ga K "Company")) := ⟨_, _, ok_frs F_mfriends T TC, m_mfriends, b_mfriends⟩
  have M_eq : HasEq P w K mg base (He.ga K "Company") := ⟨_, _, ok_eq F_meq T TC, m_meq.at_, m_meq.fn, b_meq⟩
  have MK : Maker P w K mg base (He.ga K "Company") := ⟨⟨_, _, mk, ok_init F_minit T TC H_are_people H_are_pairs_of, b_minit⟩⟩
  have G_check_company : FnOk P w K mg base CX0 1 (He.ga K "check_company") d_check_company ["company"] (spChk (He.ga K "Company")) := ok_check F_check_company T TC
  have H_check_company : Has P w K mg base 1 "check_company" ["company"] (spChk (He.ga K "Company")) := ⟨_, _, G_check_company, g_check_company, F_check_company.kp, b_check_company⟩
  have G_check_person_of : FnOk P w K mg base CX0 2 (He.ga K "check_person_of") d_check_person_of ["company", "person"] (spChkP (He.ga K "Company")) := ok_checkP F_check_person_of T TC M_people
  have H_check_person_of : Has P w K mg base 2 "check_person_of" ["company", "person"] (spChkP (He.ga K "Company")) := ⟨_, _, G_check_person_of, g_check_person_of, F_check_person_of.kp, b_check_person_of⟩
  have G_check_pair_of : FnOk P w K mg base CX0 2 (He.ga K "check_pair_of") d_check_pair_of ["company", "pair"] (spChkT (He.ga K "Company")) := ok_checkT F_check_pair_of T TC M_people H_is_pair_of
  have H_check_pair_of : Has P w K mg base 2 "check_pair_of" ["company", "pair"] (spChkT (He.ga K "Company")) := ⟨_, _, G_check_pair_of, g_check_pair_of, F_check_pair_of.kp, b_check_pair_of⟩
  have G_all_pairs : FnOk P w K mg base CX0 1 (He.ga K "all_pairs") d_all_pairs ["people"] spAllP := ok_all_pairs F_all_pairs T mCo
  have H_all_pairs : Has P w K mg base 1 "all_pairs" ["people"] spAllP := ⟨_, _, G_all_pairs, g_all_pairs, F_all_pairs.kp, b_all_pairs⟩
  have G_circles : FnOk P w K mg base CX0 2 (He.ga K "circles") d_circles ["company"] (spCirc (He.ga K "Company")) := ok_circles F_circles T TC M_people M_friends
  have H_circles : Has P w K mg base 2 "circles" ["company"] (spCirc (He.ga K "Company")) := ⟨_, _, G_circles, g_circles, F_circles.kp, b_circles⟩
  have G_strangers : FnOk P w K mg base CX0 2 (He.ga K "strangers") d_strangers ["company"] (spStr (He.ga K "Company")) := ok_strangers F_strangers T TC H_check_company H_all_pairs M_people M_friends
  have H_strangers : Has P w K mg base 2 "strangers" ["company"] (spStr (He.ga K "Company")) := ⟨_, _, G_strangers, g_strangers, F_strangers.kp, b_strangers⟩
  have G_friends_of : FnOk P w K mg base CX0 3 (He.ga K "friends_of") d_friends_of ["company", "person"] (spFrOf (He.ga K "Company")) := ok_friends_of F_friends_of T TC H_check_company H_check_person_of H_circles
  have H_friends_of : Has P w K mg base 3 "friends_of" ["company", "person"] (spFrOf (He.ga K "Company")) := ⟨_, _, G_friends_of, g_friends_of, F_friends_of.kp, b_friends_of⟩
  have G_are_friends : FnOk P w K mg base CX0 3 (He.ga K "are_friends") d_are_friends ["company", "pair"] (spAreF (He.ga K "Company")) := ok_are_friends F_are_friends T TC H_check_company H_check_pair_of M_friends
  have H_are_friends : Has P w K mg base 3 "are_friends" ["company", "pair"] (spAreF (He.ga K "Company")) := ⟨_, _, G_are_friends, g_are_friends, F_are_friends.kp, b_are_friends⟩
  have G_friend_numbers : FnOk P w K mg base CX0 3 (He.ga K "friend_numbers") d_friend_numbers ["company"] (spNums (He.ga K "Company")) := ok_friend_numbers F_friend_numbers T TC H_check_company H_circles
  have H_friend_numbers : Has P w K mg base 3 "friend_numbers" ["company"] (spNums (He.ga K "Company")) := ⟨_, _, G_friend_numbers, g_friend_numbers, F_friend_numbers.kp, b_friend_numbers⟩
  have G__law_mixed : FnOk P w K mg base CX0 1 (He.ga K "_law_mixed") d__law_mixed ["_law_seed", "_law_turn", "_law_at"] spMixed := ok_mixed F__law_mixed T
  have H__law_mixed : Has P w K mg base 1 "_law_mixed" ["_law_seed", "_law_turn", "_law_at"] spMixed := ⟨_, _, G__law_mixed, g__law_mixed, F__law_mixed.kp, b__law_mixed⟩
  have G__law_draw : FnOk P w K mg base CX0 2 (He.ga K "_law_draw") d__law_draw ["_law_purse_here", "_law_many"] spDraw := ok_draw F__law_draw T F__law_mixed g__law_mixed b__law_mixed
  have H__law_draw : Has P w K mg base 2 "_law_draw" ["_law_purse_here", "_law_many"] spDraw := ⟨_, _, G__law_draw, g__law_draw, F__law_draw.kp, b__law_draw⟩
  have G__law_purses : FnOk P w K mg base CX0 2 (He.ga K "_law_purses") d__law_purses ["_law_script", "_law_few"] (spPurses K) := ok_purses F__law_purses T F__law_purse g__law_purse b__law_purse
  have H__law_purses : Has P w K mg base 2 "_law_purses" ["_law_script", "_law_few"] (spPurses K) := ⟨_, _, G__law_purses, g__law_purses, F__law_purses.kp, b__law_purses⟩
  have G__law_one_of : FnOk P w K mg base CX0 3 (He.ga K "_law_one_of") d__law_one_of ["_law_purse_here", "_law_some"] spOneOf := ok_oneof F__law_one_of T G__law_draw g__law_draw F__law_draw.kp b__law_draw
  have H__law_one_of : Has P w K mg base 3 "_law_one_of" ["_law_purse_here", "_law_some"] spOneOf := ⟨_, _, G__law_one_of, g__law_one_of, F__law_one_of.kp, b__law_one_of⟩
  have G__law_word : FnOk P w K mg base CX0 3 (He.ga K "_law_word") d__law_word ["_law_purse_here"] spWord := ok_word F__law_word T G__law_draw g__law_draw F__law_draw.kp b__law_draw
  have H__law_word : Has P w K mg base 3 "_law_word" ["_law_purse_here"] spWord := ⟨_, _, G__law_word, g__law_word, F__law_word.kp, b__law_word⟩
  have G__law_shuffled : FnOk P w K mg base CX0 3 (He.ga K "_law_shuffled") d__law_shuffled ["_law_purse_here", "_law_some"] spShuffled := ok_shuffled F__law_shuffled T H__law_draw
  have H__law_shuffled : Has P w K mg base 3 "_law_shuffled" ["_law_purse_here", "_law_some"] spShuffled := ⟨_, _, G__law_shuffled, g__law_shuffled, F__law_shuffled.kp, b__law_shuffled⟩
  have G__law_words : FnOk P w K mg base CX0 4 (He.ga K "_law_words") d__law_words ["_law_purse_here", "_law_many"] spWords := ok_words F__law_words T H__law_draw H__law_word
  have H__law_words : Has P w K mg base 4 "_law_words" ["_law_purse_here", "_law_many"] spWords := ⟨_, _, G__law_words, g__law_words, F__law_words.kp, b__law_words⟩
  have G__law_people : FnOk P w K mg base CX0 5 (He.ga K "_law_people") d__law_people ["_law_purse_here", "_law_many"] spPeople := ok_people F__law_people T H__law_draw H__law_words H__law_shuffled
  have H__law_people : Has P w K mg base 5 "_law_people" ["_law_purse_here", "_law_many"] spPeople := ⟨_, _, G__law_people, g__law_people, F__law_people.kp, b__law_people⟩
  have G__law_pair : FnOk P w K mg base CX0 1 (He.ga K "_law_pair") d__law_pair ["_law_first", "_law_second"] spPair := ok_pair F__law_pair
  have H__law_pair : Has P w K mg base 1 "_law_pair" ["_law_first", "_law_second"] spPair := ⟨_, _, G__law_pair, g__law_pair, F__law_pair.kp, b__law_pair⟩
  have G__law_pairs : FnOk P w K mg base CX0 1 (He.ga K "_law_pairs") d__law_pairs ["_law_crowd"] spPairs := ok_pairs F__law_pairs T
  have H__law_pairs : Has P w K mg base 1 "_law_pairs" ["_law_crowd"] spPairs := ⟨_, _, G__law_pairs, g__law_pairs, F__law_pairs.kp, b__law_pairs⟩
  have G__law_net : FnOk P w K mg base CX0 1 (He.ga K "_law_net") d__law_net ["_law_world_here"] spNet := ok_net F__law_net T
  have H__law_net : Has P w K mg base 1 "_law_net" ["_law_world_here"] spNet := ⟨_, _, G__law_net, g__law_net, F__law_net.kp, b__law_net⟩
  have G__law_deed : FnOk P w K mg base CX0 1 (He.ga K "_law_deed") d__law_deed ["_law_world_here", "_law_pair_here"] spDeed := ok_deed F__law_deed T
  have H__law_deed : Has P w K mg base 1 "_law_deed" ["_law_world_here", "_law_pair_here"] spDeed := ⟨_, _, G__law_deed, g__law_deed, F__law_deed.kp, b__law_deed⟩
  have G__law_numbers : FnOk P w K mg base CX0 1 (He.ga K "_law_numbers") d__law_numbers ["_law_world_here"] spNumL := ok_numbers F__law_numbers T
  have H__law_numbers : Has P w K mg base 1 "_law_numbers" ["_law_world_here"] spNumL := ⟨_, _, G__law_numbers, g__law_numbers, F__law_numbers.kp, b__law_numbers⟩
  have G__law_friends_of : FnOk P w K mg base CX0 2 (He.ga K "_law_friends_of") d__law_friends_of ["_law_world_here", "_law_person"] spFrL := ok_frL F__law_friends_of T H__law_net H__law_pair
  have H__law_friends_of : Has P w K mg base 2 "_law_friends_of" ["_law_world_here", "_law_person"] spFrL := ⟨_, _, G__law_friends_of, g__law_friends_of, F__law_friends_of.kp, b__law_friends_of⟩
  have G__law_opposite : FnOk P w K mg base CX0 2 (He.ga K "_law_opposite") d__law_opposite ["_law_world_here"] spOpp := ok_opp F__law_opposite T H__law_net H__law_pairs
  have H__law_opposite : Has P w K mg base 2 "_law_opposite" ["_law_world_here"] spOpp := ⟨_, _, G__law_opposite, g__law_opposite, F__law_opposite.kp, b__law_opposite⟩
  have G__law_by_density : FnOk P w K mg base CX0 3 (He.ga K "_law_by_density") d__law_by_density ["_law_purse_here", "_law_crowd"] (spMade 110) := ok_density F__law_by_density T H__law_draw H__law_pairs
  have H__law_by_density : Has P w K mg base 3 "_law_by_density" ["_law_purse_here", "_law_crowd"] (spMade 110) := ⟨_, _, G__law_by_density, g__law_by_density, F__law_by_density.kp, b__law_by_density⟩
  have G__law_by_labels : FnOk P w K mg base CX0 3 (He.ga K "_law_by_labels") d__law_by_labels ["_law_purse_here", "_law_crowd"] (spMade 110) := ok_labels F__law_by_labels T H__law_draw H__law_pairs
  have H__law_by_labels : Has P w K mg base 3 "_law_by_labels" ["_law_purse_here", "_law_crowd"] (spMade 110) := ⟨_, _, G__law_by_labels, g__law_by_labels, F__law_by_labels.kp, b__law_by_labels⟩
  have G__law_shaped : FnOk P w K mg base CX0 4 (He.ga K "_law_shaped") d__law_shaped ["_law_purse_here", "_law_crowd"] (spMade 110) := ok_shaped F__law_shaped T H__law_draw H__law_pairs H__law_pair H__law_shuffled
  have H__law_shaped : Has P w K mg base 4 "_law_shaped" ["_law_purse_here", "_law_crowd"] (spMade 110) := ⟨_, _, G__law_shaped, g__law_shaped, F__law_shaped.kp, b__law_shaped⟩
  have G__law_world : FnOk P w K mg base CX0 6 (He.ga K "_law_world") d__law_world ["_law_purse_here", "_law_many"] spWorld := ok_world F__law_world T H__law_draw H__law_pairs H__law_one_of H__law_people H__law_by_labels H__law_by_density H__law_shaped H__law_opposite H__law_deed
  have H__law_world : Has P w K mg base 6 "_law_world" ["_law_purse_here", "_law_many"] spWorld := ⟨_, _, G__law_world, g__law_world, F__law_world.kp, b__law_world⟩
  have G__law_company : FnOk P w K mg base CX0 6 (He.ga K "_law_company") d__law_company ["_law_world_here"] (spComp (He.ga K "Company")) := ok_company F__law_company T TC MK
  have H__law_company : Has P w K mg base 6 "_law_company" ["_law_world_here"] (spComp (He.ga K "Company")) := ⟨_, _, G__law_company, g__law_company, F__law_company.kp, b__law_company⟩
  have G__law_sized : FnOk P w K mg base CX0 3 (He.ga K "_law_sized") d__law_sized ["_law_purse_here"] spSized := ok_sized F__law_sized H__law_draw
  have H__law_sized : Has P w K mg base 3 "_law_sized" ["_law_purse_here"] spSized := ⟨_, _, G__law_sized, g__law_sized, F__law_sized.kp, b__law_sized⟩
  have G__law_exact : FnOk P w K mg base CX0 4 (He.ga K "_law_exact") d__law_exact ["_law_mine", "_law_theirs"] (spExact 3) := ok_exact F__law_exact T g__law_exact b__law_exact 3
  have H__law_exact : Has P w K mg base 4 "_law_exact" ["_law_mine", "_law_theirs"] (spExact 3) := ⟨_, _, G__law_exact, g__law_exact, F__law_exact.kp, b__law_exact⟩
  have G__law_stays : FnOk P w K mg base CX0 7 (He.ga K "_law_stays") d__law_stays ["_law_world_here", "_law_company_here"] (spStays (He.ga K "Company")) := ok_stays F__law_stays T TC M_people M_friends M_eq H__law_exact H__law_company
  have H__law_stays : Has P w K mg base 7 "_law_stays" ["_law_world_here", "_law_company_here"] (spStays (He.ga K "Company")) := ⟨_, _, G__law_stays, g__law_stays, F__law_stays.kp, b__law_stays⟩
  have G__law_stands : FnOk P w K mg base CX0 8 (He.ga K "_law_stands") d__law_stands ["_law_world_here", "_law_company_here"] (spStands (He.ga K "Company")) := ok_stands F__law_stands T TC H_friends_of H_friend_numbers H_strangers H__law_friends_of H__law_numbers H__law_opposite H__law_pairs H_are_friends H__law_exact H__law_stays
  have H__law_stands : Has P w K mg base 8 "_law_stands" ["_law_world_here", "_law_company_here"] (spStands (He.ga K "Company")) := ⟨_, _, G__law_stands, g__law_stands, F__law_stands.kp, b__law_stands⟩
  have G_is_count : FnOk P w K mg base CX0 1 (He.ga K "is_count") d_is_count ["value"] spIsCnt := ok_is_count F_is_count T
  have H_is_count : Has P w K mg base 1 "is_count" ["value"] spIsCnt := ⟨_, _, G_is_count, g_is_count, F_is_count.kp, b_is_count⟩
  have G_pair_of : FnOk P w K mg base CX0 1 (He.ga K "pair_of") d_pair_of ["one", "other"] spPair := ok_ppair_of F_pair_of
  have H_pair_of : Has P w K mg base 1 "pair_of" ["one", "other"] spPair := ⟨_, _, G_pair_of, g_pair_of, F_pair_of.kp, b_pair_of⟩
  have G_check_among : FnOk P w K mg base CX0 2 (He.ga K "check_among") d_check_among ["number", "numbers"] (spAmong K) := ok_among F_check_among T H_is_count
  have H_check_among : Has P w K mg base 2 "check_among" ["number", "numbers"] (spAmong K) := ⟨_, _, G_check_among, g_check_among, F_check_among.kp, b_check_among⟩
  have G_kind_of : FnOk P w K mg base CX0 1 (He.ga K "kind_of") d_kind_of ["known", "pair", "person"] spKind := ok_kind_of F_kind_of T
  have H_kind_of : Has P w K mg base 1 "kind_of" ["known", "pair", "person"] spKind := ⟨_, _, G_kind_of, g_kind_of, F_kind_of.kp, b_kind_of⟩
  have G_numbers_of : FnOk P w K mg base CX0 2 (He.ga K "numbers_of") d_numbers_of ["known", "pair"] spNumOf := ok_numbers_of F_numbers_of T mKd hKd H_kind_of
  have H_numbers_of : Has P w K mg base 2 "numbers_of" ["known", "pair"] spNumOf := ⟨_, _, G_numbers_of, g_numbers_of, F_numbers_of.kp, b_numbers_of⟩
  have G_third_people : FnOk P w K mg base CX0 3 (He.ga K "third_people") d_third_people ["company", "pair", "kind"] (spThird (He.ga K "Company")) := ok_third_people F_third_people T TC mKd hKd H_check_company H_check_pair_of H_check_among H_circles H_kind_of
  have H_third_people : Has P w K mg base 3 "third_people" ["company", "pair", "kind"] (spThird (He.ga K "Company")) := ⟨_, _, G_third_people, g_third_people, F_third_people.kp, b_third_people⟩
  have G_kind_numbers : FnOk P w K mg base CX0 3 (He.ga K "kind_numbers") d_kind_numbers ["company", "pair"] (spKN (He.ga K "Company")) := ok_kind_numbers F_kind_numbers T TC H_check_company H_check_pair_of H_circles H_numbers_of
  have H_kind_numbers : Has P w K mg base 3 "kind_numbers" ["company", "pair"] (spKN (He.ga K "Company")) := ⟨_, _, G_kind_numbers, g_kind_numbers, F_kind_numbers.kp, b_kind_numbers⟩
  have G__law_kinds : FnOk P w K mg base CX0 2 (He.ga K "_law_kinds") d__law_kinds ["_law_world_here", "_law_pair_here"] spKindsL := ok_kinds F__law_kinds T H__law_net H__law_pair
  have H__law_kinds : Has P w K mg base 2 "_law_kinds" ["_law_world_here", "_law_pair_here"] spKindsL := ⟨_, _, G__law_kinds, g__law_kinds, F__law_kinds.kp, b__law_kinds⟩
  have G__law_exact6 : FnOk P w K mg base CX0 6 (He.ga K "_law_exact") d__law_exact ["_law_mine", "_law_theirs"] (spExact 5) := ok_exact F__law_exact T g__law_exact b__law_exact 5
  have H__law_exact6 : Has P w K mg base 6 "_law_exact" ["_law_mine", "_law_theirs"] (spExact 5) := ⟨_, _, G__law_exact6, g__law_exact, F__law_exact.kp, b__law_exact⟩
  have G_kinds_moved : FnOk P w K mg base CX0 3 (He.ga K "kinds_moved") d_kinds_moved ["company", "pair"] (spKM (He.ga K "Company")) := ok_kinds_moved F_kinds_moved T TC H_check_company H_check_pair_of H_circles H_pair_of H_kind_of
  have H_kinds_moved : Has P w K mg base 3 "kinds_moved" ["company", "pair"] (spKM (He.ga K "Company")) := ⟨_, _, G_kinds_moved, g_kinds_moved, F_kinds_moved.kp, b_kinds_moved⟩
  have G__law_same : FnOk P w K mg base CX0 5 (He.ga K "_law_same") d__law_same ["_law_thing"] (spSame 4) := ok_same F__law_same T g__law_same b__law_same 4
  have H__law_same : Has P w K mg base 5 "_law_same" ["_law_thing"] (spSame 4) := ⟨_, _, G__law_same, g__law_same, F__law_same.kp, b__law_same⟩
  have G__law_kind_of : FnOk P w K mg base CX0 2 (He.ga K "_law_kind_of") d__law_kind_of ["_law_world_here", "_law_pair_here", "_law_person"] spKO := ok_kind_ofL F__law_kind_of T H__law_pair
  have H__law_kind_of : Has P w K mg base 2 "_law_kind_of" ["_law_world_here", "_law_pair_here", "_law_person"] spKO := ⟨_, _, G__law_kind_of, g__law_kind_of, F__law_kind_of.kp, b__law_kind_of⟩
  have G__law_moves_right : FnOk P w K mg base CX0 9 (He.ga K "_law_moves_right") d__law_moves_right ["_law_purse_here", "_law_world_here"] spMR := ok_mr F__law_moves_right T TC H__law_company H__law_pairs H_kinds_moved H__law_same H__law_deed H__law_shuffled H__law_kind_of H_kind_numbers H__law_kinds H_third_people H__law_exact6 H__law_stands
  have H__law_moves_right : Has P w K mg base 9 "_law_moves_right" ["_law_purse_here", "_law_world_here"] spMR := ⟨_, _, G__law_moves_right, g__law_moves_right, F__law_moves_right.kp, b__law_moves_right⟩
  exact ok_law F_law T H__law_purses H__law_moves_right H__law_world H__law_sized
end Wd
end
section
set_option maxRecDepth 100000
set_option maxHeartbeats 0
namespace Wd
open PySem PySem.Spec PySem.W PySem.Calls PyProof.Rows L2
theorem run (w : World) : HandSHeadRun.RunEqI RR (PySem.W.view RR.prog [0, lawAt]) hk ob 8000 nmA w := by
  unfold HandSHeadRun.RunEqI
  kernel_rfl
end Wd
end
section
set_option maxRecDepth 100000
set_option maxHeartbeats 0
open PySem PySem.W PySem.Calls PyProof.Rows
theorem PySem.Challenge.cw_evenfriends_k10_whole_kinds_that_move_holds : PySem.Challenge.rw_evenfriends_k10_whole_kinds_that_move.Holds := by
  w_on; o_law
  refine HandSHeadRun.head_imp (r := OpenLaw.row PySem.Challenge.rw_evenfriends_k10_whole_kinds_that_move) (q := view (OpenLaw.row PySem.Challenge.rw_evenfriends_k10_whole_kinds_that_move).prog [0, Wd.lawAt]) (H := Wd.hk) (ob := Wd.ob) (M := 8000) (loose := Wd.nmA) (d := HandSHeadRun.topDef (OpenLaw.row PySem.Challenge.rw_evenfriends_k10_whole_kinds_that_move).prog Wd.lawAt) (kwd := []) Wd.ob_eq Wd.run
    (by kernel_rfl) (by kernel_rfl) (by kernel_rfl) (by rfl) (by first | assumption | decide +kernel) (by decide +kernel) ⟨rfl, rfl, rfl, rfl, rfl, by decide +kernel⟩ ?hw ?hc
  case hw => w_witness2
  case hc =>
    refine L2.walk_ofE (l := PySem.Challenge.rw_evenfriends_k10_whole_kinds_that_move) (n := 63) (k := 10) (x := "_law_script") (CX := L2.CX0) rfl (by decide) (by kernel_rfl) ⟨rfl, by decide, by decide⟩ ?F (fun _ _ _ _ z => z)
    intro w mg fa h Y G hmg0
    obtain ⟨K, KX, c, ce⟩ := Y
    have hmg : mg ("law" : PySem.Str) = some (.ref fa) := by
      have e : (HandSHeadRun.topDef (OpenLaw.row PySem.Challenge.rw_evenfriends_k10_whole_kinds_that_move).prog Wd.lawAt).name = ("law" : PySem.Str) := by kernel_rfl
      rw [← e]
      exact hmg0
    obtain ⟨fd, hb, hF⟩ := Wd.facts (P := (PySem.Challenge.rw_evenfriends_k10_whole_kinds_that_move).prog) (w := w) KX G hmg c ce
    exact ⟨K, fd, Wd.spLaw K, KX, hb, fun H a ns hl _ hS => ⟨a, ns, rfl, hS, hl, fun _ => rfl⟩, hF⟩
end
