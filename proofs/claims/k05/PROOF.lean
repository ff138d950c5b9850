import PyProof.Rows.All
import Wide.All
import OpenK.AllK
import Wide.FinOn
import HandS.ForMost
import HandS.Wide
import HandS.WideBits
import HandS.More
import PyProof.ListStr
import HandS.Codes
import HandS.Keys
import KE.KDictPairs
import KE.SortData
import HandS.Set
import HandS.SetFor
import HandS.TupSets
import HandS.Strs
import HandS.Conv
import HandS.Walk
import HandS.IsInst
import HandS.Deep
import HandS.OwnEq
import HandS.DictComp
import PyProof.ZipIter
import PyProof.CallType
import PyProof.Walk
import PyProof.WalkLemmas
import PyProof.RangeIter
import PyProof.RulesTry
import PyProof.CollectWalk
import HandS.Style
import HandS.Zip
import HandS.Words
import PyProof.InstNe
import OpenK.KDescr
import HandS.ListItems
import KE.KDictList
import PyProof.DictValues
import HandS.Call
import HandS.Defaults
import OpenK.KMore
import HandS.List
import PyProof.StrOps2
import HandS.Finally
import HandS.Small
import KE.KStateDown
import HandS.WordsExc
import HandS.Head0
import HandS.Head1
import HandS.Head2
import HandS.Head3
import HandS.HeadEnd
import HandS.HeadHook1
import HandS.HeadHook2
import PySem.Challenge.RW_evenfriends_k05_whole_opposite_cone_side
set_option Elab.async false
set_option linter.all false
section
set_option maxRecDepth 100000
set_option maxHeartbeats 4000000
namespace Wd
open PySem L2
def top (i : Nat) : Stmt := PySem.Challenge.pw_evenfriends_k05_whole_opposite_cone_side.main.body.getD i (.Pass ⟨0, 0, 0, 0⟩)
abbrev cl_FriendError : Stmt := top 2
abbrev cl_InvalidPerson : Stmt := top 3
-- InvalidPerson.__init__: ['self', 'value']
abbrev cl_InvalidPeople : Stmt := top 4
-- InvalidPeople.__init__: ['self', 'value']
abbrev cl_InvalidPairs : Stmt := top 5
-- InvalidPairs.__init__: ['self', 'value']
abbrev cl_InvalidCompany : Stmt := top 6
-- InvalidCompany.__init__: ['self', 'value']
abbrev cl_InvalidNames : Stmt := top 7
-- InvalidNames.__init__: ['self', 'value']
abbrev sp_is_word : Stmt := top 10
theorem cp_is_word : FnScope ["value", "letter"] ["value"] (defScope sp_is_word) := ⟨rfl, rfl, rfl, by decide +kernel, rfl, by decide +kernel, by decide +kernel⟩
abbrev sp_are_unlike : Stmt := top 11
theorem cp_are_unlike : FnScope ["things"] ["things"] (defScope sp_are_unlike) := ⟨rfl, rfl, rfl, by decide +kernel, rfl, by decide +kernel, by decide +kernel⟩
abbrev sp_is_person : Stmt := top 13
theorem cp_is_person : FnScope ["value"] ["value"] (defScope sp_is_person) := ⟨rfl, rfl, rfl, by decide +kernel, rfl, by decide +kernel, by decide +kernel⟩
abbrev cl_Company : Stmt := top 14
-- Company.__init__: ['self', 'people', 'friends']
-- Company.people: ['self']
-- Company.friends: ['self']
-- Company.__eq__: ['self', 'other']
abbrev sp_are_people : Stmt := top 15
theorem cp_are_people : FnScope ["value", "person"] ["value"] (defScope sp_are_people) := ⟨rfl, rfl, rfl, by decide +kernel, rfl, by decide +kernel, by decide +kernel⟩
abbrev sp_are_people_of : Stmt := top 16
theorem cp_are_people_of : FnScope ["people", "value", "person"] ["people", "value"] (defScope sp_are_people_of) := ⟨rfl, rfl, rfl, by decide +kernel, rfl, by decide +kernel, by decide +kernel⟩
abbrev sp_is_pair_of : Stmt := top 17
theorem cp_is_pair_of : FnScope ["people", "value"] ["people", "value"] (defScope sp_is_pair_of) := ⟨rfl, rfl, rfl, by decide +kernel, rfl, by decide +kernel, by decide +kernel⟩
abbrev sp_are_pairs_of : Stmt := top 18
theorem cp_are_pairs_of : FnScope ["people", "value", "pair"] ["people", "value"] (defScope sp_are_pairs_of) := ⟨rfl, rfl, rfl, by decide +kernel, rfl, by decide +kernel, by decide +kernel⟩
abbrev sp_check_company : Stmt := top 19
theorem cp_check_company : FnScope ["company"] ["company"] (defScope sp_check_company) := ⟨rfl, rfl, rfl, by decide +kernel, rfl, by decide +kernel, by decide +kernel⟩
abbrev sp_pair_of : Stmt := top 20
theorem cp_pair_of : FnScope ["one", "other"] ["one", "other"] (defScope sp_pair_of) := ⟨rfl, rfl, rfl, by decide +kernel, rfl, by decide +kernel, by decide +kernel⟩
abbrev sp_all_pairs : Stmt := top 21
theorem cp_all_pairs : FnScope ["people", "ordered"] ["people"] (defScope sp_all_pairs) := ⟨rfl, rfl, rfl, by decide +kernel, rfl, by decide +kernel, by decide +kernel⟩
abbrev sp_circles : Stmt := top 22
theorem cp_circles : FnScope ["company", "person", "found", "one", "other"] ["company"] (defScope sp_circles) := ⟨rfl, rfl, rfl, by decide +kernel, rfl, by decide +kernel, by decide +kernel⟩
abbrev sp_strangers : Stmt := top 23
theorem cp_strangers : FnScope ["company", "friends", "pair"] ["company"] (defScope sp_strangers) := ⟨rfl, rfl, rfl, by decide +kernel, rfl, by decide +kernel, by decide +kernel⟩
abbrev sp_friend_numbers : Stmt := top 24
theorem cp_friend_numbers : FnScope ["company", "person", "circle"] ["company"] (defScope sp_friend_numbers) := ⟨rfl, rfl, rfl, by decide +kernel, rfl, by decide +kernel, by decide +kernel⟩
abbrev sp_kept_among : Stmt := top 25
theorem cp_kept_among : FnScope ["company", "people", "pair"] ["company", "people"] (defScope sp_kept_among) := ⟨rfl, rfl, rfl, by decide +kernel, rfl, by decide +kernel, by decide +kernel⟩
abbrev sp_opposite : Stmt := top 26
theorem cp_opposite : FnScope ["company"] ["company"] (defScope sp_opposite) := ⟨rfl, rfl, rfl, by decide +kernel, rfl, by decide +kernel, by decide +kernel⟩
abbrev sp_cone : Stmt := top 27
theorem cp_cone : FnScope ["company", "person", "people", "other"] ["company", "person"] (defScope sp_cone) := ⟨rfl, rfl, rfl, by decide +kernel, rfl, by decide +kernel, by decide +kernel⟩
abbrev sp_side_by_side : Stmt := top 28
theorem cp_side_by_side : FnScope ["one", "other", "people", "person"] ["one", "other"] (defScope sp_side_by_side) := ⟨rfl, rfl, rfl, by decide +kernel, rfl, by decide +kernel, by decide +kernel⟩
abbrev sp_cut_to : Stmt := top 29
theorem cp_cut_to : FnScope ["company", "people"] ["company", "people"] (defScope sp_cut_to) := ⟨rfl, rfl, rfl, by decide +kernel, rfl, by decide +kernel, by decide +kernel⟩
abbrev sp_are_names : Stmt := top 30
theorem cp_are_names : FnScope ["people", "value", "person"] ["people", "value"] (defScope sp_are_names) := ⟨rfl, rfl, rfl, by decide +kernel, rfl, by decide +kernel, by decide +kernel⟩
abbrev sp_renamed : Stmt := top 31
theorem cp_renamed : FnScope ["company", "names", "one", "other", "friends"] ["company", "names"] (defScope sp_renamed) := ⟨rfl, rfl, rfl, by decide +kernel, rfl, by decide +kernel, by decide +kernel⟩
abbrev s_purse : Stmt := top 33
theorem c_purse : FnScope ["_law_script", "_law_at", "_law_seed"] ["_law_script", "_law_at"] (defScope s_purse) := ⟨rfl, rfl, rfl, by decide +kernel, rfl, by decide +kernel, by decide +kernel⟩
abbrev s_mixed : Stmt := top 34
theorem c_mixed : FnScope ["_law_seed", "_law_turn", "_law_at", "_law_mixed_here"] ["_law_seed", "_law_turn", "_law_at"] (defScope s_mixed) := ⟨rfl, rfl, rfl, by decide +kernel, rfl, by decide +kernel, by decide +kernel⟩
abbrev s_draw : Stmt := top 35
theorem c_draw : FnScope ["_law_purse_here", "_law_many", "_law_drawn", "_law_found", "_law_piece"] ["_law_purse_here", "_law_many"] (defScope s_draw) := ⟨rfl, rfl, rfl, by decide +kernel, rfl, by decide +kernel, by decide +kernel⟩
abbrev s_purses : Stmt := top 36
theorem c_purses : FnScope ["_law_script", "_law_few", "_law_at"] ["_law_script", "_law_few"] (defScope s_purses) := ⟨rfl, rfl, rfl, by decide +kernel, rfl, by decide +kernel, by decide +kernel⟩
abbrev s_one_of : Stmt := top 37
theorem c_one_of : FnScope ["_law_purse_here", "_law_some"] ["_law_purse_here", "_law_some"] (defScope s_one_of) := ⟨rfl, rfl, rfl, by decide +kernel, rfl, by decide +kernel, by decide +kernel⟩
abbrev s_shuffled : Stmt := top 38
theorem c_shuffled : FnScope ["_law_purse_here", "_law_some", "_law_found", "_law_item"] ["_law_purse_here", "_law_some"] (defScope s_shuffled) := ⟨rfl, rfl, rfl, by decide +kernel, rfl, by decide +kernel, by decide +kernel⟩
abbrev s_exact : Stmt := top 39
theorem c_exact : FnScope ["_law_mine", "_law_theirs", "_law_alike", "_law_a", "_law_b", "_law_key"] ["_law_mine", "_law_theirs"] (defScope s_exact) := ⟨rfl, rfl, rfl, by decide +kernel, rfl, by decide +kernel, by decide +kernel⟩
abbrev s_word : Stmt := top 40
theorem c_word : FnScope ["_law_purse_here", "_law_size", "_law_turn"] ["_law_purse_here"] (defScope s_word) := ⟨rfl, rfl, rfl, by decide +kernel, rfl, by decide +kernel, by decide +kernel⟩
abbrev s_words : Stmt := top 41
theorem c_words : FnScope ["_law_purse_here", "_law_many", "_law_base", "_law_near", "_law_spot", "_law_found", "_law_turn", "_law_word_here", "_law_letter"] ["_law_purse_here", "_law_many"] (defScope s_words) := ⟨rfl, rfl, rfl, by decide +kernel, rfl, by decide +kernel, by decide +kernel⟩
abbrev s_people : Stmt := top 42
theorem c_people : FnScope ["_law_purse_here", "_law_many", "_law_words_here", "_law_extra", "_law_mixed_here", "_law_word_here"] ["_law_purse_here", "_law_many"] (defScope s_people) := ⟨rfl, rfl, rfl, by decide +kernel, rfl, by decide +kernel, by decide +kernel⟩
abbrev s_pair : Stmt := top 43
theorem c_pair : FnScope ["_law_first", "_law_second"] ["_law_first", "_law_second"] (defScope s_pair) := ⟨rfl, rfl, rfl, by decide +kernel, rfl, by decide +kernel, by decide +kernel⟩
abbrev s_pairs : Stmt := top 44
theorem c_pairs : FnScope ["_law_crowd", "_law_found", "_law_at", "_law_late"] ["_law_crowd"] (defScope s_pairs) := ⟨rfl, rfl, rfl, by decide +kernel, rfl, by decide +kernel, by decide +kernel⟩
abbrev s_net : Stmt := top 45
theorem c_net : FnScope ["_law_world_here", "_law_pair_here"] ["_law_world_here"] (defScope s_net) := ⟨rfl, rfl, rfl, by decide +kernel, rfl, by decide +kernel, by decide +kernel⟩
abbrev s_deed : Stmt := top 46
theorem c_deed : FnScope ["_law_world_here", "_law_pair_here", "_law_kept", "_law_rest"] ["_law_world_here", "_law_pair_here"] (defScope s_deed) := ⟨rfl, rfl, rfl, by decide +kernel, rfl, by decide +kernel, by decide +kernel⟩
abbrev s_opposite : Stmt := top 47
theorem c_opposite : FnScope ["_law_world_here", "_law_net_here", "_law_pair_here"] ["_law_world_here"] (defScope s_opposite) := ⟨rfl, rfl, rfl, by decide +kernel, rfl, by decide +kernel, by decide +kernel⟩
abbrev s_cone : Stmt := top 48
theorem c_cone : FnScope ["_law_world_here", "_law_person", "_law_late"] ["_law_world_here", "_law_person"] (defScope s_cone) := ⟨rfl, rfl, rfl, by decide +kernel, rfl, by decide +kernel, by decide +kernel⟩
abbrev s_cut : Stmt := top 49
theorem c_cut : FnScope ["_law_world_here", "_law_crowd", "_law_pair_here"] ["_law_world_here", "_law_crowd"] (defScope s_cut) := ⟨rfl, rfl, rfl, by decide +kernel, rfl, by decide +kernel, by decide +kernel⟩
abbrev s_renamed : Stmt := top 50
theorem c_renamed : FnScope ["_law_world_here", "_law_names_here", "_law_first", "_law_second", "_law_made", "_law_person"] ["_law_world_here", "_law_names_here"] (defScope s_renamed) := ⟨rfl, rfl, rfl, by decide +kernel, rfl, by decide +kernel, by decide +kernel⟩
abbrev s_by_density : Stmt := top 51
theorem c_by_density : FnScope ["_law_purse_here", "_law_crowd", "_law_way", "_law_pairs_here", "_law_pair_here"] ["_law_purse_here", "_law_crowd"] (defScope s_by_density) := ⟨rfl, rfl, rfl, by decide +kernel, rfl, by decide +kernel, by decide +kernel⟩
abbrev s_by_labels : Stmt := top 52
theorem c_by_labels : FnScope ["_law_purse_here", "_law_crowd", "_law_size", "_law_turn", "_law_person", "_law_rows", "_law_tie", "_law_ties", "_law_found", "_law_first", "_law_second", "_law_total", "_law_at", "_law_spot"] ["_law_purse_here", "_law_crowd"] (defScope s_by_labels) := ⟨rfl, rfl, rfl, by decide +kernel, rfl, by decide +kernel, by decide +kernel⟩
abbrev s_shaped : Stmt := top 53
theorem c_shaped : FnScope ["_law_purse_here", "_law_crowd", "_law_way", "_law_mixed_here", "_law_pairs_here", "_law_at", "_law_late", "_law_pair_here", "_law_near", "_law_part"] ["_law_purse_here", "_law_crowd"] (defScope s_shaped) := ⟨rfl, rfl, rfl, by decide +kernel, rfl, by decide +kernel, by decide +kernel⟩
abbrev s_world : Stmt := top 54
theorem c_world : FnScope ["_law_purse_here", "_law_many", "_law_crowd", "_law_way", "_law_world_here"] ["_law_purse_here", "_law_many"] (defScope s_world) := ⟨rfl, rfl, rfl, by decide +kernel, rfl, by decide +kernel, by decide +kernel⟩
abbrev s_company : Stmt := top 55
theorem c_company : FnScope ["_law_world_here", "_law_step"] ["_law_world_here"] (defScope s_company) := ⟨rfl, rfl, rfl, by decide +kernel, rfl, by decide +kernel, by decide +kernel⟩
abbrev s_lists : Stmt := top 56
theorem c_lists : FnScope ["_law_company_here"] ["_law_company_here"] (defScope s_lists) := ⟨rfl, rfl, rfl, by decide +kernel, rfl, by decide +kernel, by decide +kernel⟩
abbrev s_names : Stmt := top 57
theorem c_names : FnScope ["_law_purse_here", "_law_crowd", "_law_letter", "_law_pool", "_law_fresh", "_law_at"] ["_law_purse_here", "_law_crowd"] (defScope s_names) := ⟨rfl, rfl, rfl, by decide +kernel, rfl, by decide +kernel, by decide +kernel⟩
abbrev s_opposite_right : Stmt := top 58
theorem c_opposite_right : FnScope ["_law_company_here", "_law_world_here", "_law_made", "_law_numbers", "_law_person"] ["_law_company_here", "_law_world_here"] (defScope s_opposite_right) := ⟨rfl, rfl, rfl, by decide +kernel, rfl, by decide +kernel, by decide +kernel⟩
abbrev s_cone_right : Stmt := top 59
theorem c_cone_right : FnScope ["_law_company_here", "_law_world_here", "_law_letter", "_law_fresh", "_law_word_here", "_law_person", "_law_made", "_law_alone"] ["_law_company_here", "_law_world_here"] (defScope s_cone_right) := ⟨rfl, rfl, rfl, by decide +kernel, rfl, by decide +kernel, by decide +kernel⟩
abbrev s_beside : Stmt := top 60
theorem c_beside : FnScope ["_law_purse_here", "_law_world_here", "_law_word_here", "_law_words_here", "_law_crowd", "_law_pair_here"] ["_law_purse_here", "_law_world_here"] (defScope s_beside) := ⟨rfl, rfl, rfl, by decide +kernel, rfl, by decide +kernel, by decide +kernel⟩
abbrev s_side_right : Stmt := top 61
theorem c_side_right : FnScope ["_law_purse_here", "_law_company_here", "_law_world_here", "_law_beside_here", "_law_other", "_law_made", "_law_first", "_law_second", "_law_across", "_law_one", "_law_late", "_law_whole"] ["_law_purse_here", "_law_company_here", "_law_world_here"] (defScope s_side_right) := ⟨rfl, rfl, rfl, by decide +kernel, rfl, by decide +kernel, by decide +kernel⟩
abbrev s_renamed_right : Stmt := top 62
theorem c_renamed_right : FnScope ["_law_purse_here", "_law_company_here", "_law_world_here", "_law_crowd", "_law_names_here", "_law_person", "_law_handed", "_law_before", "_law_back", "_law_made", "_law_due"] ["_law_purse_here", "_law_company_here", "_law_world_here"] (defScope s_renamed_right) := ⟨rfl, rfl, rfl, by decide +kernel, rfl, by decide +kernel, by decide +kernel⟩
abbrev s_cut_right : Stmt := top 63
theorem c_cut_right : FnScope ["_law_purse_here", "_law_company_here", "_law_world_here", "_law_crowd", "_law_lots", "_law_turn", "_law_lot", "_law_handed", "_law_made", "_law_due", "_law_less"] ["_law_purse_here", "_law_company_here", "_law_world_here"] (defScope s_cut_right) := ⟨rfl, rfl, rfl, by decide +kernel, rfl, by decide +kernel, by decide +kernel⟩
abbrev s_law : Stmt := top 64
theorem c_law : FnScope ["_law_script", "_law_purse_here", "_law_world_here", "_law_company_here"] ["_law_script"] (defScope s_law) := ⟨rfl, rfl, rfl, by decide +kernel, rfl, by decide +kernel, by decide +kernel⟩
end Wd
end
section
set_option maxRecDepth 100000
set_option maxHeartbeats 4000000
namespace Wd
open PySem L2
/-- the built-in names that the text uses stand for themselves -/
structure Bt (mg : Str → Option Value) : Prop where
  sum : mg "sum" = none
  max : mg "max" = none
  min : mg "min" = none
  int : mg "int" = none
  range : mg "range" = none
  len : mg "len" = none
  sorted : mg "sorted" = none
  list : mg "list" = none
  dict : mg "dict" = none
  set : mg "set" = none
  all : mg "all" = none
  zip : mg "zip" = none
  isi : mg "isinstance" = none
  str : mg "str" = none
  tuple : mg "tuple" = none
  bool : mg "bool" = none
/-- all that was tracked stands, but at p -/
def SameX (p : Addr) (H H' : Hp) : Prop := ∀ b o, b ≠ p → H b = some o → H' b = some o
theorem SameX.refl (p : Addr) (H : Hp) : SameX p H H := fun _ _ _ h => h
theorem SameX.trans {p : Addr} {H H1 H2 : Hp} (a : SameX p H H1) (b : SameX p H1 H2) : SameX p H H2 := fun c o n h => b c o n (a c o n h)
theorem SameX.of {p : Addr} {H H' : Hp} (a : Same H H') : SameX p H H' := fun c o _ h => a c o h
theorem SameX.upd {p : Addr} {H : Hp} {o : HO} : SameX p H (upd H p o) := fun b u n h => by
  rw [upd_ne n]
  exact h
theorem SameX.new {p q : Addr} {H : Hp} {o : HO} (hq : H q = none) : SameX p H (L2.upd H q o) := fun b u _ h => by
  rw [upd_ne (ne_of_none h hq)]
  exact h
theorem same_new {q : Addr} {H : Hp} {o : HO} (hq : H q = none) : Same H (upd H q o) := fun b u h => by
  rw [upd_ne (ne_of_none h hq)]
  exact h
/-- a purse stands at p: c its second number, n draws are left -/
def PurseAt (H : Hp) (p : Addr) (c : Int) (n : Nat) : Prop := ∃ b t z : Int, H p = some (.lst [.int b, .int c, .int t, .int z]) ∧ 0 ≤ c ∧ c < 2147483629 ∧ 0 ≤ t ∧ t + (n : Int) ≤ 1000000 ∧ 0 ≤ z ∧ z ≤ 64
theorem PurseAt.same {H H' : Hp} {p : Addr} {c : Int} {n : Nat} (h : PurseAt H p c n) (s : Same H H') : PurseAt H' p c n := by
  obtain ⟨b, t, z, e, r⟩ := h
  exact ⟨b, t, z, s _ _ e, r⟩
theorem PurseAt.less {H : Hp} {p : Addr} {c : Int} {n m : Nat} (h : PurseAt H p c n) (l : m ≤ n) : PurseAt H p c m := by
  obtain ⟨b, t, z, e, h1, h2, h3, h4, r⟩ := h
  exact ⟨b, t, z, e, h1, h2, h3, by omega, r⟩
def spPurse (K : PySem.W.Frag) : Sp := fun vs H Q _ => ∃ (a : Addr) (ns : List Int) (i : Int), vs = [.ref a, .int i] ∧ SqL K H a (ns.map V.int) ∧ 0 ≤ i ∧ i ≤ 64 ∧
  ∀ (H' : Hp) (p : Addr) (c : Int), Same H H' → H p = none → PurseAt H' p c 1000000 → Q (.ref p) H'
def spMixed : Sp := fun vs H Q _ => ∃ s t z : Int, vs = [.int s, .int t, .int z] ∧ -(2 ^ 64) < s ∧ s < 2 ^ 64 ∧ -(2 ^ 64) < t ∧ t < 2 ^ 64 ∧ ∀ r : Int, 0 ≤ r → r < 2147483587 → Q (.int r) H
def spDraw : Sp := fun vs H Q _ => ∃ (p : Addr) (m c : Int) (n : Nat), vs = [.ref p, .int m] ∧ PurseAt H p c (n + 1) ∧ 1 ≤ m ∧ m < 1048576 ∧
  ∀ (H' : Hp) (r : Int), 0 ≤ r → r < m → SameX p H H' → PurseAt H' p c n → Q (.int r) H'
section
variable {P : Program} {w : World} {K : PySem.W.Frag} {mg : Str → Option Value} {base : Heap}
theorem op_powW {X : Cx} : OpR X (binaryOp .Pow) (rI (fun i j => i = 10 ^ 60 ∧ j = 8) fun i j => .int (i ^ j.toNat)) := opI fun i j _ _ _ _ _ hc q => by
  obtain ⟨rfl, rfl⟩ := hc
  exact PyProof.Rows.pow_int (by decide) (by decide +kernel) q
theorem cut_ints (ns : List Int) (lo hi : Option Int) : ∃ ms : List Int, cutV (ns.map V.int) lo hi = ms.map V.int := by
  exact ⟨_, by unfold cutV; rw [← List.map_drop, ← List.map_take]⟩
theorem ok_mixed {f : Addr} {fd : FuncData} (F : Fun K "_law_mixed" "_law_mixed" s_mixed f fd) (T : Bt mg) : FnOk P w K mg base CX0 1 f fd ["_law_seed", "_law_turn", "_law_at"] spMixed := by
  refine F.ok c_mixed (fun vs H Q E h => ?_) (fun cdv A outer s H vs Q E hr h => ?_)
  · obtain ⟨_, _, _, rfl, _⟩ := h
    rfl
  · obtain ⟨x, t, z, rfl, h1, h2, h3, h4, k⟩ := h
    refine ⟨_, pss_cons (ps_set (i := 3) c_mixed.nd rfl (Or.inl rfl) (pe_op op_add (pe_op op_mul (pv 0) pe_int) (pe_op op_mul (pe_op op_mul pe_int (pv 1)) (pv 1))))
      (pss_cons (ps_set (i := 3) c_mixed.nd rfl (Or.inl rfl) (pe_op op_mod (pe_callTy call_int1 (by rfl) T.int (by decide +kernel) (pa_cons (pe_op op_add (pe_op op_add (pv 3) (pe_op op_mul pe_int (pv 2))) (pv 1)) pa_nil)) pe_int))
      (pss_cons (ps_set (i := 3) c_mixed.nd rfl (Or.inl rfl) (pe_op op_mod (pe_callTy call_int1 (by rfl) T.int (by decide +kernel) (pa_cons (pe_op op_add (pe_op op_mul (pv 3) (pv 3)) pe_int) pa_nil)) pe_int))
      (pss_one (ps_ret (pe_op op_mod (pe_callTy call_int1 (by rfl) T.int (by decide +kernel) (pa_cons (pe_op op_mul (pv 3) pe_int) pa_nil)) pe_int))))), ?_⟩
    refine ⟨_, rfl, _, _, rfl, rfl, .inl ⟨h1, h2⟩, _, rfl, _, _, rfl, rfl, .inl ⟨by decide, by decide⟩, _, rfl, _, _, rfl, rfl, .inr ⟨h3, h4⟩, _, _, rfl, rfl, ?_⟩
    refine ⟨_, rfl, _, rfl, _, _, rfl, rfl, .inl ⟨by decide, by decide⟩, _, _, rfl, rfl, _, rfl, _, _, rfl, rfl, .inl ⟨_, rfl, _, _, rfl, rfl, (by show (0 : Int) < 2147483647; decide), ?_⟩⟩
    have u0 : ∀ y : Int, 0 ≤ y % 2147483647 := fun y => Int.emod_nonneg _ (by decide)
    have u1 : ∀ y : Int, y % 2147483647 < 2147483647 := fun y => Int.emod_lt_of_pos _ (by decide)
    refine ⟨_, rfl, _, rfl, _, _, rfl, rfl, .inl ⟨?_, ?_⟩, _, _, rfl, rfl, .inl ⟨_, rfl, _, _, rfl, rfl, (by show (0 : Int) < 2147483629; decide), ?_⟩⟩
    · exact Int.lt_of_lt_of_le (by decide) (u0 _)
    · exact Int.lt_of_lt_of_le (u1 _) (by decide)
    · have v0 : ∀ y : Int, 0 ≤ y % 2147483629 := fun y => Int.emod_nonneg _ (by decide)
      have v1 : ∀ y : Int, y % 2147483629 < 2147483629 := fun y => Int.emod_lt_of_pos _ (by decide)
      refine ⟨_, rfl, _, _, rfl, rfl, .inl ⟨?_, ?_⟩, .inl ⟨_, rfl, _, _, rfl, rfl, (by show (0 : Int) < 2147483587; decide), ?_⟩⟩
      · exact Int.lt_of_lt_of_le (by decide) (v0 _)
      · exact Int.lt_of_lt_of_le (v1 _) (by decide)
      · exact k _ (Int.emod_nonneg _ (by decide)) (Int.emod_lt_of_pos _ (by decide))
theorem ok_purse {f : Addr} {fd : FuncData} (F : Fun K "_law_purse" "_law_purse" s_purse f fd) (T : Bt mg) : FnOk P w K mg base CX0 1 f fd ["_law_script", "_law_at"] (spPurse K) := by
  refine F.ok c_purse (fun vs H Q E h => ?_) (fun cdv A outer s H vs Q E hr h => ?_)
  · obtain ⟨_, _, _, rfl, _⟩ := h
    rfl
  · obtain ⟨a, ns, i, rfl, hS, h0, h1, k⟩ := h
    refine ⟨_, pss_cons (ps_set (i := 2) c_purse.nd rfl (Or.inl rfl) (pe_callB (cr_sum rfl) (by rfl) T.sum (by decide +kernel) (pa_cons (pe_slice sl_list (pv 0) (po_some (pv 1)) (po_some (pe_op op_add (pv 1) pe_int))) pa_nil)))
      (pss_one (ps_ret (pe_lst (pa_cons (pe_op op_mod (pe_callTy call_int1 (by rfl) T.int (by decide +kernel) (pa_cons (pe_callB (call_max2 rfl) (by rfl) T.max (by decide +kernel) (pa_cons (pe_op op_sub (pv 2) (pe_op op_pow pe_int pe_int)) (pa_cons pe_int pa_nil))) pa_nil))
            (pe_op op_powW (pe_op op_pow pe_int pe_int) pe_int))
          (pa_cons (pe_op op_mod (pe_callTy call_int1 (by rfl) T.int (by decide +kernel) (pa_cons (pv 2) pa_nil)) pe_int) (pa_cons pe_int (pa_cons (pv 1) pa_nil))))))), ?_⟩
    obtain ⟨ms, hms⟩ := cut_ints ns (some i) (some (i + 1))
    refine ⟨_, rfl, _, rfl, _, rfl, _, rfl, _, _, rfl, rfl, _, rfl, a, _, rfl, hS, fun p0 hp0 => ?_⟩
    refine ⟨p0, ms, rfl, SqL.of (by rw [upd_same, hms]), ?_⟩
    refine ⟨_, rfl, _, _, rfl, rfl, ⟨by decide, by decide, by decide⟩, _, _, rfl, rfl, _, _, rfl, .inl ⟨_, rfl, _, _, rfl, rfl, ⟨by decide, by decide, by decide⟩, _, _, rfl, rfl, ⟨by decide, by decide⟩, _, _, rfl, rfl, (by show (0 : Int) < _; decide +kernel), ?_⟩⟩
    refine ⟨_, rfl, .inl ⟨_, rfl, _, _, rfl, rfl, (by show (0 : Int) < 2147483629; decide), _, rfl, (by show 4 ≤ sizeLine; decide), fun p hp => ?_⟩⟩
    have np : H p = none := (same_new hp0).free hp
    exact k _ p _ ((same_new hp0).trans (same_new hp)) np ⟨_, _, _, upd_same, Int.emod_nonneg _ (by decide), Int.emod_lt_of_pos _ (by decide), by decide, by decide, h0, h1⟩
theorem ok_draw {f fM : Addr} {fd fdM : FuncData} (F : Fun K "_law_draw" "_law_draw" s_draw f fd) (T : Bt mg) (FM : Fun K "_law_mixed" "_law_mixed" s_mixed fM fdM) (mM : mg "_law_mixed" = some (.ref fM)) (bM : Binds K fdM ["_law_seed", "_law_turn", "_law_at"] []) :
    FnOk P w K mg base CX0 2 f fd ["_law_purse_here", "_law_many"] spDraw := by
  have GM : FnOk P w K mg base CX0 1 fM fdM ["_law_seed", "_law_turn", "_law_at"] spMixed := ok_mixed FM T
  refine F.ok c_draw (fun vs H Q E h => ?_) (fun cdv A outer s H vs Q E hr h => ?_)
  · obtain ⟨_, _, _, _, rfl, _⟩ := h
    rfl
  · obtain ⟨p, m, c, n, rfl, ⟨b, t, z, hp, c0, c1, t0, t1, z0, z1⟩, m0, m1, k⟩ := h
    have hr1 : Room 1 _ := hr.mono (by decide)
    refine ⟨_, pss_cons (ps_if (pt_cmpR op_gt (pe_ix ix_list (pv 0) pe_int (fun _ _ => rfl)) pe_int (nomark _))
        (pss_cons (ps_set (i := 2) c_draw.nd rfl (Or.inl rfl) (pe_op op_mod (pe_callTy call_int1 (by rfl) T.int (by decide +kernel) (pa_cons (pe_ix ix_list (pv 0) pe_int (fun _ _ => rfl)) pa_nil)) (pv 1)))
        (pss_cons (ps_asg (pe_op op_fdiv (pe_ix ix_list (pv 0) pe_int (fun _ _ => rfl)) (pv 1)) (pg_sub (pv 0) pe_int set_list))
        (pss_one (ps_ret (pv 2))))) pss_nil)
      (pss_cons (ps_set (i := 3) c_draw.nd rfl (Or.inl rfl) pe_int)
      (pss_cons (ps_for PassesOwn.never rfl (pi_range1 rfl T.range (pa_cons (pe_op op_add pe_int (pe_op op_fdiv (pe_bits (pv 1)) pe_int)) pa_nil)) (pg_name (i := 4) c_draw.nd rfl (Or.inl rfl))
        (pss_cons (ps_asg (pe_op op_add (pe_ix ix_list (pv 0) pe_int (fun _ _ => rfl)) pe_int) (pg_sub (pv 0) pe_int set_list))
        (pss_one (ps_set (i := 3) c_draw.nd rfl (Or.inl rfl) (pe_op op_add (pe_op op_mul (pv 3) pe_int)
          (pe_call GM hr1 rfl mM FM.kp bM .nil pass0 (pa_cons (pe_ix ix_list (pv 0) pe_int (fun _ _ => rfl)) (pa_cons (pe_ix ix_list (pv 0) pe_int (fun _ _ => rfl)) (pa_cons (pe_ix ix_list (pv 0) pe_int (fun _ _ => rfl)) pa_nil)))))))))
      (pss_one (ps_ret (pe_op op_mod (pe_callTy call_int1 (by rfl) T.int (by decide +kernel) (pa_cons (pv 3) pa_nil)) (pv 1)))))), ?_⟩
    refine ⟨_, rfl, p, _, _, _, rfl, rfl, SqL.of hp, rfl, _, _, rfl, rfl, _, rfl, ?_⟩
    refine ite2 (fun _ => ?_) (fun _ => ?_)
    · refine ⟨_, rfl, p, _, _, _, rfl, rfl, SqL.of hp, rfl, .inl ⟨_, rfl, _, rfl, _, _, rfl, rfl, (by show (0 : Int) < m; omega), ?_⟩⟩
      refine ⟨_, rfl, p, _, _, _, rfl, rfl, SqL.of hp, rfl, _, rfl, _, _, rfl, rfl, ⟨by show (0 : Int) < m; omega, by show m < 1073741824; omega⟩, _, rfl, p, _, _, 0, rfl, rfl, hp, rfl, ?_⟩
      refine ⟨_, rfl, ?_⟩
      exact k _ _ (Int.emod_nonneg _ (by omega)) (Int.emod_lt_of_pos _ (by omega)) SameX.upd ⟨_, _, _, upd_same, c0, c1, t0, by omega, z0, z1⟩
    · have hb : Builtin.Int.intBits m ≤ 20 := PyProof.Rows.intBits_le (by omega)
      have e28 : (1 : Int) + ((Builtin.Int.intBits m : Nat) : Int) / 28 = 1 := by omega
      refine ⟨_, rfl, m, rfl, _, _, rfl, rfl, ⟨by decide, by decide⟩, _, _, rfl, rfl, 1, congrArg (fun q => [V.int q]) e28, by decide, by decide, ?_⟩
      refine for_range (lo := 0) (n := 1) (fun i σ H' => ∃ (f t' : Int) (v : Option V), σ = [some (.ref p), some (.int m), none, some (.int f), v] ∧ SameX p H H' ∧ H' p = some (.lst [.int b, .int c, .int t', .int z]) ∧ t' = t + (i : Int))
        ⟨0, t, none, rfl, SameX.refl _ _, hp, by simp⟩ ?_ ?_
      · rintro i σ H' hi ⟨f, t', v, rfl, sx, hp', et⟩
        refine ⟨_, rfl, p, _, _, _, rfl, rfl, SqL.of hp', rfl, _, _, rfl, rfl, _, rfl, p, _, _, 2, rfl, rfl, hp', rfl, ?_⟩
        have hp2 : (upd H' p (.lst [.int b, .int c, .int (t' + 1), .int z])) p = some (.lst [.int b, .int c, .int (t' + 1), .int z]) := upd_same
        refine ⟨_, rfl, _, _, rfl, rfl, .inr ⟨by decide, by decide⟩, _, rfl, p, _, _, _, rfl, rfl, SqL.of hp2, rfl, _, rfl, p, _, _, _, rfl, rfl, SqL.of hp2, rfl, _, rfl, p, _, _, _, rfl, rfl, SqL.of hp2, rfl, ?_⟩
        refine ⟨_, _, _, rfl, by omega, by omega, by omega, by omega, fun r r0 r1 => ?_⟩
        exact ⟨_, _, rfl, rfl, _, _, _, rfl, sx.trans SameX.upd, hp2, by omega⟩
      · rintro σ H' ⟨f, t', v, rfl, sx, hp', et⟩
        refine ⟨_, rfl, .inl ⟨_, rfl, _, rfl, _, _, rfl, rfl, (by show (0 : Int) < m; omega), ?_⟩⟩
        exact k _ _ (Int.emod_nonneg _ (by omega)) (Int.emod_lt_of_pos _ (by omega)) sx ⟨_, _, _, hp', c0, c1, by omega, by omega, z0, z1⟩
end
end Wd
end
section
set_option maxRecDepth 100000
set_option maxHeartbeats 4000000
namespace Wd
open PySem L2
def spPurses (K : PySem.W.Frag) : Sp := fun vs H Q _ => ∃ (a : Addr) (ns : List Int) (few : Int), vs = [.ref a, .int few] ∧ SqL K H a (ns.map V.int) ∧ few ≤ 60 ∧
  ∀ (H' : Hp) (D : Addr) (ps : List Addr), Same H H' → H D = none → H' D = some (.lst (ps.map V.ref)) → ps.Nodup → (∀ p ∈ ps, H p = none ∧ ∃ c, PurseAt H' p c 1000000) → Q (.ref D) H'
def spOneOf : Sp := fun vs H Q _ => ∃ (p l : Addr) (xs : List V) (c : Int) (n : Nat), vs = [.ref p, .ref l] ∧ PurseAt H p c (n + 1) ∧ H l = some (.lst xs) ∧ l ≠ p ∧ 1 ≤ xs.length ∧ xs.length ≤ 1000 ∧
  ∀ (H' : Hp) (i : Nat) (x : V), xs[i]? = some x → SameX p H H' → PurseAt H' p c n → Q x H'
/-- a word: one to eight letters from a to z -/
def IsW (x : Str) : Prop := 1 ≤ x.cps.toList.length ∧ x.cps.toList.length ≤ 8 ∧ ∀ c ∈ x.cps.toList, 97 ≤ c ∧ c ≤ 122
def spWord : Sp := fun vs H Q _ => ∃ (p : Addr) (c : Int) (n : Nat), vs = [.ref p] ∧ PurseAt H p c (n + 10) ∧
  ∀ (H' : Hp) (x : Str), IsW x → SameX p H H' → PurseAt H' p c n → Q (.str x) H'
theorem join_cps : ∀ cs : List Nat, (Str.join Str.empty (cs.map fun c => (⟨#[c]⟩ : Str))).cps.toList = cs
  | [] => rfl
  | [c] => rfl
  | c :: d :: r => by
    have h := join_cps (d :: r)
    show ((⟨#[c]⟩ : Str) ++ Str.empty ++ Str.join Str.empty ((d :: r).map fun c => (⟨#[c]⟩ : Str))).cps.toList = c :: d :: r
    have e : ∀ a b : Str, (a ++ b).cps.toList = a.cps.toList ++ b.cps.toList := fun a b => Array.toList_append
    rw [e, e, h]
    rfl
theorem letters {n : Nat} (h : n < 26) : ∃ c, ("abcdefghijklmnopqrstuvwxyz" : Str).cps.toList[n]? = some c ∧ 97 ≤ c ∧ c ≤ 122 := by
  have all : ∀ n, n < 26 → ∃ c, ("abcdefghijklmnopqrstuvwxyz" : Str).cps.toList[n]? = some c ∧ 97 ≤ c ∧ c ≤ 122 := by
    intro n h
    have q : ∀ n : Fin 26, (match ("abcdefghijklmnopqrstuvwxyz" : Str).cps.toList[n.val]? with | some c => decide (97 ≤ c) && decide (c ≤ 122) | none => false) = true := by decide +kernel
    have z := q ⟨n, h⟩
    dsimp only at z
    split at z
    · exact ⟨_, by assumption, by simpa using z⟩
    · cases z
  exact all n h
section
variable {P : Program} {w : World} {K : PySem.W.Frag} {mg : Str → Option Value} {base : Heap}
theorem ok_purses {f fP : Addr} {fd fdP : FuncData} (F : Fun K "_law_purses" "_law_purses" s_purses f fd) (T : Bt mg) (FP : Fun K "_law_purse" "_law_purse" s_purse fP fdP) (mP : mg "_law_purse" = some (.ref fP)) (bP : Binds K fdP ["_law_script", "_law_at"] []) :
    FnOk P w K mg base CX0 2 f fd ["_law_script", "_law_few"] (spPurses K) := by
  have GP : FnOk P w K mg base CX0 1 fP fdP ["_law_script", "_law_at"] (spPurse K) := ok_purse FP T
  refine F.ok c_purses (fun vs H Q E h => ?_) (fun cdv A outer s H vs Q E hr h => ?_)
  · obtain ⟨_, _, _, rfl, _⟩ := h
    rfl
  · obtain ⟨a, ns, few, rfl, hS, hf, k⟩ := h
    have hr1 : Room 1 _ := hr.mono (by decide)
    refine ⟨_, pss_one (ps_ret (pe_lc (own := [("_law_at", 2)]) (g := gName 2) (tt := tYes) rfl c_purses.nd
      (pi_range1 rfl T.range (pa_cons (pe_callB (call_max2 rfl) (by rfl) T.max (by decide +kernel) (pa_cons pe_int (pa_cons (pe_callB (call_min2 rfl) (by rfl) T.min (by decide +kernel) (pa_cons (pv 1) (pa_cons (pe_callB call_len_seq (by rfl) T.len PySem.boot_len (pa_cons (pv 0) pa_nil)) pa_nil))) pa_nil))) pa_nil))
      (blkOk_by (N := ["_law_script", "_law_few", "_law_at"]) (sc := defScope s_purses) (by decide +kernel)) (fun _ _ _ _ _ => pg_name (i := 2) c_purses.nd rfl (Or.inl rfl)) (fun _ _ _ _ _ => pts_nil)
      (fun _ _ _ _ _ => pe_call GP hr1 rfl mP FP.kp bP .nil pass0 (pa_cons (pv 0) (pa_cons (pv 2) pa_nil))))), ?_⟩
    refine ⟨_, rfl, _, rfl, a, _, rfl, .inl hS, _, _, rfl, _, _, rfl, ?_⟩
    generalize hN : (if (if ((ns.map V.int).length : Int) < few then ((ns.map V.int).length : Int) else few) > 1 then (if ((ns.map V.int).length : Int) < few then ((ns.map V.int).length : Int) else few) else (1 : Int)) = N
    have hN0 : 1 ≤ N ∧ N ≤ 60 := by
      rw [← hN]
      split <;> split <;> omega
    refine ⟨N, rfl, by omega, by omega, fun D hD => ?_⟩
    refine lc_range (lo := 0) (n := N.toNat) (fun i H' => ∃ ps : List Addr, H' D = some (.lst (ps.map V.ref)) ∧ ps.length = i ∧ Same H H' ∧ ps.Nodup ∧ (∀ p ∈ ps, H p = none ∧ ∃ c, PurseAt H' p c 1000000))
      ⟨[], upd_same, rfl, same_new hD, List.nodup_nil, fun _ h => nomatch h⟩ ?_ ?_
    · rintro i H' hi ⟨ps, hd, hl, s5, nd, hp⟩
      refine ⟨rfl, ?_⟩
      refine ⟨_, rfl, _, rfl, a, ns, _, rfl, s5.seq hS, by omega, by omega, fun H2 p c s2 hn pa => ?_⟩
      have hd2 := s2 _ _ hd
      have npD : p ≠ D := fun z => by
        rw [z, hd] at hn
        cases hn
      have hnp : p ∉ ps := fun hm => by
        obtain ⟨_, c', b', t', z', e, _⟩ := hp p hm
        rw [hn] at e
        cases e
      have sd : ∀ o, Same H (upd H2 D o) := fun o b u e => by
        have nb : b ≠ D := ne_of_none e hD
        rw [upd_ne nb]
        exact s2 _ _ (s5 _ _ e)
      refine ⟨_, hd2, by rw [List.length_map, hl, sizeLine_eq]; omega, ps ++ [p], ?_, by simp [hl], sd _, ?_, fun q hq => ?_⟩
      · rw [upd_same]
        simp
      · rw [List.nodup_append]
        refine ⟨nd, by simp, fun x hx y hy => ?_⟩
        have ey : y = p := by simpa using hy
        rw [ey]
        rintro rfl
        exact hnp hx
      · have keep : ∀ {q : Addr} {c : Int} {n : Nat}, q ≠ D → PurseAt H2 q c n → PurseAt (upd H2 D (.lst (ps.map V.ref ++ [V.ref p]))) q c n := fun {q c n} nq ⟨b, t, z, e, r⟩ => ⟨b, t, z, by rw [upd_ne nq]; exact e, r⟩
        rcases List.mem_append.mp hq with hq | hq
        · obtain ⟨h1, c', pc⟩ := hp q hq
          refine ⟨h1, c', keep (fun z => ?_) (pc.same s2)⟩
          obtain ⟨b', t', z', e, _⟩ := pc
          rw [z, hd] at e
          injection e with e
          injection e with e
          cases ps with
          | nil => cases hq
          | cons x xs => simp at e
        · have eq : q = p := by simpa using hq
          rw [eq]
          exact ⟨s5.free hn, c, keep npD pa⟩
    · rintro H' ⟨ps, hd, hl, s5, nd, hp⟩
      exact k H' D ps s5 hD hd nd hp
theorem ok_oneof {f fD : Addr} {fd fdD : FuncData} (F : Fun K "_law_one_of" "_law_one_of" s_one_of f fd) (T : Bt mg) (GD : FnOk P w K mg base CX0 2 fD fdD ["_law_purse_here", "_law_many"] spDraw) (mD : mg "_law_draw" = some (.ref fD)) (kD : PySem.W.keepIn K (.ref fD) = true) (bD : Binds K fdD ["_law_purse_here", "_law_many"] []) :
    FnOk P w K mg base CX0 3 f fd ["_law_purse_here", "_law_some"] spOneOf := by
  refine F.ok c_one_of (fun vs H Q E h => ?_) (fun cdv A outer s H vs Q E hr h => ?_)
  · obtain ⟨_, _, _, _, _, rfl, _⟩ := h
    rfl
  · obtain ⟨p, l, xs, c, n, rfl, pa, hl, ne, l1, l2, k⟩ := h
    have hr2 : Room 2 _ := hr.mono (by decide)
    refine ⟨_, pss_one (ps_ret (pe_ix ix_list (pv 1) (pe_call GD hr2 rfl mD kD bD .nil pass0 (pa_cons (pv 0) (pa_cons (pe_callB call_len_seq (by rfl) T.len PySem.boot_len (pa_cons (pv 1) pa_nil)) pa_nil))) (fun _ _ => rfl))), ?_⟩
    refine ⟨_, rfl, _, rfl, _, rfl, l, _, rfl, .inl (SqL.of hl), p, _, c, n, rfl, pa, by omega, by omega, fun H' r r0 r1 sx pa' => ?_⟩
    obtain ⟨i, rfl⟩ : ∃ i : Nat, r = (i : Int) := ⟨r.toNat, by omega⟩
    have hi : i < xs.length := by omega
    exact ⟨l, xs, _, xs[i], rfl, rfl, SqL.of (sx _ _ ne hl), atI_nat (by simp [hi]), k H' i _ (by simp [hi]) sx pa'⟩
theorem ok_word {f fD : Addr} {fd fdD : FuncData} (F : Fun K "_law_word" "_law_word" s_word f fd) (T : Bt mg) (GD : FnOk P w K mg base CX0 2 fD fdD ["_law_purse_here", "_law_many"] spDraw) (mD : mg "_law_draw" = some (.ref fD)) (kD : PySem.W.keepIn K (.ref fD) = true) (bD : Binds K fdD ["_law_purse_here", "_law_many"] []) :
    FnOk P w K mg base CX0 3 f fd ["_law_purse_here"] spWord := by
  refine F.ok c_word (fun vs H Q E h => ?_) (fun cdv A outer s H vs Q E hr h => ?_)
  · obtain ⟨_, _, _, rfl, _⟩ := h
    rfl
  · obtain ⟨p, c, n, rfl, pa, k⟩ := h
    have hr2 : Room 2 _ := hr.mono (by decide)
    refine ⟨_, pss_cons (ps_set (i := 1) c_word.nd rfl (Or.inl rfl) (pe_op op_add pe_int (pe_call GD hr2 rfl mD kD bD .nil pass0 (pa_cons (pv 0) (pa_cons (pe_ifExp (pt_cmpR op_eq (pe_call GD hr2 rfl mD kD bD .nil pass0 (pa_cons (pv 0) (pa_cons pe_int pa_nil))) pe_int (nomark _)) pe_int pe_int) pa_nil)))))
      (pss_one (ps_ret (pe_join pe_str (pe_lc (own := [("_law_turn", 2)]) (g := gName 2) (tt := tYes) rfl c_word.nd
      (pi_range1 rfl T.range (pa_cons (pv 1) pa_nil))
      (blkOk_by (N := ["_law_purse_here", "_law_size", "_law_turn"]) (sc := defScope s_word) (by decide +kernel)) (fun _ _ _ _ _ => pg_name (i := 2) c_word.nd rfl (Or.inl rfl)) (fun _ _ _ _ _ => pts_nil)
      (fun _ _ _ _ _ => pe_ix ix_str pe_str (pe_call GD hr2 rfl mD kD bD .nil pass0 (pa_cons (pv 0) (pa_cons pe_int pa_nil))) (fun _ _ => rfl)))))), ?_⟩
    refine ⟨_, rfl, _, rfl, p, _, c, n + 9, rfl, pa, by omega, by omega, fun H1 r r0 r1 sx1 pa1 => ⟨rfl, _, rfl, ?_⟩⟩
    refine ite2 (fun _ => ?_) (fun _ => ?_)
    all_goals
      refine ⟨p, _, c, n + 8, rfl, pa1, by decide, by decide, fun H2 r r0 r1 sx2 pa2 => ?_⟩
      refine ⟨_, _, rfl, rfl, ?_⟩
      refine ⟨⟨_, rfl⟩, _, rfl, 1 + r, rfl, by omega, by omega, fun D hD => ?_⟩
      refine lc_range (lo := 0) (n := (1 + r).toNat) (fun i H' => ∃ cs : List Nat, H' D = some (.lst ((cs.map fun c => (⟨#[c]⟩ : Str)).map V.str)) ∧ cs.length = i ∧ SameX p H H' ∧ (∀ c ∈ cs, 97 ≤ c ∧ c ≤ 122) ∧ PurseAt H' p c (n + (8 - i)))
        ⟨[], upd_same, rfl, (sx1.trans sx2).trans (SameX.new hD), (fun _ h => nomatch h), ?_⟩ ?_ ?_
      · obtain ⟨b, t, z, e, q⟩ := pa2
        exact ⟨b, t, z, by rw [upd_ne (ne_of_none e hD)]; exact e, q⟩
      · rintro i H' hi ⟨cs, hd, hl, s5, hc, pa3⟩
        refine ⟨rfl, ?_⟩
        have l8 : n + (8 - i) = n + (8 - (i + 1)) + 1 := by omega
        rw [l8] at pa3
        refine ⟨_, rfl, p, _, c, _, rfl, pa3, by decide, by decide, fun H3 u u0 u1 sx3 pa4 => ?_⟩
        obtain ⟨j, rfl⟩ : ∃ j : Nat, u = (j : Int) := ⟨u.toNat, by omega⟩
        obtain ⟨ch, hch, hlt⟩ := letters (n := j) (by omega)
        have nDp : D ≠ p := fun e => by
          obtain ⟨b, t, z, q, _⟩ := pa2
          rw [← e, hD] at q
          cases q
        refine ⟨_, _, ch, rfl, rfl, by decide, atI_nat hch, _, sx3 _ _ nDp hd, by simp only [List.length_map]; rw [hl, sizeLine_eq]; omega, cs ++ [ch], ?_, by simp [hl], ?_, ?_, ?_⟩
        · rw [upd_same]
          simp
        · intro b o nb e
          have nb2 : b ≠ D := fun q => by
            rw [q] at e
            have z := (sx1.trans sx2) _ _ nDp e
            rw [hD] at z
            cases z
          rw [upd_ne nb2]
          exact sx3 _ _ nb (s5 _ _ nb e)
        · intro x hx
          rcases List.mem_append.mp hx with hx | hx
          · exact hc x hx
          · have ex : x = ch := by simpa using hx
            rw [ex]
            exact hlt
        · obtain ⟨b, t, z, e, q⟩ := pa4
          exact ⟨b, t, z, by rw [upd_ne (Ne.symm nDp)]; exact e, q⟩
      · rintro H' ⟨cs, hd, hl, s5, hc, pa3⟩
        have hlen : cs.length ≤ 8 := by omega
        refine ⟨_, _, _, rfl, rfl, .inl (SqL.of hd), ?_, ?_⟩
        · have e1 : ∀ l : List Nat, ((l.map fun c => (⟨#[c]⟩ : Str)).map (·.length)).sum = l.length := by
            intro l
            induction l with
            | nil => rfl
            | cons x l ih =>
              rw [List.map_cons, List.map_cons, List.sum_cons, ih, List.length_cons]
              show 1 + l.length = _
              omega
          rw [e1]
          show cs.length + _ * 0 ≤ _
          omega
        · have ej : (Txt.join ("" : Str) (cs.map fun c => (⟨#[c]⟩ : Str))).cps.toList = cs := by
            show (Builtin.Str.glued ("" : Str) _).cps.toList = cs
            rw [StrLaws.glued_eq_join]
            exact join_cps cs
          refine k H' _ ⟨?_, ?_, ?_⟩ s5 (pa3.less (by omega))
          · rw [ej]
            omega
          · rw [ej]
            exact hlen
          · rw [ej]
            exact hc
end
end Wd
end
section
set_option maxRecDepth 100000
set_option maxHeartbeats 4000000
namespace Wd
open PySem L2
/-- a def of the text that keeps a promise -/
def Has (P : Program) (w : World) (K : PySem.W.Frag) (mg : Str → Option Value) (base : Heap) (k : Nat) (x : Str) (ps : List Str) (sp : Sp) : Prop :=
  ∃ (f : Addr) (fd : FuncData), FnOk P w K mg base CX0 k f fd ps sp ∧ mg x = some (.ref f) ∧ PySem.W.keepIn K (.ref f) = true ∧ Binds K fd ps []
/-- the object at a is none of the purse's -/
theorem purse_ne {H : Hp} {p a : Addr} {c : Int} {n : Nat} {o : HO} (pa : PurseAt H p c n) (e : H a = some o) (h : ∀ b c t z : Int, o ≠ .lst [.int b, .int c, .int t, .int z]) : a ≠ p := by
  rintro rfl
  obtain ⟨b, t, z, q, _⟩ := pa
  rw [e] at q
  exact h _ _ _ _ (Option.some.inj q)
theorem purse_none {H : Hp} {p a : Addr} {c : Int} {n : Nat} (pa : PurseAt H p c n) (e : H a = none) : a ≠ p := by
  rintro rfl
  obtain ⟨b, t, z, q, _⟩ := pa
  rw [e] at q
  cases q
theorem PurseAt.upd {H : Hp} {p a : Addr} {c : Int} {n : Nat} {o : HO} (pa : PurseAt H p c n) (ne : a ≠ p) : PurseAt (L2.upd H a o) p c n := by
  obtain ⟨b, t, z, e, q⟩ := pa
  exact ⟨b, t, z, by rw [upd_ne (Ne.symm ne)]; exact e, q⟩
theorem SameX.updN {p a : Addr} {H H' : Hp} {o : HO} (s : SameX p H H') (hn : H a = none) : SameX p H (L2.upd H' a o) := fun b u nb e => by
  rw [upd_ne (ne_of_none e hn)]
  exact s b u nb e
theorem SameX.none {p a : Addr} {H H' : Hp} (s : SameX p H H') (hn : H' a = none) (ne : a ≠ p) : H a = none := by
  cases e : H a with
  | none => rfl
  | some o =>
    rw [s a o ne e] at hn
    cases hn
def spShuffled : Sp := fun vs H Q _ => ∃ (p l : Addr) (xs : List V) (c : Int) (n : Nat), vs = [.ref p, .ref l] ∧ PurseAt H p c (n + xs.length) ∧ H l = some (.lst xs) ∧ l ≠ p ∧ xs.length ≤ 1000 ∧
  ∀ (H' : Hp) (D : Addr) (ys : List V), ys.Perm xs → SameX p H H' → H D = none → H' D = some (.lst ys) → D ≠ p → PurseAt H' p c n → Q (.ref D) H'
section
variable {P : Program} {w : World} {K : PySem.W.Frag} {mg : Str → Option Value} {base : Heap}
theorem ok_shuffled {f : Addr} {fd : FuncData} (F : Fun K "_law_shuffled" "_law_shuffled" s_shuffled f fd) (T : Bt mg) (CD : Has P w K mg base 2 "_law_draw" ["_law_purse_here", "_law_many"] spDraw) :
    FnOk P w K mg base CX0 3 f fd ["_law_purse_here", "_law_some"] spShuffled := by
  obtain ⟨fD, fdD, GD, mD, kD, bD⟩ := CD
  refine F.ok c_shuffled (fun vs H Q E h => ?_) (fun cdv A outer s H vs Q E hr h => ?_)
  · obtain ⟨_, _, _, _, _, rfl, _⟩ := h
    rfl
  · obtain ⟨p, l, xs, c, n, rfl, pa, hl, ne, l2, k⟩ := h
    have hr2 : Room 2 _ := hr.mono (by decide)
    refine ⟨_, pss_cons (ps_set (i := 2) c_shuffled.nd rfl (Or.inl rfl) (pe_lst pa_nil))
      (pss_cons (ps_for PassesOwn.never rfl (pi_list (pv 1)) (pg_name (i := 3) c_shuffled.nd rfl (Or.inl rfl))
        (pss_one (ps_expr (pe_bm PySem.F.plainAttrs_list PySem.F.slot_list_insert PySem.F.type_list_insert mt_insert (pv 2)
          (pa_cons (pe_call GD hr2 rfl mD kD bD .nil pass0 (pa_cons (pv 0) (pa_cons (pe_op op_add (pe_callB call_len_seq (by rfl) T.len PySem.boot_len (pa_cons (pv 2) pa_nil)) pe_int) pa_nil))) (pa_cons (pv 3) pa_nil))))))
      (pss_one (ps_ret (pv 2)))), ?_⟩
    refine ⟨Nat.zero_le _, fun D hD => ?_⟩
    have nDp := purse_none pa hD
    have hl0 : upd H D (.lst []) l = some (.lst xs) := by rw [upd_ne (ne_of_none hl hD)]; exact hl
    refine ⟨_, rfl, l, rfl, ⟨xs, SqL.of hl0⟩, ?_⟩
    refine for_list (xs := xs) (fun i σ H' => ∃ (ys : List V) (v : Option V), σ = [some (.ref p), some (.ref l), some (.ref D), v] ∧ ys.Perm (xs.take i) ∧ SameX p H H' ∧ H' D = some (.lst ys) ∧ PurseAt H' p c (n + (xs.length - i)))
      ⟨[], none, rfl, List.Perm.nil, (SameX.refl p H).updN hD, upd_same, (pa.upd nDp)⟩ ?_ ?_ ?_
    · rintro i σ H' hi ⟨ys, v, rfl, _, sx, _⟩
      exact SqL.of (sx l _ ne hl)
    · rintro i x σ H' hx ⟨ys, v, rfl, pm, sx, hd, pa'⟩
      have il : i < xs.length := (List.getElem?_eq_some_iff.mp hx).1
      have ly : ys.length = i := by rw [pm.length_eq, List.length_take]; omega
      have e1 : n + (xs.length - i) = n + (xs.length - (i + 1)) + 1 := by omega
      rw [e1] at pa'
      refine ⟨_, rfl, .inl ⟨rfl, _, SqL.of hd⟩, ?_⟩
      refine ⟨_, rfl, _, rfl, D, _, rfl, .inl (SqL.of hd), _, _, rfl, rfl, p, _, c, _, rfl, pa', by omega, by omega, fun H2 r r0 r1 sx2 pa2 => ?_⟩
      have hd2 := sx2 D _ nDp hd
      refine ⟨_, rfl, D, ys, r, x, rfl, rfl, hd2, by rw [sizeLine_eq]; omega, r0, by omega, ?_⟩
      refine ⟨ys.take r.toNat ++ [x] ++ ys.drop r.toNat, some x, rfl, ?_, (sx.trans sx2).updN hD, upd_same, pa2.upd nDp⟩
      have h1 : (ys.take r.toNat ++ [x] ++ ys.drop r.toNat).Perm (x :: ys) := by
        have z : (ys.take r.toNat ++ x :: ys.drop r.toNat).Perm (x :: (ys.take r.toNat ++ ys.drop r.toNat)) := List.perm_middle
        rw [List.take_append_drop] at z
        simpa using z
      have h2 : (xs.take (i + 1)).Perm (x :: xs.take i) := by
        rw [List.take_succ, hx]
        exact List.perm_append_singleton x _
      exact h1.trans ((pm.cons x).trans h2.symm)
    · rintro σ H' ⟨ys, v, rfl, pm, sx, hd, pa'⟩
      refine ⟨_, rfl, ?_⟩
      rw [List.take_length] at pm
      exact k H' D ys pm sx hD hd nDp (pa'.less (by omega))
end
end Wd
end
section
set_option maxRecDepth 100000
set_option maxHeartbeats 4000000
namespace Kx
open PySem PySem.Spec PyProof.Rows L2
/-- the signs of a text, each a text -/
def signs (z : Str) : List V := z.cps.toList.map fun c => V.str ⟨#[c]⟩
theorem vals_signs {z : Str} {acc : Array Value} (h : ItemsOf (SignAt z) acc z.cps.size) : Vals (signs z) acc.toList := by
  obtain ⟨sz, at_⟩ := h
  have key : ∀ (k : Nat) (l : List Nat) (vs : List Value), l.length = vs.length → (∀ (j : Nat) (c : Nat) (v : Value), l[j]? = some c → vs[j]? = some v → ∃ t, v = Value.str ⟨#[c]⟩ t) → Vals (l.map fun c => V.str ⟨#[c]⟩) vs := by
    intro k l
    induction l with
    | nil =>
      intro vs e _
      cases vs with
      | nil => exact .nil
      | cons v vs => simp at e
    | cons c l ih =>
      intro vs e q
      cases vs with
      | nil => simp at e
      | cons v vs =>
        obtain ⟨t, rfl⟩ := q 0 c v rfl rfl
        exact .cons ⟨t, rfl⟩ (ih vs (by simpa using e) fun j c' v' h1 h2 => q (j + 1) c' v' (by simpa using h1) (by simpa using h2))
  refine key 0 z.cps.toList acc.toList (by rw [Array.length_toList, Array.length_toList, sz]) fun j c v hc hv => ?_
  have hv' : acc[j]? = some v := by rw [← Array.getElem?_toList]; exact hv
  have hc' : z.cps[j]? = some c := by rw [← Array.getElem?_toList]; exact hc
  have q := at_ j v hv'
  unfold SignAt at q
  obtain ⟨c2, t, e1, e2⟩ := q
  rw [hc'] at e1
  exact ⟨t, by rw [e2, Option.some.inj e1]⟩
def rListS : List V → Hp → VK → Prop := fun vs H Q => ∃ z : Str, vs = [.str z] ∧ z.cps.size ≤ 1000 ∧ ∀ l, H l = none → Q (.ref l) (upd H l (.lst (signs z)))
theorem cr_listS {X : Cx} (hc : X.calm = true) : CallR X (.type "list") rListS := by
  intro pins s σ H vs us Q I r h
  obtain ⟨z, rfl, few, q⟩ := h
  obtain ⟨u, rfl, rx⟩ := vals1 r
  obtain ⟨t, rfl⟩ := rx
  refine call_list_str (I.ok.hd hc) z t (fun h' tk acc c' k g it => ?_) (by rw [sizeLine_eq]; omega)
  have len : (signs z).length ≤ sizeLine := by
    unfold signs
    rw [List.length_map, Array.length_toList, sizeLine_eq]
    omega
  exact ⟨.ref s.heap.objs.size, _, I.laid (t' := tk) k (Nat.le_refl _) (show ObjOk X.prog X.w _ h' _ (.lst (signs z)) from ⟨len, acc.toList, c', vals_signs it, by simpa using g⟩), rfl, q _ (I.hok.fresh (Nat.le_refl _))⟩
end Kx
end
section
set_option maxRecDepth 100000
set_option maxHeartbeats 4000000
namespace Wd
open PySem L2
theorem sIx_n (n d k : Nat) : HT.sIx n d (some (k : Int)) = min k n := HT.sIx_nat n d k
theorem cut_lo (z : Str) (k : Nat) : (cutS z none (some (k : Int))).cps.toList = z.cps.toList.take k := by
  have e0 : HT.sIx z.length 0 none = 0 := rfl
  unfold cutS
  rw [sIx_n, e0, List.drop_zero, Nat.sub_zero]
  show z.cps.toList.take (min k z.cps.size) = _
  rw [← Array.length_toList, ← List.take_take, List.take_length]
theorem cut_hi (z : Str) (k : Nat) : (cutS z (some (k : Int)) none).cps.toList = z.cps.toList.drop k := by
  have e0 : HT.sIx z.length z.length none = z.length := rfl
  unfold cutS
  rw [sIx_n, e0]
  show (z.cps.toList.drop (min k z.cps.size)).take (z.cps.size - min k z.cps.size) = _
  by_cases h : k ≤ z.cps.size
  · rw [Nat.min_eq_left h, List.take_of_length_le (by rw [List.length_drop, Array.length_toList]; exact Nat.le_refl _)]
  · rw [Nat.min_eq_right (by omega), Nat.sub_self, List.take_zero, List.drop_eq_nil_of_le (by rw [Array.length_toList]; omega)]
theorem in_strs (x : Str) (xs : List Str) : inV (.str x) (xs.map V.str) = decide (x ∈ xs) := by
  unfold inV
  rw [List.any_map]
  induction xs with
  | nil => simp
  | cons y ys ih =>
    rw [List.any_cons, ih]
    show ((y == x) || decide (x ∈ ys)) = decide (x ∈ y :: ys)
    by_cases h : x = y
    · subst h
      simp
    · have h' : (y == x) = false := beq_eq_false_iff_ne.mpr (Ne.symm h)
      rw [h', Bool.false_or]
      exact decide_eq_decide.mpr ⟨fun z => List.mem_cons_of_mem _ z, fun z => by
        rcases List.mem_cons.mp z with e | z
        · exact absurd e h
        · exact z⟩
theorem flat_strs' (xs : List Str) : (xs.map V.str).all flatV = true := by
  rw [List.all_map]
  exact List.all_eq_true.mpr fun _ _ => rfl
def abc : Str := "abcdefghijklmnopqrstuvwxyz"
def spWords : Sp := fun vs H Q _ => ∃ (p : Addr) (many : Nat) (c : Int) (n : Nat), vs = [.ref p, .int many] ∧ PurseAt H p c (n + 200) ∧ many ≤ 9 ∧
  ∀ (H' : Hp) (D : Addr) (xs : List Str), xs.length = many → xs.Nodup → (∀ x ∈ xs, IsW x) → SameX p H H' → H D = none → H' D = some (.lst (xs.map V.str)) → D ≠ p → PurseAt H' p c n → Q (.ref D) H'
theorem isW_mid {z : Str} {k ch : Nat} (h : IsW z) (hk : k < z.cps.toList.length) (hc : 97 ≤ ch ∧ ch ≤ 122) : IsW (cutS z none (some (k : Int)) ++ ⟨#[ch]⟩ ++ cutS z (some ((k : Int) + 1)) none) := by
  obtain ⟨h1, h2, h3⟩ := h
  have e : ∀ a b : Str, (a ++ b).cps.toList = a.cps.toList ++ b.cps.toList := fun a b => Array.toList_append
  have ek : (k : Int) + 1 = ((k + 1 : Nat) : Int) := by omega
  have l : (cutS z none (some (k : Int)) ++ ⟨#[ch]⟩ ++ cutS z (some ((k : Int) + 1)) none).cps.toList = z.cps.toList.take k ++ [ch] ++ z.cps.toList.drop (k + 1) := by
    rw [e, e, cut_lo, ek, cut_hi]
  unfold IsW
  rw [l]
  refine ⟨?_, ?_, fun c hm => ?_⟩
  · simp only [List.length_append, List.length_singleton]
    omega
  · simp only [List.length_append, List.length_singleton, List.length_take, List.length_drop]
    omega
  · rcases List.mem_append.mp hm with hm | hm
    · rcases List.mem_append.mp hm with hm | hm
      · exact h3 c (List.mem_of_mem_take hm)
      · rw [List.mem_singleton.mp hm]
        exact hc
    · exact h3 c (List.mem_of_mem_drop hm)
/-- the letters, each a text -/
def abcL : List Str := abc.cps.toList.map fun c => ⟨#[c]⟩
theorem sign_at {j : Nat} {v : V} (h : (Kx.signs abc)[j]? = some v) : ∃ z, abcL[j]? = some z ∧ v = .str z := by
  unfold Kx.signs at h
  rw [List.getElem?_map] at h
  obtain ⟨c, hc, e⟩ := Option.map_eq_some_iff.mp h
  exact ⟨⟨#[c]⟩, by unfold abcL; rw [List.getElem?_map, hc]; rfl, e.symm⟩
theorem take_next {α : Type} {l : List α} {i : Nat} {x : α} (h : l[i]? = some x) : l.take (i + 1) = l.take i ++ [x] := by
  rw [List.take_succ, h]
  rfl
theorem abc_codes : ((List.range 26).all fun n => decide ((⟨#[97 + n]⟩ : Str) ∈ abcL)) = true ∧ (abcL.all fun z => decide (z.cps.toList.length = 1) && z.cps.toList.all fun c => decide (97 ≤ c) && decide (c ≤ 122)) = true := by decide +kernel
theorem flt_le (xs : List Str) (j : Nat) : ((abcL.take j).filter fun z => decide (z ∉ xs)).length ≤ 26 := by
  have h1 := List.length_filter_le (fun z => decide (z ∉ xs)) (abcL.take j)
  rw [List.length_take] at h1
  have h2 : abcL.length = 26 := rfl
  omega
theorem pigeons : ∀ (l D : List Nat), l.Nodup → (∀ x ∈ l, x ∈ D) → l.length ≤ D.length
  | [], _, _, _ => Nat.zero_le _
  | x :: l, D, hn, hs => by
    obtain ⟨h1, h2⟩ := List.nodup_cons.mp hn
    have hx : x ∈ D := hs x List.mem_cons_self
    have ih := pigeons l (D.erase x) h2 fun y hy => (List.mem_erase_of_ne (fun e => h1 (by rw [← e]; exact hy))).2 (hs y (List.mem_cons_of_mem _ hy))
    have e := List.length_erase_of_mem hx
    have hp : 0 < D.length := List.length_pos_of_mem hx
    rw [List.length_cons]
    omega
/-- fewer than 26 texts leave a letter out -/
theorem some_letter (xs : List Str) (h : xs.length < 26) : ∃ y, (y ∉ xs ∧ IsW y) ∧ (abcL.filter fun z => decide (z ∉ xs))[0]? = some y := by
  cases e : abcL.filter fun z => decide (z ∉ xs) with
  | nil =>
    exfalso
    have all : ∀ n ∈ List.range 26, n ∈ xs.map fun z => z.cps.toList.headD 0 - 97 := fun n hn => by
      have m := of_decide_eq_true (List.all_eq_true.mp abc_codes.1 n hn)
      have q : ¬ (⟨#[97 + n]⟩ : Str) ∉ xs := fun z => by
        have hm : (⟨#[97 + n]⟩ : Str) ∈ abcL.filter fun z => decide (z ∉ xs) := List.mem_filter.mpr ⟨m, decide_eq_true z⟩
        rw [e] at hm
        cases hm
      refine List.mem_map.mpr ⟨_, Classical.not_not.mp q, ?_⟩
      show 97 + n - 97 = n
      omega
    have l := pigeons (List.range 26) _ List.nodup_range all
    rw [List.length_range, List.length_map] at l
    omega
  | cons y ys =>
    have hm : y ∈ abcL.filter fun z => decide (z ∉ xs) := by rw [e]; exact List.mem_cons_self
    obtain ⟨h1, h2⟩ := List.mem_filter.mp hm
    have q := List.all_eq_true.mp abc_codes.2 y h1
    rw [Bool.and_eq_true] at q
    have l1 := of_decide_eq_true q.1
    refine ⟨y, ⟨of_decide_eq_true h2, by omega, by omega, fun c hc => ?_⟩, rfl⟩
    have r := List.all_eq_true.mp q.2 c hc
    simpa using r
section
variable {P : Program} {w : World} {K : PySem.W.Frag} {mg : Str → Option Value} {base : Heap}
set_option maxHeartbeats 1000000 in
theorem ok_words {f : Addr} {fd : FuncData} (F : Fun K "_law_words" "_law_words" s_words f fd) (T : Bt mg) (CD : Has P w K mg base 2 "_law_draw" ["_law_purse_here", "_law_many"] spDraw) (CW : Has P w K mg base 3 "_law_word" ["_law_purse_here"] spWord) :
    FnOk P w K mg base CX0 4 f fd ["_law_purse_here", "_law_many"] spWords := by
  obtain ⟨fD, fdD, GD, mD, kD, bD⟩ := CD
  obtain ⟨fW, fdW, GW, mW, kW, bW⟩ := CW
  refine F.ok c_words (fun vs H Q E h => ?_) (fun cdv A outer s H vs Q E hr h => ?_)
  · obtain ⟨_, _, _, _, rfl, _⟩ := h
    rfl
  · obtain ⟨p, many, c, n, rfl, pa, hm, k⟩ := h
    have hr2 : Room 2 _ := hr.mono (by decide)
    have hr3 : Room 3 _ := hr.mono (by decide)
    refine ⟨_, pss_cons (ps_par (i := 2) (j := 3) rfl c_words.nd rfl rfl (by decide) rfl rfl (pa_cons (pe_call GW hr3 rfl mW kW bW .nil pass0 (pa_cons (pv 0) pa_nil)) (pa_cons (pe_cmpR op_eq (pe_call GD hr2 rfl mD kD bD .nil pass0 (pa_cons (pv 0) (pa_cons pe_int pa_nil))) pe_int (nomark _)) pa_nil)) (by rfl))
      (pss_cons (ps_asg (pe_tup (pa_cons (pe_call GD hr2 rfl mD kD bD .nil pass0 (pa_cons (pv 0) (pa_cons (pe_callB call_len_str (by rfl) T.len PySem.boot_len (pa_cons (pv 2) pa_nil)) pa_nil))) (pa_cons (pe_lst pa_nil) pa_nil)))
        (pg_tup rfl (pgs_cons (pg_name (i := 4) c_words.nd rfl (Or.inl rfl)) (pgs_cons (pg_name (i := 5) c_words.nd rfl (Or.inr rfl)) pgs_nil))))
      (pss_cons (ps_for PassesOwn.never rfl (pi_range1 rfl T.range (pa_cons (pv 1) pa_nil)) (pg_name (i := 6) c_words.nd rfl (Or.inl rfl))
        (pss_cons (ps_set (i := 7) c_words.nd rfl (Or.inl rfl) (pe_op op_add_str (pe_op op_add_str (pe_slice sl_str (pv 2) po_none (po_some (pv 4))) (pe_ix ix_str pe_str (pe_call GD hr2 rfl mD kD bD .nil pass0 (pa_cons (pv 0) (pa_cons pe_int pa_nil))) (fun _ _ => rfl)))
            (pe_slice sl_str (pv 2) (po_some (pe_op op_add (pv 4) pe_int)) po_none)))
        (pss_cons (ps_if (pt_not (pt_val (pv 3))) (pss_one (ps_set (i := 7) c_words.nd rfl (Or.inl rfl) (pe_call GW hr3 rfl mW kW bW .nil pass0 (pa_cons (pv 0) pa_nil)))) pss_nil)
        (pss_cons (ps_if (pt_cmpR op_in_seq (pv 7) (pv 5) rfl) (pss_one (ps_set (i := 7) c_words.nd rfl (Or.inl rfl) (pe_ix ix_list (pe_lc (own := [("_law_letter", 8)]) (g := gName 8) rfl c_words.nd
            (pi_list (pe_callTy (Kx.cr_listS rfl) (by rfl) T.list (by decide +kernel) (pa_cons pe_str pa_nil)))
            (blkOk_by (N := ["_law_purse_here", "_law_many", "_law_base", "_law_near", "_law_spot", "_law_found", "_law_turn", "_law_word_here", "_law_letter"]) (sc := defScope s_words) (by decide +kernel)) (fun _ _ _ _ _ => pg_name (i := 8) c_words.nd rfl (Or.inl rfl)) (fun _ _ _ _ _ => pts_one (pt_cmpR (r := rIn K true) op_notIn_seq (pv 8) (pv 5) rfl))
            (fun _ _ _ _ _ => pv 8)) pe_int (fun _ _ => rfl)))) pss_nil)
        (pss_one (ps_expr (pe_bm PySem.F.plainAttrs_list PySem.F.slot_list_append PySem.F.type_list_append mt_append (pv 5) (pa_cons (pv 7) pa_nil))))))))
      (pss_one (ps_ret (pv 5))))), ?_⟩
    refine ⟨_, rfl, p, c, n + 190, rfl, pa, fun H1 x hx sx1 pa1 => ?_⟩
    refine ⟨_, rfl, p, _, c, n + 189, rfl, pa1, by decide, by decide, fun H2 r r0 r1 sx2 pa2 => ⟨rfl, _, _, rfl, ?_⟩⟩
    have lx : x.length = x.cps.toList.length := Array.length_toList.symm
    have lx1 : 1 ≤ x.length := by rw [lx]; exact hx.1
    have lx8 : x.length ≤ 8 := by rw [lx]; exact hx.2.1
    have lxs : x.length ≤ sizeLine := by rw [sizeLine_eq]; omega
    refine ⟨_, rfl, _, rfl, x, rfl, lxs, p, _, c, n + 188, rfl, pa2, by omega, by omega, fun H3 q q0 q1 sx3 pa3 => ?_⟩
    refine ⟨Nat.zero_le _, fun D hD => ⟨by show 2 ≤ sizeLine; decide, fun t ht => ⟨t, _, rfl, SqT.of upd_same, rfl, _, _, rfl, _, _, rfl, rfl, ?_⟩⟩⟩
    obtain ⟨q, rfl⟩ : ∃ m : Nat, q = (m : Int) := ⟨q.toNat, by omega⟩
    have nDp := purse_none pa3 hD
    have sx03 : SameX p H H3 := (sx1.trans sx2).trans sx3
    have nD : H D = none := sx03.none hD nDp
    have ht3 : H3 t = none := by
      have tD : t ≠ D := fun e => by
        rw [e, upd_same] at ht
        cases ht
      rw [upd_ne tD] at ht
      exact ht
    have tp := purse_none pa3 ht3
    have nT : H t = none := sx03.none ht3 tp
    have tD : D ≠ t := ne_of_none upd_same ht
    refine ⟨_, rfl, (many : Int), rfl, by omega, by omega, ?_⟩
    refine for_range (lo := 0) (n := (many : Int).toNat) (fun i σ H' => ∃ (xs : List Str) (v6 v7 : Option V), σ = [some (.ref p), some (.int many), some (.str x), some (.bl (decide (V.int r = V.int 0))), some (.int q), some (.ref D), v6, v7, none] ∧ xs.length = i ∧ xs.Nodup ∧ (∀ z ∈ xs, IsW z) ∧ SameX p H H' ∧ H' D = some (.lst (xs.map V.str)) ∧ PurseAt H' p c (n + (9 - i) * 20))
      ⟨[], none, none, rfl, rfl, List.nodup_nil, (fun _ h => nomatch h), (sx03.updN nD).updN nT, by rw [upd_ne tD, upd_same]; rfl, ((pa3.upd nDp).upd tp).less (by omega)⟩ ?_ ?_
    · rintro i σ H' hi ⟨xs, v6, v7, rfl, li, nd, hw, sx, hd, pa'⟩
      have i8 : i ≤ 8 := by omega
      have m1 : n + (9 - i) * 20 = n + (9 - (i + 1)) * 20 + 10 + 9 + 1 := by omega
      rw [m1] at pa'
      refine ⟨_, rfl, _, rfl, _, rfl, x, rfl, lxs, _, rfl, p, _, c, _, rfl, pa', by decide, by decide, fun H4 u u0 u1 sx4 pa4 => ?_⟩
      obtain ⟨j, rfl⟩ : ∃ j : Nat, u = (j : Int) := ⟨u.toNat, by omega⟩
      obtain ⟨ch, hch, hlt⟩ := letters (n := j) (by omega)
      have hd4 := sx4 _ _ nDp hd
      have wy := isW_mid (k := q) (ch := ch) hx (by rw [← lx]; omega) hlt
      have cl1 := cutS_length x none (some (q : Int))
      have cl2 := cutS_length x (some ((q : Int) + 1)) none
      refine ⟨_, _, ch, rfl, rfl, by decide, atI_nat hch, _, _, rfl, rfl, ?_, _, rfl, _, rfl, _, _, rfl, rfl, _, rfl, x, rfl, lxs, _, _, rfl, rfl, ?_, ?_⟩
      · show _ + 1 ≤ _
        rw [sizeLine_eq]
        omega
      · show (cutS x none (some (q : Int)) ++ (⟨#[ch]⟩ : Str)).cps.size + _ ≤ _
        have e9 : (cutS x none (some (q : Int)) ++ (⟨#[ch]⟩ : Str)).cps.size = (cutS x none (some (q : Int))).length + 1 := Array.size_append
        rw [e9, sizeLine_eq]
        omega
      refine ⟨_, rfl, _, rfl, ?_⟩
      refine ite2 (fun _ => ?_) (fun _ => ?_)
      · refine ⟨_, rfl, p, c, _, rfl, pa4.less (m := n + (9 - (i + 1)) * 20 + 10) (by omega), fun H5 y hy sx5 pa5 => ?_⟩
        have hd5 := sx5 _ _ nDp hd4
        refine ⟨_, rfl, _, rfl, D, _, rfl, .inl (SqL.of hd5), rfl, flat_strs' xs, _, rfl, ?_⟩
        rw [if_neg (by decide), in_strs]
        refine ite2 (fun hin => ?_) (fun hno => ?_)
        · refine ⟨abc, rfl, by decide, fun l hl => ⟨l, rfl, ⟨_, SqL.of upd_same⟩, fun D2 hD2 => ?_⟩⟩
          have lD2 : l ≠ D2 := ne_of_none upd_same hD2
          have Dl : D ≠ l := ne_of_none hd5 hl
          have hdl : upd H5 l (.lst (Kx.signs abc)) D = some (.lst (xs.map V.str)) := by rw [upd_ne Dl]; exact hd5
          have DD2 : D ≠ D2 := ne_of_none hdl hD2
          refine lc_list (xs := Kx.signs abc) (fun j H' => H' = upd (upd H5 l (.lst (Kx.signs abc))) D2 (.lst ((((abcL.take j).filter fun z => decide (z ∉ xs)).map V.str)))) rfl (fun j H' _ e => ?_) ?_ ?_
          · rw [e]
            exact SqL.of (by rw [upd_ne lD2, upd_same])
          · rintro j v H' hv rfl
            obtain ⟨z, hz, rfl⟩ := sign_at hv
            refine ⟨rfl, _, rfl, _, rfl, D, _, rfl, .inl (SqL.of (by rw [upd_ne DD2]; exact hdl)), rfl, flat_strs' xs, _, rfl, ?_⟩
            rw [if_pos rfl, in_strs]
            have nx : (abcL.take (j + 1)).filter (fun z => decide (z ∉ xs)) = (abcL.take j).filter (fun z => decide (z ∉ xs)) ++ (if z ∈ xs then [] else [z]) := by
              rw [take_next hz, List.filter_append]
              by_cases c : z ∈ xs <;> simp [c]
            refine ite2 (fun hb => ?_) (fun hb => ?_)
            · have c : z ∉ xs := by simpa using hb
              refine ⟨_, rfl, _, upd_same, by rw [List.length_map, sizeLine_eq]; have := flt_le xs j; omega, ?_⟩
              show upd _ _ _ = upd _ _ _
              rw [upd_upd, nx, if_neg c, List.map_append]
              rfl
            · have c : z ∈ xs := by simpa using hb
              show upd _ _ _ = upd _ _ _
              rw [nx, if_pos c, List.append_nil]
          · rintro H' rfl
            obtain ⟨y2, hy2, e2⟩ := some_letter xs (by omega)
            have e3 : (abcL.take (Kx.signs abc).length).filter (fun z => decide (z ∉ xs)) = abcL.filter fun z => decide (z ∉ xs) := by
              rw [List.take_of_length_le (by decide)]
            refine ⟨D2, _, ((0 : Nat) : Int), .str y2, rfl, rfl, SqL.of upd_same, atI_nat ?_, ?_⟩
            · rw [e3, List.getElem?_map, e2]
              rfl
            have hdz : upd (upd H5 l (.lst (Kx.signs abc))) D2 (.lst (((abcL.take (Kx.signs abc).length).filter fun z => decide (z ∉ xs)).map V.str)) D = some (.lst (xs.map V.str)) := by rw [upd_ne DD2]; exact hdl
            have pl : l ≠ p := purse_none pa5 hl
            have hD2' : H5 D2 = none := by
              rw [upd_ne (Ne.symm lD2)] at hD2
              exact hD2
            have pD2 : D2 ≠ p := purse_none pa5 hD2'
            have sxz : SameX p H (upd (upd H5 l (.lst (Kx.signs abc))) D2 (.lst (((abcL.take (Kx.signs abc).length).filter fun z => decide (z ∉ xs)).map V.str))) :=
              (((sx.trans sx4).trans sx5).updN (((sx.trans sx4).trans sx5).none hl pl)).updN (((sx.trans sx4).trans sx5).none hD2' pD2)
            have nin2 : y2 ∉ xs := hy2.1
            refine ⟨_, rfl, .inl ⟨rfl, _, SqL.of hdz⟩, _, rfl, D, _, _, rfl, rfl, hdz, by rw [List.length_map, sizeLine_eq]; omega, ?_⟩
            refine ⟨xs ++ [y2], some (.int (0 + (i : Int))), some (.str y2), rfl, by rw [List.length_append, List.length_singleton]; omega, ?_, fun z hz => ?_, (sxz).updN nD, by rw [upd_same]; simp, (((pa5).upd pl).upd pD2).upd nDp⟩
            · rw [List.nodup_append]
              exact ⟨nd, by simp, fun a ha b hb => by
                rw [List.mem_singleton.mp hb]
                rintro rfl
                exact nin2 ha⟩
            · rcases List.mem_append.mp hz with hz | hz
              · exact hw z hz
              · rw [List.mem_singleton.mp hz]
                exact hy2.2
        · have c : y ∉ xs := by simpa using hno
          refine ⟨_, rfl, .inl ⟨rfl, _, SqL.of hd5⟩, _, rfl, D, _, _, rfl, rfl, hd5, by rw [List.length_map, sizeLine_eq]; omega, ?_⟩
          refine ⟨xs ++ [y], some (.int (0 + (i : Int))), some (.str y), rfl, by rw [List.length_append, List.length_singleton]; omega, ?_, fun z hz => ?_, ((sx.trans sx4).trans sx5).updN nD, by rw [upd_same]; simp, (pa5).upd nDp⟩
          · rw [List.nodup_append]
            exact ⟨nd, by simp, fun a ha b hb => by
              rw [List.mem_singleton.mp hb]
              rintro rfl
              exact c ha⟩
          · rcases List.mem_append.mp hz with hz | hz
            · exact hw z hz
            · rw [List.mem_singleton.mp hz]
              exact hy
      · have pa5 := pa4.less (m := n + (9 - (i + 1)) * 20) (by omega)
        generalize cutS x none (some (q : Int)) ++ (⟨#[ch]⟩ : Str) ++ cutS x (some ((q : Int) + 1)) none = y at wy ⊢
        refine ⟨_, rfl, _, rfl, D, _, rfl, .inl (SqL.of hd4), rfl, flat_strs' xs, _, rfl, ?_⟩
        rw [if_neg (by decide), in_strs]
        refine ite2 (fun hin => ?_) (fun hno => ?_)
        · refine ⟨abc, rfl, by decide, fun l hl => ⟨l, rfl, ⟨_, SqL.of upd_same⟩, fun D2 hD2 => ?_⟩⟩
          have lD2 : l ≠ D2 := ne_of_none upd_same hD2
          have Dl : D ≠ l := ne_of_none hd4 hl
          have hdl : upd H4 l (.lst (Kx.signs abc)) D = some (.lst (xs.map V.str)) := by rw [upd_ne Dl]; exact hd4
          have DD2 : D ≠ D2 := ne_of_none hdl hD2
          refine lc_list (xs := Kx.signs abc) (fun j H' => H' = upd (upd H4 l (.lst (Kx.signs abc))) D2 (.lst ((((abcL.take j).filter fun z => decide (z ∉ xs)).map V.str)))) rfl (fun j H' _ e => ?_) ?_ ?_
          · rw [e]
            exact SqL.of (by rw [upd_ne lD2, upd_same])
          · rintro j v H' hv rfl
            obtain ⟨z, hz, rfl⟩ := sign_at hv
            refine ⟨rfl, _, rfl, _, rfl, D, _, rfl, .inl (SqL.of (by rw [upd_ne DD2]; exact hdl)), rfl, flat_strs' xs, _, rfl, ?_⟩
            rw [if_pos rfl, in_strs]
            have nx : (abcL.take (j + 1)).filter (fun z => decide (z ∉ xs)) = (abcL.take j).filter (fun z => decide (z ∉ xs)) ++ (if z ∈ xs then [] else [z]) := by
              rw [take_next hz, List.filter_append]
              by_cases c : z ∈ xs <;> simp [c]
            refine ite2 (fun hb => ?_) (fun hb => ?_)
            · have c : z ∉ xs := by simpa using hb
              refine ⟨_, rfl, _, upd_same, by rw [List.length_map, sizeLine_eq]; have := flt_le xs j; omega, ?_⟩
              show upd _ _ _ = upd _ _ _
              rw [upd_upd, nx, if_neg c, List.map_append]
              rfl
            · have c : z ∈ xs := by simpa using hb
              show upd _ _ _ = upd _ _ _
              rw [nx, if_pos c, List.append_nil]
          · rintro H' rfl
            obtain ⟨y2, hy2, e2⟩ := some_letter xs (by omega)
            have e3 : (abcL.take (Kx.signs abc).length).filter (fun z => decide (z ∉ xs)) = abcL.filter fun z => decide (z ∉ xs) := by
              rw [List.take_of_length_le (by decide)]
            refine ⟨D2, _, ((0 : Nat) : Int), .str y2, rfl, rfl, SqL.of upd_same, atI_nat ?_, ?_⟩
            · rw [e3, List.getElem?_map, e2]
              rfl
            have hdz : upd (upd H4 l (.lst (Kx.signs abc))) D2 (.lst (((abcL.take (Kx.signs abc).length).filter fun z => decide (z ∉ xs)).map V.str)) D = some (.lst (xs.map V.str)) := by rw [upd_ne DD2]; exact hdl
            have pl : l ≠ p := purse_none pa5 hl
            have hD2' : H4 D2 = none := by
              rw [upd_ne (Ne.symm lD2)] at hD2
              exact hD2
            have pD2 : D2 ≠ p := purse_none pa5 hD2'
            have sxz : SameX p H (upd (upd H4 l (.lst (Kx.signs abc))) D2 (.lst (((abcL.take (Kx.signs abc).length).filter fun z => decide (z ∉ xs)).map V.str))) :=
              ((sx.trans sx4).updN ((sx.trans sx4).none hl pl)).updN ((sx.trans sx4).none hD2' pD2)
            have nin2 : y2 ∉ xs := hy2.1
            refine ⟨_, rfl, .inl ⟨rfl, _, SqL.of hdz⟩, _, rfl, D, _, _, rfl, rfl, hdz, by rw [List.length_map, sizeLine_eq]; omega, ?_⟩
            refine ⟨xs ++ [y2], some (.int (0 + (i : Int))), some (.str y2), rfl, by rw [List.length_append, List.length_singleton]; omega, ?_, fun z hz => ?_, (sxz).updN nD, by rw [upd_same]; simp, (((pa5).upd pl).upd pD2).upd nDp⟩
            · rw [List.nodup_append]
              exact ⟨nd, by simp, fun a ha b hb => by
                rw [List.mem_singleton.mp hb]
                rintro rfl
                exact nin2 ha⟩
            · rcases List.mem_append.mp hz with hz | hz
              · exact hw z hz
              · rw [List.mem_singleton.mp hz]
                exact hy2.2
        · have c : y ∉ xs := by simpa using hno
          refine ⟨_, rfl, .inl ⟨rfl, _, SqL.of hd4⟩, _, rfl, D, _, _, rfl, rfl, hd4, by rw [List.length_map, sizeLine_eq]; omega, ?_⟩
          refine ⟨xs ++ [y], some (.int (0 + (i : Int))), some (.str y), rfl, by rw [List.length_append, List.length_singleton]; omega, ?_, fun z hz => ?_, (sx.trans sx4).updN nD, by rw [upd_same]; simp, (pa5).upd nDp⟩
          · rw [List.nodup_append]
            exact ⟨nd, by simp, fun a ha b hb => by
              rw [List.mem_singleton.mp hb]
              rintro rfl
              exact c ha⟩
          · rcases List.mem_append.mp hz with hz | hz
            · exact hw z hz
            · rw [List.mem_singleton.mp hz]
              exact wy
    · rintro σ H' ⟨xs, v6, v7, rfl, li, nd, hw, sx, hd, pa'⟩
      exact ⟨_, rfl, k H' D xs (by simpa using li) nd hw sx nD hd nDp (pa'.less (by omega))⟩
end
end Wd
end
section
set_option maxRecDepth 100000
set_option maxHeartbeats 4000000
namespace Wd
open PySem PySem.Spec PyProof.Rows L2
/-! ### the order of texts -/
def Lt (a b : Str) : Prop := a.cps.toList < b.cps.toList
instance (a b : Str) : Decidable (Lt a b) := inferInstanceAs (Decidable (a.cps.toList < b.cps.toList))
theorem Lt.irr (a : Str) : ¬ Lt a a := List.lt_irrefl _
theorem Lt.tr {a b c : Str} (h : Lt a b) (k : Lt b c) : Lt a c := List.lt_trans h k
theorem str_eq {a b : Str} (h : a.cps.toList = b.cps.toList) : a = b := by
  cases a
  cases b
  exact congrArg Str.mk (Array.toList_inj.mp h)
theorem Lt.tri (a b : Str) : Lt a b ∨ a = b ∨ Lt b a := by
  by_cases h : Lt a b
  · exact .inl h
  · by_cases k : Lt b a
    · exact .inr (.inr k)
    · exact .inr (.inl (str_eq (List.le_antisymm k h)))
/-- strictly ascending -/
def Asc (xs : List Str) : Prop := xs.Pairwise Lt
theorem asc_of_rising : ∀ (p : Str) (l : List Str), risingS p l = true → (p :: l).Nodup → (p :: l).Pairwise Lt
  | p, [], _, _ => List.pairwise_singleton _ _
  | p, x :: r, h, nd => by
    have h' : (!ltCps x.cps.toList p.cps.toList && risingS x r) = true := h
    rw [Bool.and_eq_true] at h'
    obtain ⟨n1, n2⟩ := List.nodup_cons.mp nd
    have ih := asc_of_rising x r h'.2 n2
    have px : Lt p x := by
      have a : ¬ Lt x p := fun z => by
        have e : ltCps x.cps.toList p.cps.toList = true := by
          rw [ltCps_eq]
          exact decide_eq_true z
        rw [e] at h'
        cases h'.1
      rcases Lt.tri p x with z | z | z
      · exact z
      · exact absurd (by rw [z]; exact List.mem_cons_self) n1
      · exact absurd z a
    refine List.pairwise_cons.mpr ⟨fun y hy => ?_, ih⟩
    rcases List.mem_cons.mp hy with e | hy
    · rw [e]
      exact px
    · exact px.tr ((List.pairwise_cons.mp ih).1 y hy)
theorem asc_of_sorted {l : List Str} (h : sortedS l = true) (nd : l.Nodup) : Asc l := by
  cases l with
  | nil => exact List.Pairwise.nil
  | cons p r => exact asc_of_rising p r h nd
end Wd
end
section
set_option maxRecDepth 100000
set_option maxHeartbeats 4000000
namespace Wd
open PySem L2
theorem cutV_lo (xs : List V) (k : Nat) : cutV xs none (some (k : Int)) = xs.take k := by
  have e0 : HT.sIx xs.length 0 none = 0 := rfl
  unfold cutV
  rw [sIx_n, e0, List.drop_zero, Nat.sub_zero, ← List.take_take, List.take_length]
theorem cutV_hi (xs : List V) (k : Nat) : cutV xs (some (k : Int)) none = xs.drop k := by
  have e0 : HT.sIx xs.length xs.length none = xs.length := rfl
  unfold cutV
  rw [sIx_n, e0]
  by_cases h : k ≤ xs.length
  · rw [Nat.min_eq_left h, List.take_of_length_le (by rw [List.length_drop]; exact Nat.le_refl _)]
  · rw [Nat.min_eq_right (by omega), Nat.sub_self, List.take_zero, List.drop_eq_nil_of_le (by omega)]
def exL : List Str := ["put", "take", "deed", "wish", "leave", "come", "even", "odd", "part"]
theorem exL_ok : exL.Nodup ∧ (exL.all fun z => decide (1 ≤ z.cps.toList.length) && decide (z.cps.toList.length ≤ 8) && z.cps.toList.all fun c => decide (97 ≤ c) && decide (c ≤ 122)) = true := by decide +kernel
theorem exL_w : ∀ z ∈ exL, IsW z := fun z hz => by
  have q := List.all_eq_true.mp exL_ok.2 z hz
  rw [Bool.and_eq_true, Bool.and_eq_true] at q
  refine ⟨of_decide_eq_true q.1.1, of_decide_eq_true q.1.2, fun c hc => ?_⟩
  have r := List.all_eq_true.mp q.2 c hc
  simpa using r
/-- the people, mixed with the extra words -/
def mixW (ys xs : List Str) (many : Nat) : List Str := (ys.take 2 ++ xs.filter (fun z => decide (z ∉ exL)) ++ ys.drop 2).take many
theorem mixW_ok {ys xs : List Str} {many : Nat} (pm : ys.Perm exL) (nd : xs.Nodup) (hw : ∀ x ∈ xs, IsW x) (hm : many ≤ 9) : (mixW ys xs many).length = many ∧ (mixW ys xs many).Nodup ∧ ∀ z ∈ mixW ys xs many, IsW z := by
  have l9 : ys.length = 9 := pm.length_eq
  have pmm : (ys.take 2 ++ xs.filter (fun z => decide (z ∉ exL)) ++ ys.drop 2).Perm (ys ++ xs.filter (fun z => decide (z ∉ exL))) := by
    have a : (ys.take 2 ++ xs.filter (fun z => decide (z ∉ exL)) ++ ys.drop 2).Perm (ys.take 2 ++ (ys.drop 2 ++ xs.filter (fun z => decide (z ∉ exL)))) := by
      rw [List.append_assoc]
      exact List.Perm.append_left _ List.perm_append_comm
    rw [← List.append_assoc, List.take_append_drop] at a
    exact a
  have all : ∀ z ∈ mixW ys xs many, z ∈ ys ++ xs.filter (fun z => decide (z ∉ exL)) := fun z hz => pmm.mem_iff.mp (List.mem_of_mem_take hz)
  refine ⟨?_, ?_, fun z hz => ?_⟩
  · unfold mixW
    rw [List.length_take, pmm.length_eq, List.length_append]
    omega
  · refine List.Nodup.sublist (List.take_sublist _ _) (pmm.nodup_iff.mpr ?_)
    rw [List.nodup_append]
    refine ⟨pm.nodup_iff.mpr exL_ok.1, nd.filter _, fun a ha b hb => ?_⟩
    rintro rfl
    have h2 := (List.mem_filter.mp hb).2
    exact of_decide_eq_true h2 (pm.mem_iff.mp ha)
  · rcases List.mem_append.mp (all z hz) with h | h
    · exact exL_w z (pm.mem_iff.mp h)
    · exact hw z (List.mem_filter.mp h).1
def spPeople : Sp := fun vs H Q _ => ∃ (p : Addr) (many : Nat) (c : Int) (n : Nat), vs = [.ref p, .int many] ∧ PurseAt H p c (n + 300) ∧ many ≤ 9 ∧
  ∀ (H' : Hp) (D : Addr) (xs : List Str), xs.length = many → Asc xs → (∀ x ∈ xs, IsW x) → SameX p H H' → H D = none → H' D = some (.lst (xs.map V.str)) → D ≠ p → PurseAt H' p c n → Q (.ref D) H'
section
variable {P : Program} {w : World} {K : PySem.W.Frag} {mg : Str → Option Value} {base : Heap}
set_option maxHeartbeats 1000000 in
theorem ok_people {f : Addr} {fd : FuncData} (F : Fun K "_law_people" "_law_people" s_people f fd) (T : Bt mg) (CD : Has P w K mg base 2 "_law_draw" ["_law_purse_here", "_law_many"] spDraw)
    (CW : Has P w K mg base 4 "_law_words" ["_law_purse_here", "_law_many"] spWords) (CS : Has P w K mg base 3 "_law_shuffled" ["_law_purse_here", "_law_some"] spShuffled) :
    FnOk P w K mg base CX0 5 f fd ["_law_purse_here", "_law_many"] spPeople := by
  obtain ⟨fD, fdD, GD, mD, kD, bD⟩ := CD
  obtain ⟨fW, fdW, GW, mW, kW, bW⟩ := CW
  obtain ⟨fS, fdS, GS, mS, kS, bS⟩ := CS
  refine F.ok c_people (fun vs H Q E h => ?_) (fun cdv A outer s H vs Q E hr h => ?_)
  · obtain ⟨_, _, _, _, rfl, _⟩ := h
    rfl
  · obtain ⟨p, many, c, n, rfl, pa, hm, k⟩ := h
    have hr2 : Room 2 _ := hr.mono (by decide)
    have hr3 : Room 3 _ := hr.mono (by decide)
    have hr4 : Room 4 _ := hr.mono (by decide)
    refine ⟨_, pss_cons (ps_set (i := 2) c_people.nd rfl (Or.inl rfl) (pe_call GW hr4 rfl mW kW bW .nil pass0 (pa_cons (pv 0) (pa_cons (pv 1) pa_nil))))
      (pss_cons (ps_if (pt_cmpR op_eq (pe_call GD hr2 rfl mD kD bD .nil pass0 (pa_cons (pv 0) (pa_cons pe_int pa_nil))) pe_int (nomark _))
        (pss_cons (ps_set (i := 3) c_people.nd rfl (Or.inr rfl) (pe_lst (pa_cons pe_str (pa_cons pe_str (pa_cons pe_str (pa_cons pe_str (pa_cons pe_str (pa_cons pe_str (pa_cons pe_str (pa_cons pe_str (pa_cons pe_str pa_nil)))))))))))
        (pss_cons (ps_set (i := 4) c_people.nd rfl (Or.inl rfl) (pe_call GS hr3 rfl mS kS bS .nil pass0 (pa_cons (pv 0) (pa_cons (pv 3) pa_nil))))
        (pss_one (ps_set (i := 2) c_people.nd rfl (Or.inl rfl) (pe_slice sl_list
          (pe_op op_cat (pe_op op_cat (pe_slice sl_list (pv 4) po_none (po_some pe_int))
            (pe_lc (own := [("_law_word_here", 5)]) (g := gName 5) rfl c_people.nd (pi_list (pv 2))
              (blkOk_by (N := ["_law_purse_here", "_law_many", "_law_words_here", "_law_extra", "_law_mixed_here", "_law_word_here"]) (sc := defScope s_people) (by decide +kernel)) (fun _ _ _ _ _ => pg_name (i := 5) c_people.nd rfl (Or.inl rfl))
              (fun _ _ _ _ _ => pts_one (pt_cmpR (r := rIn K true) op_notIn_seq (pv 5) (pv 3) rfl)) (fun _ _ _ _ _ => pv 5)))
            (pe_slice sl_list (pv 4) (po_some pe_int) po_none)) po_none (po_some (pv 1))))))) pss_nil)
      (pss_one (ps_ret (pe_callB cr_sortedS (by rfl) T.sorted (by decide +kernel) (pa_cons (pv 2) pa_nil))))), ?_⟩
    refine ⟨_, rfl, _, rfl, p, many, c, n + 100, rfl, pa, hm, fun H1 D xs lx nd hw sx1 nD hd1 nDp pa1 => ?_⟩
    have fin : ∀ (H4 : Hp) (Z : Addr) (zs : List Str), zs.length = many → zs.Nodup → (∀ z ∈ zs, IsW z) → SameX p H H4 → H4 Z = some (.lst (zs.map V.str)) → PurseAt H4 p c n → rSortedS K [V.ref Z] H4 Q := fun H4 Z zs lz ndz hwz sxz hz paz => by
      refine ⟨Z, zs, rfl, SqL.of hz, by omega, fun ys R pm so hR => ?_⟩
      have nRp := purse_none paz hR
      exact k _ R ys (by rw [pm.length_eq, lz]) (asc_of_sorted so (pm.nodup_iff.mpr ndz)) (fun y hy => hwz y (pm.mem_iff.mp hy)) (sxz.updN (sxz.none hR nRp)) (sxz.none hR nRp) upd_same nRp (paz.upd nRp)
    refine ⟨_, rfl, p, _, c, n + 99, rfl, pa1, by decide, by decide, fun H2 r r0 r1 sx2 pa2 => ⟨rfl, _, rfl, ?_⟩⟩
    have hd2 := sx2 D _ nDp hd1
    refine ite2 (fun _ => ?_) (fun _ => ?_)
    · refine ⟨by show 9 ≤ sizeLine; decide, fun E1 hE => ?_⟩
      have nE := purse_none pa2 hE
      have DE : D ≠ E1 := ne_of_none hd2 hE
      refine ⟨_, rfl, _, rfl, p, E1, exL.map V.str, c, n + 20, rfl, (pa2.upd nE).less (by show n + 20 + 9 ≤ _; omega), upd_same, nE, by decide, fun H3 M ys pm sx3 nM hm3 nMp pa3 => ?_⟩
      obtain ⟨ws, pw, ew⟩ := perm_lift V.str pm exL rfl
      subst ew
      have hd3 : H3 D = some (.lst (xs.map V.str)) := sx3 D _ nDp (by rw [upd_ne DE]; exact hd2)
      have he3 : H3 E1 = some (.lst (exL.map V.str)) := sx3 E1 _ nE upd_same
      have sx03 : SameX p H H3 := ((sx1.trans sx2).updN ((sx1.trans sx2).none hE nE)).trans sx3
      have two : (2 : Int) = ((2 : Nat) : Int) := rfl
      refine ⟨_, rfl, _, rfl, M, ws.map V.str, rfl, SqL.of hm3, fun A1 hA1 => ⟨_, rfl, D, rfl, ⟨_, SqL.of (by rw [upd_ne (ne_of_none hd3 hA1)]; exact hd3)⟩, fun L hL => ?_⟩⟩
      have MA : M ≠ A1 := ne_of_none hm3 hA1
      have DA : D ≠ A1 := ne_of_none hd3 hA1
      have EA : E1 ≠ A1 := ne_of_none he3 hA1
      have AL : A1 ≠ L := ne_of_none upd_same hL
      have hL3 : H3 L = none := by
        rw [upd_ne (Ne.symm AL)] at hL
        exact hL
      have ML : M ≠ L := ne_of_none hm3 hL3
      have DL : D ≠ L := ne_of_none hd3 hL3
      have EL : E1 ≠ L := ne_of_none he3 hL3
      refine lc_list (xs := xs.map V.str) (fun j H' => H' = upd (upd H3 A1 (.lst (cutV (ws.map V.str) none (some 2)))) L (.lst (((xs.take j).filter fun z => decide (z ∉ exL)).map V.str))) rfl (fun j H' _ e => ?_) ?_ ?_
      · rw [e]
        exact SqL.of (by rw [upd_ne DL, upd_ne DA]; exact hd3)
      · rintro j v H' hv rfl
        rw [List.getElem?_map] at hv
        obtain ⟨z, hz, rfl⟩ := Option.map_eq_some_iff.mp hv
        refine ⟨rfl, _, rfl, _, rfl, E1, _, rfl, .inl (SqL.of (by rw [upd_ne EL, upd_ne EA]; exact he3)), rfl, flat_strs' exL, _, rfl, ?_⟩
        rw [if_pos rfl, in_strs]
        have nx : (xs.take (j + 1)).filter (fun z => decide (z ∉ exL)) = (xs.take j).filter (fun z => decide (z ∉ exL)) ++ (if z ∈ exL then [] else [z]) := by
          rw [take_next hz, List.filter_append]
          by_cases c : z ∈ exL <;> simp [c]
        refine ite2 (fun hb => ?_) (fun hb => ?_)
        · have c : z ∉ exL := by simpa using hb
          refine ⟨_, rfl, _, upd_same, by rw [List.length_map, sizeLine_eq]; have h1 := List.length_filter_le (fun z => decide (z ∉ exL)) (xs.take j); rw [List.length_take] at h1; omega, ?_⟩
          show upd _ _ _ = upd _ _ _
          rw [upd_upd, nx, if_neg c, List.map_append]
          rfl
        · have c : z ∈ exL := by simpa using hb
          show upd _ _ _ = upd _ _ _
          rw [nx, if_pos c, List.append_nil]
      · rintro H' rfl
        rw [show (xs.map V.str).length = xs.length by simp, List.take_length, show (some 2 : Option Int) = some ((2 : Nat) : Int) from rfl, cutV_lo, ← List.map_take]
        have l1 : (ws.take 2).length ≤ 2 := List.length_take_le 2 ws
        have l2 := List.length_filter_le (fun z => decide (z ∉ exL)) xs
        have l9 : ws.length = 9 := pw.length_eq
        refine ⟨A1, L, _, _, rfl, rfl, by rw [upd_ne AL, upd_same], upd_same, by rw [List.length_map, List.length_map, sizeLine_eq]; omega, fun B hB => ?_⟩
        have nB : H3 B = none := by
          have x1 : L ≠ B := ne_of_none upd_same hB
          rw [upd_ne (Ne.symm x1)] at hB
          have x2 : A1 ≠ B := ne_of_none upd_same hB
          rw [upd_ne (Ne.symm x2)] at hB
          exact hB
        have MB : M ≠ B := ne_of_none hm3 nB
        have hm5 : upd (upd (upd H3 A1 (.lst ((ws.take 2).map V.str))) L (.lst ((xs.filter fun z => decide (z ∉ exL)).map V.str))) B (.lst ((ws.take 2).map V.str ++ (xs.filter fun z => decide (z ∉ exL)).map V.str)) M = some (.lst (ws.map V.str)) := by rw [upd_ne MB, upd_ne ML, upd_ne MA]; exact hm3
        have sx5 : SameX p H (upd (upd (upd H3 A1 (.lst ((ws.take 2).map V.str))) L (.lst ((xs.filter fun z => decide (z ∉ exL)).map V.str))) B (.lst ((ws.take 2).map V.str ++ (xs.filter fun z => decide (z ∉ exL)).map V.str))) :=
          ((sx03.updN (sx03.none hA1 (purse_none pa3 hA1))).updN (sx03.none hL3 (purse_none pa3 hL3))).updN (sx03.none nB (purse_none pa3 nB))
        have pa5 := ((pa3.upd (o := .lst ((ws.take 2).map V.str)) (purse_none pa3 hA1)).upd (o := .lst ((xs.filter fun z => decide (z ∉ exL)).map V.str)) (purse_none pa3 hL3)).upd (o := .lst ((ws.take 2).map V.str ++ (xs.filter fun z => decide (z ∉ exL)).map V.str)) (purse_none pa3 nB)
        have hb5 : upd (upd (upd H3 A1 (.lst ((ws.take 2).map V.str))) L (.lst ((xs.filter fun z => decide (z ∉ exL)).map V.str))) B (.lst ((ws.take 2).map V.str ++ (xs.filter fun z => decide (z ∉ exL)).map V.str)) B = some (.lst ((ws.take 2 ++ xs.filter fun z => decide (z ∉ exL)).map V.str)) := by rw [upd_same, List.map_append]
        generalize upd (upd (upd H3 A1 (.lst ((ws.take 2).map V.str))) L (.lst ((xs.filter fun z => decide (z ∉ exL)).map V.str))) B (.lst ((ws.take 2).map V.str ++ (xs.filter fun z => decide (z ∉ exL)).map V.str)) = H5 at hm5 sx5 pa5 hb5 ⊢
        refine ⟨_, rfl, _, rfl, M, _, rfl, SqL.of hm5, fun A2 hA2 => ?_⟩
        rw [show (some 2 : Option Int) = some ((2 : Nat) : Int) from rfl, cutV_hi, ← List.map_drop]
        have BA : B ≠ A2 := ne_of_none hb5 hA2
        have l3 : (ws.drop 2).length ≤ 9 := by rw [List.length_drop]; omega
        refine ⟨B, A2, _, _, rfl, rfl, by rw [upd_ne BA]; exact hb5, upd_same, by rw [List.length_map, List.length_map, List.length_append, sizeLine_eq]; omega, fun C hC => ?_⟩
        have nC : H5 C = none := by
          have x1 : A2 ≠ C := ne_of_none upd_same hC
          rw [upd_ne (Ne.symm x1)] at hC
          exact hC
        rw [← List.map_append]
        refine ⟨_, rfl, _, rfl, C, _, rfl, SqL.of upd_same, fun Z hZ => ?_⟩
        have nZ : H5 Z = none := by
          have x0 : C ≠ Z := ne_of_none upd_same hZ
          rw [upd_ne (Ne.symm x0)] at hZ
          have x1 : A2 ≠ Z := ne_of_none upd_same hZ
          rw [upd_ne (Ne.symm x1)] at hZ
          exact hZ
        obtain ⟨m1, m2, m3⟩ := mixW_ok pw nd hw hm
        have sx6 := ((sx5.updN (o := .lst ((ws.drop 2).map V.str)) (sx5.none hA2 (purse_none pa5 hA2))).updN (o := .lst ((ws.take 2 ++ (xs.filter fun z => decide (z ∉ exL)) ++ ws.drop 2).map V.str)) (sx5.none nC (purse_none pa5 nC))).updN (o := .lst ((mixW ws xs many).map V.str)) (sx5.none nZ (purse_none pa5 nZ))
        have pa6 := ((pa5.upd (o := .lst ((ws.drop 2).map V.str)) (purse_none pa5 hA2)).upd (o := .lst ((ws.take 2 ++ (xs.filter fun z => decide (z ∉ exL)) ++ ws.drop 2).map V.str)) (purse_none pa5 nC)).upd (o := .lst ((mixW ws xs many).map V.str)) (purse_none pa5 nZ)
        have ez : cutV ((ws.take 2 ++ (xs.filter fun z => decide (z ∉ exL)) ++ ws.drop 2).map V.str) none (some (many : Int)) = (mixW ws xs many).map V.str := by
          rw [cutV_lo, ← List.map_take]
          rfl
        rw [ez]
        exact ⟨_, rfl, fin _ Z (mixW ws xs many) m1 m2 m3 sx6 upd_same (pa6.less (by omega))⟩
    · exact ⟨_, rfl, fin H2 D xs lx nd hw (sx1.trans sx2) hd2 (pa2.less (by omega))⟩
end
end Wd
end
section
set_option maxRecDepth 100000
set_option maxHeartbeats 4000000
namespace Wd
open PySem L2
/-- two texts in their order -/
def mk (a b : Str) : Str × Str := if Lt a b then (a, b) else (b, a)
def spPair : Sp := fun vs H Q _ => ∃ a b : Str, vs = [.str a, .str b] ∧ ∀ T, H T = none → Q (.ref T) (upd H T (.tup [.str (mk a b).1, .str (mk a b).2]))
/-- all twos of a list, in their order -/
def prs : List V → List (V × V)
  | [] => []
  | x :: r => r.map (fun y => (x, y)) ++ prs r
theorem prs_len : ∀ xs : List V, (prs xs).length ≤ xs.length * xs.length
  | [] => Nat.le_refl _
  | x :: r => by
    have h := prs_len r
    show (r.map (fun y => (x, y)) ++ prs r).length ≤ _
    rw [List.length_append, List.length_map, List.length_cons]
    have e : (r.length + 1) * (r.length + 1) = r.length * r.length + r.length + (r.length + 1) := by
      rw [Nat.add_mul, Nat.one_mul, Nat.mul_add, Nat.mul_one]
    omega
/-- the tuples at Ts hold the twos ps -/
def Tups (H : Hp) (Ts : List Addr) (ps : List (V × V)) : Prop := Ts.length = ps.length ∧ ∀ (k : Nat) T p, Ts[k]? = some T → ps[k]? = some p → H T = some (.tup [p.1, p.2])
theorem Tups.nil {H : Hp} : Tups H [] [] := ⟨rfl, fun k T p h => by simp at h⟩
theorem Tups.keep {H H' : Hp} {Ts : List Addr} {ps : List (V × V)} (t : Tups H Ts ps) (k : ∀ T o, T ∈ Ts → H T = some o → H' T = some o) : Tups H' Ts ps :=
  ⟨t.1, fun j T p h1 h2 => k T _ (List.mem_of_getElem? h1) (t.2 j T p h1 h2)⟩
theorem Tups.same {H H' : Hp} {Ts : List Addr} {ps : List (V × V)} (t : Tups H Ts ps) (s : Same H H') : Tups H' Ts ps := t.keep fun T o _ e => s T o e
theorem Tups.at {H : Hp} {Ts : List Addr} {ps : List (V × V)} (t : Tups H Ts ps) {T : Addr} (h : T ∈ Ts) : ∃ p, p ∈ ps ∧ H T = some (.tup [p.1, p.2]) := by
  obtain ⟨j, hj, e⟩ := List.getElem_of_mem h
  have h1 : Ts[j]? = some T := by rw [List.getElem?_eq_getElem hj, e]
  have hp : j < ps.length := by rw [← t.1]; exact hj
  exact ⟨ps[j], List.getElem_mem hp, t.2 j T _ h1 (List.getElem?_eq_getElem hp)⟩
theorem Tups.append {H : Hp} {Ts Us : List Addr} {ps qs : List (V × V)} (t : Tups H Ts ps) (u : Tups H Us qs) : Tups H (Ts ++ Us) (ps ++ qs) := by
  refine ⟨by rw [List.length_append, List.length_append, t.1, u.1], fun k T p h1 h2 => ?_⟩
  by_cases c : k < Ts.length
  · rw [List.getElem?_append_left c] at h1
    rw [List.getElem?_append_left (by rw [← t.1]; exact c)] at h2
    exact t.2 k T p h1 h2
  · rw [List.getElem?_append_right (by omega)] at h1
    rw [List.getElem?_append_right (by rw [← t.1]; omega), ← t.1] at h2
    exact u.2 _ T p h1 h2
theorem Tups.snoc {H : Hp} {Ts : List Addr} {ps : List (V × V)} (t : Tups H Ts ps) {T : Addr} {p : V × V} (h : H T = some (.tup [p.1, p.2])) : Tups H (Ts ++ [T]) (ps ++ [p]) := by
  refine t.append ⟨rfl, fun k U q h1 h2 => ?_⟩
  cases k with
  | zero =>
    obtain rfl : T = U := by simpa using h1
    obtain rfl : p = q := by simpa using h2
    exact h
  | succ k => simp at h1
theorem Tups.ne {H : Hp} {Ts : List Addr} {ps : List (V × V)} (t : Tups H Ts ps) {a : Addr} (h : ∀ x y, H a ≠ some (.tup [x, y])) : ∀ T ∈ Ts, T ≠ a := fun T hT e => by
  obtain ⟨p, _, q⟩ := t.at hT
  rw [e] at q
  exact h _ _ q
/-- a list of tuples of two stands at l -/
def PrsAt (H : Hp) (l : Addr) (ps : List (V × V)) : Prop := ∃ Ts : List Addr, H l = some (.lst (Ts.map V.ref)) ∧ Tups H Ts ps
def spPairs : Sp := fun vs H Q _ => ∃ (l : Addr) (xs : List V), vs = [.ref l] ∧ H l = some (.lst xs) ∧ xs.length ≤ 50 ∧
  ∀ (H' : Hp) (D : Addr), Same H H' → H D = none → PrsAt H' D (prs xs) → Q (.ref D) H'
section
variable {P : Program} {w : World} {K : PySem.W.Frag} {mg : Str → Option Value} {base : Heap}
theorem ok_pair {f : Addr} {fd : FuncData} (F : Fun K "_law_pair" "_law_pair" s_pair f fd) : FnOk P w K mg base CX0 1 f fd ["_law_first", "_law_second"] spPair := by
  refine F.ok c_pair (fun vs H Q E h => ?_) (fun cdv A outer s H vs Q E hr h => ?_)
  · obtain ⟨_, _, rfl, _⟩ := h
    rfl
  · obtain ⟨a, b, rfl, k⟩ := h
    refine ⟨_, pss_one (ps_ret (pe_ifExp (pt_cmpR op_lt_str (pv 0) (pv 1) (nomark _)) (pe_tup (pa_cons (pv 0) (pa_cons (pv 1) pa_nil))) (pe_tup (pa_cons (pv 1) (pa_cons (pv 0) pa_nil))))), ?_⟩
    refine ⟨_, rfl, _, rfl, _, _, rfl, rfl, _, rfl, ?_⟩
    refine ite2 (fun hb => ?_) (fun hb => ?_)
    · have c : Lt a b := of_decide_eq_true hb
      refine ⟨_, rfl, _, rfl, by show 2 ≤ sizeLine; decide, fun T hT => ?_⟩
      have q := k T hT
      unfold mk at q
      rw [if_pos c] at q
      exact q
    · have c : ¬ Lt a b := fun z => hb (decide_eq_true z)
      refine ⟨_, rfl, _, rfl, by show 2 ≤ sizeLine; decide, fun T hT => ?_⟩
      have q := k T hT
      unfold mk at q
      rw [if_neg c] at q
      exact q
theorem prs_take (xs : List V) (i : Nat) (x : V) (h : xs[i]? = some x) : prs xs = (prs xs).take ((prs xs).length - (prs (xs.drop i)).length) ++ prs (xs.drop i) ∧ prs (xs.drop i) = (xs.drop (i + 1)).map (fun y => (x, y)) ++ prs (xs.drop (i + 1)) := by
  have hd : xs.drop i = x :: xs.drop (i + 1) := by
    have lt := (List.getElem?_eq_some_iff.mp h).1
    rw [List.drop_eq_getElem_cons lt, (List.getElem?_eq_some_iff.mp h).2]
  refine ⟨?_, by rw [hd]; rfl⟩
  have suf : ∀ (l : List V) (j : Nat), ∃ r, prs l = r ++ prs (l.drop j) := by
    intro l
    induction l with
    | nil => exact fun j => ⟨[], by rw [List.drop_nil]; rfl⟩
    | cons y l ih =>
      intro j
      cases j with
      | zero => exact ⟨[], rfl⟩
      | succ j =>
        obtain ⟨r, e⟩ := ih j
        exact ⟨l.map (fun z => (y, z)) ++ r, by
          show l.map (fun z => (y, z)) ++ prs l = _
          rw [e, List.append_assoc]
          rfl⟩
  obtain ⟨r, e⟩ := suf xs i
  rw [e]
  have : (r ++ prs (xs.drop i)).length - (prs (xs.drop i)).length = r.length := by rw [List.length_append]; omega
  rw [this, List.take_left']
  rfl
set_option maxHeartbeats 1000000 in
theorem ok_pairs {f : Addr} {fd : FuncData} (F : Fun K "_law_pairs" "_law_pairs" s_pairs f fd) (T : Bt mg) : FnOk P w K mg base CX0 1 f fd ["_law_crowd"] spPairs := by
  refine F.ok c_pairs (fun vs H Q E h => ?_) (fun cdv A outer s H vs Q E hr h => ?_)
  · obtain ⟨_, _, rfl, _⟩ := h
    rfl
  · obtain ⟨l, xs, rfl, hl, few, k⟩ := h
    have pl := prs_len xs
    have sq : xs.length * xs.length ≤ 50 * 50 := Nat.mul_le_mul few few
    refine ⟨_, pss_cons (ps_set (i := 1) c_pairs.nd rfl (Or.inl rfl) (pe_lst pa_nil))
      (pss_cons (ps_for PassesOwn.never rfl (pi_range1 rfl T.range (pa_cons (pe_callB call_len_seq (by rfl) T.len PySem.boot_len (pa_cons (pv 0) pa_nil)) pa_nil)) (pg_name (i := 2) c_pairs.nd rfl (Or.inr rfl))
        (pss_one (ps_set (i := 1) c_pairs.nd rfl (Or.inl rfl) (pe_op op_cat (pv 1) (pe_lc (own := [("_law_late", 3)]) (g := gName 3) (tt := tYes) rfl c_pairs.nd (pi_list (pe_slice sl_list (pv 0) (po_some (pe_op op_add (pv 2) pe_int)) po_none))
          (blkOk_by (N := ["_law_crowd", "_law_found", "_law_at", "_law_late"]) (sc := defScope s_pairs) (by decide +kernel)) (fun _ _ _ _ _ => pg_name (i := 3) c_pairs.nd rfl (Or.inl rfl)) (fun _ _ _ _ _ => pts_nil)
          (fun _ _ _ _ _ => pe_tup (pa_cons (pe_ix (r := rIxL K) ix_list (pv 0) (pv 2) (fun _ _ => rfl)) (pa_cons (pv 3) pa_nil)))))))) 
      (pss_one (ps_ret (pv 1)))), ?_⟩
    refine ⟨Nat.zero_le _, fun D0 hD0 => ?_⟩
    have lD0 : l ≠ D0 := ne_of_none hl hD0
    refine ⟨_, rfl, l, _, rfl, .inl (SqL.of (by rw [upd_ne lD0]; exact hl)), (xs.length : Int), rfl, by omega, by omega, ?_⟩
    refine for_range (lo := 0) (n := (xs.length : Int).toNat) (fun i σ H' => ∃ (D : Addr) (Ts : List Addr) (v2 : Option V) (qs : List (V × V)), σ = [some (.ref l), some (.ref D), v2, none] ∧ Same H H' ∧ H D = none ∧ H' D = some (.lst (Ts.map V.ref)) ∧ Tups H' Ts qs ∧ prs xs = qs ++ prs (xs.drop i))
      ⟨D0, [], none, [], rfl, same_new hD0, hD0, upd_same, Tups.nil, rfl⟩ ?_ ?_
    · rintro i σ H' hi ⟨D, Ts, v2, qs, rfl, s5, nD, hd, tu, eq⟩
      have il : i < xs.length := by omega
      have hx : xs[i]? = some xs[i] := List.getElem?_eq_getElem il
      generalize xs[i] = x at hx
      have row := (prs_take xs i x hx).2
      have hl5 := s5 _ _ hl
      rw [Int.zero_add]
      have ei : (i : Int) + 1 = ((i + 1 : Nat) : Int) := by omega
      refine ⟨_, rfl, _, rfl, _, rfl, _, _, rfl, rfl, _, rfl, l, xs, rfl, SqL.of hl5, fun S hS => ⟨S, rfl, ⟨_, SqL.of upd_same⟩, fun C hC => ?_⟩⟩
      rw [ei, cutV_hi] at hC ⊢
      have hC5 : H' C = none := by
        have x1 : S ≠ C := ne_of_none upd_same hC
        rw [upd_ne (Ne.symm x1)] at hC
        exact hC
      refine lc_list (xs := xs.drop (i + 1)) (fun j H2 => ∃ Us : List Addr, H2 C = some (.lst (Us.map V.ref)) ∧ Same (upd H' S (.lst (xs.drop (i + 1)))) H2 ∧ Tups H2 Us (((xs.drop (i + 1)).take j).map fun y => (x, y)))
        ⟨[], upd_same, same_new hC, Tups.nil⟩ (fun j H2 _ ⟨Us, _, s6, _⟩ => SqL.of (s6 _ _ upd_same)) ?_ ?_
      · rintro j y H2 hy ⟨Us, hu, s6, tu2⟩
        have jl := (List.getElem?_eq_some_iff.mp hy).1
        rw [List.length_drop] at jl
        have hl6 : H2 l = some (.lst xs) := s6 _ _ (by rw [upd_ne (ne_of_none hl5 hS)]; exact hl5)
        refine ⟨rfl, ?_⟩
        refine ⟨_, rfl, _, rfl, l, xs, _, x, rfl, rfl, SqL.of hl6, atI_nat hx, _, rfl, by show 2 ≤ sizeLine; decide, fun Z hZ => ?_⟩
        have CZ : C ≠ Z := ne_of_none hu hZ
        have lu : Us.length ≤ 50 := by
          rw [tu2.1, List.length_map, List.length_take, List.length_drop]
          omega
        have cne : ∀ T ∈ Us, T ≠ C := tu2.ne fun a b e => by
          rw [hu] at e
          cases e
        refine ⟨_, by rw [upd_ne CZ]; exact hu, by rw [List.length_map, sizeLine_eq]; omega, Us ++ [Z], by rw [upd_same]; simp, fun b o e => ?_, ?_⟩
        · have bC : b ≠ C := ne_of_none e hC
          have e2 := s6 _ _ e
          rw [upd_ne bC, upd_ne (ne_of_none e2 hZ)]
          exact e2
        · rw [take_next hy, List.map_append]
          have t3 : Tups (upd (upd H2 Z (.tup [x, y])) C (.lst (Us.map V.ref ++ [V.ref Z]))) Us (((xs.drop (i + 1)).take j).map fun y => (x, y)) :=
            tu2.keep fun T o hT e => by
              rw [upd_ne (cne T hT), upd_ne (ne_of_none e hZ)]
              exact e
          exact t3.snoc (p := (x, y)) (by rw [upd_ne (Ne.symm CZ), upd_same])
      · rintro H2 ⟨Us, hu, s6, tu2⟩
        rw [List.take_length] at tu2
        have s7 : Same H' H2 := fun b o e => s6 b o (by rw [upd_ne (ne_of_none e hS)]; exact e)
        have hd7 := s7 _ _ hd
        have lt1 := congrArg List.length eq
        rw [List.length_append, row, List.length_append, List.length_map] at lt1
        have lu : Us.length = (xs.drop (i + 1)).length := by rw [tu2.1, List.length_map]
        refine ⟨D, C, _, _, rfl, rfl, hd7, hu, by rw [List.length_map, List.length_map, sizeLine_eq, tu.1, lu]; omega, fun Z hZ => ?_⟩
        have s8 : Same H' (upd H2 Z (.lst (Ts.map V.ref ++ Us.map V.ref))) := fun b o e => by
          have e2 := s7 _ _ e
          rw [upd_ne (ne_of_none e2 hZ)]
          exact e2
        have nZ : H Z = none := by
          cases e : H Z with
          | none => rfl
          | some o =>
            rw [s7 _ _ (s5 _ _ e)] at hZ
            cases hZ
        refine ⟨Z, Ts ++ Us, some (.int (i : Int)), qs ++ (xs.drop (i + 1)).map (fun y => (x, y)), rfl, s5.trans s8, nZ, by rw [upd_same, List.map_append], ?_, by rw [eq, row, List.append_assoc]⟩
        exact (tu.same s8).append (tu2.keep fun T o _ e => by
          rw [upd_ne (ne_of_none e hZ)]
          exact e)
    · rintro σ H' ⟨D, Ts, v2, qs, rfl, s5, nD, hd, tu, eq⟩
      have e0 : xs.drop (xs.length : Int).toNat = [] := by rw [Int.toNat_natCast, List.drop_length]
      rw [e0] at eq
      have e1 : prs xs = qs := by rw [eq]; exact List.append_nil qs
      exact ⟨_, rfl, k H' D s5 nD ⟨Ts, hd, by rw [e1]; exact tu⟩⟩
end
end Wd
end
section
set_option maxRecDepth 100000
set_option maxHeartbeats 4000000
namespace Kx
open PySem PySem.Spec PyProof.Rows L2
/-- dict(pairs), the keys tuples, none twice -/
def rDictT (K : PySem.W.Frag) : List V → Hp → VK → Prop := fun vs H Q => ∃ (a : Addr) (Us : List Addr) (kvs : List (List Key × Addr × V)), vs = [V.ref a] ∧ SqL K H a (Us.map V.ref) ∧ Us.length = kvs.length ∧
  (∀ (j : Nat) U q, Us[j]? = some U → kvs[j]? = some q → SqT K H U [.ref q.2.1, q.2.2] ∧ H q.2.1 = some (.tup (q.1.map kV))) ∧ (kvs.map fun q => q.1).Nodup ∧
  ∀ p, H p = none → Q (.ref p) (upd H p (.dT (kvs.map fun q => (q.1, q.2.2))))
theorem stored_new {K : Type} [DecidableEq K] : ∀ (ps acc : List (K × Addr × Value)), ((acc ++ ps).map fun q => q.1).Nodup → storedAllH acc ps = acc ++ ps
  | [], acc, _ => by rw [List.append_nil]; rfl
  | p :: ps, acc, nd => by
    have e : acc ++ p :: ps = (acc ++ [p]) ++ ps := by simp
    show storedAllH (storedH acc p.1 p.2.1 p.2.2) ps = _
    have no : atKey acc p.1 = none := atKey_none_of_get fun j q hq => by
      rw [List.map_append, List.map_cons, List.nodup_append] at nd
      exact nd.2.2 p.1 (List.mem_map.mpr ⟨_, List.mem_of_getElem? hq, rfl⟩) p.1 List.mem_cons_self rfl
    rw [storedH_new no]
    rw [e] at nd ⊢
    exact stored_new ps _ nd
theorem cr_dictT {X : Cx} (hc : X.calm = true) (hu : X.A.units + 64 < cLine) : CallR X (.type "dict") (rDictT X.K) := by
  intro pins s σ H vs us Q I r h
  obtain ⟨a, Us, kvs, rfl, hs, hl, hq, nd, q⟩ := h
  obtain ⟨u, rfl, rx⟩ := vals1 r
  obtain rfl : u = Value.ref a := rx
  obtain ⟨its, rv, pl, hz⟩ := I.list hs
  have ei := refs_at rv
  subst ei
  rw [List.length_map] at hz
  -- the values of the items
  have item : ∀ (j : Nat) q, kvs[j]? = some q → ∃ U y, Us[j]? = some U ∧ IsTup s.heap U #[.ref q.2.1, y] ∧ RelV q.2.2 y := fun j q e => by
    have jl := (List.getElem?_eq_some_iff.mp e).1
    have hU : Us[j]? = some Us[j] := List.getElem?_eq_getElem (by omega)
    obtain ⟨h1, _⟩ := hq j _ q hU e
    obtain ⟨its2, rv2, hT, _⟩ := I.tuple h1
    obtain ⟨u1, y, rfl, r1, r2⟩ := vals2 rv2
    obtain rfl : u1 = Value.ref q.2.1 := r1
    exact ⟨_, y, hU, hT, r2⟩
  -- as a list of keys, places, values
  obtain ⟨ps, pl2, pp⟩ : ∃ ps : List (List Key × Addr × Value), ps.length = kvs.length ∧ ∀ (j : Nat) q, kvs[j]? = some q → ∃ U y, Us[j]? = some U ∧ ps[j]? = some (q.1, q.2.1, y) ∧ IsTup s.heap U #[.ref q.2.1, y] ∧ RelV q.2.2 y := by
    have key : ∀ n, n ≤ kvs.length → ∃ ps : List (List Key × Addr × Value), ps.length = n ∧ ∀ (j : Nat) q, j < n → kvs[j]? = some q → ∃ U y, Us[j]? = some U ∧ ps[j]? = some (q.1, q.2.1, y) ∧ IsTup s.heap U #[.ref q.2.1, y] ∧ RelV q.2.2 y := by
      intro n
      induction n with
      | zero => exact fun _ => ⟨[], rfl, fun j q h => absurd h (Nat.not_lt_zero _)⟩
      | succ n ih =>
        intro hn
        obtain ⟨ps, l1, h1⟩ := ih (by omega)
        have e := List.getElem?_eq_getElem (l := kvs) (i := n) hn
        obtain ⟨U, y, hU, hT, ry⟩ := item n _ e
        refine ⟨ps ++ [(kvs[n].1, kvs[n].2.1, y)], by rw [List.length_append, l1]; rfl, fun j q hj hjq => ?_⟩
        by_cases c : j < n
        · obtain ⟨U', y', a1, a2, a3⟩ := h1 j q c hjq
          exact ⟨U', y', a1, by rw [List.getElem?_append_left (by omega)]; exact a2, a3⟩
        · have ej : j = n := by omega
          subst ej
          rw [e] at hjq
          obtain rfl := Option.some.inj hjq
          exact ⟨U, y, hU, by rw [List.getElem?_append_right (by omega), l1, Nat.sub_self]; rfl, hT, ry⟩
    obtain ⟨ps, l1, h1⟩ := key kvs.length (Nat.le_refl _)
    exact ⟨ps, l1, fun j q e => h1 j q (List.getElem?_eq_some_iff.mp e).1 e⟩
  have kv : ∀ (j : Nat) p, ps[j]? = some p → ∃ q, kvs[j]? = some q ∧ p.1 = q.1 ∧ p.2.1 = q.2.1 ∧ ∃ U, Us[j]? = some U ∧ IsTup s.heap U #[.ref p.2.1, p.2.2] ∧ RelV q.2.2 p.2.2 := fun j p e => by
    have jl := (List.getElem?_eq_some_iff.mp e).1
    have eq := List.getElem?_eq_getElem (l := kvs) (i := j) (by omega)
    obtain ⟨U, y, a1, a2, a3, a4⟩ := pp j _ eq
    rw [e] at a2
    obtain rfl := Option.some.inj a2
    exact ⟨_, eq, rfl, rfl, U, a1, a3, a4⟩
  have keys : ps.map (fun q => q.1) = kvs.map fun q => q.1 := by
    apply List.ext_getElem? fun j => ?_
    rw [List.getElem?_map, List.getElem?_map]
    cases e : ps[j]? with
    | none =>
      have : kvs[j]? = none := List.getElem?_eq_none (by have := List.getElem?_eq_none_iff.mp e; omega)
      rw [this]
      rfl
    | some p =>
      obtain ⟨q, e2, e3, _⟩ := kv j p e
      rw [e2]
      exact congrArg some e3
  obtain ⟨o, n, ho, hcl, hdi, hdat⟩ := pl
  have okA : PlainSeq "list" s.heap a (Us.map Value.ref).toArray ∧ PairItems s.heap (Us.map Value.ref).toArray (fun j => Us.getD j 0) (ps.map fun p => (Value.ref p.2.1, p.2.2)) := by
    refine ⟨⟨o, n, ho, hcl, hdi, hdat⟩, by simp; omega, fun j k v e => ?_⟩
    rw [List.getElem?_map] at e
    obtain ⟨p, hp, e2⟩ := Option.map_eq_some_iff.mp e
    obtain ⟨_, _, _, _, U, hU, hT, _⟩ := kv j p hp
    have e3 := Prod.mk.inj e2
    have gd : Us.getD j 0 = U := by rw [List.getD_eq_getElem?_getD, hU]; rfl
    refine ⟨by simp [hU], .inl ?_⟩
    show s.heap.IsTuple (Us.getD j 0) #[k, v]
    rw [gd, ← e3.1, ← e3.2]
    exact hT
  refine call_dict_pairsH (knd := tupleKind (mixKind X.prog X.w)) (ps := ps) (PairArg.list a _ _ _) (I.ok.hd hc) (by show X.A.units + 2 < cLine; omega) okA ⟨by simp, fun j k v e => ?_⟩ (fun h' hk x hx => ?_) (by rw [List.length_map]; omega) fun h' tk hd' hk => ?_
  · have e' : (ps.map fun p => (Value.ref p.2.1, p.2.2))[j]? = some (k, v) := e
    rw [List.getElem?_map] at e'
    obtain ⟨p, hp, e2⟩ := Option.map_eq_some_iff.mp e'
    have e3 := Prod.mk.inj e2
    exact ⟨p.1, p.2.1, by rw [hp, ← e3.2], e3.1.symm⟩
  · obtain ⟨j, hj, e⟩ := List.getElem_of_mem hx
    obtain ⟨q', e1, e2, e3, _⟩ := kv j x (by rw [List.getElem?_eq_getElem hj, e])
    have jl := (List.getElem?_eq_some_iff.mp e1).1
    obtain ⟨_, kt⟩ := hq j _ q' (List.getElem?_eq_getElem (l := Us) (by omega)) e1
    obtain ⟨ob, its2, n2, hob, r2⟩ := key_of (P := X.prog) (w := X.w) I.hok kt
    rw [e2, e3]
    exact ⟨ob, its2, n2, hk _ _ (Nat.ne_of_lt (Heap.lt_size hob)) (by simp) hob, r2⟩
  · have es : storedAllH [] ps = ps := by
      rw [stored_new ps [] (by rw [List.nil_append, keys]; exact nd)]
      rfl
    rw [es] at hd'
    obtain ⟨ob, ents, ep, g1, g2, g3, g4, _, g6⟩ := hd'
    have fr : H s.heap.objs.size = none := I.hok.fresh (Nat.le_refl _)
    have hm : (s.heap.objs.size == sysModules) = false := beq_eq_false_iff_ne.mpr (Nat.ne_of_gt I.big)
    have par : ∀ (m : Nat), Paired (fun (p : List Key × V) (q : List Key × Addr × Value) => p.1 = q.1 ∧ upd H s.heap.objs.size (.dT (kvs.map fun q => (q.1, q.2.2))) q.2.1 = some (.tup (p.1.map kV)) ∧ RelV p.2 q.2.2) ((kvs.drop m).map fun q => (q.1, q.2.2)) (ps.drop m) := by
      have back : ∀ k m, kvs.length - m = k → Paired (fun (p : List Key × V) (q : List Key × Addr × Value) => p.1 = q.1 ∧ upd H s.heap.objs.size (.dT (kvs.map fun q => (q.1, q.2.2))) q.2.1 = some (.tup (p.1.map kV)) ∧ RelV p.2 q.2.2) ((kvs.drop m).map fun q => (q.1, q.2.2)) (ps.drop m) := by
        intro k
        induction k with
        | zero =>
          intro m hk
          rw [List.drop_eq_nil_of_le (by omega), List.drop_eq_nil_of_le (by omega)]
          exact .nil
        | succ k ih =>
          intro m hk
          have l1 : m < kvs.length := by omega
          have l2 : m < ps.length := by omega
          rw [List.drop_eq_getElem_cons l1, List.drop_eq_getElem_cons l2, List.map_cons]
          refine .cons ?_ (ih (m + 1) (by omega))
          obtain ⟨q', e1, e2, e3, _, _, _, ry⟩ := kv m _ (List.getElem?_eq_getElem l2)
          have e4 : q' = kvs[m] := by
            rw [List.getElem?_eq_getElem l1] at e1
            exact (Option.some.inj e1).symm
          subst e4
          obtain ⟨_, kt⟩ := hq m _ _ (List.getElem?_eq_getElem (l := Us) (by omega)) (List.getElem?_eq_getElem l1)
          refine ⟨e2.symm, ?_, ry⟩
          rw [e3, upd_ne (ne_of_none kt fr)]
          exact kt
      exact fun m => back _ m rfl
    have par0 := par 0
    rw [List.drop_zero, List.drop_zero] at par0
    exact ⟨.ref s.heap.objs.size, upd H s.heap.objs.size (.dT (kvs.map fun q => (q.1, q.2.2))), I.laid (t' := tk) (fun b o e => hk b o (by simp) e) (Nat.le_refl _)
      (show ObjOk X.prog X.w _ _ _ (.dT (kvs.map fun q => (q.1, q.2.2))) from ⟨by rw [List.length_map]; omega, hm, ps, par0, ob, ents, ep, g1, g2, g3, g4, g6⟩), rfl, q _ fr⟩
end Kx
end
section
set_option maxRecDepth 100000
set_option maxHeartbeats 4000000
namespace Kx
open PySem PySem.Spec PyProof.Rows L2
abbrev DV := V × PyData
/-- the values of bs, sorted as data -/
def sortedD (bs : List DV) : List DV := bs.mergeSort (PySem.W.dataLe false fun b => b.2)
/-- sorted(xs), xs a list of alike data: a new list -/
def rSortedD (K : PySem.W.Frag) : List V → Hp → VK → Prop := fun vs H Q => ∃ (a : Addr) (bs : List DV), vs = [V.ref a] ∧ SqL K H a (bs.map fun b => b.1) ∧ (∀ b ∈ bs, Dp K H b.1 b.2 ∧ b.2.depth ≤ 40) ∧
  PySem.W.AllAlike (bs.map fun b => b.2) ∧ PySem.W.Sortable (bs.map fun b => b.2) ∧ ∀ p, H p = none → Q (.ref p) (upd H p (.lst ((sortedD bs).map fun b => b.1)))
theorem each_of_vals {us : List Value} : ∀ {bs : List DV} {us : List Value}, Vals (bs.map fun b => b.1) us → PySem.W.EachIs (fun (v : Value) (b : DV) => RelV b.1 v) us bs
  | [], _, .nil => .nil
  | _ :: _, _, .cons r t => .cons r (each_of_vals (us := []) t)
theorem vals_of_each : ∀ {bs : List DV} {us : List Value}, PySem.W.EachIs (fun (v : Value) (b : DV) => RelV b.1 v) us bs → Vals (bs.map fun b => b.1) us
  | _, _, .nil => .nil
  | _, _, .cons r t => .cons r (vals_of_each t)
theorem each_reads {X : Cx} {pins : List (Addr × Obj)} {σ : L2.St} {H : Hp} {s : Shared} (I : Inv X pins σ H s) : ∀ {bs : List DV} {us : List Value}, PySem.W.EachIs (fun (v : Value) (b : DV) => RelV b.1 v) us bs → (∀ b ∈ bs, Dp X.K H b.1 b.2) →
    PySem.W.EachIs (fun v b => ∃ as, Reads s.heap v b.2 as) us bs
  | _, _, .nil, _ => .nil
  | b :: bs, _, .cons r t, h => .cons (Dp.reads I b.2 b.1 _ (h b List.mem_cons_self) r) (each_reads I t fun c hc => h c (List.mem_cons_of_mem _ hc))
theorem cr_sortedD {X : Cx} (hu : X.A.units + 64 < cLine) : CallR X (.builtin "sorted") (rSortedD X.K) := by
  intro pins s σ H vs us Q I r h
  obtain ⟨a, bs, rfl, hs, hd, al, so, q⟩ := h
  obtain ⟨its, rv, hl, hz⟩ := I.list hs
  rw [Vals.ref1 r]
  have e := each_of_vals (us := []) rv
  have er := each_reads I e fun b hb => (hd b hb).1
  rw [List.length_map] at hz
  refine PySem.W.sorted_data (enc := fun b : DV => b.2) (bs := bs) hl.isList e er al so hz (fun b hb => ?_) fun out lo eo => ?_
  · have := (hd b hb).2
    omega
  · obtain ⟨ep, he⟩ := PyProof.Rows.sortedAll_at s.heap its (List.toArray out)
    have ro : Vals ((sortedD bs).map fun b => b.1) out := vals_of_each eo
    have hlen : ((sortedD bs).map fun b => b.1).length ≤ sizeLine := by
      rw [ro.length, lo]
      exact hz
    exact ⟨.ref _, upd H (s.heap.objs.size + 1) (.lst ((sortedD bs).map fun b => b.1)), I.laid (t' := s.toks) (fun _ _ => PyProof.Rows.sortedAll_old) (Nat.le_succ _) ⟨hlen, out, ep, ro, he⟩, rfl, q _ (I.hok.fresh (Nat.le_succ _))⟩
end Kx
end
section
set_option maxRecDepth 100000
set_option maxHeartbeats 4000000
namespace Kx
open PySem PySem.Spec PyProof.Rows L2
/-- all that stood at h stands at h' -/
abbrev Ext (h h' : Heap) : Prop := ∀ b o, h.get? b = some o → h'.get? b = some o
section
variable {P : Program} {w : World} {A : Around} {E : Value → Shared → Prop} {s : Shared}
/-- what a set that is filled item by item keeps: Z i of the heap, behind i items -/
structure Filled (P : Program) (w : World) (A : Around) (E : Value → Shared → Prop) (S : Addr) (h0 : Heap) (items : Array Value) (Z : Nat → Heap → Prop) : Prop where
  zero : ∀ h, h.get? S = some { cls := .type "set", dict := none, data := .set #[] 0 (.fresh 0 0 (!w.params.followText "set-order")) } → Z 0 h
  keep : ∀ i h h', Z i h → (∀ o, h.get? S = some o → h'.get? S = some o) → Ext h0 h' → Z i h'
  step : ∀ i v (s : Shared), items[i]? = some v → Z i s.heap → Ext h0 s.heap → ∀ Q : Bool → Shared → Prop,
    (∀ b h' tk, s.toks ≤ tk → Heap.SameBut S s.heap h' → Z (i + 1) h' → Q b { s with heap := h', toks := tk }) → wpAny (model P w) A (setAdd S v) Q E s
theorem set_loop {I : Addr} {fp wr : List Addr} {G : Array GenState → Array GenState → Prop} {n : Nat} {Pv : Nat → Value → Prop} {St : Nat → Shared → Prop} {R : Result → Shared → Prop} {items : Array Value} {Z : Nat → Heap → Prop}
    (W : WalksS P w A.in1 I fp wr G n Pv St) (S : Addr) (out : S ∉ fp) (h0 : Heap) (fr : h0.get? S = none) (frs : ∀ b ∈ wr, h0.get? b = none) (val : ∀ i v, Pv i v → items[i]? = some v)
    (Y : Filled P w A.in1 (fun v s => R (.error v) s) S h0 items Z) :
    ∀ (k i : Nat) (s : Shared), n - i = k → i ≤ n → St i s → Ext h0 s.heap → Z i s.heap →
      (∀ s', Moved (S :: wr) G s s' → Z n s'.heap → Ext h0 s'.heap → R (.ok (.ret .none)) s') →
      codeAny (model P w) A (.builtin "set.update.loop" ⟨[.ref S, .ref I], []⟩) R s := by
  have oW : S ∉ wr := fun h => out (W.sub _ h)
  have inc : ∀ b ∈ wr, b ∈ S :: wr := fun b hb => List.mem_cons_of_mem _ hb
  have kept : ∀ {s s' : Shared}, Moved wr G s s' → Ext h0 s.heap → Ext h0 s'.heap := fun hm x b o e =>
    hm.heap b o (fun hb => by rw [frs b hb] at e; cases e) (x b o e)
  intro k
  induction k with
  | zero =>
    intro i s ek hi st x z done
    obtain rfl : i = n := by omega
    refine codeAny_builtin F.entry_set_update_loop ?_
    rw [Around.under_plainId F.plain_set_update_loop _]
    show wpAny _ A.in1 (pyNext (.ref I) >>= _) _ _ s
    refine wpAny_bind (W.done s _ _ st fun s' hm => ?_)
    have x' := kept hm x
    exact wpAny_pure (done s' (hm.mono inc) (Y.keep _ _ _ z (fun o e => hm.heap S o oW e) x') x')
  | succ k ih =>
    intro i s ek hi st x z done
    have lt : i < n := by omega
    refine codeAny_builtin F.entry_set_update_loop ?_
    rw [Around.under_plainId F.plain_set_update_loop _]
    show wpAny _ A.in1 (pyNext (.ref I) >>= _) _ _ s
    refine wpAny_bind (W.item i s _ _ lt st fun v s' pv st' hm => ?_)
    have x' := kept hm x
    have z' := Y.keep _ _ _ z (fun o e => hm.heap S o oW e) x'
    show wpAny _ A.in1 (holding [v] (setAdd S v) >>= _) _ _ s'
    refine wpAny_bind (wpAny_holding (Y.step i v s' (val i v pv) z' x' _ fun b h' tk le sb z2 => ?_))
    have x2 : Ext h0 h' := fun b o e => (sb.2 b (fun q => by rw [q, fr] at e; cases e)).trans (x' b o e)
    refine wpAny_pure ⟨plainId_quiet F.plain_set_update_loop _, ih (i + 1) _ (by omega) lt (W.frame _ s' _ _ st' le fun b hb o e => ?_) x2 z2 fun s2 hm2 z3 x3 => ?_⟩
    · exact (sb.2 b (fun q : b = S => out (by rw [← q]; exact hb))).trans e
    · refine done s2 (Moved.trans W.gtrans ((hm.mono inc).then_heap le fun b o hb e => ?_) hm2) z3 x3
      exact (sb.2 b (fun q : b = S => hb (by rw [q]; exact List.mem_cons_self))).trans e
end
end Kx
end
section
set_option maxRecDepth 100000
set_option maxHeartbeats 4000000
namespace Kx
open PySem PySem.Spec PyProof.Rows L2
section
variable {P : Program} {w : World} {A : Around} {E : Value → Shared → Prop} {s : Shared}
abbrev newSetO (w : World) : Obj := { cls := .type "set", dict := none, data := .set #[] 0 (.fresh 0 0 (!w.params.followText "set-order")) }
/-- set(xs), xs a list: what the filling keeps stands behind it -/
theorem call_set_any {l : Addr} {items : Array Value} {Z : Nat → Heap → Prop} {Q : Value → Shared → Prop} (hh : A.handled = none) (hl : s.heap.IsList l items)
    (Y : ∀ E, Filled P w A.in1.in1.in1 E s.heap.objs.size s.heap items Z)
    (h : ∀ (h' : Heap) (tk : Nat), Z items.size h' → Ext s.heap h' → Q (.ref s.heap.objs.size) { s with heap := h', toks := tk }) : wpAny (model P w) A (call (.type "set") [.ref l]) Q E s := by
  obtain ⟨c, tl, mro⟩ := F.called_set.mro
  have made := F.called_set.made
  have sub := F.called_set.sub
  refine wpAny_call (codeAny_of_tree ?_)
  show wpAny _ _ (callAny (.type "set") _) _ _ _
  refine wpAny_pure ⟨Code.quiet_builtin _ (by decide +kernel), codeAny_builtin F.entry_type_call ?_⟩
  rw [Around.under_plain (weight_type_call_type "set" [.ref l] []) rfl]
  have nT := F.called_set.notType
  have cC := F.called_set.canCreate
  have tC := F.typeCall_set_1 (.ref l)
  repeat (any_goals (first | assumption | wp_step))
  refine codeAny_mono (code_set_led1 (.ref l) (E := E) (Q₁ := fun r s1 => r = .ref s.heap.objs.size ∧ s1 = { s with heap := s.heap.push (newSetO w) }) ⟨rfl, rfl⟩) fun r s1 hr => ?_
  cases r with
  | error e => exact hr
  | ok fl =>
    cases fl with
    | ret r1 =>
      obtain ⟨rfl, rfl⟩ := hr
      have hS : (s.heap.push (newSetO w)).get? s.heap.objs.size = some (newSetO w) := Heap.get?_push_size _ rfl
      have hT : Shared.TypeIs { s with heap := s.heap.push (newSetO w) } (.ref s.heap.objs.size) "set" := ⟨_, hS, rfl⟩
      have look := F.called_set.init.lookup
      have bind := F.called_set.init.bind (.ref s.heap.objs.size)
      repeat (any_goals (first | assumption | wp_step))
      refine codeAny_mono (codeAny_call_builtin (R := wants (fun r s2 => r = .none ∧ ∃ h' tk, s2 = { s with heap := h', toks := tk } ∧ Z items.size h' ∧ Ext s.heap h') E) F.called_set.init.plain F.entry_set_init (check_set_init_1 hT ?_)) fun r2 s2 hr2 => ?_
      · obtain ⟨⟨oc, od, oda, osl⟩, ho, hc, n, hd⟩ := hl
        simp only at hc hd
        subst hc
        subst hd
        have ho1 := Heap.get?_push_of_some (newSetO w) ho
        have h1 : (s.heap.push (newSetO w)).IsList l items := ⟨_, ho1, rfl, n, rfl⟩
        have c1 := F.sub_list_set
        have c2 := F.sub_list_frozenset
        have c3 : (Value.type "list" == Value.type "dict") = false := by decide
        unfold Builtin.«set.__init__» noKeywords Builtin.Frozenset.updateFrom
        generalize pi : pyIter = PI
        wp_walk
        subst pi
        refine wpAny_pyIter_list h1 ?_
        refine wpAny_bind (wpAny_runValue ?_)
        have lt : l < s.heap.objs.size := Heap.lt_size ho
        have h3 : A.in1.in1.in1.handled = none := by simp [hh]
        have z1 : (s.heap.push (newSetO w)).objs.size = s.heap.objs.size + 1 := Heap.size_push ..
        have ne : l ≠ (s.heap.push (newSetO w)).objs.size := Nat.ne_of_lt (by rw [z1]; exact Nat.lt_succ_of_lt lt)
        have none_of : ∀ b, s.heap.objs.size ≤ b → s.heap.get? b = none := fun b hb => Heap.get?_none_of_le hb
        refine set_loop (Z := Z) ((Walks.list h3 _ l ne items).toS) s.heap.objs.size ?hSf s.heap (none_of _ (Nat.le_refl _)) (fun b hb => none_of b ?hb) (fun i v hv => hv) (Y _) (items.size - 0) 0 _ (by omega) (Nat.zero_le _)
          ⟨⟨_, Heap.get?_push_size _ rfl, rfl, rfl⟩, (h1.push _)⟩ (fun b o e => Heap.get?_push_of_some _ (Heap.get?_push_of_some _ e)) ?h0 ?hR
        case hSf =>
          rw [z1]
          simp only [List.mem_cons, List.mem_singleton, List.not_mem_nil, or_false, not_or]
          exact ⟨Nat.ne_of_lt (Nat.lt_succ_self _), Nat.ne_of_gt lt⟩
        case hb =>
          rw [List.mem_singleton.mp hb, z1]
          exact Nat.le_succ _
        case h0 =>
          exact (Y E).zero _ (Heap.get?_push_of_some _ hS)
        case hR =>
          intro s' hm hz hx
          obtain ⟨h', g', d', tk', os'⟩ := s'
          have eg : g' = s.gens := hm.gens
          have ed : d' = s.drawn := hm.drawn
          have eo : os' = s.os := hm.os
          subst eg ed eo
          refine wpAny_pure ?_
          show wpAny _ _ (ret Value.none) _ _ _
          exact wpAny_pure ⟨rfl, h', tk', rfl, hz, hx⟩
      · cases r2 with
        | error e => exact hr2
        | ok f2 =>
          cases f2 with
          | ret r =>
            obtain ⟨rfl, h', tk, rfl, hz, hx⟩ := hr2
            repeat (any_goals (first | assumption | wp_step))
            exact h _ _ hz hx
          | _ => exact hr2.elim
    | _ => exact hr.elim
end
end Kx
end
section
set_option maxRecDepth 100000
set_option maxHeartbeats 4000000
namespace Kx
open PySem PySem.Spec PyProof.Rows L2
/-- the tuple at a holds the keys k -/
abbrev IsK (P : Program) (w : World) (h : Heap) (k : List Key) (a : Addr) : Prop := IsTupleKey (mixKind P w) h k a
abbrev hashK (P : Program) (w : World) (k : List Key) : Int := tupleKeyHash (mixKind P w) k
section
variable {P : Program} {w : World} {A : Around} {E : Value → Shared → Prop} {s : Shared}
theorem key_byval {k : Key} {v : Value} (h : (mixKind P w).is k v = true) : carriedByValue v = true := (mixKind P w).byValue _ _ h
theorem cls_val (n : Nat) {v : Value} (h : carriedByValue v = true) : ofAClassStatement n v = pure false := by
  cases v with
  | ref a => exact absurd h (by simp [carriedByValue])
  | _ => cases n <;> rfl
theorem items_byval {k : List Key} {vs : List Value} (h : ItemsAre (mixKind P w) k vs) : ∀ v ∈ vs, carriedByValue v = true := h.byValue
theorem cls_tup {k : List Key} {b : Addr} {Q : Bool → Shared → Prop} (hk : IsK P w s.heap k b) (h : Q false s) : wpAny (model P w) A (ofAClassStatement 8 (.ref b)) Q E s := by
  have ty := hk.typeIs
  obtain ⟨o, items, n, ho, _, hd, hi⟩ := hk
  have bv := items_byval hi
  unfold ofAClassStatement
  refine wpAny_bind (wpAny_typeOf ty ?_)
  dsimp only
  rw [show (("tuple" : String) == "tuple") = true by decide]
  simp only [if_true, Bool.not_true, Bool.false_eq_true, if_false]
  try refine wpAny_bind (wpAny_pure ?_)
  try simp only [Bool.not_true, Bool.false_eq_true, if_false]
  show wpAny _ _ (seqItems? (.ref b) >>= _) _ _ s
  refine wpAny_bind (wpAny_seqItems ho hd ?_)
  dsimp only
  refine wpAny_bind ?_
  show wpAny _ _ (forIn items _ _) _ _ s
  rw [← Array.forIn_toList]
  refine wpAny_forIn_list _ (fun left r s' => r.1 = none ∧ s' = s ∧ ∀ v ∈ left, carriedByValue v = true) _ ?_ ?_ _ _ ⟨rfl, rfl, bv⟩
  · rintro v left r s' ⟨hr, rfl, al⟩
    rw [cls_val _ (al v List.mem_cons_self)]
    refine wpAny_bind (wpAny_pure ?_)
    simp only [Bool.false_eq_true, if_false]
    exact wpAny_pure ⟨rfl, rfl, fun u hu => al u (List.mem_cons_of_mem _ hu)⟩
  · rintro ⟨r1, r2⟩ s' ⟨hr, rfl, _⟩
    obtain rfl : r1 = none := hr
    exact wpAny_pure h
theorem hashV_val (n : Nat) {k : Key} {v : Value} (h : (mixKind P w).is k v = true) : ∃ c, hashByValue n v = pure c := by
  rcases keyIs_shape h with ⟨i, t, _, rfl⟩ | ⟨x, t, _, rfl⟩
  · exact ⟨true, by cases n <;> rfl⟩
  · exact ⟨false, by cases n <;> rfl⟩
theorem items_hash {k : List Key} {vs : List Value} (h : ItemsAre (mixKind P w) k vs) (n : Nat) : ∀ v ∈ vs, ∃ c, hashByValue n v = pure c := by
  induction h with
  | nil =>
    intro v hv
    cases hv
  | cons h1 _ ih =>
    intro v hv
    rcases List.mem_cons.mp hv with e | hv
    · rw [e]
      exact hashV_val n h1
    · exact ih v hv
theorem hashV_tup {k : List Key} {b : Addr} {Q : Bool → Shared → Prop} (hk : IsK P w s.heap k b) (h : ∀ c, Q c s) : wpAny (model P w) A (hashByValue 8 (.ref b)) Q E s := by
  have ty := hk.typeIs
  obtain ⟨o, items, n, ho, _, hd, hi⟩ := hk
  have bv := items_hash hi 7
  unfold hashByValue
  refine wpAny_bind (wpAny_specialOf ty F.slot_tuple_hash.lookup ?_)
  show wpAny _ _ (seqItems? (.ref b) >>= _) _ _ s
  refine wpAny_bind (wpAny_seqItems ho hd ?_)
  refine wpAny_bind ?_
  show wpAny _ _ (forIn items _ _) _ _ s
  rw [← Array.forIn_toList]
  refine wpAny_forIn_list _ (fun left r s' => r.1 = none ∧ s' = s ∧ ∀ v ∈ left, ∃ c, hashByValue 7 v = pure c) _ ?_ ?_ _ _ ⟨rfl, rfl, bv⟩
  · rintro v left r s' ⟨hr, rfl, al⟩
    obtain ⟨c, e⟩ := al v List.mem_cons_self
    rw [e]
    refine wpAny_bind (wpAny_pure ?_)
    cases c with
    | false =>
      simp only [Bool.not_false, if_true]
      exact wpAny_pure (wpAny_pure (h _))
    | true =>
      simp only [Bool.not_true, Bool.false_eq_true, if_false]
      exact wpAny_pure ⟨rfl, rfl, fun u hu => al u (List.mem_cons_of_mem _ hu)⟩
  · rintro ⟨r1, r2⟩ s' ⟨hr, rfl, _⟩
    obtain rfl : r1 = none := hr
    exact wpAny_pure (h _)
end
end Kx
end
section
set_option maxRecDepth 100000
set_option maxHeartbeats 4000000
namespace Kx
open PySem PySem.Spec PyProof.Rows L2
section
variable {P : Program} {w : World} {A : Around} {E : Value → Shared → Prop} {s : Shared}
theorem seen_none {k : List Key} {b : Addr} {Q : Bool → Shared → Prop} (hk : IsK P w s.heap k b) {ys : List Value} (hy : ∀ y ∈ ys, ∃ k' c, y = Value.ref c ∧ IsK P w s.heap k' c) (h : Q false s) :
    wpAny (model P w) A (searchCouldBeSeen (.ref b) ys) Q E s := by
  unfold searchCouldBeSeen
  refine wpAny_bind ?_
  refine wpAny_forIn_list _ (fun left r s' => r.1 = none ∧ s' = s ∧ ∀ y ∈ left, ∃ k' c, y = Value.ref c ∧ IsK P w s.heap k' c) _ ?_ ?_ _ _ ⟨rfl, rfl, hy⟩
  · rintro v left r s' ⟨hr, rfl, al⟩
    obtain ⟨k', c, rfl, hc⟩ := al v List.mem_cons_self
    have al' : ∀ y ∈ left, ∃ k' c, y = Value.ref c ∧ IsK P w s'.heap k' c := fun u hu => al u (List.mem_cons_of_mem _ hu)
    dsimp only
    by_cases same : (b == c || (carriedByValue (.ref b) && carriedByValue (.ref c))) = true
    · exact wp_if_pos same (wpAny_pure ⟨rfl, rfl, al'⟩)
    · refine wp_if_neg same ?_
      refine wpAny_bind (wpAny_eqIsQuiet_tuple hk ?_)
      simp only [Bool.not_true, Bool.false_eq_true, if_false]
      refine wpAny_bind (wpAny_eqIsQuiet_tuple hc ?_)
      simp only [Bool.not_true, Bool.false_eq_true, if_false]
      refine wpAny_bind (cls_tup hk ?_)
      simp only [Bool.false_eq_true, if_false]
      refine wpAny_bind (cls_tup hc ?_)
      simp only [Bool.false_eq_true, if_false]
      exact wpAny_pure ⟨rfl, rfl, al'⟩
  · rintro ⟨r1, r2⟩ s' ⟨hr, rfl, _⟩
    obtain rfl : r1 = none := hr
    exact wpAny_pure h
abbrev ents (P : Program) (w : World) (L : List (Addr × List Key)) : List (Int × Value) := L.map fun p => (hashK P w p.2, Value.ref p.1)
abbrev hashes (P : Program) (w : World) (L : List (Addr × List Key)) : List Int := L.map fun p => hashK P w p.2
/-- the set at S holds the tuples L -/
structure TSet (P : Program) (w : World) (h : Heap) (S : Addr) (L : List (Addr × List Key)) (es : Array (Int × Value)) (ep : Nat) (t : SetTable) : Prop where
  ob : ∃ o, h.get? S = some o ∧ o.ExactSet ∧ o.data = .set es ep t
  es_eq : es.toList = ents P w L
  tab : TabOk t (hashes P w L)
  nd : (L.map (·.2)).Nodup
  tup : ∀ p ∈ L, IsK P w h p.2 p.1
  room : L.length * 5 < t.mask * 3
  few : L.length < 64
variable {S : Addr} {L : List (Addr × List Key)} {es : Array (Int × Value)} {ep : Nat} {t : SetTable}
theorem ents_size (e : es.toList = ents P w L) : es.size = L.length := by
  have h := congrArg List.length e
  rw [Array.length_toList, List.length_map] at h
  exact h
theorem TSet.fits (R : TSet P w s.heap S L es ep t) : t.fits es.size = true := by
  have h1 := R.tab.sz
  rw [List.length_map] at h1
  have h2 := ents_size R.es_eq
  have h3 := R.room
  unfold SetTable.fits SetTable.fill
  rw [R.tab.dm, Bool.and_eq_true, beq_iff_eq, decide_eq_true_eq]
  exact ⟨by omega, by show t.place.size + 0 ≤ t.mask; omega⟩
theorem TSet.ent (R : TSet P w s.heap S L es ep t) {i : Nat} {p : Addr × List Key} (h : L[i]? = some p) : es[i]? = some (hashK P w p.2, Value.ref p.1) := by
  rw [← Array.getElem?_toList, R.es_eq, List.getElem?_map, h]
  rfl
theorem no_dummy (m : Nat) : ∀ (n : Nat) (p : SetTable.Probe), p.dummy = none → (nth m p n).dummy = none
  | 0, _, h => h
  | n + 1, p, h => no_dummy m n (adv m p) (by
    unfold adv
    split <;> exact h)
/-- a search from the c-th step of its way on -/
theorem tsearch (R : TSet P w s.heap S L es ep t) {x : Addr} {k : List Key} (hx : IsK P w s.heap k x) (hu : A.units < cLine) {h : Int} (eh : h = hashK P w k) {K : Nat} (hKf : K < 10 * SetTable.turns t.mask)
    (hK : way t.mask h K ∉ t.place.toList) (hKb : ∀ c, c < K → way t.mask h c ∈ t.place.toList) {Q : SetFound → Shared → Prop}
    (yes : k ∈ L.map (·.2) → Q (.there none) s) (no : k ∉ L.map (·.2) → Q (.free (way t.mask h K) false) s) :
    ∀ (f c : Nat) (stand : Option SetTable.Probe), stand.getD (t.probeStart h) = nth t.mask (runAt t.mask (SetTable.bits h % (t.mask + 1)) (SetTable.bits h)) c → c ≤ K → K - c < f →
      (∀ (i : Nat) p, L[i]? = some p → p.2 = k → ∃ c', c ≤ c' ∧ c' < K ∧ t.place.toList[i]? = some (way t.mask h c')) →
      wpAny (model P w) A (setSearchFrom S (.ref x) h true f stand) Q E s
  | 0, c, stand, _, _, hf, _ => absurd hf (Nat.not_lt_zero _)
  | f + 1, c, stand, hst, hc, hf, hre => by
    obtain ⟨o, ho, hex, hd⟩ := R.ob
    have gw : ¬ t.gaveWay = true := by
      unfold SetTable.gaveWay
      rw [mask_odd R.tab.mok]
      decide
    rw [setSearchFrom_succ]
    refine wpAny_bind (wpAny_setState_of ho hd R.fits ?_)
    dsimp only
    refine wp_if_neg gw ?_
    try refine wpAny_bind (wpAny_pure ?_)
    obtain ⟨r0, er0⟩ : ∃ r0, r0 = runAt t.mask (SetTable.bits h % (t.mask + 1)) (SetTable.bits h) := ⟨_, rfl⟩
    have wy : ∀ q, (nth t.mask r0 q).j = way t.mask h q := fun q => by rw [er0]
    have e1 : ∀ q, (nth t.mask (nth t.mask r0 c) q).j = way t.mask h (c + q) := fun q => by rw [← nth_add, wy]
    rw [← er0] at hst
    have spec := go_spec t R.tab.ris R.tab.dm (fun i => (es[i]?.map (·.1)).getD 0) h (10 * SetTable.turns t.mask) (K - c) (nth t.mask r0 c) (no_dummy _ _ _ (by rw [er0]; rfl)) (by omega)
      (fun q hq => by rw [e1]; exact hKb _ (by omega)) (by rw [e1, show c + (K - c) = K by omega]; exact hK)
    have hat : ∀ (i : Nat) p, L[i]? = some p → (es[i]?.map (·.1)).getD 0 = hashK P w p.2 := fun i p hp => by
      rw [R.ent hp]
      rfl
    have later : ∀ q : Nat, (∀ k' i' : Nat, k' < q → t.place.toList[i']? = some (nth t.mask (nth t.mask r0 c) k').j → (es[i']?.map (·.1)).getD 0 ≠ h) → ∀ (i : Nat) p, L[i]? = some p → p.2 = k → ∀ c', c ≤ c' → t.place.toList[i]? = some (way t.mask h c') → c + q ≤ c' :=
      fun q hno i p hp hk c' lo hi => by
        rcases Nat.lt_or_ge c' (c + q) with z | z
        · exfalso
          refine hno (c' - c) i (by omega) (by rw [e1, show c + (c' - c) = c' by omega]; exact hi) ?_
          rw [hat i p hp, hk, eh]
        · exact z
    rcases spec with ⟨q, i, hq, hi, hh, hno, hpr⟩ | ⟨hno, hpr⟩
    · have pr : t.probe (fun i => (es[i]?.map (·.1)).getD 0) h (stand.getD (t.probeStart h)) = some (.candidate (way t.mask h (c + q)) i (nth t.mask r0 (c + (q + 1)))) := by
        rw [hst, ← e1, nth_add]
        exact hpr
      rw [pr]
      dsimp only
      rw [e1] at hi
      have il : i < L.length := by
        have h1 : i < t.place.toList.length := (List.getElem?_eq_some_iff.mp hi).1
        have h2 := R.tab.sz
        rw [List.length_map] at h2
        rw [Array.length_toList] at h1
        omega
      have hp : L[i]? = some L[i] := List.getElem?_eq_getElem il
      generalize L[i] = p at hp
      have pm : p ∈ L := List.mem_of_getElem? hp
      have rest : wpAny (model P w) A (searchRest S (.ref x) h true f es t (way t.mask h (c + q)) i (nth t.mask r0 (c + (q + 1)))) Q E s := by
        unfold searchRest
        rw [R.ent hp]
        dsimp only
        refine wpAny_bind (wpAny_holding (wpAny_eqBool_tuple hu (R.tup p pm) hx ?_))
        refine wpAny_bind (wpAny_setState_of ho hd R.fits ?_)
        dsimp only
        by_cases ek : p.2 = k
        · exact wp_if_pos (by simp [ek]) (wpAny_pure (yes (List.mem_map.mpr ⟨p, pm, ek⟩)))
        · refine wp_if_neg (by simp [ek]) ?_
          try refine wpAny_bind (wpAny_pure ?_)
          rw [sameMem]
          dsimp only
          have sl : t.slot (way t.mask h (c + q)) = .live i := slot_live R.tab.ris hi
          simp only [if_true, sl, R.ent hp]
          refine wpAny_bind (wpAny_isSame_ref_self (wpAny_bind (wpAny_pure ?_)))
          simp only [if_true]
          refine wp_if_neg (by simp [ek]) ?_
          refine tsearch R hx hu eh hKf hK hKb yes no f (c + (q + 1)) _ (by rw [← er0]; rfl) (by omega) (by omega) fun i0 p0 h0 k0 => ?_
          obtain ⟨c', a1, a2, a3⟩ := hre i0 p0 h0 k0
          refine ⟨c', ?_, a2, a3⟩
          have ge := later q hno i0 p0 h0 k0 c' a1 a3
          rcases Nat.lt_or_ge (c + q) c' with y | y
          · omega
          · exfalso
            rw [show c' = c + q by omega] at a3
            have s0 := slot_live R.tab.ris a3
            rw [sl] at s0
            injection s0 with s0
            rw [← s0, hp] at h0
            exact ek ((congrArg Prod.snd (Option.some.inj h0)).trans k0)
      by_cases hl : t.led = true
      · refine wp_if_neg (by simp [hl]) ?_
        try refine wpAny_bind (wpAny_pure ?_)
        exact rest
      · refine wp_if_pos (by simp [hl]) ?_
        refine wpAny_bind (seen_none hx (fun y hy => ?_) ?_)
        · obtain ⟨e, he, ee⟩ := List.mem_map.mp hy
          have he1 : e ∈ es ∧ e.1 = h := by simpa using he
          have he2 : e ∈ es.toList := by simpa using he1.1
          rw [R.es_eq] at he2
          obtain ⟨p2, hp2, e2⟩ := List.mem_map.mp he2
          exact ⟨p2.2, p2.1, by rw [← ee, ← e2], R.tup p2 hp2⟩
        · refine wp_if_neg (by decide) ?_
          try refine wpAny_bind (wpAny_pure ?_)
          exact rest
    · have pr : t.probe (fun i => (es[i]?.map (·.1)).getD 0) h (stand.getD (t.probeStart h)) = some (.empty (way t.mask h K) none) := by
        rw [hst, show way t.mask h K = (nth t.mask (nth t.mask r0 c) (K - c)).j by rw [e1, show c + (K - c) = K by omega]]
        exact hpr
      rw [pr]
      dsimp only
      refine wpAny_pure (no fun hm => ?_)
      obtain ⟨p0, h0, k0⟩ := List.mem_map.mp hm
      obtain ⟨i0, hi0, e0⟩ := List.getElem_of_mem h0
      have h00 : L[i0]? = some p0 := by rw [List.getElem?_eq_getElem hi0, e0]
      obtain ⟨c', a1, a2, a3⟩ := hre i0 p0 h00 k0
      have ge := later (K - c) hno i0 p0 h00 k0 c' a1 a3
      omega
/-- .. as adding asks it -/
theorem tsearch_at (R : TSet P w s.heap S L es ep t) {x : Addr} {k : List Key} (hx : IsK P w s.heap k x) (hu : A.units < cLine) {h : Int} (eh : h = hashK P w k) {Q : SetFound → Shared → Prop}
    (yes : k ∈ L.map (·.2) → Q (.there none) s)
    (no : ∀ K, k ∉ L.map (·.2) → way t.mask h K ∉ t.place.toList → (∀ c, c < K → way t.mask h c ∈ t.place.toList) → Q (.free (way t.mask h K) false) s) :
    wpAny (model P w) A (setSearch S (.ref x) h true) Q E s := by
  have room := R.room
  obtain ⟨K, hKf, hK, hKb⟩ := R.tab.first (by rw [List.length_map]; omega) h
  have turns : 10 * SetTable.turns t.mask ≤ 1420 := by
    unfold SetTable.turns
    rcases R.tab.mok with e | e | e <;> omega
  unfold setSearch
  refine tsearch R hx hu eh hKf hK hKb yes (fun hn => no K hn hK hKb) 100000 0 none rfl (Nat.zero_le _) (by omega) fun i p hp hk => ?_
  have hi : (hashes P w L)[i]? = some h := by
    rw [List.getElem?_map, hp, eh, ← hk]
    rfl
  have il : i < t.place.toList.length := by
    have h1 : i < L.length := (List.getElem?_eq_some_iff.mp hp).1
    have h2 := R.tab.sz
    rw [List.length_map] at h2
    rw [Array.length_toList]
    omega
  have hj := List.getElem?_eq_getElem il
  obtain ⟨c, hc, e⟩ := R.tab.before hK hi hj
  exact ⟨c, Nat.zero_le _, hc, by rw [hj, e]⟩
end
end Kx
end
section
set_option maxRecDepth 100000
set_option maxHeartbeats 4000000
namespace Kx
open PySem PySem.Spec PyProof.Rows L2
section
variable {P : Program} {w : World} {A : Around} {E : Value → Shared → Prop} {s : Shared}
theorem isK_but {h h' : Heap} {k : List Key} {a b : Addr} {o : Obj} {es : Array (Int × Value)} {ep : Nat} {t : SetTable} (hb : IsK P w h k b) (ho : h.get? a = some o) (hd : o.data = .set es ep t) (hs : Heap.SameBut a h h') : IsK P w h' k b := by
  obtain ⟨o', items, n, ho', hc, hd', hi⟩ := hb
  refine ⟨o', items, n, (hs.2 b ?_).trans ho', hc, hd', hi⟩
  rintro rfl
  obtain rfl : o' = o := Option.some.inj (ho'.symm.trans ho)
  rw [hd] at hd'
  exact nomatch hd'
theorem isK_ext {h h' : Heap} {k : List Key} {b : Addr} (x : IsK P w h k b) (hk : Ext h h') : IsK P w h' k b := by
  obtain ⟨o, items, n, ho, r⟩ := x
  exact ⟨o, items, n, hk b o ho, r⟩
theorem fm_some {α : Type} {L : List α} : ∀ n, n ≤ L.length → (List.range n).filterMap (fun i => L[i]?) = L.take n
  | 0, _ => rfl
  | n + 1, hn => by
    have lt : n < L.length := hn
    rw [List.range_succ, List.filterMap_append, fm_some n (Nat.le_of_lt lt), List.take_succ, List.getElem?_eq_getElem lt, List.filterMap_cons_some (List.getElem?_eq_getElem lt)]
    rfl
theorem ents_order (L : List (Addr × List Key)) (es : Array (Int × Value)) (order : Array Nat) (hr : es.toList = ents P w L) (hp : order.toList.Perm (List.range L.length)) :
    ∃ L2, (order.filterMap (es[·]?)).toList = ents P w L2 ∧ L2.Perm L ∧ hashes P w L2 = order.toList.map fun i => (es.map (·.1)).getD i 0 := by
  have sz := ents_size hr
  have at_ : ∀ i (h : i < L.length), es[i]? = some (hashK P w (L[i]).2, Value.ref (L[i]).1) := fun i h => by
    rw [← Array.getElem?_toList, hr, List.getElem?_map, List.getElem?_eq_getElem h]
    rfl
  have key : ∀ l : List Nat, (∀ i ∈ l, i < L.length) → l.filterMap (fun i => es[i]?) = ents P w (l.filterMap fun i => L[i]?) ∧ hashes P w (l.filterMap fun i => L[i]?) = l.map fun i => (es.map (·.1)).getD i 0 := by
    intro l
    induction l with
    | nil => exact fun _ => ⟨rfl, rfl⟩
    | cons i l ih =>
      intro hl
      have hi := hl i List.mem_cons_self
      obtain ⟨e1, e3⟩ := ih fun j hj => hl j (List.mem_cons_of_mem _ hj)
      have e5 : (es.map (·.1))[i]? = some (hashK P w (L[i]).2) := by
        rw [Array.getElem?_map, at_ i hi]
        rfl
      constructor
      · rw [List.filterMap_cons_some (at_ i hi), e1, List.filterMap_cons_some (List.getElem?_eq_getElem hi)]
        rfl
      · rw [List.filterMap_cons_some (List.getElem?_eq_getElem hi), List.map_cons]
        show hashK P w (L[i]).2 :: hashes P w _ = _
        rw [e3]
        simp [Array.getD_eq_getD_getElem?, e5]
  obtain ⟨e1, e3⟩ := key order.toList fun i hi => List.mem_range.mp (hp.mem_iff.mp hi)
  refine ⟨_, by first | (rw [Array.toList_filterMap]; exact e1) | simpa using e1, ?_, e3⟩
  have h1 := hp.filterMap fun i => L[i]?
  rw [fm_some L.length (Nat.le_refl _), List.take_length] at h1
  exact h1
variable {S : Addr} {L : List (Addr × List Key)} {es : Array (Int × Value)} {ep : Nat} {t : SetTable}
/-- the table laid anew -/
theorem trelay {o : Obj} (ho : s.heap.get? S = some o) (hex : o.ExactSet) (hd : o.data = .set es ep t) (hr : es.toList = ents P w L) (hsz : t.place.size = es.size) (hdm : t.dummies = #[]) (hfl : es.size ≤ t.mask)
    (nd : (L.map (·.2)).Nodup) (tup : ∀ p ∈ L, IsK P w s.heap p.2 p.1) (few : L.length < 64) {wanted M : Nat} (hw : SetTable.sizeAbove wanted - 1 = M) (hM : MaskOk M) (hw2 : SetTable.sizeAbove wanted ≤ 128) (hn : L.length * 5 < M * 3)
    {Q : Unit → Shared → Prop} (hQ : ∀ h' L' es' ep' t', Heap.SameBut S s.heap h' → TSet P w h' S L' es' ep' t' → L'.Perm L → Q () { s with heap := h' }) : wpAny (model P w) A (setRelay S wanted) Q E s := by
  have sl := ents_size hr
  have fits : t.fits es.size = true := by
    unfold SetTable.fits SetTable.fill
    rw [hdm, Bool.and_eq_true, beq_iff_eq, decide_eq_true_eq]
    exact ⟨hsz, by show t.place.size + 0 ≤ t.mask; omega⟩
  obtain ⟨t', order, e, hp, T, em, _, _, _⟩ := relaid_ok t (hs := es.map (·.1)) (wanted := wanted) hw hM (by rw [Array.size_map, sl]; omega)
  rw [Array.size_map, sl] at hp
  obtain ⟨L2, r1, r2, r3⟩ := ents_order L es order hr hp
  rw [← r3] at T
  have s2 : (order.filterMap (es[·]?)).size = es.size := by rw [ents_size r1, r2.length_eq, sl]
  rw [setRelay_eq]
  refine wpAny_bind (wpAny_setState_of ho hd fits ?_)
  dsimp only
  refine wp_if_neg (by rw [sizeLine_eq]; omega) ?_
  try refine wpAny_bind (wpAny_pure ?_)
  rw [e]
  dsimp only
  refine wpAny_bind ?_
  refine wp_if_neg (by rw [s2]; simp) ?_
  try refine wpAny_bind (wpAny_pure ?_)
  refine wpAny_pure ?_
  dsimp only
  refine wpAny_storeSet_of ho hd ?_ (by rw [s2, sl, sizeLine_eq]; omega)
  have sb : Heap.SameBut S s.heap (s.heap.update S (Obj.putSet (order.filterMap (es[·]?)) t')) := Heap.SameBut.update ..
  exact hQ _ L2 _ (ep + 1) t' sb ⟨⟨_, store_at ho hd, ⟨hex.1, hex.2.1, hex.2.2⟩, rfl⟩, r1, T, (r2.map (·.2)).nodup_iff.mpr nd, fun p hp => isK_but (tup p (r2.mem_iff.mp hp)) ho hd sb,
    by rw [r2.length_eq, em]; exact hn, by rw [r2.length_eq]; exact few⟩ r2
theorem hashes_put (L : List (Addr × List Key)) (p : Nat) (x : Addr) (k : List Key) : hashes P w (L.take p ++ (x, k) :: L.drop p) = (hashes P w L).take p ++ hashK P w k :: (hashes P w L).drop p := by
  unfold hashes
  rw [List.map_append, List.map_cons, List.map_take, List.map_drop]
theorem ents_put (L : List (Addr × List Key)) (p : Nat) (x : Addr) (k : List Key) : ents P w (L.take p ++ (x, k) :: L.drop p) = (ents P w L).take p ++ (hashK P w k, Value.ref x) :: (ents P w L).drop p := by
  unfold ents
  rw [List.map_append, List.map_cons, List.map_take, List.map_drop]
theorem tabOk_plain {t : SetTable} {hs : List Int} (T : TabOk t hs) (b : Bool) : TabOk { t with plain := b } hs := ⟨T.ris, T.dm, T.sz, T.mok, T.bd, T.reach⟩
/-- one tuple added -/
theorem tadd (R : TSet P w s.heap S L es ep t) {x : Addr} {k : List Key} (hx : IsK P w s.heap k x) (hu : A.units < cLine) (few : L.length + 1 < 64) {h : Int} (eh : h = hashK P w k) {Q : Bool → Shared → Prop}
    (hQ : ∀ b h' L' es' ep' t', Heap.SameBut S s.heap h' → TSet P w h' S L' es' ep' t' → (k ∈ L.map (·.2) → L' = L) → (k ∉ L.map (·.2) → L'.Perm ((x, k) :: L)) → Q b { s with heap := h' }) :
    wpAny (model P w) A (setAddHashed S (.ref x) h) Q E s := by
  obtain ⟨o, ho, hex, hd⟩ := R.ob
  have sl := ents_size R.es_eq
  have room := R.room
  unfold setAddHashed
  refine wpAny_holding ?_
  rw [show (100000 : Nat) = 99999 + 1 from rfl, setAddHashedIn_succ]
  refine wpAny_bind (wpAny_setState_of ho hd R.fits ?_)
  dsimp only
  refine wp_if_neg (by simp [byScan, Value.scannable]) ?_
  try refine wpAny_bind (wpAny_pure ?_)
  refine wpAny_bind (tsearch_at R hx hu eh (fun hm => ?_) fun K hm hK hb => ?_)
  · dsimp only
    exact wpAny_pure (hQ false s.heap L es ep t (Heap.SameBut.refl S s.heap) R (fun _ => rfl) fun z => absurd hm z)
  · dsimp only
    refine wpAny_bind (wpAny_setState_of ho hd R.fits ?_)
    dsimp only
    obtain ⟨q1, q2, q3, q4, _, _, _, _, q9⟩ := R.tab.put hK hb
    generalize ept : t.put (way t.mask h K) = pt at q1 q3 q4 q9 ⊢
    obtain ⟨t1, p⟩ := pt
    dsimp only at q1 q3 q4 q9 ⊢
    subst q1
    have eb : (SetTable.insertAt es (SetTable.below t.place (way t.mask h K)) (h, Value.ref x)).toList = ents P w (L.take (SetTable.below t.place (way t.mask h K)) ++ (x, k) :: L.drop (SetTable.below t.place (way t.mask h K))) := by
      rw [SetTable.toList_insertAt, ents_put, R.es_eq, eh]
    rw [eh] at q3
    rw [← eh] at q3
    generalize SetTable.below t.place (way t.mask h K) = p at q2 q3 eb ⊢
    have pm := put_perm L p (x, k)
    have len : (L.take p ++ (x, k) :: L.drop p).length = L.length + 1 := pm.length_eq
    have hh : hashes P w (L.take p ++ (x, k) :: L.drop p) = (hashes P w L).take p ++ h :: (hashes P w L).drop p := by rw [hashes_put, eh]
    rw [← hh] at q3
    have nd1 : ((L.take p ++ (x, k) :: L.drop p).map (·.2)).Nodup := by
      refine (pm.map (·.2)).nodup_iff.mpr ?_
      rw [List.map_cons]
      exact List.nodup_cons.mpr ⟨hm, R.nd⟩
    generalize SetTable.insertAt es p (h, Value.ref x) = es1 at eb ⊢
    generalize L.take p ++ (x, k) :: L.drop p = L1 at pm len q3 nd1 eb
    have z1 : es1.size = L.length + 1 := by rw [ents_size eb, len]
    have cont : ∀ t2 : SetTable, TabOk t2 (hashes P w L1) → t2.mask = t.mask → t2.fill = (hashes P w L).length + 1 →
        wpAny (model P w) A (do
          storeSet S es1 t2
          if !false && t2.tooFull then setRelay S (SetTable.grown (es.size + 1))
          return true) Q E s := fun t2 T2 m2 f2 => by
      refine wpAny_bind (wpAny_storeSet_of ho hd ?_ (by rw [z1, sizeLine_eq]; omega))
      have sb : Heap.SameBut S s.heap (s.heap.update S (Obj.putSet es1 t2)) := Heap.SameBut.update ..
      have ho1 := store_at (es' := es1) (t' := t2) ho hd
      generalize s.heap.update S (Obj.putSet es1 t2) = h1 at sb ho1 ⊢
      have tup1 : ∀ p ∈ L1, IsK P w h1 p.2 p.1 := fun p hp => by
        rcases List.mem_cons.mp (pm.mem_iff.mp hp) with e | hp
        · rw [e]
          exact isK_but hx ho hd sb
        · exact isK_but (R.tup p hp) ho hd sb
      by_cases full : t2.tooFull = true
      · have big : (L.length + 1) * 5 ≥ t2.mask * 3 := by
          have u := full
          unfold SetTable.tooFull at u
          rw [decide_eq_true_eq, f2, List.length_map] at u
          exact u
        have two : (t.mask = 7 ∧ L.length = 4) ∨ (t.mask = 31 ∧ L.length = 18) := by
          rcases R.tab.mok with e | e | e
          · rw [m2, e] at big
            rw [e] at room
            exact .inl ⟨e, by omega⟩
          · rw [m2, e] at big
            rw [e] at room
            exact .inr ⟨e, by omega⟩
          · exfalso
            rw [m2, e] at big
            omega
        have s1 : t2.place.size = es1.size := by
          have u := T2.sz
          rw [List.length_map, len] at u
          rw [u, z1]
        have go : ∀ M, SetTable.sizeAbove (SetTable.grown (L.length + 1)) - 1 = M → MaskOk M → SetTable.sizeAbove (SetTable.grown (L.length + 1)) ≤ 128 → (L.length + 1) * 5 < M * 3 →
            wpAny (model P w) A (setRelay S (SetTable.grown (L.length + 1))) (fun _ s' => wpAny (model P w) A (pure true) Q E s') E { s with heap := h1 } := fun M y1 y2 y3 y4 => by
          refine trelay (s := { s with heap := h1 }) ho1 ⟨hex.1, hex.2.1, hex.2.2⟩ rfl eb s1 T2.dm (by rw [z1, m2]; rcases two with ⟨e, e2⟩ | ⟨e, e2⟩ <;> omega) nd1 tup1 (by rw [len]; exact few) y1 y2 y3 (by rw [len]; exact y4) ?_
          intro h2 L2 es2 ep2 t2 sb2 R2 pm2
          exact wpAny_pure (hQ true h2 L2 es2 ep2 t2 (sb.trans sb2) R2 (fun z => absurd z hm) fun _ => pm2.trans pm)
        rw [sl]
        first
          | (refine wpAny_bind ?_; refine wp_if_pos (by simp [full]) ?_)
          | (refine wp_if_pos (by simp [full]) ?_; refine wpAny_bind ?_)
        rcases two with ⟨_, e2⟩ | ⟨_, e2⟩
        · exact go 31 (by rw [e2, size_20]) (.inr (.inl rfl)) (by rw [e2, size_20]; decide) (by omega)
        · exact go 127 (by rw [e2, size_76]) (.inr (.inr rfl)) (by rw [e2, size_76]; decide) (by omega)
      · first
          | refine wp_if_neg (by simp [full]) ?_
          | (refine wpAny_bind ?_; refine wp_if_neg (by simp [full]) ?_; refine wpAny_pure ?_)
        refine wpAny_pure (hQ true h1 L1 es1 (ep + 1) t2 sb ⟨⟨_, ho1, ⟨hex.1, hex.2.1, hex.2.2⟩, rfl⟩, eb, T2, nd1, tup1, ?_, by rw [len]; exact few⟩ (fun z => absurd z hm) fun _ => pm)
        have u := full
        unfold SetTable.tooFull at u
        rw [decide_eq_true_eq, f2, List.length_map] at u
        rw [len]
        omega
    by_cases pl : t1.plain = true
    · first
        | (refine wpAny_bind ?_; refine wp_if_pos pl ?_; refine hashV_tup hx fun c => ?_)
        | refine wp_if_pos pl (wpAny_bind (hashV_tup hx fun c => ?_))
      cases c with
      | true =>
        simp only [if_true]
        exact cont t1 q3 q4 q9
      | false =>
        simp only [Bool.false_eq_true, if_false]
        exact cont { t1 with plain := false } (tabOk_plain q3 false) q4 q9
    · first
        | (refine wpAny_bind ?_; refine wp_if_neg pl ?_; refine wpAny_pure ?_)
        | refine wp_if_neg pl (wpAny_bind (wpAny_pure ?_))
      simp only [if_true]
      exact cont t1 q3 q4 q9
end
end Kx
end
section
set_option maxRecDepth 100000
set_option maxHeartbeats 4000000
namespace Kx
open PySem PySem.Spec PyProof.Rows L2
/-! ### how many of the first i are unlike -/
section
variable {α : Type} [DecidableEq α]
def cntTo (xs : List α) : Nat → Nat
  | 0 => 0
  | i + 1 => match xs[i]? with
    | some x => if x ∈ xs.take i then cntTo xs i else cntTo xs i + 1
    | none => cntTo xs i
theorem cnt_le (xs : List α) : ∀ i, cntTo xs i ≤ i
  | 0 => Nat.le_refl _
  | i + 1 => by
    have h := cnt_le xs i
    unfold cntTo
    split
    · split <;> omega
    · omega
theorem cnt_step {xs : List α} {i : Nat} {x : α} (h : xs[i]? = some x) : cntTo xs (i + 1) = if x ∈ xs.take i then cntTo xs i else cntTo xs i + 1 := by
  conv => lhs; unfold cntTo
  rw [h]
theorem cnt_nodup {xs : List α} (n : xs.Nodup) : ∀ i, i ≤ xs.length → cntTo xs i = i
  | 0, _ => rfl
  | i + 1, hi => by
    have lt : i < xs.length := hi
    rw [cnt_step (List.getElem?_eq_getElem lt), cnt_nodup n i (Nat.le_of_lt lt), if_neg]
    intro hm
    obtain ⟨j, hj, e⟩ := List.getElem_of_mem hm
    rw [List.getElem_take] at e
    rw [List.length_take] at hj
    exact absurd e (List.pairwise_iff_getElem.mp n j i (by omega) lt (by omega))
theorem nodup_cnt {xs : List α} : ∀ i, i ≤ xs.length → cntTo xs i = i → (xs.take i).Nodup
  | 0, _, _ => by simp
  | i + 1, hi, e => by
    have lt : i < xs.length := hi
    have le := cnt_le xs i
    rw [cnt_step (List.getElem?_eq_getElem lt)] at e
    by_cases c : xs[i] ∈ xs.take i
    · rw [if_pos c] at e
      omega
    · rw [if_neg c] at e
      have ih := nodup_cnt i (Nat.le_of_lt lt) (by omega)
      rw [take_next (List.getElem?_eq_getElem lt), List.nodup_append]
      exact ⟨ih, by simp, fun a ha b hb => by
        rw [List.mem_singleton.mp hb]
        rintro rfl
        exact c ha⟩
/-- just lists without doubles have as many unlike things as things -/
theorem cnt_iff (xs : List α) : cntTo xs xs.length = xs.length ↔ xs.Nodup :=
  ⟨fun h => by
    have n := nodup_cnt xs.length (Nat.le_refl _) h
    rwa [List.take_length] at n, fun n => cnt_nodup n _ (Nat.le_refl _)⟩
end
section
variable {P : Program} {w : World} {A : Around} {E : Value → Shared → Prop} {s : Shared}
theorem fill_texts {S : Addr} {h0 : Heap} {us : List Value} {xs : List Str} (hs : StrsAre us xs) (few : xs.length < 4000) :
    Filled P w A E S h0 us.toArray (fun i h => i ≤ xs.length → h.SetOf (strKind P w) S (fun k => decide (k ∈ xs.take i)) (cntTo xs i)) where
  zero := fun h e _ => SetOf_congr ((setObjOf_fresh (knd := strKind P w) _).setOf e (by unfold scanBound; omega)) (fun _ => rfl) rfl
  keep := fun i h h' z k _ hi => by
    obtain ⟨o, es, ep, t, ho, r⟩ := z hi
    exact ⟨o, es, ep, t, k o ho, r⟩
  step := fun i v s hv z x Q hQ => by
    have hv' : us[i]? = some v := by simpa using hv
    have len := StrsAre.len_eq hs
    have il : i < xs.length := by
      have := (List.getElem?_eq_some_iff.mp hv').1
      omega
    have hx := List.getElem?_eq_getElem il
    obtain ⟨t, e⟩ := SS.strs_at hs i v hv'
    have ex : xs.getD i Str.empty = xs[i] := by simp [il]
    rw [ex] at e
    subst e
    have le := cnt_le xs i
    unfold setAdd
    refine wpAny_holding ?_
    refine wpAny_bind ((strKind P w).pyHash (k := xs[i]) (strKind_is _ _ _ _) ?_)
    refine wpAny_setAddHashed_of (knd := strKind P w) (s := { s with toks := s.toks + 1 }) (strKind_is _ _ _ _) rfl (z (Nat.le_of_lt il)) (by unfold scanBound; omega) fun h' sb z2 => ?_
    refine hQ _ h' (s.toks + 1) (Nat.le_succ _) sb fun _ => SetOf_congr z2 (fun k => ?_) ?_
    · show (decide (k ∈ xs.take i) || decide (k = xs[i])) = decide (k ∈ xs.take (i + 1))
      rw [take_next hx, ← Bool.decide_or]
      exact decide_eq_decide.mpr (by rw [List.mem_append, List.mem_singleton])
    · rw [cnt_step hx]
      by_cases c : xs[i] ∈ xs.take i <;> simp [c]
/-- what the set has got of the first i tuples -/
def GotK (P : Program) (w : World) (S : Addr) (ks : List (Addr × List Key)) (i : Nat) (h : Heap) : Prop :=
  ∃ L es ep t, TSet P w h S L es ep t ∧ (∀ p ∈ L, p ∈ ks.take i) ∧ (∀ p ∈ ks.take i, p.2 ∈ L.map (·.2)) ∧ L.length = cntTo (ks.map (·.2)) i
theorem fill_tups {S : Addr} {h0 : Heap} {ks : List (Addr × List Key)} {us : List Value} (hu : A.units < cLine) (hs : us = ks.map fun p => Value.ref p.1) (hk : ∀ p ∈ ks, IsK P w h0 p.2 p.1) (few : ks.length < 64) :
    Filled P w A E S h0 us.toArray (fun i h => i ≤ ks.length → GotK P w S ks i h) where
  zero := fun h e _ => ⟨[], #[], 0, _, ⟨⟨_, e, ⟨rfl, rfl, rfl⟩, rfl⟩, rfl, ⟨List.Pairwise.nil, rfl, rfl, .inl rfl, fun x hx => (by cases hx), fun i h j hi => (by simp at hi)⟩, List.nodup_nil, fun p hp => (by cases hp),
    (by show 0 * 5 < 7 * 3; decide), (by show 0 < 64; decide)⟩, fun p hp => (by cases hp), fun p hp => (by simp at hp), rfl⟩
  keep := fun i h h' z k x hi => by
    obtain ⟨L, es, ep, t, R, g1, g2, g3⟩ := z hi
    obtain ⟨o, ho, r⟩ := R.ob
    exact ⟨L, es, ep, t, ⟨⟨o, k o ho, r⟩, R.es_eq, R.tab, R.nd, fun p hp => isK_ext (hk p (List.mem_of_mem_take (g1 p hp))) x, R.room, R.few⟩, g1, g2, g3⟩
  step := fun i v s hv z x Q hQ => by
    subst hs
    have hv' : (ks.map fun p => Value.ref p.1)[i]? = some v := by simpa using hv
    rw [List.getElem?_map] at hv'
    obtain ⟨p, hp, rfl⟩ := Option.map_eq_some_iff.mp hv'
    have il : i < ks.length := (List.getElem?_eq_some_iff.mp hp).1
    obtain ⟨L, es, ep, t, R, g1, g2, g3⟩ := z (Nat.le_of_lt il)
    have le := cnt_le (ks.map (·.2)) i
    have hx : IsK P w s.heap p.2 p.1 := isK_ext (hk p (List.mem_of_getElem? hp)) x
    have hp2 : (ks.map (·.2))[i]? = some p.2 := by rw [List.getElem?_map, hp]; rfl
    have same : p.2 ∈ L.map (·.2) ↔ p.2 ∈ (ks.map (·.2)).take i := by
      rw [← List.map_take]
      constructor
      · intro h
        obtain ⟨q, hq, e⟩ := List.mem_map.mp h
        exact List.mem_map.mpr ⟨q, g1 q hq, e⟩
      · intro h
        obtain ⟨q, hq, e⟩ := List.mem_map.mp h
        rw [← e]
        exact g2 q hq
    unfold setAdd
    refine wpAny_holding ?_
    refine wpAny_bind (wpAny_pyHash_tuple hu hx ?_)
    refine tadd (s := { s with toks := s.toks + (p.2.length + 1) }) ⟨R.ob, R.es_eq, R.tab, R.nd, R.tup, R.room, R.few⟩ hx hu (by omega) rfl fun b h' L' es' ep' t' sb R' c1 c2 => ?_
    refine hQ b h' _ (Nat.le_add_right _ _) sb fun _ => ⟨L', es', ep', t', R', ?_, ?_, ?_⟩
    · intro q hq
      rw [take_next hp]
      rcases Classical.em (p.2 ∈ L.map (·.2)) with c | c
      · rw [c1 c] at hq
        exact List.mem_append_left _ (g1 q hq)
      · rcases List.mem_cons.mp ((c2 c).mem_iff.mp hq) with e | hq
        · rw [e]
          exact List.mem_append_right _ (List.mem_singleton.mpr rfl)
        · exact List.mem_append_left _ (g1 q hq)
    · intro q hq
      rw [take_next hp] at hq
      rcases Classical.em (p.2 ∈ L.map (·.2)) with c | c
      · rw [c1 c]
        rcases List.mem_append.mp hq with hq | hq
        · exact g2 q hq
        · rw [List.mem_singleton.mp hq]
          exact c
      · rw [((c2 c).map (·.2)).mem_iff, List.map_cons]
        rcases List.mem_append.mp hq with hq | hq
        · exact List.mem_cons_of_mem _ (g2 q hq)
        · rw [List.mem_singleton.mp hq]
          exact List.mem_cons_self
    · rw [cnt_step hp2]
      rcases Classical.em (p.2 ∈ L.map (·.2)) with c | c
      · rw [c1 c, if_pos (same.mp c), g3]
      · rw [(c2 c).length_eq, List.length_cons, if_neg (fun z => c (same.mpr z)), g3]
end
end Kx
end
section
set_option maxRecDepth 100000
set_option maxHeartbeats 4000000
namespace Kx
open PySem PySem.Spec PyProof.Rows L2
/-- x is a list of texts, or of tuples of keys, n of them unlike -/
def Unlike (K : PySem.W.Frag) (H : Hp) (x : V) (n : Nat) : Prop :=
  (∃ (l : Addr) (xs : List Str), x = .ref l ∧ SqL K H l (xs.map V.str) ∧ xs.length < 4000 ∧ n = cntTo xs xs.length) ∨
  (∃ (l : Addr) (ks : List (Addr × List Key)), x = .ref l ∧ SqL K H l (ks.map fun p => V.ref p.1) ∧ (∀ p ∈ ks, SqT K H p.1 (p.2.map kV)) ∧ ks.length < 64 ∧ n = cntTo (ks.map (·.2)) ks.length)
/-- len(set(xs)) -/
def tLenU (K : PySem.W.Frag) (ta : TE) : TE := fun σ H Q => ta σ H fun x H1 => ∃ n : Nat, Unlike K H1 x n ∧ Q (.int n) H1
section
variable {X : Cx} {pins : List (Addr × Obj)} {σ : L2.St} {H : Hp} {s : Shared}
theorem isK_of (I : Inv X pins σ H s) {t : Addr} {ks : List Key} (h : SqT X.K H t (ks.map kV)) : IsK X.prog X.w s.heap ks t := by
  obtain ⟨its, rv, hT, _⟩ := I.tuple h
  obtain ⟨o, ho, hc, n, hd⟩ := hT
  exact ⟨o, its.toArray, n, ho, hc, hd, by simpa using items_are rv⟩
theorem vals_refs : ∀ {ks : List (Addr × List Key)} {us : List Value}, Vals (ks.map fun p => V.ref p.1) us → us = ks.map fun p => Value.ref p.1
  | [], _, .nil => rfl
  | p :: ks, _, .cons r t => by
    rw [vals_refs t]
    have r' : _ = Value.ref p.1 := r
    rw [r']
    rfl
theorem pe_lenU {a : Expr} {ta : TE} {p p2 q pos : Pos} (hc : X.calm = true) (hu : X.A.units + 64 < cLine) (hg : Gl X "len") (hm : X.mg "len" = none) (hg2 : Gl X "set") (hm2 : X.mg "set" = none) (ha : PE X a ta)
    (na : starEach [a] X.env = (false, eval a X.env) :: starEach [] X.env := by rfl) : PE X (.Call (.Name "len" p) [.Call (.Name "set" p2) [a] [] q] [] pos) (tLenU X.K ta) := by
  refine ⟨fun pins s σ H Q I h => ?_⟩
  refine Call_ (ld_blt I hg hm PySem.boot_len ?_)
  refine PyProof.Rows.callWith_builtin1 (PyProof.Rows.args_cons ?_ rfl) rfl rfl
  refine Call_ (ld_blt I hg2 hm2 PyProof.Rows.boot_set ?_)
  refine PyProof.Rows.callWith_type1 (PyProof.Rows.args_cons (thn (ha.run pins s σ H _ I h) fun v s1 ⟨x, H1, I1, r1, n, un, q1⟩ => PyProof.Rows.args_nil ?_) na) na rfl
  have hz : s1.heap.get? s1.heap.objs.size = none := Heap.get?_none_of_le (Nat.le_refl _)
  rcases un with ⟨l, xs, rfl, hq, few, rfl⟩ | ⟨l, ks, rfl, hq, hk, few, rfl⟩
  · cases r1
    obtain ⟨its, r, pl, _⟩ := I1.list hq
    have sa := strsAre_of r
    have len : its.toArray.size = xs.length := by rw [List.size_toArray, ← r.length, List.length_map]
    refine call_set_any (I1.ok.hd hc) pl.isList (fun E => fill_texts sa few) fun h' tk hZ x => ?_
    rw [len] at hZ
    obtain ⟨o, es, ep, t, ho, hex, hd, _, _, _, hf, hn⟩ := hZ (Nat.le_refl _)
    have le := cnt_le xs xs.length
    have I2 : Inv X pins σ H1 { s1 with heap := h', toks := tk } := I1.kept fun b o e => x b o e
    exact PyProof.Rows.args_nil (call_len_set ho hex hd hf (by rw [hn]; omega) ⟨.int _, H1, I2.tok _, ⟨_, by rw [hn]⟩, q1⟩)
  · cases r1
    obtain ⟨its, r, pl, _⟩ := I1.list hq
    have su := vals_refs r
    have len : its.toArray.size = ks.length := by rw [List.size_toArray, su, List.length_map]
    refine call_set_any (I1.ok.hd hc) pl.isList (fun E => fill_tups (by show X.A.units + 3 < cLine; omega) su (fun p hp => isK_of I1 (hk p hp)) few) fun h' tk hZ x => ?_
    rw [len] at hZ
    obtain ⟨L, es, ep, t, R, g1, g2, g3⟩ := hZ (Nat.le_refl _)
    obtain ⟨o, ho, hex, hd⟩ := R.ob
    have sl := ents_size R.es_eq
    have le := cnt_le (ks.map (·.2)) ks.length
    have I2 : Inv X pins σ H1 { s1 with heap := h', toks := tk } := I1.kept fun b o e => x b o e
    have fits : t.fits es.size = true := TSet.fits (s := { s1 with heap := h' }) R
    exact PyProof.Rows.args_nil (call_len_set ho hex hd fits (by rw [sl, g3]; omega) ⟨.int _, H1, I2.tok _, ⟨_, by rw [sl, g3]⟩, q1⟩)
end
end Kx
end
section
set_option maxRecDepth 100000
set_option maxHeartbeats 4000000
namespace Wd
open PySem L2
abbrev Pr := Str × Str
/-- a pair as the values of its tuple, as a key -/
def tv (p : Pr) : V × V := (.str p.1, .str p.2)
def pk (p : Pr) : List Key := [.inr p.1, .inr p.2]
theorem pk_inj {p q : Pr} (h : pk p = pk q) : p = q := by
  unfold pk at h
  injection h with h1 h2
  injection h2 with h2 _
  injection h1 with h1
  injection h2 with h2
  exact Prod.ext h1 h2
/-- all pairs of some texts, in their order -/
def prsS : List Str → List Pr
  | [] => []
  | x :: r => r.map (fun y => (x, y)) ++ prsS r
theorem prs_strs : ∀ xs : List Str, prs (xs.map V.str) = (prsS xs).map tv
  | [] => rfl
  | x :: r => by
    show (r.map V.str).map (fun y => (V.str x, y)) ++ prs (r.map V.str) = _
    rw [prs_strs r, List.map_map]
    show _ = (r.map (fun y => (x, y)) ++ prsS r).map tv
    rw [List.map_append, List.map_map]
    rfl
/-- the list of pairs ps stands at l -/
def PwAt (H : Hp) (l : Addr) (ps : List Pr) : Prop := PrsAt H l (ps.map tv)
/-- some people, ascending, and pairs of them, ascending -/
structure Good (xs : List Str) (ps : List Pr) : Prop where
  asc : Asc xs
  word : ∀ x ∈ xs, IsW x
  few : 1 ≤ xs.length ∧ xs.length ≤ 9
  sub : ps.Sublist (prsS xs)
/-- the world of xs and ps stands at a -/
def WAt (H : Hp) (a : Addr) (xs : List Str) (ps : List Pr) : Prop := ∃ c l, H a = some (.lst [.ref c, .ref l]) ∧ H c = some (.lst (xs.map V.str)) ∧ PwAt H l ps
theorem PrsAt.same {H H' : Hp} {l : Addr} {ps : List (V × V)} (h : PrsAt H l ps) (s : Same H H') : PrsAt H' l ps := by
  obtain ⟨Ts, e, t⟩ := h
  exact ⟨Ts, s _ _ e, t.same s⟩
theorem WAt.same {H H' : Hp} {a : Addr} {xs : List Str} {ps : List Pr} (h : WAt H a xs ps) (s : Same H H') : WAt H' a xs ps := by
  obtain ⟨c, l, e1, e2, e3⟩ := h
  exact ⟨c, l, s _ _ e1, s _ _ e2, e3.same s⟩
theorem mem_prsS {xs : List Str} (a : Asc xs) {p : Pr} (h : p ∈ prsS xs) : p.1 ∈ xs ∧ p.2 ∈ xs ∧ Lt p.1 p.2 := by
  induction xs with
  | nil => cases h
  | cons x r ih =>
    obtain ⟨a1, a2⟩ := List.pairwise_cons.mp a
    rcases List.mem_append.mp h with h | h
    · obtain ⟨y, hy, rfl⟩ := List.mem_map.mp h
      exact ⟨List.mem_cons_self, List.mem_cons_of_mem _ hy, a1 y hy⟩
    · obtain ⟨b1, b2, b3⟩ := ih a2 h
      exact ⟨List.mem_cons_of_mem _ b1, List.mem_cons_of_mem _ b2, b3⟩
theorem prsS_mem {xs : List Str} (a : Asc xs) {p : Pr} (h1 : p.1 ∈ xs) (h2 : p.2 ∈ xs) (h3 : Lt p.1 p.2) : p ∈ prsS xs := by
  induction xs with
  | nil => cases h1
  | cons x r ih =>
    obtain ⟨a1, a2⟩ := List.pairwise_cons.mp a
    refine List.mem_append.mpr ?_
    rcases List.mem_cons.mp h1 with e | h1
    · rcases List.mem_cons.mp h2 with e2 | h2
      · rw [e, e2] at h3
        exact absurd h3 (Lt.irr _)
      · exact .inl (List.mem_map.mpr ⟨p.2, h2, by rw [← e]⟩)
    · rcases List.mem_cons.mp h2 with e2 | h2
      · exfalso
        rw [e2] at h3
        exact Lt.irr _ (h3.tr (a1 _ h1))
      · exact .inr (ih a2 h1 h2)
/-- the order of pairs -/
def LtP (p q : Pr) : Prop := Lt p.1 q.1 ∨ (p.1 = q.1 ∧ Lt p.2 q.2)
theorem LtP.irr (p : Pr) : ¬ LtP p p := fun h => h.elim (Lt.irr _) fun h => Lt.irr _ h.2
theorem LtP.tr {p q r : Pr} (h : LtP p q) (k : LtP q r) : LtP p r := by
  rcases h with h | ⟨e, h⟩
  · rcases k with k | ⟨e2, k⟩
    · exact .inl (h.tr k)
    · exact .inl (e2 ▸ h)
  · rcases k with k | ⟨e2, k⟩
    · exact .inl (e ▸ k)
    · exact .inr ⟨e.trans e2, h.tr k⟩
theorem LtP.tri (p q : Pr) : LtP p q ∨ p = q ∨ LtP q p := by
  rcases Lt.tri p.1 q.1 with h | h | h
  · exact .inl (.inl h)
  · rcases Lt.tri p.2 q.2 with k | k | k
    · exact .inl (.inr ⟨h, k⟩)
    · exact .inr (.inl (Prod.ext h k))
    · exact .inr (.inr (.inr ⟨h.symm, k⟩))
  · exact .inr (.inr (.inl h))
theorem prsS_asc {xs : List Str} (a : Asc xs) : (prsS xs).Pairwise LtP := by
  induction xs with
  | nil => exact List.Pairwise.nil
  | cons x r ih =>
    obtain ⟨a1, a2⟩ := List.pairwise_cons.mp a
    refine List.pairwise_append.mpr ⟨List.pairwise_map.mpr (a2.imp fun h => .inr ⟨rfl, h⟩), ih a2, fun p hp q hq => ?_⟩
    obtain ⟨y, _, rfl⟩ := List.mem_map.mp hp
    exact .inl (a1 _ (mem_prsS a2 hq).1)
/-- two strictly ascending lists of the same pairs are one -/
theorem asc_uniq : ∀ {l m : List Pr}, l.Pairwise LtP → m.Pairwise LtP → (∀ p, p ∈ l ↔ p ∈ m) → l = m
  | [], [], _, _, _ => rfl
  | [], q :: m, _, _, h => absurd ((h q).mpr List.mem_cons_self) (by simp)
  | p :: l, [], _, _, h => absurd ((h p).mp List.mem_cons_self) (by simp)
  | p :: l, q :: m, h1, h2, h => by
    obtain ⟨a1, a2⟩ := List.pairwise_cons.mp h1
    obtain ⟨b1, b2⟩ := List.pairwise_cons.mp h2
    have e : p = q := by
      rcases List.mem_cons.mp ((h p).mp List.mem_cons_self) with e | hp
      · exact e
      · rcases List.mem_cons.mp ((h q).mpr List.mem_cons_self) with e | hq
        · exact e.symm
        · exact absurd ((a1 q hq).tr (b1 p hp)) (LtP.irr _)
    subst e
    refine congrArg (p :: ·) (asc_uniq a2 b2 fun r => ⟨fun hr => ?_, fun hr => ?_⟩)
    · rcases List.mem_cons.mp ((h r).mp (List.mem_cons_of_mem _ hr)) with e | hr'
      · rw [e] at hr
        exact absurd (a1 p hr) (LtP.irr _)
      · exact hr'
    · rcases List.mem_cons.mp ((h r).mpr (List.mem_cons_of_mem _ hr)) with e | hr'
      · rw [e] at hr
        exact absurd (b1 p hr) (LtP.irr _)
      · exact hr'
instance : DecidableEq Pr := inferInstance
/-- what is ascending and among the pairs is the pairs filtered -/
theorem sub_of_asc {xs : List Str} (a : Asc xs) {l : List Pr} (h : l.Pairwise LtP) (m : ∀ p ∈ l, p ∈ prsS xs) : l.Sublist (prsS xs) := by
  have e : l = (prsS xs).filter fun p => decide (p ∈ l) := by
    refine asc_uniq h ((prsS_asc a).filter _) fun p => ⟨fun hp => List.mem_filter.mpr ⟨m p hp, decide_eq_true hp⟩, fun hp => of_decide_eq_true (List.mem_filter.mp hp).2⟩
  rw [e]
  exact List.filter_sublist
theorem Good.ascP {xs : List Str} {ps : List Pr} (g : Good xs ps) : ps.Pairwise LtP := (prsS_asc g.asc).sublist g.sub
theorem Good.nodup {xs : List Str} {ps : List Pr} (g : Good xs ps) : ps.Nodup := List.Pairwise.imp (fun {p q} (h : LtP p q) (e : p = q) => LtP.irr q (by rw [e] at h; exact h)) g.ascP
theorem prsS_len : ∀ xs : List Str, 2 * (prsS xs).length + xs.length = xs.length * xs.length
  | [] => rfl
  | x :: r => by
    have h := prsS_len r
    show 2 * (r.map (fun y => (x, y)) ++ prsS r).length + (r.length + 1) = (r.length + 1) * (r.length + 1)
    rw [List.length_append, List.length_map]
    have e : (r.length + 1) * (r.length + 1) = r.length * r.length + r.length + (r.length + 1) := by
      rw [Nat.add_mul, Nat.one_mul, Nat.mul_add, Nat.mul_one]
    omega
theorem sq9 {n : Nat} (h : n ≤ 9) : n * n ≤ 72 + n := by
  have : n = 0 ∨ n = 1 ∨ n = 2 ∨ n = 3 ∨ n = 4 ∨ n = 5 ∨ n = 6 ∨ n = 7 ∨ n = 8 ∨ n = 9 := by omega
  rcases this with e | e | e | e | e | e | e | e | e | e <;> subst e <;> decide
theorem Good.len0 {xs : List Str} (h : xs.length ≤ 9) : (prsS xs).length ≤ 36 := by
  have h2 := prsS_len xs
  have h3 := sq9 h
  omega
theorem Good.len {xs : List Str} {ps : List Pr} (g : Good xs ps) : ps.length ≤ 36 := Nat.le_trans g.sub.length_le (Good.len0 g.few.2)
end Wd
end
section
set_option maxRecDepth 100000
set_option maxHeartbeats 4000000
namespace Wd
open PySem L2
/-- the dictionary from the pairs -/
def netK (ps : List Pr) : List (List Key × V) := ps.map fun p => (pk p, .bl true)
def spNet : Sp := fun vs H Q _ => ∃ (a : Addr) (xs : List Str) (ps : List Pr), vs = [.ref a] ∧ WAt H a xs ps ∧ ps.Nodup ∧ ps.length ≤ 100 ∧
  ∀ (H' : Hp) (D : Addr), Same H H' → H D = none → H' D = some (.dT (netK ps)) → Q (.ref D) H'
section
variable {P : Program} {w : World} {K : PySem.W.Frag} {mg : Str → Option Value} {base : Heap}
set_option maxHeartbeats 1000000 in
theorem ok_net {f : Addr} {fd : FuncData} (F : Fun K "_law_net" "_law_net" s_net f fd) (T : Bt mg) : FnOk P w K mg base CX0 1 f fd ["_law_world_here"] spNet := by
  refine F.ok c_net (fun vs H Q E h => ?_) (fun cdv A outer s H vs Q E hr h => ?_)
  · obtain ⟨_, _, _, rfl, _⟩ := h
    rfl
  · obtain ⟨a, xs, ps, rfl, ⟨c, l, ha, hc, Ts, hl, tu⟩, nd, few, k⟩ := h
    refine ⟨_, pss_one (ps_ret (pe_callTy (Kx.cr_dictT rfl hr.units) (by rfl) T.dict (by decide +kernel) (pa_cons (pe_lc (own := [("_law_pair_here", 1)]) (g := gName 1) (tt := tYes) rfl c_net.nd (pi_list (pe_ix ix_list (pv 0) pe_int (fun _ _ => rfl)))
      (blkOk_by (N := ["_law_world_here", "_law_pair_here"]) (sc := defScope s_net) (by decide +kernel)) (fun _ _ _ _ _ => pg_name (i := 1) c_net.nd rfl (Or.inl rfl)) (fun _ _ _ _ _ => pts_nil)
      (fun _ _ _ _ _ => pe_tup (pa_cons (pv 1) (pa_cons pe_bl pa_nil)))) pa_nil))), ?_⟩
    refine ⟨_, rfl, a, _, _, _, rfl, rfl, SqL.of ha, rfl, l, rfl, ⟨_, SqL.of hl⟩, fun C hC => ?_⟩
    have lT : Ts.length = ps.length := by rw [tu.1, List.length_map]
    refine lc_list (xs := Ts.map V.ref) (fun j H2 => ∃ Us : List Addr, H2 C = some (.lst (Us.map V.ref)) ∧ Same H H2 ∧ Tups H2 Us ((Ts.take j).map fun T => (V.ref T, V.bl true)))
      ⟨[], upd_same, same_new hC, Tups.nil⟩ (fun j H2 _ ⟨Us, _, s6, _⟩ => SqL.of (s6 _ _ hl)) ?_ ?_
    · rintro j v H2 hv ⟨Us, hu, s6, tu2⟩
      rw [List.getElem?_map] at hv
      obtain ⟨T0, hT, rfl⟩ := Option.map_eq_some_iff.mp hv
      have jl := (List.getElem?_eq_some_iff.mp hT).1
      refine ⟨rfl, _, rfl, by show 2 ≤ sizeLine; decide, fun Z hZ => ?_⟩
      have CZ : C ≠ Z := ne_of_none hu hZ
      have lu : Us.length ≤ 100 := by
        rw [tu2.1, List.length_map, List.length_take]
        omega
      have cne : ∀ T ∈ Us, T ≠ C := tu2.ne fun x y e => by
        rw [hu] at e
        cases e
      refine ⟨_, by rw [upd_ne CZ]; exact hu, by rw [List.length_map, sizeLine_eq]; omega, Us ++ [Z], by rw [upd_same]; simp, fun b o e => ?_, ?_⟩
      · have bC : b ≠ C := ne_of_none e hC
        have e2 := s6 _ _ e
        rw [upd_ne bC, upd_ne (ne_of_none e2 hZ)]
        exact e2
      · rw [take_next hT, List.map_append]
        have t3 : Tups (upd (upd H2 Z (.tup [.ref T0, .bl true])) C (.lst (Us.map V.ref ++ [V.ref Z]))) Us ((Ts.take j).map fun T => (V.ref T, V.bl true)) :=
          tu2.keep fun T o hT' e => by
            rw [upd_ne (cne T hT'), upd_ne (ne_of_none e hZ)]
            exact e
        exact t3.snoc (p := (V.ref T0, V.bl true)) (by rw [upd_ne (Ne.symm CZ), upd_same])
    · rintro H2 ⟨Us, hu, s6, tu2⟩
      rw [List.length_map, List.take_length] at tu2
      have lu : Us.length = Ts.length := by rw [tu2.1, List.length_map]
      refine ⟨C, Us, (Ts.zip ps).map fun q => (pk q.2, q.1, V.bl true), rfl, SqL.of hu, by rw [List.length_map, List.length_zip]; omega, fun j U q h1 h2 => ?_, ?_, fun p hp => ?_⟩
      · rw [List.getElem?_map] at h2
        obtain ⟨⟨T0, p0⟩, hz, rfl⟩ := Option.map_eq_some_iff.mp h2
        obtain ⟨z1, z2⟩ := List.getElem?_zip_eq_some.mp hz
        have e1 := tu2.2 j U (V.ref T0, V.bl true) h1 (by rw [List.getElem?_map, z1]; rfl)
        have e2 := tu.2 j T0 (tv p0) z1 (by rw [List.getElem?_map, z2]; rfl)
        exact ⟨SqT.of e1, s6 _ _ e2⟩
      · rw [List.map_map]
        have e : (Ts.zip ps).map ((fun q : List Key × Addr × V => q.1) ∘ fun q : Addr × Pr => (pk q.2, q.1, V.bl true)) = ((Ts.zip ps).map Prod.snd).map pk := by
          rw [List.map_map]
          rfl
        rw [e, List.map_snd_zip (by omega)]
        exact List.Pairwise.map pk (fun a b (h : a ≠ b) e => h (pk_inj e)) nd
      · have e : ((Ts.zip ps).map fun q => (pk q.2, q.1, V.bl true)).map (fun q : List Key × Addr × V => (q.1, q.2.2)) = netK ps := by
          unfold netK
          conv => rhs; rw [← List.map_snd_zip (l₁ := Ts) (l₂ := ps) (by omega)]
          rw [List.map_map, List.map_map]
          rfl
        rw [e]
        have nP : H p = none := by
          cases e0 : H p with
          | none => rfl
          | some o =>
            rw [s6 _ _ e0] at hp
            cases hp
        exact k _ p (fun b o e0 => by rw [upd_ne (ne_of_none e0 nP)]; exact s6 b o e0) nP upd_same
end
end Wd
end
section
set_option maxRecDepth 100000
set_option maxHeartbeats 4000000
namespace Wd
open PySem L2
theorem net_get (ps : List Pr) (p : Pr) : (valV (netK ps) (pk p)).isSome = decide (p ∈ ps) := by
  unfold valV netK
  rw [Option.isSome_map]
  induction ps with
  | nil => simp
  | cons q ps ih =>
    rw [List.map_cons, List.find?_cons]
    by_cases h : q = p
    · subst h
      simp
    · have h' : ¬ pk q = pk p := fun e => h (pk_inj e)
      simp only [decide_eq_false h']
      rw [ih]
      exact decide_eq_decide.mpr ⟨fun z => List.mem_cons_of_mem _ z, fun z => by
        rcases List.mem_cons.mp z with e | z
        · exact absurd e.symm h
        · exact z⟩
def spOpp : Sp := fun vs H Q _ => ∃ (a : Addr) (xs : List Str) (ps : List Pr), vs = [.ref a] ∧ WAt H a xs ps ∧ Good xs ps ∧
  ∀ (H' : Hp) (D : Addr), Same H H' → H D = none → WAt H' D xs ((prsS xs).filter fun p => decide (p ∉ ps)) → Q (.ref D) H'
theorem same_none {H H' : Hp} {a : Addr} (s : Same H H') (h : H' a = none) : H a = none := by
  cases e : H a with
  | none => rfl
  | some o =>
    rw [s _ _ e] at h
    cases h
theorem same_updN {H H' : Hp} {a : Addr} {o : HO} (s : Same H H') (h : H' a = none) : Same H (upd H' a o) := fun b u e => by
  have e2 := s _ _ e
  rw [upd_ne (ne_of_none e2 h)]
  exact e2
/-- a fresh list is written again: what stood before it stays -/
theorem same_upd2 {H H' : Hp} {C : Addr} {o : HO} (s : Same (upd H C (.lst [])) H' ∨ Same H H') (hC : H C = none) : Same H (upd H' C o) := fun b u e => by
  have nb : b ≠ C := ne_of_none e hC
  rw [upd_ne nb]
  rcases s with s | s
  · exact s _ _ (by rw [upd_ne nb]; exact e)
  · exact s _ _ e
theorem Tups.upd {H : Hp} {Ts : List Addr} {ps : List (V × V)} (t : Tups H Ts ps) {a : Addr} {o : HO} (h : ∀ x y, H a ≠ some (.tup [x, y])) : Tups (L2.upd H a o) Ts ps := by
  have ne := t.ne h
  exact t.keep fun T u hT e => by
    rw [upd_ne (ne T hT)]
    exact e
section
variable {P : Program} {w : World} {K : PySem.W.Frag} {mg : Str → Option Value} {base : Heap}
set_option maxHeartbeats 1000000 in
theorem ok_opp {f : Addr} {fd : FuncData} (F : Fun K "_law_opposite" "_law_opposite" s_opposite f fd) (T : Bt mg) (CN : Has P w K mg base 1 "_law_net" ["_law_world_here"] spNet) (CP : Has P w K mg base 1 "_law_pairs" ["_law_crowd"] spPairs) :
    FnOk P w K mg base CX0 2 f fd ["_law_world_here"] spOpp := by
  obtain ⟨fN, fdN, GN, mN, kN, bN⟩ := CN
  obtain ⟨fP, fdP, GP, mP, kP, bP⟩ := CP
  refine F.ok c_opposite (fun vs H Q E h => ?_) (fun cdv A outer s H vs Q E hr h => ?_)
  · obtain ⟨_, _, _, rfl, _⟩ := h
    rfl
  · obtain ⟨a, xs, ps, rfl, W0, g, k⟩ := h
    have hr1 : Room 1 _ := hr.mono (by decide)
    refine ⟨_, pss_cons (ps_set (i := 1) c_opposite.nd rfl (Or.inr rfl) (pe_call GN hr1 rfl mN kN bN .nil pass0 (pa_cons (pv 0) pa_nil)))
      (pss_one (ps_ret (pe_lst (pa_cons (pe_ix ix_list (pv 0) pe_int (fun _ _ => rfl)) (pa_cons (pe_lc (own := [("_law_pair_here", 2)]) (g := gName 2) rfl c_opposite.nd (pi_list (pe_call GP hr1 rfl mP kP bP .nil pass0 (pa_cons (pe_ix ix_list (pv 0) pe_int (fun _ _ => rfl)) pa_nil)))
        (blkOk_by (N := ["_law_world_here", "_law_net_here", "_law_pair_here"]) (sc := defScope s_opposite) (by decide +kernel)) (fun _ _ _ _ _ => pg_name (i := 2) c_opposite.nd rfl (Or.inl rfl)) (fun _ _ _ _ _ => pts_one (pt_cmp (pc_dnotin (hu_of hr1) (pv 2) (pv 1))))
        (fun _ _ _ _ _ => pv 2)) pa_nil))))), ?_⟩
    obtain ⟨c, l, ha, hc, hps⟩ := id W0
    have few := g.len
    refine ⟨_, rfl, a, xs, ps, rfl, W0, g.nodup, by omega, fun H1 N s1 nN hN => ?_⟩
    have ha1 := s1 _ _ ha
    have hc1 := s1 _ _ hc
    refine ⟨_, rfl, a, _, _, .ref c, rfl, rfl, SqL.of ha1, rfl, ?_⟩
    refine ⟨_, rfl, a, _, _, .ref c, rfl, rfl, SqL.of ha1, rfl, c, xs.map V.str, rfl, hc1, by rw [List.length_map]; have := g.few; omega, fun H2 D s2 nD ⟨Ts, hd, tu⟩ => ?_⟩
    rw [prs_strs] at tu
    have lT : Ts.length = (prsS xs).length := by rw [tu.1, List.length_map]
    have l36 := Good.len0 g.few.2
    have hN2 := s2 _ _ hN
    refine ⟨D, rfl, ⟨_, SqL.of hd⟩, fun C hC => ?_⟩
    refine lc_list (xs := Ts.map V.ref) (fun j H3 => ∃ Us : List Addr, H3 C = some (.lst (Us.map V.ref)) ∧ Same H2 H3 ∧ Tups H3 Us ((((prsS xs).take j).filter fun p => decide (p ∉ ps)).map tv))
      ⟨[], upd_same, same_new hC, Tups.nil⟩ (fun j H3 _ ⟨Us, _, s6, _⟩ => SqL.of (s6 _ _ hd)) ?_ ?_
    · rintro j v H3 hv ⟨Us, hu, s6, tu2⟩
      rw [List.getElem?_map] at hv
      obtain ⟨T0, hT, rfl⟩ := Option.map_eq_some_iff.mp hv
      have jl := (List.getElem?_eq_some_iff.mp hT).1
      have hp : (prsS xs)[j]? = some (prsS xs)[j] := List.getElem?_eq_getElem (by omega)
      generalize (prsS xs)[j] = p at hp
      have e1 := s6 _ _ (tu.2 j T0 (tv p) hT (by rw [List.getElem?_map, hp]; rfl))
      refine ⟨rfl, _, rfl, _, rfl, N, _, rfl, DGet.t (k := pk p) (s6 _ _ hN2) e1, _, rfl, ?_⟩
      rw [net_get]
      have nx : ((prsS xs).take (j + 1)).filter (fun p => decide (p ∉ ps)) = ((prsS xs).take j).filter (fun p => decide (p ∉ ps)) ++ (if p ∈ ps then [] else [p]) := by
        rw [take_next hp, List.filter_append]
        by_cases c : p ∈ ps <;> simp [c]
      refine ite2 (fun hb => ?_) (fun hb => ?_)
      · have c : p ∉ ps := by simpa using hb
        have lu : Us.length ≤ 36 := by
          rw [tu2.1, List.length_map]
          have h1 := List.length_filter_le (fun p => decide (p ∉ ps)) ((prsS xs).take j)
          rw [List.length_take] at h1
          omega
        refine ⟨_, rfl, _, hu, by rw [List.length_map, sizeLine_eq]; omega, Us ++ [T0], by rw [upd_same]; simp, same_upd2 (.inr s6) hC, ?_⟩
        rw [nx, if_neg c, List.map_append]
        have t3 := tu2.upd (a := C) (o := .lst (Us.map V.ref ++ [V.ref T0])) fun x y e => by
          rw [hu] at e
          cases e
        exact t3.snoc (p := tv p) (by rw [upd_ne (ne_of hu e1 (fun z => nomatch z)).symm]; exact e1)
      · have c : p ∈ ps := by simpa using hb
        refine ⟨Us, hu, s6, ?_⟩
        rw [nx, if_pos c, List.append_nil]
        exact tu2
    · rintro H3 ⟨Us, hu, s6, tu2⟩
      have e0 : (prsS xs).take (Ts.map V.ref).length = prsS xs := by rw [List.length_map, lT, List.take_length]
      rw [e0] at tu2
      refine ⟨by show 2 ≤ sizeLine; decide, fun Z hZ => ?_⟩
      have s7 : Same H H3 := (s1.trans s2).trans s6
      refine k _ Z (same_updN s7 hZ) (same_none s7 hZ) ⟨c, C, upd_same, (same_updN s7 hZ) _ _ hc, Us, by rw [upd_ne (ne_of_none hu hZ)]; exact hu, tu2.keep fun T o _ e => by rw [upd_ne (ne_of_none e hZ)]; exact e⟩
end
end Wd
end
section
set_option maxRecDepth 100000
set_option maxHeartbeats 4000000
namespace Wd
open PySem L2
/-- a pair as data -/
def pd (p : Pr) : PyData := .tuple [.str p.1, .str p.2]
instance (p q : Pr) : Decidable (LtP p q) := inferInstanceAs (Decidable (_ ∨ _))
theorem pd_alike (p q : Pr) : PySem.W.alike (pd p) (pd q) = true := by simp [pd, PySem.W.alike, PySem.W.alikeAll]
theorem str_eqv (a b : Str) : PyData.eqv (.str a) (.str b) = decide (a = b) := by
  simp only [PyData.eqv]
  by_cases h : a = b
  · subst h
    simp
  · rw [decide_eq_false h]
    exact beq_eq_false_iff_ne.mpr h
theorem pd_eqv (p q : Pr) : PyData.eqv (pd p) (pd q) = decide (p = q) := by
  have e : PyData.eqv (pd p) (pd q) = (PyData.eqv (.str p.1) (.str q.1) && (PyData.eqv (.str p.2) (.str q.2) && true)) := by simp only [pd, PyData.eqv, PyData.eqvAll]
  rw [e, str_eqv, str_eqv, Bool.and_true, ← Bool.decide_and]
  exact decide_eq_decide.mpr ⟨fun h => Prod.ext h.1 h.2, fun h => by rw [h]; exact ⟨rfl, rfl⟩⟩
theorem pd_lt (p q : Pr) : PySem.W.dataLt (pd p) (pd q) = decide (LtP p q) := by
  have h := PySem.W.dataLt_pair (x := .str p.1) (y := .str p.2) (x' := .str q.1) (y' := .str q.2) (by simp [PySem.W.alike]) (by simp [PySem.W.alike])
  show PySem.W.dataLt (.tuple [.str p.1, .str p.2]) (.tuple [.str q.1, .str q.2]) = _
  rw [h, str_eqv, str_eqv, PySem.W.dataLt_str, PySem.W.dataLt_str]
  by_cases e : p.1 = q.1
  · rw [decide_eq_true e, if_pos rfl]
    by_cases e2 : p.2 = q.2
    · rw [decide_eq_true e2, if_pos rfl]
      refine (decide_eq_false fun z => ?_).symm
      rcases z with z | z
      · rw [e] at z
        exact Lt.irr _ z
      · rw [e2] at z
        exact Lt.irr _ z.2
    · rw [decide_eq_false e2, if_neg (by decide)]
      refine decide_eq_decide.mpr ⟨fun z => .inr ⟨e, z⟩, fun z => ?_⟩
      rcases z with z | z
      · rw [e] at z
        exact absurd z (Lt.irr _)
      · exact z.2
  · rw [decide_eq_false e, if_neg (by decide)]
    refine decide_eq_decide.mpr ⟨fun z => .inl z, fun z => ?_⟩
    rcases z with z | z
    · exact z
    · exact absurd z.1 e
theorem isW_ok {x : Str} (h : IsW x) : PyData.strOk x = true := by
  unfold PyData.strOk
  rw [← Array.all_toList, List.all_eq_true]
  intro c hc
  have := h.2.2 c hc
  exact decide_eq_true (by omega)
theorem pd_shaped {p : Pr} (w1 : IsW p.1) (w2 : IsW p.2) : SeqAt.shaped (pd p) = true := by
  show ((pd p).canLay0 && decide ((pd p).depth ≤ 64)) = true
  have h1 : (pd p).canLay0 = true := by simp [pd, PyData.canLay0, PyData.canLayAll0, isW_ok w1, isW_ok w2]
  have h2 : (pd p).depth = 1 := by simp [pd, PyData.depth, PyData.depthAll]
  rw [h1, h2]
  rfl
theorem pd_depth (p : Pr) : (pd p).depth ≤ 40 := by simp [pd, PyData.depth, PyData.depthAll]
theorem dp_pair {K : PySem.W.Frag} {H : Hp} {T : Addr} {p : Pr} (h : SqT K H T [.str p.1, .str p.2]) : Dp K H (.ref T) (pd p) := .tup h (.cons (.str _) (.cons (.str _) .nil))
/-- the tuples at Ts, with what they hold, sorted -/
def sortZ (Ts : List Addr) (ps : List Pr) : List (Addr × Pr) := (Ts.zip ps).mergeSort fun a b => !decide (LtP b.2 a.2)
theorem sortZ_perm (Ts : List Addr) (ps : List Pr) : (sortZ Ts ps).Perm (Ts.zip ps) := List.mergeSort_perm _ _
theorem sortZ_asc {Ts : List Addr} {ps : List Pr} (hl : Ts.length = ps.length) (nd : ps.Nodup) : ((sortZ Ts ps).map Prod.snd).Pairwise LtP := by
  have h := List.pairwise_mergeSort (le := fun a b : Addr × Pr => !decide (LtP b.2 a.2)) (fun a b c h1 h2 => by
    rw [Bool.not_eq_true', decide_eq_false_iff_not] at h1 h2 ⊢
    intro z
    rcases LtP.tri b.2 a.2 with q | q | q
    · exact h1 q
    · rw [q] at h2
      exact h2 z
    · exact h2 (z.tr q)) (fun a b => by
    rw [Bool.or_eq_true, Bool.not_eq_true', Bool.not_eq_true', decide_eq_false_iff_not, decide_eq_false_iff_not]
    by_cases c : LtP b.2 a.2
    · exact .inr fun z => LtP.irr _ (c.tr z)
    · exact .inl c) (Ts.zip ps)
  have pm := (sortZ_perm Ts ps).map Prod.snd
  rw [List.map_snd_zip (by omega)] at pm
  have nd2 := pm.nodup_iff.mpr nd
  rw [List.pairwise_map]
  have nd3 : (sortZ Ts ps).Pairwise fun a b => a.2 ≠ b.2 := List.pairwise_map.mp nd2
  refine List.Pairwise.imp (fun {a b} (h : (!decide (LtP b.2 a.2)) = true ∧ a.2 ≠ b.2) => ?_) (List.Pairwise.and h nd3)
  rw [Bool.not_eq_true', decide_eq_false_iff_not] at h
  rcases LtP.tri a.2 b.2 with q | q | q
  · exact q
  · exact absurd q h.2
  · exact absurd q h.1
def zv (q : Addr × Pr) : Kx.DV := (.ref q.1, pd q.2)
theorem sorted_zv (Ts : List Addr) (ps : List Pr) : Kx.sortedD ((Ts.zip ps).map zv) = (sortZ Ts ps).map zv := by
  unfold Kx.sortedD sortZ
  refine (List.map_mergeSort fun a _ b _ => ?_).symm
  show (!decide (LtP b.2 a.2)) = PySem.W.dataLe false (fun b : Kx.DV => b.2) (zv a) (zv b)
  rw [PySem.W.dataLe_eq]
  show _ = !PySem.W.dataLt (pd b.2) (pd a.2)
  rw [pd_lt]
/-- sorted(xs) of a list of pairs, none twice -/
theorem sorted_prs {K : PySem.W.Frag} {H : Hp} {a : Addr} {Ts : List Addr} {ps : List Pr} {Q : VK} (ha : H a = some (.lst (Ts.map V.ref))) (tu : Tups H Ts (ps.map tv)) (nd : ps.Nodup)
    (q : ∀ (D : Addr) (Us : List Addr) (qs : List Pr), H D = none → qs.Pairwise LtP → (∀ p, p ∈ qs ↔ p ∈ ps) → Tups H Us (qs.map tv) → (∀ U ∈ Us, U ∈ Ts) → Q (.ref D) (upd H D (.lst (Us.map V.ref)))) : Kx.rSortedD K [.ref a] H Q := by
  have hl : Ts.length = ps.length := by rw [tu.1, List.length_map]
  have e1 : ((Ts.zip ps).map zv).map (fun b => b.1) = Ts.map V.ref := by
    rw [List.map_map]
    have : ((fun b : Kx.DV => b.1) ∘ zv) = V.ref ∘ Prod.fst := rfl
    rw [this, ← List.map_map, List.map_fst_zip (by omega)]
  have zat : ∀ z ∈ Ts.zip ps, z.1 ∈ Ts ∧ H z.1 = some (.tup [.str z.2.1, .str z.2.2]) := fun z hz => by
    obtain ⟨j, hj, e⟩ := List.getElem_of_mem hz
    have e' : (Ts.zip ps)[j]? = some z := by rw [List.getElem?_eq_getElem hj, e]
    obtain ⟨z1, z2⟩ := List.getElem?_zip_eq_some.mp e'
    exact ⟨List.mem_of_getElem? z1, tu.2 j z.1 (tv z.2) z1 (by rw [List.getElem?_map, z2]; rfl)⟩
  refine ⟨a, (Ts.zip ps).map zv, rfl, by rw [e1]; exact SqL.of ha, fun b hb => ?_, ?_, ?_, fun D hD => ?_⟩
  · obtain ⟨z, hz, rfl⟩ := List.mem_map.mp hb
    exact ⟨dp_pair (SqT.of (zat z hz).2), pd_depth z.2⟩
  · rw [List.map_map]
    exact PySem.W.AllAlike.of fun b b' => pd_alike b.2 b'.2
  · rw [List.map_map]
    exact PySem.W.Sortable.tuples fun b => ⟨_, _, rfl⟩
  · rw [sorted_zv, List.map_map]
    have e2 : (sortZ Ts ps).map ((fun b : Kx.DV => b.1) ∘ zv) = ((sortZ Ts ps).map Prod.fst).map V.ref := by
      rw [List.map_map]
      rfl
    rw [e2]
    have pm := sortZ_perm Ts ps
    refine q D ((sortZ Ts ps).map Prod.fst) ((sortZ Ts ps).map Prod.snd) hD (sortZ_asc hl nd) (fun p => ?_) ⟨by simp, fun k T v h1 h2 => ?_⟩ fun U hU => ?_
    · have h := (pm.map Prod.snd).mem_iff (a := p)
      rw [List.map_snd_zip (by omega)] at h
      exact h
    · rw [List.getElem?_map] at h1 h2
      obtain ⟨z, hz, rfl⟩ := Option.map_eq_some_iff.mp h1
      rw [List.getElem?_map, hz] at h2
      obtain rfl : tv z.2 = v := Option.some.inj h2
      exact (zat z (pm.mem_iff.mp (List.mem_of_getElem? hz))).2
    · obtain ⟨z, hz, rfl⟩ := List.mem_map.mp hU
      exact (zat z (pm.mem_iff.mp hz)).1
end Wd
end
section
set_option maxRecDepth 100000
set_option maxHeartbeats 4000000
namespace Wd
open PySem L2
/-- the pairs behind a deed -/
def flip (xs : List Str) (ps : List Pr) (p : Pr) : List Pr := (prsS xs).filter fun q => decide (q ∈ ps) != decide (q = p)
theorem mem_flip {xs : List Str} {ps : List Pr} {p q : Pr} : q ∈ flip xs ps p ↔ q ∈ prsS xs ∧ (decide (q ∈ ps) != decide (q = p)) = true := List.mem_filter
def spDeed : Sp := fun vs H Q _ => ∃ (a t : Addr) (xs : List Str) (ps : List Pr) (p : Pr), vs = [.ref a, .ref t] ∧ WAt H a xs ps ∧ Good xs ps ∧ H t = some (.tup [.str p.1, .str p.2]) ∧ p ∈ prsS xs ∧
  ∀ (H' : Hp) (D : Addr), Same H H' → H D = none → WAt H' D xs (flip xs ps p) → Q (.ref D) H'
section
variable {P : Program} {w : World} {K : PySem.W.Frag} {mg : Str → Option Value} {base : Heap}
set_option maxHeartbeats 1000000 in
theorem ok_deed {f : Addr} {fd : FuncData} (F : Fun K "_law_deed" "_law_deed" s_deed f fd) (T : Bt mg) : FnOk P w K mg base CX0 1 f fd ["_law_world_here", "_law_pair_here"] spDeed := by
  refine F.ok c_deed (fun vs H Q E h => ?_) (fun cdv A outer s H vs Q E hr h => ?_)
  · obtain ⟨_, _, _, _, _, rfl, _⟩ := h
    rfl
  · obtain ⟨a, t, xs, ps, p, rfl, W0, g, ht, hp, k⟩ := h
    refine ⟨_, pss_cons (ps_setLc (i := 3) (own := [("_law_kept", 2)]) (g := gName 2) rfl c_deed.nd rfl rfl (sw_true rfl rfl rfl (by decide +kernel)) (pi_list (pe_ix ix_list (pv 0) pe_int (fun _ _ => rfl)))
        (blkOk_by (N := ["_law_world_here", "_law_pair_here", "_law_kept", "_law_rest"]) (sc := defScope s_deed) (by decide +kernel)) (fun _ _ _ _ _ => pg_name (i := 2) c_deed.nd rfl (Or.inl rfl)) (fun _ _ _ _ _ => pts_one (pt_cmpR (r := rNeD K) (op_neD hr.units) (pv 2) (pv 1) (nomark _)))
        (fun _ _ _ _ _ => pv 2))
      (pss_one (ps_ret (pe_lst (pa_cons (pe_ix ix_list (pv 0) pe_int (fun _ _ => rfl)) (pa_cons (pe_ifExp (pt_cmpR op_lt (pe_callB call_len_seq (by rfl) T.len PySem.boot_len (pa_cons (pv 3) pa_nil)) (pe_callB call_len_seq (by rfl) T.len PySem.boot_len (pa_cons (pe_ix ix_list (pv 0) pe_int (fun _ _ => rfl)) pa_nil)) (nomark _))
        (pv 3) (pe_callB (Kx.cr_sortedD hr.units) (by rfl) T.sorted (by decide +kernel) (pa_cons (pe_op op_cat (pe_ix ix_list (pv 0) pe_int (fun _ _ => rfl)) (pe_lst (pa_cons (pv 1) pa_nil))) pa_nil))) pa_nil))))), ?_⟩
    obtain ⟨c, l, ha, hc, Ts, hl, tu⟩ := id W0
    have few := g.len
    have lT : Ts.length = ps.length := by rw [tu.1, List.length_map]
    have pw : ∀ q ∈ prsS xs, IsW q.1 ∧ IsW q.2 := fun q hq => ⟨g.word _ (mem_prsS g.asc hq).1, g.word _ (mem_prsS g.asc hq).2.1⟩
    refine ⟨_, rfl, a, _, _, .ref l, rfl, rfl, SqL.of ha, rfl, l, rfl, ⟨_, SqL.of hl⟩, fun C hC => ?_⟩
    refine lc_list (xs := Ts.map V.ref) (fun j H2 => ∃ Us : List Addr, H2 C = some (.lst (Us.map V.ref)) ∧ Same H H2 ∧ Tups H2 Us (((ps.take j).filter fun q => decide (q ≠ p)).map tv))
      ⟨[], upd_same, same_new hC, Tups.nil⟩ (fun j H2 _ ⟨Us, _, s6, _⟩ => SqL.of (s6 _ _ hl)) ?_ ?_
    · rintro j v H2 hv ⟨Us, hu, s6, tu2⟩
      rw [List.getElem?_map] at hv
      obtain ⟨T0, hT, rfl⟩ := Option.map_eq_some_iff.mp hv
      have jl := (List.getElem?_eq_some_iff.mp hT).1
      have hq : ps[j]? = some ps[j] := List.getElem?_eq_getElem (by omega)
      have mq : ps[j] ∈ prsS xs := g.sub.subset (List.getElem_mem _)
      generalize ps[j] = q at hq mq
      have e1 := s6 _ _ (tu.2 j T0 (tv q) hT (by rw [List.getElem?_map, hq]; rfl))
      refine ⟨rfl, _, rfl, _, rfl, pd q, pd p, dp_pair (SqT.of e1), dp_pair (SqT.of (s6 _ _ ht)), pd_shaped (pw q mq).1 (pw q mq).2, pd_shaped (pw p hp).1 (pw p hp).2, _, rfl, ?_⟩
      rw [pd_eqv]
      have nx : (ps.take (j + 1)).filter (fun q => decide (q ≠ p)) = (ps.take j).filter (fun q => decide (q ≠ p)) ++ (if q = p then [] else [q]) := by
        rw [take_next hq, List.filter_append]
        by_cases z : q = p <;> simp [z]
      refine ite2 (fun hb => ?_) (fun hb => ?_)
      · have z : q ≠ p := by simpa using hb
        have lu : Us.length ≤ 36 := by
          rw [tu2.1, List.length_map]
          have h1 := List.length_filter_le (fun q => decide (q ≠ p)) (ps.take j)
          rw [List.length_take] at h1
          omega
        refine ⟨_, rfl, _, hu, by rw [List.length_map, sizeLine_eq]; omega, Us ++ [T0], by rw [upd_same]; simp, same_upd2 (.inr s6) hC, ?_⟩
        rw [nx, if_neg z, List.map_append]
        have t3 := tu2.upd (a := C) (o := .lst (Us.map V.ref ++ [V.ref T0])) fun x y e => by
          rw [hu] at e
          cases e
        exact t3.snoc (p := tv q) (by rw [upd_ne (ne_of hu e1 (fun z => nomatch z)).symm]; exact e1)
      · have z : q = p := by simpa using hb
        refine ⟨Us, hu, s6, ?_⟩
        rw [nx, if_pos z, List.append_nil]
        exact tu2
    · rintro H2 ⟨Us, hu, s6, tu2⟩
      have e0 : ps.take (Ts.map V.ref).length = ps := by rw [List.length_map, lT, List.take_length]
      rw [e0] at tu2
      have ha2 := s6 _ _ ha
      have hl2 := s6 _ _ hl
      have lU : Us.length = (ps.filter fun q => decide (q ≠ p)).length := by rw [tu2.1, List.length_map]
      have lF := List.length_filter_le (fun q => decide (q ≠ p)) ps
      refine ⟨_, rfl, a, _, _, .ref c, rfl, rfl, SqL.of ha2, rfl, ?_⟩
      refine ⟨_, rfl, C, _, rfl, .inl (SqL.of hu), _, rfl, a, _, _, .ref l, rfl, rfl, SqL.of ha2, rfl, l, _, rfl, .inl (SqL.of hl2), _, _, rfl, rfl, _, rfl, ?_⟩
      rw [List.length_map, List.length_map, lU, lT]
      refine ite2 (fun hb => ?_) (fun hb => ?_)
      · have hlt : (ps.filter fun q => decide (q ≠ p)).length < ps.length := by
          have := of_decide_eq_true hb
          omega
        have pin : p ∈ ps := by
          apply Classical.byContradiction
          intro no
          have e : ps.filter (fun q => decide (q ≠ p)) = ps := List.filter_eq_self.mpr fun q hq => decide_eq_true fun z => no (z ▸ hq)
          rw [e] at hlt
          exact Nat.lt_irrefl _ hlt
        have ef : ps.filter (fun q => decide (q ≠ p)) = flip xs ps p := asc_uniq (g.ascP.filter _) ((prsS_asc g.asc).filter _) fun q => by
          rw [List.mem_filter, mem_flip]
          constructor
          · rintro ⟨h1, h2⟩
            have h3 := of_decide_eq_true h2
            exact ⟨g.sub.subset h1, by simp [h1, h3]⟩
          · rintro ⟨h1, h2⟩
            by_cases z : q = p
            · subst z
              simp [pin] at h2
            · simp only [decide_eq_false z, Bool.bne_false] at h2
              exact ⟨of_decide_eq_true h2, decide_eq_true z⟩
        refine ⟨_, rfl, by show 2 ≤ sizeLine; decide, fun Z hZ => ?_⟩
        refine k _ Z (same_updN s6 hZ) (same_none s6 hZ) ⟨c, C, upd_same, (same_updN s6 hZ) _ _ hc, Us, by rw [upd_ne (ne_of_none hu hZ)]; exact hu, ?_⟩
        rw [← ef]
        exact tu2.keep fun T o _ e => by rw [upd_ne (ne_of_none e hZ)]; exact e
      · have nin : p ∉ ps := fun pin => by
          apply hb
          refine decide_eq_true ?_
          have hs : (ps.filter fun q => decide (q ≠ p)).length < ps.length := by
            rcases Nat.lt_or_ge (ps.filter fun q => decide (q ≠ p)).length ps.length with z | z
            · exact z
            · exfalso
              have e := (List.filter_sublist (p := fun q => decide (q ≠ p)) (l := ps)).eq_of_length (by omega)
              have h1 : p ∈ ps.filter fun q => decide (q ≠ p) := by rw [e]; exact pin
              exact of_decide_eq_true (List.mem_filter.mp h1).2 rfl
          omega
        refine ⟨_, rfl, a, _, _, .ref l, rfl, rfl, SqL.of ha2, rfl, _, rfl, by show 1 ≤ sizeLine; decide, fun L hL => ?_⟩
        have ll : l ≠ L := ne_of_none hl2 hL
        refine ⟨l, L, _, _, rfl, rfl, by rw [upd_ne ll]; exact hl2, upd_same, by rw [List.length_map, sizeLine_eq]; show _ + 1 ≤ _; omega, fun M hM => ?_⟩
        have s7 : Same H (upd (upd H2 L (.lst [.ref t])) M (.lst (Ts.map V.ref ++ [.ref t]))) := same_updN (same_updN s6 hL) hM
        have tu7 : Tups (upd (upd H2 L (.lst [.ref t])) M (.lst (Ts.map V.ref ++ [.ref t]))) (Ts ++ [t]) ((ps ++ [p]).map tv) := by
          rw [List.map_append]
          exact (tu.same s7).snoc (p := tv p) (s7 _ _ ht)
        dsimp only [tNil]
        refine sorted_prs (by rw [upd_same, List.map_append]; rfl) tu7 (by
          rw [List.nodup_append]
          exact ⟨g.nodup, by simp, fun x hx y hy => by
            rw [List.mem_singleton.mp hy]
            rintro rfl
            exact nin hx⟩) fun D Vs qs nD aq mq tq _ => ?_
        have ef : qs = flip xs ps p := asc_uniq aq ((prsS_asc g.asc).filter _) fun q => by
          rw [mq, List.mem_append, List.mem_singleton, mem_flip]
          constructor
          · rintro (h1 | h1)
            · have z : q ≠ p := fun e => nin (e ▸ h1)
              exact ⟨g.sub.subset h1, by simp [h1, z]⟩
            · subst h1
              exact ⟨hp, by simp [nin]⟩
          · rintro ⟨h1, h2⟩
            by_cases z : q = p
            · exact .inr z
            · simp only [decide_eq_false z, Bool.bne_false] at h2
              exact .inl (of_decide_eq_true h2)
        refine ⟨by show 2 ≤ sizeLine; decide, fun Z hZ => ?_⟩
        have s8 := same_updN (o := .lst (Vs.map V.ref)) s7 nD
        have s9 := same_updN (o := .lst [.ref c, .ref D]) s8 hZ
        refine k _ Z s9 (same_none s8 hZ) ⟨c, D, upd_same, s9 _ _ hc, Vs, ?_, ?_⟩
        · rw [upd_ne (ne_of_none upd_same hZ), upd_same]
        · rw [← ef]
          refine tq.keep fun T o _ e => ?_
          have e2 : upd (upd (upd H2 L (.lst [.ref t])) M (.lst (Ts.map V.ref ++ [.ref t]))) D (.lst (Vs.map V.ref)) T = some o := by rw [upd_ne (ne_of_none e nD)]; exact e
          rw [upd_ne (ne_of_none e2 hZ)]
          exact e2
end
end Wd
end
section
set_option maxRecDepth 100000
set_option maxHeartbeats 4000000
namespace Wd
open PySem L2
/-- a world of some people is made with draws -/
def spMade (m : Nat) : Sp := fun vs H Q _ => ∃ (p c : Addr) (xs : List Str) (c0 : Int) (n : Nat), vs = [.ref p, .ref c] ∧ PurseAt H p c0 (n + m) ∧ H c = some (.lst (xs.map V.str)) ∧ Good xs [] ∧
  ∀ (H' : Hp) (D : Addr) (qs : List Pr), qs.Sublist (prsS xs) → SameX p H H' → H D = none → WAt H' D xs qs → D ≠ p → PurseAt H' p c0 n → Q (.ref D) H'
section
variable {P : Program} {w : World} {K : PySem.W.Frag} {mg : Str → Option Value} {base : Heap}
set_option maxHeartbeats 1000000 in
theorem ok_density {f : Addr} {fd : FuncData} (F : Fun K "_law_by_density" "_law_by_density" s_by_density f fd) (T : Bt mg) (CD : Has P w K mg base 2 "_law_draw" ["_law_purse_here", "_law_many"] spDraw)
    (CP : Has P w K mg base 1 "_law_pairs" ["_law_crowd"] spPairs) : FnOk P w K mg base CX0 3 f fd ["_law_purse_here", "_law_crowd"] (spMade 110) := by
  obtain ⟨fD, fdD, GD, mD, kD, bD⟩ := CD
  obtain ⟨fP, fdP, GP, mP, kP, bP⟩ := CP
  refine F.ok c_by_density (fun vs H Q E h => ?_) (fun cdv A outer s H vs Q E hr h => ?_)
  · obtain ⟨_, _, _, _, _, rfl, _⟩ := h
    rfl
  · obtain ⟨p, c, xs, c0, n, rfl, pa, hc, g, k⟩ := h
    have hr1 : Room 1 _ := hr.mono (by decide)
    have hr2 : Room 2 _ := hr.mono (by decide)
    have ncp : c ≠ p := purse_ne pa hc fun b' c' t' z' e => by
      have l := congrArg (fun o : HO => match o with | .lst (.int i :: _) => true | _ => false) e
      cases xs with
      | nil => simp at l
      | cons x r => simp at l
    refine ⟨_, pss_cons (ps_par (i := 2) (j := 3) rfl c_by_density.nd rfl rfl (by decide) rfl rfl (pa_cons (pe_call GD hr2 rfl mD kD bD .nil pass0 (pa_cons (pv 0) (pa_cons pe_int pa_nil))) (pa_cons (pe_call GP hr1 rfl mP kP bP .nil pass0 (pa_cons (pv 1) pa_nil)) pa_nil)) (by rfl))
      (pss_cons (ps_if (pt_cmpR op_eq (pv 2) pe_int (nomark _)) (pss_one (ps_ret (pe_lst (pa_cons (pv 1) (pa_cons (pe_lc (own := [("_law_pair_here", 4)]) (g := gName 4) rfl c_by_density.nd (pi_list (pv 3))
        (blkOk_by (N := ["_law_purse_here", "_law_crowd", "_law_way", "_law_pairs_here", "_law_pair_here"]) (sc := defScope s_by_density) (by decide +kernel)) (fun _ _ _ _ _ => pg_name (i := 4) c_by_density.nd rfl (Or.inl rfl)) (fun _ _ _ _ _ => pts_one (pt_cmpR op_eq (pe_call GD hr2 rfl mD kD bD .nil pass0 (pa_cons (pv 0) (pa_cons pe_int pa_nil))) pe_int (nomark _)))
        (fun _ _ _ _ _ => pv 4)) pa_nil))))) pss_nil)
      (pss_cons (ps_if (pt_cmpR op_eq (pv 2) pe_int (nomark _)) (pss_one (ps_ret (pe_lst (pa_cons (pv 1) (pa_cons (pe_lc (own := [("_law_pair_here", 4)]) (g := gName 4) rfl c_by_density.nd (pi_list (pv 3))
        (blkOk_by (N := ["_law_purse_here", "_law_crowd", "_law_way", "_law_pairs_here", "_law_pair_here"]) (sc := defScope s_by_density) (by decide +kernel)) (fun _ _ _ _ _ => pg_name (i := 4) c_by_density.nd rfl (Or.inl rfl)) (fun _ _ _ _ _ => pts_one (pt_cmpR op_gt (pe_call GD hr2 rfl mD kD bD .nil pass0 (pa_cons (pv 0) (pa_cons pe_int pa_nil))) pe_int (nomark _)))
        (fun _ _ _ _ _ => pv 4)) pa_nil))))) pss_nil)
      (pss_one (ps_ret (pe_lst (pa_cons (pv 1) (pa_cons (pe_lc (own := [("_law_pair_here", 4)]) (g := gName 4) rfl c_by_density.nd (pi_list (pv 3))
        (blkOk_by (N := ["_law_purse_here", "_law_crowd", "_law_way", "_law_pairs_here", "_law_pair_here"]) (sc := defScope s_by_density) (by decide +kernel)) (fun _ _ _ _ _ => pg_name (i := 4) c_by_density.nd rfl (Or.inl rfl)) (fun _ _ _ _ _ => pts_one (pt_cmpR op_eq (pe_call GD hr2 rfl mD kD bD .nil pass0 (pa_cons (pv 0) (pa_cons pe_int pa_nil))) pe_int (nomark _)))
        (fun _ _ _ _ _ => pv 4)) pa_nil))))))), ?_⟩
    refine ⟨_, rfl, p, _, c0, n + 109, rfl, pa, by decide, by decide, fun H1 r r0 r1 sx1 pa1 => ?_⟩
    refine ⟨_, rfl, c, xs.map V.str, rfl, sx1 _ _ ncp hc, by rw [List.length_map]; have := g.few; omega, fun H2 D s2 nD ⟨Ts, hd, tu⟩ => ?_⟩
    rw [prs_strs] at tu
    have lT : Ts.length = (prsS xs).length := by rw [tu.1, List.length_map]
    have l36 := Good.len0 g.few.2
    have sx2 : SameX p H H2 := sx1.trans (SameX.of s2)
    have pa2 := pa1.same s2
    have nD2 : D ≠ p := purse_none pa1 nD
    refine ⟨_, _, rfl, ?_⟩
    refine ⟨_, rfl, rfl, _, rfl, ?_⟩
    refine ite2 (fun _ => ?_) (fun _ => ?_)
    · refine ⟨_, rfl, _, rfl, D, rfl, ⟨_, SqL.of hd⟩, fun C hC => ?_⟩
      have nC := purse_none pa2 hC
      refine lc_list (xs := Ts.map V.ref) (fun j H3 => ∃ (Us : List Addr) (qs : List Pr), H3 C = some (.lst (Us.map V.ref)) ∧ SameX p H2 H3 ∧ Tups H3 Us (qs.map tv) ∧ qs.Sublist ((prsS xs).take j) ∧ PurseAt H3 p c0 (n + (100 - j)))
        ⟨[], [], upd_same, (SameX.refl p H2).updN hC, Tups.nil, List.nil_sublist _, (pa2.upd nC).less (by omega)⟩ (fun j H3 _ ⟨Us, qs, _, s6, _⟩ => SqL.of (s6 _ _ nD2 hd)) ?_ ?_
      · rintro j v H3 hv ⟨Us, qs, hu, s6, tu2, sb, pa3⟩
        rw [List.getElem?_map] at hv
        obtain ⟨T0, hT, rfl⟩ := Option.map_eq_some_iff.mp hv
        have jl := (List.getElem?_eq_some_iff.mp hT).1
        have hq : (prsS xs)[j]? = some (prsS xs)[j] := List.getElem?_eq_getElem (by omega)
        generalize (prsS xs)[j] = q at hq
        have e1' := tu.2 j T0 (tv q) hT (by rw [List.getElem?_map, hq]; rfl)
        have e0 : n + (100 - j) = n + (100 - (j + 1)) + 1 := by omega
        rw [e0] at pa3
        refine ⟨rfl, _, rfl, p, _, c0, _, rfl, pa3, by decide, by decide, fun H4 u u0 u1 s7 pa4 => ⟨rfl, _, rfl, ?_⟩⟩
        have Cp : C ≠ p := nC
        have T0p : T0 ≠ p := purse_ne pa2 e1' fun _ _ _ _ z => nomatch z
        have e1 := s7 _ _ T0p (s6 _ _ T0p e1')
        have hu4 := s7 _ _ Cp hu
        have tu4 : Tups H4 Us (qs.map tv) := tu2.keep fun T o hT' e => by
          obtain ⟨y, _, ey⟩ := tu2.at hT'
          exact s7 _ _ (purse_ne pa3 ey fun _ _ _ _ z => nomatch z) e
        refine ite2 (fun hb => ?_) (fun hb => ?_)
        · have lu : Us.length ≤ 36 := by
            rw [tu2.1, List.length_map]
            have h1 := sb.length_le
            rw [List.length_take] at h1
            omega
          refine ⟨_, rfl, _, hu4, by rw [List.length_map, sizeLine_eq]; omega, Us ++ [T0], qs ++ [q], by rw [upd_same]; simp, fun b o nb e => ?_, ?_, ?_, pa4.upd Cp⟩
          · rw [upd_ne (ne_of_none e hC)]
            exact s7 _ _ nb (s6 _ _ nb e)
          · rw [List.map_append]
            have t3 := tu4.upd (a := C) (o := .lst (Us.map V.ref ++ [V.ref T0])) fun x y e => by
              rw [hu4] at e
              cases e
            exact t3.snoc (p := tv q) (by rw [upd_ne (ne_of hu4 e1 (fun z => nomatch z)).symm]; exact e1)
          · rw [take_next hq]
            exact sb.append (List.Sublist.refl _)
        · refine ⟨Us, qs, hu4, s6.trans s7, tu4, ?_, pa4⟩
          rw [take_next hq]
          exact sb.trans (List.sublist_append_left _ _)
      · rintro H3 ⟨Us, qs, hu, s6, tu2, sb, pa3⟩
        rw [List.length_map, lT, List.take_length] at sb
        refine ⟨by show 2 ≤ sizeLine; decide, fun Z hZ => ?_⟩
        have nZ := purse_none pa3 hZ
        have s7 := sx2.trans s6
        refine k _ Z qs sb (s7.updN (s7.none hZ nZ)) (s7.none hZ nZ) ⟨c, C, upd_same, ?_, Us, by rw [upd_ne (ne_of_none hu hZ)]; exact hu, tu2.keep fun T o _ e => by rw [upd_ne (ne_of_none e hZ)]; exact e⟩ nZ ((pa3.upd nZ).less (by omega))
        have hc3 := s7 _ _ ncp hc
        rw [upd_ne (ne_of_none hc3 hZ)]
        exact hc3
    · refine ⟨_, rfl, rfl, _, rfl, ?_⟩
      refine ite2 (fun _ => ?_) (fun _ => ?_)
      · refine ⟨_, rfl, _, rfl, D, rfl, ⟨_, SqL.of hd⟩, fun C hC => ?_⟩
        have nC := purse_none pa2 hC
        refine lc_list (xs := Ts.map V.ref) (fun j H3 => ∃ (Us : List Addr) (qs : List Pr), H3 C = some (.lst (Us.map V.ref)) ∧ SameX p H2 H3 ∧ Tups H3 Us (qs.map tv) ∧ qs.Sublist ((prsS xs).take j) ∧ PurseAt H3 p c0 (n + (100 - j)))
          ⟨[], [], upd_same, (SameX.refl p H2).updN hC, Tups.nil, List.nil_sublist _, (pa2.upd nC).less (by omega)⟩ (fun j H3 _ ⟨Us, qs, _, s6, _⟩ => SqL.of (s6 _ _ nD2 hd)) ?_ ?_
        · rintro j v H3 hv ⟨Us, qs, hu, s6, tu2, sb, pa3⟩
          rw [List.getElem?_map] at hv
          obtain ⟨T0, hT, rfl⟩ := Option.map_eq_some_iff.mp hv
          have jl := (List.getElem?_eq_some_iff.mp hT).1
          have hq : (prsS xs)[j]? = some (prsS xs)[j] := List.getElem?_eq_getElem (by omega)
          generalize (prsS xs)[j] = q at hq
          have e1' := tu.2 j T0 (tv q) hT (by rw [List.getElem?_map, hq]; rfl)
          have e0 : n + (100 - j) = n + (100 - (j + 1)) + 1 := by omega
          rw [e0] at pa3
          refine ⟨rfl, _, rfl, p, _, c0, _, rfl, pa3, by decide, by decide, fun H4 u u0 u1 s7 pa4 => ⟨_, _, rfl, rfl, _, rfl, ?_⟩⟩
          have Cp : C ≠ p := nC
          have T0p : T0 ≠ p := purse_ne pa2 e1' fun _ _ _ _ z => nomatch z
          have e1 := s7 _ _ T0p (s6 _ _ T0p e1')
          have hu4 := s7 _ _ Cp hu
          have tu4 : Tups H4 Us (qs.map tv) := tu2.keep fun T o hT' e => by
            obtain ⟨y, _, ey⟩ := tu2.at hT'
            exact s7 _ _ (purse_ne pa3 ey fun _ _ _ _ z => nomatch z) e
          refine ite2 (fun hb => ?_) (fun hb => ?_)
          · have lu : Us.length ≤ 36 := by
              rw [tu2.1, List.length_map]
              have h1 := sb.length_le
              rw [List.length_take] at h1
              omega
            refine ⟨_, rfl, _, hu4, by rw [List.length_map, sizeLine_eq]; omega, Us ++ [T0], qs ++ [q], by rw [upd_same]; simp, fun b o nb e => ?_, ?_, ?_, pa4.upd Cp⟩
            · rw [upd_ne (ne_of_none e hC)]
              exact s7 _ _ nb (s6 _ _ nb e)
            · rw [List.map_append]
              have t3 := tu4.upd (a := C) (o := .lst (Us.map V.ref ++ [V.ref T0])) fun x y e => by
                rw [hu4] at e
                cases e
              exact t3.snoc (p := tv q) (by rw [upd_ne (ne_of hu4 e1 (fun z => nomatch z)).symm]; exact e1)
            · rw [take_next hq]
              exact sb.append (List.Sublist.refl _)
          · refine ⟨Us, qs, hu4, s6.trans s7, tu4, ?_, pa4⟩
            rw [take_next hq]
            exact sb.trans (List.sublist_append_left _ _)
        · rintro H3 ⟨Us, qs, hu, s6, tu2, sb, pa3⟩
          rw [List.length_map, lT, List.take_length] at sb
          refine ⟨by show 2 ≤ sizeLine; decide, fun Z hZ => ?_⟩
          have nZ := purse_none pa3 hZ
          have s7 := sx2.trans s6
          refine k _ Z qs sb (s7.updN (s7.none hZ nZ)) (s7.none hZ nZ) ⟨c, C, upd_same, ?_, Us, by rw [upd_ne (ne_of_none hu hZ)]; exact hu, tu2.keep fun T o _ e => by rw [upd_ne (ne_of_none e hZ)]; exact e⟩ nZ ((pa3.upd nZ).less (by omega))
          have hc3 := s7 _ _ ncp hc
          rw [upd_ne (ne_of_none hc3 hZ)]
          exact hc3
      · refine ⟨_, rfl, _, rfl, D, rfl, ⟨_, SqL.of hd⟩, fun C hC => ?_⟩
        have nC := purse_none pa2 hC
        refine lc_list (xs := Ts.map V.ref) (fun j H3 => ∃ (Us : List Addr) (qs : List Pr), H3 C = some (.lst (Us.map V.ref)) ∧ SameX p H2 H3 ∧ Tups H3 Us (qs.map tv) ∧ qs.Sublist ((prsS xs).take j) ∧ PurseAt H3 p c0 (n + (100 - j)))
          ⟨[], [], upd_same, (SameX.refl p H2).updN hC, Tups.nil, List.nil_sublist _, (pa2.upd nC).less (by omega)⟩ (fun j H3 _ ⟨Us, qs, _, s6, _⟩ => SqL.of (s6 _ _ nD2 hd)) ?_ ?_
        · rintro j v H3 hv ⟨Us, qs, hu, s6, tu2, sb, pa3⟩
          rw [List.getElem?_map] at hv
          obtain ⟨T0, hT, rfl⟩ := Option.map_eq_some_iff.mp hv
          have jl := (List.getElem?_eq_some_iff.mp hT).1
          have hq : (prsS xs)[j]? = some (prsS xs)[j] := List.getElem?_eq_getElem (by omega)
          generalize (prsS xs)[j] = q at hq
          have e1' := tu.2 j T0 (tv q) hT (by rw [List.getElem?_map, hq]; rfl)
          have e0 : n + (100 - j) = n + (100 - (j + 1)) + 1 := by omega
          rw [e0] at pa3
          refine ⟨rfl, _, rfl, p, _, c0, _, rfl, pa3, by decide, by decide, fun H4 u u0 u1 s7 pa4 => ⟨rfl, _, rfl, ?_⟩⟩
          have Cp : C ≠ p := nC
          have T0p : T0 ≠ p := purse_ne pa2 e1' fun _ _ _ _ z => nomatch z
          have e1 := s7 _ _ T0p (s6 _ _ T0p e1')
          have hu4 := s7 _ _ Cp hu
          have tu4 : Tups H4 Us (qs.map tv) := tu2.keep fun T o hT' e => by
            obtain ⟨y, _, ey⟩ := tu2.at hT'
            exact s7 _ _ (purse_ne pa3 ey fun _ _ _ _ z => nomatch z) e
          refine ite2 (fun hb => ?_) (fun hb => ?_)
          · have lu : Us.length ≤ 36 := by
              rw [tu2.1, List.length_map]
              have h1 := sb.length_le
              rw [List.length_take] at h1
              omega
            refine ⟨_, rfl, _, hu4, by rw [List.length_map, sizeLine_eq]; omega, Us ++ [T0], qs ++ [q], by rw [upd_same]; simp, fun b o nb e => ?_, ?_, ?_, pa4.upd Cp⟩
            · rw [upd_ne (ne_of_none e hC)]
              exact s7 _ _ nb (s6 _ _ nb e)
            · rw [List.map_append]
              have t3 := tu4.upd (a := C) (o := .lst (Us.map V.ref ++ [V.ref T0])) fun x y e => by
                rw [hu4] at e
                cases e
              exact t3.snoc (p := tv q) (by rw [upd_ne (ne_of hu4 e1 (fun z => nomatch z)).symm]; exact e1)
            · rw [take_next hq]
              exact sb.append (List.Sublist.refl _)
          · refine ⟨Us, qs, hu4, s6.trans s7, tu4, ?_, pa4⟩
            rw [take_next hq]
            exact sb.trans (List.sublist_append_left _ _)
        · rintro H3 ⟨Us, qs, hu, s6, tu2, sb, pa3⟩
          rw [List.length_map, lT, List.take_length] at sb
          refine ⟨by show 2 ≤ sizeLine; decide, fun Z hZ => ?_⟩
          have nZ := purse_none pa3 hZ
          have s7 := sx2.trans s6
          refine k _ Z qs sb (s7.updN (s7.none hZ nZ)) (s7.none hZ nZ) ⟨c, C, upd_same, ?_, Us, by rw [upd_ne (ne_of_none hu hZ)]; exact hu, tu2.keep fun T o _ e => by rw [upd_ne (ne_of_none e hZ)]; exact e⟩ nZ ((pa3.upd nZ).less (by omega))
          have hc3 := s7 _ _ ncp hc
          rw [upd_ne (ne_of_none hc3 hZ)]
          exact hc3
end
end Wd
end
section
set_option maxRecDepth 100000
set_option maxHeartbeats 4000000
namespace Wd
open PySem L2
abbrev nLab : List Str := ["_law_purse_here", "_law_crowd", "_law_size", "_law_turn", "_law_person", "_law_rows", "_law_tie", "_law_ties", "_law_found", "_law_first", "_law_second", "_law_total", "_law_at", "_law_spot"]
theorem mem_prs {xs : List V} {q : V × V} (h : q ∈ prs xs) : q.1 ∈ xs ∧ q.2 ∈ xs := by
  induction xs with
  | nil => cases h
  | cons x r ih =>
    rcases List.mem_append.mp h with h | h
    · obtain ⟨y, hy, rfl⟩ := List.mem_map.mp h
      exact ⟨List.mem_cons_self, List.mem_cons_of_mem _ hy⟩
    · obtain ⟨h1, h2⟩ := ih h
      exact ⟨List.mem_cons_of_mem _ h1, List.mem_cons_of_mem _ h2⟩
theorem prs_map (f : V → V) : ∀ l : List V, prs (l.map f) = (prs l).map fun q => (f q.1, f q.2)
  | [] => rfl
  | x :: r => by
    show (r.map f).map (fun y => (f x, y)) ++ prs (r.map f) = (r.map (fun y => (x, y)) ++ prs r).map _
    rw [prs_map f r, List.map_append, List.map_map, List.map_map]
    rfl
theorem mem_rgV {n : Nat} {v : V} (h : v ∈ rgV 0 (n : Int)) : ∃ i : Nat, v = .int (i : Int) ∧ i < n := by
  unfold rgV at h
  obtain ⟨i, hi, rfl⟩ := List.mem_map.mp h
  have := List.mem_range.mp hi
  exact ⟨i, by rw [Int.zero_add], by omega⟩
/-- the k-th two of the places is the k-th pair -/
theorem prs_places (xs : List Str) (k : Nat) (q : V × V) (h : (prs (rgV 0 (xs.length : Int)))[k]? = some q) : ∃ (i j : Nat) (a b : Str), q = (.int (i : Int), .int (j : Int)) ∧ xs[i]? = some a ∧ xs[j]? = some b ∧ (prsS xs)[k]? = some (a, b) := by
  have m := mem_prs (List.mem_of_getElem? h)
  obtain ⟨i, e1, hi⟩ := mem_rgV m.1
  obtain ⟨j, e2, hj⟩ := mem_rgV m.2
  let f : V → V := fun v => match v with | .int i => .str (xs.getD i.toNat Str.empty) | _ => .non
  have em : (rgV 0 (xs.length : Int)).map f = xs.map V.str := by
    unfold rgV
    rw [List.map_map, Int.sub_zero, Int.toNat_natCast]
    refine List.ext_getElem? fun t => ?_
    rw [List.getElem?_map, List.getElem?_map]
    by_cases c : t < xs.length
    · rw [List.getElem?_range c, List.getElem?_eq_getElem c]
      show some (V.str (xs.getD ((0 : Int) + (t : Nat)).toNat Str.empty)) = _
      rw [Int.zero_add, Int.toNat_natCast, List.getD_eq_getElem?_getD, List.getElem?_eq_getElem c]
      rfl
    · rw [List.getElem?_eq_none (by rw [List.length_range]; omega), List.getElem?_eq_none (by omega)]
      rfl
  have h2 : (prs ((rgV 0 (xs.length : Int)).map f))[k]? = some (f q.1, f q.2) := by
    rw [prs_map, List.getElem?_map, h]
    rfl
  rw [em, prs_strs, List.getElem?_map] at h2
  obtain ⟨p, hp, ep⟩ := Option.map_eq_some_iff.mp h2
  have ga : xs[i]? = some xs[i] := List.getElem?_eq_getElem hi
  have gb : xs[j]? = some xs[j] := List.getElem?_eq_getElem hj
  have fa : f (.int (i : Int)) = .str xs[i] := by
    show V.str (xs.getD ((i : Int)).toNat Str.empty) = _
    rw [Int.toNat_natCast, List.getD_eq_getElem?_getD, ga]
    rfl
  have fb : f (.int (j : Int)) = .str xs[j] := by
    show V.str (xs.getD ((j : Int)).toNat Str.empty) = _
    rw [Int.toNat_natCast, List.getD_eq_getElem?_getD, gb]
    rfl
  rw [e1, e2, fa, fb] at ep
  have e3 := Prod.mk.inj ep
  injection e3.1 with e4
  injection e3.2 with e5
  exact ⟨i, j, xs[i], xs[j], Prod.ext e1 e2, ga, gb, by rw [hp, ← e4, ← e5]⟩
theorem two_len : ∀ xs : List V, 2 * (prs xs).length + xs.length = xs.length * xs.length
  | [] => rfl
  | x :: r => by
    have h := two_len r
    show 2 * (r.map (fun y => (x, y)) ++ prs r).length + (r.length + 1) = (r.length + 1) * (r.length + 1)
    rw [List.length_append, List.length_map]
    have e : (r.length + 1) * (r.length + 1) = r.length * r.length + r.length + (r.length + 1) := by
      rw [Nat.add_mul, Nat.one_mul, Nat.mul_add, Nat.mul_one]
    omega
/-- a row of bits stands at a -/
def Row (H : Hp) (m : Nat) (a : Addr) : Prop := ∃ ns : List Int, H a = some (.lst (ns.map V.int)) ∧ ns.length = m ∧ ∀ v ∈ ns, 0 ≤ v ∧ v ≤ 1
theorem Row.at {H : Hp} {m : Nat} {a : Addr} (r : Row H m a) {i : Nat} (h : i < m) : ∃ (ns : List Int) (v : Int), H a = some (.lst (ns.map V.int)) ∧ atI (ns.map V.int) (i : Int) = some (.int v) ∧ 0 ≤ v ∧ v ≤ 1 := by
  obtain ⟨ns, e, l, b⟩ := r
  have hi : ns[i]? = some ns[i] := List.getElem?_eq_getElem (by omega)
  exact ⟨ns, ns[i], e, atI_nat (by rw [List.getElem?_map, hi]; rfl), b _ (List.getElem_mem _)⟩
section
variable {P : Program} {w : World} {K : PySem.W.Frag} {mg : Str → Option Value} {base : Heap}
set_option maxHeartbeats 1000000 in
theorem ok_labels {f : Addr} {fd : FuncData} (F : Fun K "_law_by_labels" "_law_by_labels" s_by_labels f fd) (T : Bt mg) (CD : Has P w K mg base 2 "_law_draw" ["_law_purse_here", "_law_many"] spDraw)
    (CP : Has P w K mg base 1 "_law_pairs" ["_law_crowd"] spPairs) : FnOk P w K mg base CX0 3 f fd ["_law_purse_here", "_law_crowd"] (spMade 110) := by
  obtain ⟨fD, fdD, GD, mD, kD, bD⟩ := CD
  obtain ⟨fP, fdP, GP, mP, kP, bP⟩ := CP
  refine F.ok c_by_labels (fun vs H Q E h => ?_) (fun cdv A outer s H vs Q E hr h => ?_)
  · obtain ⟨_, _, _, _, _, rfl, _⟩ := h
    rfl
  · obtain ⟨p, c, xs, c0, n, rfl, pa, hc, g, k⟩ := h
    have hr1 : Room 1 _ := hr.mono (by decide)
    have hr2 : Room 2 _ := hr.mono (by decide)
    refine ⟨_, pss_cons (ps_set (i := 2) c_by_labels.nd rfl (Or.inl rfl) (pe_op op_add pe_int (pe_call GD hr2 rfl mD kD bD .nil pass0 (pa_cons (pv 0) (pa_cons pe_int pa_nil)))))
      (pss_cons (ps_setLc (i := 5) (own := [("_law_turn", 3)]) (g := gName 3) (tt := tYes) rfl c_by_labels.nd rfl rfl (sw_true rfl rfl rfl (by decide +kernel)) (pi_range1 rfl T.range (pa_cons (pv 2) pa_nil))
          (blkOk_by (N := nLab) (sc := defScope s_by_labels) (by decide +kernel)) (fun _ _ _ _ _ => pg_name (i := 3) c_by_labels.nd rfl (Or.inl rfl)) (fun _ _ _ _ _ => pts_nil)
          (fun _ _ _ _ _ => pe_lc (wi := iList K (tVar 1)) (own := [("_law_person", 4)]) (g := gName 4) (tt := tYes) rfl c_by_labels.nd (pi_list (pv 1)) (blkOk_by (by rfl)) (fun _ _ _ _ _ => pg_name (i := 4) c_by_labels.nd rfl (Or.inl rfl)) (fun _ _ _ _ _ => pts_nil)
            (fun _ _ _ _ _ => pe_call GD hr2 rfl mD kD bD .nil pass0 (pa_cons (pv 0) (pa_cons pe_int pa_nil)))))
      (pss_cons (ps_setLc (i := 7) (own := [("_law_tie", 6)]) (g := gName 6) rfl c_by_labels.nd rfl rfl (sw_true rfl rfl rfl (by decide +kernel)) (pi_list (pe_call GP hr1 rfl mP kP bP .nil pass0 (pa_cons (pe_listRg rfl (by rfl) T.list (prg_1 rfl T.range (pv 2))) pa_nil)))
          (blkOk_by (N := nLab) (sc := defScope s_by_labels) (by decide +kernel)) (fun _ _ _ _ _ => pg_name (i := 6) c_by_labels.nd rfl (Or.inl rfl)) (fun _ _ _ _ _ => pts_one (pt_cmpR op_eq (pe_call GD hr2 rfl mD kD bD .nil pass0 (pa_cons (pv 0) (pa_cons pe_int pa_nil))) pe_int (nomark _)))
          (fun _ _ _ _ _ => pv 6))
      (pss_cons (ps_set (i := 8) c_by_labels.nd rfl (Or.inl rfl) (pe_lst pa_nil))
      (pss_cons (ps_for PassesOwn.never rfl (pi_list (pe_call GP hr1 rfl mP kP bP .nil pass0 (pa_cons (pe_listRg rfl (by rfl) T.list (prg_1 rfl T.range (pe_callB call_len_seq (by rfl) T.len PySem.boot_len (pa_cons (pv 1) pa_nil)))) pa_nil)))
          (pg_tup rfl (pgs_cons (pg_name (i := 9) c_by_labels.nd rfl (Or.inl rfl)) (pgs_cons (pg_name (i := 10) c_by_labels.nd rfl (Or.inl rfl)) pgs_nil)))
          (pss_cons (ps_set (i := 11) c_by_labels.nd rfl (Or.inl rfl) pe_int)
          (pss_cons (ps_for PassesOwn.never rfl (pi_list (pv 7)) (pg_tup rfl (pgs_cons (pg_name (i := 12) c_by_labels.nd rfl (Or.inl rfl)) (pgs_cons (pg_name (i := 13) c_by_labels.nd rfl (Or.inl rfl)) pgs_nil)))
            (pss_cons (ps_set (i := 11) c_by_labels.nd rfl (Or.inl rfl) (pe_op op_add (pv 11) (pe_op op_mul (pe_ix ix_list (pe_ix ix_list (pv 5) (pv 12) (fun _ _ => rfl)) (pv 9) (fun _ _ => rfl)) (pe_ix ix_list (pe_ix ix_list (pv 5) (pv 13) (fun _ _ => rfl)) (pv 10) (fun _ _ => rfl)))))
            (pss_one (ps_set (i := 11) c_by_labels.nd rfl (Or.inl rfl) (pe_op op_add (pv 11) (pe_op op_mul (pe_ix ix_list (pe_ix ix_list (pv 5) (pv 13) (fun _ _ => rfl)) (pv 9) (fun _ _ => rfl)) (pe_ix ix_list (pe_ix ix_list (pv 5) (pv 12) (fun _ _ => rfl)) (pv 10) (fun _ _ => rfl))))))))
          (pss_one (ps_if (pt_cmpR op_eq (pe_op op_mod (pe_callTy call_int1 (by rfl) T.int (by decide +kernel) (pa_cons (pv 11) pa_nil)) pe_int) pe_int (nomark _))
            (pss_one (ps_expr (pe_bm PySem.F.plainAttrs_list PySem.F.slot_list_append PySem.F.type_list_append mt_append (pv 8) (pa_cons (pe_tup (pa_cons (pe_ix ix_list (pv 1) (pv 9) (fun _ _ => rfl)) (pa_cons (pe_ix ix_list (pv 1) (pv 10) (fun _ _ => rfl)) pa_nil))) pa_nil)))) pss_nil)))))
      (pss_one (ps_ret (pe_lst (pa_cons (pv 1) (pa_cons (pv 8) pa_nil))))))))), ?_⟩
    have lx := g.few
    have ncp : c ≠ p := purse_ne pa hc fun b' c' t' z' e => by
      have l := congrArg (fun o : HO => match o with | .lst (.int i :: _) => true | _ => false) e
      cases xs with
      | nil => simp at l
      | cons x r => simp at l
    refine ⟨_, rfl, p, _, c0, n + 109, rfl, pa, by decide, by decide, fun H1 r r0 r1 sx1 pa1 => ⟨_, _, rfl, rfl, ?_⟩⟩
    obtain ⟨sz, esz, sz1, sz3⟩ : ∃ sz : Nat, (1 + r : Int) = (sz : Int) ∧ 1 ≤ sz ∧ sz ≤ 3 := ⟨(1 + r).toNat, by omega, by omega, by omega⟩
    show gName 2 (V.int (1 + r)) _ _ _
    rw [esz]
    refine ⟨_, rfl, (sz : Int), rfl, by omega, by omega, fun R hR => ?_⟩
    have nR := purse_none pa1 hR
    have hc1 := sx1 _ _ ncp hc
    have cR := ne_of_none hc1 hR
    refine lc_range (lo := 0) (n := (sz : Int).toNat) (fun i H2 => ∃ Ls : List Addr, H2 R = some (.lst (Ls.map V.ref)) ∧ Ls.length = i ∧ (∀ a ∈ Ls, Row H2 xs.length a ∧ a ≠ R ∧ a ≠ p) ∧ SameX p H1 H2 ∧ PurseAt H2 p c0 (n + 60 + (3 - i) * 10))
      ⟨[], upd_same, rfl, (fun _ h => nomatch h), (SameX.refl p H1).updN hR, (pa1.upd nR).less (by omega)⟩ ?_ ?_
    · rintro i H2 hi ⟨Ls, hl, li, rows, sx2, pa2⟩
      have hc2 := sx2 _ _ ncp hc1
      refine ⟨rfl, _, rfl, c, rfl, ⟨_, SqL.of hc2⟩, fun C hC => ?_⟩
      have nC := purse_none pa2 hC
      have CR : R ≠ C := ne_of_none hl hC
      refine lc_list (xs := xs.map V.str) (fun j H3 => ∃ ns : List Int, H3 C = some (.lst (ns.map V.int)) ∧ ns.length = j ∧ (∀ v ∈ ns, 0 ≤ v ∧ v ≤ 1) ∧ SameX p H2 H3 ∧ PurseAt H3 p c0 (n + 60 + (3 - (i + 1)) * 10 + (10 - j)))
        ⟨[], upd_same, rfl, (fun _ h => nomatch h), (SameX.refl p H2).updN hC, (pa2.upd nC).less (by omega)⟩ (fun j H3 _ ⟨ns, _, _, _, s3, _⟩ => SqL.of (s3 _ _ ncp hc2)) ?_ ?_
      · rintro j v H3 hv ⟨ns, hn, lj, bits, sx3, pa3⟩
        have jl := (List.getElem?_eq_some_iff.mp hv).1
        rw [List.length_map] at jl
        have e0 : n + 60 + (3 - (i + 1)) * 10 + (10 - j) = n + 60 + (3 - (i + 1)) * 10 + (10 - (j + 1)) + 1 := by omega
        rw [e0] at pa3
        refine ⟨rfl, _, rfl, p, _, c0, _, rfl, pa3, by decide, by decide, fun H4 u u0 u1 sx4 pa4 => ?_⟩
        have hn4 := sx4 _ _ nC hn
        refine ⟨_, hn4, by rw [List.length_map, sizeLine_eq]; omega, ns ++ [u], by rw [upd_same]; simp, by rw [List.length_append, List.length_singleton, lj], fun v hv => ?_, (sx3.trans sx4).updN hC, pa4.upd nC⟩
        rcases List.mem_append.mp hv with h | h
        · exact bits v h
        · rw [List.mem_singleton.mp h]
          omega
      · rintro H3 ⟨ns, hn, lj, bits, sx3, pa3⟩
        rw [List.length_map] at lj pa3
        have hl3 := sx3 _ _ nR hl
        refine ⟨_, hl3, by rw [List.length_map, sizeLine_eq]; omega, Ls ++ [C], by rw [upd_same]; simp, by rw [List.length_append, List.length_singleton, li], fun a ha => ?_, (sx2.trans sx3).updN hR, (pa3.upd nR).less (by omega)⟩
        rcases List.mem_append.mp ha with h | h
        · obtain ⟨⟨ms, e1, e2, e3⟩, e4, e5⟩ := rows a h
          exact ⟨⟨ms, by rw [upd_ne e4]; exact sx3 _ _ e5 e1, e2, e3⟩, e4, e5⟩
        · rw [List.mem_singleton.mp h]
          exact ⟨⟨ns, by rw [upd_ne (Ne.symm CR)]; exact hn, lj, bits⟩, Ne.symm CR, nC⟩
    rintro H2 ⟨Ls, hl, li, rows, sx2, pa2⟩
    rw [Int.toNat_natCast] at li pa2
    have hc2 := sx2 _ _ ncp hc1
    -- the ties
    refine ⟨_, rfl, _, rfl, RgOk.of_le (by omega) (by omega) (by omega) (by omega), fun L hL => ?_⟩
    have nL := purse_none pa2 hL
    have lrg : (rgV 0 (sz : Int)).length = sz := by rw [rgV_length]; omega
    refine ⟨L, _, rfl, upd_same, by rw [lrg]; omega, fun H3 D s3 nD ⟨Ts, hd, tu⟩ => ⟨D, rfl, ⟨_, SqL.of hd⟩, fun C hC => ?_⟩⟩
    have pa3 := (pa2.upd (o := .lst (rgV 0 (sz : Int))) nL).same s3
    have sx3 : SameX p H2 H3 := ((SameX.refl p H2).updN hL).trans (SameX.of s3)
    have nDp : D ≠ p := purse_none (pa2.upd (o := .lst (rgV 0 (sz : Int))) nL) nD
    have nC := purse_none pa3 hC
    have pl : (prs (rgV 0 (sz : Int))).length ≤ 9 := by
      have h1 := prs_len (rgV 0 (sz : Int))
      rw [lrg] at h1
      have h2 : sz * sz ≤ 3 * 3 := Nat.mul_le_mul sz3 sz3
      omega
    have lT := tu.1
    refine lc_list (xs := Ts.map V.ref) (fun j H4 => ∃ (Us : List Addr) (qs : List (V × V)), H4 C = some (.lst (Us.map V.ref)) ∧ SameX p H3 H4 ∧ Tups H4 Us qs ∧ (∀ q ∈ qs, q ∈ prs (rgV 0 (sz : Int))) ∧ qs.length ≤ j ∧ PurseAt H4 p c0 (n + 40 + (9 - j)))
      ⟨[], [], upd_same, (SameX.refl p H3).updN hC, Tups.nil, (fun _ h => nomatch h), Nat.le_refl _, (pa3.upd nC).less (by omega)⟩ (fun j H4 _ ⟨Us, qs, _, s6, _⟩ => SqL.of (s6 _ _ nDp hd)) ?_ ?_
    · rintro j v H4 hv ⟨Us, qs, hu, s6, tu2, mq, lq, pa4⟩
      rw [List.getElem?_map] at hv
      obtain ⟨T0, hT, rfl⟩ := Option.map_eq_some_iff.mp hv
      have jl := (List.getElem?_eq_some_iff.mp hT).1
      have hq : (prs (rgV 0 (sz : Int)))[j]? = some (prs (rgV 0 (sz : Int)))[j] := List.getElem?_eq_getElem (by omega)
      have qm : (prs (rgV 0 (sz : Int)))[j] ∈ prs (rgV 0 (sz : Int)) := List.getElem_mem _
      generalize (prs (rgV 0 (sz : Int)))[j] = q at hq qm
      have e1' := tu.2 j T0 q hT hq
      have e0 : n + 40 + (9 - j) = n + 40 + (9 - (j + 1)) + 1 := by omega
      rw [e0] at pa4
      refine ⟨rfl, _, rfl, p, _, c0, _, rfl, pa4, by decide, by decide, fun H5 u u0 u1 s7 pa5 => ⟨rfl, _, rfl, ?_⟩⟩
      have T0p : T0 ≠ p := purse_ne pa3 e1' fun _ _ _ _ z => nomatch z
      have e1 := s7 _ _ T0p (s6 _ _ T0p e1')
      have hu4 := s7 _ _ nC hu
      have tu4 : Tups H5 Us qs := tu2.keep fun T o hT' e => by
        obtain ⟨y, _, ey⟩ := tu2.at hT'
        exact s7 _ _ (purse_ne pa4 ey fun _ _ _ _ z => nomatch z) e
      refine ite2 (fun hb => ?_) (fun hb => ?_)
      · refine ⟨_, rfl, _, hu4, by rw [List.length_map, sizeLine_eq, tu2.1]; omega, Us ++ [T0], qs ++ [q], by rw [upd_same]; simp, fun b o nb e => ?_, ?_, fun z hz => ?_, by rw [List.length_append, List.length_singleton]; omega, pa5.upd nC⟩
        · rw [upd_ne (ne_of_none e hC)]
          exact s7 _ _ nb (s6 _ _ nb e)
        · have t3 := tu4.upd (a := C) (o := .lst (Us.map V.ref ++ [V.ref T0])) fun x y e => by
            rw [hu4] at e
            cases e
          exact t3.snoc (by rw [upd_ne (ne_of hu4 e1 (fun z => nomatch z)).symm]; exact e1)
        · rcases List.mem_append.mp hz with h | h
          · exact mq z h
          · rw [List.mem_singleton.mp h]
            exact qm
      · exact ⟨Us, qs, hu4, s6.trans s7, tu4, mq, by omega, pa5⟩
    rintro H4 ⟨Us, qs, hu, s6, tu2, mq, lq, pa4⟩
    rw [List.length_map] at lq
    have sx4 : SameX p H2 H4 := sx3.trans s6
    have sx04 : SameX p H H4 := (sx1.trans sx2).trans sx4
    have hc4 := sx4 _ _ ncp hc2
    have hl4 := sx4 _ _ nR hl
    have rows4 : ∀ a ∈ Ls, Row H4 xs.length a := fun a ha => by
      obtain ⟨⟨ms, e1, e2, e3⟩, e4, e5⟩ := rows a ha
      exact ⟨ms, sx4 _ _ e5 e1, e2, e3⟩
    -- the friendships
    refine ⟨Nat.zero_le _, fun Fd hF => ?_⟩
    have nF := purse_none pa4 hF
    have cF := ne_of_none hc4 hF
    refine ⟨_, rfl, c, _, rfl, .inl (SqL.of (by rw [upd_ne cF]; exact hc4)), _, rfl, by rw [List.length_map]; exact RgOk.of_le (by omega) (by omega) (by omega) (by omega), fun L2 hL2 => ?_⟩
    rw [List.length_map]
    have lrg2 : (rgV 0 (xs.length : Int)).length = xs.length := by rw [rgV_length]; omega
    have hL24 : H4 L2 = none := by
      have x1 : Fd ≠ L2 := ne_of_none upd_same hL2
      rw [upd_ne (Ne.symm x1)] at hL2
      exact hL2
    refine ⟨L2, _, rfl, upd_same, by rw [lrg2]; omega, fun H5 D2 s5 nD2 ⟨Vs, hd2, tv2⟩ => ⟨D2, rfl, ⟨_, SqL.of hd2⟩, ?_⟩⟩
    have s45 : Same H4 H5 := fun b o e => s5 _ _ ((same_updN (same_updN (o := .lst []) (fun _ _ e => e) hF) hL2) _ _ e)
    have pa5 := pa4.same s45
    have hF5 : H5 Fd = some (.lst []) := s5 _ _ (by rw [upd_ne (ne_of_none upd_same hL2), upd_same])
    have lV := tv2.1
    have l36 := Good.len0 g.few.2
    have hl5 := s45 _ _ hl4
    have hu5 := s45 _ _ hu
    have tu5 := tu2.same s45
    have hc5 := s45 _ _ hc4
    have rows5 : ∀ a ∈ Ls, Row H5 xs.length a := fun a ha => by
      obtain ⟨ms, e1, e2, e3⟩ := rows4 a ha
      exact ⟨ms, s45 _ _ e1, e2, e3⟩
    have nDF : D2 ≠ Fd := fun z => by
      rw [z] at nD2
      rw [upd_ne (ne_of_none upd_same hL2), upd_same] at nD2
      cases nD2
    have CF : C ≠ Fd := ne_of_none hu hF
    have RF : R ≠ Fd := ne_of_none hl4 hF
    refine for_list (xs := Vs.map V.ref) (fun i σ H6 => ∃ (Ws : List Addr) (ws : List Pr) (v9 v10 v11 v12 v13 : Option V), σ = [some (.ref p), some (.ref c), some (.int sz), none, none, some (.ref R), none, some (.ref C), some (.ref Fd), v9, v10, v11, v12, v13] ∧ H6 Fd = some (.lst (Ws.map V.ref)) ∧ Tups H6 Ws (ws.map tv) ∧ ws.Sublist ((prsS xs).take i) ∧ (∀ b o, b ≠ Fd → H5 b = some o → H6 b = some o))
      ⟨[], [], none, none, none, none, none, rfl, hF5, Tups.nil, List.nil_sublist _, fun _ _ _ e => e⟩ ?_ ?_ ?_
    · rintro i σ H6 _ ⟨Ws, ws, v9, v10, v11, v12, v13, rfl, _, _, _, kp⟩
      exact SqL.of (kp _ _ nDF hd2)
    · rintro i x σ H6 hx ⟨Ws, ws, v9, v10, v11, v12, v13, rfl, hf6, tw, sb, kp⟩
      rw [List.getElem?_map] at hx
      obtain ⟨T0, hT, rfl⟩ := Option.map_eq_some_iff.mp hx
      have jl := (List.getElem?_eq_some_iff.mp hT).1
      have hq : (prs (rgV 0 (xs.length : Int)))[i]? = some (prs (rgV 0 (xs.length : Int)))[i] := List.getElem?_eq_getElem (by omega)
      generalize (prs (rgV 0 (xs.length : Int)))[i] = q at hq
      have e1 := tv2.2 i T0 q hT hq
      obtain ⟨fi, se, ta, tb, rfl, hta, htb, hpr⟩ := prs_places xs i q hq
      have fl : fi < xs.length := (List.getElem?_eq_some_iff.mp hta).1
      have sl : se < xs.length := (List.getElem?_eq_some_iff.mp htb).1
      have e6 := kp _ _ (ne_of hF5 e1 (fun z => nomatch z)).symm e1
      have hu6 := kp _ _ CF hu5
      have hl6 := kp _ _ RF hl5
      have hc6 := kp _ _ cF hc5
      have tu6 : Tups H6 Us qs := tu5.keep fun T o hT' e => by
        obtain ⟨y, _, ey⟩ := tu5.at hT'
        exact kp _ _ (ne_of hF5 ey (fun z => nomatch z)).symm e
      have rows6 : ∀ a ∈ Ls, Row H6 xs.length a := fun a ha => by
        obtain ⟨ms, e1, e2, e3⟩ := rows5 a ha
        have aF : a ≠ Fd := fun z => by
          rw [z, hF5] at e1
          cases ms with
          | nil =>
            have : (0 : Nat) = xs.length := e2
            omega
          | cons m ms => cases e1
        exact ⟨ms, kp _ _ aF e1, e2, e3⟩
      refine ⟨T0, _, rfl, SqT.of e6, rfl, _, _, rfl, _, _, rfl, rfl, ?_⟩
      refine ⟨_, rfl, C, rfl, ⟨_, SqL.of hu6⟩, ?_⟩
      refine for_list (xs := Us.map V.ref) (fun j σ H7 => ∃ (t : Int) (v12 v13 : Option V), σ = [some (.ref p), some (.ref c), some (.int sz), none, none, some (.ref R), none, some (.ref C), some (.ref Fd), some (.int fi), some (.int se), some (.int t), v12, v13] ∧ H7 = H6 ∧ 0 ≤ t ∧ t ≤ 2 * (j : Int))
        ⟨0, v12, v13, rfl, rfl, Int.le_refl _, by omega⟩ (fun j σ H7 _ ⟨t, _, _, _, e, _⟩ => by rw [e]; exact SqL.of hu6) ?_ ?_
      · rintro j x σ H7 hx ⟨t, v12, v13, rfl, rfl, t0, t1⟩
        rw [List.getElem?_map] at hx
        obtain ⟨T1, hT1, rfl⟩ := Option.map_eq_some_iff.mp hx
        have jl1 := (List.getElem?_eq_some_iff.mp hT1).1
        have jq : j < qs.length := by
          rw [← tu6.1]
          exact jl1
        have hq1 : qs[j]? = some qs[j] := List.getElem?_eq_getElem jq
        have mm := mem_prs (mq _ (List.getElem_mem jq))
        generalize qs[j] = q1 at hq1 mm
        obtain ⟨a1, ea1, la1⟩ := mem_rgV mm.1
        obtain ⟨a2, ea2, la2⟩ := mem_rgV mm.2
        have eT1 := tu6.2 j T1 q1 hT1 hq1
        rw [ea1, ea2] at eT1
        have g1 : Ls[a1]? = some Ls[a1] := List.getElem?_eq_getElem (by omega)
        have g2 : Ls[a2]? = some Ls[a2] := List.getElem?_eq_getElem (by omega)
        have w1 : atI (Ls.map V.ref) (a1 : Int) = some (.ref Ls[a1]) := atI_nat (by rw [List.getElem?_map, g1]; rfl)
        have w2 : atI (Ls.map V.ref) (a2 : Int) = some (.ref Ls[a2]) := atI_nat (by rw [List.getElem?_map, g2]; rfl)
        obtain ⟨n1, x1, h11, h12, b11, b12⟩ := (rows6 _ (List.getElem_mem (by omega : a1 < Ls.length))).at fl
        obtain ⟨n2, x2, h21, h22, b21, b22⟩ := (rows6 _ (List.getElem_mem (by omega : a2 < Ls.length))).at sl
        obtain ⟨n3, x3, h31, h32, b31, b32⟩ := (rows6 _ (List.getElem_mem (by omega : a2 < Ls.length))).at fl
        obtain ⟨n4, x4, h41, h42, b41, b42⟩ := (rows6 _ (List.getElem_mem (by omega : a1 < Ls.length))).at sl
        have bits : ∀ u v : Int, 0 ≤ u → u ≤ 1 → 0 ≤ v → v ≤ 1 → 0 ≤ u * v ∧ u * v ≤ 1 := fun u v h1 h2 h3 h4 => by
          have : u = 0 ∨ u = 1 := by omega
          rcases this with e | e <;> subst e <;> omega
        obtain ⟨m1, m2⟩ := bits x1 x2 b11 b12 b21 b22
        obtain ⟨m3, m4⟩ := bits x3 x4 b31 b32 b41 b42
        refine ⟨T1, _, rfl, SqT.of eT1, rfl, _, _, rfl, _, _, rfl, rfl, ?_⟩
        refine ⟨_, rfl, _, rfl, _, rfl, R, _, _, _, rfl, rfl, SqL.of hl6, w1, _, rfl, _, _, _, _, rfl, rfl, SqL.of h11, h12, _, rfl, _, rfl, R, _, _, _, rfl, rfl, SqL.of hl6, w2, _, rfl, _, _, _, _, rfl, rfl, SqL.of h21, h22, _, _, rfl, rfl, .inl ⟨by omega, by omega⟩, _, _, rfl, rfl, ?_⟩
        refine ⟨_, rfl, _, rfl, _, rfl, R, _, _, _, rfl, rfl, SqL.of hl6, w2, _, rfl, _, _, _, _, rfl, rfl, SqL.of h31, h32, _, rfl, _, rfl, R, _, _, _, rfl, rfl, SqL.of hl6, w1, _, rfl, _, _, _, _, rfl, rfl, SqL.of h41, h42, _, _, rfl, rfl, .inl ⟨by omega, by omega⟩, _, _, rfl, rfl, ?_⟩
        exact ⟨t + x1 * x2 + x3 * x4, some (.int a1), some (.int a2), rfl, rfl, by omega, by omega⟩
      · rintro σ H7 ⟨t, v12, v13, rfl, rfl, t0, t1⟩
        refine ⟨_, rfl, .inl ⟨_, rfl, _, _, rfl, rfl, (by show (0 : Int) < 2; decide), rfl, _, rfl, ?_⟩⟩
        have sb2 : ws.Sublist ((prsS xs).take (i + 1)) := by
          rw [take_next hpr]
          exact sb.trans (List.sublist_append_left _ _)
        refine ite2 (fun _ => ?_) (fun _ => ?_)
        · refine ⟨_, rfl, .inl ⟨rfl, _, SqL.of hf6⟩, _, rfl, _, rfl, c, _, _, .str ta, rfl, rfl, SqL.of hc6, atI_nat (by rw [List.getElem?_map, hta]; rfl), _, rfl, _, rfl, c, _, _, .str tb, rfl, rfl, SqL.of hc6, atI_nat (by rw [List.getElem?_map, htb]; rfl), by show 2 ≤ sizeLine; decide, fun Z hZ => ?_⟩
          have FZ := ne_of_none hf6 hZ
          have lw : Ws.length ≤ 36 := by
            rw [tw.1, List.length_map]
            have h1 := sb.length_le
            rw [List.length_take] at h1
            omega
          refine ⟨Fd, _, _, rfl, rfl, by rw [upd_ne FZ]; exact hf6, by rw [List.length_map, sizeLine_eq]; omega, Ws ++ [Z], ws ++ [(ta, tb)], _, _, _, _, _, rfl, by rw [upd_same]; simp, ?_, by rw [take_next hpr]; exact sb.append (List.Sublist.refl _), fun b o nb e => ?_⟩
          · rw [List.map_append]
            have t3 : Tups (upd (upd H7 Z (.tup [.str ta, .str tb])) Fd (.lst (Ws.map V.ref ++ [.ref Z]))) Ws (ws.map tv) := (tw.keep (H' := upd H7 Z (.tup [.str ta, .str tb])) fun T o _ e => by rw [upd_ne (ne_of_none e hZ)]; exact e).upd fun x y e => by
              rw [upd_ne FZ, hf6] at e
              cases e
            exact t3.snoc (p := tv (ta, tb)) (by rw [upd_ne (Ne.symm FZ), upd_same]; rfl)
          · have e7 := kp _ _ nb e
            rw [upd_ne nb, upd_ne (ne_of_none e7 hZ)]
            exact e7
        · exact ⟨Ws, ws, _, _, _, _, _, rfl, hf6, tw, sb2, kp⟩
    · rintro σ H6 ⟨Ws, ws, v9, v10, v11, v12, v13, rfl, hf6, tw, sb, kp⟩
      rw [List.length_map, lV] at sb
      have e36 : (prs (rgV 0 (xs.length : Int))).length = (prsS xs).length := by
        have h1 := two_len (rgV 0 (xs.length : Int))
        have h2 := prsS_len xs
        rw [lrg2] at h1
        omega
      rw [e36, List.take_length] at sb
      refine ⟨_, rfl, _, rfl, by show 2 ≤ sizeLine; decide, fun Z hZ => ?_⟩
      have sx6 : SameX p H H6 := fun b o nb e => by
        have e4 := sx04 _ _ nb e
        exact kp _ _ (ne_of_none e4 hF) (s45 _ _ e4)
      have pa6 : PurseAt H6 p c0 n := by
        obtain ⟨b, t, z, e, q⟩ := pa5.less (m := n) (by omega)
        exact ⟨b, t, z, kp _ _ (Ne.symm nF) e, q⟩
      have nZ := purse_none pa6 hZ
      refine k _ Z ws sb (sx6.updN (sx6.none hZ nZ)) (sx6.none hZ nZ) ⟨c, Fd, upd_same, ?_, Ws, by rw [upd_ne (ne_of_none hf6 hZ)]; exact hf6, tw.keep fun T o _ e => by rw [upd_ne (ne_of_none e hZ)]; exact e⟩ nZ (pa6.upd nZ)
      have hc6 := kp _ _ cF hc5
      rw [upd_ne (ne_of_none hc6 hZ)]
      exact hc6
end
end Wd
end
section
set_option maxRecDepth 100000
set_option maxHeartbeats 4000000
namespace Wd
open PySem L2
theorem mk_eq {a b c d : Str} (h : mk a b = mk c d) : (a = c ∧ b = d) ∨ (a = d ∧ b = c) := by
  unfold mk at h
  by_cases h1 : Lt a b <;> by_cases h2 : Lt c d
  · rw [if_pos h1, if_pos h2] at h
    exact .inl (Prod.mk.inj h)
  · rw [if_pos h1, if_neg h2] at h
    exact .inr (Prod.mk.inj h)
  · rw [if_neg h1, if_pos h2] at h
    have := Prod.mk.inj h
    exact .inr ⟨this.2, this.1⟩
  · rw [if_neg h1, if_neg h2] at h
    have := Prod.mk.inj h
    exact .inl ⟨this.2, this.1⟩
theorem mk_mem {xs : List Str} (a : Asc xs) {x y : Str} (hx : x ∈ xs) (hy : y ∈ xs) (ne : x ≠ y) : mk x y ∈ prsS xs := by
  unfold mk
  rcases Lt.tri x y with h | h | h
  · rw [if_pos h]
    exact prsS_mem a hx hy h
  · exact absurd h ne
  · rw [if_neg fun z => Lt.irr _ (z.tr h)]
    exact prsS_mem a hy hx h
theorem mk_has {x y z : Str} (h : z = (mk x y).1 ∨ z = (mk x y).2) : z = x ∨ z = y := by
  unfold mk at h
  split at h
  · exact h
  · exact h.symm
theorem has_mk (x y : Str) : x = (mk x y).1 ∨ x = (mk x y).2 := by
  unfold mk
  split
  · exact .inl rfl
  · exact .inr rfl
/-- pairs told by two places each -/
def IP (ms : List Str) (l : List (Nat × Nat)) : List Pr := l.map fun q => mk (ms.getD q.1 Str.empty) (ms.getD q.2 Str.empty)
def okI (n : Nat) (l : List (Nat × Nat)) : Bool := (l.all fun q => decide (q.1 < n) && decide (q.2 < n) && decide (q.1 ≠ q.2)) &&
  ((List.range l.length).all fun i => (List.range l.length).all fun j => decide (i = j) || (match l[i]?, l[j]? with
    | some a, some b => !(decide (a.1 = b.1) && decide (a.2 = b.2)) && !(decide (a.1 = b.2) && decide (a.2 = b.1))
    | _, _ => true))
theorem getD_inj {ms : List Str} (nd : ms.Nodup) {i j : Nat} (hi : i < ms.length) (hj : j < ms.length) (h : ms.getD i Str.empty = ms.getD j Str.empty) : i = j := by
  rw [List.getD_eq_getElem?_getD, List.getD_eq_getElem?_getD, List.getElem?_eq_getElem hi, List.getElem?_eq_getElem hj] at h
  have h' : ms[i] = ms[j] := h
  rcases Nat.lt_trichotomy i j with c | c | c
  · exact absurd h' (List.pairwise_iff_getElem.mp nd i j hi hj c)
  · exact c
  · exact absurd h'.symm (List.pairwise_iff_getElem.mp nd j i hj hi c)
theorem getD_mem {ms : List Str} {i : Nat} (hi : i < ms.length) : ms.getD i Str.empty ∈ ms := by
  rw [List.getD_eq_getElem?_getD, List.getElem?_eq_getElem hi]
  exact List.getElem_mem hi
theorem ip_ok {xs ms : List Str} {l : List (Nat × Nat)} (a : Asc xs) (pm : ms.Perm xs) (nd : ms.Nodup) (ok : okI ms.length l = true) : (IP ms l).Nodup ∧ ∀ p ∈ IP ms l, p ∈ prsS xs := by
  unfold okI at ok
  rw [Bool.and_eq_true] at ok
  obtain ⟨o1, o2⟩ := ok
  have at_ : ∀ q ∈ l, q.1 < ms.length ∧ q.2 < ms.length ∧ q.1 ≠ q.2 := fun q hq => by
    have h := List.all_eq_true.mp o1 q hq
    simp only [Bool.and_eq_true, decide_eq_true_eq] at h
    exact ⟨h.1.1, h.1.2, h.2⟩
  refine ⟨?_, fun p hp => ?_⟩
  · unfold IP
    refine List.pairwise_map.mpr (List.pairwise_iff_getElem.mpr fun i j hi hj hij e => ?_)
    have h := List.all_eq_true.mp (List.all_eq_true.mp o2 i (List.mem_range.mpr hi)) j (List.mem_range.mpr hj)
    rw [List.getElem?_eq_getElem hi, List.getElem?_eq_getElem hj, decide_eq_false (by omega : ¬ i = j), Bool.false_or] at h
    obtain ⟨a1, a2, _⟩ := at_ _ (List.getElem_mem hi)
    obtain ⟨b1, b2, _⟩ := at_ _ (List.getElem_mem hj)
    have h' : (¬ l[i].1 = l[j].1 ∨ ¬ l[i].2 = l[j].2) ∧ (¬ l[i].1 = l[j].2 ∨ ¬ l[i].2 = l[j].1) := by simpa using h
    rcases mk_eq e with ⟨e1, e2⟩ | ⟨e1, e2⟩
    · exact h'.1.elim (fun z => z (getD_inj nd a1 b1 e1)) fun z => z (getD_inj nd a2 b2 e2)
    · exact h'.2.elim (fun z => z (getD_inj nd a1 b2 e1)) fun z => z (getD_inj nd a2 b1 e2)
  · obtain ⟨q, hq, rfl⟩ := List.mem_map.mp hp
    obtain ⟨a1, a2, a3⟩ := at_ q hq
    exact mk_mem a (pm.mem_iff.mp (getD_mem a1)) (pm.mem_iff.mp (getD_mem a2)) fun e => a3 (getD_inj nd a1 a2 e)
/-- the shapes' places -/
def shPath (n : Nat) : List (Nat × Nat) := (List.range (n - 1)).map fun k => (k, k + 1)
def shRing (n : Nat) : List (Nat × Nat) := (List.range n).map fun k => (if k = 0 then n - 1 else k - 1, k)
def shStar (m : Nat) : List (Nat × Nat) := (List.range m).map fun k => (0, k + 1)
def shTwos (n : Nat) : List (Nat × Nat) := (List.range ((n - 1) / 2)).map fun k => (1 + 2 * k, 2 + 2 * k)
theorem sh_ok : ((List.range 10).all fun n => okI n (shPath n) && (decide (n < 3) || okI n (shRing n)) && okI n (shStar (n - 1)) && okI n (shTwos n ++ shStar (n - 1)) && okI n (shStar (min 1 (n - 1)))) = true := by decide +kernel
theorem twos_n : ((List.range 10).all fun n => decide (n = 0) || (Builtin.Range.small 1 ((n : Int) - 1) 2 && decide (Builtin.Range.rangeSize 1 ((n : Int) - 1) 2 = (((n - 1) / 2 : Nat) : Int)))) = true := by decide +kernel
/-- one pair more in a list that is being made -/
theorem acc_tup {H2 H3 : Hp} {C T : Addr} {Us : List Addr} {qs : List (V × V)} {q : V × V} (hC : H2 C = none) (s : Same H2 H3) (hu : H3 C = some (.lst (Us.map V.ref))) (tu : Tups H3 Us qs) (hT : H3 T = none) :
    upd H3 T (.tup [q.1, q.2]) C = some (.lst (Us.map V.ref)) ∧ upd (upd H3 T (.tup [q.1, q.2])) C (.lst (Us.map V.ref ++ [.ref T])) C = some (.lst ((Us ++ [T]).map V.ref)) ∧
    Same H2 (upd (upd H3 T (.tup [q.1, q.2])) C (.lst (Us.map V.ref ++ [.ref T]))) ∧ Tups (upd (upd H3 T (.tup [q.1, q.2])) C (.lst (Us.map V.ref ++ [.ref T]))) (Us ++ [T]) (qs ++ [q]) := by
  have CT := ne_of_none hu hT
  refine ⟨by rw [upd_ne CT]; exact hu, by rw [upd_same]; simp, fun b o e => ?_, ?_⟩
  · have e2 := s _ _ e
    rw [upd_ne (ne_of_none e hC), upd_ne (ne_of_none e2 hT)]
    exact e2
  · have t3 : Tups (upd (upd H3 T (.tup [q.1, q.2])) C (.lst (Us.map V.ref ++ [.ref T]))) Us qs := (tu.keep (H' := upd H3 T (.tup [q.1, q.2])) fun U o _ e => by rw [upd_ne (ne_of_none e hT)]; exact e).upd fun x y e => by
      rw [upd_ne CT, hu] at e
      cases e
    exact t3.snoc (by rw [upd_ne (Ne.symm CT), upd_same])
end Wd
end
section
set_option maxRecDepth 100000
set_option maxHeartbeats 4000000
namespace Wd
open PySem L2
theorem perm_strs {ys : List V} {xs : List Str} (pm : ys.Perm (xs.map V.str)) : ∃ ms : List Str, ys = ms.map V.str ∧ ms.Perm xs := by
  refine ⟨ys.map fun v => match v with | .str s => s | _ => Str.empty, ?_, ?_⟩
  · rw [List.map_map]
    refine (List.map_id _).symm.trans (List.map_congr_left fun v hv => ?_)
    obtain ⟨s, _, rfl⟩ := List.mem_map.mp (pm.mem_iff.mp hv)
    rfl
  · refine (pm.map _).trans (List.Perm.of_eq ?_)
    rw [List.map_map]
    exact List.map_id _
theorem Asc.nd {xs : List Str} (a : Asc xs) : xs.Nodup := List.Pairwise.imp (fun {x y} (h : Lt x y) (e : x = y) => Lt.irr y (by rw [e] at h; exact h)) a
theorem ip_next {ms : List Str} {l : List (Nat × Nat)} {i : Nat} {q : Nat × Nat} (h : l[i]? = some q) : (IP ms (l.take (i + 1))).map tv = (IP ms (l.take i)).map tv ++ [tv (mk (ms.getD q.1 Str.empty) (ms.getD q.2 Str.empty))] := by
  rw [take_next h]
  unfold IP
  rw [List.map_append, List.map_append]
  rfl
theorem at_ms {ms : List Str} {i : Nat} (h : i < ms.length) : atI (ms.map V.str) (i : Int) = some (.str (ms.getD i Str.empty)) :=
  atI_nat (by rw [List.getElem?_map, List.getElem?_eq_getElem h, List.getD_eq_getElem?_getD, List.getElem?_eq_getElem h]; rfl)
theorem at_msI {ms : List Str} {i : Nat} {j : Int} (h : i < ms.length) (e : j = (i : Int)) : atI (ms.map V.str) j = some (.str (ms.getD i Str.empty)) := by
  rw [e]
  exact at_ms h
theorem at_msP {ms : List Str} {i : Nat} {j : Int} (h : i < ms.length) (e : j = (i : Int) - 1) : atI (ms.map V.str) j = some (.str (ms.getD (if i = 0 then ms.length - 1 else i - 1) Str.empty)) := by
  by_cases z : i = 0
  · subst z
    rw [if_pos rfl, e]
    have ne : ms ≠ [] := List.ne_nil_of_length_pos h
    have hl : (ms.map V.str) = ms.dropLast.map V.str ++ [V.str (ms.getLast ne)] := by
      rw [← List.map_singleton, ← List.map_append, List.dropLast_concat_getLast]
    have h2 := atI_last (ms.dropLast.map V.str) (V.str (ms.getLast ne))
    rw [← hl] at h2
    refine h2.trans ?_
    rw [List.getD_eq_getElem?_getD, List.getElem?_eq_getElem (by omega), List.getLast_eq_getElem]
    rfl
  · rw [if_neg z]
    exact at_msI (by omega) (by omega)
theorem ite_join {c d : Bool} {X A B : Prop} (w : (if d = true then A else B) → X) (h : if (c && d) = true then A else B) : if c = true then X else if false = true then A else B := by
  cases c
  · exact h
  · exact w h
theorem filter_next {α : Type} {f : α → Bool} {l : List α} {i : Nat} {q : α} (h : l[i]? = some q) : (l.take (i + 1)).filter f = (l.take i).filter f ++ if f q = true then [q] else [] := by
  rw [take_next h, List.filter_append]
  cases c : f q <;> simp [c]
/-- one old pair more in a list that is being made -/
theorem keep_tup {H2 H3 : Hp} {C T : Addr} {Us : List Addr} {qs : List (V × V)} {q : V × V} (hC : H2 C = none) (s : Same H2 H3) (hu : H3 C = some (.lst (Us.map V.ref))) (tu : Tups H3 Us qs) (hT : H3 T = some (.tup [q.1, q.2])) :
    upd H3 C (.lst (Us.map V.ref ++ [.ref T])) C = some (.lst ((Us ++ [T]).map V.ref)) ∧ Same H2 (upd H3 C (.lst (Us.map V.ref ++ [.ref T]))) ∧ Tups (upd H3 C (.lst (Us.map V.ref ++ [.ref T]))) (Us ++ [T]) (qs ++ [q]) := by
  refine ⟨by rw [upd_same]; simp, fun b o e => ?_, ?_⟩
  · rw [upd_ne (ne_of_none e hC)]
    exact s _ _ e
  · have t3 := tu.upd (a := C) (o := .lst (Us.map V.ref ++ [V.ref T])) fun x y e => by
      rw [hu] at e
      cases e
    exact t3.snoc (by rw [upd_ne (ne_of hu hT (fun z => nomatch z)).symm]; exact hT)
def farF (x : Str) (q : Pr) : Bool := !inV (.str x) [.str q.1, .str q.2]
theorem farF_iff {x : Str} {q : Pr} : farF x q = true ↔ ¬ (x = q.1 ∨ x = q.2) := by
  unfold farF
  have h := in_strs x [q.1, q.2]
  rw [show inV (.str x) [.str q.1, .str q.2] = decide (x ∈ [q.1, q.2]) from h]
  simp
theorem prsS_nd {xs : List Str} (a : Asc xs) : (prsS xs).Nodup := List.Pairwise.imp (fun {p q} (h : LtP p q) (e : p = q) => LtP.irr q (by rw [e] at h; exact h)) (prsS_asc a)
def sideF (bs : List Str) (q : Pr) : Bool := decide (V.bl (inV (.str q.1) (bs.map V.str)) = V.bl (inV (.str q.2) (bs.map V.str)))
theorem sh_of {n : Nat} (h : n < 10) : okI n (shPath n) = true ∧ (n < 3 ∨ okI n (shRing n) = true) ∧ okI n (shStar (n - 1)) = true ∧ okI n (shTwos n ++ shStar (n - 1)) = true ∧ okI n (shStar (min 1 (n - 1))) = true := by
  have h := List.all_eq_true.mp sh_ok n (List.mem_range.mpr h)
  simp only [Bool.and_eq_true, Bool.or_eq_true, decide_eq_true_eq] at h
  exact ⟨h.1.1.1.1, h.1.1.1.2, h.1.1.2, h.1.2, h.2⟩
abbrev nSh : List Str := ["_law_purse_here", "_law_crowd", "_law_way", "_law_mixed_here", "_law_pairs_here", "_law_at", "_law_late", "_law_pair_here", "_law_near", "_law_part"]
section
variable {P : Program} {w : World} {K : PySem.W.Frag} {mg : Str → Option Value} {base : Heap}
set_option maxHeartbeats 1000000 in
theorem ok_shaped {f : Addr} {fd : FuncData} (F : Fun K "_law_shaped" "_law_shaped" s_shaped f fd) (T : Bt mg) (CD : Has P w K mg base 2 "_law_draw" ["_law_purse_here", "_law_many"] spDraw)
    (CP : Has P w K mg base 1 "_law_pairs" ["_law_crowd"] spPairs) (CR : Has P w K mg base 1 "_law_pair" ["_law_first", "_law_second"] spPair) (CS : Has P w K mg base 3 "_law_shuffled" ["_law_purse_here", "_law_some"] spShuffled) :
    FnOk P w K mg base CX0 4 f fd ["_law_purse_here", "_law_crowd"] (spMade 110) := by
  obtain ⟨fD, fdD, GD, mD, kD, bD⟩ := CD
  obtain ⟨fP, fdP, GP, mP, kP, bP⟩ := CP
  obtain ⟨fR, fdR, GR, mR, kR, bR⟩ := CR
  obtain ⟨fS, fdS, GS, mS, kS, bS⟩ := CS
  refine F.ok c_shaped (fun vs H Q E h => ?_) (fun cdv A outer s H vs Q E hr h => ?_)
  · obtain ⟨_, _, _, _, _, rfl, _⟩ := h
    rfl
  · obtain ⟨p, c, xs, c0, n, rfl, pa, hc, g, k⟩ := h
    have hr1 : Room 1 _ := hr.mono (by decide)
    have hr2 : Room 2 _ := hr.mono (by decide)
    have hr3 : Room 3 _ := hr.mono (by decide)
    refine ⟨_, pss_cons (ps_asg (pe_tup (pa_cons (pe_call GD hr2 rfl mD kD bD .nil pass0 (pa_cons (pv 0) (pa_cons pe_int pa_nil))) (pa_cons (pe_call GS hr3 rfl mS kS bS .nil pass0 (pa_cons (pv 0) (pa_cons (pv 1) pa_nil))) pa_nil)))
        (pg_tup rfl (pgs_cons (pg_name (i := 2) c_shaped.nd rfl (Or.inl rfl)) (pgs_cons (pg_name (i := 3) c_shaped.nd rfl (Or.inr rfl)) pgs_nil))))
      (pss_cons (ps_set (i := 4) c_shaped.nd rfl (Or.inl rfl) (pe_call GP hr1 rfl mP kP bP .nil pass0 (pa_cons (pv 1) pa_nil)))
      (pss_cons (ps_if (pt_cmpR op_eq (pv 2) pe_int (nomark _)) (pss_one (ps_ret (pe_lst (pa_cons (pv 1) (pa_cons (pe_lst pa_nil) pa_nil))))) pss_nil)
      (pss_cons (ps_if (pt_cmpR op_eq (pv 2) pe_int (nomark _)) (pss_one (ps_ret (pe_lst (pa_cons (pv 1) (pa_cons (pv 4) pa_nil))))) pss_nil)
      (pss_cons (ps_if (pt_cmpR op_eq (pv 2) pe_int (nomark _)) (pss_one (ps_ret (pe_lst (pa_cons (pv 1) (pa_cons (pe_callB (Kx.cr_sortedD hr.units) (by rfl) T.sorted (by decide +kernel) (pa_cons (pe_lc (own := [("_law_at", 5)]) (g := gName 5) (tt := tYes) rfl c_shaped.nd (pi_range1 rfl T.range (pa_cons (pe_op op_sub (pe_callB call_len_seq (by rfl) T.len PySem.boot_len (pa_cons (pv 3) pa_nil)) pe_int) pa_nil))
          (blkOk_by (N := nSh) (sc := defScope s_shaped) (by decide +kernel)) (fun _ _ _ _ _ => pg_name (i := 5) c_shaped.nd rfl (Or.inl rfl)) (fun _ _ _ _ _ => pts_nil)
          (fun _ _ _ _ _ => (pe_call GR hr1 rfl mR kR bR .nil pass0 (pa_cons (pe_ix (r := rIxL K) ix_list (pv 3) (pv 5) (fun _ _ => rfl)) (pa_cons (pe_ix (r := rIxL K) ix_list (pv 3) (pe_op op_add (pv 5) pe_int) (fun _ _ => rfl)) pa_nil))))) pa_nil)) pa_nil))))) pss_nil)
      (pss_cons (ps_if (PW.pt (pw_and (pt_cmpR op_eq (pv 2) pe_int (nomark _)) (pw_and1 (pt_cmpR op_gt (pe_callB call_len_seq (by rfl) T.len PySem.boot_len (pa_cons (pv 1) pa_nil)) pe_int (nomark _))))) (pss_one (ps_ret (pe_lst (pa_cons (pv 1) (pa_cons (pe_callB (Kx.cr_sortedD hr.units) (by rfl) T.sorted (by decide +kernel) (pa_cons (pe_lc (own := [("_law_at", 5)]) (g := gName 5) (tt := tYes) rfl c_shaped.nd (pi_range1 rfl T.range (pa_cons (pe_callB call_len_seq (by rfl) T.len PySem.boot_len (pa_cons (pv 3) pa_nil)) pa_nil))
          (blkOk_by (N := nSh) (sc := defScope s_shaped) (by decide +kernel)) (fun _ _ _ _ _ => pg_name (i := 5) c_shaped.nd rfl (Or.inl rfl)) (fun _ _ _ _ _ => pts_nil)
          (fun _ _ _ _ _ => (pe_call GR hr1 rfl mR kR bR .nil pass0 (pa_cons (pe_ix (r := rIxL K) ix_list (pv 3) (pe_op op_sub (pv 5) pe_int) (fun _ _ => rfl)) (pa_cons (pe_ix (r := rIxL K) ix_list (pv 3) (pv 5) (fun _ _ => rfl)) pa_nil))))) pa_nil)) pa_nil))))) pss_nil)
      (pss_cons (ps_if (pt_cmpR op_eq (pv 2) pe_int (nomark _)) (pss_one (ps_ret (pe_lst (pa_cons (pv 1) (pa_cons (pe_callB (Kx.cr_sortedD hr.units) (by rfl) T.sorted (by decide +kernel) (pa_cons (pe_lc (own := [("_law_late", 6)]) (g := gName 6) (tt := tYes) rfl c_shaped.nd (pi_list (pe_slice sl_list (pv 3) (po_some pe_int) po_none))
          (blkOk_by (N := nSh) (sc := defScope s_shaped) (by decide +kernel)) (fun _ _ _ _ _ => pg_name (i := 6) c_shaped.nd rfl (Or.inl rfl)) (fun _ _ _ _ _ => pts_nil)
          (fun _ _ _ _ _ => (pe_call GR hr1 rfl mR kR bR .nil pass0 (pa_cons (pe_ix (r := rIxL K) ix_list (pv 3) pe_int (fun _ _ => rfl)) (pa_cons (pv 6) pa_nil))))) pa_nil)) pa_nil))))) pss_nil)
      (pss_cons (ps_if (pt_cmpR op_eq (pv 2) pe_int (nomark _)) (pss_cons (ps_setLc (i := 8) (own := [("_law_pair_here", 7)]) (g := gName 7) rfl c_shaped.nd rfl rfl (sw_true rfl rfl rfl (by decide +kernel)) (pi_list (pv 4))
          (blkOk_by (N := nSh) (sc := defScope s_shaped) (by decide +kernel)) (fun _ _ _ _ _ => pg_name (i := 7) c_shaped.nd rfl (Or.inl rfl)) (fun _ _ _ _ _ => pts_one (pt_cmpR (r := rIn K true) op_notIn_seq (pe_ix (r := rIxL K) ix_list (pv 3) pe_int (fun _ _ => rfl)) (pv 7) rfl))
          (fun _ _ _ _ _ => pv 7)) (pss_one (ps_ret (pe_lst (pa_cons (pv 1) (pa_cons (pe_callB (Kx.cr_sortedD hr.units) (by rfl) T.sorted (by decide +kernel) (pa_cons (pe_op op_cat (pv 8) (pe_lc (own := [("_law_late", 6)]) (g := gName 6) (tt := tYes) rfl c_shaped.nd (pi_list (pe_slice sl_list (pv 3) (po_some pe_int) (po_some (pe_op op_add pe_int (pe_call GD hr2 rfl mD kD bD .nil pass0 (pa_cons (pv 0) (pa_cons pe_int pa_nil)))))))
          (blkOk_by (N := nSh) (sc := defScope s_shaped) (by decide +kernel)) (fun _ _ _ _ _ => pg_name (i := 6) c_shaped.nd rfl (Or.inl rfl)) (fun _ _ _ _ _ => pts_nil)
          (fun _ _ _ _ _ => (pe_call GR hr1 rfl mR kR bR .nil pass0 (pa_cons (pe_ix (r := rIxL K) ix_list (pv 3) pe_int (fun _ _ => rfl)) (pa_cons (pv 6) pa_nil)))))) pa_nil)) pa_nil)))))) pss_nil)
      (pss_cons (ps_if (pt_cmpR op_eq (pv 2) pe_int (nomark _)) (pss_cons (ps_setLc (i := 8) (own := [("_law_at", 5)]) (g := gName 5) (tt := tYes) rfl c_shaped.nd rfl rfl (sw_true rfl rfl rfl (by decide +kernel)) (pi_range3 rfl T.range (pa_cons pe_int (pa_cons (pe_op op_sub (pe_callB call_len_seq (by rfl) T.len PySem.boot_len (pa_cons (pv 3) pa_nil)) pe_int) (pa_cons pe_int pa_nil))))
          (blkOk_by (N := nSh) (sc := defScope s_shaped) (by decide +kernel)) (fun _ _ _ _ _ => pg_name (i := 5) c_shaped.nd rfl (Or.inl rfl)) (fun _ _ _ _ _ => pts_nil)
          (fun _ _ _ _ _ => (pe_call GR hr1 rfl mR kR bR .nil pass0 (pa_cons (pe_ix (r := rIxL K) ix_list (pv 3) (pv 5) (fun _ _ => rfl)) (pa_cons (pe_ix (r := rIxL K) ix_list (pv 3) (pe_op op_add (pv 5) pe_int) (fun _ _ => rfl)) pa_nil))))) (pss_one (ps_ret (pe_lst (pa_cons (pv 1) (pa_cons (pe_callB (Kx.cr_sortedD hr.units) (by rfl) T.sorted (by decide +kernel) (pa_cons (pe_op op_cat (pv 8) (pe_lc (own := [("_law_late", 6)]) (g := gName 6) (tt := tYes) rfl c_shaped.nd (pi_list (pe_slice sl_list (pv 3) (po_some pe_int) po_none))
          (blkOk_by (N := nSh) (sc := defScope s_shaped) (by decide +kernel)) (fun _ _ _ _ _ => pg_name (i := 6) c_shaped.nd rfl (Or.inl rfl)) (fun _ _ _ _ _ => pts_nil)
          (fun _ _ _ _ _ => (pe_call GR hr1 rfl mR kR bR .nil pass0 (pa_cons (pe_ix (r := rIxL K) ix_list (pv 3) pe_int (fun _ _ => rfl)) (pa_cons (pv 6) pa_nil)))))) pa_nil)) pa_nil)))))) pss_nil)
      (pss_cons (ps_set (i := 9) c_shaped.nd rfl (Or.inr rfl) (pe_slice sl_list (pv 3) po_none (po_some (pe_op op_add pe_int (pe_call GD hr2 rfl mD kD bD .nil pass0 (pa_cons (pv 0) (pa_cons (pe_callB call_len_seq (by rfl) T.len PySem.boot_len (pa_cons (pv 3) pa_nil)) pa_nil)))))))
      (pss_one (ps_ret (pe_lst (pa_cons (pv 1) (pa_cons (pe_lc (own := [("_law_pair_here", 7)]) (g := gName 7) rfl c_shaped.nd (pi_list (pv 4))
          (blkOk_by (N := nSh) (sc := defScope s_shaped) (by decide +kernel)) (fun _ _ _ _ _ => pg_name (i := 7) c_shaped.nd rfl (Or.inl rfl)) (fun _ _ _ _ _ => pts_one (pt_cmpR op_eq (pe_cmpR (r := rIn K false) op_in_seq (pe_ix (r := rIxT K) ix_tup (pv 7) pe_int (fun _ _ => rfl)) (pv 9) rfl) (pe_cmpR (r := rIn K false) op_in_seq (pe_ix (r := rIxT K) ix_tup (pv 7) pe_int (fun _ _ => rfl)) (pv 9) rfl) (nomark _)))
          (fun _ _ _ _ _ => pv 7)) pa_nil)))))))))))))), ?_⟩
    have lx := g.few
    have ncp : c ≠ p := purse_ne pa hc fun b' c' t' z' e => by
      have l := congrArg (fun o : HO => match o with | .lst (.int i :: _) => true | _ => false) e
      cases xs with
      | nil => simp at l
      | cons x r => simp at l
    refine ⟨_, rfl, p, _, c0, n + 109, rfl, pa, by decide, by decide, fun H1 r r0 r1 sx1 pa1 => ?_⟩
    have hc1 := sx1 _ _ ncp hc
    have lxs : (xs.map V.str).length = xs.length := List.length_map _
    refine ⟨_, rfl, _, rfl, p, c, _, c0, n + 100, rfl, pa1.less (by omega), hc1, ncp, by omega, fun H2 S ys pm sx2 nS hS nSp pa2 => ?_⟩
    have hc2 := sx2 _ _ ncp hc1
    refine ⟨by show 2 ≤ sizeLine; decide, fun T0 hT0 => ⟨T0, _, rfl, SqT.of upd_same, rfl, _, _, rfl, _, _, rfl, rfl, ?_⟩⟩
    refine ⟨_, rfl, c, xs.map V.str, rfl, by rw [upd_ne (ne_of_none hc2 hT0)]; exact hc2, by rw [lxs]; omega, fun H4 D s4 nD ⟨Ts, hd, tu⟩ => ?_⟩
    have pa4 : PurseAt H4 p c0 (n + 100) := (pa2.upd (purse_none pa2 hT0)).same s4
    have sx4 : SameX p H H4 := ((sx1.trans sx2).updN ((sx1.trans sx2).none hT0 (purse_none pa2 hT0))).trans (SameX.of s4)
    have hc4 := sx4 _ _ ncp hc
    have nT0 := purse_none pa2 hT0
    have hS4 : H4 S = some (.lst ys) := s4 _ _ (by rw [upd_ne (ne_of_none hS hT0)]; exact hS)
    obtain ⟨ms, rfl, pmm⟩ : ∃ ms : List Str, ys = ms.map V.str ∧ ms.Perm xs := perm_strs pm
    have lms : ms.length = xs.length := pmm.length_eq
    have ndm : ms.Nodup := pmm.nodup_iff.mpr g.asc.nd
    have fin : ∀ (H5 : Hp) (L Z : Addr) (Us : List Addr) (qs : List Pr), SameX p H H5 → H5 L = some (.lst (Us.map V.ref)) → Tups H5 Us (qs.map tv) → H5 Z = none → qs.Sublist (prsS xs) → PurseAt H5 p c0 n → Q (.ref Z) (upd H5 Z (.lst [.ref c, .ref L])) := fun H5 L Z Us qs sx5 hL tL hZ sb pa5 => by
      have nZ := purse_none pa5 hZ
      have hc5 := sx5 _ _ ncp hc
      exact k _ Z qs sb (sx5.updN (sx5.none hZ nZ)) (sx5.none hZ nZ) ⟨c, L, upd_same, by rw [upd_ne (ne_of_none hc5 hZ)]; exact hc5, Us, by rw [upd_ne (ne_of_none hL hZ)]; exact hL, tL.keep fun T o _ e => by rw [upd_ne (ne_of_none e hZ)]; exact e⟩ nZ (pa5.upd nZ)
    have endS : ∀ (H5 : Hp) (C : Addr) (Us : List Addr) (ps : List Pr), SameX p H H5 → H5 C = some (.lst (Us.map V.ref)) → Tups H5 Us (ps.map tv) → ps.Nodup → (∀ q ∈ ps, q ∈ prsS xs) → PurseAt H5 p c0 n →
        Kx.rSortedD K [.ref C] H5 fun x H1 => [V.ref c, x].length ≤ sizeLine ∧ ∀ Z : Addr, H1 Z = none → Q (.ref Z) (upd H1 Z (.lst [.ref c, x])) := fun H5 C Us ps sx5 hu tu5 nd mm pa5 => by
      refine sorted_prs hu tu5 nd fun D2 Us2 qs hD2 asc mq tu6 _ => ⟨by show 2 ≤ sizeLine; decide, fun Z hZ => ?_⟩
      have nD2 := purse_none pa5 hD2
      exact fin _ D2 Z Us2 qs (sx5.updN (sx5.none hD2 nD2)) upd_same (tu6.keep fun T o _ e => by rw [upd_ne (ne_of_none e hD2)]; exact e) hZ (sub_of_asc g.asc asc fun q hq => mm q ((mq q).mp hq)) (pa5.upd nD2)
    have tuS : Tups H4 Ts ((prsS xs).map tv) := by rw [← prs_strs]; exact tu
    have lTs : Ts.length = (prsS xs).length := by rw [tuS.1, List.length_map]
    have l36 := Good.len0 g.few.2
    have sh := sh_of (n := ms.length) (by omega)
    refine ⟨_, rfl, rfl, _, rfl, ?_⟩
    refine ite2 (fun w0 => ?_) (fun w0 => ?_)
    · refine ⟨_, rfl, Nat.zero_le _, fun L hL => ⟨by show 2 ≤ sizeLine; decide, fun Z hZ => ?_⟩⟩
      exact fin _ L Z [] [] (sx4.updN (sx4.none hL (purse_none pa4 hL))) upd_same Tups.nil hZ (List.nil_sublist _) ((pa4.less (by omega)).upd (purse_none pa4 hL))
    refine ⟨_, rfl, rfl, _, rfl, ?_⟩
    refine ite2 (fun w1 => ?_) (fun w1 => ?_)
    · refine ⟨_, rfl, _, rfl, by show 2 ≤ sizeLine; decide, fun Z hZ => ?_⟩
      exact fin _ D Z Ts (prsS xs) sx4 hd (by rw [← prs_strs]; exact tu) hZ (List.Sublist.refl _) (pa4.less (by omega))
    refine ⟨_, rfl, rfl, _, rfl, ?_⟩
    refine ite2 (fun w2 => ?_) (fun w2 => ?_)
    · refine ⟨_, rfl, ?_⟩
      refine ⟨_, rfl, S, ms.map V.str, rfl, .inl (SqL.of hS4), _, _, rfl, rfl, _, rfl, by rw [List.length_map]; omega, by rw [List.length_map]; omega, fun C hC => ?_⟩
      have nC := purse_none pa4 hC
      refine lc_range (lo := 0) (n := (((ms.map V.str).length : Int) - 1).toNat) (fun i H5 => ∃ Us : List Addr, H5 C = some (.lst (Us.map V.ref)) ∧ Same H4 H5 ∧ Tups H5 Us ((IP ms ((shPath ms.length).take i)).map tv))
        ⟨[], upd_same, same_new hC, Tups.nil⟩ ?_ ?_
      · rintro i H5 hi ⟨Us, hu, s5, tu5⟩
        rw [List.length_map] at hi
        have hS5 := s5 _ _ hS4
        have e : (shPath ms.length)[i]? = some (i, i + 1) := by
          unfold shPath
          rw [List.getElem?_map, List.getElem?_range (by omega)]
          rfl
        have lU : Us.length ≤ 9 := by
          rw [tu5.1, List.length_map]
          unfold IP
          rw [List.length_map, List.length_take]
          omega
        refine ⟨rfl, _, rfl, _, rfl, S, _, _, _, rfl, rfl, SqL.of hS5, at_msI (ms := ms) (i := i) (by omega) (by omega), _, rfl, _, rfl, _, _, rfl, rfl, S, _, _, _, rfl, rfl, SqL.of hS5, at_msI (ms := ms) (i := i + 1) (by omega) (by omega), _, _, rfl, fun Z hZ => ?_⟩
        have A := acc_tup (q := tv (mk (ms.getD i Str.empty) (ms.getD (i + 1) Str.empty))) hC s5 hu tu5 hZ
        exact ⟨_, A.1, by rw [List.length_map, sizeLine_eq]; omega, Us ++ [Z], A.2.1, A.2.2.1, by rw [ip_next e]; exact A.2.2.2⟩
      · rintro H5 ⟨Us, hu, s5, tu5⟩
        have et : (shPath ms.length).take (((ms.map V.str).length : Int) - 1).toNat = shPath ms.length := List.take_of_length_le (by
          unfold shPath
          rw [List.length_map, List.length_range, List.length_map]
          omega)
        rw [et] at tu5
        have ok := ip_ok g.asc pmm ndm sh.1
        dsimp only [tNil]
        exact endS H5 C Us _ (sx4.trans (SameX.of s5)) hu tu5 ok.1 ok.2 ((pa4.same s5).less (by omega))
    refine ⟨_, rfl, rfl, _, rfl, ?_⟩
    refine ite_join (fun h => ⟨_, rfl, c, xs.map V.str, rfl, .inl (SqL.of hc4), _, _, rfl, rfl, _, rfl, h⟩) ?_
    refine ite2 (fun w3 => ?_) (fun _ => ?_)
    · refine ⟨_, rfl, ?_⟩
      dsimp only [tC, tNil, tCons, tLst, tVar, tOp, tCB]
      refine ⟨_, rfl, S, ms.map V.str, rfl, .inl (SqL.of hS4), _, rfl, by rw [List.length_map]; omega, by rw [List.length_map]; omega, fun C hC => ?_⟩
      have nC := purse_none pa4 hC
      have big : 3 ≤ ms.length := by
        rw [Bool.and_eq_true, decide_eq_true_eq, decide_eq_true_eq, List.length_map] at w3
        omega
      refine lc_range (lo := 0) (n := ((ms.map V.str).length : Int).toNat) (fun i H5 => ∃ Us : List Addr, H5 C = some (.lst (Us.map V.ref)) ∧ Same H4 H5 ∧ Tups H5 Us ((IP ms ((shRing ms.length).take i)).map tv))
        ⟨[], upd_same, same_new hC, Tups.nil⟩ ?_ ?_
      · rintro i H5 hi ⟨Us, hu, s5, tu5⟩
        rw [List.length_map] at hi
        have hS5 := s5 _ _ hS4
        have e : (shRing ms.length)[i]? = some (if i = 0 then ms.length - 1 else i - 1, i) := by
          unfold shRing
          rw [List.getElem?_map, List.getElem?_range (by omega)]
          rfl
        have lU : Us.length ≤ 9 := by
          rw [tu5.1, List.length_map]
          unfold IP
          rw [List.length_map, List.length_take]
          omega
        refine ⟨rfl, _, rfl, _, rfl, _, _, rfl, rfl, S, _, _, _, rfl, rfl, SqL.of hS5, at_msP (ms := ms) (i := i) (by omega) (by omega), _, rfl, _, rfl, S, _, _, _, rfl, rfl, SqL.of hS5, at_msI (ms := ms) (i := i) (by omega) (by omega), _, _, rfl, fun Z hZ => ?_⟩
        have A := acc_tup (q := tv (mk (ms.getD (if i = 0 then ms.length - 1 else i - 1) Str.empty) (ms.getD i Str.empty))) hC s5 hu tu5 hZ
        exact ⟨_, A.1, by rw [List.length_map, sizeLine_eq]; omega, Us ++ [Z], A.2.1, A.2.2.1, by rw [ip_next e]; exact A.2.2.2⟩
      · rintro H5 ⟨Us, hu, s5, tu5⟩
        have et : (shRing ms.length).take ((ms.map V.str).length : Int).toNat = shRing ms.length := List.take_of_length_le (by
          unfold shRing
          rw [List.length_map, List.length_range, List.length_map]
          omega)
        rw [et] at tu5
        have ok := ip_ok g.asc pmm ndm (sh.2.1.resolve_left (by omega))
        exact endS H5 C Us _ (sx4.trans (SameX.of s5)) hu tu5 ok.1 ok.2 ((pa4.same s5).less (by omega))
    refine ⟨_, rfl, rfl, _, rfl, ?_⟩
    refine ite2 (fun w4 => ?_) (fun _ => ?_)
    · refine ⟨_, rfl, _, rfl, _, rfl, S, ms.map V.str, rfl, SqL.of hS4, fun M hM => ⟨M, rfl, ⟨_, SqL.of upd_same⟩, fun C hC => ?_⟩⟩
      have nM := purse_none pa4 hM
      have pa5 := pa4.upd (o := .lst (cutV (ms.map V.str) (some 1) none)) nM
      have nC := purse_none pa5 hC
      have ec : cutV (ms.map V.str) (some 1) none = (ms.drop 1).map V.str := by
        rw [show (some 1 : Option Int) = some ((1 : Nat) : Int) from rfl, cutV_hi, ← List.map_drop]
      rw [ec] at hC pa5 ⊢
      have s45 : Same H4 (upd H4 M (.lst ((ms.drop 1).map V.str))) := same_new hM
      refine lc_list (xs := (ms.drop 1).map V.str) (fun i H5 => ∃ Us : List Addr, H5 C = some (.lst (Us.map V.ref)) ∧ Same (upd H4 M (.lst ((ms.drop 1).map V.str))) H5 ∧ Tups H5 Us ((IP ms ((shStar (ms.length - 1)).take i)).map tv))
        ⟨[], upd_same, same_new hC, Tups.nil⟩ (fun i H5 _ ⟨Us, _, s5, _⟩ => SqL.of (s5 _ _ upd_same)) ?_ ?_
      · rintro i v H5 hv ⟨Us, hu, s5, tu5⟩
        rw [List.getElem?_map, List.getElem?_drop] at hv
        obtain ⟨t, ht, rfl⟩ := Option.map_eq_some_iff.mp hv
        have hi := (List.getElem?_eq_some_iff.mp ht).1
        have et : ms.getD (i + 1) Str.empty = t := by
          rw [List.getD_eq_getElem?_getD, Nat.add_comm i 1, ht]
          rfl
        have hS5 := s5 _ _ (s45 _ _ hS4)
        have e : (shStar (ms.length - 1))[i]? = some (0, i + 1) := by
          unfold shStar
          rw [List.getElem?_map, List.getElem?_range (by omega)]
          rfl
        have lU : Us.length ≤ 9 := by
          rw [tu5.1, List.length_map]
          unfold IP
          rw [List.length_map, List.length_take]
          omega
        refine ⟨rfl, _, rfl, S, _, _, _, rfl, rfl, SqL.of hS5, at_msI (ms := ms) (i := 0) (by omega) (by omega), _, rfl, _, _, rfl, fun Z hZ => ?_⟩
        have A := acc_tup (q := tv (mk (ms.getD 0 Str.empty) (ms.getD (i + 1) Str.empty))) hC s5 hu tu5 hZ
        rw [et] at A
        exact ⟨_, A.1, by rw [List.length_map, sizeLine_eq]; omega, Us ++ [Z], A.2.1, A.2.2.1, by rw [ip_next e, et]; exact A.2.2.2⟩
      · rintro H5 ⟨Us, hu, s5, tu5⟩
        have et : (shStar (ms.length - 1)).take ((ms.drop 1).map V.str).length = shStar (ms.length - 1) := List.take_of_length_le (by
          unfold shStar
          rw [List.length_map, List.length_range, List.length_map, List.length_drop]
          exact Nat.le_refl _)
        rw [et] at tu5
        have ok := ip_ok g.asc pmm ndm sh.2.2.1
        dsimp only [tNil]
        exact endS H5 C Us _ (sx4.trans (SameX.of fun b o e => s5 _ _ (s45 _ _ e))) hu tu5 ok.1 ok.2 ((pa5.same s5).less (by omega))
    refine ⟨_, rfl, rfl, _, rfl, ?_⟩
    refine ite2 (fun w5 => ?_) (fun _ => ?_)
    · refine ⟨_, rfl, D, rfl, ⟨_, SqL.of hd⟩, fun N hN => ?_⟩
      have nN := purse_none pa4 hN
      refine lc_list (xs := Ts.map V.ref) (fun i H5 => ∃ Us : List Addr, H5 N = some (.lst (Us.map V.ref)) ∧ Same H4 H5 ∧ Tups H5 Us ((((prsS xs).take i).filter (farF (ms.getD 0 Str.empty))).map tv))
        ⟨[], upd_same, same_new hN, Tups.nil⟩ (fun i H5 _ ⟨Us, _, s5, _⟩ => SqL.of (s5 _ _ hd)) ?_ ?_
      · rintro i v H5 hv ⟨Us, hu, s5, tu5⟩
        rw [List.getElem?_map] at hv
        obtain ⟨T1, hT, rfl⟩ := Option.map_eq_some_iff.mp hv
        have jl := (List.getElem?_eq_some_iff.mp hT).1
        obtain ⟨q, hq⟩ : ∃ q, (prsS xs)[i]? = some q := ⟨_, List.getElem?_eq_getElem (by rw [← lTs]; exact jl)⟩
        have e5 := s5 _ _ (tuS.2 i T1 (tv q) hT (by rw [List.getElem?_map, hq]; rfl))
        have lU : Us.length ≤ 36 := by
          rw [tu5.1, List.length_map]
          have h1 := List.length_filter_le (farF (ms.getD 0 Str.empty)) ((prsS xs).take i)
          rw [List.length_take] at h1
          omega
        refine ⟨rfl, _, rfl, S, _, _, _, rfl, rfl, SqL.of (s5 _ _ hS4), at_msI (ms := ms) (i := 0) (by omega) (by omega), _, rfl, T1, _, rfl, .inr (SqT.of e5), rfl, rfl, _, rfl, ?_⟩
        rw [filter_next hq]
        refine ite2 (fun hb => ?_) (fun hb => ?_)
        · have hb : farF (ms.getD 0 Str.empty) q = true := hb
          have A := keep_tup hN s5 hu tu5 e5
          exact ⟨_, rfl, _, hu, by rw [List.length_map, sizeLine_eq]; omega, Us ++ [T1], A.1, A.2.1, by rw [if_pos hb, List.map_append]; exact A.2.2⟩
        · have hb : ¬ farF (ms.getD 0 Str.empty) q = true := hb
          exact ⟨Us, hu, s5, by rw [if_neg hb, List.append_nil]; exact tu5⟩
      rintro H5 ⟨UN, hu, s5, tu5⟩
      rw [List.length_map, lTs, List.take_length] at tu5
      have sx5 : SameX p H H5 := sx4.trans (SameX.of s5)
      have pa5 := pa4.same s5
      have hS5 := s5 _ _ hS4
      refine ⟨_, rfl, _, rfl, _, rfl, _, rfl, _, rfl, p, _, c0, n + 99, rfl, pa5, by decide, by decide, fun H6 u u0 u1 sx6 pa6 => ?_⟩
      have hS6 := sx6 _ _ nSp hS5
      have hu6 := sx6 _ _ nN hu
      have tu6 : Tups H6 UN (((prsS xs).filter (farF (ms.getD 0 Str.empty))).map tv) := tu5.keep fun T o hT' e => by
        obtain ⟨y, _, ey⟩ := tu5.at hT'
        exact sx6 _ _ (purse_ne pa5 ey fun _ _ _ _ z => nomatch z) e
      obtain ⟨m, rfl, m1⟩ : ∃ m : Nat, u = (m : Int) ∧ m ≤ 1 := ⟨u.toNat, by omega, by omega⟩
      refine ⟨_, _, rfl, rfl, _, rfl, S, ms.map V.str, rfl, SqL.of hS6, fun M hM => ⟨M, rfl, ⟨_, SqL.of upd_same⟩, fun C hC => ?_⟩⟩
      have sxH6 : SameX p H H6 := sx5.trans sx6
      have ec : cutV (ms.map V.str) (some 1) (some (1 + (m : Int))) = ((ms.drop 1).take (min m (ms.length - 1))).map V.str := by
        unfold cutV
        rw [show (some 1 : Option Int) = some ((1 : Nat) : Int) from rfl, show (1 + (m : Int)) = ((1 + m : Nat) : Int) by omega, sIx_n, sIx_n, List.length_map, show min 1 ms.length = 1 by omega, show min (1 + m) ms.length - 1 = min m (ms.length - 1) by omega, ← List.map_drop, ← List.map_take]
      have nM := purse_none pa6 hM
      rw [ec] at hC ⊢
      have pa6m := pa6.upd (o := .lst (((ms.drop 1).take (min m (ms.length - 1))).map V.str)) nM
      have nC := purse_none pa6m hC
      have s6m : Same H6 (upd H6 M (.lst (((ms.drop 1).take (min m (ms.length - 1))).map V.str))) := same_new hM
      refine lc_list (xs := ((ms.drop 1).take (min m (ms.length - 1))).map V.str) (fun i H7 => ∃ Us : List Addr, H7 C = some (.lst (Us.map V.ref)) ∧ Same (upd H6 M (.lst (((ms.drop 1).take (min m (ms.length - 1))).map V.str))) H7 ∧ Tups H7 Us ((IP ms ((shStar (min m (ms.length - 1))).take i)).map tv))
        ⟨[], upd_same, same_new hC, Tups.nil⟩ (fun i H7 _ ⟨Us, _, s7, _⟩ => SqL.of (s7 _ _ upd_same)) ?_ ?_
      · rintro i v H7 hv ⟨Us, hu7, s7, tu7⟩
        rw [List.getElem?_map] at hv
        obtain ⟨t, ht, rfl⟩ := Option.map_eq_some_iff.mp hv
        have hi := (List.getElem?_eq_some_iff.mp ht).1
        rw [List.length_take, List.length_drop] at hi
        rw [List.getElem?_take_of_lt (by omega), List.getElem?_drop] at ht
        have et : ms.getD (i + 1) Str.empty = t := by
          rw [List.getD_eq_getElem?_getD, Nat.add_comm i 1, ht]
          rfl
        have e : (shStar (min m (ms.length - 1)))[i]? = some (0, i + 1) := by
          unfold shStar
          rw [List.getElem?_map, List.getElem?_range (by omega)]
          rfl
        have lU : Us.length ≤ 9 := by
          rw [tu7.1, List.length_map]
          unfold IP
          rw [List.length_map, List.length_take]
          omega
        refine ⟨rfl, _, rfl, S, _, _, _, rfl, rfl, SqL.of (s7 _ _ (s6m _ _ hS6)), at_msI (ms := ms) (i := 0) (by omega) (by omega), _, rfl, _, _, rfl, fun Z hZ => ?_⟩
        have A := acc_tup (q := tv (mk (ms.getD 0 Str.empty) (ms.getD (i + 1) Str.empty))) hC s7 hu7 tu7 hZ
        rw [et] at A
        exact ⟨_, A.1, by rw [List.length_map, sizeLine_eq]; omega, Us ++ [Z], A.2.1, A.2.2.1, by rw [ip_next e, et]; exact A.2.2.2⟩
      rintro H7 ⟨Us, hu7, s7, tu7⟩
      have et : (shStar (min m (ms.length - 1))).take (((ms.drop 1).take (min m (ms.length - 1))).map V.str).length = shStar (min m (ms.length - 1)) := List.take_of_length_le (by
        unfold shStar
        rw [List.length_map, List.length_range, List.length_map, List.length_take, List.length_drop]
        omega)
      rw [et] at tu7
      have s67 : Same H6 H7 := fun b o e => s7 _ _ (s6m _ _ e)
      have okS : okI ms.length (shStar (min m (ms.length - 1))) = true := by
        rcases (by omega : m = 0 ∨ m = 1) with e | e <;> subst e
        · rw [Nat.zero_min]
          rfl
        · exact sh.2.2.2.2
      have ok := ip_ok g.asc pmm ndm okS
      have tuN := tu6.same s67
      have lN : UN.length ≤ 36 := by
        rw [tuN.1, List.length_map]
        exact Nat.le_trans (List.length_filter_le _ _) l36
      have lU : Us.length ≤ 9 := by
        rw [tu7.1, List.length_map]
        unfold IP shStar
        rw [List.length_map, List.length_map, List.length_range]
        omega
      refine ⟨N, C, _, _, rfl, rfl, s67 _ _ hu6, hu7, by rw [List.length_map, List.length_map, sizeLine_eq]; omega, fun B hB => ?_⟩
      dsimp only [tNil]
      have pa7 := pa6.same s67
      have nB := purse_none pa7 hB
      have sx7 := sxH6.trans (SameX.of s67)
      refine endS _ B (UN ++ Us) ((prsS xs).filter (farF (ms.getD 0 Str.empty)) ++ IP ms (shStar (min m (ms.length - 1)))) (sx7.updN (sx7.none hB nB)) (by rw [upd_same, List.map_append]) (by rw [List.map_append]; exact (tuN.append tu7).keep fun T o _ e => by rw [upd_ne (ne_of_none e hB)]; exact e)
        (List.pairwise_append.mpr ⟨List.Pairwise.sublist List.filter_sublist (prsS_nd g.asc), ok.1, fun a ha b hb e => ?_⟩) (fun q hq => ?_) ((pa7.upd nB).less (by omega))
      · have h1 := farF_iff.mp (List.mem_filter.mp ha).2
        unfold IP shStar at hb
        rw [List.map_map] at hb
        obtain ⟨j, _, rfl⟩ := List.mem_map.mp hb
        rw [e] at h1
        exact h1 (has_mk _ _)
      · rcases List.mem_append.mp hq with h | h
        · exact (List.mem_filter.mp h).1
        · exact ok.2 q h
    refine ⟨_, rfl, rfl, _, rfl, ?_⟩
    refine ite2 (fun w6 => ?_) (fun _ => ?_)
    · have tw := List.all_eq_true.mp twos_n ms.length (List.mem_range.mpr (by omega))
      rw [Bool.or_eq_true, Bool.and_eq_true, decide_eq_true_eq, decide_eq_true_eq] at tw
      have tw := tw.resolve_left (by omega)
      refine ⟨_, rfl, S, ms.map V.str, rfl, .inl (SqL.of hS4), _, _, rfl, rfl, 1, ((ms.map V.str).length : Int) - 1, 2, (ms.length - 1) / 2, rfl, ⟨by decide, by decide, by rw [List.length_map]; exact tw.1, by rw [List.length_map]; exact tw.2⟩, fun N hN => ?_⟩
      have nN := purse_none pa4 hN
      refine lc_it walk_rangeC (fun i H5 => ∃ Us : List Addr, H5 N = some (.lst (Us.map V.ref)) ∧ Same H4 H5 ∧ Tups H5 Us ((IP ms ((shTwos ms.length).take i)).map tv))
        ⟨[], upd_same, same_new hN, Tups.nil⟩ (fun _ _ _ _ => trivial) ?_ ?_
      · rintro i v H5' H5 hi ⟨Us, hu, s5, tu5⟩ ⟨rfl, rfl⟩
        have hS5 := s5 _ _ hS4
        have e : (shTwos ms.length)[i]? = some (1 + 2 * i, 2 + 2 * i) := by
          unfold shTwos
          rw [List.getElem?_map, List.getElem?_range (by omega)]
          rfl
        have lU : Us.length ≤ 9 := by
          rw [tu5.1, List.length_map]
          unfold IP
          rw [List.length_map, List.length_take]
          omega
        refine ⟨rfl, _, rfl, _, rfl, S, _, _, _, rfl, rfl, SqL.of hS5, at_msI (ms := ms) (i := 1 + 2 * i) (by omega) (by omega), _, rfl, _, rfl, _, _, rfl, rfl, S, _, _, _, rfl, rfl, SqL.of hS5, at_msI (ms := ms) (i := 2 + 2 * i) (by omega) (by omega), _, _, rfl, fun Z hZ => ?_⟩
        have A := acc_tup (q := tv (mk (ms.getD (1 + 2 * i) Str.empty) (ms.getD (2 + 2 * i) Str.empty))) hN s5 hu tu5 hZ
        exact ⟨_, A.1, by rw [List.length_map, sizeLine_eq]; omega, Us ++ [Z], A.2.1, A.2.2.1, by rw [ip_next e]; exact A.2.2.2⟩
      rintro H5 ⟨UN, hu, s5, tu5⟩
      have et : (shTwos ms.length).take ((ms.length - 1) / 2) = shTwos ms.length := List.take_of_length_le (by
        unfold shTwos
        rw [List.length_map, List.length_range]
        exact Nat.le_refl _)
      rw [et] at tu5
      have hS5 := s5 _ _ hS4
      have pa5 := pa4.same s5
      refine ⟨_, rfl, _, rfl, _, rfl, _, rfl, S, ms.map V.str, rfl, SqL.of hS5, fun M hM => ⟨M, rfl, ⟨_, SqL.of upd_same⟩, fun C hC => ?_⟩⟩
      have ec : cutV (ms.map V.str) (some 1) none = ((ms.drop 1).take (ms.length - 1)).map V.str := by
        rw [show (some 1 : Option Int) = some ((1 : Nat) : Int) from rfl, cutV_hi, ← List.map_drop, List.take_of_length_le (by rw [List.length_drop]; exact Nat.le_refl _)]
      have nM := purse_none pa5 hM
      rw [ec] at hC ⊢
      have pa5m := pa5.upd (o := .lst (((ms.drop 1).take (ms.length - 1)).map V.str)) nM
      have nC := purse_none pa5m hC
      have s5m : Same H5 (upd H5 M (.lst (((ms.drop 1).take (ms.length - 1)).map V.str))) := same_new hM
      refine lc_list (xs := ((ms.drop 1).take (ms.length - 1)).map V.str) (fun i H7 => ∃ Us : List Addr, H7 C = some (.lst (Us.map V.ref)) ∧ Same (upd H5 M (.lst (((ms.drop 1).take (ms.length - 1)).map V.str))) H7 ∧ Tups H7 Us ((IP ms ((shStar (ms.length - 1)).take i)).map tv))
        ⟨[], upd_same, same_new hC, Tups.nil⟩ (fun i H7 _ ⟨Us, _, s7, _⟩ => SqL.of (s7 _ _ upd_same)) ?_ ?_
      · rintro i v H7 hv ⟨Us, hu7, s7, tu7⟩
        rw [List.getElem?_map] at hv
        obtain ⟨t, ht, rfl⟩ := Option.map_eq_some_iff.mp hv
        have hi := (List.getElem?_eq_some_iff.mp ht).1
        rw [List.length_take, List.length_drop] at hi
        rw [List.getElem?_take_of_lt (by omega), List.getElem?_drop] at ht
        have et : ms.getD (i + 1) Str.empty = t := by
          rw [List.getD_eq_getElem?_getD, Nat.add_comm i 1, ht]
          rfl
        have e : (shStar (ms.length - 1))[i]? = some (0, i + 1) := by
          unfold shStar
          rw [List.getElem?_map, List.getElem?_range (by omega)]
          rfl
        have lU : Us.length ≤ 9 := by
          rw [tu7.1, List.length_map]
          unfold IP
          rw [List.length_map, List.length_take]
          omega
        refine ⟨rfl, _, rfl, S, _, _, _, rfl, rfl, SqL.of (s7 _ _ (s5m _ _ hS5)), at_msI (ms := ms) (i := 0) (by omega) (by omega), _, rfl, _, _, rfl, fun Z hZ => ?_⟩
        have A := acc_tup (q := tv (mk (ms.getD 0 Str.empty) (ms.getD (i + 1) Str.empty))) hC s7 hu7 tu7 hZ
        rw [et] at A
        exact ⟨_, A.1, by rw [List.length_map, sizeLine_eq]; omega, Us ++ [Z], A.2.1, A.2.2.1, by rw [ip_next e, et]; exact A.2.2.2⟩
      rintro H7 ⟨Us, hu7, s7, tu7⟩
      have et : (shStar (ms.length - 1)).take (((ms.drop 1).take (ms.length - 1)).map V.str).length = shStar (ms.length - 1) := List.take_of_length_le (by
        unfold shStar
        rw [List.length_map, List.length_range, List.length_map, List.length_take, List.length_drop]
        omega)
      rw [et] at tu7
      have s57 : Same H5 H7 := fun b o e => s7 _ _ (s5m _ _ e)
      have ok := ip_ok g.asc pmm ndm sh.2.2.2.1
      have tuN := tu5.same s57
      have lN : UN.length ≤ 9 := by
        rw [tuN.1, List.length_map]
        unfold IP shTwos
        rw [List.length_map, List.length_map, List.length_range]
        omega
      have lU : Us.length ≤ 9 := by
        rw [tu7.1, List.length_map]
        unfold IP shStar
        rw [List.length_map, List.length_map, List.length_range]
        omega
      refine ⟨N, C, _, _, rfl, rfl, s57 _ _ hu, hu7, by rw [List.length_map, List.length_map, sizeLine_eq]; omega, fun B hB => ?_⟩
      dsimp only [tNil]
      have pa7 := pa5.same s57
      have nB := purse_none pa7 hB
      have sx7 := (sx4.trans (SameX.of s5)).trans (SameX.of s57)
      have eI : IP ms (shTwos ms.length ++ shStar (ms.length - 1)) = IP ms (shTwos ms.length) ++ IP ms (shStar (ms.length - 1)) := List.map_append
      exact endS _ B (UN ++ Us) (IP ms (shTwos ms.length ++ shStar (ms.length - 1))) (sx7.updN (sx7.none hB nB)) (by rw [upd_same, List.map_append]) (by rw [eI, List.map_append]; exact (tuN.append tu7).keep fun T o _ e => by rw [upd_ne (ne_of_none e hB)]; exact e)
        ok.1 ok.2 ((pa7.upd nB).less (by omega))
    refine ⟨_, rfl, _, rfl, _, rfl, S, ms.map V.str, rfl, .inl (SqL.of hS4), p, _, c0, n + 99, rfl, pa4, by rw [List.length_map]; omega, by rw [List.length_map]; omega, fun H5 u u0 u1 sx5 pa5 => ?_⟩
    rw [List.length_map] at u1
    have hS5 := sx5 _ _ nSp hS4
    refine ⟨_, _, rfl, rfl, _, rfl, S, ms.map V.str, rfl, SqL.of hS5, fun B hB => ?_⟩
    have nB := purse_none pa5 hB
    obtain ⟨bs, eb, lb⟩ : ∃ bs : List Str, cutV (ms.map V.str) none (some (1 + u)) = bs.map V.str ∧ bs.length ≤ 9 := by
      obtain ⟨m, rfl⟩ : ∃ m : Nat, u = (m : Int) := ⟨u.toNat, by omega⟩
      refine ⟨ms.take (1 + m), ?_, ?_⟩
      · rw [show (1 + (m : Int)) = ((1 + m : Nat) : Int) by omega, cutV_lo, ← List.map_take]
      · rw [List.length_take]
        omega
    rw [eb]
    have nDp : D ≠ p := purse_ne pa4 hd fun b' c' t' z' e => by
      have l := congrArg (fun o : HO => match o with | .lst (.int i :: _) => true | _ => false) e
      cases Ts with
      | nil => simp at l
      | cons x r => simp at l
    have hd5 := sx5 _ _ nDp hd
    have tu5 : Tups H5 Ts ((prsS xs).map tv) := tuS.keep fun T o hT' e => by
      obtain ⟨y, _, ey⟩ := tuS.at hT'
      exact sx5 _ _ (purse_ne pa4 ey fun _ _ _ _ z => nomatch z) e
    have hd6 : upd H5 B (.lst (bs.map V.str)) D = some (.lst (Ts.map V.ref)) := by
      rw [upd_ne (ne_of_none hd5 hB)]
      exact hd5
    have tu6 : Tups (upd H5 B (.lst (bs.map V.str))) Ts ((prsS xs).map tv) := tu5.keep fun T o _ e => by
      rw [upd_ne (ne_of_none e hB)]
      exact e
    refine ⟨_, rfl, _, rfl, D, rfl, ⟨_, SqL.of hd6⟩, fun N hN => ?_⟩
    have pa6 := pa5.upd (o := .lst (bs.map V.str)) nB
    have nN := purse_none pa6 hN
    refine lc_list (xs := Ts.map V.ref) (fun i H7 => ∃ Us : List Addr, H7 N = some (.lst (Us.map V.ref)) ∧ Same (upd H5 B (.lst (bs.map V.str))) H7 ∧ Tups H7 Us ((((prsS xs).take i).filter (sideF bs)).map tv))
      ⟨[], upd_same, same_new hN, Tups.nil⟩ (fun i H7 _ ⟨Us, _, s7, _⟩ => SqL.of (s7 _ _ hd6)) ?_ ?_
    · rintro i v H7 hv ⟨Us, hu, s7, tu7⟩
      rw [List.getElem?_map] at hv
      obtain ⟨T1, hT, rfl⟩ := Option.map_eq_some_iff.mp hv
      have jl := (List.getElem?_eq_some_iff.mp hT).1
      obtain ⟨q, hq⟩ : ∃ q, (prsS xs)[i]? = some q := ⟨_, List.getElem?_eq_getElem (by rw [← lTs]; exact jl)⟩
      have e7 := s7 _ _ (tu6.2 i T1 (tv q) hT (by rw [List.getElem?_map, hq]; rfl))
      have hb7 : H7 B = some (.lst (bs.map V.str)) := s7 _ _ upd_same
      have lU : Us.length ≤ 36 := by
        rw [tu7.1, List.length_map]
        have h1 := List.length_filter_le (sideF bs) ((prsS xs).take i)
        rw [List.length_take] at h1
        omega
      refine ⟨rfl, _, rfl, T1, _, _, _, rfl, rfl, SqT.of e7, rfl, _, rfl, B, _, rfl, .inl (SqL.of hb7), rfl, flat_strs' bs, _, rfl, T1, _, _, _, rfl, rfl, SqT.of e7, rfl, _, rfl, B, _, rfl, .inl (SqL.of hb7), rfl, flat_strs' bs, rfl, _, rfl, ?_⟩
      rw [filter_next hq]
      refine ite2 (fun hb => ?_) (fun hb => ?_)
      · have hb : sideF bs q = true := hb
        have A := keep_tup hN s7 hu tu7 e7
        exact ⟨_, rfl, _, hu, by rw [List.length_map, sizeLine_eq]; omega, Us ++ [T1], A.1, A.2.1, by rw [if_pos hb, List.map_append]; exact A.2.2⟩
      · have hb : ¬ sideF bs q = true := hb
        exact ⟨Us, hu, s7, by rw [if_neg hb, List.append_nil]; exact tu7⟩
    rintro H7 ⟨Us, hu, s7, tu7⟩
    rw [List.length_map, lTs, List.take_length] at tu7
    refine ⟨by show 2 ≤ sizeLine; decide, fun Z hZ => ?_⟩
    have sx7 := (sx4.trans (sx5.updN (sx5.none hB nB))).trans (SameX.of s7)
    exact fin H7 N Z Us _ sx7 hu tu7 hZ List.filter_sublist ((pa6.same s7).less (by omega))
end
end Wd
end
section
set_option maxRecDepth 100000
set_option maxHeartbeats 4000000
namespace Wd
open PySem L2
def spWorld : Sp := fun vs H Q _ => ∃ (p : Addr) (many : Nat) (c0 : Int) (n : Nat), vs = [.ref p, .int many] ∧ PurseAt H p c0 (n + 420) ∧ 1 ≤ many ∧ many ≤ 9 ∧
  ∀ (H' : Hp) (D : Addr) (xs : List Str) (qs : List Pr), xs.length = many → Good xs qs → SameX p H H' → H D = none → WAt H' D xs qs → D ≠ p → PurseAt H' p c0 n → Q (.ref D) H'
theorem sameX_lst {H H' : Hp} {p a : Addr} {c : Int} {n : Nat} {xs : List V} (pa : PurseAt H p c n) (s : SameX p H H') (e : H a = some (.lst xs)) (h : ∀ x ∈ xs, ∀ i : Int, x ≠ .int i) : H' a = some (.lst xs) :=
  s _ _ (purse_ne pa e fun b _ _ _ z => by
    have z : xs = _ := HO.lst.inj z
    exact h (.int b) (by rw [z]; exact List.mem_cons_self) b rfl) e
theorem PwAt.sameX {H H' : Hp} {p a : Addr} {c : Int} {n : Nat} {ps : List Pr} (h : PwAt H a ps) (pa : PurseAt H p c n) (s : SameX p H H') : PwAt H' a ps := by
  obtain ⟨Ts, e, t⟩ := h
  refine ⟨Ts, sameX_lst pa s e (fun x hx i z => ?_), t.keep fun T o hT e => ?_⟩
  · obtain ⟨T, _, rfl⟩ := List.mem_map.mp hx
    cases z
  · obtain ⟨y, _, ey⟩ := t.at hT
    exact s _ _ (purse_ne pa ey fun _ _ _ _ z => nomatch z) e
theorem WAt.sameX {H H' : Hp} {p a : Addr} {c : Int} {n : Nat} {xs : List Str} {ps : List Pr} (h : WAt H a xs ps) (pa : PurseAt H p c n) (s : SameX p H H') : WAt H' a xs ps := by
  obtain ⟨c, l, e1, e2, e3⟩ := h
  refine ⟨c, l, sameX_lst pa s e1 (fun x hx i z => ?_), sameX_lst pa s e2 (fun x hx i z => ?_), e3.sameX pa s⟩
  · rw [z] at hx
    simp at hx
  · obtain ⟨T, _, rfl⟩ := List.mem_map.mp hx
    cases z
section
variable {P : Program} {w : World} {K : PySem.W.Frag} {mg : Str → Option Value} {base : Heap}
set_option maxHeartbeats 1000000 in
theorem ok_world {f : Addr} {fd : FuncData} (F : Fun K "_law_world" "_law_world" s_world f fd) (T : Bt mg) (CD : Has P w K mg base 2 "_law_draw" ["_law_purse_here", "_law_many"] spDraw)
    (CP : Has P w K mg base 1 "_law_pairs" ["_law_crowd"] spPairs) (CO : Has P w K mg base 3 "_law_one_of" ["_law_purse_here", "_law_some"] spOneOf) (CE : Has P w K mg base 5 "_law_people" ["_law_purse_here", "_law_many"] spPeople)
    (CL : Has P w K mg base 3 "_law_by_labels" ["_law_purse_here", "_law_crowd"] (spMade 110)) (CI : Has P w K mg base 3 "_law_by_density" ["_law_purse_here", "_law_crowd"] (spMade 110))
    (CS : Has P w K mg base 4 "_law_shaped" ["_law_purse_here", "_law_crowd"] (spMade 110)) (CX : Has P w K mg base 2 "_law_opposite" ["_law_world_here"] spOpp) (CB : Has P w K mg base 1 "_law_deed" ["_law_world_here", "_law_pair_here"] spDeed) :
    FnOk P w K mg base CX0 6 f fd ["_law_purse_here", "_law_many"] spWorld := by
  obtain ⟨fD, fdD, GD, mD, kD, bD⟩ := CD
  obtain ⟨fP, fdP, GP, mP, kP, bP⟩ := CP
  obtain ⟨fO, fdO, GO, mO, kO, bO⟩ := CO
  obtain ⟨fE, fdE, GE, mE, kE, bE⟩ := CE
  obtain ⟨fL, fdL, GL, mL, kL, bL⟩ := CL
  obtain ⟨fI, fdI, GI, mI, kI, bI⟩ := CI
  obtain ⟨fS, fdS, GS, mS, kS, bS⟩ := CS
  obtain ⟨fX, fdX, GX, mX, kX, bX⟩ := CX
  obtain ⟨fB, fdB, GB, mB, kB, bB⟩ := CB
  refine F.ok c_world (fun vs H Q E h => ?_) (fun cdv A outer s H vs Q E hr h => ?_)
  · obtain ⟨_, _, _, _, rfl, _⟩ := h
    rfl
  · obtain ⟨p, many, c0, n, rfl, pa, h1, h9, k⟩ := h
    have hr1 : Room 1 _ := hr.mono (by decide)
    have hr2 : Room 2 _ := hr.mono (by decide)
    have hr3 : Room 3 _ := hr.mono (by decide)
    have hr4 : Room 4 _ := hr.mono (by decide)
    have hr5 : Room 5 _ := hr.mono (by decide)
    refine ⟨_, pss_cons (ps_par (i := 2) (j := 3) rfl c_world.nd rfl rfl (by decide) rfl rfl (pa_cons (pe_call GE hr5 rfl mE kE bE .nil pass0 (pa_cons (pv 0) (pa_cons (pv 1) pa_nil))) (pa_cons (pe_call GD hr2 rfl mD kD bD .nil pass0 (pa_cons (pv 0) (pa_cons pe_int pa_nil))) pa_nil)) (by rfl))
      (pss_cons (ps_if (pt_cmpR op_eq (pv 3) pe_int (nomark _)) (pss_one (ps_ret (pe_call GL hr3 rfl mL kL bL .nil pass0 (pa_cons (pv 0) (pa_cons (pv 2) pa_nil))))) pss_nil)
      (pss_cons (ps_if (pt_cmpR op_eq (pv 3) pe_int (nomark _)) (pss_one (ps_ret (pe_call GX hr2 rfl mX kX bX .nil pass0 (pa_cons (pe_call GL hr3 rfl mL kL bL .nil pass0 (pa_cons (pv 0) (pa_cons (pv 2) pa_nil))) pa_nil)))) pss_nil)
      (pss_cons (ps_if (pt_cmpR op_eq (pv 3) pe_int (nomark _)) (pss_one (ps_ret (pe_call GS hr4 rfl mS kS bS .nil pass0 (pa_cons (pv 0) (pa_cons (pv 2) pa_nil))))) pss_nil)
      (pss_cons (ps_if (pt_cmpR op_eq (pv 3) pe_int (nomark _)) (pss_cons (ps_set (i := 4) c_world.nd rfl (Or.inl rfl) (pe_call GS hr4 rfl mS kS bS .nil pass0 (pa_cons (pv 0) (pa_cons (pv 2) pa_nil))))
        (pss_one (ps_ret (pe_ifExp (pt_cmpR op_gt (pv 1) pe_int (nomark _)) (pe_call GB hr1 rfl mB kB bB .nil pass0 (pa_cons (pv 4) (pa_cons (pe_call GO hr3 rfl mO kO bO .nil pass0 (pa_cons (pv 0) (pa_cons (pe_call GP hr1 rfl mP kP bP .nil pass0 (pa_cons (pv 2) pa_nil)) pa_nil))) pa_nil))) (pv 4))))) pss_nil)
      (pss_one (ps_ret (pe_call GI hr3 rfl mI kI bI .nil pass0 (pa_cons (pv 0) (pa_cons (pv 2) pa_nil))))))))), ?_⟩
    refine ⟨_, rfl, _, rfl, p, many, c0, n + 120, rfl, pa, h9, fun H1 c xs lx asc hw sx1 nc hc ncp pa1 => ?_⟩
    refine ⟨_, rfl, p, _, c0, n + 119, rfl, pa1, by decide, by decide, fun H2 r r0 r1 sx2 pa2 => ⟨_, _, rfl, ?_⟩⟩
    have hc2 := sx2 _ _ ncp hc
    have g0 : Good xs [] := ⟨asc, hw, by omega, List.nil_sublist _⟩
    have sxH : SameX p H H2 := sx1.trans sx2
    refine ⟨_, rfl, rfl, _, rfl, ?_⟩
    refine ite2 (fun _ => ?_) (fun _ => ?_)
    · refine ⟨_, rfl, _, rfl, p, c, xs, c0, n + 9, rfl, pa2, hc2, g0, fun H3 D qs sb sx3 nD hD nDp pa3 => ?_⟩
      exact k H3 D xs qs lx ⟨asc, hw, by omega, sb⟩ (sxH.trans sx3) (sxH.none nD nDp) hD nDp (pa3.less (by omega))
    refine ⟨_, rfl, rfl, _, rfl, ?_⟩
    refine ite2 (fun _ => ?_) (fun _ => ?_)
    · refine ⟨_, rfl, _, rfl, p, c, xs, c0, n + 9, rfl, pa2, hc2, g0, fun H3 D qs sb sx3 nD hD nDp pa3 => ?_⟩
      refine ⟨D, xs, qs, rfl, hD, ⟨asc, hw, by omega, sb⟩, fun H4 D2 s4 nD2 hD2 => ?_⟩
      have nD2p := purse_none pa3 nD2
      have sx4 : SameX p H H4 := (sxH.trans sx3).trans (SameX.of s4)
      exact k H4 D2 xs _ lx ⟨asc, hw, by omega, List.filter_sublist⟩ sx4 ((sxH.trans sx3).none nD2 nD2p) hD2 nD2p ((pa3.same s4).less (by omega))
    refine ⟨_, rfl, rfl, _, rfl, ?_⟩
    refine ite2 (fun _ => ?_) (fun _ => ?_)
    · refine ⟨_, rfl, _, rfl, p, c, xs, c0, n + 9, rfl, pa2, hc2, g0, fun H3 D qs sb sx3 nD hD nDp pa3 => ?_⟩
      exact k H3 D xs qs lx ⟨asc, hw, by omega, sb⟩ (sxH.trans sx3) (sxH.none nD nDp) hD nDp (pa3.less (by omega))
    refine ⟨_, rfl, rfl, _, rfl, ?_⟩
    refine ite2 (fun _ => ?_) (fun _ => ?_)
    · refine ⟨_, rfl, _, rfl, p, c, xs, c0, n + 9, rfl, pa2, hc2, g0, fun H3 D qs sb sx3 nD hD nDp pa3 => ?_⟩
      have sx3' := sxH.trans sx3
      have hc3 := sx3 _ _ ncp hc2
      have lxs : (xs.map V.str).length = xs.length := List.length_map _
      refine ⟨_, rfl, _, _, rfl, rfl, _, rfl, ?_⟩
      refine ite2 (fun hm => ?_) (fun _ => ?_)
      · have hm : 1 < many := by
          have : (1 : Int) < (many : Int) := of_decide_eq_true hm
          omega
        refine ⟨_, rfl, _, rfl, _, rfl, c, xs.map V.str, rfl, hc3, by omega, fun H4 D2 s4 nD2 ⟨Ts, hd, tu⟩ => ?_⟩
        have pa4 := pa3.same s4
        have nD2p := purse_none pa3 nD2
        rw [prs_strs] at tu
        have lT : Ts.length = (prsS xs).length := by rw [tu.1, List.length_map]
        have l36 := Good.len0 (xs := xs) (by omega)
        have l1 : 1 ≤ (prsS xs).length := by
          have h := prsS_len xs
          rw [lx] at h
          have : many + many ≤ many * many := by
            have := Nat.mul_le_mul_right many (show 2 ≤ many by omega)
            omega
          omega
        refine ⟨p, D2, Ts.map V.ref, c0, n + 8, rfl, pa4, hd, nD2p, by rw [List.length_map]; omega, by rw [List.length_map]; omega, fun H5 i x hx sx5 pa5 => ?_⟩
        rw [List.getElem?_map] at hx
        obtain ⟨T1, hT, rfl⟩ := Option.map_eq_some_iff.mp hx
        have il := (List.getElem?_eq_some_iff.mp hT).1
        obtain ⟨q, hq⟩ : ∃ q, (prsS xs)[i]? = some q := ⟨_, List.getElem?_eq_getElem (by rw [← lT]; exact il)⟩
        have eT := tu.2 i T1 (tv q) hT (by rw [List.getElem?_map, hq]; rfl)
        have eT5 := sx5 _ _ (purse_ne pa4 eT fun _ _ _ _ z => nomatch z) eT
        refine ⟨D, T1, xs, qs, q, rfl, (hD.same s4).sameX pa4 sx5, ⟨asc, hw, by omega, sb⟩, eT5, List.mem_of_getElem? hq, fun H6 D3 s6 nD3 hD3 => ?_⟩
        have nD3p := purse_none pa5 nD3
        have sx5' := (sx3'.trans (SameX.of s4)).trans sx5
        exact k H6 D3 xs _ lx ⟨asc, hw, by omega, List.filter_sublist⟩ (sx5'.trans (SameX.of s6)) (sx5'.none nD3 nD3p) hD3 nD3p ((pa5.same s6).less (by omega))
      · exact ⟨_, rfl, k H3 D xs qs lx ⟨asc, hw, by omega, sb⟩ sx3' (sxH.none nD nDp) hD nDp (pa3.less (by omega))⟩
    refine ⟨_, rfl, _, rfl, p, c, xs, c0, n + 9, rfl, pa2, hc2, g0, fun H3 D qs sb sx3 nD hD nDp pa3 => ?_⟩
    exact k H3 D xs qs lx ⟨asc, hw, by omega, sb⟩ (sxH.trans sx3) (sxH.none nD nDp) hD nDp (pa3.less (by omega))
end
end Wd
end
section
set_option maxRecDepth 100000
set_option maxHeartbeats 4000000
namespace Wd
open PySem L2
def spSized : Sp := fun vs H Q _ => ∃ (p : Addr) (c0 : Int) (n : Nat), vs = [.ref p] ∧ PurseAt H p c0 (n + 2) ∧
  ∀ (H' : Hp) (m : Nat), 1 ≤ m → m ≤ 9 → SameX p H H' → PurseAt H' p c0 n → Q (.int m) H'
section
variable {P : Program} {w : World} {K : PySem.W.Frag} {mg : Str → Option Value} {base : Heap}
end
end Wd
end
section
set_option maxRecDepth 100000
set_option maxHeartbeats 4000000
namespace Kc
open PySem PySem.Spec PyProof.Rows PySem.Builtin
abbrev TC : String := "itertools.combinations"
theorem mro_c : mroOf (.type TC) = pure [.type TC, .type "object"] := by
  rw [mroOf_type]
  kernel_rfl
theorem new_c : typeLookup (.type TC) "__new__" = pure (some (.builtin "itertools.combinations.__new__")) := by
  rw [typeLookup_type, builtinLookup_eq_fast]
  kernel_rfl
theorem slotI_c : Slot TC "__init__" "object.__init__" :=
  .of (owner := "object") (n := "__init__") (by rw [typeLookup_type, builtinLookup_eq_fast]; kernel_rfl) (by decide +kernel) (by decide +kernel) (by decide +kernel)
    (by first | exact .inl (by decide +kernel) | exact .inr (by decide +kernel)) (by rw [isSubtype_type]; kernel_rfl)
theorem sub_c : isSubtype (.type TC) (.type TC) = pure true := by
  rw [isSubtype_type]
  kernel_rfl
theorem called_c : TypeCalled TC "itertools.combinations.__new__" "object.__init__" :=
  ⟨by decide +kernel, by decide +kernel, ⟨_, _, mro_c⟩, madeBy_type mro_c new_c (by decide +kernel), by decide +kernel, sub_c, slotI_c⟩
theorem typeCall_c (a b : Value) : checkTypeCall TC ⟨[a, b], []⟩ = pure () := by kernel_rfl
theorem newCall_c (a b : Value) : checkBuiltinCall "itertools.combinations.__new__" ⟨[.type TC, a, b], []⟩ = pure () := by kernel_rfl
theorem entryN_c : entryFor table "itertools.combinations.__new__" = some Builtin.«itertools.combinations.__new__» := entryFor_of_tree (by kernel_rfl)
theorem slotIt_c : Slot TC "__iter__" "itertools.combinations.__iter__" :=
  .of (owner := TC) (n := "__iter__") (by rw [typeLookup_type, builtinLookup_eq_fast]; kernel_rfl) (by decide +kernel) (by decide +kernel) (by decide +kernel)
    (by first | exact .inl (by decide +kernel) | exact .inr (by decide +kernel)) sub_c
theorem slotNx_c : Slot TC "__next__" "itertools.combinations.__next__" :=
  .of (owner := TC) (n := "__next__") (by rw [typeLookup_type, builtinLookup_eq_fast]; kernel_rfl) (by decide +kernel) (by decide +kernel) (by decide +kernel)
    (by first | exact .inl (by decide +kernel) | exact .inr (by decide +kernel)) sub_c
theorem entryIt_c : entryFor table "itertools.combinations.__iter__" = some Builtin.«dict_keyiterator.__iter__» :=
  entryFor_alias (id' := "dict_keyiterator.__iter__") (by kernel_rfl) (by first | rfl | decide +kernel | (unfold String.splitOn; simp +decide [String.splitOnAux])) (by decide +kernel) (by kernel_rfl)
theorem entryNx_c : entryFor table "itertools.combinations.__next__" = some Builtin.«itertools.combinations.__next__» := entryFor_of_tree (by kernel_rfl)
def nameC : List Char := ['s', 'n', 'o', 'i', 't', 'a', 'n', 'i', 'b', 'm', 'o', 'c', '.', 's', 'l', 'o', 'o', 't', 'r', 'e', 't', 'i']
theorem owner_c : Manifest.owners.lookup (String.ofList nameC.reverse) = some Manifest.sig_itertools_combinations := by kernel_rfl
theorem argsIt_c (a : Value) : argsOk "itertools.combinations.__iter__" ⟨[a], []⟩ := by
  unfold argsOk
  rw [signature?_of (id := "itertools.combinations.__iter__") (n := ['_', '_', 'r', 'e', 't', 'i', '_', '_']) (o := nameC) (by kernel_rfl) owner_c]
  kernel_rfl
theorem argsNx_c (a : Value) : argsOk "itertools.combinations.__next__" ⟨[a], []⟩ := by
  unfold argsOk
  rw [signature?_of (id := "itertools.combinations.__next__") (n := ['_', '_', 't', 'x', 'e', 'n', '_', '_']) (o := nameC) (by kernel_rfl) owner_c]
  kernel_rfl
theorem noDict_c : typeHasDict (.type TC) = false := by decide +kernel
theorem noLen_c : typeLookup (.type TC) "__len__" = pure none := by
  rw [typeLookup_type, builtinLookup_eq_fast]
  kernel_rfl
theorem noHint_c : typeLookup (.type TC) "__length_hint__" = pure none := by
  rw [typeLookup_type, builtinLookup_eq_fast]
  kernel_rfl
theorem isType_c : isType (.type TC) = pure true := by first | rfl | kernel_rfl
end Kc
end
section
set_option maxRecDepth 100000
set_option maxHeartbeats 4000000
namespace Kc
open PySem PySem.Spec PyProof.Rows PySem.Builtin PySem.Builtin.Itertools
/-- the step of the model, in our own words -/
def nextC (n : Nat) (ix : List Nat) : Option (List Nat) :=
  match (List.range ix.length).reverse.find? fun i => ix.getD i 0 != i + n - ix.length with
  | none => none
  | some i => some (ix.take i ++ (List.range (ix.length - i)).map (ix.getD i 0 + 1 + ·))
def pickC (pool : Value) (ix : List Nat) : Sem Value := do
  let items ← itPoolItems pool
  newTuple (ix.map fun i => items.getD i .none)
def outC (self pool : Value) (ix : List Nat) : Sem PySem.Fin := do
  let result ← pickC pool ix
  let before ← field self 2
  setField self 2 result
  letGo [before] [result]
  ret result
theorem next_eq (self : Value) : Builtin.«itertools.combinations.__next__» ⟨[self], []⟩ = (do
    let (self, _) ← slotArgs "__next__" 0 ⟨[self], []⟩
    let pool ← field self 0
    let ix ← itNumbersFrom self 3
    match ← itIntField self 1 with
    | 0 => setField self 1 (rawInt 1); outC self pool ix
    | 1 =>
      match nextC (← itPoolItems pool).size ix with
      | some next => itSetNumbersFrom self 3 next; outC self pool next
      | none => setField self 1 (rawInt 2); itStop
    | _ => rule "itertools.combinations.ended"; itStop) := rfl
end Kc
end
section
set_option maxRecDepth 100000
set_option maxHeartbeats 4000000
namespace Kc
open PySem PySem.Spec PyProof.Rows PySem.Builtin PySem.Builtin.Itertools
def flds (pool : Addr) (st : Int) (res : Value) (ix : List Nat) : Array Value := ([.ref pool, rawInt st, res] ++ ix.map fun (i : Nat) => rawInt i).toArray
abbrev combO (pool : Addr) (st : Int) (res : Value) (ix : List Nat) : Obj := { cls := .type TC, dict := none, data := .fields (flds pool st res ix), slots := #[] }
section
variable {pool : Addr} {st : Int} {res : Value} {ix : List Nat}
theorem f0 : (flds pool st res ix)[0]? = some (.ref pool) := by simp [flds]
theorem f1 : (flds pool st res ix)[1]? = some (.int st 0) := by simp [flds, rawInt]
theorem f2 : (flds pool st res ix)[2]? = some res := by simp [flds]
theorem fsz : (flds pool st res ix).size = ix.length + 3 := by simp [flds]
theorem fset1 (v : Int) : (flds pool st res ix).setIfInBounds 1 (rawInt v) = flds pool v res ix := by simp [flds]
theorem fset2 (v : Value) : (flds pool st res ix).setIfInBounds 2 v = flds pool st v ix := by simp [flds]
theorem fnums : ((flds pool st res ix).toList.drop 3).map (fun | .int n _ => n.toNat | _ => 0) = ix := by
  have e : (flds pool st res ix).toList.drop 3 = ix.map fun (i : Nat) => rawInt i := by simp [flds]
  rw [e, List.map_map]
  conv => rhs; rw [← List.map_id ix]
  exact List.map_congr_left fun i _ => by simp [rawInt]
theorem fext (jx : List Nat) : (flds pool st res ix).extract 0 3 ++ (jx.map fun (i : Nat) => rawInt i).toArray = flds pool st res jx := by
  apply Array.toList_inj.mp
  simp [flds]
end
section
variable {prog : Program} {w : World} {A : Around} {E : Value → Shared → Prop} {s : Shared} {it pool : Addr} {st : Int} {res : Value} {ix : List Nat} {xs : Array Value}
/-- the pool -/
def Pool (h : Heap) (pool : Addr) (xs : Array Value) : Prop := ∃ o n, h.get? pool = some o ∧ o.data = .seq xs n
theorem upd_f {o' : Obj} (g : Array Value → Array Value) (hit : s.heap.get? it = some (combO pool st res ix)) (e : Obj.mapFields g (combO pool st res ix) = o') : (s.heap.update it (Obj.mapFields g)).get? it = some o' := by
  have h := Heap.get?_update_self (Obj.mapFields g) hit rfl
  rw [e] at h
  exact h
/-- a new tuple of the pool's items, held by the iterator -/
theorem out_item {Q : PySem.Fin → Shared → Prop} (hit : s.heap.get? it = some (combO pool st res ix)) (hp : Pool s.heap pool xs) (hn : ix.length ≤ 1000)
    (h : ∀ h', h'.get? s.heap.objs.size = some { cls := .type "tuple", data := .seq (ix.map fun i => xs.getD i .none).toArray } → h'.get? it = some (combO pool st (.ref s.heap.objs.size) ix) →
      (∀ b o, b ≠ it → s.heap.get? b = some o → h'.get? b = some o) → h'.objs.size = s.heap.objs.size + 1 → Q (.done (.ret (.ref s.heap.objs.size))) { s with heap := h' }) : wpAny (model prog w) A (outC (.ref it) (.ref pool) ix) Q E s := by
  obtain ⟨o, n, ho, hd⟩ := hp
  have lt : it < s.heap.objs.size := Heap.lt_size hit
  unfold outC pickC itPoolItems
  refine wpAny_bind (wpAny_bind (wpAny_bind (wpAny_seqItems ho hd (wpAny_pure ?_))))
  refine wpAny_newTuple ?_ (by rw [List.length_map, sizeLine_eq]; omega)
  generalize hT : s.heap.push { cls := .type "tuple", data := .seq (ix.map fun i => xs.getD i .none).toArray } = h1
  have g1 : h1.get? it = some (combO pool st res ix) := by
    rw [← hT]
    exact Heap.get?_push_of_some _ hit
  have g2 : h1.get? s.heap.objs.size = some { cls := .type "tuple", data := .seq (ix.map fun i => xs.getD i .none).toArray } := by
    rw [← hT]
    exact Heap.get?_push_size _ rfl
  refine wpAny_bind (wpAny_field g1 rfl f2 ?_)
  refine wpAny_bind (wpAny_setField g1 rfl (by rw [fsz]; omega) ?_)
  refine wpAny_bind (wpAny_letGo ?_)
  have ne : s.heap.objs.size ≠ it := Nat.ne_of_gt lt
  refine wpAny_pure (h _ ?_ ?_ (fun b o nb e => ?_) ?_)
  · rw [Heap.get?_update_ne _ _ _ _ ne]
    exact g2
  · exact upd_f (s := { s with heap := h1 }) _ g1 (by simp [Obj.mapFields, fset2])
  · rw [Heap.get?_update_ne _ _ _ _ nb, ← hT]
    exact Heap.get?_push_of_some _ e
  · rw [Heap.size_update, ← hT, size_push']
end
end Kc
end
section
set_option maxRecDepth 100000
set_option maxHeartbeats 4000000
namespace Kc
open PySem PySem.Spec PyProof.Rows PySem.Builtin PySem.Builtin.Itertools
/-- what stands ahead of a turn: fresh with the first places, or behind places whose next are told -/
def Ahead (n : Nat) (st : Int) (ix : List Nat) (nx : Option (List Nat)) : Prop := (st = 0 ∧ nx = some ix) ∨ (st = 1 ∧ nx = nextC n ix) ∨ (st = 2 ∧ nx = none)
section
variable {prog : Program} {w : World} {A : Around} {E : Value → Shared → Prop} {s : Shared} {it pool : Addr} {st : Int} {res : Value} {ix jx : List Nat} {xs : Array Value}
theorem pool_but {h h' : Heap} (hp : Pool h pool xs) (k : ∀ b o, b ≠ it → h.get? b = some o → h'.get? b = some o) (ne : pool ≠ it) : Pool h' pool xs := by
  obtain ⟨o, n, ho, hd⟩ := hp
  exact ⟨o, n, k _ _ ne ho, hd⟩
theorem wp_nums {Q : List Nat → Shared → Prop} (hit : s.heap.get? it = some (combO pool st res ix)) (h : Q ix s) : wpAny (model prog w) A (itNumbersFrom (.ref it) 3) Q E s := by
  unfold itNumbersFrom
  refine wpAny_bind (wpAny_load hit ?_)
  have e := congrArg (fun l => Q l s) (fnums (pool := pool) (st := st) (res := res) (ix := ix))
  exact wpAny_pure (e.mpr h)
theorem wp_setnums {Q : Unit → Shared → Prop} (hit : s.heap.get? it = some (combO pool st res ix)) (hn : jx.length ≤ 1000)
    (h : ∀ h', h'.get? it = some (combO pool st res jx) → (∀ b o, b ≠ it → s.heap.get? b = some o → h'.get? b = some o) → h'.objs.size = s.heap.objs.size → Q () { s with heap := h' }) : wpAny (model prog w) A (itSetNumbersFrom (.ref it) 3 jx) Q E s := by
  unfold itSetNumbersFrom
  refine wpAny_updateFields hit rfl (h _ (upd_f _ hit (by simp [Obj.mapFields, fext])) (fun b o nb e => ?_) (by rw [Heap.size_update])) ?_
  · rw [Heap.get?_update_ne _ _ _ _ nb]
    exact e
  · rw [fext, fsz, sizeLine_eq]
    omega
theorem wp_setst {Q : Unit → Shared → Prop} (v : Int) (hit : s.heap.get? it = some (combO pool st res ix))
    (h : ∀ h', h'.get? it = some (combO pool v res ix) → (∀ b o, b ≠ it → s.heap.get? b = some o → h'.get? b = some o) → h'.objs.size = s.heap.objs.size → Q () { s with heap := h' }) : wpAny (model prog w) A (setField (.ref it) 1 (rawInt v)) Q E s := by
  refine wpAny_setField hit rfl (by rw [fsz]; omega) (h _ (upd_f _ hit (by simp [Obj.mapFields, fset1])) (fun b o nb e => ?_) (by rw [Heap.size_update]))
  rw [Heap.get?_update_ne _ _ _ _ nb]
  exact e
/-- the next item -/
theorem comb_item {n : Nat} {Q : Option Value → Shared → Prop} (hit : s.heap.get? it = some (combO pool st res ix)) (hp : Pool s.heap pool xs) (ne : pool ≠ it) (hn : xs.size = n) (ah : Ahead n st ix (some jx)) (hj : jx.length ≤ 1000)
    (h : ∀ h', h'.get? s.heap.objs.size = some { cls := .type "tuple", data := .seq (jx.map fun i => xs.getD i .none).toArray } → h'.get? it = some (combO pool 1 (.ref s.heap.objs.size) jx) →
      (∀ b o, b ≠ it → s.heap.get? b = some o → h'.get? b = some o) → h'.objs.size = s.heap.objs.size + 1 → Q (some (.ref s.heap.objs.size)) { s with heap := h' }) : wpAny (model prog w) A (pyNext (.ref it)) Q E s := by
  have hT : s.TypeIs (.ref it) TC := ⟨_, hit, rfl⟩
  unfold pyNext
  refine wpAny_bind (wpAny_attempt (wpAny_callSpecial?_slot (name := Str.ofString "__next__") hT slotNx_c (wpAny_call_entry slotNx_c hT entryNx_c ?_ (argsNx_c _))))
  rw [next_eq]
  unfold slotArgs
  refine wpAny_bind (wpAny_pure ?_)
  refine wpAny_bind (wpAny_field hit rfl f0 ?_)
  refine wpAny_bind (wp_nums hit ?_)
  unfold itIntField
  refine wpAny_bind (wpAny_bind (wpAny_field hit rfl f1 (wpAny_pure ?_)))
  rcases ah with ⟨rfl, e⟩ | ⟨rfl, e⟩ | ⟨_, e⟩
  · obtain rfl : jx = ix := Option.some.inj e
    show wpAny _ _ (do setField (.ref it) 1 (rawInt 1); outC (.ref it) (.ref pool) jx) _ _ s
    refine wpAny_bind (wp_setst 1 hit fun h1 g1 k1 z1 => ?_)
    refine out_item (s := { s with heap := h1 }) g1 (pool_but hp k1 ne) hj fun h' a b c d => ⟨_, rfl, wpAny_pure ?_⟩
    dsimp only at a b c d
    rw [z1] at a b d ⊢
    exact h h' a b (fun b o nb e => c b o nb (k1 b o nb e)) d
  · obtain ⟨o, m, ho, hd⟩ := id hp
    show wpAny _ _ (do
      match nextC (← itPoolItems (.ref pool)).size ix with
      | some next => itSetNumbersFrom (.ref it) 3 next; outC (.ref it) (.ref pool) next
      | none => setField (.ref it) 1 (rawInt 2); itStop) _ _ s
    unfold itPoolItems
    refine wpAny_bind (wpAny_bind (wpAny_seqItems ho hd (wpAny_pure ?_)))
    rw [hn, ← e]
    dsimp only
    refine wpAny_bind (wp_setnums hit hj fun h1 g1 k1 z1 => ?_)
    refine out_item (s := { s with heap := h1 }) g1 (pool_but hp k1 ne) hj fun h' a b c d => ⟨_, rfl, wpAny_pure ?_⟩
    dsimp only at a b c d
    rw [z1] at a b d ⊢
    exact h h' a b (fun b o nb e => c b o nb (k1 b o nb e)) d
  · cases e
theorem wp_stop {Q : Option Value → Shared → Prop} {α : Type} {Q2 : α → Shared → Prop} (hh : A.handled = none) (h : ∀ h' e, (∃ o, h'.get? e = some o ∧ o.cls = .type "StopIteration") → (∀ b o, s.heap.get? b = some o → h'.get? b = some o) → E (.ref e) { s with heap := h' }) :
    wpAny (model prog w) A (itStop : Sem α) Q2 E s := by
  unfold itStop
  refine wpAny_bind ?_
  simp only [newExc, newTuple]
  refine wpAny_bind (wpAny_newObj_type ?_ (by size_fits))
  refine wpAny_bind (m := firstArgMember _ _) (wpAny_of_eq (a := Value.none) (by first | rfl | (simp only [firstArgMember]; rfl)) ?_)
  refine wpAny_newObj_type ?_ (by size_fits)
  simp only [raiseNew]
  refine wpAny_bind (wpAny_handled ?_)
  rw [hh]
  refine wpAny_bind (wpAny_pure (wpAny_throw ?_))
  exact h _ _ ⟨_, Heap.get?_push_size _ rfl, rfl⟩ fun b o e => Heap.get?_push_of_some _ (Heap.get?_push_of_some _ e)
/-- the end -/
theorem comb_end {n : Nat} {Q : Option Value → Shared → Prop} (hh : A.handled = none) (hit : s.heap.get? it = some (combO pool st res ix)) (hp : Pool s.heap pool xs) (hn : xs.size = n) (ah : Ahead n st ix none)
    (h : ∀ h', (∀ b o, b ≠ it → s.heap.get? b = some o → h'.get? b = some o) → Q none { s with heap := h' }) : wpAny (model prog w) A (pyNext (.ref it)) Q E s := by
  have hT : s.TypeIs (.ref it) TC := ⟨_, hit, rfl⟩
  unfold pyNext
  refine wpAny_bind (wpAny_attempt (wpAny_callSpecial?_slot (name := Str.ofString "__next__") hT slotNx_c (wpAny_call_entry slotNx_c hT entryNx_c ?_ (argsNx_c _))))
  rw [next_eq]
  unfold slotArgs
  refine wpAny_bind (wpAny_pure ?_)
  refine wpAny_bind (wpAny_field hit rfl f0 ?_)
  refine wpAny_bind (wp_nums hit ?_)
  unfold itIntField
  refine wpAny_bind (wpAny_bind (wpAny_field hit rfl f1 (wpAny_pure ?_)))
  have fin : ∀ (h' : Heap) (e : Addr), (∃ o, h'.get? e = some o ∧ o.cls = .type "StopIteration") → (∀ b o, b ≠ it → s.heap.get? b = some o → h'.get? b = some o) →
      wpAny (model prog w) A (do if ← isInstance (.ref e) (.type "StopIteration") then pure none else throw (.ref e)) Q E { s with heap := h' } := fun h' e ⟨o, ho, hc⟩ k => by
    refine wpAny_bind (wpAny_isInstance (T := "StopIteration") (b := true) ⟨o, ho, hc⟩ isSubtype_stop ?_)
    exact wpAny_pure (h h' k)
  rcases ah with ⟨rfl, e⟩ | ⟨rfl, e⟩ | ⟨rfl, e⟩
  · cases e
  · obtain ⟨o, m, ho, hd⟩ := id hp
    show wpAny _ _ (do
      match nextC (← itPoolItems (.ref pool)).size ix with
      | some next => itSetNumbersFrom (.ref it) 3 next; outC (.ref it) (.ref pool) next
      | none => setField (.ref it) 1 (rawInt 2); itStop) _ _ s
    unfold itPoolItems
    refine wpAny_bind (wpAny_bind (wpAny_seqItems ho hd (wpAny_pure ?_)))
    rw [hn, ← e]
    dsimp only
    refine wpAny_bind (wp_setst 2 hit fun h1 g1 k1 z1 => ?_)
    refine wp_stop (Q := Q) (s := { s with heap := h1 }) (by first | exact hh | simp [hh]) fun h' x hx k => ?_
    exact fin h' x hx fun b o nb e => k b o (k1 b o nb e)
  · show wpAny _ _ (do rule "itertools.combinations.ended"; itStop) _ _ s
    refine wpAny_bind (wpAny_rule ?_)
    refine wp_stop (Q := Q) (by first | exact hh | simp [hh]) fun h' x hx k => ?_
    exact fin h' x hx fun b o nb e => k b o e
theorem comb_self {Q : Value → Shared → Prop} (hit : s.heap.get? it = some (combO pool st res ix)) (h : Q (.ref it) s) : wpAny (model prog w) A (pyIter (.ref it)) Q E s := by
  have hT : s.TypeIs (.ref it) TC := ⟨_, hit, rfl⟩
  refine wpAny_pyIter_slot hT slotIt_c (wpAny_call_entry slotIt_c hT entryIt_c ?_ (argsIt_c _))
  show wpAny _ _ (ret (.ref it)) _ _ s
  exact wpAny_pure ⟨_, rfl, TC, _, hT, slotNx_c.lookup, h⟩
end
end Kc
end
section
set_option maxRecDepth 100000
set_option maxHeartbeats 4000000
namespace Kc
open PySem PySem.Spec PyProof.Rows PySem.Builtin PySem.Builtin.Itertools
def poolC (short : String) (args : Args) : Sem (Value × Value × Nat × Nat) := do
  let (cls, rest) ← itClassAndRest short args
  let [some iterable, some rV] ← itBindNamed short ["iterable", "r"] 2 2 rest args.kw | unsupported "internal:itertools.combinations.__new__"
  let r ← itSsizeArg rV
  let items ← collect iterable
  if r < 0 then rule "itertools.combinations.negative-r"; raiseError "ValueError" "r must be non-negative"
  if itTooMany r then unsupported s!"itertools.{short}.__new__:memory"
  return (cls, ← newTuple items, items.length, r.toNat)
theorem new_eq (args : Args) : Builtin.«itertools.combinations.__new__» args = (do
    let (cls, pool, n, r) ← poolC "combinations" args
    ret (← itNewRecord cls ([pool, rawInt (if r > n then 2 else 0), .none] ++ (List.range r).map fun (i : Nat) => rawInt i))) := rfl
theorem bind_c (a b : Value) : itBindNamed "combinations" ["iterable", "r"] 2 2 [a, b] [] = pure [some a, some b] := by rfl
theorem ix_c (r : Int) (t : Tok) : asIndex (.int r t) = pure r := by first | rfl | kernel_rfl
section
variable {prog : Program} {w : World} {A : Around} {E : Value → Shared → Prop} {s : Shared}
theorem wp_new {l : Addr} {vs : List Value} {r : Nat} {t : Tok} {Q : PySem.Fin → Shared → Prop} (hl : s.heap.IsList l vs.toArray) (hv : vs.length ≤ 1000) (hr : r ≤ 100)
    (h : ∀ h', h'.get? (s.heap.objs.size + 2) = some (combO (s.heap.objs.size + 1) (if r > vs.length then 2 else 0) .none (List.range r)) → h'.get? (s.heap.objs.size + 1) = some { cls := .type "tuple", data := .seq vs.toArray } →
      (∀ b o, s.heap.get? b = some o → h'.get? b = some o) → Q (.done (.ret (.ref (s.heap.objs.size + 2)))) { s with heap := h' }) :
    wpAny (model prog w) A (Builtin.«itertools.combinations.__new__» ⟨[.type TC, .ref l, .int r t], []⟩) Q E s := by
  rw [new_eq]
  unfold poolC
  refine wpAny_bind (wpAny_bind ?_)
  unfold itClassAndRest
  dsimp only
  refine wpAny_bind (wpAny_of_eq isType_c ?_)
  simp only [Bool.not_true, Bool.false_eq_true, if_false]
  refine wpAny_bind (wpAny_of_eq sub_c ?_)
  simp only [Bool.not_true, Bool.false_eq_true, if_false]
  refine wpAny_pure ?_
  dsimp only
  rw [bind_c]
  refine wpAny_bind (wpAny_pure ?_)
  dsimp only
  unfold itSsizeArg
  rw [ix_c]
  refine wpAny_bind (wpAny_bind (wpAny_pure ?_))
  have c1 : (decide ((r : Int) < -(2 ^ 63 : Int)) || decide ((r : Int) ≥ 2 ^ 63)) = false := by
    rw [Bool.or_eq_false_iff]
    exact ⟨decide_eq_false (by omega), decide_eq_false (by omega)⟩
  rw [c1]
  simp only [Bool.false_eq_true, if_false]
  refine wpAny_pure ?_
  refine wpAny_bind (collect_list hl ?_ (by rw [sizeLine_eq]; omega))
  refine wpAny_ite_split (fun z => absurd z (by omega)) (fun _ => ?_)
  try refine wpAny_bind (wpAny_pure ?_)
  have c2 : itTooMany (r : Int) = false := decide_eq_false (by omega)
  refine wpAny_ite_split (fun z => absurd z (by rw [c2]; decide)) (fun _ => ?_)
  try refine wpAny_bind (wpAny_pure ?_)
  have hsz : ((s.heap.push (seqObj "list" #[] 0)).update s.heap.objs.size (Obj.mapSeq (· ++ vs.toArray))).objs.size = s.heap.objs.size + 1 := by
    rw [Heap.size_update, size_push']
  refine wpAny_bind (wpAny_newTuple ?_ (by rw [sizeLine_eq]; omega))
  refine wpAny_pure ?_
  dsimp only
  generalize hT : ((s.heap.push (seqObj "list" #[] 0)).update s.heap.objs.size (Obj.mapSeq (· ++ vs.toArray))).push { cls := .type "tuple", data := .seq vs.toArray } = h1
  have z1 : h1.objs.size = s.heap.objs.size + 2 := by rw [← hT, size_push', hsz]
  have g1 : h1.get? (s.heap.objs.size + 1) = some { cls := .type "tuple", data := .seq vs.toArray } := by
    rw [← hT, ← hsz]
    exact Heap.get?_push_size _ rfl
  have k1 : ∀ b o, s.heap.get? b = some o → h1.get? b = some o := fun b o e => by
    have lt : b < s.heap.objs.size := Heap.lt_size e
    rw [← hT]
    refine Heap.get?_push_of_some _ ?_
    rw [Heap.get?_update_ne _ _ _ _ (Nat.ne_of_lt lt)]
    exact Heap.get?_push_of_some _ e
  unfold itNewRecord
  rw [noDict_c]
  simp only [Bool.not_false, if_true]
  rw [hsz]
  refine wpAny_bind ?_
  refine wpAny_newObj_type ?_ ?_
  · refine wpAny_pure ?_
    rw [z1]
    refine h _ ?_ (Heap.get?_push_of_some _ g1) fun b o e => Heap.get?_push_of_some _ (k1 b o e)
    rw [← z1]
    exact Heap.get?_push_size _ rfl
  · show (flds _ _ _ _).size ≤ _
    rw [fsz, List.length_range, sizeLine_eq]
    omega
def specC (l : Addr) (vs : List Value) (r : Nat) : PySem.Spec := fun _ R s => s.heap.IsList l vs.toArray ∧ vs.length ≤ 1000 ∧ r ≤ 100 ∧
  ∀ h' : Heap, h'.get? (s.heap.objs.size + 2) = some (combO (s.heap.objs.size + 1) (if r > vs.length then 2 else 0) .none (List.range r)) → h'.get? (s.heap.objs.size + 1) = some { cls := .type "tuple", data := .seq vs.toArray } →
    (∀ b o, s.heap.get? b = some o → h'.get? b = some o) → R (.ok (.ret (.ref (s.heap.objs.size + 2)))) { s with heap := h' }
theorem meets_c (l : Addr) (vs : List Value) (r : Nat) (t : Tok) : Meets (Builtin.«itertools.combinations.__new__» ⟨[.type TC, .ref l, .int r t], []⟩) (specC l vs r) :=
  .of_wp fun prog w A R s h => by
    obtain ⟨hl, hv, hr, q⟩ := h
    exact wp_new hl hv hr fun h' a b c => ⟨_, rfl, q h' a b c⟩
/-- combinations(xs, r) -/
theorem call_comb {l : Addr} {vs : List Value} {r : Nat} {t : Tok} {Q : Value → Shared → Prop} (hl : s.heap.IsList l vs.toArray) (hv : vs.length ≤ 1000) (hr : r ≤ 100)
    (h : ∀ h', h'.get? (s.heap.objs.size + 2) = some (combO (s.heap.objs.size + 1) (if r > vs.length then 2 else 0) .none (List.range r)) → h'.get? (s.heap.objs.size + 1) = some { cls := .type "tuple", data := .seq vs.toArray } →
      (∀ b o, s.heap.get? b = some o → h'.get? b = some o) → Q (.ref (s.heap.objs.size + 2)) { s with heap := h' }) : wpAny (model prog w) A (call (.type TC) [.ref l, .int r t]) Q E s := by
  refine callType_new called_c (by decide +kernel) (typeCall_c _ _) (newCall_c _ _) (fun obj => F.args_object_init_3 obj _ _) entryN_c (meets_c l vs r t) ?_
  exact ⟨hl, hv, hr, fun h' a b c => ⟨⟨_, a, rfl⟩, h h' a b c⟩⟩
end
end Kc
end
section
set_option maxRecDepth 100000
set_option maxHeartbeats 4000000
namespace Kc
open PySem PySem.Spec PyProof.Rows L2
/-! ### the places, in their order -/
def ixs2 (n : Nat) : List (List Nat) := (List.range n).flatMap fun i => ((List.range n).filter fun j => decide (i < j)).map fun j => [i, j]
def ixs3 (n : Nat) : List (List Nat) := (List.range n).flatMap fun i => ((List.range n).filter fun j => decide (i < j)).flatMap fun j => ((List.range n).filter fun k => decide (j < k)).map fun k => [i, j, k]
def ixsR (r n : Nat) : List (List Nat) := if r = 2 then ixs2 n else ixs3 n
/-- a list of places that the iterator goes through -/
structure Goes (n r : Nat) (L : List (List Nat)) : Prop where
  start : L[0]? = if r > n then none else some (List.range r)
  next : ∀ t a, L[t]? = some a → nextC n a = L[t + 1]?
  len : ∀ a ∈ L, a.length = r ∧ ∀ i ∈ a, i < n
def okGo (n r : Nat) (L : List (List Nat)) : Bool := (L[0]? == if r > n then none else some (List.range r)) && ((List.range L.length).all fun t => match L[t]? with
  | some a => (nextC n a == L[t + 1]?) && (a.length == r) && a.all fun i => decide (i < n)
  | none => true)
theorem goes_of {n r : Nat} {L : List (List Nat)} (h : okGo n r L = true) : Goes n r L := by
  unfold okGo at h
  rw [Bool.and_eq_true] at h
  obtain ⟨h1, h2⟩ := h
  have all : ∀ t a, L[t]? = some a → (nextC n a = L[t + 1]? ∧ a.length = r) ∧ ∀ i ∈ a, i < n := fun t a e => by
    have lt : t < L.length := (List.getElem?_eq_some_iff.mp e).1
    have q := List.all_eq_true.mp h2 t (List.mem_range.mpr lt)
    rw [e] at q
    simpa using q
  refine ⟨by simpa using h1, fun t a e => (all t a e).1.1, fun a ha => ?_⟩
  obtain ⟨t, ht, e⟩ := List.getElem_of_mem ha
  have q := all t a (by rw [List.getElem?_eq_getElem ht, e])
  exact ⟨q.1.2, q.2⟩
theorem all_go : ((List.range 13).all fun n => okGo n 2 (ixs2 n) && okGo n 3 (ixs3 n)) = true := by decide +kernel
theorem goes2 {n : Nat} (h : n ≤ 12) : Goes n 2 (ixs2 n) := by
  have q := List.all_eq_true.mp all_go n (List.mem_range.mpr (by omega))
  rw [Bool.and_eq_true] at q
  exact goes_of q.1
theorem goes3 {n : Nat} (h : n ≤ 12) : Goes n 3 (ixs3 n) := by
  have q := List.all_eq_true.mp all_go n (List.mem_range.mpr (by omega))
  rw [Bool.and_eq_true] at q
  exact goes_of q.2
/-! ### as a walk of the layer -/
/-- the values at some places -/
def atIx (xs : List V) (ix : List Nat) : List V := ix.map fun i => xs.getD i .non
/-- a new tuple a turn -/
def Itx (xs : List V) (L : List (List Nat)) : It :=
  ⟨fun t _ => t < L.length, fun t H v H' => ∃ T ix, v = .ref T ∧ H T = none ∧ L[t]? = some ix ∧ H' = upd H T (.tup (atIx xs ix)), fun t _ => L.length ≤ t⟩
theorem walk_comb {xs : List V} {L : List (List Nat)} : Walk (Itx xs L) L.length (fun _ => True) (fun t H v H' => ∃ T ix, v = .ref T ∧ H T = none ∧ L[t]? = some ix ∧ H' = upd H T (.tup (atIx xs ix))) :=
  ⟨fun _ _ hi _ => hi, fun _ _ => Nat.le_refl _, fun _ _ _ _ _ _ y => y⟩
def Stands (it pool : Addr) (its : List Value) (n : Nat) (L : List (List Nat)) (t : Nat) (h : Heap) : Prop :=
  (∃ st res ix, h.get? it = some (combO pool st res ix) ∧ Ahead n st ix (L[t]?)) ∧ h.get? pool = some { cls := .type "tuple", data := .seq its.toArray }
theorem vals_atIx {xs : List V} {its : List Value} (r : Vals xs its) : ∀ {ix : List Nat}, (∀ i ∈ ix, i < xs.length) → Vals (atIx xs ix) (ix.map fun i => its.toArray.getD i .none)
  | [], _ => .nil
  | i :: ix, h => by
    have lt := h i List.mem_cons_self
    obtain ⟨u, hu, ru⟩ := r.get (i := i) (x := xs[i]) (List.getElem?_eq_getElem lt)
    have e1 : xs.getD i .non = xs[i] := by simp [lt]
    have e2 : its.toArray.getD i .none = u := by
      rw [Array.getD_eq_getD_getElem?]
      have e3 : its.toArray[i]? = some u := by simpa using hu
      rw [e3]
      rfl
    refine .cons ?_ (vals_atIx r fun j hj => h j (List.mem_cons_of_mem _ hj))
    show RelV (xs.getD i .non) (its.toArray.getD i .none)
    rw [e1, e2]
    exact ru
theorem turn_comb {P : Program} {w : World} {K : PySem.W.Frag} {tg : Expr} {it pool : Addr} {xs : List V} {its : List Value} {r : Nat} {L : List (List Nat)} (rv : Vals xs its) (ne : pool ≠ it) (G : Goes xs.length r L) (hr : r ≤ 100) :
    Turn P w K tg (Itx xs L) [it, pool] it (Stands it pool its xs.length L) where
  mem := by simp
  obj := fun t h st c hc => by
    obtain ⟨⟨s, res, ix, hi, _⟩, hp⟩ := st
    have e' : c = it ∨ c = pool := by simpa using hc
    rcases e' with q | q
    · rw [q]
      exact ⟨_, hi, fun v z => nomatch z⟩
    · rw [q]
      exact ⟨_, hp, fun v z => nomatch z⟩
  keep := fun t h h' st k => by
    obtain ⟨⟨s, res, ix, hi, a⟩, hp⟩ := st
    exact ⟨⟨s, res, ix, k it (by simp) _ hi, a⟩, k pool (by simp) _ hp⟩
  item := by
    intro X hP hw hK hc t pins s σ H E I hf st hg
    subst hP hw hK
    obtain ⟨⟨st0, res, ix, hi, a⟩, hp⟩ := st
    have lt : t < L.length := hg
    have ej : L[t]? = some L[t] := List.getElem?_eq_getElem lt
    rw [ej] at a
    obtain ⟨len, bd⟩ := G.len _ (List.getElem_mem lt)
    generalize L[t] = jx at ej a len bd
    have hz : its.toArray.size = xs.length := by rw [List.size_toArray, ← rv.length]
    refine comb_item hi ⟨_, _, hp, rfl⟩ ne hz a (by omega) fun h' g1 g2 k z => ⟨_, rfl, ?_⟩
    refine go_of (s := { s with heap := h' }) g2 rfl rfl (by decide) ?_
    have new : ObjOk X.prog X.w (upd H s.heap.objs.size (.tup (atIx xs jx))) h' s.heap.objs.size (.tup (atIx xs jx)) := by
      refine ⟨?_, _, vals_atIx rv bd, ⟨_, g1, rfl, _, rfl⟩⟩
      show (atIx xs jx).length ≤ sizeLine
      unfold atIx
      rw [List.length_map, sizeLine_eq]
      omega
    have I1 : Inv X pins σ (upd H s.heap.objs.size (.tup (atIx xs jx))) { s with heap := h' } :=
      I.turnedNew (t' := s.toks) (ch := [it, pool]) (fun c o hb q => k c o (fun q' => hb (by simp [q'])) q) hf (Nat.le_refl _) new
    refine ⟨.ref s.heap.objs.size, _, I1, rfl, ⟨_, jx, rfl, I.hok.fresh (Nat.le_refl _), ej, rfl⟩, ⟨⟨1, _, jx, g2, .inr (.inl ⟨rfl, ?_⟩)⟩, k _ _ ne hp⟩, fun c hcm => ?_⟩
    · exact (G.next t jx ej).symm
    · have hcn := (hf c hcm).1
      have : c ≠ s.heap.objs.size := fun q => by
        have e' : c = it ∨ c = pool := by simpa using hcm
        rcases e' with y | y
        · rw [← y, q] at hi
          exact absurd (Heap.lt_size hi) (Nat.lt_irrefl _)
        · rw [← y, q] at hp
          exact absurd (Heap.lt_size hp) (Nat.lt_irrefl _)
      rw [upd_ne this]
      exact hcn
  done := by
    intro X hP hw hK hc t pins s σ H E I hf st hg
    subst hP hw hK
    obtain ⟨⟨st0, res, ix, hi, a⟩, hp⟩ := st
    have ge : L.length ≤ t := hg
    rw [List.getElem?_eq_none ge] at a
    have hz : its.toArray.size = xs.length := by rw [List.size_toArray, ← rv.length]
    refine comb_end (I.ok.hd hc) hi ⟨_, _, hp, rfl⟩ hz a fun h' k => ⟨rfl, ?_⟩
    obtain ⟨f0, f1, f2, f3, f4, f5⟩ := hf it (by simp)
    exact I.turned (t' := s.toks) k f0 f1 f3 f4 f5
  self := fun A t s Q E st h => by
    obtain ⟨⟨s0, res, ix, hi, _⟩, _⟩ := st
    exact comb_self hi h
end Kc
end
section
set_option maxRecDepth 100000
set_option maxHeartbeats 4000000
namespace Kc
open PySem PySem.Spec PyProof.Rows L2
/-- the tuples told so far -/
def Told (xs : List V) (L : List (List Nat)) (H0 H : Hp) (Ts : List Addr) : Prop := (∀ T ∈ Ts, H0 T = none) ∧ Ts.Nodup ∧ ∀ (j : Nat) T, Ts[j]? = some T → ∃ ix, L[j]? = some ix ∧ H T = some (.tup (atIx xs ix))
section
variable {X : Cx} {pins : List (Addr × Obj)} {σ : L2.St} {A1 : Around}
theorem comb_loop {it pool q : Addr} {xs : List V} {its : List Value} {r : Nat} {L : List (List Nat)} {H0 : Hp} {Rs : Result → Shared → Prop} (hh : A1.handled = none) (rv : Vals xs its) (ne : pool ≠ it) (nq : q ≠ it) (np : q ≠ pool) (G : Goes xs.length r L) (hr : r ≤ 100) (hL : L.length ≤ 4000) (n0 : H0 q = none)
    (done : ∀ Ts H s, Inv X pins σ H s → H q = some (.lst (Ts.map V.ref)) → Ts.length = L.length → Told xs L H0 H Ts → (∀ b o, H0 b = some o → H b = some o) → Rs (.ok (.ret .none)) s) :
    ∀ (m t : Nat) (Ts : List Addr) (H : Hp) (s : Shared), L.length - t = m → t ≤ L.length → Ts.length = t → Inv X pins σ H s → H q = some (.lst (Ts.map V.ref)) → Told xs L H0 H Ts → (∀ b o, H0 b = some o → H b = some o) →
      (∀ b ∈ [it, pool], FpOk X pins H b) → Stands it pool its xs.length L t s.heap → codeAny (model X.prog X.w) A1 (.builtin "list.extend.loop" ⟨[.ref q, .ref it, .none], []⟩) Rs s := by
  intro m
  induction m with
  | zero =>
    intro t Ts H s em ht el I hq td kp hf st
    obtain ⟨⟨st0, res, ix, hi, a⟩, hp⟩ := st
    rw [List.getElem?_eq_none (by omega)] at a
    have hz : its.toArray.size = xs.length := by rw [List.size_toArray, ← rv.length]
    refine codeAny_builtin PySem.F.entry_extend_loop ?_
    rw [Around.under_plainId PySem.F.plain_extend_loop _]
    show wpAny _ A1.in1 (pyNext (.ref it) >>= _) _ _ s
    refine wpAny_bind (comb_end (by simp [hh]) hi ⟨_, _, hp, rfl⟩ hz a fun h' k => ?_)
    obtain ⟨f0, f1, f2, f3, f4, f5⟩ := hf it (by simp)
    exact wpAny_pure (done Ts H _ (I.turned (t' := s.toks) k f0 f1 f3 f4 f5) hq (by omega) td kp)
  | succ m ih =>
    intro t Ts H s em ht el I hq td kp hf st
    obtain ⟨⟨st0, res, ix, hi, a⟩, hp⟩ := st
    have lt : t < L.length := by omega
    have ej : L[t]? = some L[t] := List.getElem?_eq_getElem lt
    rw [ej] at a
    obtain ⟨len, bd⟩ := G.len _ (List.getElem_mem lt)
    generalize L[t] = jx at ej a len bd
    have hz : its.toArray.size = xs.length := by rw [List.size_toArray, ← rv.length]
    refine codeAny_builtin PySem.F.entry_extend_loop ?_
    rw [Around.under_plainId PySem.F.plain_extend_loop _]
    show wpAny _ A1.in1 (pyNext (.ref it) >>= _) _ _ s
    refine wpAny_bind (comb_item hi ⟨_, _, hp, rfl⟩ ne hz a (by omega) fun h' g1 g2 k z => ?_)
    have itl : it < s.heap.objs.size := Heap.lt_size hi
    have pol : pool < s.heap.objs.size := Heap.lt_size hp
    have new : ObjOk X.prog X.w (upd H s.heap.objs.size (.tup (atIx xs jx))) h' s.heap.objs.size (.tup (atIx xs jx)) := by
      refine ⟨?_, _, vals_atIx rv bd, ⟨_, g1, rfl, _, rfl⟩⟩
      show (atIx xs jx).length ≤ sizeLine
      unfold atIx
      rw [List.length_map, sizeLine_eq]
      omega
    have fr : H s.heap.objs.size = none := I.hok.fresh (Nat.le_refl _)
    have I1 : Inv X pins σ (upd H s.heap.objs.size (.tup (atIx xs jx))) { s with heap := h' } :=
      I.turnedNew (t' := s.toks) (ch := [it, pool]) (fun c o hb q => k c o (fun q' => hb (by simp [q'])) q) hf (Nat.le_refl _) new
    have qn : q ≠ s.heap.objs.size := ne_of_none hq fr
    have hq1 : upd H s.heap.objs.size (.tup (atIx xs jx)) q = some (.lst (Ts.map V.ref)) := by rw [upd_ne qn]; exact hq
    show wpAny _ A1.in1 (updateSeq q (·.push (.ref s.heap.objs.size)) >>= _) _ _ _
    obtain ⟨zz, its1, kk, r2, hl, e⟩ := I1.lstM hq1
    have lts : its1.length = Ts.length := by rw [← r2.length, List.length_map]
    refine wpAny_bind (wpAny_updateSeq e rfl (wpAny_pure ⟨plainId_quiet PySem.F.plain_extend_loop _, ?_⟩) (by rw [List.size_toArray, sizeLine_eq]; omega) (by show (its1.toArray.push _).size ≤ sizeLine + 1; rw [Array.size_push, List.size_toArray, sizeLine_eq]; omega))
    have I2 := I1.lset (f := (·.push (Value.ref s.heap.objs.size))) (its' := its1 ++ [Value.ref s.heap.objs.size]) (ys := (Ts ++ [s.heap.objs.size]).map V.ref) (t' := s.toks) hq1 e (by simp) (by
      rw [List.map_append]
      exact r2.append (.cons rfl .nil)) (by rw [List.length_map, List.length_append, List.length_singleton, sizeLine_eq]; omega)
    refine ih (t + 1) (Ts ++ [s.heap.objs.size]) _ _ (by omega) lt (by rw [List.length_append, List.length_singleton]; omega) I2 upd_same ?_ ?_ ?_ ?_
    · have n0' : H0 s.heap.objs.size = none := by
        cases e0 : H0 s.heap.objs.size with
        | none => rfl
        | some o =>
          rw [kp _ _ e0] at fr
          cases fr
      obtain ⟨t1, t2, t3⟩ := td
      have nin : s.heap.objs.size ∉ Ts := fun hm => by
        obtain ⟨j, hj, ej'⟩ := List.getElem_of_mem hm
        obtain ⟨_, _, h3⟩ := t3 j _ (by rw [List.getElem?_eq_getElem hj, ej'])
        rw [fr] at h3
        cases h3
      refine ⟨fun T hT => ?_, ?_, fun j T hT => ?_⟩
      · rcases List.mem_append.mp hT with hT | hT
        · exact t1 T hT
        · rw [List.mem_singleton.mp hT]
          exact n0'
      · rw [List.nodup_append]
        exact ⟨t2, by simp, fun x hx y hy => by
          rw [List.mem_singleton.mp hy]
          rintro rfl
          exact nin hx⟩
      · by_cases c : j < Ts.length
        · rw [List.getElem?_append_left c] at hT
          obtain ⟨ix', a1, a2⟩ := t3 j T hT
          have Tq : T ≠ q := fun z => by
            rw [z, hq] at a2
            cases a2
          exact ⟨ix', a1, by rw [upd_ne Tq, upd_ne (ne_of_none a2 fr)]; exact a2⟩
        · rw [List.getElem?_append_right (by omega)] at hT
          have ej' : j = t := by
            have := (List.getElem?_eq_some_iff.mp hT).1
            rw [List.length_singleton] at this
            omega
          subst ej'
          rw [show Ts.length = j by omega] at hT
          have eT : T = s.heap.objs.size := by simpa using hT.symm
          rw [eT]
          exact ⟨jx, ej, by rw [upd_ne (Ne.symm qn), upd_same]⟩
    · intro b o e0
      have bq : b ≠ q := fun z => by
        rw [z, n0] at e0
        cases e0
      rw [upd_ne bq, upd_ne (ne_of_none (kp b o e0) fr)]
      exact kp b o e0
    · intro b hb
      obtain ⟨f0, f1⟩ := hf b hb
      have b1 : b ≠ q := fun z => by
        have e' : b = it ∨ b = pool := by simpa using hb
        rcases e' with y | y
        · exact nq (z.symm.trans y)
        · exact np (z.symm.trans y)
      have b2 : b ≠ s.heap.objs.size := fun z => by
        have e' : b = it ∨ b = pool := by simpa using hb
        rcases e' with y | y
        · exact Nat.ne_of_lt itl (y.symm.trans z)
        · exact Nat.ne_of_lt pol (y.symm.trans z)
      exact ⟨by rw [upd_ne b1, upd_ne b2]; exact f0, f1⟩
    · refine ⟨⟨1, .ref s.heap.objs.size, jx, ?_, .inr (.inl ⟨rfl, (G.next t jx ej).symm⟩)⟩, ?_⟩
      · exact (Heap.get?_update_other _ _ nq).trans g2
      · exact (Heap.get?_update_other _ _ np).trans (k _ _ ne hp)
end
end Kc
end
section
set_option maxRecDepth 100000
set_option maxHeartbeats 4000000
namespace Kc
open PySem PySem.Spec PyProof.Rows L2
section
variable {X : Cx} {pins : List (Addr × Obj)} {σ : L2.St} {H : Hp} {s : Shared}
theorem hint_c {M : Model} {A : Around} {E : Value → Shared → Prop} {it : Addr} {Q : Bool → Shared → Prop} (hT : s.TypeIs (.ref it) TC) (h : Q true s) : wpAny M A (Builtin.List.listLengthHint (.ref it)) Q E s := by
  unfold Builtin.List.listLengthHint
  refine wpAny_bind (wpAny_specialOf hT noLen_c ?_)
  refine PySem.W.KFB.if_not rfl ?_
  refine PySem.W.KFB.if_not rfl ?_
  refine wpAny_bind (wpAny_specialOf hT noHint_c ?_)
  exact wpAny_pure h
theorem list_comb {it pool : Addr} {xs : List V} {its : List Value} {r : Nat} {L : List (List Nat)} {Q : VK} (hc : X.calm = true) (I : Inv X pins σ H s) (rv : Vals xs its) (ne : pool ≠ it) (G : Goes xs.length r L) (hr : r ≤ 100) (hL : L.length ≤ 4000)
    (hf : ∀ b ∈ [it, pool], FpOk X pins H b) (st : Stands it pool its xs.length L 0 s.heap)
    (done : ∀ (H2 : Hp) (D : Addr) (Ts : List Addr), Same H H2 → H D = none → H2 D = some (.lst (Ts.map V.ref)) → Told xs L H H2 Ts → Ts.length = L.length → Q (.ref D) H2) :
    wpAny (model X.prog X.w) X.A (call (.type "list") [.ref it]) (EP X pins σ Q) X.xe s := by
  refine callType_codes (Q₁ := fun r1 s1 => r1 = .ref s.heap.objs.size ∧ s1 = { s with heap := s.heap.push { cls := .type "list", data := .seq #[] } }) PySem.F.called_list (PySem.F.typeCall_list_1 _) PySem.F.entry_list_init
    (code_list_new _ ⟨rfl, rfl⟩) fun r1 s1 h1 => ?_
  obtain ⟨rfl, rfl⟩ := h1
  have hS : (s.heap.push { cls := .type "list", data := .seq #[] }).get? s.heap.objs.size = some { cls := .type "list", data := .seq #[] } := Heap.get?_push_size _ rfl
  refine ⟨⟨_, hS, rfl⟩, PySem.F.args_list_init_2 _ _, ?_⟩
  have fr : H s.heap.objs.size = none := I.hok.fresh (Nat.le_refl _)
  have I1 : Inv X pins σ (upd H s.heap.objs.size (.lst [])) { s with heap := s.heap.push { cls := .type "list", data := .seq #[] } } := I.lnew (its := []) (t' := s.toks) .nil (Nat.zero_le _)
  obtain ⟨⟨st0, res, ix, hi, a⟩, hp⟩ := st
  have itl : it < s.heap.objs.size := Heap.lt_size hi
  have pol : pool < s.heap.objs.size := Heap.lt_size hp
  have nq : s.heap.objs.size ≠ it := Nat.ne_of_gt itl
  have np : s.heap.objs.size ≠ pool := Nat.ne_of_gt pol
  show wpAny _ _ (do let old ← Builtin.List.listItems (.ref s.heap.objs.size); Builtin.List.listUpdate (.ref s.heap.objs.size) (fun _ => #[]); letGo old.toList.reverse; Builtin.List.listExtendWith (.ref s.heap.objs.size) (.ref it) .none) _ _ _
  refine wpAny_bind ?_
  unfold Builtin.List.listItems
  refine wpAny_bind (wpAny_seqItems hS rfl (wpAny_pure ?_))
  show wpAny _ _ (updateSeq s.heap.objs.size (fun _ => #[]) >>= fun _ => letGo (#[] : Array Value).toList.reverse >>= fun _ => Builtin.List.listExtendWith (.ref s.heap.objs.size) (.ref it) .none) _ _ _
  refine wpAny_bind (wpAny_updateSeq hS rfl ?_)
  have I2 := I1.lset (f := fun _ => #[]) (its := []) (its' := []) (ys := []) (t' := s.toks) upd_same hS rfl .nil (Nat.zero_le _)
  rw [upd_upd] at I2
  refine wpAny_bind (wpAny_letGo ?_)
  have g1 : ((s.heap.push { cls := .type "list", data := .seq #[] }).update s.heap.objs.size (Obj.mapSeq fun _ => (#[] : Array Value))).get? it = some (combO pool st0 res ix) := (Heap.get?_update_other _ _ nq).trans (Heap.get?_push_of_some _ hi)
  have g2 : ((s.heap.push { cls := .type "list", data := .seq #[] }).update s.heap.objs.size (Obj.mapSeq fun _ => (#[] : Array Value))).get? pool = some { cls := .type "tuple", data := .seq its.toArray } := (Heap.get?_update_other _ _ np).trans (Heap.get?_push_of_some _ hp)
  generalize (s.heap.push { cls := .type "list", data := .seq #[] }).update s.heap.objs.size (Obj.mapSeq fun _ => (#[] : Array Value)) = h2 at I2 g1 g2 ⊢
  have hT : Shared.TypeIs { s with heap := h2, toks := s.toks } (.ref it) TC := ⟨_, g1, rfl⟩
  unfold Builtin.List.listExtendWith
  refine wpAny_bind (wpAny_typeOf hT ?_)
  have h1 : Builtin.List.listSameRef (.ref s.heap.objs.size) (.ref it) = false := by simp [Builtin.List.listSameRef, nq]
  have h3 : (Value.type TC == Value.type "list") = false := by decide
  have h4 : (Value.type TC == Value.type "tuple") = false := by decide
  simp only [h1, h3, h4, Bool.or_false, Bool.false_eq_true, if_false]
  refine wpAny_bind (comb_self g1 ?_)
  refine wpAny_bind (wpAny_holding (hint_c hT ?_))
  have fp2 : ∀ b ∈ [it, pool], FpOk X pins (upd H s.heap.objs.size (.lst [])) b := fun b hb => by
    obtain ⟨f0, f1⟩ := hf b hb
    have b1 : b ≠ s.heap.objs.size := fun z => by
      have e' : b = it ∨ b = pool := by simpa using hb
      rcases e' with y | y
      · exact nq (z.symm.trans y)
      · exact np (z.symm.trans y)
    exact ⟨by rw [upd_ne b1]; exact f0, f1⟩
  have kp0 : ∀ b o, H b = some o → upd H s.heap.objs.size (.lst []) b = some o := fun b o e => by
    rw [upd_ne (ne_of_none e fr)]
    exact e
  have fin : ∀ {h3 : Heap}, Inv X pins σ (upd H s.heap.objs.size (.lst [])) { s with heap := h3, toks := s.toks } → Stands it pool its xs.length L 0 h3 →
      codeAny (model X.prog X.w) X.A.in1 (.builtin "list.extend.loop" ⟨[.ref s.heap.objs.size, .ref it, .none], []⟩) (wants (fun r s₂ => r = .none ∧ EP X pins σ Q (.ref s.heap.objs.size) s₂) X.xe) { s with heap := h3, toks := s.toks } := fun {h3} I3 st3 => by
    refine comb_loop (q := s.heap.objs.size) (H0 := H) (by simp [I.ok.hd hc]) rv ne nq np G hr hL fr (fun Ts H2 s2 J hq lt td kp => ?_) (L.length - 0) 0 [] _ _ rfl (Nat.zero_le _) rfl I3 upd_same ⟨(fun T hT => nomatch hT), List.nodup_nil, (fun j T hT => by simp at hT)⟩ kp0 fp2 st3
    exact ⟨rfl, .ref s.heap.objs.size, H2, J, rfl, done H2 _ Ts kp fr hq td lt⟩
  refine wpAny_ite_split (fun _ => ?_) (fun z => absurd rfl z)
  refine wpAny_bind (wpAny_rule ?_)
  refine wpAny_bind ?_
  show wpAny _ _ (updateSeq s.heap.objs.size (·.push .none) >>= fun _ => updateSeq s.heap.objs.size (·.pop)) _ _ _
  obtain ⟨z, its3, k, r3, hl3, e3⟩ := I2.lstM upd_same
  cases r3
  refine wpAny_bind (wpAny_updateSeq e3 rfl ?_)
  have I3 := I2.lset (f := (·.push Value.none)) (its' := [Value.none]) (ys := [.non]) (t' := s.toks) upd_same e3 (by simp) (.cons rfl .nil) (by rw [List.length_singleton, sizeLine_eq]; decide)
  obtain ⟨z4, its4, k4, r4, hl4, e4⟩ := I3.lstM upd_same
  obtain ⟨u4, rfl, ru4⟩ := r4.one
  refine wpAny_updateSeq e4 rfl ?_ (by show 1 ≤ sizeLine; rw [sizeLine_eq]; decide) (by show 0 ≤ sizeLine + 1; exact Nat.zero_le _)
  have I4 := I3.lset (f := (·.pop)) (its := [u4]) (its' := []) (ys := []) (t' := s.toks) upd_same e4 (by rfl) .nil (Nat.zero_le _)
  rw [upd_upd, upd_upd] at I4
  refine wpAny_pure ⟨plainId_quiet PySem.F.plain_extend_loop _, fin I4 ⟨⟨st0, res, ix, ?_, a⟩, ?_⟩⟩
  · exact (Heap.get?_update_other _ _ nq).trans ((Heap.get?_update_other _ _ nq).trans g1)
  · exact (Heap.get?_update_other _ _ np).trans ((Heap.get?_update_other _ _ np).trans g2)
end
end Kc
end
section
set_option maxRecDepth 100000
set_option maxHeartbeats 4000000
namespace Kc
open PySem PySem.Spec PyProof.Rows L2
theorem goesR {r n : Nat} (hr : r = 2 ∨ r = 3) (h : n ≤ 12) : Goes n r (ixsR r n) := by
  rcases hr with rfl | rfl
  · exact goes2 h
  · exact goes3 h
theorem all_len : ((List.range 13).all fun n => decide ((ixs2 n).length ≤ 4000) && decide ((ixs3 n).length ≤ 4000)) = true := by decide +kernel
theorem lenR {r n : Nat} (hr : r = 2 ∨ r = 3) (h : n ≤ 12) : (ixsR r n).length ≤ 4000 := by
  have q := List.all_eq_true.mp all_len n (List.mem_range.mpr (by omega))
  rw [Bool.and_eq_true] at q
  rcases hr with rfl | rfl
  · exact of_decide_eq_true q.1
  · exact of_decide_eq_true q.2
/-- what combinations(xs, r) asks -/
def rComb (K : PySem.W.Frag) (vs : List V) (H : Hp) (F : List V → Nat → Prop) : Prop := ∃ (a : Addr) (xs : List V) (r : Nat), vs = [.ref a, .int r] ∧ SqL K H a xs ∧ xs.length ≤ 12 ∧ (r = 2 ∨ r = 3) ∧ F xs r
def iComb (K : PySem.W.Frag) (ta : TA) : TI := fun σ H R => ta σ H fun vs H1 => rComb K vs H1 fun xs r => R (Itx xs (ixsR r xs.length)) H1
def tListComb (K : PySem.W.Frag) (ta : TA) : TE := fun σ H Q => ta σ H fun vs H1 => rComb K vs H1 fun xs r => ∀ (H2 : Hp) (D : Addr) (Ts : List Addr), Same H1 H2 → H1 D = none → H2 D = some (.lst (Ts.map V.ref)) →
  Told xs (ixsR r xs.length) H1 H2 Ts → Ts.length = (ixsR r xs.length).length → Q (.ref D) H2
section
variable {X : Cx} {pins : List (Addr × Obj)} {σ : L2.St} {H : Hp} {s : Shared}
/-- the iterator is made -/
theorem made_comb {vs : List V} {us : List Value} {F : List V → Nat → Prop} {Q : Value → Shared → Prop} (I : Inv X pins σ H s) (rv : Vals vs us) (h : rComb X.K vs H F)
    (q : ∀ (it pool : Addr) (xs : List V) (its : List Value) (r : Nat) (h' : Heap), F xs r → xs.length ≤ 12 → (r = 2 ∨ r = 3) → Vals xs its → pool ≠ it → Inv X pins σ H { s with heap := h' } → (∀ b ∈ [it, pool], FpOk X pins H b) → Stands it pool its xs.length (ixsR r xs.length) 0 h' → Q (.ref it) { s with heap := h' }) :
    wpAny (model X.prog X.w) X.A (call (.type TC) us) Q X.xe s := by
  obtain ⟨a, xs, r, rfl, hs, few, hr, f⟩ := h
  obtain ⟨u1, u2, rfl, r1, r2⟩ := vals2 rv
  obtain rfl : u1 = Value.ref a := r1
  obtain ⟨t, rfl⟩ := r2
  obtain ⟨its, rx, pl, _⟩ := I.list hs
  have len := rx.length
  refine call_comb pl.isList (by omega) (by rcases hr with e | e <;> omega) fun h' g1 g2 k => ?_
  have G := goesR (n := xs.length) hr few
  have I2 : Inv X pins σ H { s with heap := h' } := I.kept (t' := s.toks) k
  refine q _ _ xs its r h' f few hr rx (Nat.ne_of_lt (Nat.lt_succ_self _)) I2 (fun b hb => ?_) ⟨⟨_, _, _, g1, ?_⟩, g2⟩
  · have e' : b = s.heap.objs.size + 2 ∨ b = s.heap.objs.size + 1 := by simpa using hb
    have le : s.heap.objs.size ≤ b := by
      rcases e' with z | z
      · rw [z]
        exact Nat.le_add_right _ _
      · rw [z]
        exact Nat.le_add_right _ _
    exact I.fpOk le (I.hok.fresh le)
  · by_cases c : r > its.length
    · refine .inr (.inr ⟨by simp [c], ?_⟩)
      rw [G.start, if_pos (by omega)]
    · refine .inl ⟨by simp [c], ?_⟩
      rw [G.start, if_neg (by omega)]
/-- for .. in combinations(xs, r) -/
theorem pi_comb {tg e e2 : Expr} {ta : TA} {p pos : Pos} (hg : Gl X "combinations") (hm : X.mg "combinations" = some (.type TC)) (ha : PA X [e, e2] ta) (hs : starEach [e, e2] X.env = (false, eval e X.env) :: starEach [e2] X.env := by rfl)
    (hpl : (backTo pos (starEach [e2] X.env)).any (·.1) = false := by rfl) : PI X tg (.Call (.Name "combinations" p) [e, e2] [] pos) (iComb X.K ta) := by
  refine ⟨fun pins s σ H R I h => ?_⟩
  refine Call_ (ld_glob I hg hm (PyProof.Rows.callWith_type1 (thn (ha.run pos pins s σ H _ I h) fun us s1 ⟨vs, H1, I1, r1, q1⟩ => ?_) hs hpl))
  refine made_comb I1 r1 q1 fun it pool xs its r h' f few hr rx ne I2 hf st => ?_
  obtain ⟨⟨st0, res, ix, hi, a⟩, hp⟩ := id st
  exact comb_self hi ⟨it, [it, pool], _, _, H1, rfl, I2, turn_comb rx ne (goesR hr few) (by rcases hr with e | e <;> omega), st, hf, f⟩
/-- list(combinations(xs, r)) -/
theorem pe_listComb {e e2 : Expr} {ta : TA} {p p2 pos pos2 : Pos} (hc : X.calm = true) (hg : Gl X "list") (hm : X.mg "list" = none) (hg2 : Gl X "combinations") (hm2 : X.mg "combinations" = some (.type TC)) (ha : PA X [e, e2] ta)
    (hs : starEach [e, e2] X.env = (false, eval e X.env) :: starEach [e2] X.env := by rfl) (hpl : (backTo pos2 (starEach [e2] X.env)).any (·.1) = false := by rfl) :
    PE X (.Call (.Name "list" p) [.Call (.Name "combinations" p2) [e, e2] [] pos2] [] pos) (tListComb X.K ta) := by
  refine ⟨fun pins s σ H Q I h => ?_⟩
  refine Call_ (ld_blt I hg hm PyProof.Rows.boot_list ?_)
  refine PyProof.Rows.callWith_type1 (PyProof.Rows.args_cons ?_ rfl) rfl rfl
  refine Call_ (ld_glob I hg2 hm2 (PyProof.Rows.callWith_type1 (thn (ha.run pos2 pins s σ H _ I h) fun us s1 ⟨vs, H1, I1, r1, q1⟩ => ?_) hs hpl))
  refine made_comb I1 r1 q1 fun it pool xs its r h' f few hr rx ne I2 hf st => PyProof.Rows.args_nil ?_
  exact list_comb hc I2 rx ne (goesR hr few) (by rcases hr with e | e <;> omega) (lenR hr few) hf st fun H2 D Ts a b c d e => f H2 D Ts a b c d e
end
end Kc
end
section
set_option maxRecDepth 100000
set_option maxHeartbeats 4000000
namespace Wd
open PySem L2
theorem ite_f {c : Bool} {A B : Prop} (hc : c = false) (h : B) : if c = true then A else B := by
  subst hc
  exact iteF h
theorem ite_t {c : Bool} {A B : Prop} (hc : c = true) (h : A) : if c = true then A else B := by
  subst hc
  exact iteT h
/-- isinstance of a thing of a built-in type -/
theorem isW_lt {x : Str} (h : IsW x) (i : Nat) (c : Nat) (hc : x.cps[i]? = some c) : 97 ≤ c ∧ c ≤ 122 := h.2.2 c (by
  rw [← Array.getElem?_toList] at hc
  exact List.mem_of_getElem? hc)
theorem le_sign {a b : Nat} (h : a ≤ b) : (!decide ((⟨#[b]⟩ : Str).cps.toList < (⟨#[a]⟩ : Str).cps.toList)) = true := by
  rw [Bool.not_eq_true', decide_eq_false_iff_not]
  show ¬ ([b] < [a])
  intro z
  rcases List.cons_lt_cons_iff.mp z with q | q
  · omega
  · exact absurd q.2 (by simp)
def spIsWord : Sp := fun vs H Q _ => ∃ x : Str, vs = [.str x] ∧ IsW x ∧ ∀ H', Same H H' → Q (.bl true) H'
/-- a list of texts, none twice; or of pairs -/
def spUnlike (K : PySem.W.Frag) : Sp := fun vs H Q _ => ∃ (l : Addr), vs = [.ref l] ∧ ((∃ xs : List Str, SqL K H l (xs.map V.str) ∧ xs.length < 4000 ∧ xs.Nodup) ∨
  ∃ (Ts : List Addr) (ps : List Pr), SqL K H l (Ts.map V.ref) ∧ Tups H Ts (ps.map tv) ∧ ps.length < 64 ∧ ps.Nodup) ∧ Q (.bl true) H
section
variable {P : Program} {w : World} {K : PySem.W.Frag} {mg : Str → Option Value} {base : Heap}
theorem ok_is_word {f : Addr} {fd : FuncData} (F : Fun K "is_word" "is_word" sp_is_word f fd) (T : Bt mg) (mL : ∃ t, mg "LONGEST_WORD" = some (.int 8 t)) : FnOk P w K mg base CX0 1 f fd ["value"] spIsWord := by
  obtain ⟨t8, mL⟩ := mL
  refine F.ok cp_is_word (fun vs H Q E h => ?_) (fun cdv A outer s H vs Q E hr h => ?_)
  · obtain ⟨_, rfl, _⟩ := h
    rfl
  · obtain ⟨x, rfl, hx, k⟩ := h
    refine ⟨_, pss_cons (ps_if (PW.pt (pw_or (pt_not (pt_val (pe_callB call_isi (by rfl) T.isi (by decide +kernel) (pa_cons (pv 0) (pa_cons (pe_bltn (v := .ty "str") (by rfl) T.str (by decide +kernel) rfl) pa_nil)))))
        (pw_or1 (pt_cmpR op_gt (pe_callB call_len_str (by rfl) T.len PySem.boot_len (pa_cons (pv 0) pa_nil)) (pe_glob (v := .int 8) rfl mL ⟨_, rfl⟩) (nomark _))))) (pss_one (ps_ret pe_bl)) pss_nil)
      (pss_one (ps_ret (pe_and (pe_cmpR op_gt (pe_callB call_len_str (by rfl) T.len PySem.boot_len (pa_cons (pv 0) pa_nil)) pe_int (nomark _))
        (pe_one (pe_callB (cr_all rfl) (by rfl) T.all (by decide +kernel) (pa_cons (pe_lc (own := [("letter", 1)]) (g := gName 1) (tt := tYes) rfl cp_is_word.nd (pi_str (pv 0))
          (blkOk_by (N := ["value", "letter"]) (sc := defScope sp_is_word) (by decide +kernel)) (fun _ _ _ _ _ => pg_name (i := 1) cp_is_word.nd rfl (Or.inl rfl)) (fun _ _ _ _ _ => pts_nil)
          (fun _ _ _ _ _ => pe_chain op_le_str op_le_str pe_str (pv 1) pe_str)) pa_nil)))))), ?_⟩
    have l8 : x.length ≤ 8 := hx.2.1
    have l1 : 1 ≤ x.length := hx.1
    refine ⟨_, rfl, _, _, _, _, _, rfl, .ty "str", .base (.str x), kit_ty (a := "str") (r := true) (by decide +kernel), _, rfl, ?_⟩
    refine iteF ?_
    refine ⟨_, rfl, _, rfl, by rw [sizeLine_eq]; omega, _, _, rfl, rfl, _, rfl, ?_⟩
    refine ite_f (decide_eq_false (by omega)) ?_
    refine ⟨_, rfl, _, rfl, by rw [sizeLine_eq]; omega, _, _, rfl, rfl, _, rfl, ?_⟩
    refine ite_t (decide_eq_true (by omega)) ?_
    refine ⟨_, rfl, _, rfl, fun D hD => ?_⟩
    refine lc_it walk_str (fun i H' => H' = upd H D (.lst ((List.replicate i true).map V.bl))) rfl (fun _ _ _ _ => True.intro) ?_ ?_
    · rintro i v H1 H' hi rfl ⟨rfl, c, hc, rfl⟩
      have hb := isW_lt hx i c hc
      refine ⟨rfl, _, rfl, _, _, rfl, rfl, _, rfl, ?_⟩
      refine ite_t (le_sign hb.1) ?_
      refine ⟨_, _, rfl, rfl, _, upd_same, by rw [List.length_map, List.length_replicate, sizeLine_eq]; have : x.cps.size = x.length := rfl; omega, ?_⟩
      rw [upd_upd]
      refine congrArg (fun l => upd H D (.lst l)) ?_
      rw [List.replicate_succ', List.map_append]
      refine congrArg (fun b => (List.replicate i true).map V.bl ++ [V.bl b]) ?_
      exact le_sign hb.2
    · rintro H' rfl
      refine ⟨D, _, rfl, SqL.of upd_same, ?_⟩
      have e : (List.replicate x.cps.size true).all id = true := by simp
      rw [e]
      exact k _ (same_new hD)
theorem ok_unlike {f : Addr} {fd : FuncData} (F : Fun K "are_unlike" "are_unlike" sp_are_unlike f fd) (T : Bt mg) : FnOk P w K mg base CX0 1 f fd ["things"] (spUnlike K) := by
  refine F.ok cp_are_unlike (fun vs H Q E h => ?_) (fun cdv A outer s H vs Q E hr h => ?_)
  · obtain ⟨_, rfl, _⟩ := h
    rfl
  · obtain ⟨l, rfl, hx, k⟩ := h
    refine ⟨_, pss_one (ps_ret (pe_cmpR op_eq (Kx.pe_lenU rfl hr.units (by rfl) T.len (by rfl) T.set (pv 0)) (pe_callB call_len_seq (by rfl) T.len PySem.boot_len (pa_cons (pv 0) pa_nil)) (nomark _))), ?_⟩
    rcases hx with ⟨xs, h1, h2, h3⟩ | ⟨Ts, ps, h1, h2, h3, h4⟩
    · refine ⟨_, rfl, _, .inl ⟨l, xs, rfl, h1, h2, rfl⟩, _, rfl, l, _, rfl, .inl h1, rfl, ?_⟩
      rw [List.length_map, (Kx.cnt_iff xs).mpr h3]
      rw [decide_eq_true rfl]
      exact k
    · have lT : Ts.length = ps.length := by rw [h2.1, List.length_map]
      have e1 : (Ts.zip ps).map (fun z => V.ref z.1) = Ts.map V.ref := by
        have : ((Ts.zip ps).map Prod.fst).map V.ref = Ts.map V.ref := by rw [List.map_fst_zip (by omega)]
        rw [← this, List.map_map]
        rfl
      refine ⟨_, rfl, _, .inr ⟨l, (Ts.zip ps).map fun z => (z.1, pk z.2), rfl, by rw [List.map_map]; exact e1 ▸ h1, fun z hz => ?_, by rw [List.length_map, List.length_zip]; omega, rfl⟩, _, rfl, l, _, rfl, .inl h1, rfl, ?_⟩
      · obtain ⟨y, hy, rfl⟩ := List.mem_map.mp hz
        obtain ⟨j, hj, e⟩ := List.getElem_of_mem hy
        have e' : (Ts.zip ps)[j]? = some y := by rw [List.getElem?_eq_getElem hj, e]
        obtain ⟨z1, z2⟩ := List.getElem?_zip_eq_some.mp e'
        exact SqT.of (h2.2 j y.1 (tv y.2) z1 (by rw [List.getElem?_map, z2]; rfl))
      · have e2 : ((Ts.zip ps).map fun z => (z.1, pk z.2)).map (fun q => q.2) = ps.map pk := by
          have : ((Ts.zip ps).map Prod.snd).map pk = ps.map pk := by rw [List.map_snd_zip (by omega)]
          rw [← this, List.map_map, List.map_map]
          rfl
        have e3 : ((Ts.zip ps).map fun z => (z.1, pk z.2)).length = (ps.map pk).length := by rw [List.length_map, List.length_map, List.length_zip]; omega
        have nd : (ps.map pk).Nodup := List.Pairwise.map pk (fun a b (h : a ≠ b) e => h (pk_inj e)) h4
        rw [e2, e3, (Kx.cnt_iff _).mpr nd, List.length_map, List.length_map, lT]
        rw [decide_eq_true rfl]
        exact k
end
end Wd
end
section
set_option maxRecDepth 100000
set_option maxHeartbeats 4000000
namespace Wd
open PySem L2
def trues (n : Nat) : List V := (List.replicate n true).map V.bl
theorem trues_len (n : Nat) : (trues n).length = n := by rw [trues, List.length_map, List.length_replicate]
theorem trues_next (n : Nat) : trues n ++ [.bl true] = trues (n + 1) := by
  rw [trues, trues, List.replicate_succ', List.map_append]
  rfl
theorem trues_all (n : Nat) : (List.replicate n true).all id = true := by simp
/-- pairs of these people -/
def Of (xs : List Str) (ps : List Pr) : Prop := ∀ p ∈ ps, p.1 ∈ xs ∧ p.2 ∈ xs ∧ Lt p.1 p.2
theorem Good.of {xs : List Str} {ps : List Pr} (g : Good xs ps) : Of xs ps := fun _ h => mem_prsS g.asc (g.sub.subset h)
def spIsPair : Sp := fun vs H Q _ => ∃ (t : Addr) (p : Pr), vs = [.ref t] ∧ H t = some (.tup [.str p.1, .str p.2]) ∧ IsW p.1 ∧ IsW p.2 ∧ Lt p.1 p.2 ∧ ∀ H', Same H H' → Q (.bl true) H'
def spArePpl : Sp := fun vs H Q _ => ∃ (l : Addr) (xs : List Str), vs = [.ref l] ∧ H l = some (.lst (xs.map V.str)) ∧ xs.Nodup ∧ (∀ x ∈ xs, IsW x) ∧ 1 ≤ xs.length ∧ xs.length ≤ 100 ∧ ∀ H', Same H H' → Q (.bl true) H'
def spPairOf : Sp := fun vs H Q _ => ∃ (l t : Addr) (xs : List Str) (p : Pr), vs = [.ref l, .ref t] ∧ H l = some (.lst (xs.map V.str)) ∧ H t = some (.tup [.str p.1, .str p.2]) ∧ p.1 ∈ xs ∧ p.2 ∈ xs ∧ Lt p.1 p.2 ∧ Q (.bl true) H
def spPairsOf : Sp := fun vs H Q _ => ∃ (l m : Addr) (xs : List Str) (ps : List Pr), vs = [.ref l, .ref m] ∧ H l = some (.lst (xs.map V.str)) ∧ PwAt H m ps ∧ ps.Nodup ∧ ps.length ≤ 60 ∧ Of xs ps ∧ ∀ H', Same H H' → Q (.bl true) H'
section
variable {P : Program} {w : World} {K : PySem.W.Frag} {mg : Str → Option Value} {base : Heap}
theorem ok_is_person {f : Addr} {fd : FuncData} (F : Fun K "is_person" "is_person" sp_is_person f fd) (CW : Has P w K mg base 1 "is_word" ["value"] spIsWord) : FnOk P w K mg base CX0 2 f fd ["value"] spIsWord := by
  obtain ⟨fW, fdW, GW, mW, kW, bW⟩ := CW
  refine F.ok cp_is_person (fun vs H Q E h => ?_) (fun cdv A outer s H vs Q E hr h => ?_)
  · obtain ⟨_, rfl, _⟩ := h
    rfl
  · obtain ⟨x, rfl, hx, k⟩ := h
    refine ⟨_, pss_one (ps_ret (pe_call GW hr rfl mW kW bW .nil pass0 (pa_cons (pv 0) pa_nil))), ?_⟩
    exact ⟨_, rfl, x, rfl, hx, k⟩
theorem ok_are_people {f : Addr} {fd : FuncData} (F : Fun K "are_people" "are_people" sp_are_people f fd) (T : Bt mg) (CW : Has P w K mg base 2 "is_person" ["value"] spIsWord) (CU : Has P w K mg base 1 "are_unlike" ["things"] (spUnlike K)) :
    FnOk P w K mg base CX0 3 f fd ["value"] spArePpl := by
  obtain ⟨fW, fdW, GW, mW, kW, bW⟩ := CW
  obtain ⟨fU, fdU, GU, mU, kU, bU⟩ := CU
  refine F.ok cp_are_people (fun vs H Q E h => ?_) (fun cdv A outer s H vs Q E hr h => ?_)
  · obtain ⟨_, _, rfl, _⟩ := h
    rfl
  · obtain ⟨l, xs, rfl, hl, nd, hw, l1, l2, k⟩ := h
    have hr1 : Room 1 _ := hr.mono (by decide)
    refine ⟨_, pss_cons (ps_if (PW.pt (pw_or (pt_not (pt_val (pe_callB call_isi (by rfl) T.isi (by decide +kernel) (pa_cons (pv 0) (pa_cons (pe_bltn (v := .ty "list") (by rfl) T.list (by decide +kernel) rfl) pa_nil)))))
        (pw_or1 (pt_cmpR op_eq (pe_callB call_len_seq (by rfl) T.len PySem.boot_len (pa_cons (pv 0) pa_nil)) pe_int (nomark _))))) (pss_one (ps_ret pe_bl)) pss_nil)
      (pss_one (ps_ret (pe_and (pe_callB (cr_all rfl) (by rfl) T.all (by decide +kernel) (pa_cons (pe_lc (own := [("person", 1)]) (g := gName 1) (tt := tYes) rfl cp_are_people.nd (pi_list (pv 0))
          (blkOk_by (N := ["value", "person"]) (sc := defScope sp_are_people) (by decide +kernel)) (fun _ _ _ _ _ => pg_name (i := 1) cp_are_people.nd rfl (Or.inl rfl)) (fun _ _ _ _ _ => pts_nil)
          (fun _ _ _ _ _ => pe_call GW hr rfl mW kW bW .nil pass0 (pa_cons (pv 1) pa_nil))) pa_nil))
        (pe_one (pe_call GU hr1 rfl mU kU bU .nil pass0 (pa_cons (pv 0) pa_nil)))))), ?_⟩
    refine ⟨_, rfl, _, _, _, _, _, rfl, .ty "list", .base (.lst hl), kit_ty (a := "list") (r := true) (by decide +kernel), _, rfl, ?_⟩
    refine iteF ?_
    refine ⟨_, rfl, l, _, rfl, .inl (SqL.of hl), rfl, _, rfl, ?_⟩
    refine ite_f (decide_eq_false (fun e => ?_)) ?_
    · have e := V.int.inj e
      rw [List.length_map] at e
      omega
    refine ⟨_, rfl, l, rfl, ⟨_, SqL.of hl⟩, fun D hD => ?_⟩
    refine lc_list (xs := xs.map V.str) (fun i H' => H' D = some (.lst (trues i)) ∧ Same H H') ⟨upd_same, same_new hD⟩ (fun i H' _ h => SqL.of (h.2 _ _ hl)) ?_ ?_
    · rintro i v H' hv ⟨hd, s1⟩
      rw [List.getElem?_map] at hv
      obtain ⟨x, hx, rfl⟩ := Option.map_eq_some_iff.mp hv
      have il := (List.getElem?_eq_some_iff.mp hx).1
      refine ⟨rfl, _, rfl, x, rfl, hw x (List.mem_of_getElem? hx), fun H2 s2 => ?_⟩
      refine ⟨_, s2 _ _ hd, by rw [trues_len, sizeLine_eq]; omega, ?_, same_upd2 (.inr (s1.trans s2)) hD⟩
      rw [upd_same, trues_next]
    · rintro H' ⟨hd, s1⟩
      refine ⟨D, _, rfl, SqL.of hd, ?_⟩
      rw [trues_all]
      refine ⟨_, rfl, iteT ?_⟩
      exact ⟨_, rfl, l, rfl, .inl ⟨xs, SqL.of (s1 _ _ hl), by omega, nd⟩, k _ s1⟩
theorem ok_is_pair_of {f : Addr} {fd : FuncData} (F : Fun K "is_pair_of" "is_pair_of" sp_is_pair_of f fd) (T : Bt mg) : FnOk P w K mg base CX0 1 f fd ["people", "value"] spPairOf := by
  refine F.ok cp_is_pair_of (fun vs H Q E h => ?_) (fun cdv A outer s H vs Q E hr h => ?_)
  · obtain ⟨_, _, _, _, rfl, _⟩ := h
    rfl
  · obtain ⟨l, t, xs, p, rfl, hl, ht, m1, m2, lt, k⟩ := h
    refine ⟨_, pss_cons (ps_if (PW.pt (pw_or (pt_not (pt_val (pe_callB call_isi (by rfl) T.isi (by decide +kernel) (pa_cons (pv 1) (pa_cons (pe_bltn (v := .ty "tuple") (by rfl) T.tuple (by decide +kernel) rfl) pa_nil)))))
        (pw_or1 (pt_cmpR op_ne (pe_callB call_len_seq (by rfl) T.len PySem.boot_len (pa_cons (pv 1) pa_nil)) pe_int (nomark _))))) (pss_one (ps_ret pe_bl)) pss_nil)
      (pss_one (ps_ret (pe_and (pe_cmpR op_in_seq (pe_ix ix_tup (pv 1) pe_int (fun _ _ => rfl)) (pv 0) rfl)
        (pe_and (pe_cmpR op_in_seq (pe_ix ix_tup (pv 1) pe_int (fun _ _ => rfl)) (pv 0) rfl)
        (pe_one (pe_cmpR op_lt_str (pe_ix ix_tup (pv 1) pe_int (fun _ _ => rfl)) (pe_ix ix_tup (pv 1) pe_int (fun _ _ => rfl)) (nomark _))))))), ?_⟩
    refine ⟨_, rfl, _, _, _, _, _, rfl, .ty "tuple", .base (.tup ht), kit_ty (a := "tuple") (r := true) (by decide +kernel), _, rfl, ?_⟩
    refine iteF ?_
    refine ⟨_, rfl, t, _, rfl, .inr (SqT.of ht), rfl, _, rfl, ?_⟩
    refine ite_f (by rfl) ?_
    refine ⟨_, rfl, t, _, _, .str p.1, rfl, rfl, SqT.of ht, rfl, _, rfl, l, _, rfl, .inl (SqL.of hl), rfl, flat_strs' xs, ?_⟩
    rw [in_strs, decide_eq_true m1]
    refine ⟨_, rfl, iteT ?_⟩
    refine ⟨_, rfl, t, _, _, .str p.2, rfl, rfl, SqT.of ht, rfl, _, rfl, l, _, rfl, .inl (SqL.of hl), rfl, flat_strs' xs, ?_⟩
    rw [in_strs, decide_eq_true m2]
    refine ⟨_, rfl, iteT ?_⟩
    refine ⟨_, rfl, t, _, _, .str p.1, rfl, rfl, SqT.of ht, rfl, _, rfl, t, _, _, .str p.2, rfl, rfl, SqT.of ht, rfl, _, _, rfl, rfl, ?_⟩
    have e : decide (p.1.cps.toList < p.2.cps.toList) = true := decide_eq_true lt
    rw [e]
    exact k
theorem ok_are_pairs_of {f : Addr} {fd : FuncData} (F : Fun K "are_pairs_of" "are_pairs_of" sp_are_pairs_of f fd) (T : Bt mg) (CP : Has P w K mg base 1 "is_pair_of" ["people", "value"] spPairOf) (CU : Has P w K mg base 1 "are_unlike" ["things"] (spUnlike K)) :
    FnOk P w K mg base CX0 2 f fd ["people", "value"] spPairsOf := by
  obtain ⟨fW, fdW, GW, mW, kW, bW⟩ := CP
  obtain ⟨fU, fdU, GU, mU, kU, bU⟩ := CU
  refine F.ok cp_are_pairs_of (fun vs H Q E h => ?_) (fun cdv A outer s H vs Q E hr h => ?_)
  · obtain ⟨_, _, _, _, rfl, _⟩ := h
    rfl
  · obtain ⟨l, m, xs, ps, rfl, hl, ⟨Ts, hm, tu⟩, nd, l2, of, k⟩ := h
    refine ⟨_, pss_cons (ps_if (pt_not (pt_val (pe_callB call_isi (by rfl) T.isi (by decide +kernel) (pa_cons (pv 1) (pa_cons (pe_bltn (v := .ty "list") (by rfl) T.list (by decide +kernel) rfl) pa_nil))))) (pss_one (ps_ret pe_bl)) pss_nil)
      (pss_one (ps_ret (pe_and (pe_callB (cr_all rfl) (by rfl) T.all (by decide +kernel) (pa_cons (pe_lc (own := [("pair", 2)]) (g := gName 2) (tt := tYes) rfl cp_are_pairs_of.nd (pi_list (pv 1))
          (blkOk_by (N := ["people", "value", "pair"]) (sc := defScope sp_are_pairs_of) (by decide +kernel)) (fun _ _ _ _ _ => pg_name (i := 2) cp_are_pairs_of.nd rfl (Or.inl rfl)) (fun _ _ _ _ _ => pts_nil)
          (fun _ _ _ _ _ => pe_call GW hr rfl mW kW bW .nil pass0 (pa_cons (pv 0) (pa_cons (pv 2) pa_nil)))) pa_nil))
        (pe_one (pe_call GU hr rfl mU kU bU .nil pass0 (pa_cons (pv 1) pa_nil)))))), ?_⟩
    have lT : Ts.length = ps.length := by rw [tu.1, List.length_map]
    refine ⟨_, rfl, _, _, _, _, _, rfl, .ty "list", .base (.lst hm), kit_ty (a := "list") (r := true) (by decide +kernel), _, rfl, ?_⟩
    refine iteF ?_
    refine ⟨_, rfl, m, rfl, ⟨_, SqL.of hm⟩, fun D hD => ?_⟩
    refine lc_list (xs := Ts.map V.ref) (fun i H' => H' D = some (.lst (trues i)) ∧ Same H H') ⟨upd_same, same_new hD⟩ (fun i H' _ h => SqL.of (h.2 _ _ hm)) ?_ ?_
    · rintro i v H' hv ⟨hd, s1⟩
      rw [List.getElem?_map] at hv
      obtain ⟨U, hU, rfl⟩ := Option.map_eq_some_iff.mp hv
      have il := (List.getElem?_eq_some_iff.mp hU).1
      have hp : ps[i]? = some ps[i] := List.getElem?_eq_getElem (by omega)
      have mp := of _ (List.mem_of_getElem? hp)
      generalize ps[i] = p at hp mp
      have e1 := s1 _ _ (tu.2 i U (tv p) hU (by rw [List.getElem?_map, hp]; rfl))
      refine ⟨rfl, _, rfl, _, rfl, l, U, xs, p, rfl, s1 _ _ hl, e1, mp.1, mp.2.1, mp.2.2, ?_⟩
      refine ⟨_, hd, by rw [trues_len, sizeLine_eq]; omega, ?_, same_upd2 (.inr s1) hD⟩
      rw [upd_same, trues_next]
    · rintro H' ⟨hd, s1⟩
      refine ⟨D, _, rfl, SqL.of hd, ?_⟩
      rw [trues_all]
      refine ⟨_, rfl, iteT ?_⟩
      exact ⟨_, rfl, m, rfl, .inr ⟨Ts, ps, SqL.of (s1 _ _ hm), tu.same s1, by omega, nd⟩, k _ s1⟩
end
end Wd
end
section
set_option maxRecDepth 100000
set_option maxHeartbeats 4000000
namespace Wd
open PySem L2
theorem ascS_uniq : ∀ {l m : List Str}, Asc l → Asc m → (∀ x, x ∈ l ↔ x ∈ m) → l = m
  | [], [], _, _, _ => rfl
  | [], y :: m, _, _, h => absurd ((h y).mpr List.mem_cons_self) (by simp)
  | x :: l, [], _, _, h => absurd ((h x).mp List.mem_cons_self) (by simp)
  | x :: l, y :: m, a, b, h => by
    obtain ⟨a1, a2⟩ := List.pairwise_cons.mp a
    obtain ⟨b1, b2⟩ := List.pairwise_cons.mp b
    have e : x = y := by
      rcases List.mem_cons.mp ((h x).mp List.mem_cons_self) with z | z
      · exact z
      · rcases List.mem_cons.mp ((h y).mpr List.mem_cons_self) with q | q
        · exact q.symm
        · exact absurd ((b1 x z).tr (a1 y q)) (Lt.irr _)
    subst e
    rw [ascS_uniq a2 b2 fun z => ?_]
    constructor
    · intro hz
      rcases List.mem_cons.mp ((h z).mp (List.mem_cons_of_mem _ hz)) with q | q
      · rw [q] at hz
        exact absurd (a1 x hz) (Lt.irr _)
      · exact q
    · intro hz
      rcases List.mem_cons.mp ((h z).mpr (List.mem_cons_of_mem _ hz)) with q | q
      · rw [q] at hz
        exact absurd (b1 x hz) (Lt.irr _)
      · exact q
/-- the attributes as __init__ stores them -/
def cF (a b : Addr) : List (Str × V) := putF "_friends" (.ref b) (putF "_people" (.ref a) [])
theorem cF_p (a b : Addr) : (cF a b).lookup ("_people" : Str) = some (.ref a) := by
  unfold cF
  rw [lookup_putF, if_neg (by decide +kernel), lookup_putF, if_pos rfl]
theorem cF_f (a b : Addr) : (cF a b).lookup ("_friends" : Str) = some (.ref b) := by
  unfold cF
  rw [lookup_putF, if_pos rfl]
theorem cF_no (a b : Addr) {m : Str} (h1 : ¬ m = "_friends") (h2 : ¬ m = "_people") : (cF a b).lookup m = none := by
  unfold cF
  rw [lookup_putF, if_neg h1, lookup_putF, if_neg h2]
  all_goals rfl
/-- a company of xs and ps stands at c -/
def CAt (C : Addr) (H : Hp) (c : Addr) (xs : List Str) (ps : List Pr) : Prop := ∃ dx a b, H c = some (.ins C dx (cF a b)) ∧ H a = some (.lst (xs.map V.str)) ∧ PwAt H b ps
theorem PwAt.same {H H' : Hp} {l : Addr} {ps : List Pr} (h : PwAt H l ps) (s : Same H H') : PwAt H' l ps := PrsAt.same h s
theorem CAt.same {C : Addr} {H H' : Hp} {c : Addr} {xs : List Str} {ps : List Pr} (h : CAt C H c xs ps) (s : Same H H') : CAt C H' c xs ps := by
  obtain ⟨dx, a, b, h1, h2, h3⟩ := h
  exact ⟨dx, a, b, s _ _ h1, s _ _ h2, h3.same s⟩
theorem CAt.sameX {C : Addr} {H H' : Hp} {q c : Addr} {c0 : Int} {n : Nat} {xs : List Str} {ps : List Pr} (h : CAt C H c xs ps) (pa : PurseAt H q c0 n) (s : SameX q H H') : CAt C H' c xs ps := by
  obtain ⟨dx, a, b, h1, h2, h3⟩ := h
  refine ⟨dx, a, b, s _ _ (purse_ne pa h1 fun _ _ _ _ z => nomatch z) h1, sameX_lst pa s h2 (fun x hx i z => ?_), h3.sameX pa s⟩
  obtain ⟨y, _, e⟩ := List.mem_map.mp hx
  rw [z] at e
  cases e
structure CT (K : PySem.W.Frag) (mg : Str → Option Value) (C : Addr) : Prop where
  nP : NoAttr K C "_people"
  nF : NoAttr K C "_friends"
  mC : mg "Company" = some (.ref C)
  is : C8.InsC K C
def sdL (xs : List Str) : PyData := .list (xs.map PyData.str)
def pdL (ps : List Pr) : PyData := .list (ps.map pd)
theorem dp_strs {K : PySem.W.Frag} {H : Hp} : ∀ xs : List Str, DpAll K H (xs.map V.str) (xs.map PyData.str)
  | [] => .nil
  | x :: xs => .cons (.str x) (dp_strs xs)
theorem dp_sdL {K : PySem.W.Frag} {H : Hp} {a : Addr} {xs : List Str} (h : SqL K H a (xs.map V.str)) : Dp K H (.ref a) (sdL xs) := .lst h (dp_strs xs)
theorem dp_prsL {K : PySem.W.Frag} {H : Hp} : ∀ (Ts : List Addr) (ps : List Pr), Tups H Ts (ps.map tv) → DpAll K H (Ts.map V.ref) (ps.map pd)
  | [], [], _ => .nil
  | [], p :: ps, t => by have := t.1; simp at this
  | T :: Ts, [], t => by have := t.1; simp at this
  | T :: Ts, p :: ps, t => .cons (dp_pair (SqT.of (t.2 0 T (tv p) rfl rfl))) (dp_prsL Ts ps ⟨by have := t.1; simpa using this, fun k U q h1 h2 => t.2 (k + 1) U q (by simpa using h1) (by simpa using h2)⟩)
theorem dp_pdL {K : PySem.W.Frag} {H : Hp} {a : Addr} {Ts : List Addr} {ps : List Pr} (h : SqL K H a (Ts.map V.ref)) (t : Tups H Ts (ps.map tv)) : Dp K H (.ref a) (pdL ps) := .lst h (dp_prsL Ts ps t)
theorem lay_sd : ∀ xs : List Str, (∀ x ∈ xs, IsW x) → PyData.canLayAll0 (xs.map PyData.str) = true ∧ PyData.depthAll (xs.map PyData.str) = 0
  | [], _ => by simp [PyData.canLayAll0, PyData.depthAll]
  | x :: xs, h => by
    obtain ⟨h1, h2⟩ := lay_sd xs fun y hy => h y (List.mem_cons_of_mem _ hy)
    simp [PyData.canLayAll0, PyData.depthAll, PyData.canLay0, PyData.depth, isW_ok (h x List.mem_cons_self), h1, h2]
theorem lay_pd : ∀ ps : List Pr, (∀ p ∈ ps, IsW p.1 ∧ IsW p.2) → PyData.canLayAll0 (ps.map pd) = true ∧ PyData.depthAll (ps.map pd) ≤ 1
  | [], _ => by simp [PyData.canLayAll0, PyData.depthAll]
  | p :: ps, h => by
    obtain ⟨h1, h2⟩ := lay_pd ps fun y hy => h y (List.mem_cons_of_mem _ hy)
    have hp := h p List.mem_cons_self
    have e1 : (pd p).canLay0 = true := by simp [pd, PyData.canLay0, PyData.canLayAll0, isW_ok hp.1, isW_ok hp.2]
    have e2 : (pd p).depth = 1 := by simp [pd, PyData.depth, PyData.depthAll]
    refine ⟨by simp [PyData.canLayAll0, e1, h1], ?_⟩
    simp only [List.map_cons, PyData.depthAll, e2]
    omega
theorem sdL_lay {xs : List Str} (h : ∀ x ∈ xs, IsW x) : PyData.canLay0 (sdL xs) = true := by
  unfold sdL
  simp only [PyData.canLay0]
  exact (lay_sd xs h).1
theorem pdL_lay {ps : List Pr} (h : ∀ p ∈ ps, IsW p.1 ∧ IsW p.2) : PyData.canLay0 (pdL ps) = true := by
  unfold pdL
  simp only [PyData.canLay0]
  exact (lay_pd ps h).1
theorem sdL_shaped {xs : List Str} (h : ∀ x ∈ xs, IsW x) : SeqAt.shaped (sdL xs) = true := by
  have d : PyData.depth (sdL xs) ≤ 64 := by
    unfold sdL
    simp only [PyData.depth]
    have := (lay_sd xs h).2
    omega
  show (PyData.canLay0 (sdL xs) && decide (PyData.depth (sdL xs) ≤ 64)) = true
  rw [sdL_lay h, decide_eq_true d]
  rfl
theorem pdL_shaped {ps : List Pr} (h : ∀ p ∈ ps, IsW p.1 ∧ IsW p.2) : SeqAt.shaped (pdL ps) = true := by
  have d : PyData.depth (pdL ps) ≤ 64 := by
    unfold pdL
    simp only [PyData.depth]
    have := (lay_pd ps h).2
    omega
  show (PyData.canLay0 (pdL ps) && decide (PyData.depth (pdL ps) ≤ 64)) = true
  rw [pdL_lay h, decide_eq_true d]
  rfl
theorem Good.wp {xs : List Str} {ps : List Pr} (g : Good xs ps) : ∀ p ∈ ps, IsW p.1 ∧ IsW p.2 := fun p hp => ⟨g.word _ (g.of p hp).1, g.word _ (g.of p hp).2.1⟩
abbrev cI : Stmt := inClass cl_Company 0
abbrev cP : Stmt := inClass cl_Company 1
abbrev cFr : Stmt := inClass cl_Company 2
abbrev cE : Stmt := inClass cl_Company 3
theorem sc_I : FnScope ["self", "people", "friends"] ["self", "people", "friends"] (defScope cI) := ⟨rfl, rfl, rfl, by decide +kernel, rfl, by decide +kernel, by decide +kernel⟩
theorem sc_P : FnScope ["self"] ["self"] (defScope cP) := ⟨rfl, rfl, rfl, by decide +kernel, rfl, by decide +kernel, by decide +kernel⟩
theorem sc_F : FnScope ["self"] ["self"] (defScope cFr) := ⟨rfl, rfl, rfl, by decide +kernel, rfl, by decide +kernel, by decide +kernel⟩
theorem sc_E : FnScope ["self", "other"] ["self", "other"] (defScope cE) := ⟨rfl, rfl, rfl, by decide +kernel, rfl, by decide +kernel, by decide +kernel⟩
def spInit (C : Addr) : Sp := fun vs H Q _ => ∃ (p dx l m : Addr) (ys xs : List Str) (qs ps : List Pr), vs = [.ref p, .ref l, .ref m] ∧ H p = some (.ins C dx []) ∧ H l = some (.lst (ys.map V.str)) ∧ PwAt H m qs ∧ ys.Perm xs ∧ qs.Perm ps ∧ Good xs ps ∧
  ∀ H', SameX p H H' → CAt C H' p xs ps → Q .non H'
def spPplM (C : Addr) : Sp := fun vs H Q _ => ∃ (c : Addr) (xs : List Str) (ps : List Pr), vs = [.ref c] ∧ CAt C H c xs ps ∧ xs.length ≤ 100 ∧ ∀ D, H D = none → Q (.ref D) (upd H D (.lst (xs.map V.str)))
def spFrM (C : Addr) : Sp := fun vs H Q _ => ∃ (c : Addr) (xs : List Str) (ps : List Pr), vs = [.ref c] ∧ CAt C H c xs ps ∧ ps.length ≤ 100 ∧ ∀ (D : Addr) (H' : Hp), H D = none → Same H H' → PwAt H' D ps → Q (.ref D) H'
/-- two companies that are equal -/
def CEq (C : Addr) (a b : Addr) (H : Hp) : Prop := ∃ xs ps, Good xs ps ∧ CAt C H a xs ps ∧ CAt C H b xs ps
section
variable {P : Program} {w : World} {K : PySem.W.Frag} {mg : Str → Option Value} {base : Heap}
theorem ok_init {f C : Addr} {fd : FuncData} (F : Fun K "__init__" "Company.__init__" cI f fd) (T : Bt mg) (TC : CT K mg C) (CA : Has P w K mg base 3 "are_people" ["value"] spArePpl) (CB : Has P w K mg base 2 "are_pairs_of" ["people", "value"] spPairsOf) :
    FnOk P w K mg base CX0 4 f fd ["self", "people", "friends"] (spInit C) := by
  obtain ⟨fA, fdA, GA, mA, kA, bA⟩ := CA
  obtain ⟨fB, fdB, GB, mB, kB, bB⟩ := CB
  refine F.ok sc_I (fun vs H Q E h => ?_) (fun cdv A outer s H vs Q E hr h => ?_)
  · obtain ⟨_, _, _, _, _, _, _, _, rfl, _⟩ := h
    rfl
  · obtain ⟨p, dx, l, m, ys, xs, qs, ps, rfl, hp, hl, hm, py, pq, g, k⟩ := h
    have hr2 : Room 2 _ := hr.mono (by decide)
    have few := g.len
    have l9 := g.few
    have ly := py.length_eq
    have lq := pq.length_eq
    refine ⟨_, pss_cons (ps_if (pt_not (pt_val (pe_call GA hr rfl mA kA bA .nil pass0 (pa_cons (pv 1) pa_nil)))) (pss_one ps_never) pss_nil)
      (pss_cons (ps_if (pt_not (pt_val (pe_call GB hr2 rfl mB kB bB .nil pass0 (pa_cons (pv 1) (pa_cons (pv 2) pa_nil))))) (pss_one ps_never) pss_nil)
      (pss_cons (ps_fld (pv 0) (pe_callB cr_sortedS (by rfl) T.sorted (by decide +kernel) (pa_cons (pv 1) pa_nil)) rfl)
      (pss_one (ps_fld (pv 0) (pe_callB (Kx.cr_sortedD hr.units) (by rfl) T.sorted (by decide +kernel) (pa_cons (pv 2) pa_nil)) rfl)))), ?_⟩
    refine ⟨_, rfl, l, ys, rfl, hl, py.nodup_iff.mpr g.asc.nd, fun x hx => g.word x (py.mem_iff.mp hx), by omega, by omega, fun H1 s1 => ?_⟩
    refine ⟨_, rfl, iteF ?_⟩
    refine ⟨_, rfl, _, rfl, l, m, ys, qs, rfl, s1 _ _ hl, hm.same s1, pq.nodup_iff.mpr g.nodup, by omega, fun q hq => ?_, fun H2 s2 => ?_⟩
    · have o := g.of q (pq.mem_iff.mp hq)
      exact ⟨py.mem_iff.mpr o.1, py.mem_iff.mpr o.2.1, o.2.2⟩
    refine ⟨_, rfl, iteF ?_⟩
    have s12 := s1.trans s2
    refine ⟨_, rfl, l, ys, rfl, SqL.of (s12 _ _ hl), by omega, fun zs a pz so hA => ?_⟩
    have ez : zs = xs := ascS_uniq (asc_of_sorted so (pz.nodup_iff.mpr (py.nodup_iff.mpr g.asc.nd))) g.asc fun x => by rw [pz.mem_iff, py.mem_iff]
    subst ez
    have hp2 := s12 _ _ hp
    have pa : p ≠ a := ne_of_none hp2 hA
    refine ⟨_, rfl, p, C, dx, [], rfl, by rw [upd_ne pa]; exact hp2, TC.is.cl, TC.nP, (by show 0 < 1000; decide), ?_⟩
    obtain ⟨Ts, hm1, tu⟩ := hm.same s12
    have mp : m ≠ p := fun z => by
      rw [z, hp2] at hm1
      cases hm1
    have ma : m ≠ a := ne_of_none hm1 hA
    have tne : ∀ {H' : Hp} {U : Addr} {o : HO}, H2 U = some o → U ≠ p → upd (upd H2 a (.lst (zs.map V.str))) p (.ins C dx (putF "_people" (.ref a) [])) U = some o := fun {H' U o} e n => by
      rw [upd_ne n, upd_ne (ne_of_none e hA)]
      exact e
    have sx3 : SameX p H (upd (upd H2 a (.lst (zs.map V.str))) p (.ins C dx (putF "_people" (.ref a) []))) := ((SameX.of s12).updN (same_none s12 hA)).trans SameX.upd
    have tu3 : Tups (upd (upd H2 a (.lst (zs.map V.str))) p (.ins C dx (putF "_people" (.ref a) []))) Ts (qs.map tv) := tu.keep fun U o hU e => tne (H' := H2) e fun z => by
      obtain ⟨y, _, ey⟩ := tu.at hU
      rw [z, hp2] at ey
      cases ey
    refine ⟨_, rfl, ?_⟩
    dsimp only [tNil]
    refine sorted_prs (tne (H' := H2) hm1 mp) tu3 (pq.nodup_iff.mpr g.nodup) fun D Us rs nD ar mr ur _ => ?_
    have er : rs = ps := asc_uniq ar g.ascP fun q => by rw [mr, pq.mem_iff]
    subst er
    have pD : p ≠ D := ne_of_none upd_same nD
    have aD : a ≠ D := ne_of_none (by rw [upd_ne (Ne.symm pa), upd_same]) nD
    refine ⟨_, rfl, p, C, dx, _, rfl, by rw [upd_ne pD, upd_same], TC.is.cl, TC.nF, (by show 1 < 1000; decide), ?_⟩
    refine k _ ((sx3.updN (sx3.none nD (Ne.symm pD))).trans SameX.upd) ⟨dx, a, D, upd_same, ?_, Us, ?_, ?_⟩
    · rw [upd_ne (Ne.symm pa), upd_ne aD, upd_ne (Ne.symm pa), upd_same]
    · rw [upd_ne (Ne.symm pD), upd_same]
    · refine ur.keep fun U o hU e => ?_
      obtain ⟨y, _, ey⟩ := ur.at hU
      have up : U ≠ p := fun z => by
        rw [z, upd_same] at ey
        cases ey
      rw [upd_ne up, upd_ne (ne_of_none e nD)]
      exact e
theorem ok_ppl {f C : Addr} {fd : FuncData} (F : Fun K "people" "Company.people" cP f fd) (T : Bt mg) (TC : CT K mg C) : FnOk P w K mg base CX0 1 f fd ["self"] (spPplM C) := by
  refine F.ok sc_P (fun vs H Q E h => ?_) (fun cdv A outer s H vs Q E hr h => ?_)
  · obtain ⟨_, _, _, rfl, _⟩ := h
    rfl
  · obtain ⟨c, xs, ps, rfl, ⟨dx, a, b, h1, h2, h3⟩, few, k⟩ := h
    refine ⟨_, pss_one (ps_ret (pe_callTy call_list_of (by rfl) T.list (by decide +kernel) (pa_cons (pe_fld (pv 0) rfl) pa_nil))), ?_⟩
    exact ⟨_, rfl, c, C, dx, _, _, rfl, h1, TC.is.cl, TC.nP, cF_p a b, a, _, rfl, .inl (SqL.of h2), fun D hD => k D hD⟩
theorem ok_frs {f C : Addr} {fd : FuncData} (F : Fun K "friends" "Company.friends" cFr f fd) (T : Bt mg) (TC : CT K mg C) : FnOk P w K mg base CX0 1 f fd ["self"] (spFrM C) := by
  refine F.ok sc_F (fun vs H Q E h => ?_) (fun cdv A outer s H vs Q E hr h => ?_)
  · obtain ⟨_, _, _, rfl, _⟩ := h
    rfl
  · obtain ⟨c, xs, ps, rfl, ⟨dx, a, b, h1, h2, Ts, h3, tu⟩, few, k⟩ := h
    refine ⟨_, pss_one (ps_ret (pe_callTy call_list_of (by rfl) T.list (by decide +kernel) (pa_cons (pe_fld (pv 0) rfl) pa_nil))), ?_⟩
    refine ⟨_, rfl, c, C, dx, _, _, rfl, h1, TC.is.cl, TC.nF, cF_f a b, b, _, rfl, .inl (SqL.of h3), fun D hD => k D _ hD (same_new hD) ⟨Ts, upd_same, tu.same (same_new hD)⟩⟩
theorem ok_eq {f C : Addr} {fd : FuncData} (F : Fun K "__eq__" "Company.__eq__" cE f fd) (T : Bt mg) (TC : CT K mg C) : FnOk P w K mg base CX0 1 f fd ["self", "other"] (spEq (CEq C)) := by
  refine F.ok sc_E (fun vs H Q E h => ?_) (fun cdv A outer s H vs Q E hr h => ?_)
  · obtain ⟨_, _, rfl, _⟩ := h
    rfl
  · obtain ⟨c, d, rfl, ⟨xs, ps, g, ⟨dx, a, b, h1, h2, Ts, h3, tu⟩, ⟨dy, a', b', g1, g2, Us, g3, uu⟩⟩, k⟩ := h
    refine ⟨_, pss_one (ps_ret (pe_and (pe_callB (C8.call_isC TC.is) (by rfl) T.isi (by decide +kernel) (pa_cons (pv 1) (pa_cons (C8.pe_gc (v := .ref C) rfl ⟨_, TC.mC, rfl⟩) pa_nil)))
      (pe_and (pe_cmpR (op_eqD hr.units) (pe_fld (pv 0) rfl) (pe_fld (pv 1) rfl) (nomark _))
      (pe_one (pe_cmpR (op_eqD hr.units) (pe_fld (pv 0) rfl) (pe_fld (pv 1) rfl) (nomark _)))))), ?_⟩
    refine ⟨_, rfl, d, dy, _, rfl, g1, _, rfl, iteT ?_⟩
    refine ⟨_, rfl, c, C, dx, _, _, rfl, h1, TC.is.cl, TC.nP, cF_p a b, _, rfl, d, C, dy, _, _, rfl, g1, TC.is.cl, TC.nP, cF_p a' b', ?_⟩
    refine ⟨sdL xs, sdL xs, dp_sdL (SqL.of h2), dp_sdL (SqL.of g2), sdL_shaped g.word, sdL_shaped g.word, _, rfl, ite_t (SeqAt.eqv_refl _ (sdL_lay g.word)) ?_⟩
    refine ⟨_, rfl, c, C, dx, _, _, rfl, h1, TC.is.cl, TC.nF, cF_f a b, _, rfl, d, C, dy, _, _, rfl, g1, TC.is.cl, TC.nF, cF_f a' b', ?_⟩
    refine ⟨pdL ps, pdL ps, dp_pdL (SqL.of h3) tu, dp_pdL (SqL.of g3) uu, pdL_shaped g.wp, pdL_shaped g.wp, ?_⟩
    rw [SeqAt.eqv_refl _ (pdL_lay g.wp)]
    exact k H Ext.rfl'
end
end Wd
end
section
set_option maxRecDepth 100000
set_option maxHeartbeats 4000000
namespace Wd
open PySem PySem.Spec PyProof.Rows L2
/-- what stands at the value's address is locked from here on -/
def tFrz (td : TE) : TE := fun σ H Q => td σ H fun x H1 => ∃ d u, x = .ref d ∧ H1 d = some u ∧ Mut (some u) ∧ ∀ o, Q x (L2.upd H1 d (.frz o u))
section
variable {X : Cx}
theorem pe_frz {e : Expr} {td : TE} (he : PE X e td) : PE X e (tFrz td) := by
  refine ⟨fun pins s σ H Q I h => thn (he.run pins s σ H _ I h) ?_⟩
  rintro v s1 ⟨x, H1, I1, r1, d, u, rfl, hd, mu, q⟩
  obtain ⟨o, I2⟩ := I1.lock hd mu
  exact ⟨_, _, I2, r1, q o⟩
/-- name = {k: v for ..} on one line, a local -/
theorem ps_setDc {i : Nat} {y : Str} {py pos spos : Pos} {kx vx tg iter : Expr} {ifs : List Expr} {scope : Scope} {own : List (Str × Nat)} {wi : TI} {g : TG} {tt : TT} {tk tv : TE}
    (calm : X.calm = true) (nd : X.N.Nodup) (at_ : X.N[i]? = some y) (loc : X.env.scope.names.lookup y = some .local)
    (sw : swapsWith (.DictComp kx vx [⟨tg, iter, ifs, 0⟩] scope pos) (some (.Name y py)) spos.line X.env = pure true) (wk : PI X tg iter wi) (ok : BlkOk X.N X.env.scope scope own)
    (tgt : ∀ (s : Shared) (H : Hp) (C : Addr) (cl : List (Str × Addr)) (fp : List Addr), PG (X.blk s H scope (compEnvC scope cl C X.env) fp) tg g)
    (tst : ∀ (s : Shared) (H : Hp) (C : Addr) (cl : List (Str × Addr)) (fp : List Addr), PTs (X.blk s H scope (compEnvC scope cl C X.env) fp) ifs tt)
    (key : ∀ (s : Shared) (H : Hp) (C : Addr) (cl : List (Str × Addr)) (fp : List Addr), PE (X.blk s H scope (compEnvC scope cl C X.env) fp) kx tk)
    (val : ∀ (s : Shared) (H : Hp) (C : Addr) (cl : List (Str × Addr)) (fp : List Addr), PE (X.blk s H scope (compEnvC scope cl C X.env) fp) vx tv)
    (fold : ∀ x, foldedSetIterable iter X.env x = pure x := by intro _; rfl) : PS X (.Assign [.Name y py] (.DictComp kx vx [⟨tg, iter, ifs, 0⟩] scope pos) spos) (tAsg (tDc wi g tt tk tv (own.map (·.2))) (gName i)) := by
  refine ⟨fun pins s σ H D I h => ?_⟩
  rw [exec_Assign_Name_used _ _ _ _ sw]
  refine wpAny_bind (wpAny_standAt (wpAny_bind ?_))
  show wpAny _ X.A (do let _ ← comprehension (.DictComp kx vx [⟨tg, iter, ifs, 0⟩] scope pos) scope X.env (firstIterPos [⟨tg, iter, ifs, 0⟩] pos) newDict false (eval iter X.env) (some (assign (.Name y py) X.env))) _ _ s
  have go : tDc wi g tt tk tv (own.map (·.2)) σ H (fun x H1 => gName i x σ H1 D.nx) := h
  refine wpAny_bind (thn (dc_core (Qf := fun _ s' => SP X pins D .next s') calm nd I wk ok tgt tst key val fold go fun L C s2 m H2 I2 q hn f => ?_) fun _ _ z => wpAny_pure (wpAny_pure z))
  show wpAny _ _ (assign (.Name y py) X.env (.ref L)) _ _ _
  obtain ⟨a0, a1, a2, a3, a4, a5⟩ := f
  refine wpAny_assign_Name (store_ok2 (v := V.ref L) I2 nd at_ (.inl loc) rfl (fun s3 I3 ⟨a, b, c⟩ => ?_) (.inr loc))
  have ne : C ≠ a := c.elim (fun z => z ▸ a1) fun z e => a4 y a z e.symm
  exact ⟨m, hn.sameBut b ne, fun h3 k3 => ⟨_, H2, I3.turned (t' := s3.toks) (fun u o hb e => (k3.2 u hb).trans e) a0 a1 a3 a4 a5, q⟩⟩
theorem sw_dict {kx vx : Expr} {gs : List Comprehension} {scope : Scope} {pos py : Pos} {y : Str} {l : Nat} {env : Env} (fn : env.scope.kind = .function) (loc : env.scope.names.lookup y = some .local) (row : (py.line == pos.line) = true)
    (no : (scope.names.any fun (n, k) => n == y && (k == .local || k == .cell)) = false) : swapsWith (.DictComp kx vx gs scope pos) (some (.Name y py)) l env = pure true := by
  have k1 : env.kindOf y = some .local := loc
  have k2 : env.blockKind = .function := by
    unfold Env.blockKind
    rw [fn]
    rfl
  unfold swapsWith
  simp only [k1, k2, no, Expr.pos, row]
  rfl
end
/-- a dict comprehension over any walk: Pv by the turn and the heap -/
theorem dc_walk {J : It} {n : Nat} {G : Hp → Prop} {Y : Nat → Hp → V → Hp → Prop} (wk : Walk J n G Y) {g : TG} {tt : TT} {tk tv : TE} {vs : List Nat} {σ : L2.St} {H1 : Hp} {D : Addr} {Qd : Hp → Prop} (Pv : Nat → Hp → Prop)
    (start : Pv 0 (L2.upd H1 D (.dK []))) (stays : ∀ i H, i ≤ n → Pv i H → G H)
    (turn : ∀ i x H H', i < n → Pv i H → Y i H x H' → g x (wipe σ vs) H' fun σ2 H2 => wipe σ2 vs = wipe σ vs ∧ tt σ2 H2 fun b H3 => if b = true then tk σ2 H3 fun y H4 => tv σ2 H4 fun z H5 =>
      ∃ kvs k, y = kV k ∧ H5 D = some (.dK kvs) ∧ kvs.length < sizeLine ∧ Pv (i + 1) (L2.upd H5 D (.dK (putK kvs k z))) else Pv (i + 1) H3) (fin : ∀ H, Pv n H → Qd H) :
    ∃ W : Nat → Nat → Hp → Prop, (∃ m, W 0 m (L2.upd H1 D (.dK []))) ∧ ∀ i m H, W i m H → (J.stop i H ∧ Qd H) ∨ (J.go i H ∧ ∃ Nx : Hp → Prop, (∀ H', Nx H' → ∃ m', m' < m ∧ W (i + 1) m' H') ∧
      ∀ x H', J.yld i H x H' → g x (wipe σ vs) H' fun σ2 H2 => wipe σ2 vs = wipe σ vs ∧ tt σ2 H2 fun b H3 => if b = true then tk σ2 H3 fun y H4 => tv σ2 H4 fun z H5 =>
        ∃ kvs k, y = kV k ∧ H5 D = some (.dK kvs) ∧ kvs.length < sizeLine ∧ Nx (L2.upd H5 D (.dK (putK kvs k z))) else Nx H3) := by
  refine ⟨fun i m H => (m + i = n) ∧ Pv i H, ⟨n, rfl, start⟩, ?_⟩
  rintro i m H ⟨e, p⟩
  have gh := stays i H (by omega) p
  rcases Nat.eq_or_lt_of_le (show i ≤ n by omega) with z | z
  · subst z
    exact .inl ⟨wk.stops H gh, fin H p⟩
  · refine .inr ⟨wk.goes i H z gh, Pv (i + 1), fun H' q => ⟨m - 1, by omega, by omega, q⟩, fun x H' y => ?_⟩
    exact turn i x H H' z p (wk.yields i H x H' z gh y)
end Wd
end
section
set_option maxRecDepth 100000
set_option maxHeartbeats 4000000
namespace Wd
open PySem L2
/-- a method without arguments that keeps a promise -/
def HasM (P : Program) (w : World) (K : PySem.W.Frag) (mg : Str → Option Value) (base : Heap) (C : Addr) (k : Nat) (m : Str) (sp : Sp) : Prop :=
  ∃ (f : Addr) (fd : FuncData), FnOk P w K mg base CX0 k f fd ["self"] sp ∧ Meth K C m f ∧ Binds K fd ["self"] []
def spChk (C : Addr) : Sp := fun vs H Q _ => ∃ (c dx : Addr) (fs : List (Str × V)), vs = [.ref c] ∧ H c = some (.ins C dx fs) ∧ Q .non H
def spChkP (C : Addr) : Sp := fun vs H Q _ => ∃ (c : Addr) (x : Str) (xs : List Str) (ps : List Pr), vs = [.ref c, .str x] ∧ CAt C H c xs ps ∧ Good xs ps ∧ x ∈ xs ∧ ∀ H', Same H H' → Q .non H'
def spChkT (C : Addr) : Sp := fun vs H Q _ => ∃ (c t : Addr) (p : Pr) (xs : List Str) (ps : List Pr), vs = [.ref c, .ref t] ∧ CAt C H c xs ps ∧ Good xs ps ∧ H t = some (.tup [.str p.1, .str p.2]) ∧ p ∈ prsS xs ∧ ∀ H', Same H H' → Q .non H'
def spAllP : Sp := fun vs H Q _ => ∃ (l : Addr) (ys xs : List Str), vs = [.ref l] ∧ H l = some (.lst (ys.map V.str)) ∧ ys.Perm xs ∧ Asc xs ∧ xs.length ≤ 12 ∧ ∀ (H' : Hp) (D : Addr), Same H H' → H D = none → PwAt H' D (prsS xs) → Q (.ref D) H'
/-! combinations of two are the pairs -/
theorem range_cons (n : Nat) : List.range (n + 1) = 0 :: (List.range n).map Nat.succ := List.range_succ_eq_map
theorem ixs2_prs : ∀ xs : List V, (Kc.ixs2 xs.length).map (Kc.atIx xs) = (prs xs).map fun q => [q.1, q.2]
  | [] => rfl
  | x :: r => by
    have ih := ixs2_prs r
    have e1 : ((List.range (r.length + 1)).filter fun j => decide (0 < j)) = (List.range r.length).map Nat.succ := by
      rw [range_cons, List.filter_cons_of_neg (by simp), List.filter_eq_self.mpr]
      intro a ha
      obtain ⟨b, _, rfl⟩ := List.mem_map.mp ha
      simp
    have e2 : ∀ i, ((List.range (r.length + 1)).filter fun j => decide (i.succ < j)) = ((List.range r.length).filter fun j => decide (i < j)).map Nat.succ := fun i => by
      rw [range_cons, List.filter_cons_of_neg (by simp), List.filter_map]
      congr 1
      refine List.filter_congr fun a _ => ?_
      show decide (i.succ < a.succ) = decide (i < a)
      exact decide_eq_decide.mpr ⟨fun h => by omega, fun h => by omega⟩
    have e3 : Kc.ixs2 (r.length + 1) = (List.range r.length).map (fun j => [0, j.succ]) ++ (Kc.ixs2 r.length).map (fun l => l.map Nat.succ) := by
      unfold Kc.ixs2
      conv => lhs; rw [range_cons]
      rw [List.flatMap_cons]
      congr 1
      · rw [← range_cons, e1, List.map_map]
        rfl
      · rw [← range_cons, List.flatMap_map, List.map_flatMap]
        congr 1
        funext i
        rw [e2, List.map_map, List.map_map]
        rfl
    show (Kc.ixs2 (r.length + 1)).map (Kc.atIx (x :: r)) = (r.map (fun y => (x, y)) ++ prs r).map fun q => [q.1, q.2]
    rw [e3, List.map_append, List.map_append, List.map_map, List.map_map, List.map_map]
    congr 1
    · have : r = (List.range r.length).map fun j => r.getD j V.non := by
        apply List.ext_getElem (by simp)
        intro i h1 h2
        simp [List.getD_eq_getElem?_getD, List.getElem?_eq_getElem h1]
      conv => rhs; rw [this]
      rw [List.map_map]
      refine List.map_congr_left fun j _ => ?_
      rfl
    · rw [← ih]
      refine List.map_congr_left fun l _ => ?_
      show (l.map Nat.succ).map (fun i => (x :: r).getD i V.non) = l.map fun i => r.getD i V.non
      rw [List.map_map]
      rfl
section
variable {P : Program} {w : World} {K : PySem.W.Frag} {mg : Str → Option Value} {base : Heap}
theorem ok_check {f C : Addr} {fd : FuncData} (F : Fun K "check_company" "check_company" sp_check_company f fd) (T : Bt mg) (TC : CT K mg C) : FnOk P w K mg base CX0 1 f fd ["company"] (spChk C) := by
  refine F.ok cp_check_company (fun vs H Q E h => ?_) (fun cdv A outer s H vs Q E hr h => ?_)
  · obtain ⟨_, _, _, rfl, _⟩ := h
    rfl
  · obtain ⟨c, dx, fs, rfl, hc, k⟩ := h
    refine ⟨_, pss_one (ps_if (pt_not (pt_val (pe_callB (C8.call_isC TC.is) (by rfl) T.isi (by decide +kernel) (pa_cons (pv 0) (pa_cons (C8.pe_gc (v := .ref C) rfl ⟨_, TC.mC, rfl⟩) pa_nil))))) (pss_one ps_never) pss_nil), ?_⟩
    exact ⟨_, rfl, c, dx, fs, rfl, hc, _, rfl, iteF k⟩
theorem ok_all_pairs {f : Addr} {fd : FuncData} (F : Fun K "all_pairs" "all_pairs" sp_all_pairs f fd) (T : Bt mg) (mC : mg "combinations" = some (.type Kc.TC)) : FnOk P w K mg base CX0 1 f fd ["people"] spAllP := by
  refine F.ok cp_all_pairs (fun vs H Q E h => ?_) (fun cdv A outer s H vs Q E hr h => ?_)
  · obtain ⟨_, _, _, rfl, _⟩ := h
    rfl
  · obtain ⟨l, ys, xs, rfl, hl, pm, asc, few, k⟩ := h
    have le := pm.length_eq
    refine ⟨_, pss_cons (ps_set (i := 1) cp_all_pairs.nd rfl (Or.inl rfl) (pe_callB cr_sortedS (by rfl) T.sorted (by decide +kernel) (pa_cons (pv 0) pa_nil)))
      (pss_one (ps_ret (Kc.pe_listComb rfl (by rfl) T.list (by rfl) mC (pa_cons (pv 1) (pa_cons pe_int pa_nil))))), ?_⟩
    refine ⟨_, rfl, l, ys, rfl, SqL.of hl, by omega, fun zs a pz so hA => ?_⟩
    have ez : zs = xs := ascS_uniq (asc_of_sorted so (pz.nodup_iff.mpr (pm.nodup_iff.mpr asc.nd))) asc fun x => by rw [pz.mem_iff, pm.mem_iff]
    subst ez
    refine ⟨_, rfl, a, zs.map V.str, 2, rfl, SqL.of upd_same, by rw [List.length_map]; exact few, .inl rfl, fun H2 D Ts s2 nD hd told lt => ?_⟩
    refine k H2 D ((same_new hA).trans s2) ?_ ⟨Ts, hd, ?_, fun j U q hU hq => ?_⟩
    · exact same_none (same_new hA) nD
    · have e := congrArg List.length (ixs2_prs (zs.map V.str))
      rw [List.length_map, List.length_map, prs_strs, List.length_map] at e
      rw [lt, List.length_map]
      exact e
    · obtain ⟨ix, hx, e⟩ := told.2.2 j U hU
      have e2 := congrArg (fun l => l[j]?) (ixs2_prs (zs.map V.str))
      have e3 : (Kc.ixs2 (zs.map V.str).length)[j]? = some ix := hx
      simp only [List.getElem?_map, e3, prs_strs, Option.map_some] at e2
      rw [List.getElem?_map] at hq
      obtain ⟨p, hp, rfl⟩ := Option.map_eq_some_iff.mp hq
      rw [hp] at e2
      have e4 := Option.some.inj e2
      rw [e, e4]
end
end Wd
end
section
set_option maxRecDepth 100000
set_option maxHeartbeats 4000000
namespace Wd
open PySem L2
theorem nd_inj {α : Type} {l : List α} {i j : Nat} {a : α} (nd : l.Nodup) (h1 : l[i]? = some a) (h2 : l[j]? = some a) : i = j :=
  (List.getElem?_inj (List.getElem?_eq_some_iff.mp h1).1 nd).mp (h1.trans h2.symm)
/-- a dictionary from people -/
def dkv (xs : List Str) (vs : List V) : List (Key × V) := (xs.zip vs).map fun z => (Sum.inr z.1, z.2)
theorem dkv_len {xs : List Str} {vs : List V} (h : vs.length = xs.length) : (dkv xs vs).length = xs.length := by
  unfold dkv
  rw [List.length_map, List.length_zip]
  omega
theorem dkv_get : ∀ {xs : List Str} {vs : List V} {i : Nat} {x : Str} {v : V}, xs.Nodup → xs[i]? = some x → vs[i]? = some v → valV (dkv xs vs) (Sum.inr x : Key) = some v
  | [], vs, i, x, v, _, h, _ => by simp at h
  | y :: xs, [], i, x, v, _, _, h => by simp at h
  | y :: xs, u :: vs, 0, x, v, _, h1, h2 => by
    simp at h1 h2
    subst h1 h2
    exact valV_pos (p := ((Sum.inr y : Key), u)) rfl
  | y :: xs, u :: vs, i + 1, x, v, nd, h1, h2 => by
    simp at h1 h2
    obtain ⟨n1, n2⟩ := List.nodup_cons.mp nd
    have ne : ¬ (Sum.inr y : Key) = Sum.inr x := fun e => n1 (by
      have := Sum.inr.inj e
      rw [this]
      exact List.mem_of_getElem? h1)
    show valV (((Sum.inr y : Key), u) :: dkv xs vs) _ = _
    rw [valV_neg ne]
    exact dkv_get n2 h1 h2
theorem dkv_none : ∀ {xs : List Str} {vs : List V} {x : Str}, x ∉ xs → valV (dkv xs vs) (Sum.inr x : Key) = none
  | [], vs, x, _ => rfl
  | y :: xs, [], x, _ => rfl
  | y :: xs, u :: vs, x, h => by
    have ne : ¬ (Sum.inr y : Key) = Sum.inr x := fun e => h (by
      have := Sum.inr.inj e
      rw [this]
      exact List.mem_cons_self)
    show valV (((Sum.inr y : Key), u) :: dkv xs vs) _ = _
    rw [valV_neg ne]
    exact dkv_none fun z => h (List.mem_cons_of_mem _ z)
theorem dkv_snoc {xs : List Str} {vs : List V} {x : Str} {v : V} (h : x ∉ xs) (l : vs.length = xs.length) : putK (dkv xs vs) (Sum.inr x : Key) v = dkv (xs ++ [x]) (vs ++ [v]) := by
  rw [putK_new v (dkv_none h)]
  unfold dkv
  rw [List.zip_append l.symm, List.map_append]
  rfl
theorem dkv_set : ∀ {xs : List Str} {vs : List V} {i : Nat} {x : Str} {v : V}, xs.Nodup → xs[i]? = some x → i < vs.length → putK (dkv xs vs) (Sum.inr x : Key) v = dkv xs (vs.set i v) := by
  have go : ∀ {xs : List Str} {vs : List V} {i : Nat} {x : Str} {v : V}, xs.Nodup → xs[i]? = some x → (dkv xs vs).map (fun kv => if kv.1 = (Sum.inr x : Key) then (kv.1, v) else kv) = dkv xs (vs.set i v) := by
    intro xs
    induction xs with
    | nil => intro vs i x v _ h; simp at h
    | cons y xs ih =>
      intro vs i x v nd h1
      obtain ⟨n1, n2⟩ := List.nodup_cons.mp nd
      cases vs with
      | nil => rfl
      | cons u vs =>
        have stay : ∀ {x : Str} (vs : List V), x ∉ xs → (dkv xs vs).map (fun kv => if kv.1 = (Sum.inr x : Key) then (kv.1, v) else kv) = dkv xs vs := fun {x} vs hn => by
          conv => rhs; rw [← List.map_id (dkv xs vs)]
          refine List.map_congr_left fun kv hk => ?_
          obtain ⟨z, hz, rfl⟩ := List.mem_map.mp hk
          have : ¬ (Sum.inr z.1 : Key) = Sum.inr x := fun e => hn (by
            rw [← Sum.inr.inj e]
            exact (List.of_mem_zip (show (z.1, z.2) ∈ xs.zip vs from hz)).1)
          rw [if_neg this]
          rfl
        cases i with
        | zero =>
          simp at h1
          subst h1
          show (if (Sum.inr y : Key) = Sum.inr y then ((Sum.inr y : Key), v) else _) :: (dkv xs vs).map _ = ((Sum.inr y : Key), v) :: dkv xs vs
          rw [if_pos rfl, stay vs n1]
        | succ i =>
          simp at h1
          have ne : ¬ (Sum.inr y : Key) = Sum.inr x := fun e => n1 (by
            rw [Sum.inr.inj e]
            exact List.mem_of_getElem? h1)
          show (if (Sum.inr y : Key) = Sum.inr x then _ else ((Sum.inr y : Key), u)) :: (dkv xs vs).map _ = ((Sum.inr y : Key), u) :: dkv xs (vs.set i v)
          rw [if_neg ne, ih n2 h1]
  intro xs vs i x v nd h1 h2
  have hv := dkv_get nd h1 (List.getElem?_eq_getElem h2)
  unfold putK
  rw [valV_any, hv]
  exact go nd h1
/-- the friends of x among ps, as they come -/
def frs (ps : List Pr) (x : Str) : List Str := ps.filterMap fun p => if p.1 = x then some p.2 else if p.2 = x then some p.1 else none
theorem frs_len (ps : List Pr) (x : Str) : (frs ps x).length ≤ ps.length := List.length_filterMap_le _ _
theorem frs_snoc (ps : List Pr) (p : Pr) (x : Str) : frs (ps ++ [p]) x = frs ps x ++ (if p.1 = x then [p.2] else if p.2 = x then [p.1] else []) := by
  unfold frs
  rw [List.filterMap_append]
  congr 1
  by_cases h1 : p.1 = x
  · simp [h1]
  · by_cases h2 : p.2 = x <;> simp [h1, h2]
/-- a dictionary from the people to lists: fs x for each -/
def CirAt (H : Hp) (D : Addr) (xs : List Str) (Ls : List Addr) (fs : Str → List Str) : Prop := H D = some (.dK (dkv xs (Ls.map V.ref))) ∧ Ls.length = xs.length ∧ Ls.Nodup ∧ ∀ (i : Nat) x L, xs[i]? = some x → Ls[i]? = some L → H L = some (.lst ((fs x).map V.str))
def spCirc (C : Addr) : Sp := fun vs H Q _ => ∃ (c : Addr) (xs : List Str) (ps : List Pr), vs = [.ref c] ∧ CAt C H c xs ps ∧ Good xs ps ∧
  ∀ (H' : Hp) (D : Addr) (Ls : List Addr), Same H H' → H D = none → (∀ L ∈ Ls, H L = none) → CirAt H' D xs Ls (frs ps) → Q (.ref D) H'
section
variable {P : Program} {w : World} {K : PySem.W.Frag} {mg : Str → Option Value} {base : Heap}
theorem ok_circles {f C : Addr} {fd : FuncData} (F : Fun K "circles" "circles" sp_circles f fd) (T : Bt mg) (TC : CT K mg C) (MP : HasM P w K mg base C 1 "people" (spPplM C)) (MF : HasM P w K mg base C 1 "friends" (spFrM C)) :
    FnOk P w K mg base CX0 2 f fd ["company"] (spCirc C) := by
  obtain ⟨fP, fdP, GP, mP, bP⟩ := MP
  obtain ⟨fF, fdF, GF, mF, bF⟩ := MF
  refine F.ok cp_circles (fun vs H Q E h => ?_) (fun cdv A outer s H vs Q E hr h => ?_)
  · obtain ⟨_, _, _, rfl, _⟩ := h
    rfl
  · obtain ⟨c, xs, ps, rfl, hc, g, k⟩ := h
    have hu := hu_of hr
    refine ⟨_, pss_cons (ps_setDc (i := 2) (own := [("person", 1)]) (g := gName 1) (tt := tYes) rfl cp_circles.nd rfl rfl (sw_dict rfl rfl rfl (by decide +kernel)) (pi_list (pe_meth0 (pv 0) TC.is.cl mP GP hr bP .nil pass0))
        (blkOk_by (N := ["company", "person", "found", "one", "other"]) (sc := defScope sp_circles) (by decide +kernel)) (fun _ _ _ _ _ => pg_name (i := 1) cp_circles.nd rfl (Or.inl rfl)) (fun _ _ _ _ _ => pts_nil) (fun _ _ _ _ _ => pv 1) (fun _ _ _ _ _ => pe_lst pa_nil))
      (pss_cons (ps_for PassesOwn.never rfl (pi_list (pe_meth0 (pv 0) TC.is.cl mF GF hr bF .nil pass0)) (pg_tup rfl (pgs_cons (pg_name (i := 3) cp_circles.nd rfl (Or.inl rfl)) (pgs_cons (pg_name (i := 4) cp_circles.nd rfl (Or.inl rfl)) pgs_nil)))
        (pss_cons (ps_expr (pe_bm PySem.F.plainAttrs_list PySem.F.slot_list_append PySem.F.type_list_append mt_append (pe_dget hu (pv 2) (pv 3) (fun _ _ => rfl)) (pa_cons (pv 4) pa_nil)))
        (pss_one (ps_expr (pe_bm PySem.F.plainAttrs_list PySem.F.slot_list_append PySem.F.type_list_append mt_append (pe_dget hu (pv 2) (pv 4) (fun _ _ => rfl)) (pa_cons (pv 3) pa_nil))))))
      (pss_one (ps_ret (pv 2)))), ?_⟩
    obtain ⟨dx, a, b, h1, h2, h3⟩ := id hc
    have l9 := g.few
    have few := g.len
    have nx := g.asc.nd
    refine ⟨_, rfl, c, dx, _, rfl, h1, cF_no a b (by decide +kernel) (by decide +kernel), c, xs, ps, rfl, hc, by omega, fun L0 hL0 => ?_⟩
    refine ⟨L0, rfl, ⟨_, SqL.of upd_same⟩, fun D hD => ?_⟩
    have s0 := same_new (o := .lst (xs.map V.str)) hL0
    have nD : H D = none := same_none s0 hD
    refine dc_walk (walk_list (K := K) (a := L0) (xs := xs.map V.str)) (fun i H' => ∃ Ls : List Addr, Same H H' ∧ H' L0 = some (.lst (xs.map V.str)) ∧ CirAt H' D (xs.take i) Ls (fun _ => []) ∧ ∀ L ∈ Ls, H L = none)
      ⟨[], s0.trans (same_new hD), ?_, ⟨upd_same, rfl, List.nodup_nil, fun i x L e _ => by simp at e⟩, fun _ z => nomatch z⟩ (fun i H' _ ⟨_, _, z, _⟩ => SqL.of z) ?_ ?_
    · exact same_new hD _ _ upd_same
    · rintro i v H1 _ hi ⟨Ls, s1, hl0, ⟨hd, ll, nd, at_⟩, fresh⟩ ⟨rfl, hv⟩
      rw [List.getElem?_map] at hv
      obtain ⟨x, hx, rfl⟩ := Option.map_eq_some_iff.mp hv
      refine ⟨rfl, _, rfl, ?_⟩
      refine ⟨Nat.zero_le _, fun L hL => ?_⟩
      have DL : D ≠ L := ne_of_none hd hL
      have i9 : i < xs.length := (List.getElem?_eq_some_iff.mp hx).1
      have ll' : (Ls.map V.ref).length = (xs.take i).length := by rw [List.length_map]; exact ll
      refine ⟨_, Sum.inr x, rfl, by rw [upd_ne DL]; exact hd, ?_, Ls ++ [L], ?_, ?_, ⟨?_, ?_, ?_, ?_⟩, ?_⟩
      · rw [dkv_len ll', List.length_take, sizeLine_eq]
        omega
      · exact same_upd2 (.inr (same_updN s1 hL)) nD
      · rw [upd_ne (ne_of_none (show upd H L0 (.lst (xs.map V.str)) L0 = some _ from upd_same) hD), upd_ne (ne_of_none hl0 hL)]
        exact hl0
      · have nin : x ∉ xs.take i := fun z => by
          obtain ⟨j, hj, e⟩ := List.getElem_of_mem z
          rw [List.length_take] at hj
          rw [List.getElem_take] at e
          have := nd_inj nx (List.getElem?_eq_some_iff.mpr ⟨by omega, e⟩) hx
          omega
        rw [upd_same, take_next hx, dkv_snoc nin ll', List.map_append]
        rfl
      · rw [List.length_append, ll, take_next hx, List.length_append]
        rfl
      · rw [List.nodup_append]
        refine ⟨nd, by simp, fun y hy z hz => ?_⟩
        rw [List.mem_singleton.mp hz]
        rintro rfl
        obtain ⟨j, hj, e⟩ := List.getElem_of_mem hy
        have hj' : j < (xs.take i).length := by rw [← ll]; exact hj
        have := at_ j _ y (List.getElem?_eq_getElem hj') (by rw [List.getElem?_eq_getElem hj, e])
        rw [hL] at this
        cases this
      · intro j y M hy hM
        rw [take_next hx] at hy
        by_cases hj : j < Ls.length
        · rw [List.getElem?_append_left hj] at hM
          rw [List.getElem?_append_left (by rw [← ll]; exact hj)] at hy
          have e := at_ j y M hy hM
          have MD : M ≠ D := fun z => by
            rw [z, hd] at e
            cases e
          rw [upd_ne MD, upd_ne (ne_of_none e hL)]
          exact e
        · rw [List.getElem?_append_right (by omega)] at hM
          have e : M = L := by
            cases hq : j - Ls.length with
            | zero =>
              rw [hq] at hM
              simpa using hM.symm
            | succ q =>
              rw [hq] at hM
              simp at hM
          subst e
          rw [upd_ne (Ne.symm DL), upd_same]
          rfl
      · intro M hM
        rcases List.mem_append.mp hM with z | z
        · exact fresh M z
        · rw [List.mem_singleton.mp z]
          exact same_none s1 hL
    · rintro H1 ⟨Ls, s1, hl0, ci, fresh⟩
      rw [List.length_map, List.take_length] at ci
      have hc1 := hc.same s1
      obtain ⟨dx1, a1, b1, g1, g2, g3⟩ := id hc1
      refine ⟨_, rfl, c, dx1, _, rfl, g1, cF_no a1 b1 (by decide +kernel) (by decide +kernel), c, xs, ps, rfl, hc1, by omega, fun M H2 nM s2 ⟨Ts, hm, tu⟩ => ?_⟩
      have lT : Ts.length = ps.length := by rw [tu.1, List.length_map]
      refine ⟨M, rfl, ⟨_, SqL.of hm⟩, ?_⟩
      have s12 := s1.trans s2
      refine for_list (xs := Ts.map V.ref) (fun i σ H' => ∃ v3 v4 : Option V, σ = [some (.ref c), none, some (.ref D), v3, v4] ∧ Same H H' ∧ H' M = some (.lst (Ts.map V.ref)) ∧ Tups H' Ts (ps.map tv) ∧ CirAt H' D xs Ls (frs (ps.take i)))
        ⟨none, none, rfl, s12, hm, tu, ⟨s2 _ _ ci.1, ci.2.1, ci.2.2.1, fun i x L e1 e2 => s2 _ _ (ci.2.2.2 i x L e1 e2)⟩⟩ (fun i σ H' _ ⟨_, _, _, _, z, _⟩ => SqL.of z) ?_ ?_
      · rintro i v σ H' hv ⟨v3, v4, rfl, s3, hm3, tu3, hd, ll, nd, at_⟩
        rw [List.getElem?_map] at hv
        obtain ⟨U, hU, rfl⟩ := Option.map_eq_some_iff.mp hv
        have il := (List.getElem?_eq_some_iff.mp hU).1
        obtain ⟨p, hp⟩ : ∃ p, ps[i]? = some p := ⟨_, List.getElem?_eq_getElem (by omega)⟩
        have eU := tu3.2 i U (tv p) hU (by rw [List.getElem?_map, hp]; rfl)
        obtain ⟨m1, m2, lt⟩ := g.of p (List.mem_of_getElem? hp)
        have ne12 : p.1 ≠ p.2 := fun e => Lt.irr p.2 (by rw [e] at lt; exact lt)
        obtain ⟨i1, hi1, e1⟩ := List.getElem_of_mem m1
        obtain ⟨i2, hi2, e2⟩ := List.getElem_of_mem m2
        have x1 : xs[i1]? = some p.1 := by rw [List.getElem?_eq_getElem hi1, e1]
        have x2 : xs[i2]? = some p.2 := by rw [List.getElem?_eq_getElem hi2, e2]
        have L1 : Ls[i1]? = some (Ls[i1]'(by omega)) := List.getElem?_eq_getElem _
        have L2 : Ls[i2]? = some (Ls[i2]'(by omega)) := List.getElem?_eq_getElem _
        have neL : Ls[i1]'(by omega) ≠ Ls[i2]'(by omega) := fun z => by
          have := nd_inj nd L1 (by rw [z]; exact L2)
          subst this
          exact ne12 (Option.some.inj (x1.symm.trans x2))
        generalize Ls[i1]'(by omega) = A1 at L1 neL
        generalize Ls[i2]'(by omega) = A2 at L2 neL
        have a1 := at_ i1 _ A1 x1 L1
        have a2 := at_ i2 _ A2 x2 L2
        have lf : ∀ x, (frs (ps.take i) x).length ≤ 36 := fun x => by
          have h1 := frs_len (ps.take i) x
          rw [List.length_take] at h1
          omega
        have d1 : A1 ≠ D := fun z => by
          rw [z, hd] at a1
          cases a1
        have d2 : A2 ≠ D := fun z => by
          rw [z, hd] at a2
          cases a2
        have n1 : A1 ≠ M := fun z => by
          have w1 := ci.2.2.2 i1 _ A1 x1 L1
          rw [z, nM] at w1
          cases w1
        have n2 : A2 ≠ M := fun z => by
          have w1 := ci.2.2.2 i2 _ A2 x2 L2
          rw [z, nM] at w1
          cases w1
        refine ⟨U, _, rfl, SqT.of eU, rfl, _, _, rfl, _, _, rfl, rfl, ?_⟩
        refine ⟨_, rfl, _, rfl, D, .ref A1, rfl, ?_, .inl ⟨rfl, _, SqL.of a1⟩, _, rfl, A1, _, _, rfl, rfl, a1, by rw [List.length_map, sizeLine_eq]; have := lf p.1; omega, ?_⟩
        · rw [← dkv_get (vs := Ls.map V.ref) nx x1 (by rw [List.getElem?_map, L1]; rfl)]
          exact DGet.k (k := Sum.inr p.1) hd
        have hd' : ∀ o, upd H' A1 o D = some (.dK (dkv xs (Ls.map V.ref))) := fun o => by rw [upd_ne (Ne.symm d1)]; exact hd
        have a2' : ∀ o, upd H' A1 o A2 = some (.lst ((frs (ps.take i) p.2).map V.str)) := fun o => by rw [upd_ne (Ne.symm neL)]; exact a2
        refine ⟨_, rfl, _, rfl, D, .ref A2, rfl, ?_, .inl ⟨rfl, _, SqL.of (a2' _)⟩, _, rfl, A2, _, _, rfl, rfl, a2' _, by rw [List.length_map, sizeLine_eq]; have := lf p.2; omega, ?_⟩
        · rw [← dkv_get (vs := Ls.map V.ref) nx x2 (by rw [List.getElem?_map, L2]; rfl)]
          exact DGet.k (k := Sum.inr p.2) (hd' _)
        have keepM : ∀ {q : Addr} {o : HO}, q ≠ A1 → q ≠ A2 → H' q = some o → upd (upd H' A1 (.lst ((frs (ps.take i) p.1).map V.str ++ [V.str p.2]))) A2 (.lst ((frs (ps.take i) p.2).map V.str ++ [V.str p.1])) q = some o := fun {q o} z1 z2 e => by
          rw [upd_ne z2, upd_ne z1]
          exact e
        have tne : ∀ T ∈ Ts, T ≠ A1 ∧ T ≠ A2 := fun T hT => by
          obtain ⟨y, _, ey⟩ := tu3.at hT
          constructor
          · intro z
            rw [z, a1] at ey
            cases ey
          · intro z
            rw [z, a2] at ey
            cases ey
        have fr1 := fresh A1 (List.mem_of_getElem? L1)
        have fr2 := fresh A2 (List.mem_of_getElem? L2)
        refine ⟨_, _, rfl, fun q o e => keepM (fun z => ?_) (fun z => ?_) (s3 _ _ e), keepM (Ne.symm n1) (Ne.symm n2) hm3, tu3.keep fun T o hT e => keepM (tne T hT).1 (tne T hT).2 e, keepM (Ne.symm d1) (Ne.symm d2) hd, ll, nd, fun j x L hx hL => ?_⟩
        · rw [z, fr1] at e
          cases e
        · rw [z, fr2] at e
          cases e
        · rw [take_next hp, frs_snoc]
          have inj : ∀ {j j' : Nat} {L : Addr}, Ls[j]? = some L → Ls[j']? = some L → j = j' := fun {j j' L} h h' => by
            exact nd_inj nd h h'
          by_cases z2 : L = A2
          · subst z2
            have : j = i2 := inj hL L2
            subst this
            have ex : x = p.2 := Option.some.inj (hx.symm.trans x2)
            subst ex
            rw [upd_same, if_neg ne12, if_pos rfl, List.map_append]
            rfl
          · by_cases z1 : L = A1
            · subst z1
              have : j = i1 := inj hL L1
              subst this
              have ex : x = p.1 := Option.some.inj (hx.symm.trans x1)
              subst ex
              rw [upd_ne neL, upd_same, if_pos rfl, List.map_append]
              rfl
            · have ne1 : ¬ p.1 = x := fun e => z1 (by
                have : j = i1 := nd_inj nx hx (by rw [x1, e])
                subst this
                exact Option.some.inj (hL.symm.trans L1))
              have ne2 : ¬ p.2 = x := fun e => z2 (by
                have : j = i2 := nd_inj nx hx (by rw [x2, e])
                subst this
                exact Option.some.inj (hL.symm.trans L2))
              rw [if_neg ne1, if_neg ne2, List.append_nil, upd_ne z2, upd_ne z1]
              exact at_ j x L hx hL
      · rintro σ H' ⟨v3, v4, rfl, s3, hm3, tu3, ci3⟩
        have e : ps.take (Ts.map V.ref).length = ps := by rw [List.length_map, lT, List.take_length]
        rw [e] at ci3
        exact ⟨_, rfl, k H' D Ls s3 nD fresh ci3⟩
end
end Wd
end
section
set_option maxRecDepth 100000
set_option maxHeartbeats 4000000
namespace Wd
open PySem L2
theorem room65 {k : Nat} {A : Around} (r : Room k A) : A.units + 65 < cLine := by
  have := r.un
  omega
theorem any_pd (ps : List Pr) (p : Pr) : (ps.map pd).any (fun z => PyData.eqv z (pd p)) = decide (p ∈ ps) := by
  rw [List.any_map]
  induction ps with
  | nil => simp
  | cons q ps ih =>
    rw [List.any_cons, ih]
    show (PyData.eqv (pd q) (pd p) || decide (p ∈ ps)) = decide (p ∈ q :: ps)
    rw [pd_eqv]
    by_cases h : q = p
    · subst h
      simp
    · rw [decide_eq_false h, Bool.false_or]
      exact decide_eq_decide.mpr ⟨fun z => List.mem_cons_of_mem _ z, fun z => by
        rcases List.mem_cons.mp z with e | z
        · exact absurd e.symm h
        · exact z⟩
theorem mem_frs {ps : List Pr} {x y : Str} (h : ∀ p ∈ ps, Lt p.1 p.2) : y ∈ frs ps x ↔ y ≠ x ∧ mk x y ∈ ps := by
  unfold frs
  rw [List.mem_filterMap]
  constructor
  · rintro ⟨p, hp, e⟩
    have lt := h p hp
    by_cases h1 : p.1 = x
    · rw [if_pos h1] at e
      have e := Option.some.inj e
      subst h1 e
      refine ⟨fun z => Lt.irr p.1 (by rw [z] at lt; exact lt), ?_⟩
      unfold mk
      rw [if_pos lt]
      exact hp
    · rw [if_neg h1] at e
      by_cases h2 : p.2 = x
      · rw [if_pos h2] at e
        have e := Option.some.inj e
        subst h2 e
        refine ⟨h1, ?_⟩
        unfold mk
        rw [if_neg fun z => Lt.irr _ (z.tr lt)]
        exact hp
      · rw [if_neg h2] at e
        cases e
  · rintro ⟨ne, hm⟩
    refine ⟨_, hm, ?_⟩
    unfold mk
    by_cases c : Lt x y
    · rw [if_pos c, if_pos rfl]
    · rw [if_neg c, if_neg ne, if_pos rfl]
theorem frs_asc {xs : List Str} {ps : List Pr} (g : Good xs ps) (x : Str) : Asc (frs ps x) := by
  show ((frs ps x)).Pairwise Lt
  unfold frs
  rw [List.pairwise_filterMap]
  have hp : ps.Pairwise fun p q => LtP p q ∧ Lt p.1 p.2 ∧ Lt q.1 q.2 := by
    have a := g.ascP
    have b := g.of
    clear g
    induction ps with
    | nil => exact List.Pairwise.nil
    | cons p ps ih =>
      obtain ⟨a1, a2⟩ := List.pairwise_cons.mp a
      exact List.pairwise_cons.mpr ⟨fun q hq => ⟨a1 q hq, (b p List.mem_cons_self).2.2, (b q (List.mem_cons_of_mem _ hq)).2.2⟩, ih a2 fun q hq => b q (List.mem_cons_of_mem _ hq)⟩
  refine List.Pairwise.imp (fun {p q} h => ?_) hp
  obtain ⟨l, lp, lq⟩ := h
  intro b hb b' hb'
  by_cases p1 : p.1 = x
  · rw [if_pos p1] at hb
    have hb := Option.some.inj hb
    subst hb
    by_cases q1 : q.1 = x
    · rw [if_pos q1] at hb'
      have hb' := Option.some.inj hb'
      subst hb'
      rcases l with z | z
      · rw [p1, q1] at z
        exact absurd z (Lt.irr _)
      · exact z.2
    · rw [if_neg q1] at hb'
      by_cases q2 : q.2 = x
      · exfalso
        rcases l with z | z
        · rw [p1, ← q2] at z
          exact Lt.irr _ (z.tr lq)
        · exact q1 (z.1.symm.trans p1)
      · rw [if_neg q2] at hb'
        cases hb'
  · rw [if_neg p1] at hb
    by_cases p2 : p.2 = x
    · rw [if_pos p2] at hb
      have hb := Option.some.inj hb
      subst hb
      by_cases q1 : q.1 = x
      · rw [if_pos q1] at hb'
        have hb' := Option.some.inj hb'
        subst hb'
        rw [p2, ← q1] at lp
        exact lp.tr lq
      · rw [if_neg q1] at hb'
        by_cases q2 : q.2 = x
        · rw [if_pos q2] at hb'
          have hb' := Option.some.inj hb'
          subst hb'
          rcases l with z | z
          · exact z
          · rw [p2, q2] at z
            exact absurd z.2 (Lt.irr _)
        · rw [if_neg q2] at hb'
          cases hb'
    · rw [if_neg p2] at hb
      cases hb
/-- the friends are those of the people whose pair is one -/
theorem frs_eq {xs : List Str} {ps : List Pr} (g : Good xs ps) (x : Str) : frs ps x = xs.filter fun y => decide (y ≠ x ∧ mk x y ∈ ps) :=
  ascS_uniq (frs_asc g x) (List.Pairwise.filter _ g.asc) fun y => by
    rw [mem_frs fun p hp => (g.of p hp).2.2, List.mem_filter]
    constructor
    · rintro ⟨h1, h2⟩
      refine ⟨?_, decide_eq_true ⟨h1, h2⟩⟩
      have o := g.of _ h2
      rcases has_mk y x with z | z
      · have : mk x y = mk y x := by
          unfold mk
          by_cases c : Lt x y
          · rw [if_pos c, if_neg fun q => Lt.irr _ (c.tr q)]
          · by_cases d : Lt y x
            · rw [if_neg c, if_pos d]
            · rcases Lt.tri x y with q | q | q
              · exact absurd q c
              · exact absurd q.symm h1
              · exact absurd q d
        rw [z, ← this]
        exact o.1
      · have : mk x y = mk y x := by
          unfold mk
          by_cases c : Lt x y
          · rw [if_pos c, if_neg fun q => Lt.irr _ (c.tr q)]
          · by_cases d : Lt y x
            · rw [if_neg c, if_pos d]
            · rcases Lt.tri x y with q | q | q
              · exact absurd q c
              · exact absurd q.symm h1
              · exact absurd q d
        rw [z, ← this]
        exact o.2.1
    · rintro ⟨_, h⟩
      exact of_decide_eq_true h
theorem frs_le {xs : List Str} {ps : List Pr} (g : Good xs ps) (x : Str) : (frs ps x).length ≤ 9 := by
  rw [frs_eq g]
  exact Nat.le_trans (List.length_filter_le _ _) g.few.2
theorem same_over {H H' : Hp} {a : Addr} {o : HO} (s : Same H H') (h : H a = none) : Same H (upd H' a o) := same_upd2 (.inr s) h
theorem dkv_at {xs : List Str} {vs : List V} {i : Nat} {x : Str} {v : V} (h1 : xs[i]? = some x) (h2 : vs[i]? = some v) : (dkv xs vs)[i]? = some ((Sum.inr x : Key), v) := by
  unfold dkv
  rw [List.getElem?_map, List.getElem?_zip_eq_some (z := (x, v)) |>.mpr ⟨h1, h2⟩]
  rfl
def rLen (K : PySem.W.Frag) : List V → Hp → VK → Prop := fun xs H Q => ∃ p ys, xs = [.ref p] ∧ (SqL K H p ys ∨ SqT K H p ys) ∧ Q (.int ys.length) H
def spStr (C : Addr) : Sp := fun vs H Q _ => ∃ (c : Addr) (xs : List Str) (ps : List Pr), vs = [.ref c] ∧ CAt C H c xs ps ∧ Good xs ps ∧ ∀ (H' : Hp) (D : Addr), Same H H' → H D = none → PwAt H' D ((prsS xs).filter fun p => decide (p ∉ ps)) → Q (.ref D) H'
def spFrOf (C : Addr) : Sp := fun vs H Q _ => ∃ (c : Addr) (x : Str) (xs : List Str) (ps : List Pr), vs = [.ref c, .str x] ∧ CAt C H c xs ps ∧ Good xs ps ∧ x ∈ xs ∧ ∀ (H' : Hp) (L : Addr), Same H H' → H L = none → H' L = some (.lst ((frs ps x).map V.str)) → Q (.ref L) H'
def spAreF (C : Addr) : Sp := fun vs H Q _ => ∃ (c t : Addr) (p : Pr) (xs : List Str) (ps : List Pr), vs = [.ref c, .ref t] ∧ CAt C H c xs ps ∧ Good xs ps ∧ H t = some (.tup [.str p.1, .str p.2]) ∧ p ∈ prsS xs ∧ ∀ H', Same H H' → Q (.bl (decide (p ∈ ps))) H'
def degs (xs : List Str) (ps : List Pr) : List V := xs.map fun x => V.int ((frs ps x).length : Nat)
def spNums (C : Addr) : Sp := fun vs H Q _ => ∃ (c : Addr) (xs : List Str) (ps : List Pr), vs = [.ref c] ∧ CAt C H c xs ps ∧ Good xs ps ∧ ∀ (H' : Hp) (D : Addr), Same H H' → H D = none → H' D = some (.dK (dkv xs (degs xs ps))) → Q (.ref D) H'
section
variable {P : Program} {w : World} {K : PySem.W.Frag} {mg : Str → Option Value} {base : Heap}
theorem ok_strangers {f C : Addr} {fd : FuncData} (F : Fun K "strangers" "strangers" sp_strangers f fd) (T : Bt mg) (TC : CT K mg C) (CC : Has P w K mg base 1 "check_company" ["company"] (spChk C)) (CA : Has P w K mg base 1 "all_pairs" ["people"] spAllP)
    (MP : HasM P w K mg base C 1 "people" (spPplM C)) (MF : HasM P w K mg base C 1 "friends" (spFrM C)) : FnOk P w K mg base CX0 2 f fd ["company"] (spStr C) := by
  obtain ⟨fP, fdP, GP, mP, bP⟩ := MP
  obtain ⟨fF, fdF, GF, mF, bF⟩ := MF
  obtain ⟨fC, fdC, GC, mC, kC, bC⟩ := CC
  obtain ⟨fA, fdA, GA, mA, kA, bA⟩ := CA
  refine F.ok cp_strangers (fun vs H Q E h => ?_) (fun cdv A outer s H vs Q E hr h => ?_)
  · obtain ⟨_, _, _, rfl, _⟩ := h
    rfl
  · obtain ⟨c, xs, ps, rfl, hc, g, k⟩ := h
    refine ⟨_, pss_cons (ps_expr (pe_call GC hr rfl mC kC bC .nil pass0 (pa_cons (pv 0) pa_nil)))
      (pss_cons (ps_set (i := 1) cp_strangers.nd rfl (Or.inr rfl) (pe_meth0 (pv 0) TC.is.cl mF GF hr bF .nil pass0))
      (pss_one (ps_ret (pe_lc (own := [("pair", 2)]) (g := gName 2) rfl cp_strangers.nd (pi_list (pe_call GA hr rfl mA kA bA .nil pass0 (pa_cons (pe_meth0 (pv 0) TC.is.cl mP GP hr bP .nil pass0) pa_nil)))
        (blkOk_by (N := ["company", "friends", "pair"]) (sc := defScope sp_strangers) (by decide +kernel)) (fun _ _ _ _ _ => pg_name (i := 2) cp_strangers.nd rfl (Or.inl rfl)) (fun _ _ _ _ _ => pts_one (pt_cmpR (r := rNotInD K) (op_notInD (room65 hr)) (pv 2) (pv 1) rfl))
        (fun _ _ _ _ _ => pv 2))))), ?_⟩
    obtain ⟨dx, a, b, h1, h2, h3⟩ := id hc
    have l9 := g.few
    have few := g.len
    refine ⟨_, rfl, c, dx, _, rfl, h1, ?_⟩
    refine ⟨_, rfl, c, dx, _, rfl, h1, cF_no a b (by decide +kernel) (by decide +kernel), c, xs, ps, rfl, hc, by omega, fun M H1 nM s1 ⟨Ts, hm, tu⟩ => ?_⟩
    have hc1 := hc.same s1
    refine ⟨_, rfl, c, dx, _, rfl, s1 _ _ h1, cF_no a b (by decide +kernel) (by decide +kernel), c, xs, ps, rfl, hc1, by omega, fun L hL => ?_⟩
    have s2 := same_new (o := .lst (xs.map V.str)) hL
    refine ⟨L, xs, xs, rfl, upd_same, List.Perm.refl _, g.asc, by omega, fun H3 D s3 nD ⟨Us, hd, uu⟩ => ?_⟩
    have s123 := (s1.trans s2).trans s3
    have hm3 := (s2.trans s3) _ _ hm
    have tu3 := tu.same (s2.trans s3)
    have lU : Us.length = (prsS xs).length := by rw [uu.1, List.length_map]
    have l36 := Good.len0 l9.2
    refine ⟨D, rfl, ⟨_, SqL.of hd⟩, fun R hR => ?_⟩
    refine lc_list (xs := Us.map V.ref) (fun j H4 => ∃ Vs : List Addr, H4 R = some (.lst (Vs.map V.ref)) ∧ Same H3 H4 ∧ Tups H4 Vs ((((prsS xs).take j).filter fun p => decide (p ∉ ps)).map tv))
      ⟨[], upd_same, same_new hR, Tups.nil⟩ (fun j H4 _ ⟨_, _, s6, _⟩ => SqL.of (s6 _ _ hd)) ?_ ?_
    · rintro j v H4 hv ⟨Vs, hr4, s6, tv4⟩
      rw [List.getElem?_map] at hv
      obtain ⟨U, hU, rfl⟩ := Option.map_eq_some_iff.mp hv
      have jl := (List.getElem?_eq_some_iff.mp hU).1
      obtain ⟨p, hp⟩ : ∃ p, (prsS xs)[j]? = some p := ⟨_, List.getElem?_eq_getElem (by omega)⟩
      have e1 := s6 _ _ (uu.2 j U (tv p) hU (by rw [List.getElem?_map, hp]; rfl))
      have mp := mem_prsS g.asc (List.mem_of_getElem? hp)
      refine ⟨rfl, _, rfl, _, rfl, pd p, ps.map pd, dp_pair (SqT.of e1), dp_pdL (SqL.of (s6 _ _ hm3)) (tu3.same s6), pd_shaped (g.word _ mp.1) (g.word _ mp.2.1), pdL_shaped g.wp, _, rfl, ?_⟩
      rw [any_pd]
      have nx : ((prsS xs).take (j + 1)).filter (fun p => decide (p ∉ ps)) = ((prsS xs).take j).filter (fun p => decide (p ∉ ps)) ++ (if p ∈ ps then [] else [p]) := by
        rw [take_next hp, List.filter_append]
        by_cases z : p ∈ ps <;> simp [z]
      refine ite2 (fun hb => ?_) (fun hb => ?_)
      · have z : p ∉ ps := by simpa using hb
        have lu : Vs.length ≤ 36 := by
          rw [tv4.1, List.length_map]
          have h1 := List.length_filter_le (fun p => decide (p ∉ ps)) ((prsS xs).take j)
          rw [List.length_take] at h1
          omega
        refine ⟨_, rfl, _, hr4, by rw [List.length_map, sizeLine_eq]; omega, Vs ++ [U], by rw [upd_same]; simp, same_over s6 hR, ?_⟩
        rw [nx, if_neg z, List.map_append]
        have t3 := tv4.upd (a := R) (o := .lst (Vs.map V.ref ++ [V.ref U])) fun x y e => by
          rw [hr4] at e
          cases e
        exact t3.snoc (p := tv p) (by rw [upd_ne (ne_of hr4 e1 (fun z => nomatch z)).symm]; exact e1)
      · have z : p ∈ ps := by simpa using hb
        refine ⟨Vs, hr4, s6, ?_⟩
        rw [nx, if_pos z, List.append_nil]
        exact tv4
    · rintro H4 ⟨Vs, hr4, s6, tv4⟩
      have e0 : (prsS xs).take (Us.map V.ref).length = prsS xs := by rw [List.length_map, lU, List.take_length]
      rw [e0] at tv4
      exact k H4 R (s123.trans s6) (same_none s123 hR) ⟨Vs, hr4, tv4⟩
theorem ok_friend_numbers {f C : Addr} {fd : FuncData} (F : Fun K "friend_numbers" "friend_numbers" sp_friend_numbers f fd) (T : Bt mg) (TC : CT K mg C) (CC : Has P w K mg base 1 "check_company" ["company"] (spChk C))
    (CI : Has P w K mg base 2 "circles" ["company"] (spCirc C)) : FnOk P w K mg base CX0 3 f fd ["company"] (spNums C) := by
  obtain ⟨fC, fdC, GC, mC, kC, bC⟩ := CC
  obtain ⟨fI, fdI, GI, mI, kI, bI⟩ := CI
  refine F.ok cp_friend_numbers (fun vs H Q E h => ?_) (fun cdv A outer s H vs Q E hr h => ?_)
  · obtain ⟨_, _, _, rfl, _⟩ := h
    rfl
  · obtain ⟨c, xs, ps, rfl, hc, g, k⟩ := h
    have hr1 : Room 1 _ := hr.mono (by decide)
    refine ⟨_, pss_cons (ps_expr (pe_call GC hr1 rfl mC kC bC .nil pass0 (pa_cons (pv 0) pa_nil)))
      (pss_one (ps_ret (pe_dc (own := [("person", 1), ("circle", 2)]) (g := gTup K 2 (gCons (gName 1) (gCons (gName 2) gNil))) (tt := tYes) rfl cp_friend_numbers.nd (pi_items (pe_frz (pe_call GI hr rfl mI kI bI .nil pass0 (pa_cons (pv 0) pa_nil))))
        (blkOk_by (N := ["company", "person", "circle"]) (sc := defScope sp_friend_numbers) (by decide +kernel)) (fun _ _ _ _ _ => pg_tup rfl (pgs_cons (pg_name (i := 1) cp_friend_numbers.nd rfl (Or.inl rfl)) (pgs_cons (pg_name (i := 2) cp_friend_numbers.nd rfl (Or.inl rfl)) pgs_nil)))
        (fun _ _ _ _ _ => pts_nil) (fun _ _ _ _ _ => pv 1) (fun _ _ _ _ _ => pe_callB (r := rLen K) call_len_seq (by rfl) T.len PySem.boot_len (pa_cons (pv 2) pa_nil))))), ?_⟩
    obtain ⟨dx, a, b, h1, h2, h3⟩ := id hc
    have l9 := g.few
    refine ⟨_, rfl, c, dx, _, rfl, h1, ?_⟩
    refine ⟨_, rfl, c, xs, ps, rfl, hc, g, fun H1 Dc Ls s1 nD ls ci => ⟨Dc, _, rfl, ci.1, True.intro, fun o => ?_⟩⟩
    have ll := ci.2.1
    refine ⟨Dc, o, _, rfl, upd_same, fun D hD => ?_⟩
    have s2 : Same H (upd H1 Dc (.frz o (.dK (dkv xs (Ls.map V.ref))))) := same_over s1 nD
    have nDD : H D = none := same_none s2 hD
    have neD : Dc ≠ D := ne_of_none upd_same hD
    have at1 : ∀ (i : Nat) x L, xs[i]? = some x → Ls[i]? = some L → L ≠ Dc ∧ H1 L = some (.lst ((frs ps x).map V.str)) := fun i x L hx hL => by
      have e := ci.2.2.2 i x L hx hL
      refine ⟨fun z => ?_, e⟩
      rw [z, ci.1] at e
      cases e
    refine dc_walk (walk_items (d := Dc) (o := o) (kvs := dkv xs (Ls.map V.ref))) (fun i H' => Same H H' ∧ H' Dc = some (.frz o (.dK (dkv xs (Ls.map V.ref)))) ∧ (∀ (i : Nat) x L, xs[i]? = some x → Ls[i]? = some L → H' L = some (.lst ((frs ps x).map V.str))) ∧ H' D = some (.dK (dkv (xs.take i) ((degs xs ps).take i))))
      ⟨same_over s2 nDD, by rw [upd_ne neD, upd_same], fun i x L hx hL => ?_, upd_same⟩ (fun i H' _ z => z.2.1) ?_ ?_
    · obtain ⟨n1, e⟩ := at1 i x L hx hL
      have e2 : upd H1 Dc (.frz o (.dK (dkv xs (Ls.map V.ref)))) L = some (.lst ((frs ps x).map V.str)) := by rw [upd_ne n1]; exact e
      rw [upd_ne (ne_of_none e2 hD)]
      exact e2
    · rintro i v H2 H3 hi ⟨s3, hf, at_, hd⟩ ⟨T0, kx, vx, rfl, nT, rfl, ek, ev⟩
      rw [dkv_len (by rw [List.length_map]; exact ll)] at hi
      obtain ⟨x, hx⟩ : ∃ x, xs[i]? = some x := ⟨_, List.getElem?_eq_getElem hi⟩
      obtain ⟨L, hL⟩ : ∃ L, Ls[i]? = some L := ⟨_, List.getElem?_eq_getElem (by omega)⟩
      have ea := dkv_at (vs := Ls.map V.ref) hx (by rw [List.getElem?_map, hL]; rfl)
      simp only [ea, Option.map_some] at ek ev
      have ek := Option.some.inj ek
      have ev := Option.some.inj ev
      subst ek ev
      have hLT := at_ i x L hx hL
      have DT : D ≠ T0 := ne_of_none hd nT
      have ld : (degs xs ps).length = xs.length := List.length_map _
      refine ⟨T0, _, rfl, SqT.of upd_same, rfl, _, _, rfl, _, _, rfl, rfl, rfl, ?_⟩
      refine ⟨_, rfl, _, rfl, L, _, rfl, .inl (SqL.of (by rw [upd_ne (ne_of_none hLT nT)]; exact hLT)), _, Sum.inr x, rfl, by rw [upd_ne DT]; exact hd, ?_, same_over (same_over s3 (same_none s3 nT)) nDD, ?_, fun j y M hy hM => ?_, ?_⟩
      · rw [dkv_len (by rw [List.length_take, List.length_take, ld]), List.length_take, sizeLine_eq]
        omega
      · rw [upd_ne neD, upd_ne (ne_of_none hf nT)]
        exact hf
      · have e := at_ j y M hy hM
        have MD : M ≠ D := fun z => by
          rw [z, hd] at e
          cases e
        rw [upd_ne MD, upd_ne (ne_of_none e nT)]
        exact e
      · have nin : x ∉ xs.take i := fun z => by
          obtain ⟨j, hj, e⟩ := List.getElem_of_mem z
          rw [List.length_take] at hj
          rw [List.getElem_take] at e
          have := nd_inj g.asc.nd (List.getElem?_eq_some_iff.mpr ⟨by omega, e⟩) hx
          omega
        rw [upd_same, dkv_snoc nin (by rw [List.length_take, List.length_take, ld]), List.length_map, take_next hx]
        refine congrArg (fun l => some (HO.dK (dkv (xs.take i ++ [x]) l))) ?_
        exact (take_next (by unfold degs; rw [List.getElem?_map, hx]; rfl)).symm
    · rintro H2 ⟨s3, hf, at_, hd⟩
      rw [dkv_len (by rw [List.length_map]; exact ll), List.take_length] at hd
      have e : (degs xs ps).take xs.length = degs xs ps := List.take_of_length_le (by unfold degs; rw [List.length_map]; exact Nat.le_refl _)
      rw [e] at hd
      exact k H2 D s3 nDD hd
end
end Wd
end
section
set_option maxRecDepth 100000
set_option maxHeartbeats 4000000
namespace Wd
open PySem L2
def spForks (C : Addr) : Sp := fun vs H Q _ => ∃ (c : Addr) (x : Str) (xs : List Str) (ps : List Pr), vs = [.ref c, .str x] ∧ CAt C H c xs ps ∧ Good xs ps ∧ x ∈ xs ∧ ∀ (H' : Hp) (D : Addr), Same H H' → H D = none → PwAt H' D (prsS (frs ps x)) → Q (.ref D) H'
def forkL (xs : List Str) (ps : List Pr) : List Int := xs.map fun x => ((prsS (frs ps x)).length : Int)
def spForkN (C : Addr) : Sp := fun vs H Q _ => ∃ (c : Addr) (xs : List Str) (ps : List Pr), vs = [.ref c] ∧ CAt C H c xs ps ∧ Good xs ps ∧ ∀ H', Same H H' → Q (.int (forkL xs ps).sum) H'
def oddF (ps : List Pr) (x : Str) : Bool := decide (V.int (((frs ps x).length : Nat) % 2 : Int) = V.int 1)
def spOddP (C : Addr) : Sp := fun vs H Q _ => ∃ (c : Addr) (xs : List Str) (ps : List Pr), vs = [.ref c] ∧ CAt C H c xs ps ∧ Good xs ps ∧ ∀ (H' : Hp) (D : Addr), Same H H' → H D = none → H' D = some (.lst ((xs.filter (oddF ps)).map V.str)) → Q (.ref D) H'
def pow (b : Bool) : Str := if b = true then "part" else "befriend"
def spIsChg : Sp := fun vs H Q _ => ∃ (t u : Addr) (b : Bool) (p : Pr), vs = [.ref t] ∧ H t = some (.tup [.str (pow b), .ref u]) ∧ H u = some (.tup [.str p.1, .str p.2]) ∧ IsW p.1 ∧ IsW p.2 ∧ Lt p.1 p.2 ∧ ∀ H', Same H H' → Q (.bl true) H'
def spFit (C : Addr) : Sp := fun vs H Q _ => ∃ (c t u : Addr) (p : Pr) (xs : List Str) (ps : List Pr), vs = [.ref c, .ref t] ∧ CAt C H c xs ps ∧ Good xs ps ∧ H t = some (.tup [.str (pow (decide (p ∈ ps))), .ref u]) ∧ H u = some (.tup [.str p.1, .str p.2]) ∧ p ∈ prsS xs ∧ ∀ H', Same H H' → Q (.bl true) H'
def spTurn (C : Addr) : Sp := fun vs H Q _ => ∃ (c u : Addr) (p : Pr) (xs : List Str) (ps : List Pr), vs = [.ref c, .ref u] ∧ CAt C H c xs ps ∧ Good xs ps ∧ H u = some (.tup [.str p.1, .str p.2]) ∧ p ∈ prsS xs ∧ ∀ (H' : Hp) (D : Addr), Same H H' → H D = none → CAt C H' D xs (flip xs ps p) → Q (.ref D) H'
def spChgd (C : Addr) : Sp := fun vs H Q _ => ∃ (c t u : Addr) (p : Pr) (xs : List Str) (ps : List Pr), vs = [.ref c, .ref t] ∧ CAt C H c xs ps ∧ Good xs ps ∧ H t = some (.tup [.str (pow (decide (p ∈ ps))), .ref u]) ∧ H u = some (.tup [.str p.1, .str p.2]) ∧ p ∈ prsS xs ∧
  ∀ (H' : Hp) (D : Addr), Same H H' → H D = none → CAt C H' D xs (flip xs ps p) → Q (.ref D) H'
theorem Good.flip {xs : List Str} {ps : List Pr} (g : Good xs ps) (p : Pr) : Good xs (Wd.flip xs ps p) := ⟨g.asc, g.word, g.few, List.filter_sublist⟩
section
variable {P : Program} {w : World} {K : PySem.W.Frag} {mg : Str → Option Value} {base : Heap}
end
end Wd
end
section
set_option maxRecDepth 100000
set_option maxHeartbeats 4000000
namespace Wd
open PySem L2
theorem flip_out {xs : List Str} {ps : List Pr} {p : Pr} (g : Good xs ps) (hp : p ∈ prsS xs) (n : p ∉ ps) : (ps ++ [p]).Perm (flip xs ps p) := by
  refine (List.perm_ext_iff_of_nodup ?_ ((g.flip p).nodup)).mpr fun q => ?_
  · rw [List.nodup_append]
    refine ⟨g.nodup, by simp, fun a ha b hb => ?_⟩
    rw [List.mem_singleton.mp hb]
    rintro rfl
    exact n ha
  · rw [List.mem_append, List.mem_singleton, mem_flip]
    constructor
    · rintro (h | h)
      · have z : q ≠ p := fun e => n (e ▸ h)
        exact ⟨g.sub.subset h, by simp [h, z]⟩
      · subst h
        exact ⟨hp, by simp [n]⟩
    · rintro ⟨h1, h2⟩
      by_cases z : q = p
      · exact .inr z
      · simp only [decide_eq_false z, Bool.bne_false] at h2
        exact .inl (of_decide_eq_true h2)
theorem flip_in {xs : List Str} {ps : List Pr} {p : Pr} (g : Good xs ps) (n : p ∈ ps) : ps.filter (fun q => decide (q ≠ p)) = flip xs ps p :=
  asc_uniq (g.ascP.filter _) ((prsS_asc g.asc).filter _) fun q => by
    rw [List.mem_filter, mem_flip]
    constructor
    · rintro ⟨h1, h2⟩
      have h3 := of_decide_eq_true h2
      exact ⟨g.sub.subset h1, by simp [h1, h3]⟩
    · rintro ⟨h1, h2⟩
      by_cases z : q = p
      · subst z
        simp [n] at h2
      · simp only [decide_eq_false z, Bool.bne_false] at h2
        exact ⟨of_decide_eq_true h2, decide_eq_true z⟩
/-- how a company is made -/
structure Maker (P : Program) (w : World) (K : PySem.W.Frag) (mg : Str → Option Value) (base : Heap) (C : Addr) : Prop where
  ex : ∃ (f : Addr) (fd : FuncData), Mk K C f ∧ FnOk P w K mg base CX0 4 f fd ["self", "people", "friends"] (spInit C) ∧ Binds K fd ["self", "people", "friends"] []
section
variable {P : Program} {w : World} {K : PySem.W.Frag} {mg : Str → Option Value} {base : Heap}
end
end Wd
end
section
set_option maxRecDepth 100000
set_option maxHeartbeats 4000000
namespace Wd
open PySem PySem.Spec PyProof.Rows L2
theorem pick_whole (items : Array Value) : slicePick items none none (some 1) = items := by
  have e : slicePick items none none (some 1) = slicePick items none none none := rfl
  have h := slicePick_cut items.toList none none
  rw [e, show items = items.toList.toArray from rfl, h]
  have z0 : HT.sIx items.toList.length 0 none = 0 := rfl
  have z1 : HT.sIx items.toList.length items.toList.length none = items.toList.length := rfl
  rw [z0, z1, List.drop_zero, Nat.sub_zero, List.take_length]
/-- xs[::step], step a name that is 1 or -1 -/
def tStepL (K : PySem.W.Frag) (te : TE) (i : Nat) : TE := fun σ H Q => te σ H fun x H1 => ∃ (a : Addr) (xs : List V) (b : Bool), x = .ref a ∧ σ[i]? = some (some (.int (if b = true then 1 else -1))) ∧ SqL K H1 a xs ∧ ∀ p, H1 p = none → Q (.ref p) (L2.upd H1 p (.lst (if b = true then xs else xs.reverse)))
theorem pe_stepL {X : Cx} {e : Expr} {te : TE} {i : Nat} {y : Str} {p1 p3 pos : Pos} (he : PE X e te) (hs : PE X (.Name y p1) (tVar i)) : PE X (.Subscript e (.Slice none none (some (.Name y p1)) p3) pos) (tStepL X.K te i) := by
  refine ⟨fun pins s σ H Q I h => Subscript_ (thn (he.run pins s σ H _ I h) ?_)⟩
  rintro v s1 ⟨x, H1, I1, r1, a, xs, b, rfl, hv, hx, k⟩
  cases r1
  have part : PO X (some (.Name y p1)) (tPart (tVar i)) := po_some hs
  refine wpAny_Slice (thn (po_none.run pins s1 σ H1 (fun o H2 => o = none ∧ H2 = H1) I1 ⟨rfl, rfl⟩) ?_)
  rintro vl s2 ⟨l, H2, I2, pl, rfl, rfl⟩
  refine thn (po_none.run pins s2 σ H2 (fun o H3 => o = none ∧ H3 = H2) I2 ⟨rfl, rfl⟩) ?_
  rintro vu s3 ⟨u, H3, I3, pu, rfl, rfl⟩
  refine thn (part.run pins s3 σ H3 (fun o H4 => o = some (if b = true then 1 else -1) ∧ H4 = H3) I3 ⟨_, hv, _, rfl, rfl, rfl⟩) ?_
  rintro vs s4 ⟨o, H4, I4, pt, rfl, rfl⟩
  have I5 : Inv X pins σ H4 { s4 with heap := s4.heap.push { cls := .type "slice", data := .fields #[vl, vu, vs] } } := I4.kept (t' := s4.toks) fun _ _ z => Heap.get?_push_of_some _ z
  obtain ⟨its, r, ht, hz⟩ := I5.list hx
  have hlen := r.length
  show wpAny (model X.prog X.w) X.A (subscriptTail e (.Slice none none (some (.Name y p1)) p3) (.ref a) (.ref s4.heap.objs.size)) (EP X pins σ Q) X.xe { s4 with heap := s4.heap.push { cls := .type "slice", data := .fields #[vl, vu, vs] } }
  refine tail_any (ops := [.ref a, .ref s4.heap.objs.size]) ht.isList.typeIs (PySem.slot_list_getitem.lookup) ?_ (by with_unfolding_all rfl)
  refine wpAny_getItem_list_slice ht.isList (Heap.IsSliceOf.new _ vl vu vs) pl pu pt (by cases b <;> decide) ?_ (by rw [List.size_toArray]; omega)
  cases b with
  | true =>
    have e1 : slicePick its.toArray none none (some (if true = true then 1 else -1)) = its.toArray := pick_whole _
    rw [e1]
    refine ⟨.ref _, _, I5.laid (t' := s4.toks) (o := .lst xs) (fun _ _ z => Heap.get?_push_of_some _ z) (Nat.le_refl _) ⟨hz, _, 0, r, Heap.get?_push_size _ rfl⟩, rfl, k _ (I5.hok.fresh (Nat.le_refl _))⟩
  | false =>
    have e1 : slicePick its.toArray none none (some (if false = true then 1 else -1)) = its.toArray.toList.reverse.toArray := PySem.W.krv_pick _
    rw [e1]
    refine ⟨.ref _, _, I5.laid (t' := s4.toks) (o := .lst xs.reverse) (fun _ _ z => Heap.get?_push_of_some _ z) (Nat.le_refl _) ⟨by rw [List.length_reverse]; exact hz, _, 0, r.reverse, Heap.get?_push_size _ rfl⟩, rfl, k _ (I5.hok.fresh (Nat.le_refl _))⟩
end Wd
end
section
set_option maxRecDepth 100000
set_option maxHeartbeats 4000000
namespace Wd
open PySem L2
theorem Tups.rev {H : Hp} {Ts : List Addr} {ps : List (V × V)} (t : Tups H Ts ps) : Tups H Ts.reverse ps.reverse := by
  refine ⟨by rw [List.length_reverse, List.length_reverse, t.1], fun k T p h1 h2 => ?_⟩
  have l1 : k < Ts.reverse.length := (List.getElem?_eq_some_iff.mp h1).1
  rw [List.length_reverse] at l1
  rw [List.getElem?_reverse l1] at h1
  rw [List.getElem?_reverse (by rw [← t.1]; exact l1), ← t.1] at h2
  exact t.2 _ T p h1 h2
theorem map_set {α β : Type} [DecidableEq α] {xs : List α} {f : α → β} {i : Nat} {x : α} {v : β} (nd : xs.Nodup) (h : xs[i]? = some x) : (xs.map f).set i v = xs.map fun y => if y = x then v else f y := by
  apply List.ext_getElem?
  intro j
  rw [List.getElem?_set, List.getElem?_map, List.getElem?_map]
  by_cases e : i = j
  · subst e
    have := (List.getElem?_eq_some_iff.mp h).1
    rw [if_pos rfl, if_pos (by rw [List.length_map]; exact this), h]
    simp
  · rw [if_neg e]
    cases hj : xs[j]? with
    | none => rfl
    | some y =>
      have : y ≠ x := fun z => e (nd_inj nd h (by rw [hj, z]))
      simp [this]
theorem merge_dkv : ∀ (more acc : List Str) (f : Str → V), (acc ++ more).Nodup → mergeK (dkv acc (acc.map f)) (dkv more (more.map f)) = dkv (acc ++ more) ((acc ++ more).map f)
  | [], acc, f, _ => by
    rw [List.append_nil]
    rfl
  | x :: more, acc, f, nd => by
    have nin : x ∉ acc := fun z => (List.nodup_append.mp nd).2.2 x z x List.mem_cons_self rfl
    have e : acc ++ x :: more = (acc ++ [x]) ++ more := by rw [List.append_assoc]; rfl
    show mergeK (putK (dkv acc (acc.map f)) (Sum.inr x) (f x)) (dkv more (more.map f)) = _
    rw [dkv_snoc nin (List.length_map _), e]
    have h := merge_dkv more (acc ++ [x]) f (by rw [← e]; exact nd)
    rw [List.map_append] at h
    exact h
theorem dkv_mem {xs : List Str} {vs : List V} {i : Nat} {kv : Key × V} (h : (dkv xs vs)[i]? = some kv) : ∃ x v, xs[i]? = some x ∧ vs[i]? = some v ∧ kv = (Sum.inr x, v) := by
  unfold dkv at h
  rw [List.getElem?_map] at h
  obtain ⟨z, hz, rfl⟩ := Option.map_eq_some_iff.mp h
  obtain ⟨z1, z2⟩ := List.getElem?_zip_eq_some.mp hz
  exact ⟨_, _, z1, z2, rfl⟩
theorem paired_of {α β : Type} {R : α → β → Prop} : ∀ {as : List α} {bs : List β}, as.length = bs.length → (∀ (i : Nat) a b, as[i]? = some a → bs[i]? = some b → R a b) → Paired R as bs
  | [], [], _, _ => .nil
  | [], b :: bs, h, _ => by simp at h
  | a :: as, [], h, _ => by simp at h
  | a :: as, b :: bs, h, r => .cons (r 0 a b rfl rfl) (paired_of (by simpa using h) fun i x y h1 h2 => r (i + 1) x y (by simpa using h1) (by simpa using h2))
def spComp (C : Addr) : Sp := fun vs H Q _ => ∃ (a : Addr) (xs : List Str) (ps : List Pr), vs = [.ref a] ∧ WAt H a xs ps ∧ Good xs ps ∧ ∀ (H' : Hp) (D : Addr), Same H H' → H D = none → CAt C H' D xs ps → Q (.ref D) H'
def spNumL : Sp := fun vs H Q _ => ∃ (a : Addr) (xs : List Str) (ps : List Pr), vs = [.ref a] ∧ WAt H a xs ps ∧ Good xs ps ∧ ∀ (H' : Hp) (D : Addr), Same H H' → H D = none → H' D = some (.dK (dkv xs (degs xs ps))) → Q (.ref D) H'
def spOddL : Sp := fun vs H Q _ => ∃ (a : Addr) (xs : List Str) (ps : List Pr), vs = [.ref a] ∧ WAt H a xs ps ∧ Good xs ps ∧ ∀ (H' : Hp) (D : Addr), Same H H' → H D = none → H' D = some (.lst ((xs.filter (oddF ps)).map V.str)) → Q (.ref D) H'
def spFrL : Sp := fun vs H Q _ => ∃ (a : Addr) (x : Str) (xs : List Str) (ps : List Pr), vs = [.ref a, .str x] ∧ WAt H a xs ps ∧ Good xs ps ∧ ∀ (H' : Hp) (D : Addr), Same H H' → H D = none → H' D = some (.lst ((frs ps x).map V.str)) → Q (.ref D) H'
def spFksL : Sp := fun vs H Q _ => ∃ (a : Addr) (xs : List Str) (ps : List Pr), vs = [.ref a] ∧ WAt H a xs ps ∧ Good xs ps ∧ ∀ H', Same H H' → Q (.int (forkL xs ps).sum) H'
section
variable {P : Program} {w : World} {K : PySem.W.Frag} {mg : Str → Option Value} {base : Heap}
theorem ok_company {f C : Addr} {fd : FuncData} (F : Fun K "_law_company" "_law_company" s_company f fd) (T : Bt mg) (TC : CT K mg C) (M : Maker P w K mg base C) : FnOk P w K mg base CX0 6 f fd ["_law_world_here"] (spComp C) := by
  obtain ⟨fI, fdI, MI, GI, bI⟩ := M.ex
  refine F.ok c_company (fun vs H Q E h => ?_) (fun cdv A outer s H vs Q E hr h => ?_)
  · obtain ⟨_, _, _, rfl, _⟩ := h
    rfl
  · obtain ⟨a, xs, ps, rfl, ⟨c, l, ha, hc, Ts, hl, tu⟩, g, k⟩ := h
    refine ⟨_, pss_cons (ps_set (i := 1) c_company.nd rfl (Or.inl rfl) (pe_op op_sub pe_int (pe_op op_mul pe_int (pe_op op_mod (pe_callTy call_int1 (by rfl) T.int (by decide +kernel) (pa_cons (pe_callB call_len_seq (by rfl) T.len PySem.boot_len (pa_cons (pe_ix ix_list (pv 0) pe_int (fun _ _ => rfl)) pa_nil)) pa_nil)) pe_int))))
      (pss_one (ps_ret (pe_make MI GI hr rfl TC.mC bI .nil pass0 (pa_cons (pe_stepL (i := 1) (pe_ix ix_list (pv 0) pe_int (fun _ _ => rfl)) (pv 1)) (pa_cons (pe_stepL (i := 1) (pe_ix ix_list (pv 0) pe_int (fun _ _ => rfl)) (pv 1)) pa_nil))))), ?_⟩
    have few := g.len
    have lT : Ts.length = ps.length := by rw [tu.1, List.length_map]
    refine ⟨_, rfl, a, _, _, .ref l, rfl, rfl, SqL.of ha, rfl, l, _, rfl, .inl (SqL.of hl), .inl ⟨_, rfl, ?_⟩⟩
    refine ⟨_, _, rfl, rfl, (by show (0 : Int) < 2; decide), _, _, rfl, rfl, .inl ⟨by decide, by decide⟩, _, _, rfl, rfl, ?_⟩
    have eb : ∃ b : Bool, (1 - 2 * (((Ts.map V.ref).length : Nat) % 2 : Int)) = if b = true then 1 else -1 := by
      rcases (show ((Ts.map V.ref).length : Int) % 2 = 0 ∨ ((Ts.map V.ref).length : Int) % 2 = 1 by omega) with z | z
      · exact ⟨true, by rw [z]; rfl⟩
      · exact ⟨false, by rw [z]; rfl⟩
    obtain ⟨b, eb⟩ := eb
    refine ⟨_, rfl, a, _, _, .ref c, rfl, rfl, SqL.of ha, rfl, c, xs.map V.str, b, rfl, congrArg (fun i => some (some (V.int i))) eb, SqL.of hc, fun L hL => ?_⟩
    have s1 := same_new (o := .lst (if b = true then xs.map V.str else (xs.map V.str).reverse)) hL
    refine ⟨_, rfl, a, _, _, .ref l, rfl, rfl, SqL.of (s1 _ _ ha), rfl, l, Ts.map V.ref, b, rfl, congrArg (fun i => some (some (V.int i))) eb, SqL.of (s1 _ _ hl), fun N hN => ?_⟩
    have s2 := same_updN (o := .lst (if b = true then Ts.map V.ref else (Ts.map V.ref).reverse)) s1 hN
    intro x dx nx ndx nex
    have nx' : upd (upd (upd H L (.lst (if b = true then xs.map V.str else (xs.map V.str).reverse))) N (.lst (if b = true then Ts.map V.ref else (Ts.map V.ref).reverse))) dx (.own x) x = none := by rw [upd_ne (Ne.symm nex)]; exact nx
    have s3 := same_updN (o := .ins C dx []) (same_new (o := .own x) ndx) nx'
    have nH : H x = none := same_none s2 nx
    have LN : L ≠ N := ne_of_none upd_same hN
    refine ⟨x, dx, L, N, if b = true then xs else xs.reverse, xs, if b = true then ps else ps.reverse, ps, rfl, upd_same, s3 _ _ ?_, ⟨if b = true then Ts else Ts.reverse, s3 _ _ ?_, ?_⟩, ?_, ?_, g, fun H4 sx ca => ⟨rfl, ?_⟩⟩
    · rw [upd_ne LN, upd_same]
      cases b <;> simp
    · rw [upd_same]
      cases b <;> simp
    · have t3 := tu.same (s2.trans s3)
      cases b with
      | true => exact t3
      | false =>
        have := t3.rev
        rw [← List.map_reverse (f := tv)] at this
        exact this
    · cases b with
      | true => exact List.Perm.refl _
      | false => exact List.reverse_perm _
    · cases b with
      | true => exact List.Perm.refl _
      | false => exact List.reverse_perm _
    · exact k H4 x (fun q o e => sx q o (ne_of_none e nH) ((s2.trans s3) _ _ e)) nH ca
end
end Wd
end
section
set_option maxRecDepth 100000
set_option maxHeartbeats 4000000
namespace Wd
open PySem L2
/-- 1 if the two are one of the pairs -/
def ev (ps : List Pr) (a b : Str) : Nat := if (a, b) ∈ ps then 1 else 0
/-- what a triple with so many friendships is worth -/
def gg (t : Nat) : Int := if t = 2 then 1 else if t = 3 then 3 else 0
def inn (ps : List Pr) (x y : Str) : List Str → Int
  | [] => 0
  | z :: s => gg (ev ps x y + ev ps x z + ev ps y z) + inn ps x y s
def row (ps : List Pr) (x : Str) : List Str → Int
  | [] => 0
  | y :: s => inn ps x y s + row ps x s
def tri (ps : List Pr) : List Str → Int
  | [] => 0
  | x :: r => row ps x r + tri ps r
def four (a b c d : Int) : List V := [.int a, .int b, .int c, .int d]
theorem slot4 (a b c d : Int) {t : Nat} (h : t ≤ 3) : ∃ v : Int, atI (four a b c d) (t : Int) = some (.int v) ∧ ixN (four a b c d).length (t : Int) = some t ∧ ∃ a' b' c' d' : Int, (four a b c d).set t (.int (v + 1)) = four a' b' c' d' ∧ c' + 3 * d' = c + 3 * d + gg t := by
  rcases (show t = 0 ∨ t = 1 ∨ t = 2 ∨ t = 3 by omega) with rfl | rfl | rfl | rfl
  · exact ⟨a, rfl, rfl, a + 1, b, c, d, rfl, by show _ = c + 3 * d + 0; omega⟩
  · exact ⟨b, rfl, rfl, a, b + 1, c, d, rfl, by show _ = c + 3 * d + 0; omega⟩
  · exact ⟨c, rfl, rfl, a, b, c + 1, d, rfl, by show _ = c + 3 * d + 1; omega⟩
  · exact ⟨d, rfl, rfl, a, b, c, d + 1, rfl, by show _ = c + 3 * d + 3; omega⟩
theorem drop_next {α : Type} {l : List α} {i : Nat} {x : α} (h : l[i]? = some x) : l.drop i = x :: l.drop (i + 1) := by
  obtain ⟨h1, h2⟩ := List.getElem?_eq_some_iff.mp h
  rw [List.drop_eq_getElem_cons h1, h2]
def spTri : Sp := fun vs H Q _ => ∃ (a : Addr) (xs : List Str) (ps : List Pr), vs = [.ref a] ∧ WAt H a xs ps ∧ Good xs ps ∧ ∀ (H' : Hp) (D : Addr) (a b c d : Int), Same H H' → H D = none → H' D = some (.lst (four a b c d)) → c + 3 * d = tri ps xs → Q (.ref D) H'
section
variable {P : Program} {w : World} {K : PySem.W.Frag} {mg : Str → Option Value} {base : Heap}
end
end Wd
end
section
set_option maxRecDepth 100000
set_option maxHeartbeats 4000000
namespace Wd
open PySem L2
def Atom (v : V) : Prop := (∃ i, v = .int i) ∨ (∃ x, v = .str x) ∨ ∃ b, v = .bl b
/-- the same data, at most n deep -/
inductive Sm (H : Hp) : Nat → V → V → Prop
  | atom {v : V} (n : Nat) (h : Atom v) : Sm H n v v
  | lst {n : Nat} {a b : Addr} {xs ys : List V} (ha : H a = some (.lst xs)) (hb : H b = some (.lst ys)) (l : xs.length = ys.length) (few : xs.length ≤ 100) (h : ∀ (i : Nat) x y, xs[i]? = some x → ys[i]? = some y → Sm H n x y) : Sm H (n + 1) (.ref a) (.ref b)
  | tup {n : Nat} {a b : Addr} {xs ys : List V} (ha : H a = some (.tup xs)) (hb : H b = some (.tup ys)) (l : xs.length = ys.length) (few : xs.length ≤ 100) (h : ∀ (i : Nat) x y, xs[i]? = some x → ys[i]? = some y → Sm H n x y) : Sm H (n + 1) (.ref a) (.ref b)
  | dct {n : Nat} {a b : Addr} {xs : List Str} {vs : List V} (ha : H a = some (.dK (dkv xs vs))) (hb : H b = some (.dK (dkv xs vs))) (ne : a ≠ b) (l : vs.length = xs.length) (few : xs.length ≤ 100) (nd : xs.Nodup) (h : ∀ v ∈ vs, Atom v) : Sm H (n + 2) (.ref a) (.ref b)
theorem Sm.same {H H' : Hp} (s : Same H H') : ∀ {n : Nat} {x y : V}, Sm H n x y → Sm H' n x y := by
  intro n x y h
  induction h with
  | atom n h => exact .atom n h
  | lst ha hb l few _ ih => exact .lst (s _ _ ha) (s _ _ hb) l few ih
  | tup ha hb l few _ ih => exact .tup (s _ _ ha) (s _ _ hb) l few ih
  | dct ha hb ne l few nd h => exact .dct (s _ _ ha) (s _ _ hb) ne l few nd h
theorem Sm.up {H : Hp} {n : Nat} {x y : V} (h : Sm H n x y) : Sm H (n + 1) x y := by
  induction h with
  | atom n h => exact .atom _ h
  | lst ha hb l few _ ih => exact .lst ha hb l few ih
  | tup ha hb l few _ ih => exact .tup ha hb l few ih
  | dct ha hb ne l few nd h => exact .dct ha hb ne l few nd h
theorem Sm.le {H : Hp} {n m : Nat} {x y : V} (h : Sm H n x y) (l : n ≤ m) : Sm H m x y := by
  induction l with
  | refl => exact h
  | step _ ih => exact ih.up
def spExact (n : Nat) : Sp := fun vs H Q _ => ∃ x y : V, vs = [x, y] ∧ Sm H n x y ∧ ∀ H', Same H H' → Q (.bl true) H'
theorem kit2 {K : PySem.W.Frag} {a : String} {b c : Bool} (h1 : kitB a "list" = some b) (h2 : kitB a "tuple" = some c) : PySem.W.kitAny K (.type a) [.type "list", .type "tuple"] = some (b || c) := by
  cases b with
  | true => exact kitAny_cons (kit_ty h1) (fun z => nomatch z) fun _ => rfl
  | false =>
    refine kitAny_cons (kit_ty h1) (fun _ => ?_) (fun z => nomatch z)
    cases c with
    | true => exact kitAny_cons (kit_ty h2) (fun z => nomatch z) fun _ => rfl
    | false => exact kitAny_cons (kit_ty h2) (fun _ => rfl) (fun z => nomatch z)
/-- the class of a plain thing, and what isinstance says of it -/
structure Cl (K : PySem.W.Frag) (H : Hp) (v : V) (t : String) (l u d i b : Bool) : Prop where
  ty : TyX K H v (.type t)
  l : kitB t "list" = some l
  u : kitB t "tuple" = some u
  d : kitB t "dict" = some d
  i : kitB t "int" = some i
  b : kitB t "bool" = some b
theorem atom_cl {K : PySem.W.Frag} {H : Hp} {v : V} (h : Atom v) : ∃ t i b, Cl K H v t false false false i b := by
  rcases h with ⟨z, rfl⟩ | ⟨z, rfl⟩ | ⟨z, rfl⟩
  · exact ⟨"int", true, false, .base (.int z), by decide +kernel, by decide +kernel, by decide +kernel, by decide +kernel, by decide +kernel⟩
  · exact ⟨"str", false, false, .base (.str z), by decide +kernel, by decide +kernel, by decide +kernel, by decide +kernel, by decide +kernel⟩
  · exact ⟨"bool", true, true, .base (.bl z), by decide +kernel, by decide +kernel, by decide +kernel, by decide +kernel, by decide +kernel⟩
theorem atom_flat {v : V} (h : Atom v) : scal v v = true := by
  rcases h with ⟨z, rfl⟩ | ⟨z, rfl⟩ | ⟨z, rfl⟩ <;> rfl
section
variable {P : Program} {w : World} {K : PySem.W.Frag} {mg : Str → Option Value} {base : Heap}
theorem ok_exact0 {f : Addr} {fd : FuncData} (F : Fun K "_law_exact" "_law_exact" s_exact f fd) (T : Bt mg) : FnOk P w K mg base CX0 1 f fd ["_law_mine", "_law_theirs"] (spExact 0) := by
  refine F.ok c_exact (fun vs H Q E h => ?_) (fun cdv A outer s H vs Q E hr h => ?_)
  · obtain ⟨_, _, rfl, _⟩ := h
    rfl
  · obtain ⟨x, y, rfl, sm, k⟩ := h
    refine ⟨_, pss_cons (ps_if (pt_val (pe_callB call_isiT (by rfl) T.isi (by decide +kernel) (pa_cons (pv 0) (pa_cons (pe_tup (pa_cons (pe_bltn (v := .ty "list") (by rfl) T.list (by decide +kernel) rfl) (pa_cons (pe_bltn (v := .ty "tuple") (by rfl) T.tuple (by decide +kernel) rfl) pa_nil))) pa_nil)))) pss_never pss_nil)
      (pss_cons (ps_if (pt_val (pe_callB call_isi (by rfl) T.isi (by decide +kernel) (pa_cons (pv 0) (pa_cons (pe_bltn (v := .ty "dict") (by rfl) T.dict (by decide +kernel) rfl) pa_nil)))) pss_never pss_nil)
      (pss_cons (ps_set (i := 2) c_exact.nd rfl (Or.inl rfl) (pe_cmpR op_eq (pe_callB call_isi (by rfl) T.isi (by decide +kernel) (pa_cons (pv 0) (pa_cons (pe_bltn (v := .ty "int") (by rfl) T.int (by decide +kernel) rfl) pa_nil))) (pe_callB call_isi (by rfl) T.isi (by decide +kernel) (pa_cons (pv 1) (pa_cons (pe_bltn (v := .ty "int") (by rfl) T.int (by decide +kernel) rfl) pa_nil))) (nomark _)))
      (pss_one (ps_ret (pe_and (pv 2) (pe_and (pe_cmpR op_eq (pe_callB call_isi (by rfl) T.isi (by decide +kernel) (pa_cons (pv 0) (pa_cons (pe_bltn (v := .ty "bool") (by rfl) T.bool (by decide +kernel) rfl) pa_nil))) (pe_callB call_isi (by rfl) T.isi (by decide +kernel) (pa_cons (pv 1) (pa_cons (pe_bltn (v := .ty "bool") (by rfl) T.bool (by decide +kernel) rfl) pa_nil))) (nomark _))
        (pe_one (pe_cmpR op_eq (pv 0) (pv 1) (nomark _))))))))), ?_⟩
    cases sm with
    | atom _ ha =>
      obtain ⟨t, i, b, C⟩ := atom_cl (K := K) (H := H) ha
      refine ⟨_, rfl, by show 2 ≤ sizeLine; decide, fun T1 hT1 => ?_⟩
      obtain ⟨t', i', b', C'⟩ := atom_cl (K := K) (H := upd H T1 (.tup [.ty "list", .ty "tuple"])) ha
      refine ⟨_, T1, _, _, _, _, rfl, upd_same, .cons (.ty "list") (.cons (.ty "tuple") .nil), C'.ty, kit2 C'.l C'.u, _, rfl, iteF ?_⟩
      refine ⟨_, rfl, _, _, _, _, _, rfl, .ty "dict", C'.ty, kit_ty C'.d, _, rfl, iteF ?_⟩
      refine ⟨_, rfl, _, _, _, _, _, rfl, .ty "int", C'.ty, kit_ty C'.i, _, rfl, _, _, _, _, _, rfl, .ty "int", C'.ty, kit_ty C'.i, rfl, ?_⟩
      refine ⟨_, rfl, _, rfl, ite_t (decide_eq_true rfl) ?_⟩
      refine ⟨_, rfl, _, _, _, _, _, rfl, .ty "bool", C'.ty, kit_ty C'.b, _, rfl, _, _, _, _, _, rfl, .ty "bool", C'.ty, kit_ty C'.b, rfl, _, rfl, ite_t (decide_eq_true rfl) ?_⟩
      refine ⟨_, rfl, _, rfl, atom_flat ha, ?_⟩
      rw [decide_eq_true rfl]
      exact k _ (same_new hT1)
theorem walk_zipT {a b : Addr} {xs ys : List V} {n : Nat} (h1 : xs.length = n) (h2 : ys.length = n) : Walk (RZ.ItzT K a b) n (fun H => SqT K H a xs ∧ SqT K H b ys) (YPair (fun i => xs[i]?) (fun i => ys[i]?)) := by
  refine ⟨fun i H hi q => ⟨xs, ys, xs[i]'(by omega), ys[i]'(by omega), q.1, q.2, List.getElem?_eq_getElem _, List.getElem?_eq_getElem _⟩, fun H q => ⟨xs, ys, q.1, q.2, .inl (by omega)⟩, ?_⟩
  rintro i H v H' hi q ⟨T0, x, y, e1, e2, e3, e4, e5⟩
  exact ⟨T0, x, y, e1, e2, e3, e4 xs q.1, e5 ys q.2⟩
theorem ok_exactS {f : Addr} {fd : FuncData} {m : Nat} (F : Fun K "_law_exact" "_law_exact" s_exact f fd) (T : Bt mg) (mE : mg "_law_exact" = some (.ref f)) (bE : Binds K fd ["_law_mine", "_law_theirs"] []) (GE : FnOk P w K mg base CX0 (m + 1) f fd ["_law_mine", "_law_theirs"] (spExact m)) :
    FnOk P w K mg base CX0 (m + 2) f fd ["_law_mine", "_law_theirs"] (spExact (m + 1)) := by
  refine F.ok c_exact (fun vs H Q E h => ?_) (fun cdv A outer s H vs Q E hr h => ?_)
  · obtain ⟨_, _, rfl, _⟩ := h
    rfl
  · obtain ⟨x, y, rfl, sm, k⟩ := h
    have hu := hu_of hr
    refine ⟨_, pss_cons (ps_if (pt_val (pe_callB call_isiT (by rfl) T.isi (by decide +kernel) (pa_cons (pv 0) (pa_cons (pe_tup (pa_cons (pe_bltn (v := .ty "list") (by rfl) T.list (by decide +kernel) rfl) (pa_cons (pe_bltn (v := .ty "tuple") (by rfl) T.tuple (by decide +kernel) rfl) pa_nil))) pa_nil))))
        (pss_cons (ps_set (i := 2) c_exact.nd rfl (Or.inl rfl) (pe_and (pe_cmpR op_eq (pe_callB call_isi (by rfl) T.isi (by decide +kernel) (pa_cons (pv 1) (pa_cons (pe_bltn (v := .ty "list") (by rfl) T.list (by decide +kernel) rfl) pa_nil))) (pe_callB call_isi (by rfl) T.isi (by decide +kernel) (pa_cons (pv 0) (pa_cons (pe_bltn (v := .ty "list") (by rfl) T.list (by decide +kernel) rfl) pa_nil))) (nomark _)) (pe_one (pe_cmpR op_eq (pe_callB call_isi (by rfl) T.isi (by decide +kernel) (pa_cons (pv 1) (pa_cons (pe_bltn (v := .ty "tuple") (by rfl) T.tuple (by decide +kernel) rfl) pa_nil))) (pe_callB call_isi (by rfl) T.isi (by decide +kernel) (pa_cons (pv 0) (pa_cons (pe_bltn (v := .ty "tuple") (by rfl) T.tuple (by decide +kernel) rfl) pa_nil))) (nomark _)))))
        (pss_one (ps_ret (pe_and (pv 2) (pe_and (pe_cmpR op_eq (pe_callB call_len_seq (by rfl) T.len PySem.boot_len (pa_cons (pv 0) pa_nil)) (pe_callB call_len_seq (by rfl) T.len PySem.boot_len (pa_cons (pv 1) pa_nil)) (nomark _)) (pe_one (pe_callB (cr_all rfl) (by rfl) T.all (by decide +kernel) (pa_cons (pe_lc (own := [("_law_a", 3), ("_law_b", 4)]) (g := gTup K 2 (gCons (gName 3) (gCons (gName 4) gNil))) (tt := tYes) rfl c_exact.nd (RZ.pi_zipA (by rfl) T.zip (pa_cons (pv 0) (pa_cons (pv 1) pa_nil)))
          (blkOk_by (N := ["_law_mine", "_law_theirs", "_law_alike", "_law_a", "_law_b", "_law_key"]) (sc := defScope s_exact) (by decide +kernel)) (fun _ _ _ _ _ => pg_tup rfl (pgs_cons (pg_name (i := 3) c_exact.nd rfl (Or.inl rfl)) (pgs_cons (pg_name (i := 4) c_exact.nd rfl (Or.inl rfl)) pgs_nil))) (fun _ _ _ _ _ => pts_nil)
          (fun _ _ _ _ _ => pe_call GE hr rfl mE F.kp bE .nil pass0 (pa_cons (pv 3) (pa_cons (pv 4) pa_nil)))) pa_nil)))))))) pss_nil)
      (pss_cons (ps_if (pt_val (pe_callB call_isi (by rfl) T.isi (by decide +kernel) (pa_cons (pv 0) (pa_cons (pe_bltn (v := .ty "dict") (by rfl) T.dict (by decide +kernel) rfl) pa_nil))))
        (pss_cons (ps_set (i := 2) c_exact.nd rfl (Or.inl rfl) (pe_and (pe_callB call_isi (by rfl) T.isi (by decide +kernel) (pa_cons (pv 1) (pa_cons (pe_bltn (v := .ty "dict") (by rfl) T.dict (by decide +kernel) rfl) pa_nil))) (pe_one (pe_call GE hr rfl mE F.kp bE .nil pass0 (pa_cons (pe_callTy (call_listD rfl) (by rfl) T.list (by decide +kernel) (pa_cons (pv 0) pa_nil)) (pa_cons (pe_callTy (call_listD rfl) (by rfl) T.list (by decide +kernel) (pa_cons (pv 1) pa_nil)) pa_nil))))))
        (pss_one (ps_lock (ps_ret (pe_and (pv 2) (pe_one (pe_callB (cr_all rfl) (by rfl) T.all (by decide +kernel) (pa_cons (pe_lc (own := [("_law_key", 5)]) (g := gName 5) (tt := tYes) rfl c_exact.nd (pi_keys (pv 0))
          (blkOk_by (N := ["_law_mine", "_law_theirs", "_law_alike", "_law_a", "_law_b", "_law_key"]) (sc := defScope s_exact) (by decide +kernel)) (fun _ _ _ _ _ => pg_name (i := 5) c_exact.nd rfl (Or.inl rfl)) (fun _ _ _ _ _ => pts_nil)
          (fun _ _ _ _ _ => pe_call GE hr rfl mE F.kp bE .nil pass0 (pa_cons (pe_dget hu (pv 0) (pv 5) (fun _ _ => rfl)) (pa_cons (pe_dget hu (pv 1) (pv 5) (fun _ _ => rfl)) pa_nil)))) pa_nil)))))))) pss_nil)
      (pss_cons (ps_set (i := 2) c_exact.nd rfl (Or.inl rfl) (pe_cmpR op_eq (pe_callB call_isi (by rfl) T.isi (by decide +kernel) (pa_cons (pv 0) (pa_cons (pe_bltn (v := .ty "int") (by rfl) T.int (by decide +kernel) rfl) pa_nil))) (pe_callB call_isi (by rfl) T.isi (by decide +kernel) (pa_cons (pv 1) (pa_cons (pe_bltn (v := .ty "int") (by rfl) T.int (by decide +kernel) rfl) pa_nil))) (nomark _)))
      (pss_one (ps_ret (pe_and (pv 2) (pe_and (pe_cmpR op_eq (pe_callB call_isi (by rfl) T.isi (by decide +kernel) (pa_cons (pv 0) (pa_cons (pe_bltn (v := .ty "bool") (by rfl) T.bool (by decide +kernel) rfl) pa_nil))) (pe_callB call_isi (by rfl) T.isi (by decide +kernel) (pa_cons (pv 1) (pa_cons (pe_bltn (v := .ty "bool") (by rfl) T.bool (by decide +kernel) rfl) pa_nil))) (nomark _))
        (pe_one (pe_cmpR op_eq (pv 0) (pv 1) (nomark _))))))))), ?_⟩
    refine ⟨_, rfl, by show 2 ≤ sizeLine; decide, fun T1 hT1 => ?_⟩
    have s1 := same_new (o := .tup [.ty "list", .ty "tuple"]) hT1
    have sm1 := sm.same s1
    have hT := (upd_same : upd H T1 (.tup [.ty "list", .ty "tuple"]) T1 = some (.tup [.ty "list", .ty "tuple"]))
    generalize upd H T1 (.tup [.ty "list", .ty "tuple"]) = H1 at s1 sm1 hT ⊢
    clear sm
    cases sm1 with
    | atom _ ha =>
      obtain ⟨t', i', b', C'⟩ := atom_cl (K := K) (H := H1) ha
      refine ⟨_, T1, _, _, _, _, rfl, hT, .cons (.ty "list") (.cons (.ty "tuple") .nil), C'.ty, kit2 C'.l C'.u, _, rfl, iteF ?_⟩
      refine ⟨_, rfl, _, _, _, _, _, rfl, .ty "dict", C'.ty, kit_ty C'.d, _, rfl, iteF ?_⟩
      refine ⟨_, rfl, _, _, _, _, _, rfl, .ty "int", C'.ty, kit_ty C'.i, _, rfl, _, _, _, _, _, rfl, .ty "int", C'.ty, kit_ty C'.i, rfl, ?_⟩
      refine ⟨_, rfl, _, rfl, ite_t (decide_eq_true rfl) ?_⟩
      refine ⟨_, rfl, _, _, _, _, _, rfl, .ty "bool", C'.ty, kit_ty C'.b, _, rfl, _, _, _, _, _, rfl, .ty "bool", C'.ty, kit_ty C'.b, rfl, _, rfl, ite_t (decide_eq_true rfl) ?_⟩
      refine ⟨_, rfl, _, rfl, atom_flat ha, ?_⟩
      rw [decide_eq_true rfl]
      exact k _ s1
    | @lst _ a b xs ys ha hb l few h =>
      have c1 : Cl K H1 (.ref a) "list" true false false false false := ⟨.base (.lst ha), by decide +kernel, by decide +kernel, by decide +kernel, by decide +kernel, by decide +kernel⟩
      have c2 : Cl K H1 (.ref b) "list" true false false false false := ⟨.base (.lst hb), by decide +kernel, by decide +kernel, by decide +kernel, by decide +kernel, by decide +kernel⟩
      refine ⟨_, T1, _, _, _, _, rfl, hT, .cons (.ty "list") (.cons (.ty "tuple") .nil), c1.ty, kit2 c1.l c1.u, _, rfl, iteT ?_⟩
      refine ⟨_, rfl, _, _, _, _, _, rfl, .ty "list", c2.ty, kit_ty c2.l, _, rfl, _, _, _, _, _, rfl, .ty "list", c1.ty, kit_ty c1.l, rfl, _, rfl, ite_t (decide_eq_true rfl) ?_⟩
      refine ⟨_, rfl, _, _, _, _, _, rfl, .ty "tuple", c2.ty, kit_ty c2.u, _, rfl, _, _, _, _, _, rfl, .ty "tuple", c1.ty, kit_ty c1.u, rfl, ?_⟩
      refine ⟨_, rfl, _, rfl, ite_t (decide_eq_true rfl) ?_⟩
      refine ⟨_, rfl, a, _, rfl, .inl (SqL.of ha), _, rfl, b, _, rfl, .inl (SqL.of hb), rfl, _, rfl, ite_t (decide_eq_true (by rw [l])) ?_⟩
      refine ⟨_, rfl, _, rfl, a, b, xs, ys, rfl, .inl ⟨SqL.of ha, SqL.of hb, fun D hD => ?_⟩⟩
      refine lc_it (walk_zip (K := K) (a := a) (b := b) (xs := xs) (ys := ys) (n := xs.length) (by omega)) (fun i H' => Same H1 H' ∧ H' D = some (.lst (trues i))) ⟨same_new hD, upd_same⟩ (fun i H' _ z => ⟨SqL.of (z.1 _ _ ha), SqL.of (z.1 _ _ hb)⟩) ?_ ?_
      · rintro i v H2 H3 hi ⟨s2, hd⟩ ⟨T0, p, q, rfl, nT, rfl, ep, eq⟩
        refine ⟨T0, _, rfl, SqT.of upd_same, rfl, _, _, rfl, _, _, rfl, rfl, rfl, ?_⟩
        have s3 := same_updN (o := .tup [p, q]) s2 nT
        refine ⟨_, rfl, _, rfl, p, q, rfl, (h i p q ep eq).same s3, fun H4 s4 => ?_⟩
        have hd4 := s4 _ _ (show upd H2 T0 (.tup [p, q]) D = some (.lst (trues i)) by rw [upd_ne (ne_of_none hd nT)]; exact hd)
        refine ⟨_, hd4, by rw [trues_len, sizeLine_eq]; omega, same_over (s3.trans s4) hD, ?_⟩
        rw [upd_same, trues_next]
      · rintro H2 ⟨s2, hd⟩
        refine ⟨D, _, rfl, SqL.of hd, ?_⟩
        rw [trues_all]
        exact k H2 (s1.trans s2)
    | @tup _ a b xs ys ha hb l few h =>
      have c1 : Cl K H1 (.ref a) "tuple" false true false false false := ⟨.base (.tup ha), by decide +kernel, by decide +kernel, by decide +kernel, by decide +kernel, by decide +kernel⟩
      have c2 : Cl K H1 (.ref b) "tuple" false true false false false := ⟨.base (.tup hb), by decide +kernel, by decide +kernel, by decide +kernel, by decide +kernel, by decide +kernel⟩
      refine ⟨_, T1, _, _, _, _, rfl, hT, .cons (.ty "list") (.cons (.ty "tuple") .nil), c1.ty, kit2 c1.l c1.u, _, rfl, iteT ?_⟩
      refine ⟨_, rfl, _, _, _, _, _, rfl, .ty "list", c2.ty, kit_ty c2.l, _, rfl, _, _, _, _, _, rfl, .ty "list", c1.ty, kit_ty c1.l, rfl, _, rfl, ite_t (decide_eq_true rfl) ?_⟩
      refine ⟨_, rfl, _, _, _, _, _, rfl, .ty "tuple", c2.ty, kit_ty c2.u, _, rfl, _, _, _, _, _, rfl, .ty "tuple", c1.ty, kit_ty c1.u, rfl, ?_⟩
      refine ⟨_, rfl, _, rfl, ite_t (decide_eq_true rfl) ?_⟩
      refine ⟨_, rfl, a, _, rfl, .inr (SqT.of ha), _, rfl, b, _, rfl, .inr (SqT.of hb), rfl, _, rfl, ite_t (decide_eq_true (by rw [l])) ?_⟩
      refine ⟨_, rfl, _, rfl, a, b, xs, ys, rfl, .inr ⟨SqT.of ha, SqT.of hb, fun D hD => ?_⟩⟩
      refine lc_it (walk_zipT (K := K) (a := a) (b := b) (xs := xs) (ys := ys) (n := xs.length) rfl l.symm) (fun i H' => Same H1 H' ∧ H' D = some (.lst (trues i))) ⟨same_new hD, upd_same⟩ (fun i H' _ z => ⟨SqT.of (z.1 _ _ ha), SqT.of (z.1 _ _ hb)⟩) ?_ ?_
      · rintro i v H2 H3 hi ⟨s2, hd⟩ ⟨T0, p, q, rfl, nT, rfl, ep, eq⟩
        refine ⟨T0, _, rfl, SqT.of upd_same, rfl, _, _, rfl, _, _, rfl, rfl, rfl, ?_⟩
        have s3 := same_updN (o := .tup [p, q]) s2 nT
        refine ⟨_, rfl, _, rfl, p, q, rfl, (h i p q ep eq).same s3, fun H4 s4 => ?_⟩
        have hd4 := s4 _ _ (show upd H2 T0 (.tup [p, q]) D = some (.lst (trues i)) by rw [upd_ne (ne_of_none hd nT)]; exact hd)
        refine ⟨_, hd4, by rw [trues_len, sizeLine_eq]; omega, same_over (s3.trans s4) hD, ?_⟩
        rw [upd_same, trues_next]
      · rintro H2 ⟨s2, hd⟩
        refine ⟨D, _, rfl, SqL.of hd, ?_⟩
        rw [trues_all]
        exact k H2 (s1.trans s2)
    | @dct n a b xs vs ha hb ne l few nd h =>
      have c1 : Cl K H1 (.ref a) "dict" false false true false false := ⟨.base (.dK ha), by decide +kernel, by decide +kernel, by decide +kernel, by decide +kernel, by decide +kernel⟩
      have c2 : Cl K H1 (.ref b) "dict" false false true false false := ⟨.base (.dK hb), by decide +kernel, by decide +kernel, by decide +kernel, by decide +kernel, by decide +kernel⟩
      refine ⟨_, T1, _, _, _, _, rfl, hT, .cons (.ty "list") (.cons (.ty "tuple") .nil), c1.ty, kit2 c1.l c1.u, _, rfl, iteF ?_⟩
      refine ⟨_, rfl, _, _, _, _, _, rfl, .ty "dict", c1.ty, kit_ty c1.d, _, rfl, iteT ?_⟩
      refine ⟨_, rfl, _, _, _, _, _, rfl, .ty "dict", c2.ty, kit_ty c2.d, _, rfl, iteT ?_⟩
      have ekeys : (dkv xs vs).map (fun kv => kV kv.1) = xs.map V.str := by
        unfold dkv
        rw [List.map_map]
        have : ((xs.zip vs).map Prod.fst).map V.str = xs.map V.str := by rw [List.map_fst_zip (by omega)]
        rw [← this, List.map_map]
        rfl
      refine ⟨_, rfl, a, _, rfl, .inl ha, fun L hL => ?_⟩
      rw [ekeys]
      have s2 := same_new (o := .lst (xs.map V.str)) hL
      refine ⟨_, rfl, b, _, rfl, .inl (s2 _ _ hb), fun M hM => ?_⟩
      rw [ekeys]
      have s3 := same_updN (o := .lst (xs.map V.str)) s2 hM
      refine ⟨_, _, rfl, .lst (n := n) (xs := xs.map V.str) (ys := xs.map V.str) (by rw [upd_ne (ne_of_none upd_same hM), upd_same]) upd_same rfl (by rw [List.length_map]; exact few) (fun i p q hp hq => ?_), fun H4 s4 => ?_⟩
      · have : p = q := Option.some.inj (hp.symm.trans hq)
        subst this
        rw [List.getElem?_map] at hp
        obtain ⟨z, _, rfl⟩ := Option.map_eq_some_iff.mp hp
        exact .atom _ (.inr (.inl ⟨z, rfl⟩))
      have s14 := s3.trans s4
      have ha4 := s14 _ _ ha
      have hb4 := s14 _ _ hb
      refine ⟨a, _, ha4, True.intro, fun od => ?_⟩
      have hbl : upd H4 a (.frz od (.dK (dkv xs vs))) b = some (.dK (dkv xs vs)) := by rw [upd_ne (Ne.symm ne)]; exact hb4
      refine ⟨_, rfl, _, rfl, iteT ?_⟩
      refine ⟨_, rfl, a, od, rfl, .inl ⟨_, upd_same, fun D hD => ?_⟩⟩
      have Da : D ≠ a := fun z => by
        rw [z, upd_same] at hD
        cases hD
      refine lc_it (walk_keys (d := a) (o := od) (kvs := dkv xs vs)) (fun i H' => Same (upd H4 a (.frz od (.dK (dkv xs vs)))) H' ∧ H' D = some (.lst (trues i))) ⟨same_new hD, upd_same⟩ (fun i H' _ z => z.1 _ _ upd_same) ?_ ?_
      · rintro i v H5 _ hi ⟨s5, hd⟩ ⟨rfl, ky, vv, ek, rfl⟩
        rw [dkv_len l] at hi
        obtain ⟨x, v', hx, hv, e⟩ := dkv_mem ek
        obtain ⟨rfl, rfl⟩ := Prod.mk.inj e
        have g1 := dkv_get nd hx hv
        refine ⟨rfl, _, rfl, _, rfl, a, vv, rfl, .inl ⟨_, Sum.inr x, .inr ⟨od, s5 _ _ upd_same⟩, rfl, g1.symm⟩, _, rfl, _, rfl, b, vv, rfl, .inl ⟨_, Sum.inr x, .inl (s5 _ _ hbl), rfl, g1.symm⟩, ?_⟩
        refine ⟨_, _, rfl, .atom _ (h vv (List.mem_of_getElem? hv)), fun H6 s6 => ?_⟩
        refine ⟨_, s6 _ _ hd, by rw [trues_len, sizeLine_eq]; omega, same_over (s5.trans s6) hD, ?_⟩
        rw [upd_same, trues_next]
      · rintro H5 ⟨s5, hd⟩
        refine ⟨D, _, rfl, SqL.of hd, s5 _ _ upd_same, ?_⟩
        rw [trues_all]
        refine k _ fun q o e => ?_
        have e4 := s14 _ _ (s1 _ _ e)
        by_cases z : q = a
        · subst z
          rw [upd_same]
          exact ha4.symm.trans e4
        · rw [upd_ne z]
          exact s5 _ _ (by rw [upd_ne z]; exact e4)
theorem ok_exact {f : Addr} {fd : FuncData} (F : Fun K "_law_exact" "_law_exact" s_exact f fd) (T : Bt mg) (mE : mg "_law_exact" = some (.ref f)) (bE : Binds K fd ["_law_mine", "_law_theirs"] []) : ∀ n, FnOk P w K mg base CX0 (n + 1) f fd ["_law_mine", "_law_theirs"] (spExact n)
  | 0 => ok_exact0 F T
  | n + 1 => ok_exactS F T mE bE (ok_exact F T mE bE n)
end
end Wd
end
section
set_option maxRecDepth 100000
set_option maxHeartbeats 4000000
namespace Wd
open PySem L2
theorem sm_strs {H : Hp} {a b : Addr} {xs : List Str} (n : Nat) (ha : H a = some (.lst (xs.map V.str))) (hb : H b = some (.lst (xs.map V.str))) (few : xs.length ≤ 100) : Sm H (n + 1) (.ref a) (.ref b) :=
  .lst ha hb rfl (by rw [List.length_map]; exact few) fun i p q hp hq => by
    have e : p = q := Option.some.inj (hp.symm.trans hq)
    subst e
    rw [List.getElem?_map] at hp
    obtain ⟨z, _, rfl⟩ := Option.map_eq_some_iff.mp hp
    exact .atom _ (.inr (.inl ⟨z, rfl⟩))
theorem sm_pair {H : Hp} {a b : Addr} {p : Pr} (n : Nat) (ha : H a = some (.tup [.str p.1, .str p.2])) (hb : H b = some (.tup [.str p.1, .str p.2])) : Sm H (n + 1) (.ref a) (.ref b) :=
  .tup ha hb rfl (by show 2 ≤ 100; decide) fun i u v hp hq => by
    have e : u = v := Option.some.inj (hp.symm.trans hq)
    subst e
    have m := List.mem_of_getElem? hp
    rcases List.mem_cons.mp m with rfl | m
    · exact .atom _ (.inr (.inl ⟨_, rfl⟩))
    · rw [List.mem_singleton.mp m]
      exact .atom _ (.inr (.inl ⟨_, rfl⟩))
theorem sm_prs {H : Hp} {a b : Addr} {ps : List Pr} (n : Nat) (ha : PwAt H a ps) (hb : PwAt H b ps) (few : ps.length ≤ 100) : Sm H (n + 2) (.ref a) (.ref b) := by
  obtain ⟨Ts, h1, t1⟩ := ha
  obtain ⟨Us, h2, t2⟩ := hb
  have l1 := t1.1
  have l2 := t2.1
  rw [List.length_map] at l1 l2
  refine .lst h1 h2 (by rw [List.length_map, List.length_map, l1, l2]) (by rw [List.length_map, l1]; exact few) fun i u v hu hv => ?_
  rw [List.getElem?_map] at hu hv
  obtain ⟨T, hT, rfl⟩ := Option.map_eq_some_iff.mp hu
  obtain ⟨U, hU, rfl⟩ := Option.map_eq_some_iff.mp hv
  have il := (List.getElem?_eq_some_iff.mp hT).1
  obtain ⟨p, hp⟩ : ∃ p, ps[i]? = some p := ⟨_, List.getElem?_eq_getElem (by omega)⟩
  exact sm_pair n (t1.2 i T (tv p) hT (by rw [List.getElem?_map, hp]; rfl)) (t2.2 i U (tv p) hU (by rw [List.getElem?_map, hp]; rfl))
theorem sm_two {H : Hp} {a b : Addr} {x1 x2 y1 y2 : V} {n : Nat} (ha : H a = some (.lst [x1, x2])) (hb : H b = some (.lst [y1, y2])) (h1 : Sm H n x1 y1) (h2 : Sm H n x2 y2) : Sm H (n + 1) (.ref a) (.ref b) :=
  .lst ha hb rfl (by show 2 ≤ 100; decide) fun i u v hu hv => by
    rcases i with _ | _ | i
    · simp at hu hv
      subst hu hv
      exact h1
    · simp at hu hv
      subst hu hv
      exact h2
    · simp at hu
theorem sm_three {H : Hp} {a b : Addr} {x1 x2 x3 y1 y2 y3 : V} {n : Nat} (ha : H a = some (.lst [x1, x2, x3])) (hb : H b = some (.lst [y1, y2, y3])) (h1 : Sm H n x1 y1) (h2 : Sm H n x2 y2) (h3 : Sm H n x3 y3) : Sm H (n + 1) (.ref a) (.ref b) :=
  .lst ha hb rfl (by show 3 ≤ 100; decide) fun i u v hu hv => by
    rcases i with _ | _ | _ | i
    · simp at hu hv
      subst hu hv
      exact h1
    · simp at hu hv
      subst hu hv
      exact h2
    · simp at hu hv
      subst hu hv
      exact h3
    · simp at hu
theorem sm_bools {H : Hp} {a b : Addr} {bs : List Bool} (n : Nat) (ha : H a = some (.lst (bs.map V.bl))) (hb : H b = some (.lst (bs.map V.bl))) (few : bs.length ≤ 100) : Sm H (n + 1) (.ref a) (.ref b) :=
  .lst ha hb rfl (by rw [List.length_map]; exact few) fun i p q hp hq => by
    have e : p = q := Option.some.inj (hp.symm.trans hq)
    subst e
    rw [List.getElem?_map] at hp
    obtain ⟨z, _, rfl⟩ := Option.map_eq_some_iff.mp hp
    exact .atom _ (.inr (.inr ⟨z, rfl⟩))
/-- a list of things at R, one for each of xs, each as G says -/
def Each (H : Hp) (R : Addr) (xs : List Str) (G : Str → Addr → Hp → Prop) : Prop := ∃ Ls : List Addr, H R = some (.lst (Ls.map V.ref)) ∧ Ls.length = xs.length ∧ ∀ (i : Nat) x L, xs[i]? = some x → Ls[i]? = some L → G x L H
theorem Each.same {H H' : Hp} {R : Addr} {xs : List Str} {G : Str → Addr → Hp → Prop} (h : Each H R xs G) (s : Same H H') (mono : ∀ x L, G x L H → G x L H') : Each H' R xs G := by
  obtain ⟨Ls, h1, h2, h3⟩ := h
  exact ⟨Ls, s _ _ h1, h2, fun i x L e1 e2 => mono x L (h3 i x L e1 e2)⟩
theorem sm_each {H : Hp} {R S : Addr} {xs : List Str} {G G' : Str → Addr → Hp → Prop} {n : Nat} (h1 : Each H R xs G) (h2 : Each H S xs G') (few : xs.length ≤ 100) (h : ∀ x L M, x ∈ xs → G x L H → G' x M H → Sm H n (.ref L) (.ref M)) : Sm H (n + 1) (.ref R) (.ref S) := by
  obtain ⟨Ls, a1, a2, a3⟩ := h1
  obtain ⟨Ms, b1, b2, b3⟩ := h2
  refine .lst a1 b1 (by rw [List.length_map, List.length_map, a2, b2]) (by rw [List.length_map, a2]; exact few) fun i u v hu hv => ?_
  rw [List.getElem?_map] at hu hv
  obtain ⟨L, hL, rfl⟩ := Option.map_eq_some_iff.mp hu
  obtain ⟨M, hM, rfl⟩ := Option.map_eq_some_iff.mp hv
  have il := (List.getElem?_eq_some_iff.mp hL).1
  obtain ⟨x, hx⟩ : ∃ x, xs[i]? = some x := ⟨_, List.getElem?_eq_getElem (by omega)⟩
  exact h x L M (List.mem_of_getElem? hx) (a3 i x L hx hL) (b3 i x M hx hM)
/-- one more of them -/
theorem each_next {H0 H1 H2 : Hp} {R L : Addr} {xs : List Str} {i : Nat} {x : Str} {G : Str → Addr → Hp → Prop} {Ls : List Addr} (hR : H0 R = none) (s : Same H0 H1) (hr : H1 R = some (.lst (Ls.map V.ref))) (hx : xs[i]? = some x) (hl : Ls.length = (xs.take i).length) (ok : ∀ (j : Nat) y M, (xs.take i)[j]? = some y → Ls[j]? = some M → G y M H1)
    (s2 : Same H1 H2) (mono : ∀ y M, G y M H1 → G y M H2) (now : G x L H2) (keep : ∀ y M o, G y M H2 → G y M (upd H2 R o)) :
    ∃ Ms : List Addr, (Ls.map V.ref ++ [V.ref L]) = Ms.map V.ref ∧ Ms.length = (xs.take (i + 1)).length ∧ ∀ (j : Nat) y M, (xs.take (i + 1))[j]? = some y → Ms[j]? = some M → G y M (upd H2 R (.lst (Ms.map V.ref))) := by
  refine ⟨Ls ++ [L], by rw [List.map_append]; rfl, by rw [List.length_append, hl, take_next hx, List.length_append]; rfl, fun j y M hy hM => ?_⟩
  rw [take_next hx] at hy
  by_cases hj : j < Ls.length
  · rw [List.getElem?_append_left hj] at hM
    rw [List.getElem?_append_left (by rw [← hl]; exact hj)] at hy
    exact keep _ _ _ (mono _ _ (ok j y M hy hM))
  · rw [List.getElem?_append_right (by omega)] at hM
    rw [List.getElem?_append_right (by rw [← hl]; omega)] at hy
    rw [hl] at hM
    cases hq : j - (xs.take i).length with
    | zero =>
      rw [hq] at hM hy
      simp at hM hy
      subst hM hy
      exact keep _ _ _ now
    | succ q =>
      rw [hq] at hM
      simp at hM
/-- a list of the friends of x -/
def FrG (ps : List Pr) (D : Addr) : Str → Addr → Hp → Prop := fun x L H => L ≠ D ∧ H L = some (.lst ((frs ps x).map V.str))
def spStays (C : Addr) : Sp := fun vs H Q _ => ∃ (a c : Addr) (xs : List Str) (ps : List Pr), vs = [.ref a, .ref c] ∧ WAt H a xs ps ∧ CAt C H c xs ps ∧ Good xs ps ∧ ∀ H', Same H H' → Q (.bl true) H'
/-- the own ==, as a method -/
def HasEq (P : Program) (w : World) (K : PySem.W.Frag) (mg : Str → Option Value) (base : Heap) (C : Addr) : Prop :=
  ∃ (f : Addr) (fd : FuncData), FnOk P w K mg base CX0 1 f fd ["self", "other"] (spEq (CEq C)) ∧ PySem.W.findIn K (.ref C) "__eq__" = some (some (.ref f)) ∧ PySem.W.isFn K (.ref f) = true ∧ Binds K fd ["self", "other"] []
section
variable {P : Program} {w : World} {K : PySem.W.Frag} {mg : Str → Option Value} {base : Heap}
end
end Wd
end
section
set_option maxRecDepth 100000
set_option maxHeartbeats 4000000
namespace Wd
open PySem L2
theorem frG_keep {ps : List Pr} {D : Addr} {H : Hp} (y : Str) (M : Addr) (o : HO) (h : FrG ps D y M H) : FrG ps D y M (upd H D o) := ⟨h.1, by rw [upd_ne h.1]; exact h.2⟩
theorem frG_same {ps : List Pr} {D : Addr} {H H' : Hp} (s : Same H H') (y : Str) (M : Addr) (h : FrG ps D y M H) : FrG ps D y M H' := ⟨h.1, s _ _ h.2⟩
theorem frG_sm {ps : List Pr} {D D' : Addr} {H : Hp} {x : Str} {L M : Addr} (g : (frs ps x).length ≤ 9) (h1 : FrG ps D x L H) (h2 : FrG ps D' x M H) : Sm H 1 (.ref L) (.ref M) := sm_strs 0 h1.2 h2.2 (by omega)
/-- which of the pairs are friends -/
def inB (xs : List Str) (ps : List Pr) : List Bool := (prsS xs).map fun p => decide (p ∈ ps)
def spStands (C : Addr) : Sp := spStays C
section
variable {P : Program} {w : World} {K : PySem.W.Frag} {mg : Str → Option Value} {base : Heap}
end
end Wd
end
section
set_option maxRecDepth 100000
set_option maxHeartbeats 4000000
namespace Wd
open PySem L2
def psum (h : Str → Str → Int) : List Str → Int
  | [] => 0
  | y :: s => (s.map (h y)).sum + psum h s
theorem sum_zero {α : Type} {f : α → Int} : ∀ {l : List α}, (∀ x ∈ l, f x = 0) → (l.map f).sum = 0
  | [], _ => rfl
  | x :: l, h => by
    rw [List.map_cons, List.sum_cons, h x List.mem_cons_self, sum_zero fun y hy => h y (List.mem_cons_of_mem _ hy)]
    rfl
theorem sum_add {α : Type} (f g : α → Int) : ∀ l : List α, (l.map fun x => f x + g x).sum = (l.map f).sum + (l.map g).sum
  | [] => rfl
  | x :: l => by
    rw [List.map_cons, List.sum_cons, sum_add f g l, List.map_cons, List.sum_cons, List.map_cons, List.sum_cons]
    omega
theorem psum_add (f g : Str → Str → Int) : ∀ l : List Str, psum (fun y z => f y z + g y z) l = psum f l + psum g l
  | [] => rfl
  | y :: l => by
    show (l.map fun z => f y z + g y z).sum + psum (fun y z => f y z + g y z) l = ((l.map (f y)).sum + psum f l) + ((l.map (g y)).sum + psum g l)
    rw [psum_add f g l, sum_add]
    omega
theorem sum_congr {α : Type} {f g : α → Int} {l : List α} (h : ∀ x ∈ l, f x = g x) : (l.map f).sum = (l.map g).sum := by
  rw [List.map_congr_left h]
theorem psum_congr {f g : Str → Str → Int} : ∀ {l : List Str}, l.Pairwise (fun y z => f y z = g y z) → psum f l = psum g l
  | [], _ => rfl
  | y :: l, h => by
    obtain ⟨h1, h2⟩ := List.pairwise_cons.mp h
    show (l.map (f y)).sum + psum f l = (l.map (g y)).sum + psum g l
    rw [psum_congr h2, sum_congr h1]
/-- all twos in both orders are the pairs both ways, and each with itself -/
theorem twice (k : Str → Str → Int) (h0 : ∀ u, k u u = 0) : ∀ r : List Str, (r.map fun u => (r.map (k u)).sum).sum = psum (fun y z => k y z + k z y) r
  | [] => rfl
  | x :: r => by
    have ih := twice k h0 r
    show (k x x + (r.map (k x)).sum) + (r.map fun u => (k u x + (r.map (k u)).sum)).sum = (r.map fun z => k x z + k z x).sum + psum (fun y z => k y z + k z y) r
    rw [sum_add, sum_add, h0, ih]
    omega
/-- what a triple is worth: its paths of two, by their middle -/
def GG (F : Str → Str → Int) (x y z : Str) : Int := F x y * F x z + (F y x * F y z + F z x * F z y)
def TT (F : Str → Str → Int) : List Str → Int
  | [] => 0
  | x :: r => psum (GG F x) r + TT F r
theorem centre (F : Str → Str → Int) (h0 : ∀ u, F u u = 0) : ∀ xs : List Str, (xs.map fun x => psum (fun y z => F x y * F x z) xs).sum = TT F xs
  | [] => rfl
  | x :: r => by
    have ih := centre F h0 r
    have e1 : psum (fun y z => F x y * F x z) (x :: r) = psum (fun y z => F x y * F x z) r := by
      show (r.map fun z => F x x * F x z).sum + psum (fun y z => F x y * F x z) r = _
      rw [sum_zero fun z _ => by rw [h0, Int.zero_mul]]
      omega
    have e2 : (r.map fun u => psum (fun y z => F u y * F u z) (x :: r)).sum = psum (fun y z => F y x * F y z + F z x * F z y) r + TT F r := by
      show (r.map fun u => ((r.map fun z => F u x * F u z).sum + psum (fun y z => F u y * F u z) r)).sum = _
      rw [sum_add, ih, twice (fun u z => F u x * F u z) (fun u => by show F u x * F u u = 0; rw [h0, Int.mul_zero]) r]
    show psum (fun y z => F x y * F x z) (x :: r) + (r.map fun u => psum (fun y z => F u y * F u z) (x :: r)).sum = psum (GG F x) r + TT F r
    rw [e1, e2]
    have e3 : psum (GG F x) r = psum (fun y z => F x y * F x z) r + psum (fun y z => F y x * F y z + F z x * F z y) r := psum_add _ _ r
    rw [e3]
    omega
def bq (q : Str → Bool) (y : Str) : Int := if q y = true then 1 else 0
theorem len_filter (q : Str → Bool) : ∀ r : List Str, ((r.filter q).length : Int) = (r.map (bq q)).sum
  | [] => rfl
  | y :: r => by
    rw [List.map_cons, List.sum_cons, ← len_filter q r]
    by_cases h : q y = true
    · rw [List.filter_cons_of_pos h, List.length_cons]
      unfold bq
      rw [if_pos h]
      omega
    · rw [List.filter_cons_of_neg h]
      unfold bq
      rw [if_neg h]
      omega
theorem len_pairs (q : Str → Bool) : ∀ xs : List Str, ((prsS (xs.filter q)).length : Int) = psum (fun y z => bq q y * bq q z) xs
  | [] => rfl
  | x :: r => by
    have ih := len_pairs q r
    show _ = (r.map fun z => bq q x * bq q z).sum + psum (fun y z => bq q y * bq q z) r
    rw [← ih]
    by_cases h : q x = true
    · rw [List.filter_cons_of_pos h]
      show (((r.filter q).map (fun y => (x, y)) ++ prsS (r.filter q)).length : Int) = _
      rw [List.length_append, List.length_map]
      have e : (r.map fun z => bq q x * bq q z) = r.map (bq q) := List.map_congr_left fun z _ => by
        have : bq q x = 1 := if_pos h
        rw [this, Int.one_mul]
      rw [e, ← len_filter]
      omega
    · rw [List.filter_cons_of_neg h, sum_zero fun z _ => by
        have : bq q x = 0 := if_neg h
        rw [this, Int.zero_mul]]
      omega
/-- 1 if x and y are friends -/
def FF (ps : List Pr) (x y : Str) : Int := bq (fun y => decide (y ≠ x ∧ mk x y ∈ ps)) y
theorem ff_self (ps : List Pr) (u : Str) : FF ps u u = 0 := by
  unfold FF bq
  rw [if_neg (by simp)]
theorem mk_comm (x y : Str) : mk x y = mk y x := by
  unfold mk
  by_cases c : Lt x y
  · rw [if_pos c, if_neg fun q => Lt.irr _ (c.tr q)]
  · by_cases d : Lt y x
    · rw [if_neg c, if_pos d]
    · rcases Lt.tri x y with q | q | q
      · exact absurd q c
      · subst q
        rfl
      · exact absurd q d
theorem ff_pos {ps : List Pr} {x y : Str} (h : y ≠ x ∧ mk x y ∈ ps) : FF ps x y = 1 := if_pos (decide_eq_true h)
theorem ff_neg {ps : List Pr} {x y : Str} (h : ¬ (y ≠ x ∧ mk x y ∈ ps)) : FF ps x y = 0 := if_neg fun z => h (of_decide_eq_true z)
theorem ff_comm (ps : List Pr) (x y : Str) : FF ps x y = FF ps y x := by
  by_cases c : y ≠ x ∧ mk x y ∈ ps
  · rw [ff_pos c, ff_pos ⟨Ne.symm c.1, by rw [mk_comm]; exact c.2⟩]
  · rw [ff_neg c, ff_neg fun z => c ⟨Ne.symm z.1, by rw [mk_comm]; exact z.2⟩]
theorem ff_ev {ps : List Pr} {x y : Str} (h : Lt x y) : FF ps x y = (ev ps x y : Nat) := by
  have e : mk x y = (x, y) := if_pos h
  have ne : y ≠ x := fun e => Lt.irr x (by rw [e] at h; exact h)
  unfold ev
  by_cases d : (x, y) ∈ ps
  · rw [ff_pos ⟨ne, by rw [e]; exact d⟩, if_pos d]
    rfl
  · rw [ff_neg fun z => d (by rw [← e]; exact z.2), if_neg d]
    rfl
theorem ev_le (ps : List Pr) (a b : Str) : ev ps a b = 0 ∨ ev ps a b = 1 := by
  unfold ev
  split
  · exact .inr rfl
  · exact .inl rfl
theorem gg_eq {ps : List Pr} {x y z : Str} (h1 : Lt x y) (h2 : Lt y z) : gg (ev ps x y + ev ps x z + ev ps y z) = GG (FF ps) x y z := by
  unfold GG
  rw [ff_comm ps y x, ff_comm ps z x, ff_comm ps z y, ff_ev h1, ff_ev (h1.tr h2), ff_ev h2]
  rcases ev_le ps x y with a | a <;> rcases ev_le ps x z with b | b <;> rcases ev_le ps y z with c | c <;> rw [a, b, c] <;> rfl
theorem inn_eq {ps : List Pr} {x y : Str} (h : Lt x y) : ∀ {s : List Str}, (∀ z ∈ s, Lt y z) → inn ps x y s = (s.map (GG (FF ps) x y)).sum
  | [], _ => rfl
  | z :: s, q => by
    show gg _ + inn ps x y s = GG (FF ps) x y z + (s.map (GG (FF ps) x y)).sum
    rw [inn_eq h fun u hu => q u (List.mem_cons_of_mem _ hu), gg_eq h (q z List.mem_cons_self)]
theorem row_eq {ps : List Pr} {x : Str} : ∀ {r : List Str}, Asc r → (∀ y ∈ r, Lt x y) → row ps x r = psum (GG (FF ps) x) r
  | [], _, _ => rfl
  | y :: r, a, h => by
    obtain ⟨a1, a2⟩ := List.pairwise_cons.mp a
    show inn ps x y r + row ps x r = (r.map (GG (FF ps) x y)).sum + psum (GG (FF ps) x) r
    rw [inn_eq (h y List.mem_cons_self) a1, row_eq a2 fun z hz => h z (List.mem_cons_of_mem _ hz)]
theorem tri_eq {ps : List Pr} : ∀ {xs : List Str}, Asc xs → tri ps xs = TT (FF ps) xs
  | [], _ => rfl
  | x :: r, a => by
    obtain ⟨a1, a2⟩ := List.pairwise_cons.mp a
    show row ps x r + tri ps r = psum (GG (FF ps) x) r + TT (FF ps) r
    rw [row_eq a2 a1, tri_eq a2]
/-- the forks are the triples with two friendships and three times the triangles -/
theorem forks_tri {xs : List Str} {ps : List Pr} (g : Good xs ps) : (forkL xs ps).sum = tri ps xs := by
  rw [tri_eq g.asc, ← centre (FF ps) (ff_self ps) xs]
  unfold forkL
  refine sum_congr fun x _ => ?_
  rw [frs_eq g, len_pairs]
  rfl
theorem perm_sum {l m : List Int} (h : l.Perm m) : l.sum = m.sum := by
  induction h with
  | nil => rfl
  | cons x _ ih => rw [List.sum_cons, List.sum_cons, ih]
  | swap x y l =>
    simp only [List.sum_cons]
    omega
  | trans _ _ h1 h2 => exact h1.trans h2
/-! the odd people are an even number -/
theorem one_of {a : Str} : ∀ {xs : List Str}, xs.Nodup → a ∈ xs → (xs.map fun x => if a = x then 1 else 0).sum = 1
  | [], _, h => nomatch h
  | x :: xs, nd, h => by
    obtain ⟨n1, n2⟩ := List.nodup_cons.mp nd
    rw [List.map_cons, List.sum_cons]
    by_cases e : a = x
    · subst e
      have z : (xs.map fun x => if a = x then 1 else 0).sum = 0 := by
        have : (xs.map fun x => if a = x then 1 else 0) = xs.map fun _ => 0 := List.map_congr_left fun y hy => if_neg (show ¬ a = y from fun q => n1 (by rw [q]; exact hy))
        rw [this]
        clear nd h n1 n2 this
        induction xs with
        | nil => rfl
        | cons _ _ ih => rw [List.map_cons, List.sum_cons, ih]
      rw [if_pos rfl, z]
    · rw [if_neg e, one_of n2 ((List.mem_cons.mp h).resolve_left e)]
theorem nsum_add {α : Type} (f g : α → Nat) : ∀ l : List α, (l.map fun x => f x + g x).sum = (l.map f).sum + (l.map g).sum
  | [] => rfl
  | x :: l => by
    rw [List.map_cons, List.sum_cons, nsum_add f g l, List.map_cons, List.sum_cons, List.map_cons, List.sum_cons]
    omega
theorem deg_sum {xs : List Str} (nd : xs.Nodup) : ∀ {ps : List Pr}, Of xs ps → (xs.map fun x => (frs ps x).length).sum = 2 * ps.length
  | [], ofs => by
    clear ofs
    have : (xs.map fun x => (frs [] x).length) = xs.map fun _ => 0 := rfl
    rw [this]
    clear nd this
    induction xs with
    | nil => rfl
    | cons _ _ ih =>
      rw [List.map_cons, List.sum_cons, ih]
      rfl
  | p :: ps, of => by
    have ih := deg_sum nd (ps := ps) fun q hq => of q (List.mem_cons_of_mem _ hq)
    obtain ⟨h1, h2, h3⟩ := of p List.mem_cons_self
    have ne : p.1 ≠ p.2 := fun e => Lt.irr p.2 (by rw [e] at h3; exact h3)
    have e : (xs.map fun x => (frs (p :: ps) x).length) = xs.map fun x => ((if p.1 = x then 1 else 0) + (if p.2 = x then 1 else 0)) + (frs ps x).length := List.map_congr_left fun x _ => by
      unfold frs
      rw [List.filterMap_cons]
      by_cases z1 : p.1 = x
      · have z2 : ¬ p.2 = x := fun q => ne (z1.trans q.symm)
        simp [z1, z2]
        omega
      · by_cases z2 : p.2 = x
        · simp [z1, z2]
          omega
        · simp [z1, z2]
    rw [e, nsum_add, nsum_add, one_of nd h1, one_of nd h2, ih, List.length_cons]
    omega
theorem odd_len (f : Str → Nat) (o : Str → Bool) (h : ∀ x, o x = decide (f x % 2 = 1)) : ∀ xs : List Str, (xs.filter o).length % 2 = (xs.map f).sum % 2
  | [] => rfl
  | x :: xs => by
    have ih := odd_len f o h xs
    rw [List.map_cons, List.sum_cons]
    by_cases c : o x = true
    · rw [List.filter_cons_of_pos c, List.length_cons]
      have : f x % 2 = 1 := by
        rw [h] at c
        exact of_decide_eq_true c
      omega
    · rw [List.filter_cons_of_neg c]
      have : ¬ f x % 2 = 1 := fun z => c (by rw [h]; exact decide_eq_true z)
      omega
theorem odd_even {xs : List Str} {ps : List Pr} (g : Good xs ps) : (xs.filter (oddF ps)).length % 2 = 0 := by
  rw [odd_len (fun x => (frs ps x).length) (oddF ps) (fun x => ?_) xs, deg_sum g.asc.nd g.of]
  · omega
  · unfold oddF
    refine decide_eq_decide.mpr ⟨fun e => ?_, fun e => ?_⟩
    · have := V.int.inj e
      omega
    · refine congrArg V.int ?_
      omega
end Wd
end
section
set_option maxRecDepth 100000
set_option maxHeartbeats 4000000
namespace PySem.W
open PySem PySem.Calls PyProof.Rows Builtin
section
variable {prog : Program} {w : World} {A : Around} {E : Value → Shared → Prop} {s : Shared} {K : Frag} {x C L f : Addr} {h₀ : Heap} {m : Str → Option Value} {ox : Obj} {od : Option Obj} {name : Str} {b tb : Value}
/-- the slot of a builtin asks whether its first argument is of the class that it belongs to -/
theorem check_slot_I {M : Model} {id owner n : String} {rest : List Value} {Q : Unit → Shared → Prop} (X : K.In s.heap) (I : InstAt s.heap x ox C od) (hm : mroIn K C (.type owner) = some true)
    (hk : builtinKind id = some .slot) (hs : splitId id = some (owner, n)) (ha : argsOk id ⟨.ref x :: rest, []⟩) (hq : Q () s) : wpAny M A (checkBuiltinCall id ⟨.ref x :: rest, []⟩) Q E s := by
  obtain ⟨hh, g, dr, t, os⟩ := s
  have L0 := I.type (M := M)
  have L1 := looks_mroIn (M := M) X hm
  simp only [checkBuiltinCall, hk, hs]
  refine wpAny_bind ?_
  unfold isInstance
  repeat lk
  cases hsig : Manifest.signature? id with
  | none => exact wpAny_pure hq
  | some sig =>
    simp only [argsOk, hsig] at ha
    have h2 : Bind.checkArgs id sig ⟨.ref x :: rest, []⟩ = pure () := ha
    show wpAny M A (Bind.checkArgs id sig ⟨.ref x :: rest, []⟩) Q E _
    rw [h2]
    exact wpAny_pure hq
/-- a special method that a builtin's slot gives -/
theorem ifBoundB_K {M : Model} {T id : String} {args : List Value} {Q : Option Value → Shared → Prop} (X : K.In s.heap) (I : InstAt s.heap x ox C od) (S : Slot T name id) (hs : findIn K (.ref C) name = some (some (.builtin id)))
    (h : wpAny M A (call (.builtin id) (.ref x :: args)) (fun v => Q (some v)) E s) : wpAny M A (callSpecialIfBound? (.ref x) name args) Q E s := by
  simp only [callSpecialIfBound?, bindSpecialIfBound?]
  refine wpAny_holding (wpAny_bind (wpAny_bind (wpAny_bind (I.type.here ((looks_findIn X hs).here ?_)))))
  simp only [S.bind]
  refine wpAny_bind (wpAny_askSetting (wpAny_ite ?_))
  have fin : wpAny M A (call (.builtin id) ([.ref x] ++ args) >>= fun v => pure (some v)) Q E s := wpAny_bind (wpAny_mono h (fun v s' h' => wpAny_pure h') fun _ _ h' => h')
  split
  · exact wpAny_bind (wpAny_pure (wpAny_pure (by exact fin)))
  · exact wpAny_tryCatch (wpAny_bind (wpAny_pure (wpAny_pure (by exact fin))))
/-- object's own __ne__, where the class has an __eq__ -/
theorem ne_body (X : K.In s.heap) (I : InstAt s.heap x ox C od) (hu : A.units < cLine) (hs : findIn K (.ref C) "__eq__" = some (some (.ref f))) (hf : isFn K (.ref f) = true) {Q : Fin → Shared → Prop}
    (hcall : wpAny (model prog w) A (call (.ref f) [.ref x, b]) (fun v s' => ∃ t, v = .bool t ∧ Q (.done (.ret (.bool (!t)))) s') E s) : wpAny (model prog w) A (Builtin.«object.__ne__» ⟨[.ref x, b], []⟩) Q E s := by
  unfold Builtin.«object.__ne__»
  obtain ⟨hh, g, dr, t, os⟩ := s
  repeat (first
    | with_reducible refine wpAny_cRoomFor hu ?_
    | (refine wpAny_bind (m := callSpecialIfBound? (.ref x) (Str.ofString "__eq__") [b])
        (ifBound_K X I hs hf (wpAny_mono hcall (fun r s' hr => by
          obtain ⟨t, rfl, hq⟩ := hr
          repeat (first | exact hq | exact wpAny_pure hq | exact wpAny_truthy_bool hq | (refine wpAny_bind (m := truthy (.bool _)) (wpAny_truthy_bool ?_)) | wp_step)) fun _ _ e => e)))
    | wp_step)
theorem ne_K {Q : Value → Shared → Prop} (hu : A.units + 1 < cLine) (F : Fr h₀ L s.heap m) (X₀ : K.In h₀) (I : InstAt s.heap x ox C od) (hb : Looks (model prog w) s.heap (typeOf b) tb) (hn : notFirst K C tb = true)
    (hne : findIn K (.ref C) "__ne__" = some (some (.builtin "object.__ne__"))) (hm : mroIn K C (.type "object") = some true)
    (hs : findIn K (.ref C) "__eq__" = some (some (.ref f))) (hf : isFn K (.ref f) = true)
    (h : wpAny (model prog w) A.in1 (call (.ref f) [.ref x, b]) (fun v s' => ∃ t, v = .bool t ∧ Q (.bool (!t)) s') E s) : wpAny (model prog w) A (richCompare .NotEq (.ref x) b) Q E s := by
  have X := X₀.keeps F.keep
  have one : wpAny (model prog w) A (tryCompare (.ref x) "__ne__" b) (fun r s' => ∃ v, r = some v ∧ Q v s') E s := by
    unfold tryCompare
    refine wpAny_bind (ifBoundB_K X I PySem.F.cmp_object.ne hne (wpAny_call (codeAny_call_builtin PySem.F.cmp_object.ne.plain PySem.F.cmpEntry_ne
      (check_slot_I X I hm PySem.F.cmpKind_ne PySem.F.cmpSplit_ne (PySem.F.cmpArgs_ne _ _) (ne_body (A := A.in1) X I hu hs hf (wpAny_mono h (fun v s' hv => ?_) fun _ _ e => e))))))
    obtain ⟨t, rfl, hq⟩ := hv
    exact ⟨t, rfl, wpAny_pure ⟨_, rfl, hq⟩⟩
  unfold richCompare
  simp only [oneThing_ref]
  refine wpAny_holding (wpAny_bind (wpAny_cRoomFor (Nat.lt_of_succ_lt hu) ?_))
  rw [cmpInfo_NotEq]
  dsimp only
  refine wpAny_bind (I.type.here (wpAny_bind (hb.here ?_)))
  split
  · rename_i q
    have e : subIn K tb (.ref C) = some false := by
      rcases Bool.or_eq_true_iff.mp hn with e | e
      · rw [beq_iff_eq.mp e] at q; simp at q
      · exact beq_iff_eq.mp e
    refine wpAny_bind ((looks_subIn X e).here ?_)
    simp only [Bool.false_eq_true, if_false]
    refine wpAny_bind (wpAny_mono one (fun r s' z => ?_) fun _ _ e => e)
    obtain ⟨v, rfl, hq⟩ := z
    exact wpAny_pure hq
  · refine wpAny_bind (wpAny_pure ?_)
    simp only [Bool.false_eq_true, if_false]
    refine wpAny_bind (wpAny_mono one (fun r s' z => ?_) fun _ _ e => e)
    obtain ⟨v, rfl, hq⟩ := z
    exact wpAny_pure hq
end
end PySem.W
namespace L2
open PySem PySem.Spec PyProof.Rows
/-- what the own == answers of two instances -/
abbrev EqB := Addr → Addr → Bool → Hp → Prop
def spEqB (R : EqB) : Sp := fun vs H Q _ => ∃ a b t, vs = [.ref a, .ref b] ∧ R a b t H ∧ ∀ H', Ext H H' → Q (.bl t) H'
def DInsB (C : Addr) (R : EqB) (x y : V) (t : Bool) (H : Hp) : Prop := ∃ a b dx dy fs gs, x = .ref a ∧ y = .ref b ∧ H a = some (.ins C dx fs) ∧ H b = some (.ins C dy gs) ∧ R a b t H
def rEqB (C : Addr) (R : EqB) (neg : Bool) : R2 := fun x y H Q => ∃ t, DInsB C R x y t H ∧ ∀ H', Ext H H' → Q (.bl (neg != t)) H'
section
variable {X : Cx} {n : Nat}
theorem call_eqB {CX : CXT} {f : Addr} {fd : FuncData} {ps : List Str} {R : EqB} {E : XK} (F : FnOk X.prog X.w X.K X.mg X.base CX n f fd ps (spEqB R))
    (hb : Binds X.K fd ps []) (hx : Passes CX X E) {A : Around} (hr : Room n A) (hfr : A.frames = X.A.frames) {pins : List (Addr × Obj)} {s : Shared} {σ : St} {H : Hp} (I : Inv X pins σ H s) {a b : Addr} {t : Bool} (hR : R a b t H)
    {Q : Value → Shared → Prop} (q : ∀ H' s', Inv X pins σ H' s' → Ext H H' → Q (.bool t) s') : wpAny (model X.prog X.w) A (call (.ref f) [.ref a, .ref b]) Q X.xe s := by
  have hsp : spEqB R [.ref a, .ref b] H (fun v H' => v = .bl t ∧ Ext H H') E := ⟨a, b, t, rfl, hR, fun H' e => ⟨rfl, e⟩⟩
  have e0 : Env0 X.prog X.w X.K X.mg X.base A X.stack s H := by
    have e := I.env0
    exact ⟨by rw [hfr]; exact e.frames, e.mod, e.bs, e.bsz, e.funs, e.frf, e.hok, e.bare⟩
  have hl := F.len _ _ _ _ hsp
  have r2 : Vals [V.ref a, V.ref b] [Value.ref a, Value.ref b] := .cons rfl (.cons rfl .nil)
  refine wpAny_call (codeAny_mono (F.run A X.stack s H ⟨[.ref a, .ref b], []⟩ [.ref a, .ref b] [.ref a, .ref b] _ E hr e0 (by
    have := hb s [.ref a, .ref b] I.kIn (by simpa using hl)
    simpa using this) r2 hsp) fun r s' hq => ?_)
  cases r with
  | error e => exact hx pins σ H s e s' I hq
  | ok fl =>
    cases fl with
    | ret w =>
      obtain ⟨z, H', I', rz, ez, ex⟩ := I.after hq
      subst ez
      cases rz
      exact q H' s' I' ex
    | next => exact False.elim hq
    | brk => exact False.elim hq
    | cont => exact False.elim hq
theorem op_eqB {CX : CXT} {C f : Addr} {fd : FuncData} {ps : List Str} {R : EqB} {E : XK} (F : FnOk X.prog X.w X.K X.mg X.base CX n f fd ps (spEqB R))
    (hs : PySem.W.findIn X.K (.ref C) "__eq__" = some (some (.ref f))) (hf : PySem.W.isFn X.K (.ref f) = true) (hb : Binds X.K fd ps []) (hx : Passes CX X E) (hr : Room n X.A) : OpR X (compareOp .Eq) (rEqB C R false) := by
  intro pins s σ H x y u v Q I rx ry hq
  obtain ⟨t, ⟨a, b, dx, dy, fs, gs, rfl, rfl, ha, hb', hR⟩, q⟩ := hq
  cases rx
  cases ry
  obtain ⟨mA, J, _⟩ := ins_get I.hok ha
  obtain ⟨mB, J', _⟩ := ins_get I.hok hb'
  obtain ⟨od, J, _⟩ := J.look
  obtain ⟨od', J', _⟩ := J'.look
  obtain ⟨m, hF⟩ := I.fr
  show wpAny (model X.prog X.w) X.A (richCompare .Eq _ _) (EP X pins σ Q) X.xe s
  refine PySem.W.cmp_K (op := .Eq) (tb := .ref C) hr.units0 hF I.ok.mod.kin J J'.type (by simp [PySem.W.notFirst]) hs hf ?_
  refine call_eqB F hb hx hr rfl I hR fun H' s' I' ex => ?_
  show EP X pins σ Q (.bool t) s'
  exact ⟨.bl t, H', I', rfl, by have := q H' ex; cases t <;> exact this⟩
theorem op_neB {CX : CXT} {C f : Addr} {fd : FuncData} {ps : List Str} {R : EqB} {E : XK} (F : FnOk X.prog X.w X.K X.mg X.base CX n f fd ps (spEqB R))
    (hs : PySem.W.findIn X.K (.ref C) "__eq__" = some (some (.ref f))) (hf : PySem.W.isFn X.K (.ref f) = true) (hb : Binds X.K fd ps []) (hx : Passes CX X E)
    (hne : PySem.W.findIn X.K (.ref C) "__ne__" = some (some (.builtin "object.__ne__"))) (hm : PySem.W.mroIn X.K C (.type "object") = some true) (hr : Room (n + 1) X.A) : OpR X (compareOp .NotEq) (rEqB C R true) := by
  intro pins s σ H x y u v Q I rx ry hq
  obtain ⟨t, ⟨a, b, dx, dy, fs, gs, rfl, rfl, ha, hb', hR⟩, q⟩ := hq
  cases rx
  cases ry
  obtain ⟨mA, J, _⟩ := ins_get I.hok ha
  obtain ⟨mB, J', _⟩ := ins_get I.hok hb'
  obtain ⟨od, J, _⟩ := J.look
  obtain ⟨od', J', _⟩ := J'.look
  obtain ⟨m, hF⟩ := I.fr
  show wpAny (model X.prog X.w) X.A (richCompare .NotEq _ _) (EP X pins σ Q) X.xe s
  refine PySem.W.ne_K (tb := .ref C) (hu_of hr) hF I.ok.mod.kin J J'.type (by simp [PySem.W.notFirst]) hne hm hs hf ?_
  refine call_eqB F hb hx hr.in1 rfl I hR fun H' s' I' ex => ?_
  exact ⟨t, rfl, .bl (!t), H', I', rfl, by have := q H' ex; cases t <;> exact this⟩
end
end L2
end
section
set_option maxRecDepth 100000
set_option maxHeartbeats 4000000
namespace Wd
open PySem L2
theorem eqv_strs : ∀ xs ys : List Str, PyData.eqvAll (xs.map PyData.str) (ys.map PyData.str) = decide (xs = ys)
  | [], [] => rfl
  | [], y :: ys => rfl
  | x :: xs, [] => rfl
  | x :: xs, y :: ys => by
    rw [List.map_cons, List.map_cons, PyData.eqvAll, eqv_strs xs ys, PyData.eqv]
    by_cases h : x = y
    · subst h
      by_cases h' : xs = ys <;> simp [h']
    · simp [h]
theorem eqv_sdL (xs ys : List Str) : PyData.eqv (sdL xs) (sdL ys) = decide (xs = ys) := by
  unfold sdL
  rw [PyData.eqv, eqv_strs]
theorem eqv_pd (p q : Pr) : PyData.eqv (pd p) (pd q) = decide (p = q) := by
  unfold pd
  rw [PyData.eqv, PyData.eqvAll, PyData.eqvAll, PyData.eqvAll, PyData.eqv, PyData.eqv]
  by_cases h : p.1 = q.1
  · by_cases h' : p.2 = q.2
    · rw [decide_eq_true (Prod.ext h h')]
      simp [h, h']
    · rw [decide_eq_false fun z => h' (by rw [z])]
      simp [h']
  · rw [decide_eq_false fun z => h (by rw [z])]
    simp [h]
theorem eqv_prs : ∀ ps qs : List Pr, PyData.eqvAll (ps.map pd) (qs.map pd) = decide (ps = qs)
  | [], [] => rfl
  | [], y :: ys => rfl
  | x :: xs, [] => rfl
  | x :: xs, y :: ys => by
    rw [List.map_cons, List.map_cons, PyData.eqvAll, eqv_prs xs ys, eqv_pd]
    by_cases h : x = y
    · subst h
      by_cases h' : xs = ys <;> simp [h']
    · simp [h]
theorem eqv_pdL (ps qs : List Pr) : PyData.eqv (pdL ps) (pdL qs) = decide (ps = qs) := by
  unfold pdL
  rw [PyData.eqv, eqv_prs]
/-- whether two companies are equal -/
def CEqB (C : Addr) (a b : Addr) (t : Bool) (H : Hp) : Prop := ∃ xs ps ys qs, Good xs ps ∧ Good ys qs ∧ CAt C H a xs ps ∧ CAt C H b ys qs ∧ t = decide (xs = ys ∧ ps = qs)
/-- pairs that stand within a crowd -/
def cutP (ys : List Str) (ps : List Pr) : List Pr := ps.filter fun p => decide (p.1 ∈ ys ∧ p.2 ∈ ys)
theorem Good.cut {xs ys zs : List Str} {ps : List Pr} (g : Good xs ps) (pm : ys.Perm zs) (a : Asc zs) (sub : ∀ z ∈ zs, z ∈ xs) (l1 : 1 ≤ zs.length) (l9 : zs.length ≤ 9) : Good zs (cutP ys ps) :=
  ⟨a, fun x hx => g.word x (sub x hx), ⟨l1, l9⟩, sub_of_asc a ((g.ascP).filter _) fun p hp => by
    have h := List.mem_filter.mp hp
    have h2 := of_decide_eq_true h.2
    exact prsS_mem a (pm.mem_iff.mp h2.1) (pm.mem_iff.mp h2.2) (g.of p h.1).2.2⟩
def spPairOfB : Sp := fun vs H Q _ => ∃ (l t : Addr) (xs : List Str) (p : Pr), vs = [.ref l, .ref t] ∧ H l = some (.lst (xs.map V.str)) ∧ H t = some (.tup [.str p.1, .str p.2]) ∧ Lt p.1 p.2 ∧ Q (.bl (decide (p.1 ∈ xs ∧ p.2 ∈ xs))) H
def spPplOf : Sp := fun vs H Q _ => ∃ (l m : Addr) (xs ys : List Str), vs = [.ref l, .ref m] ∧ H l = some (.lst (xs.map V.str)) ∧ H m = some (.lst (ys.map V.str)) ∧ ys.Nodup ∧ (∀ y ∈ ys, IsW y ∧ y ∈ xs) ∧ 1 ≤ ys.length ∧ ys.length ≤ 100 ∧ ∀ H', Same H H' → Q (.bl true) H'
def spKept (C : Addr) : Sp := fun vs H Q _ => ∃ (c m : Addr) (xs ys zs : List Str) (ps : List Pr), vs = [.ref c, .ref m] ∧ CAt C H c xs ps ∧ Good xs ps ∧ H m = some (.lst (ys.map V.str)) ∧ ys.Perm zs ∧ Good zs (cutP ys ps) ∧
  ∀ (H' : Hp) (D : Addr), Same H H' → H D = none → CAt C H' D zs (cutP ys ps) → Q (.ref D) H'
section
variable {P : Program} {w : World} {K : PySem.W.Frag} {mg : Str → Option Value} {base : Heap}
theorem ok_eqB {f C : Addr} {fd : FuncData} (F : Fun K "__eq__" "Company.__eq__" cE f fd) (T : Bt mg) (TC : CT K mg C) : FnOk P w K mg base CX0 1 f fd ["self", "other"] (spEqB (CEqB C)) := by
  refine F.ok sc_E (fun vs H Q E h => ?_) (fun cdv A outer s H vs Q E hr h => ?_)
  · obtain ⟨_, _, _, rfl, _⟩ := h
    rfl
  · obtain ⟨c, d, t, rfl, ⟨xs, ps, ys, qs, g, g', ⟨dx, a, b, h1, h2, Ts, h3, tu⟩, ⟨dy, a', b', g1, g2, Us, g3, uu⟩, et⟩, k⟩ := h
    refine ⟨_, pss_one (ps_ret (pe_and (pe_callB (C8.call_isC TC.is) (by rfl) T.isi (by decide +kernel) (pa_cons (pv 1) (pa_cons (C8.pe_gc (v := .ref C) rfl ⟨_, TC.mC, rfl⟩) pa_nil)))
      (pe_and (pe_cmpR (op_eqD hr.units) (pe_fld (pv 0) rfl) (pe_fld (pv 1) rfl) (nomark _))
      (pe_one (pe_cmpR (op_eqD hr.units) (pe_fld (pv 0) rfl) (pe_fld (pv 1) rfl) (nomark _)))))), ?_⟩
    refine ⟨_, rfl, d, dy, _, rfl, g1, _, rfl, iteT ?_⟩
    refine ⟨_, rfl, c, C, dx, _, _, rfl, h1, TC.is.cl, TC.nP, cF_p a b, _, rfl, d, C, dy, _, _, rfl, g1, TC.is.cl, TC.nP, cF_p a' b', ?_⟩
    refine ⟨sdL xs, sdL ys, dp_sdL (SqL.of h2), dp_sdL (SqL.of g2), sdL_shaped g.word, sdL_shaped g'.word, _, rfl, ?_⟩
    rw [eqv_sdL]
    refine ite2 (fun e => ?_) (fun e => ?_)
    · have e := of_decide_eq_true e
      refine ⟨_, rfl, c, C, dx, _, _, rfl, h1, TC.is.cl, TC.nF, cF_f a b, _, rfl, d, C, dy, _, _, rfl, g1, TC.is.cl, TC.nF, cF_f a' b', ?_⟩
      refine ⟨pdL ps, pdL qs, dp_pdL (SqL.of h3) tu, dp_pdL (SqL.of g3) uu, pdL_shaped g.wp, pdL_shaped g'.wp, ?_⟩
      rw [eqv_pdL]
      have et : t = decide (ps = qs) := by
        rw [et]
        exact decide_eq_decide.mpr ⟨fun z => z.2, fun z => ⟨e, z⟩⟩
      rw [← et]
      exact k H Ext.rfl'
    · have et : t = false := by
        rw [et]
        exact decide_eq_false fun z => e (decide_eq_true z.1)
      rw [← et]
      exact k H Ext.rfl'
theorem ok_pair_ofB {f : Addr} {fd : FuncData} (F : Fun K "is_pair_of" "is_pair_of" sp_is_pair_of f fd) (T : Bt mg) : FnOk P w K mg base CX0 1 f fd ["people", "value"] spPairOfB := by
  refine F.ok cp_is_pair_of (fun vs H Q E h => ?_) (fun cdv A outer s H vs Q E hr h => ?_)
  · obtain ⟨_, _, _, _, rfl, _⟩ := h
    rfl
  · obtain ⟨l, t, xs, p, rfl, hl, ht, lt, k⟩ := h
    refine ⟨_, pss_cons (ps_if (PW.pt (pw_or (pt_not (pt_val (pe_callB call_isi (by rfl) T.isi (by decide +kernel) (pa_cons (pv 1) (pa_cons (pe_bltn (v := .ty "tuple") (by rfl) T.tuple (by decide +kernel) rfl) pa_nil)))))
        (pw_or1 (pt_cmpR op_ne (pe_callB call_len_seq (by rfl) T.len PySem.boot_len (pa_cons (pv 1) pa_nil)) pe_int (nomark _))))) (pss_one (ps_ret pe_bl)) pss_nil)
      (pss_one (ps_ret (pe_and (pe_cmpR op_in_seq (pe_ix ix_tup (pv 1) pe_int (fun _ _ => rfl)) (pv 0) rfl)
        (pe_and (pe_cmpR op_in_seq (pe_ix ix_tup (pv 1) pe_int (fun _ _ => rfl)) (pv 0) rfl)
        (pe_one (pe_cmpR op_lt_str (pe_ix ix_tup (pv 1) pe_int (fun _ _ => rfl)) (pe_ix ix_tup (pv 1) pe_int (fun _ _ => rfl)) (nomark _))))))), ?_⟩
    refine ⟨_, rfl, _, _, _, _, _, rfl, .ty "tuple", .base (.tup ht), kit_ty (a := "tuple") (r := true) (by decide +kernel), _, rfl, ?_⟩
    refine iteF ?_
    refine ⟨_, rfl, t, _, rfl, .inr (SqT.of ht), rfl, _, rfl, ?_⟩
    refine ite_f (by rfl) ?_
    refine ⟨_, rfl, t, _, _, .str p.1, rfl, rfl, SqT.of ht, rfl, _, rfl, l, _, rfl, .inl (SqL.of hl), rfl, flat_strs' xs, ?_⟩
    rw [in_strs]
    refine ⟨_, rfl, ite2 (fun m1 => ?_) (fun m1 => ?_)⟩
    · have m1 := of_decide_eq_true m1
      refine ⟨_, rfl, t, _, _, .str p.2, rfl, rfl, SqT.of ht, rfl, _, rfl, l, _, rfl, .inl (SqL.of hl), rfl, flat_strs' xs, ?_⟩
      rw [in_strs]
      refine ⟨_, rfl, ite2 (fun m2 => ?_) (fun m2 => ?_)⟩
      · have m2 := of_decide_eq_true m2
        refine ⟨_, rfl, t, _, _, .str p.1, rfl, rfl, SqT.of ht, rfl, _, rfl, t, _, _, .str p.2, rfl, rfl, SqT.of ht, rfl, _, _, rfl, rfl, ?_⟩
        have e : decide (p.1.cps.toList < p.2.cps.toList) = true := decide_eq_true lt
        rw [e]
        rw [decide_eq_true ⟨m1, m2⟩] at k
        exact k
      · rw [decide_eq_false fun z => m2 (decide_eq_true z.2)] at k
        exact k
    · rw [decide_eq_false fun z => m1 (decide_eq_true z.1)] at k
      exact k
theorem ok_ppl_of {f : Addr} {fd : FuncData} (F : Fun K "are_people_of" "are_people_of" sp_are_people_of f fd) (T : Bt mg) (CA : Has P w K mg base 3 "are_people" ["value"] spArePpl) : FnOk P w K mg base CX0 4 f fd ["people", "value"] spPplOf := by
  obtain ⟨fA, dA, GA, mA, kA, bA⟩ := CA
  refine F.ok cp_are_people_of (fun vs H Q E h => ?_) (fun cdv A outer s H vs Q E hr h => ?_)
  · obtain ⟨_, _, _, _, rfl, _⟩ := h
    rfl
  · obtain ⟨l, m, xs, ys, rfl, hl, hm, nd, hy, y1, y100, k⟩ := h
    refine ⟨_, pss_one (ps_ret (pe_and (pe_call GA hr rfl mA kA bA .nil pass0 (pa_cons (pv 1) pa_nil)) (pe_one (pe_callB (cr_all rfl) (by rfl) T.all (by decide +kernel) (pa_cons (pe_lc (own := [("person", 2)]) (g := gName 2) (tt := tYes) rfl cp_are_people_of.nd (pi_list (pv 1))
      (blkOk_by (N := ["people", "value", "person"]) (sc := defScope sp_are_people_of) (by decide +kernel)) (fun _ _ _ _ _ => pg_name (i := 2) cp_are_people_of.nd rfl (Or.inl rfl)) (fun _ _ _ _ _ => pts_nil) (fun _ _ _ _ _ => pe_cmpR (r := rIn K false) op_in_seq (pv 2) (pv 0) rfl)) pa_nil))))), ?_⟩
    refine ⟨_, rfl, m, ys, rfl, hm, nd, fun y h => (hy y h).1, y1, y100, fun H1 s1 => ⟨_, rfl, iteT ?_⟩⟩
    refine ⟨_, rfl, m, rfl, ⟨_, SqL.of (s1 _ _ hm)⟩, fun R hR => ?_⟩
    refine lc_it (walk_list (K := K) (a := m) (xs := ys.map V.str)) (fun i H' => Same H1 H' ∧ H' R = some (.lst (trues i))) ⟨same_new hR, upd_same⟩ (fun i H' _ z => SqL.of (z.1 _ _ (s1 _ _ hm))) ?_ ?_
    · rintro i v _ H2 hi ⟨s2, hr2⟩ ⟨rfl, hv⟩
      rw [List.getElem?_map] at hv
      obtain ⟨y, hy', rfl⟩ := Option.map_eq_some_iff.mp hv
      have i100 := (List.getElem?_eq_some_iff.mp hy').1
      refine ⟨rfl, _, rfl, _, rfl, l, _, rfl, .inl (SqL.of (s2 _ _ (s1 _ _ hl))), rfl, flat_strs' xs, ?_⟩
      refine ⟨_, hr2, by rw [trues_len, sizeLine_eq]; omega, same_over s2 hR, ?_⟩
      rw [upd_same]
      show some (HO.lst (trues i ++ [V.bl (inV (.str y) (xs.map V.str))])) = _
      rw [in_strs, decide_eq_true (hy y (List.mem_of_getElem? hy')).2, trues_next]
    · rintro H2 ⟨s2, hr2⟩
      refine ⟨R, _, rfl, SqL.of hr2, ?_⟩
      rw [trues_all]
      exact k H2 (s1.trans s2)
theorem ok_kept {f C : Addr} {fd : FuncData} (F : Fun K "kept_among" "kept_among" sp_kept_among f fd) (TC : CT K mg C) (M : Maker P w K mg base C) (MF : HasM P w K mg base C 1 "friends" (spFrM C)) (CP : Has P w K mg base 1 "is_pair_of" ["people", "value"] spPairOfB) :
    FnOk P w K mg base CX0 6 f fd ["company", "people"] (spKept C) := by
  obtain ⟨fI, fdI, MI, GI, bI⟩ := M.ex
  obtain ⟨fF, fdF, GF, mF, bF⟩ := MF
  obtain ⟨fP, dP, GP, mP, kP, bP⟩ := CP
  refine F.ok cp_kept_among (fun vs H Q E h => ?_) (fun cdv A outer s H vs Q E hr h => ?_)
  · obtain ⟨_, _, _, _, _, _, rfl, _⟩ := h
    rfl
  · obtain ⟨c, m, xs, ys, zs, ps, rfl, hc, g, hm, pm, gz, k⟩ := h
    have hr1 : Room 1 _ := hr.mono (by decide)
    refine ⟨_, pss_one (ps_ret (pe_make MI GI hr rfl TC.mC bI .nil pass0 (pa_cons (pv 1) (pa_cons (pe_lc (own := [("pair", 2)]) (g := gName 2) rfl cp_kept_among.nd (pi_list (pe_meth0 (pv 0) TC.is.cl mF GF hr1 bF .nil pass0))
      (blkOk_by (N := ["company", "people", "pair"]) (sc := defScope sp_kept_among) (by decide +kernel)) (fun _ _ _ _ _ => pg_name (i := 2) cp_kept_among.nd rfl (Or.inl rfl)) (fun _ _ _ _ _ => pts_one (pt_val (pe_call GP hr1 rfl mP kP bP .nil pass0 (pa_cons (pv 1) (pa_cons (pv 2) pa_nil)))))
      (fun _ _ _ _ _ => pv 2)) pa_nil)))), ?_⟩
    obtain ⟨dx, a, b, h1, h2, h3⟩ := id hc
    have l9 := g.few
    have few := g.len
    refine ⟨_, rfl, _, rfl, c, dx, _, rfl, h1, cF_no a b (by decide +kernel) (by decide +kernel), c, xs, ps, rfl, hc, by omega, fun M0 H1 nM s1 ⟨Ts, hm1, tu⟩ => ⟨M0, rfl, ⟨_, SqL.of hm1⟩, fun R hR => ?_⟩⟩
    have lT : Ts.length = ps.length := by rw [tu.1, List.length_map]
    refine lc_list (xs := Ts.map V.ref) (fun j H4 => ∃ Vs : List Addr, H4 R = some (.lst (Vs.map V.ref)) ∧ Same H1 H4 ∧ Tups H4 Vs ((cutP ys (ps.take j)).map tv))
      ⟨[], upd_same, same_new hR, Tups.nil⟩ (fun j H4 _ ⟨_, _, s6, _⟩ => SqL.of (s6 _ _ hm1)) ?_ ?_
    · rintro j v H4 hv ⟨Vs, hr4, s6, tv4⟩
      rw [List.getElem?_map] at hv
      obtain ⟨U, hU, rfl⟩ := Option.map_eq_some_iff.mp hv
      have jl := (List.getElem?_eq_some_iff.mp hU).1
      obtain ⟨p, hp⟩ : ∃ p, ps[j]? = some p := ⟨_, List.getElem?_eq_getElem (by omega)⟩
      have e1 := s6 _ _ (tu.2 j U (tv p) hU (by rw [List.getElem?_map, hp]; rfl))
      have mp := g.of p (List.mem_of_getElem? hp)
      refine ⟨rfl, _, rfl, _, rfl, m, U, ys, p, rfl, (s1.trans s6) _ _ hm, e1, mp.2.2, _, rfl, ?_⟩
      have nx : cutP ys (ps.take (j + 1)) = cutP ys (ps.take j) ++ (if p.1 ∈ ys ∧ p.2 ∈ ys then [p] else []) := by
        unfold cutP
        rw [take_next hp, List.filter_append]
        by_cases z : p.1 ∈ ys ∧ p.2 ∈ ys <;> simp [z]
      refine ite2 (fun hb => ?_) (fun hb => ?_)
      · have z := of_decide_eq_true hb
        have lu : Vs.length ≤ 36 := by
          rw [tv4.1, List.length_map]
          have h1 := List.length_filter_le (fun p : Pr => decide (p.1 ∈ ys ∧ p.2 ∈ ys)) (ps.take j)
          rw [List.length_take] at h1
          unfold cutP
          omega
        refine ⟨_, rfl, _, hr4, by rw [List.length_map, sizeLine_eq]; omega, Vs ++ [U], by rw [upd_same]; simp, same_over s6 hR, ?_⟩
        rw [nx, if_pos z, List.map_append]
        have t3 := tv4.upd (a := R) (o := .lst (Vs.map V.ref ++ [V.ref U])) fun x y e => by
          rw [hr4] at e
          cases e
        exact t3.snoc (p := tv p) (by rw [upd_ne (ne_of hr4 e1 (fun z => nomatch z)).symm]; exact e1)
      · have z : ¬ (p.1 ∈ ys ∧ p.2 ∈ ys) := fun z => hb (decide_eq_true z)
        refine ⟨Vs, hr4, s6, ?_⟩
        rw [nx, if_neg z, List.append_nil]
        exact tv4
    · rintro H4 ⟨Vs, hr4, s6, tv4⟩
      rw [List.length_map, lT, List.take_length] at tv4
      have s16 := s1.trans s6
      intro x dx' nx ndx nex
      have nx' : upd H4 dx' (.own x) x = none := by rw [upd_ne (Ne.symm nex)]; exact nx
      have s3 : Same H4 (upd (upd H4 dx' (.own x)) x (.ins C dx' [])) := same_updN (same_new ndx) nx'
      refine ⟨x, dx', m, R, ys, zs, cutP ys ps, cutP ys ps, rfl, upd_same, s3 _ _ (s16 _ _ hm), ⟨Vs, s3 _ _ hr4, tv4.same s3⟩, pm, List.Perm.refl _, gz, fun H5 sx ca => ⟨rfl, ?_⟩⟩
      have nH : H x = none := same_none s16 nx
      exact k H5 x (fun q o e => sx q o (ne_of_none e nH) ((s16.trans s3) _ _ e)) nH ca
end
end Wd
end
section
set_option maxRecDepth 100000
set_option maxHeartbeats 4000000
namespace Wd
open PySem L2
def oppP (xs : List Str) (ps : List Pr) : List Pr := (prsS xs).filter fun p => decide (p ∉ ps)
theorem Good.opp {xs : List Str} {ps : List Pr} (g : Good xs ps) : Good xs (oppP xs ps) := ⟨g.asc, g.word, g.few, List.filter_sublist⟩
def spOppC (C : Addr) : Sp := fun vs H Q _ => ∃ (c : Addr) (xs : List Str) (ps : List Pr), vs = [.ref c] ∧ CAt C H c xs ps ∧ Good xs ps ∧ ∀ (H' : Hp) (D : Addr), Same H H' → H D = none → CAt C H' D xs (oppP xs ps) → Q (.ref D) H'
def spCone (C : Addr) : Sp := fun vs H Q _ => ∃ (c : Addr) (x : Str) (xs zs : List Str) (ps qs : List Pr), vs = [.ref c, .str x] ∧ CAt C H c xs ps ∧ Good xs ps ∧ IsW x ∧ x ∉ xs ∧ (xs ++ [x]).Perm zs ∧ (ps ++ xs.map (mk x)).Perm qs ∧ Good zs qs ∧
  ∀ (H' : Hp) (D : Addr), Same H H' → H D = none → CAt C H' D zs qs → Q (.ref D) H'
def spSide (C : Addr) : Sp := fun vs H Q _ => ∃ (c d : Addr) (xs ys zs : List Str) (ps qs rs : List Pr), vs = [.ref c, .ref d] ∧ CAt C H c xs ps ∧ CAt C H d ys qs ∧ Good xs ps ∧ Good ys qs ∧ (∀ x ∈ xs, x ∉ ys) ∧ (xs ++ ys).Perm zs ∧ (ps ++ qs).Perm rs ∧ Good zs rs ∧
  ∀ (H' : Hp) (D : Addr), Same H H' → H D = none → CAt C H' D zs rs → Q (.ref D) H'
def spCut (C : Addr) : Sp := fun vs H Q _ => ∃ (c m : Addr) (xs ys zs : List Str) (ps : List Pr), vs = [.ref c, .ref m] ∧ CAt C H c xs ps ∧ Good xs ps ∧ H m = some (.lst (ys.map V.str)) ∧ (∀ y ∈ ys, y ∈ xs) ∧ ys.Perm zs ∧ Good zs (cutP ys ps) ∧
  ∀ (H' : Hp) (D : Addr), Same H H' → H D = none → CAt C H' D zs (cutP ys ps) → Q (.ref D) H'
theorem newS {H H' : Hp} {a : Addr} {o : HO} (s : Same H H') (h : H' a = none) : Same H (upd H' a o) ∧ upd H' a o a = some o := ⟨s.trans (same_new h), upd_same⟩
theorem Tups.app {H : Hp} {Ts Us : List Addr} {ps qs : List (V × V)} (a : Tups H Ts ps) (b : Tups H Us qs) : Tups H (Ts ++ Us) (ps ++ qs) := by
  refine ⟨by rw [List.length_append, List.length_append, a.1, b.1], fun k T p h1 h2 => ?_⟩
  by_cases lt : k < Ts.length
  · rw [List.getElem?_append_left lt] at h1
    rw [List.getElem?_append_left (by rw [← a.1]; exact lt)] at h2
    exact a.2 k T p h1 h2
  · rw [List.getElem?_append_right (by omega)] at h1
    rw [List.getElem?_append_right (by rw [← a.1]; omega), ← a.1] at h2
    exact b.2 _ T p h1 h2
theorem Good.nd {xs : List Str} {ps : List Pr} (g : Good xs ps) : xs.Nodup := g.asc.nd
section
variable {P : Program} {w : World} {K : PySem.W.Frag} {mg : Str → Option Value} {base : Heap}
theorem ok_opposite {f C : Addr} {fd : FuncData} (F : Fun K "opposite" "opposite" sp_opposite f fd) (TC : CT K mg C) (M : Maker P w K mg base C) (MP : HasM P w K mg base C 1 "people" (spPplM C)) (CC : Has P w K mg base 1 "check_company" ["company"] (spChk C)) (CS : Has P w K mg base 2 "strangers" ["company"] (spStr C)) :
    FnOk P w K mg base CX0 6 f fd ["company"] (spOppC C) := by
  obtain ⟨fP, fdP, GP, mP, bP⟩ := MP
  obtain ⟨fI, fdI, MI, GI, bI⟩ := M.ex
  obtain ⟨f1, d1, G1, m1, k1, b1⟩ := CC
  obtain ⟨f2, d2, G2, m2, k2, b2⟩ := CS
  refine F.ok cp_opposite (fun vs H Q E h => ?_) (fun cdv A outer s H vs Q E hr h => ?_)
  · obtain ⟨_, _, _, rfl, _⟩ := h
    rfl
  · obtain ⟨c, xs, ps, rfl, hc, g, k⟩ := h
    have hr1 : Room 1 _ := hr.mono (by decide)
    have hr2 : Room 2 _ := hr.mono (by decide)
    refine ⟨_, pss_cons (ps_expr (pe_call G1 hr1 rfl m1 k1 b1 .nil pass0 (pa_cons (pv 0) pa_nil)))
      (pss_one (ps_ret (pe_make MI GI hr rfl TC.mC bI .nil pass0 (pa_cons (pe_meth0 (pv 0) TC.is.cl mP GP hr1 bP .nil pass0) (pa_cons (pe_call G2 hr2 rfl m2 k2 b2 .nil pass0 (pa_cons (pv 0) pa_nil)) pa_nil))))), ?_⟩
    obtain ⟨dx, a, b, h1, h2, h3⟩ := id hc
    have l9 := g.few
    refine ⟨_, rfl, c, dx, _, rfl, h1, ?_⟩
    refine ⟨_, rfl, c, dx, _, rfl, h1, cF_no a b (by decide +kernel) (by decide +kernel), c, xs, ps, rfl, hc, by omega, fun L hL => ?_⟩
    have s1 : Same H (upd H L (.lst (xs.map V.str))) := same_new hL
    have hL1 : upd H L (.lst (xs.map V.str)) L = some (.lst (xs.map V.str)) := upd_same
    generalize upd H L (.lst (xs.map V.str)) = H1 at s1 hL1 ⊢
    refine ⟨_, rfl, c, xs, ps, rfl, hc.same s1, g, fun H2 N s2 nN ⟨Ts, hn, tu⟩ => ?_⟩
    intro x dx' nx ndx nex
    have s12 := s1.trans s2
    have nx' : upd H2 dx' (.own x) x = none := by rw [upd_ne (Ne.symm nex)]; exact nx
    have s3 : Same H2 (upd (upd H2 dx' (.own x)) x (.ins C dx' [])) := same_updN (same_new ndx) nx'
    refine ⟨x, dx', L, N, xs, xs, oppP xs ps, oppP xs ps, rfl, upd_same, s3 _ _ (s2 _ _ hL1), ⟨Ts, s3 _ _ hn, tu.same s3⟩, List.Perm.refl _, List.Perm.refl _, g.opp, fun H4 sx ca => ⟨rfl, ?_⟩⟩
    have nH : H x = none := same_none s12 nx
    exact k H4 x (fun q o e => sx q o (ne_of_none e nH) ((s12.trans s3) _ _ e)) nH ca
theorem ok_cut_to {f C : Addr} {fd : FuncData} (F : Fun K "cut_to" "cut_to" sp_cut_to f fd) (TC : CT K mg C) (MP : HasM P w K mg base C 1 "people" (spPplM C)) (CC : Has P w K mg base 1 "check_company" ["company"] (spChk C))
    (CP : Has P w K mg base 4 "are_people_of" ["people", "value"] spPplOf) (CK : Has P w K mg base 6 "kept_among" ["company", "people"] (spKept C)) : FnOk P w K mg base CX0 7 f fd ["company", "people"] (spCut C) := by
  obtain ⟨fM, dM, GM, mM, bM⟩ := MP
  obtain ⟨f1, d1, G1, m1, k1, b1⟩ := CC
  obtain ⟨f2, d2, G2, m2, k2, b2⟩ := CP
  obtain ⟨f3, d3, G3, m3, k3, b3⟩ := CK
  refine F.ok cp_cut_to (fun vs H Q E h => ?_) (fun cdv A outer s H vs Q E hr h => ?_)
  · obtain ⟨_, _, _, _, _, _, rfl, _⟩ := h
    rfl
  · obtain ⟨c, m, xs, ys, zs, ps, rfl, hc, g, hm, sub, pm, gz, k⟩ := h
    have hr1 : Room 1 _ := hr.mono (by decide)
    have hr4 : Room 4 _ := hr.mono (by decide)
    refine ⟨_, pss_cons (ps_expr (pe_call G1 hr1 rfl m1 k1 b1 .nil pass0 (pa_cons (pv 0) pa_nil)))
      (pss_cons (ps_if (pt_not (pt_val (pe_call G2 hr4 rfl m2 k2 b2 .nil pass0 (pa_cons (pe_meth0 (pv 0) TC.is.cl mM GM hr1 bM .nil pass0) (pa_cons (pv 1) pa_nil))))) (pss_one ps_never) pss_nil)
      (pss_one (ps_ret (pe_call G3 hr rfl m3 k3 b3 .nil pass0 (pa_cons (pv 0) (pa_cons (pv 1) pa_nil)))))), ?_⟩
    obtain ⟨dx, a, b, h1, h2, h3⟩ := id hc
    have l9 := g.few
    have z9 := gz.few
    have ly := pm.length_eq
    refine ⟨_, rfl, c, dx, _, rfl, h1, ?_⟩
    refine ⟨_, rfl, c, dx, _, rfl, h1, cF_no a b (by decide +kernel) (by decide +kernel), c, xs, ps, rfl, hc, by omega, fun L hL => ?_⟩
    have s1 := same_new (o := .lst (xs.map V.str)) hL
    refine ⟨_, rfl, L, m, xs, ys, rfl, upd_same, s1 _ _ hm, pm.nodup_iff.mpr gz.nd, fun y hy => ⟨g.word y (sub y hy), sub y hy⟩, by omega, by omega, fun H2 s2 => ⟨_, rfl, iteF ?_⟩⟩
    have s12 := s1.trans s2
    exact ⟨_, rfl, _, rfl, c, m, xs, ys, zs, ps, rfl, hc.same s12, g, s12 _ _ hm, pm, gz, fun H3 D s3 nD hD => k H3 D (s12.trans s3) (same_none s12 nD) hD⟩
theorem ok_cone {f C : Addr} {fd : FuncData} (F : Fun K "cone" "cone" sp_cone f fd) (TC : CT K mg C) (M : Maker P w K mg base C) (MP : HasM P w K mg base C 1 "people" (spPplM C)) (MF : HasM P w K mg base C 1 "friends" (spFrM C)) (CC : Has P w K mg base 1 "check_company" ["company"] (spChk C))
    (CP : Has P w K mg base 2 "is_person" ["value"] spIsWord) (CQ : Has P w K mg base 1 "pair_of" ["one", "other"] spPair) : FnOk P w K mg base CX0 6 f fd ["company", "person"] (spCone C) := by
  obtain ⟨fI, fdI, MI, GI, bI⟩ := M.ex
  obtain ⟨fM, dM, GM, mM, bM⟩ := MP
  obtain ⟨fF, dF, GF, mF, bF⟩ := MF
  obtain ⟨f1, d1, G1, m1, k1, b1⟩ := CC
  obtain ⟨f2, d2, G2, m2, k2, b2⟩ := CP
  obtain ⟨f3, d3, G3, m3, k3, b3⟩ := CQ
  refine F.ok cp_cone (fun vs H Q E h => ?_) (fun cdv A outer s H vs Q E hr h => ?_)
  · obtain ⟨_, _, _, _, _, _, rfl, _⟩ := h
    rfl
  · obtain ⟨c, x, xs, zs, ps, qs, rfl, hc, g, hx, nx, pz, pq, gz, k⟩ := h
    have hr1 : Room 1 _ := hr.mono (by decide)
    have hr2 : Room 2 _ := hr.mono (by decide)
    refine ⟨_, pss_cons (ps_expr (pe_call G1 hr1 rfl m1 k1 b1 .nil pass0 (pa_cons (pv 0) pa_nil)))
      (pss_cons (ps_set (i := 2) cp_cone.nd rfl (Or.inl rfl) (pe_meth0 (pv 0) TC.is.cl mM GM hr1 bM .nil pass0))
      (pss_cons (ps_if (PW.pt (pw_or (pt_not (pt_val (pe_call G2 hr2 rfl m2 k2 b2 .nil pass0 (pa_cons (pv 1) pa_nil)))) (pw_or1 (pt_cmpR op_in_seq (pv 1) (pv 2) rfl)))) (pss_one ps_never) pss_nil)
      (pss_one (ps_ret (pe_make MI GI hr rfl TC.mC bI .nil pass0 (pa_cons (pe_op op_cat (pv 2) (pe_lst (pa_cons (pv 1) pa_nil))) (pa_cons (pe_op op_cat (pe_meth0 (pv 0) TC.is.cl mF GF hr1 bF .nil pass0)
        (pe_lc (own := [("other", 3)]) (g := gName 3) (tt := tYes) rfl cp_cone.nd (pi_list (pv 2)) (blkOk_by (N := ["company", "person", "people", "other"]) (sc := defScope sp_cone) (by decide +kernel)) (fun _ _ _ _ _ => pg_name (i := 3) cp_cone.nd rfl (Or.inl rfl)) (fun _ _ _ _ _ => pts_nil)
          (fun _ _ _ _ _ => pe_call G3 hr1 rfl m3 k3 b3 .nil pass0 (pa_cons (pv 1) (pa_cons (pv 3) pa_nil))))) pa_nil))))))), ?_⟩
    obtain ⟨dx, a, b, h1, h2, h3⟩ := id hc
    have l9 := g.few
    have few := g.len
    refine ⟨_, rfl, c, dx, _, rfl, h1, ?_⟩
    refine ⟨_, rfl, c, dx, _, rfl, h1, cF_no a b (by decide +kernel) (by decide +kernel), c, xs, ps, rfl, hc, by omega, fun L hL => ?_⟩
    have s1 := same_new (o := .lst (xs.map V.str)) hL
    have hL1 : upd H L (.lst (xs.map V.str)) L = some (.lst (xs.map V.str)) := upd_same
    generalize upd H L (.lst (xs.map V.str)) = H1 at s1 hL1 ⊢
    refine ⟨_, rfl, x, rfl, hx, fun H2 s2 => ⟨_, rfl, iteF ?_⟩⟩
    refine ⟨_, rfl, _, rfl, L, _, rfl, .inl (SqL.of (s2 _ _ hL1)), rfl, flat_strs' xs, ?_⟩
    show ∃ k, V.bl (inV (.str x) (xs.map V.str)) = V.bl k ∧ _
    rw [in_strs, decide_eq_false nx]
    refine ⟨_, rfl, iteF ?_⟩
    have hL2 := s2 _ _ hL1
    have s12 := s1.trans s2
    refine ⟨_, rfl, _, rfl, by show 1 ≤ sizeLine; decide, fun A0 hA => ?_⟩
    have e3 := same_new (o := .lst [.str x]) hA
    refine ⟨L, A0, _, _, rfl, rfl, e3 _ _ hL2, upd_same, by rw [List.length_map, sizeLine_eq]; show xs.length + 1 ≤ _; omega, fun B hB => ?_⟩
    obtain ⟨e4, hB4⟩ := newS (o := .lst (xs.map V.str ++ [.str x])) e3 hB
    generalize upd (upd H2 A0 (.lst [.str x])) B (.lst (xs.map V.str ++ [.str x])) = H4 at e4 hB4 ⊢
    have s14 := s12.trans e4
    refine ⟨_, rfl, c, dx, _, rfl, s14 _ _ h1, cF_no a b (by decide +kernel) (by decide +kernel), c, xs, ps, rfl, hc.same s14, by omega, fun M0 H5 nM s5 ⟨Ts, hM, tu⟩ => ?_⟩
    have lT : Ts.length = ps.length := by rw [tu.1, List.length_map]
    have hL5 := (e4.trans s5) _ _ hL2
    refine ⟨_, rfl, L, rfl, ⟨_, SqL.of hL5⟩, fun R hR => ?_⟩
    refine lc_list (xs := xs.map V.str) (fun j H' => ∃ Vs : List Addr, H' R = some (.lst (Vs.map V.ref)) ∧ Same H5 H' ∧ Tups H' Vs (((xs.take j).map (mk x)).map tv))
      ⟨[], upd_same, same_new hR, Tups.nil⟩ (fun j H' _ ⟨_, _, s6, _⟩ => SqL.of (s6 _ _ hL5)) ?_ ?_
    · rintro j v H6 hv ⟨Vs, hr6, s6, tv6⟩
      rw [List.getElem?_map] at hv
      obtain ⟨y, hy, rfl⟩ := Option.map_eq_some_iff.mp hv
      have jl := (List.getElem?_eq_some_iff.mp hy).1
      refine ⟨rfl, _, rfl, _, rfl, x, y, rfl, fun T hT => ?_⟩
      have e7 := same_new (o := .tup [.str (mk x y).1, .str (mk x y).2]) hT
      have hT7 : upd H6 T (.tup [.str (mk x y).1, .str (mk x y).2]) T = some (.tup [.str (mk x y).1, .str (mk x y).2]) := upd_same
      generalize upd H6 T (.tup [.str (mk x y).1, .str (mk x y).2]) = H7 at e7 hT7 ⊢
      have lv : Vs.length = j := by rw [tv6.1, List.length_map, List.length_map, List.length_take]; omega
      have hr7 := e7 _ _ hr6
      refine ⟨_, hr7, by rw [List.length_map, sizeLine_eq]; omega, Vs ++ [T], by rw [upd_same]; simp, same_over (s6.trans e7) hR, ?_⟩
      rw [take_next hy, List.map_append, List.map_append]
      have t3 := (tv6.same e7).upd (a := R) (o := .lst (Vs.map V.ref ++ [V.ref T])) fun x y e => by
        rw [hr7] at e
        cases e
      exact t3.snoc (p := tv (mk x y)) (by rw [upd_ne (ne_of hr7 hT7 (fun z => nomatch z)).symm]; exact hT7)
    · rintro H6 ⟨Vs, hr6, s6, tv6⟩
      rw [List.length_map, List.take_length] at tv6
      have lv : Vs.length = xs.length := by rw [tv6.1, List.length_map, List.length_map]
      refine ⟨M0, R, _, _, rfl, rfl, s6 _ _ hM, hr6, by rw [List.length_map, List.length_map, sizeLine_eq]; omega, fun N hN => ?_⟩
      obtain ⟨e7, hN7⟩ := newS (o := .lst (Ts.map V.ref ++ Vs.map V.ref)) s6 hN
      have e67 := same_new (o := .lst (Ts.map V.ref ++ Vs.map V.ref)) hN
      generalize upd H6 N (.lst (Ts.map V.ref ++ Vs.map V.ref)) = H7 at e7 hN7 e67 ⊢
      have s17 := (s14.trans s5).trans e7
      intro i dx' ni ndx nei
      have ni' : upd H7 dx' (.own i) i = none := by rw [upd_ne (Ne.symm nei)]; exact ni
      have s8 : Same H7 (upd (upd H7 dx' (.own i)) i (.ins C dx' [])) := same_updN (same_new ndx) ni'
      refine ⟨i, dx', B, N, xs ++ [x], zs, ps ++ xs.map (mk x), qs, rfl, upd_same, s8 _ _ ((s5.trans e7) _ _ (by rw [List.map_append]; exact hB4)), ⟨Ts ++ Vs, s8 _ _ (by rw [List.map_append]; exact hN7), ?_⟩, pz, pq, gz, fun H9 sx ca => ⟨rfl, ?_⟩⟩
      · rw [List.map_append]
        exact (tu.same (e7.trans s8)).app (tv6.same (e67.trans s8))
      · have nH : H i = none := same_none s17 ni
        exact k H9 i (fun q o e => sx q o (ne_of_none e nH) ((s17.trans s8) _ _ e)) nH ca
end
end Wd
end
section
set_option maxRecDepth 100000
set_option maxHeartbeats 4000000
namespace Wd
open PySem L2
section
variable {P : Program} {w : World} {K : PySem.W.Frag} {mg : Str → Option Value} {base : Heap}
theorem ok_side {f C : Addr} {fd : FuncData} (F : Fun K "side_by_side" "side_by_side" sp_side_by_side f fd) (TC : CT K mg C) (M : Maker P w K mg base C) (MP : HasM P w K mg base C 1 "people" (spPplM C)) (MF : HasM P w K mg base C 1 "friends" (spFrM C)) (CC : Has P w K mg base 1 "check_company" ["company"] (spChk C)) :
    FnOk P w K mg base CX0 6 f fd ["one", "other"] (spSide C) := by
  obtain ⟨fI, fdI, MI, GI, bI⟩ := M.ex
  obtain ⟨fM, dM, GM, mM, bM⟩ := MP
  obtain ⟨fF, dF, GF, mF, bF⟩ := MF
  obtain ⟨f1, d1, G1, m1, k1, b1⟩ := CC
  refine F.ok cp_side_by_side (fun vs H Q E h => ?_) (fun cdv A outer s H vs Q E hr h => ?_)
  · obtain ⟨_, _, _, _, _, _, _, _, rfl, _⟩ := h
    rfl
  · obtain ⟨c, d, xs, ys, zs, ps, qs, rs, rfl, hc, hd, g, g', dis, pz, pr, gz, k⟩ := h
    have hr1 : Room 1 _ := hr.mono (by decide)
    refine ⟨_, pss_cons (ps_expr (pe_call G1 hr1 rfl m1 k1 b1 .nil pass0 (pa_cons (pv 0) pa_nil)))
      (pss_cons (ps_expr (pe_call G1 hr1 rfl m1 k1 b1 .nil pass0 (pa_cons (pv 1) pa_nil)))
      (pss_cons (ps_set (i := 2) cp_side_by_side.nd rfl (Or.inl rfl) (pe_meth0 (pv 1) TC.is.cl mM GM hr1 bM .nil pass0))
      (pss_cons (ps_for PassesOwn.never rfl (pi_list (pe_meth0 (pv 0) TC.is.cl mM GM hr1 bM .nil pass0)) (pg_name (i := 3) cp_side_by_side.nd rfl (Or.inl rfl)) (pss_one (ps_if (pt_cmpR op_in_seq (pv 3) (pv 2) rfl) (pss_one ps_never) pss_nil)))
      (pss_one (ps_ret (pe_make MI GI hr rfl TC.mC bI .nil pass0 (pa_cons (pe_op op_cat (pe_meth0 (pv 0) TC.is.cl mM GM hr1 bM .nil pass0) (pv 2)) (pa_cons (pe_op op_cat (pe_meth0 (pv 0) TC.is.cl mF GF hr1 bF .nil pass0) (pe_meth0 (pv 1) TC.is.cl mF GF hr1 bF .nil pass0)) pa_nil)))))))), ?_⟩
    obtain ⟨dx, a, b, h1, h2, h3⟩ := id hc
    obtain ⟨dy, a', b', g1, g2, g3⟩ := id hd
    have l9 := g.few
    have few := g.len
    have l9' := g'.few
    have few' := g'.len
    refine ⟨_, rfl, c, dx, _, rfl, h1, ?_⟩
    refine ⟨_, rfl, d, dy, _, rfl, g1, ?_⟩
    refine ⟨_, rfl, d, dy, _, rfl, g1, cF_no a' b' (by decide +kernel) (by decide +kernel), d, ys, qs, rfl, hd, by omega, fun L hL => ?_⟩
    have s1 := same_new (o := .lst (ys.map V.str)) hL
    have hL1 : upd H L (.lst (ys.map V.str)) L = some (.lst (ys.map V.str)) := upd_same
    generalize upd H L (.lst (ys.map V.str)) = H1 at s1 hL1 ⊢
    refine ⟨_, rfl, c, dx, _, rfl, s1 _ _ h1, cF_no a b (by decide +kernel) (by decide +kernel), c, xs, ps, rfl, hc.same s1, by omega, fun L2 hL2 => ?_⟩
    obtain ⟨s2, hL22⟩ := newS (o := .lst (xs.map V.str)) s1 hL2
    have e2 := same_new (o := .lst (xs.map V.str)) hL2
    generalize upd H1 L2 (.lst (xs.map V.str)) = H2 at s2 hL22 e2 ⊢
    refine ⟨L2, rfl, ⟨_, SqL.of hL22⟩, ?_⟩
    refine for_list (xs := xs.map V.str) (fun i σ H' => ∃ v3 : Option V, σ = [some (.ref c), some (.ref d), some (.ref L), v3] ∧ H2 = H') ⟨none, rfl, rfl⟩ (fun i σ H' _ ⟨_, _, z⟩ => by rw [← z]; exact SqL.of hL22) ?_ ?_
    · rintro i v σ _ hv ⟨v3, rfl, rfl⟩
      rw [List.getElem?_map] at hv
      obtain ⟨x, hx, rfl⟩ := Option.map_eq_some_iff.mp hv
      refine ⟨_, rfl, _, rfl, L, _, rfl, .inl (SqL.of (e2 _ _ hL1)), rfl, flat_strs' ys, ?_⟩
      show ∃ k, V.bl (inV (.str x) (ys.map V.str)) = V.bl k ∧ _
      rw [in_strs, decide_eq_false (dis x (List.mem_of_getElem? hx))]
      exact ⟨_, rfl, iteF ⟨_, rfl, rfl⟩⟩
    · rintro σ _ ⟨v3, rfl, rfl⟩
      refine ⟨_, rfl, c, dx, _, rfl, s2 _ _ h1, cF_no a b (by decide +kernel) (by decide +kernel), c, xs, ps, rfl, hc.same s2, by omega, fun A0 hA => ?_⟩
      obtain ⟨s3, hA3⟩ := newS (o := .lst (xs.map V.str)) s2 hA
      have e3 := same_new (o := .lst (xs.map V.str)) hA
      generalize upd H2 A0 (.lst (xs.map V.str)) = H3 at s3 hA3 e3 ⊢
      refine ⟨_, rfl, A0, L, _, _, rfl, rfl, hA3, (e2.trans e3) _ _ hL1, by rw [List.length_map, List.length_map, sizeLine_eq]; omega, fun B hB => ?_⟩
      obtain ⟨s4, hB4⟩ := newS (o := .lst (xs.map V.str ++ ys.map V.str)) s3 hB
      generalize upd H3 B (.lst (xs.map V.str ++ ys.map V.str)) = H4 at s4 hB4 ⊢
      refine ⟨_, rfl, c, dx, _, rfl, s4 _ _ h1, cF_no a b (by decide +kernel) (by decide +kernel), c, xs, ps, rfl, hc.same s4, by omega, fun M1 H5 nM1 s5 ⟨Ts, hM1, tu⟩ => ?_⟩
      have s45 := s4.trans s5
      refine ⟨_, rfl, d, dy, _, rfl, s45 _ _ g1, cF_no a' b' (by decide +kernel) (by decide +kernel), d, ys, qs, rfl, hd.same s45, by omega, fun M2 H6 nM2 s6 ⟨Us, hM2, uu⟩ => ?_⟩
      have lT : Ts.length = ps.length := by rw [tu.1, List.length_map]
      have lU : Us.length = qs.length := by rw [uu.1, List.length_map]
      refine ⟨M1, M2, _, _, rfl, rfl, s6 _ _ hM1, hM2, by rw [List.length_map, List.length_map, sizeLine_eq]; omega, fun N hN => ?_⟩
      obtain ⟨e7, hN7⟩ := newS (o := .lst (Ts.map V.ref ++ Us.map V.ref)) s6 hN
      have e67 := same_new (o := .lst (Ts.map V.ref ++ Us.map V.ref)) hN
      generalize upd H6 N (.lst (Ts.map V.ref ++ Us.map V.ref)) = H7 at e7 hN7 e67 ⊢
      have s17 := s45.trans e7
      intro i dx' ni ndx nei
      have ni' : upd H7 dx' (.own i) i = none := by rw [upd_ne (Ne.symm nei)]; exact ni
      have s8 : Same H7 (upd (upd H7 dx' (.own i)) i (.ins C dx' [])) := same_updN (same_new ndx) ni'
      refine ⟨i, dx', B, N, xs ++ ys, zs, ps ++ qs, rs, rfl, upd_same, s8 _ _ ((s5.trans e7) _ _ (by rw [List.map_append]; exact hB4)), ⟨Ts ++ Us, s8 _ _ (by rw [List.map_append]; exact hN7), ?_⟩, pz, pr, gz, fun H9 sx ca => ⟨rfl, ?_⟩⟩
      · rw [List.map_append]
        exact (tu.same (e7.trans s8)).append (uu.same (e67.trans s8))
      · have nH : H i = none := same_none s17 ni
        exact k H9 i (fun q o e => sx q o (ne_of_none e nH) ((s17.trans s8) _ _ e)) nH ca
end
end Wd
end
section
set_option maxRecDepth 100000
set_option maxHeartbeats 4000000
namespace KxV
open PySem PySem.Spec PyProof.Rows L2
theorem vals_at : ∀ {us : List Value} {kvs : List (Key × V)} {vs : List (Key × Value)}, KV kvs vs → us.length = vs.length → (∀ (j : Nat) (v : Value), us[j]? = some v → ∃ k : Key, vs[j]? = some (k, v)) → Vals (kvs.map fun kv => kv.2) us
  | us, _, _, .nil, hl, _ => by
    cases us with
    | nil => exact .nil
    | cons a b => cases hl
  | us, _, _, .cons (a := p) (b := q) hpq t, hl, h => by
    cases us with
    | nil => cases hl
    | cons u us =>
      obtain ⟨k, e⟩ := h 0 u rfl
      have e : q = (k, u) := Option.some.inj e
      rw [List.map_cons]
      refine .cons ?_ (vals_at t (by simpa using hl) fun j v e => ?_)
      · have := hpq.2
        rw [e] at this
        exact this
      · obtain ⟨k, a⟩ := h (j + 1) v (by simpa using e)
        exact ⟨k, by simpa using a⟩
def tListVals (te : TE) : TE := fun σ H Q => te σ H fun x H1 => ∃ (d : Addr) (kvs : List (Key × V)), x = .ref d ∧ H1 d = some (.dK kvs) ∧ ∀ p, H1 p = none → Q (.ref p) (upd H1 p (.lst (kvs.map fun kv => kv.2)))
section
variable {X : Cx} {e : Expr} {te : TE} {p apos cpos pos : Pos}
/-- list(e.values()) -/
theorem pe_listVals (hc : X.calm = true) (he : PE X e te) (hg : Gl X "list") (hm : X.mg "list" = none) (hv : bootBuiltins "list" = some (.type "list")) (hbase : attributeBase e "values" X.env (eval e X.env) = eval e X.env := by rfl) (hline : (apos.endLine == cpos.line) = true := by rfl)
    (hs : starEach [.Call (.Attribute e "values" apos) [] [] cpos] X.env = (false, eval (.Call (.Attribute e "values" apos) [] [] cpos) X.env) :: starEach [] X.env := by rfl) :
    PE X (.Call (.Name "list" p) [.Call (.Attribute e "values" apos) [] [] cpos] [] pos) (tListVals te) := by
  refine ⟨fun pins s σ H Q I hq => ?_⟩
  refine wpAny_Call_Name_kw (ld_blt I hg hm hv ?_)
  refine PyProof.Rows.callWith_type1 ?_ hs rfl
  rw [hs]
  show wpAny _ _ (spliced ((false, eval (.Call (.Attribute e "values" apos) [] [] cpos) X.env) :: backTo pos (starEach [] X.env))) _ _ s
  refine Calls.spliced_cons ?_
  refine wpAny_Call_method (T := "dict") (id := "dict.values") hbase rfl hline F.plainAttrs_dict F.slot_dict_values F.type_dict_values (thn (he.run pins s σ H _ I hq) fun u s1 ⟨x, H1, I1, rx, d, kvs, ex, hd, q⟩ => ?_)
  subst ex
  obtain rfl : u = Value.ref d := rx
  obtain ⟨hz, hs0, vs, kv, hdo⟩ := I1.hok d _ hd
  obtain ⟨ep, hat⟩ := hdo.dictAt
  have lk : kvs.length = vs.length := Paired.length kv
  have I2 : Inv X pins σ H1 { s1 with heap := s1.heap.push { cls := .type "dict_values", data := .fields #[.ref d] } } := I1.kept (t' := s1.toks) fun b ob q => Heap.get?_push_of_some _ q
  refine ⟨hdo.typeIs, hdo.mapOf.noDict, ?_⟩
  show wpAny _ _ (callWith cpos (.builtin "dict.values") [.ref d] [] []) _ X.xe s1
  refine method_meetsIn F.slot_dict_values F.entry_dict_values rfl (PySem.evalArgs_none ⟨rfl, hdo.typeIs, F.args_dict_values_1 _, _, meets_dict_values (mixKind X.prog X.w) d hs0, ⟨vs, hdo⟩, ?_⟩)
  refine Calls.spliced_nil ?_
  refine PySem.W.kdl_call (PySem.W.kdl_values (knd := mixKind X.prog X.w) (kvs := vs) (ep := ep)) (I1.ok.hd hc) ⟨⟨_, Heap.get?_push_size _ rfl, rfl, rfl⟩, hat.push _⟩ (by omega) fun h' tk acc c' hk hD hacc => ?_
  have hvl : Vals (kvs.map fun kv => kv.2) acc.toList := vals_at kv (by rw [Array.length_toList]; exact hacc.1) fun j v e => hacc.2 j v (by rw [← Array.getElem?_toList]; exact e)
  refine ⟨.ref _, upd H1 _ (.lst (kvs.map fun kv => kv.2)), I2.laid (t' := tk) hk (Nat.le_refl _)
    (show ObjOk X.prog X.w _ _ _ (.lst (kvs.map fun kv => kv.2)) from ⟨by rw [List.length_map]; exact hz, acc.toList, c', hvl, by rw [Array.toArray_toList]; exact hD⟩), rfl, q _ (I2.hok.fresh (Nat.le_refl _))⟩
end
end KxV
end
section
set_option maxRecDepth 100000
set_option maxHeartbeats 4000000
namespace Wd
open PySem L2
/-- names: what the people ks are called -/
def NmAt (H : Hp) (d : Addr) (ks : List Str) (nm : Str → Str) : Prop := H d = some (.dK (dkv ks ((ks.map nm).map V.str)))
def renP (nm : Str → Str) (ps : List Pr) : List Pr := ps.map fun p => mk (nm p.1) (nm p.2)
def spAreNm : Sp := fun vs H Q _ => ∃ (l d : Addr) (xs ks : List Str) (nm : Str → Str), vs = [.ref l, .ref d] ∧ H l = some (.lst (xs.map V.str)) ∧ NmAt H d ks nm ∧ ks.Perm xs ∧ ks.Nodup ∧ (ks.map nm).Nodup ∧ (∀ k ∈ ks, IsW (nm k)) ∧ 1 ≤ ks.length ∧ ks.length ≤ 100 ∧ ∀ H', Same H H' → Q (.bl true) H'
def spRen (C : Addr) : Sp := fun vs H Q _ => ∃ (c d : Addr) (xs ks zs : List Str) (nm : Str → Str) (ps qs : List Pr), vs = [.ref c, .ref d] ∧ CAt C H c xs ps ∧ Good xs ps ∧ NmAt H d ks nm ∧ ks.Perm xs ∧ (ks.map nm).Perm zs ∧ (renP nm ps).Perm qs ∧ Good zs qs ∧
  ∀ (H' : Hp) (D : Addr), Same H H' → H D = none → CAt C H' D zs qs → Q (.ref D) H'
theorem dkv_snd {ks : List Str} {vs : List V} (h : vs.length = ks.length) : (dkv ks vs).map (fun kv => kv.2) = vs := by
  unfold dkv
  rw [List.map_map]
  show (ks.zip vs).map Prod.snd = vs
  exact List.map_snd_zip (by omega)
theorem nm_get {H : Hp} {d : Addr} {ks : List Str} {nm : Str → Str} (h : NmAt H d ks nm) (nd : ks.Nodup) {x : Str} (hx : x ∈ ks) : DGet H d (.str x) (some (.str (nm x))) := by
  obtain ⟨i, hi, e⟩ := List.getElem_of_mem hx
  have e1 : ks[i]? = some x := by rw [List.getElem?_eq_getElem hi, e]
  have e2 : ((ks.map nm).map V.str)[i]? = some (.str (nm x)) := by rw [List.getElem?_map, List.getElem?_map, e1]; rfl
  exact .inl ⟨_, Sum.inr x, .inl h, rfl, (dkv_get nd e1 e2).symm⟩
section
variable {P : Program} {w : World} {K : PySem.W.Frag} {mg : Str → Option Value} {base : Heap}
theorem ok_are_names {f : Addr} {fd : FuncData} (F : Fun K "are_names" "are_names" sp_are_names f fd) (T : Bt mg) (CA : Has P w K mg base 3 "are_people" ["value"] spArePpl) : FnOk P w K mg base CX0 4 f fd ["people", "value"] spAreNm := by
  obtain ⟨fA, dA, GA, mA, kA, bA⟩ := CA
  refine F.ok cp_are_names (fun vs H Q E h => ?_) (fun cdv A outer s H vs Q E hr h => ?_)
  · obtain ⟨_, _, _, _, _, rfl, _⟩ := h
    rfl
  · obtain ⟨l, d, xs, ks, nm, rfl, hl, hd, pk, ndk, ndn, hw, k1, k100, k⟩ := h
    have hu := hu_of hr
    refine ⟨_, pss_cons (ps_if (PW.pt (pw_or (pt_not (pt_val (pe_callB call_isi (by rfl) T.isi (by decide +kernel) (pa_cons (pv 1) (pa_cons (pe_bltn (v := .ty "dict") (by rfl) T.dict (by decide +kernel) rfl) pa_nil)))))
        (pw_or1 (pt_cmpR op_ne (pe_callB call_lenD (by rfl) T.len PySem.boot_len (pa_cons (pv 1) pa_nil)) (pe_callB call_len_seq (by rfl) T.len PySem.boot_len (pa_cons (pv 0) pa_nil)) (nomark _))))) (pss_one (ps_ret pe_bl)) pss_nil)
      (pss_cons (ps_if (pt_not (pt_val (pe_callB (cr_all rfl) (by rfl) T.all (by decide +kernel) (pa_cons (pe_lc (own := [("person", 2)]) (g := gName 2) (tt := tYes) rfl cp_are_names.nd (pi_list (pv 0))
        (blkOk_by (N := ["people", "value", "person"]) (sc := defScope sp_are_names) (by decide +kernel)) (fun _ _ _ _ _ => pg_name (i := 2) cp_are_names.nd rfl (Or.inl rfl)) (fun _ _ _ _ _ => pts_nil) (fun _ _ _ _ _ => pe_cmp (pc_din hu (pv 2) (pv 1)))) pa_nil)))) (pss_one (ps_ret pe_bl)) pss_nil)
      (pss_one (ps_ret (pe_call GA hr rfl mA kA bA .nil pass0 (pa_cons (KxV.pe_listVals rfl (pv 1) (by rfl) T.list (by decide +kernel)) pa_nil))))), ?_⟩
    have lk : ((ks.map nm).map V.str).length = ks.length := by rw [List.length_map, List.length_map]
    refine ⟨_, rfl, _, _, _, _, _, rfl, .ty "dict", .base (.dK hd), kit_ty (a := "dict") (r := true) (by decide +kernel), _, rfl, iteF ?_⟩
    refine ⟨_, rfl, d, _, rfl, hd, _, rfl, l, _, rfl, .inl (SqL.of hl), rfl, _, rfl, ite_f ?_ ?_⟩
    · rw [dkv_len lk, List.length_map, pk.length_eq]
      show (!decide (_ = _)) = false
      rw [decide_eq_true rfl]
      rfl
    refine ⟨_, rfl, l, rfl, ⟨_, SqL.of hl⟩, fun R hR => ?_⟩
    refine lc_it (walk_list (K := K) (a := l) (xs := xs.map V.str)) (fun i H' => Same H H' ∧ H' R = some (.lst (trues i))) ⟨same_new hR, upd_same⟩ (fun i H' _ z => SqL.of (z.1 _ _ hl)) ?_ ?_
    · rintro i v _ H2 hi ⟨s2, hr2⟩ ⟨rfl, hv⟩
      rw [List.getElem?_map] at hv
      obtain ⟨x, hx, rfl⟩ := Option.map_eq_some_iff.mp hv
      have i100 := (List.getElem?_eq_some_iff.mp hx).1
      have lx := pk.length_eq
      refine ⟨rfl, _, rfl, _, rfl, d, some _, rfl, nm_get (H := H2) (s2 _ _ hd) ndk (pk.mem_iff.mpr (List.mem_of_getElem? hx)), ?_⟩
      refine ⟨_, hr2, by rw [trues_len, sizeLine_eq]; omega, same_over s2 hR, ?_⟩
      rw [upd_same]
      show some (HO.lst (trues i ++ [V.bl true])) = _
      rw [trues_next]
    · rintro H2 ⟨s2, hr2⟩
      refine ⟨R, _, rfl, SqL.of hr2, ?_⟩
      rw [trues_all]
      refine ⟨_, rfl, iteF ?_⟩
      refine ⟨_, rfl, d, _, rfl, s2 _ _ hd, fun N hN => ?_⟩
      rw [dkv_snd lk]
      have s3 := same_new (o := .lst ((ks.map nm).map V.str)) hN
      exact ⟨N, ks.map nm, rfl, upd_same, ndn, fun x hx => by
        obtain ⟨y, hy, rfl⟩ := List.mem_map.mp hx
        exact hw y hy, by rw [List.length_map]; exact k1, by rw [List.length_map]; exact k100, fun H4 s4 => k H4 ((s2.trans s3).trans s4)⟩
theorem ok_renamed {f C : Addr} {fd : FuncData} (F : Fun K "renamed" "renamed" sp_renamed f fd) (T : Bt mg) (TC : CT K mg C) (M : Maker P w K mg base C) (MP : HasM P w K mg base C 1 "people" (spPplM C)) (MF : HasM P w K mg base C 1 "friends" (spFrM C)) (CC : Has P w K mg base 1 "check_company" ["company"] (spChk C))
    (CN : Has P w K mg base 4 "are_names" ["people", "value"] spAreNm) (CQ : Has P w K mg base 1 "pair_of" ["one", "other"] spPair) : FnOk P w K mg base CX0 6 f fd ["company", "names"] (spRen C) := by
  obtain ⟨fI, fdI, MI, GI, bI⟩ := M.ex
  obtain ⟨fM, dM, GM, mM, bM⟩ := MP
  obtain ⟨fF, dF, GF, mF, bF⟩ := MF
  obtain ⟨f1, d1, G1, m1, k1, b1⟩ := CC
  obtain ⟨f2, d2, G2, m2, k2, b2⟩ := CN
  obtain ⟨f3, d3, G3, m3, k3, b3⟩ := CQ
  refine F.ok cp_renamed (fun vs H Q E h => ?_) (fun cdv A outer s H vs Q E hr h => ?_)
  · obtain ⟨_, _, _, _, _, _, _, _, rfl, _⟩ := h
    rfl
  · obtain ⟨c, d, xs, ks, zs, nm, ps, qs, rfl, hc, g, hd, pk, pz, pq, gz, k⟩ := h
    have hr1 : Room 1 _ := hr.mono (by decide)
    have hr4 : Room 4 _ := hr.mono (by decide)
    have hu := hu_of hr
    refine ⟨_, pss_cons (ps_expr (pe_call G1 hr1 rfl m1 k1 b1 .nil pass0 (pa_cons (pv 0) pa_nil)))
      (pss_cons (ps_if (pt_not (pt_val (pe_call G2 hr4 rfl m2 k2 b2 .nil pass0 (pa_cons (pe_meth0 (pv 0) TC.is.cl mM GM hr1 bM .nil pass0) (pa_cons (pv 1) pa_nil))))) (pss_one ps_never) pss_nil)
      (pss_cons (ps_setLc (i := 4) (own := [("one", 2), ("other", 3)]) (g := gTup K 2 (gCons (gName 2) (gCons (gName 3) gNil))) (tt := tYes) rfl cp_renamed.nd rfl rfl (sw_true rfl rfl rfl (by decide +kernel)) (pi_list (pe_meth0 (pv 0) TC.is.cl mF GF hr1 bF .nil pass0))
        (blkOk_by (N := ["company", "names", "one", "other", "friends"]) (sc := defScope sp_renamed) (by decide +kernel)) (fun _ _ _ _ _ => pg_tup rfl (pgs_cons (pg_name (i := 2) cp_renamed.nd rfl (Or.inl rfl)) (pgs_cons (pg_name (i := 3) cp_renamed.nd rfl (Or.inl rfl)) pgs_nil))) (fun _ _ _ _ _ => pts_nil)
        (fun _ _ _ _ _ => pe_call G3 hr1 rfl m3 k3 b3 .nil pass0 (pa_cons (pe_dget hu (pv 1) (pv 2) (fun _ _ => rfl)) (pa_cons (pe_dget hu (pv 1) (pv 3) (fun _ _ => rfl)) pa_nil))))
      (pss_one (ps_ret (pe_make MI GI hr rfl TC.mC bI .nil pass0 (pa_cons (KxV.pe_listVals rfl (pv 1) (by rfl) T.list (by decide +kernel)) (pa_cons (pv 4) pa_nil))))))), ?_⟩
    obtain ⟨dx, a, b, h1, h2, h3⟩ := id hc
    have l9 := g.few
    have few := g.len
    have z9 := gz.few
    have lz := pz.length_eq
    rw [List.length_map] at lz
    have ndk : ks.Nodup := pk.nodup_iff.mpr g.nd
    have lk : ((ks.map nm).map V.str).length = ks.length := by rw [List.length_map, List.length_map]
    refine ⟨_, rfl, c, dx, _, rfl, h1, ?_⟩
    refine ⟨_, rfl, c, dx, _, rfl, h1, cF_no a b (by decide +kernel) (by decide +kernel), c, xs, ps, rfl, hc, by omega, fun L hL => ?_⟩
    have s1 := same_new (o := .lst (xs.map V.str)) hL
    have hL1 : upd H L (.lst (xs.map V.str)) L = some (.lst (xs.map V.str)) := upd_same
    generalize upd H L (.lst (xs.map V.str)) = H1 at s1 hL1 ⊢
    refine ⟨_, rfl, L, d, xs, ks, nm, rfl, hL1, s1 _ _ hd, pk, ndk, pz.nodup_iff.mpr gz.nd, fun x hx => gz.word _ (pz.mem_iff.mp (List.mem_map.mpr ⟨x, hx, rfl⟩)), by omega, by omega, fun H2 s2 => ⟨_, rfl, iteF ?_⟩⟩
    have s12 := s1.trans s2
    refine ⟨_, rfl, c, dx, _, rfl, s12 _ _ h1, cF_no a b (by decide +kernel) (by decide +kernel), c, xs, ps, rfl, hc.same s12, by omega, fun M0 H3 nM s3 ⟨Ts, hM, tu⟩ => ?_⟩
    have s13 := s12.trans s3
    have lT : Ts.length = ps.length := by rw [tu.1, List.length_map]
    refine ⟨M0, rfl, ⟨_, SqL.of hM⟩, fun R hR => ?_⟩
    refine lc_list (xs := Ts.map V.ref) (fun j H' => ∃ Vs : List Addr, H' R = some (.lst (Vs.map V.ref)) ∧ Same H3 H' ∧ Tups H' Vs ((renP nm (ps.take j)).map tv))
      ⟨[], upd_same, same_new hR, Tups.nil⟩ (fun j H' _ ⟨_, _, s6, _⟩ => SqL.of (s6 _ _ hM)) ?_ ?_
    · rintro j v H6 hv ⟨Vs, hr6, s6, tv6⟩
      rw [List.getElem?_map] at hv
      obtain ⟨U, hU, rfl⟩ := Option.map_eq_some_iff.mp hv
      have jl := (List.getElem?_eq_some_iff.mp hU).1
      obtain ⟨p, hp⟩ : ∃ p, ps[j]? = some p := ⟨_, List.getElem?_eq_getElem (by omega)⟩
      have e1 := s6 _ _ (tu.2 j U (tv p) hU (by rw [List.getElem?_map, hp]; rfl))
      have mp := g.of p (List.mem_of_getElem? hp)
      have hd6 : NmAt H6 d ks nm := (s13.trans s6) _ _ hd
      have m1' := pk.mem_iff.mpr mp.1
      have m2' := pk.mem_iff.mpr mp.2.1
      refine ⟨U, _, rfl, SqT.of e1, rfl, _, _, rfl, _, _, rfl, rfl, rfl, ?_⟩
      refine ⟨_, rfl, _, rfl, d, _, rfl, nm_get hd6 ndk m1', _, rfl, _, rfl, d, _, rfl, nm_get hd6 ndk m2', nm p.1, nm p.2, rfl, fun T hT => ?_⟩
      have e7 := same_new (o := .tup [.str (mk (nm p.1) (nm p.2)).1, .str (mk (nm p.1) (nm p.2)).2]) hT
      have hT7 : upd H6 T (.tup [.str (mk (nm p.1) (nm p.2)).1, .str (mk (nm p.1) (nm p.2)).2]) T = some (.tup [.str (mk (nm p.1) (nm p.2)).1, .str (mk (nm p.1) (nm p.2)).2]) := upd_same
      generalize upd H6 T (.tup [.str (mk (nm p.1) (nm p.2)).1, .str (mk (nm p.1) (nm p.2)).2]) = H7 at e7 hT7 ⊢
      have lv : Vs.length = j := by rw [tv6.1, List.length_map, renP, List.length_map, List.length_take]; omega
      have hr7 := e7 _ _ hr6
      refine ⟨_, hr7, by rw [List.length_map, sizeLine_eq]; omega, Vs ++ [T], by rw [upd_same]; simp, same_over (s6.trans e7) hR, ?_⟩
      rw [take_next hp, renP, List.map_append, List.map_append]
      have t3 := (tv6.same e7).upd (a := R) (o := .lst (Vs.map V.ref ++ [V.ref T])) fun x y e => by
        rw [hr7] at e
        cases e
      exact t3.snoc (p := tv (mk (nm p.1) (nm p.2))) (by rw [upd_ne (ne_of hr7 hT7 (fun z => nomatch z)).symm]; exact hT7)
    · rintro H6 ⟨Vs, hr6, s6, tv6⟩
      rw [List.length_map, lT, List.take_length] at tv6
      have s16 := s13.trans s6
      refine ⟨_, rfl, d, _, rfl, s16 _ _ hd, fun N hN => ?_⟩
      rw [dkv_snd lk]
      obtain ⟨e7, hN7⟩ := newS (o := .lst ((ks.map nm).map V.str)) s16 hN
      have e67 := same_new (o := .lst ((ks.map nm).map V.str)) hN
      generalize upd H6 N (.lst ((ks.map nm).map V.str)) = H7 at e7 hN7 e67 ⊢
      refine ⟨_, rfl, ?_⟩
      intro i dx' ni ndx nei
      have ni' : upd H7 dx' (.own i) i = none := by rw [upd_ne (Ne.symm nei)]; exact ni
      have s8 : Same H7 (upd (upd H7 dx' (.own i)) i (.ins C dx' [])) := same_updN (same_new ndx) ni'
      refine ⟨i, dx', N, R, ks.map nm, zs, renP nm ps, qs, rfl, upd_same, s8 _ _ hN7, ⟨Vs, (e67.trans s8) _ _ hr6, tv6.same (e67.trans s8)⟩, pz, pq, gz, fun H9 sx ca => ⟨rfl, ?_⟩⟩
      have nH : H i = none := same_none e7 ni
      exact k H9 i (fun q o e => sx q o (ne_of_none e nH) ((e7.trans s8) _ _ e)) nH ca
end
end Wd
end
section
set_option maxRecDepth 100000
set_option maxHeartbeats 4000000
namespace Wd
open PySem L2
theorem rd_nil {σ : St} {H : Hp} {Q : List V → Hp → Prop} (h : Q [] H) : tNil σ H Q := h
theorem sort_strs {K : PySem.W.Frag} {H : Hp} {a : Addr} {ys zs : List Str} {Q : VK} (ha : H a = some (.lst (ys.map V.str))) (pm : ys.Perm zs) (as : Asc zs) (few : ys.length < 64) (q : ∀ D : Addr, H D = none → Q (.ref D) (upd H D (.lst (zs.map V.str)))) : rSortedS K [.ref a] H Q :=
  ⟨a, ys, rfl, SqL.of ha, few, fun ws D pw so hD => by
    have nd : ws.Nodup := (pw.trans pm).nodup_iff.mpr as.nd
    have e : ws = zs := ascS_uniq (asc_of_sorted so nd) as fun x => (pw.trans pm).mem_iff
    rw [e]
    exact q D hD⟩
theorem sort_ps {K : PySem.W.Frag} {H : Hp} {a : Addr} {Ts : List Addr} {ps qs : List Pr} {Q : VK} (ha : H a = some (.lst (Ts.map V.ref))) (tu : Tups H Ts (ps.map tv)) (pm : ps.Perm qs) (as : qs.Pairwise LtP) (nd : qs.Nodup)
    (q : ∀ (D : Addr) (Us : List Addr), H D = none → Tups H Us (qs.map tv) → Q (.ref D) (upd H D (.lst (Us.map V.ref)))) : Kx.rSortedD K [.ref a] H Q :=
  sorted_prs ha tu (pm.nodup_iff.mpr nd) fun D Us rs nD ar mr ur _ => by
    have e : rs = qs := asc_uniq ar as fun p => (mr p).trans pm.mem_iff
    rw [e] at ur
    exact q D Us nD ur
def spLsts (C : Addr) : Sp := fun vs H Q _ => ∃ (c : Addr) (xs : List Str) (ps : List Pr), vs = [.ref c] ∧ CAt C H c xs ps ∧ Good xs ps ∧ ∀ (H' : Hp) (D : Addr), Same H H' → H D = none → WAt H' D xs ps → Q (.ref D) H'
def spConeL : Sp := fun vs H Q _ => ∃ (a : Addr) (x : Str) (xs zs : List Str) (ps qs : List Pr), vs = [.ref a, .str x] ∧ WAt H a xs ps ∧ Good xs ps ∧ (xs ++ [x]).Perm zs ∧ (ps ++ xs.map (mk x)).Perm qs ∧ Good zs qs ∧
  ∀ (H' : Hp) (D : Addr), Same H H' → H D = none → WAt H' D zs qs → Q (.ref D) H'
def spCutL : Sp := fun vs H Q _ => ∃ (a m : Addr) (xs ys zs : List Str) (ps : List Pr), vs = [.ref a, .ref m] ∧ WAt H a xs ps ∧ Good xs ps ∧ H m = some (.lst (ys.map V.str)) ∧ ys.Perm zs ∧ Good zs (cutP ys ps) ∧
  ∀ (H' : Hp) (D : Addr), Same H H' → H D = none → WAt H' D zs (cutP ys ps) → Q (.ref D) H'
def spRenL : Sp := fun vs H Q _ => ∃ (a d : Addr) (xs ks zs : List Str) (nm : Str → Str) (ps qs : List Pr), vs = [.ref a, .ref d] ∧ WAt H a xs ps ∧ Good xs ps ∧ NmAt H d ks nm ∧ ks.Perm xs ∧ (xs.map nm).Perm zs ∧ (renP nm ps).Perm qs ∧ Good zs qs ∧
  ∀ (H' : Hp) (D : Addr), Same H H' → H D = none → WAt H' D zs qs → Q (.ref D) H'
section
variable {P : Program} {w : World} {K : PySem.W.Frag} {mg : Str → Option Value} {base : Heap}
theorem ok_lists {f C : Addr} {fd : FuncData} (F : Fun K "_law_lists" "_law_lists" s_lists f fd) (TC : CT K mg C) (MP : HasM P w K mg base C 1 "people" (spPplM C)) (MF : HasM P w K mg base C 1 "friends" (spFrM C)) : FnOk P w K mg base CX0 2 f fd ["_law_company_here"] (spLsts C) := by
  obtain ⟨fM, dM, GM, mM, bM⟩ := MP
  obtain ⟨fF, dF, GF, mF, bF⟩ := MF
  refine F.ok c_lists (fun vs H Q E h => ?_) (fun cdv A outer s H vs Q E hr h => ?_)
  · obtain ⟨_, _, _, rfl, _⟩ := h
    rfl
  · obtain ⟨c, xs, ps, rfl, hc, g, k⟩ := h
    refine ⟨_, pss_one (ps_ret (pe_lst (pa_cons (pe_meth0 (pv 0) TC.is.cl mM GM hr bM .nil pass0) (pa_cons (pe_meth0 (pv 0) TC.is.cl mF GF hr bF .nil pass0) pa_nil)))), ?_⟩
    obtain ⟨dx, a, b, h1, h2, h3⟩ := id hc
    have l9 := g.few
    have few := g.len
    refine ⟨_, rfl, c, dx, _, rfl, h1, cF_no a b (by decide +kernel) (by decide +kernel), c, xs, ps, rfl, hc, by omega, fun L hL => ?_⟩
    have s1 := same_new (o := .lst (xs.map V.str)) hL
    have hL1 : upd H L (.lst (xs.map V.str)) L = some (.lst (xs.map V.str)) := upd_same
    generalize upd H L (.lst (xs.map V.str)) = H1 at s1 hL1 ⊢
    refine ⟨_, rfl, c, dx, _, rfl, s1 _ _ h1, cF_no a b (by decide +kernel) (by decide +kernel), c, xs, ps, rfl, hc.same s1, by omega, fun M H2 nM s2 hM => ?_⟩
    refine ⟨by show 2 ≤ sizeLine; decide, fun D hD => ?_⟩
    obtain ⟨s3, hD3⟩ := newS (o := .lst [.ref L, .ref M]) (s1.trans s2) hD
    have e3 := same_new (o := .lst [.ref L, .ref M]) hD
    exact k _ D s3 (same_none (s1.trans s2) hD) ⟨L, M, hD3, (s2.trans e3) _ _ hL1, hM.same e3⟩
theorem ok_coneL {f : Addr} {fd : FuncData} (F : Fun K "_law_cone" "_law_cone" s_cone f fd) (T : Bt mg) (CQ : Has P w K mg base 1 "_law_pair" ["_law_first", "_law_second"] spPair) : FnOk P w K mg base CX0 2 f fd ["_law_world_here", "_law_person"] spConeL := by
  obtain ⟨f1, d1, G1, m1, k1, b1⟩ := CQ
  refine F.ok c_cone (fun vs H Q E h => ?_) (fun cdv A outer s H vs Q E hr h => ?_)
  · obtain ⟨_, _, _, _, _, _, rfl, _⟩ := h
    rfl
  · obtain ⟨a, x, xs, zs, ps, qs, rfl, hW, g, pz, pq, gz, k⟩ := h
    refine ⟨_, pss_one (ps_ret (pe_lst (pa_cons (pe_callB cr_sortedS (by rfl) T.sorted (by decide +kernel) (pa_cons (pe_op op_cat (pe_ix ix_list (pv 0) pe_int (fun _ _ => rfl)) (pe_lst (pa_cons (pv 1) pa_nil))) pa_nil))
      (pa_cons (pe_callB (Kx.cr_sortedD hr.units) (by rfl) T.sorted (by decide +kernel) (pa_cons (pe_op op_cat (pe_ix ix_list (pv 0) pe_int (fun _ _ => rfl)) (pe_lc (own := [("_law_late", 2)]) (g := gName 2) (tt := tYes) rfl c_cone.nd (pi_list (pe_ix ix_list (pv 0) pe_int (fun _ _ => rfl)))
        (blkOk_by (N := ["_law_world_here", "_law_person", "_law_late"]) (sc := defScope s_cone) (by decide +kernel)) (fun _ _ _ _ _ => pg_name (i := 2) c_cone.nd rfl (Or.inl rfl)) (fun _ _ _ _ _ => pts_nil)
        (fun _ _ _ _ _ => pe_call G1 hr rfl m1 k1 b1 .nil pass0 (pa_cons (pv 1) (pa_cons (pv 2) pa_nil))))) pa_nil)) pa_nil)))), ?_⟩
    obtain ⟨wc, wl, ha, hwc, Ps, hwl, tp⟩ := id hW
    have l9 := g.few
    have few := g.len
    have lP : Ps.length = ps.length := by rw [tp.1, List.length_map]
    refine ⟨_, rfl, a, _, _, .ref wc, rfl, rfl, SqL.of ha, rfl, _, rfl, by show 1 ≤ sizeLine; decide, fun A0 hA => ?_⟩
    refine ⟨wc, A0, _, _, rfl, rfl, (same_new hA) _ _ hwc, upd_same, by rw [List.length_map, sizeLine_eq]; show xs.length + 1 ≤ _; omega, fun B hB => ?_⟩
    obtain ⟨s1, hB1⟩ := newS (o := .lst (xs.map V.str ++ [.str x])) (same_new (o := .lst [.str x]) hA) hB
    generalize upd (upd H A0 (.lst [.str x])) B (.lst (xs.map V.str ++ [.str x])) = H1 at s1 hB1 ⊢
    refine rd_nil ?_
    refine sort_strs (ys := xs ++ [x]) (by rw [List.map_append]; exact hB1) pz gz.asc (by rw [List.length_append]; show xs.length + 1 < 64; omega) fun Z hZ => ?_
    obtain ⟨s2, hZ2⟩ := newS (o := .lst (zs.map V.str)) s1 hZ
    generalize upd H1 Z (.lst (zs.map V.str)) = H2 at s2 hZ2 ⊢
    refine ⟨_, rfl, a, _, _, .ref wl, rfl, rfl, SqL.of (s2 _ _ ha), rfl, ?_⟩
    refine ⟨_, rfl, a, _, _, .ref wc, rfl, rfl, SqL.of (s2 _ _ ha), rfl, wc, rfl, ⟨_, SqL.of (s2 _ _ hwc)⟩, fun R hR => ?_⟩
    refine lc_list (xs := xs.map V.str) (fun j H' => ∃ Vs : List Addr, H' R = some (.lst (Vs.map V.ref)) ∧ Same H2 H' ∧ Tups H' Vs (((xs.take j).map (mk x)).map tv))
      ⟨[], upd_same, same_new hR, Tups.nil⟩ (fun j H' _ ⟨_, _, s6, _⟩ => SqL.of ((s2.trans s6) _ _ hwc)) ?_ ?_
    · rintro j v H6 hv ⟨Vs, hr6, s6, tv6⟩
      rw [List.getElem?_map] at hv
      obtain ⟨y, hy, rfl⟩ := Option.map_eq_some_iff.mp hv
      have jl := (List.getElem?_eq_some_iff.mp hy).1
      refine ⟨rfl, _, rfl, _, rfl, x, y, rfl, fun T hT => ?_⟩
      have e7 := same_new (o := .tup [.str (mk x y).1, .str (mk x y).2]) hT
      have hT7 : upd H6 T (.tup [.str (mk x y).1, .str (mk x y).2]) T = some (.tup [.str (mk x y).1, .str (mk x y).2]) := upd_same
      generalize upd H6 T (.tup [.str (mk x y).1, .str (mk x y).2]) = H7 at e7 hT7 ⊢
      have lv : Vs.length = j := by rw [tv6.1, List.length_map, List.length_map, List.length_take]; omega
      have hr7 := e7 _ _ hr6
      refine ⟨_, hr7, by rw [List.length_map, sizeLine_eq]; omega, Vs ++ [T], by rw [upd_same]; simp, same_over (s6.trans e7) hR, ?_⟩
      rw [take_next hy, List.map_append, List.map_append]
      have t3 := (tv6.same e7).upd (a := R) (o := .lst (Vs.map V.ref ++ [V.ref T])) fun x y e => by
        rw [hr7] at e
        cases e
      exact t3.snoc (p := tv (mk x y)) (by rw [upd_ne (ne_of hr7 hT7 (fun z => nomatch z)).symm]; exact hT7)
    · rintro H6 ⟨Vs, hr6, s6, tv6⟩
      rw [List.length_map, List.take_length] at tv6
      have lv : Vs.length = xs.length := by rw [tv6.1, List.length_map, List.length_map]
      have s26 := s2.trans s6
      refine ⟨wl, R, _, _, rfl, rfl, s26 _ _ hwl, hr6, by rw [List.length_map, List.length_map, sizeLine_eq]; omega, fun N hN => ?_⟩
      obtain ⟨s7, hN7⟩ := newS (o := .lst (Ps.map V.ref ++ Vs.map V.ref)) s26 hN
      have e67 := same_new (o := .lst (Ps.map V.ref ++ Vs.map V.ref)) hN
      generalize upd H6 N (.lst (Ps.map V.ref ++ Vs.map V.ref)) = H7 at s7 hN7 e67 ⊢
      refine rd_nil ?_
      refine sort_ps (Ts := Ps ++ Vs) (by rw [List.map_append]; exact hN7) (by rw [List.map_append]; exact (tp.same s7).append (tv6.same e67)) pq gz.ascP gz.nodup fun Y Us nY uu => ?_
      obtain ⟨s8, hY8⟩ := newS (o := .lst (Us.map V.ref)) s7 nY
      have e8 := same_new (o := .lst (Us.map V.ref)) nY
      generalize upd H7 Y (.lst (Us.map V.ref)) = H8 at s8 hY8 e8 ⊢
      refine ⟨by show 2 ≤ sizeLine; decide, fun D hD => ?_⟩
      obtain ⟨s9, hD9⟩ := newS (o := .lst [.ref Z, .ref Y]) s8 hD
      have e9 := same_new (o := .lst [.ref Z, .ref Y]) hD
      exact k _ D s9 (same_none s8 hD) ⟨Z, Y, hD9, (((s6.trans e67).trans e8).trans e9) _ _ hZ2, Us, e9 _ _ hY8, uu.same (e8.trans e9)⟩
theorem ok_cutL {f : Addr} {fd : FuncData} (F : Fun K "_law_cut" "_law_cut" s_cut f fd) (T : Bt mg) : FnOk P w K mg base CX0 2 f fd ["_law_world_here", "_law_crowd"] spCutL := by
  refine F.ok c_cut (fun vs H Q E h => ?_) (fun cdv A outer s H vs Q E hr h => ?_)
  · obtain ⟨_, _, _, _, _, _, rfl, _⟩ := h
    rfl
  · obtain ⟨a, m, xs, ys, zs, ps, rfl, hW, g, hm, pz, gz, k⟩ := h
    refine ⟨_, pss_one (ps_ret (pe_lst (pa_cons (pe_callB cr_sortedS (by rfl) T.sorted (by decide +kernel) (pa_cons (pv 1) pa_nil))
      (pa_cons (pe_lc (own := [("_law_pair_here", 2)]) (g := gName 2) rfl c_cut.nd (pi_list (pe_ix ix_list (pv 0) pe_int (fun _ _ => rfl)))
        (blkOk_by (N := ["_law_world_here", "_law_crowd", "_law_pair_here"]) (sc := defScope s_cut) (by decide +kernel)) (fun _ _ _ _ _ => pg_name (i := 2) c_cut.nd rfl (Or.inl rfl))
        (fun _ _ _ _ _ => pts_one (PW.pt (pw_and (pt_cmpR (r := rIn K false) op_in_seq (pe_ix (r := rIxT K) ix_tup (pv 2) pe_int (fun _ _ => rfl)) (pv 1) rfl) (pw_and1 (pt_cmpR (r := rIn K false) op_in_seq (pe_ix (r := rIxT K) ix_tup (pv 2) pe_int (fun _ _ => rfl)) (pv 1) rfl)))))
        (fun _ _ _ _ _ => pv 2)) pa_nil)))), ?_⟩
    obtain ⟨wc, wl, ha, hwc, Ps, hwl, tp⟩ := id hW
    have l9 := g.few
    have z9 := gz.few
    have ly := pz.length_eq
    have few := g.len
    have lP : Ps.length = ps.length := by rw [tp.1, List.length_map]
    refine ⟨_, rfl, ?_⟩
    refine rd_nil ?_
    refine sort_strs hm pz gz.asc (by omega) fun Z hZ => ?_
    have s2 := same_new (o := .lst (zs.map V.str)) hZ
    have hZ2 : upd H Z (.lst (zs.map V.str)) Z = some (.lst (zs.map V.str)) := upd_same
    generalize upd H Z (.lst (zs.map V.str)) = H2 at s2 hZ2 ⊢
    refine ⟨_, rfl, a, _, _, .ref wl, rfl, rfl, SqL.of (s2 _ _ ha), rfl, wl, rfl, ⟨_, SqL.of (s2 _ _ hwl)⟩, fun R hR => ?_⟩
    refine lc_list (xs := Ps.map V.ref) (fun j H4 => ∃ Vs : List Addr, H4 R = some (.lst (Vs.map V.ref)) ∧ Same H2 H4 ∧ Tups H4 Vs ((cutP ys (ps.take j)).map tv))
      ⟨[], upd_same, same_new hR, Tups.nil⟩ (fun j H4 _ ⟨_, _, s6, _⟩ => SqL.of ((s2.trans s6) _ _ hwl)) ?_ ?_
    · rintro j v H4 hv ⟨Vs, hr4, s6, tv4⟩
      rw [List.getElem?_map] at hv
      obtain ⟨U, hU, rfl⟩ := Option.map_eq_some_iff.mp hv
      have jl := (List.getElem?_eq_some_iff.mp hU).1
      obtain ⟨p, hp⟩ : ∃ p, ps[j]? = some p := ⟨_, List.getElem?_eq_getElem (by omega)⟩
      have e1 := (s2.trans s6) _ _ (tp.2 j U (tv p) hU (by rw [List.getElem?_map, hp]; rfl))
      have hm4 := (s2.trans s6) _ _ hm
      have nx : cutP ys (ps.take (j + 1)) = cutP ys (ps.take j) ++ (if p.1 ∈ ys ∧ p.2 ∈ ys then [p] else []) := by
        unfold cutP
        rw [take_next hp, List.filter_append]
        by_cases z : p.1 ∈ ys ∧ p.2 ∈ ys <;> simp [z]
      have no : ¬ (p.1 ∈ ys ∧ p.2 ∈ ys) → ∃ Vs : List Addr, H4 R = some (.lst (Vs.map V.ref)) ∧ Same H2 H4 ∧ Tups H4 Vs ((cutP ys (ps.take (j + 1))).map tv) := fun z => ⟨Vs, hr4, s6, by
        rw [nx, if_neg z, List.append_nil]
        exact tv4⟩
      refine ⟨rfl, _, rfl, U, _, _, .str p.1, rfl, rfl, SqT.of e1, rfl, _, rfl, m, _, rfl, .inl (SqL.of hm4), rfl, flat_strs' ys, ?_⟩
      show ∃ k, V.bl (inV (.str p.1) (ys.map V.str)) = V.bl k ∧ _
      rw [in_strs]
      refine ⟨_, rfl, ite2 (fun h1 => ?_) (fun h1 => no fun z => h1 (decide_eq_true z.1))⟩
      refine ⟨_, rfl, U, _, _, .str p.2, rfl, rfl, SqT.of e1, rfl, _, rfl, m, _, rfl, .inl (SqL.of hm4), rfl, flat_strs' ys, ?_⟩
      show ∃ k, V.bl (inV (.str p.2) (ys.map V.str)) = V.bl k ∧ _
      rw [in_strs]
      refine ⟨_, rfl, ite2 (fun h2 => ?_) (fun h2 => no fun z => h2 (decide_eq_true z.2))⟩
      have z : p.1 ∈ ys ∧ p.2 ∈ ys := ⟨of_decide_eq_true h1, of_decide_eq_true h2⟩
      have lu : Vs.length ≤ 36 := by
        rw [tv4.1, List.length_map]
        have h1 := List.length_filter_le (fun p : Pr => decide (p.1 ∈ ys ∧ p.2 ∈ ys)) (ps.take j)
        rw [List.length_take] at h1
        unfold cutP
        omega
      refine ⟨_, rfl, _, hr4, by rw [List.length_map, sizeLine_eq]; omega, Vs ++ [U], by rw [upd_same]; simp, same_over s6 hR, ?_⟩
      rw [nx, if_pos z, List.map_append]
      have t3 := tv4.upd (a := R) (o := .lst (Vs.map V.ref ++ [V.ref U])) fun x y e => by
        rw [hr4] at e
        cases e
      exact t3.snoc (p := tv p) (by rw [upd_ne (ne_of hr4 e1 (fun z => nomatch z)).symm]; exact e1)
    · rintro H4 ⟨Vs, hr4, s6, tv4⟩
      rw [List.length_map, lP, List.take_length] at tv4
      refine ⟨by show 2 ≤ sizeLine; decide, fun D hD => ?_⟩
      obtain ⟨s9, hD9⟩ := newS (o := .lst [.ref Z, .ref R]) (s2.trans s6) hD
      have e9 := same_new (o := .lst [.ref Z, .ref R]) hD
      exact k _ D s9 (same_none (s2.trans s6) hD) ⟨Z, R, hD9, (s6.trans e9) _ _ hZ2, Vs, e9 _ _ hr4, tv4.same e9⟩
theorem ok_renL {f : Addr} {fd : FuncData} (F : Fun K "_law_renamed" "_law_renamed" s_renamed f fd) (T : Bt mg) (CQ : Has P w K mg base 1 "_law_pair" ["_law_first", "_law_second"] spPair) : FnOk P w K mg base CX0 2 f fd ["_law_world_here", "_law_names_here"] spRenL := by
  obtain ⟨f1, d1, G1, m1, k1, b1⟩ := CQ
  refine F.ok c_renamed (fun vs H Q E h => ?_) (fun cdv A outer s H vs Q E hr h => ?_)
  · obtain ⟨_, _, _, _, _, _, _, _, rfl, _⟩ := h
    rfl
  · obtain ⟨a, d, xs, ks, zs, nm, ps, qs, rfl, hW, g, hd, pk, pz, pq, gz, k⟩ := h
    have hu := hu_of hr
    refine ⟨_, pss_cons (ps_setLc (i := 4) (own := [("_law_first", 2), ("_law_second", 3)]) (g := gTup K 2 (gCons (gName 2) (gCons (gName 3) gNil))) (tt := tYes) rfl c_renamed.nd rfl rfl (sw_true rfl rfl rfl (by decide +kernel)) (pi_list (pe_ix ix_list (pv 0) pe_int (fun _ _ => rfl)))
        (blkOk_by (N := ["_law_world_here", "_law_names_here", "_law_first", "_law_second", "_law_made", "_law_person"]) (sc := defScope s_renamed) (by decide +kernel)) (fun _ _ _ _ _ => pg_tup rfl (pgs_cons (pg_name (i := 2) c_renamed.nd rfl (Or.inl rfl)) (pgs_cons (pg_name (i := 3) c_renamed.nd rfl (Or.inl rfl)) pgs_nil))) (fun _ _ _ _ _ => pts_nil)
        (fun _ _ _ _ _ => pe_call G1 hr rfl m1 k1 b1 .nil pass0 (pa_cons (pe_dget hu (pv 1) (pv 2) (fun _ _ => rfl)) (pa_cons (pe_dget hu (pv 1) (pv 3) (fun _ _ => rfl)) pa_nil))))
      (pss_one (ps_ret (pe_lst (pa_cons (pe_callB cr_sortedS (by rfl) T.sorted (by decide +kernel) (pa_cons (pe_lc (own := [("_law_person", 5)]) (g := gName 5) (tt := tYes) rfl c_renamed.nd (pi_list (pe_ix ix_list (pv 0) pe_int (fun _ _ => rfl)))
          (blkOk_by (N := ["_law_world_here", "_law_names_here", "_law_first", "_law_second", "_law_made", "_law_person"]) (sc := defScope s_renamed) (by decide +kernel)) (fun _ _ _ _ _ => pg_name (i := 5) c_renamed.nd rfl (Or.inl rfl)) (fun _ _ _ _ _ => pts_nil)
          (fun _ _ _ _ _ => pe_dget hu (pv 1) (pv 5) (fun _ _ => rfl))) pa_nil))
        (pa_cons (pe_callB (Kx.cr_sortedD hr.units) (by rfl) T.sorted (by decide +kernel) (pa_cons (pv 4) pa_nil)) pa_nil))))), ?_⟩
    obtain ⟨wc, wl, ha, hwc, Ps, hwl, tp⟩ := id hW
    have l9 := g.few
    have z9 := gz.few
    have lz := pz.length_eq
    rw [List.length_map] at lz
    have few := g.len
    have lP : Ps.length = ps.length := by rw [tp.1, List.length_map]
    have ndk : ks.Nodup := pk.nodup_iff.mpr g.nd
    refine ⟨_, rfl, a, _, _, .ref wl, rfl, rfl, SqL.of ha, rfl, wl, rfl, ⟨_, SqL.of hwl⟩, fun R hR => ?_⟩
    refine lc_list (xs := Ps.map V.ref) (fun j H' => ∃ Vs : List Addr, H' R = some (.lst (Vs.map V.ref)) ∧ Same H H' ∧ Tups H' Vs ((renP nm (ps.take j)).map tv))
      ⟨[], upd_same, same_new hR, Tups.nil⟩ (fun j H' _ ⟨_, _, s6, _⟩ => SqL.of (s6 _ _ hwl)) ?_ ?_
    · rintro j v H6 hv ⟨Vs, hr6, s6, tv6⟩
      rw [List.getElem?_map] at hv
      obtain ⟨U, hU, rfl⟩ := Option.map_eq_some_iff.mp hv
      have jl := (List.getElem?_eq_some_iff.mp hU).1
      obtain ⟨p, hp⟩ : ∃ p, ps[j]? = some p := ⟨_, List.getElem?_eq_getElem (by omega)⟩
      have e1 := s6 _ _ (tp.2 j U (tv p) hU (by rw [List.getElem?_map, hp]; rfl))
      have mp := g.of p (List.mem_of_getElem? hp)
      have hd6 : NmAt H6 d ks nm := s6 _ _ hd
      have m1' := pk.mem_iff.mpr mp.1
      have m2' := pk.mem_iff.mpr mp.2.1
      refine ⟨U, _, rfl, SqT.of e1, rfl, _, _, rfl, _, _, rfl, rfl, rfl, ?_⟩
      refine ⟨_, rfl, _, rfl, d, _, rfl, nm_get hd6 ndk m1', _, rfl, _, rfl, d, _, rfl, nm_get hd6 ndk m2', nm p.1, nm p.2, rfl, fun T hT => ?_⟩
      have e7 := same_new (o := .tup [.str (mk (nm p.1) (nm p.2)).1, .str (mk (nm p.1) (nm p.2)).2]) hT
      have hT7 : upd H6 T (.tup [.str (mk (nm p.1) (nm p.2)).1, .str (mk (nm p.1) (nm p.2)).2]) T = some (.tup [.str (mk (nm p.1) (nm p.2)).1, .str (mk (nm p.1) (nm p.2)).2]) := upd_same
      generalize upd H6 T (.tup [.str (mk (nm p.1) (nm p.2)).1, .str (mk (nm p.1) (nm p.2)).2]) = H7 at e7 hT7 ⊢
      have lv : Vs.length = j := by rw [tv6.1, List.length_map, renP, List.length_map, List.length_take]; omega
      have hr7 := e7 _ _ hr6
      refine ⟨_, hr7, by rw [List.length_map, sizeLine_eq]; omega, Vs ++ [T], by rw [upd_same]; simp, same_over (s6.trans e7) hR, ?_⟩
      rw [take_next hp, renP, List.map_append, List.map_append]
      have t3 := (tv6.same e7).upd (a := R) (o := .lst (Vs.map V.ref ++ [V.ref T])) fun x y e => by
        rw [hr7] at e
        cases e
      exact t3.snoc (p := tv (mk (nm p.1) (nm p.2))) (by rw [upd_ne (ne_of hr7 hT7 (fun z => nomatch z)).symm]; exact hT7)
    · rintro H2 ⟨Vs, hr2, s2, tv2⟩
      rw [List.length_map, lP, List.take_length] at tv2
      refine ⟨_, rfl, a, _, _, .ref wc, rfl, rfl, SqL.of (s2 _ _ ha), rfl, wc, rfl, ⟨_, SqL.of (s2 _ _ hwc)⟩, fun N hN => ?_⟩
      refine lc_list (xs := xs.map V.str) (fun j H' => Same H2 H' ∧ H' N = some (.lst (((xs.take j).map nm).map V.str))) ⟨same_new hN, upd_same⟩ (fun j H' _ z => SqL.of ((s2.trans z.1) _ _ hwc)) ?_ ?_
      · rintro j v H6 hv ⟨s6, hn6⟩
        rw [List.getElem?_map] at hv
        obtain ⟨y, hy, rfl⟩ := Option.map_eq_some_iff.mp hv
        have hd6 : NmAt H6 d ks nm := (s2.trans s6) _ _ hd
        refine ⟨rfl, _, rfl, _, rfl, d, _, rfl, nm_get hd6 ndk (pk.mem_iff.mpr (List.mem_of_getElem? hy)), _, hn6, ?_, same_over s6 hN, ?_⟩
        · rw [List.length_map, List.length_map, List.length_take, sizeLine_eq]
          omega
        · rw [upd_same, take_next hy, List.map_append, List.map_append]
          rfl
      · rintro H6 ⟨s6, hn6⟩
        rw [List.length_map, List.take_length] at hn6
        refine rd_nil ?_
        refine sort_strs hn6 pz gz.asc (by rw [List.length_map]; omega) fun Z hZ => ?_
        have e7 := same_new (o := .lst (zs.map V.str)) hZ
        have hZ7 : upd H6 Z (.lst (zs.map V.str)) Z = some (.lst (zs.map V.str)) := upd_same
        generalize upd H6 Z (.lst (zs.map V.str)) = H7 at e7 hZ7 ⊢
        have s27 := s6.trans e7
        refine ⟨_, rfl, ?_⟩
        refine rd_nil ?_
        refine sort_ps (Ts := Vs) (s27 _ _ hr2) (tv2.same s27) pq gz.ascP gz.nodup fun Y Us nY uu => ?_
        have e8 := same_new (o := .lst (Us.map V.ref)) nY
        have hY8 : upd H7 Y (.lst (Us.map V.ref)) Y = some (.lst (Us.map V.ref)) := upd_same
        generalize upd H7 Y (.lst (Us.map V.ref)) = H8 at e8 hY8 ⊢
        refine ⟨by show 2 ≤ sizeLine; decide, fun D hD => ?_⟩
        have e9 := same_new (o := .lst [.ref Z, .ref Y]) hD
        have hD9 : upd H8 D (.lst [.ref Z, .ref Y]) D = some (.lst [.ref Z, .ref Y]) := upd_same
        have s28 := (s2.trans s27).trans e8
        exact k _ D (s28.trans e9) (same_none s28 hD) ⟨Z, Y, hD9, (e8.trans e9) _ _ hZ7, Us, e9 _ _ hY8, uu.same (e8.trans e9)⟩
end
end Wd
end
section
set_option maxRecDepth 100000
set_option maxHeartbeats 4000000
namespace Wd
open PySem L2
theorem asc_ins (x : Str) : ∀ zs : List Str, Asc zs → x ∉ zs → ∃ ws, Asc ws ∧ (x :: zs).Perm ws
  | [], _, _ => ⟨[x], List.pairwise_singleton _ _, List.Perm.refl _⟩
  | z :: zs, a, nx => by
    obtain ⟨a1, a2⟩ := List.pairwise_cons.mp a
    have ne : x ≠ z := fun e => nx (e ▸ List.mem_cons_self ..)
    rcases Lt.tri x z with h | h | h
    · exact ⟨x :: z :: zs, List.pairwise_cons.mpr ⟨fun y hy => by
        rcases List.mem_cons.mp hy with e | hy
        · rw [e]; exact h
        · exact h.tr (a1 y hy), a⟩, List.Perm.refl _⟩
    · exact absurd h ne
    · obtain ⟨ws, b1, b2⟩ := asc_ins x zs a2 fun z => nx (List.mem_cons_of_mem _ z)
      refine ⟨z :: ws, List.pairwise_cons.mpr ⟨fun y hy => ?_, b1⟩, (List.Perm.swap z x zs).trans (b2.cons z)⟩
      rcases List.mem_cons.mp (b2.mem_iff.mpr hy) with e | hy
      · rw [e]; exact h
      · exact a1 y hy
theorem asc_ex : ∀ ys : List Str, ys.Nodup → ∃ zs, Asc zs ∧ ys.Perm zs
  | [], _ => ⟨[], List.Pairwise.nil, List.Perm.refl _⟩
  | y :: ys, nd => by
    obtain ⟨n1, n2⟩ := List.nodup_cons.mp nd
    obtain ⟨zs, a, pm⟩ := asc_ex ys n2
    obtain ⟨ws, b, pm2⟩ := asc_ins y zs a fun z => n1 (pm.mem_iff.mpr z)
    exact ⟨ws, b, (pm.cons y).trans pm2⟩
/-- people and pairs, brought in order -/
theorem good_ex {ys : List Str} {ps : List Pr} (nd : ys.Nodup) (hw : ∀ y ∈ ys, IsW y) (l1 : 1 ≤ ys.length) (l9 : ys.length ≤ 9) (ndp : ps.Nodup) (hp : ∀ p ∈ ps, p.1 ∈ ys ∧ p.2 ∈ ys ∧ Lt p.1 p.2) : ∃ zs qs, Good zs qs ∧ ys.Perm zs ∧ ps.Perm qs := by
  obtain ⟨zs, a, pm⟩ := asc_ex ys nd
  refine ⟨zs, (prsS zs).filter fun p => decide (p ∈ ps), ⟨a, fun x hx => hw x (pm.mem_iff.mpr hx), ⟨by rw [← pm.length_eq]; exact l1, by rw [← pm.length_eq]; exact l9⟩, List.filter_sublist⟩, pm, ?_⟩
  refine (List.perm_ext_iff_of_nodup ndp ((prsS_nd a).filter _)).mpr fun p => ?_
  rw [List.mem_filter]
  exact ⟨fun h => ⟨prsS_mem a (pm.mem_iff.mp (hp p h).1) (pm.mem_iff.mp (hp p h).2.1) (hp p h).2.2, decide_eq_true h⟩, fun h => of_decide_eq_true h.2⟩
end Wd
end
section
set_option maxRecDepth 100000
set_option maxHeartbeats 4000000
namespace KxK
open PySem PySem.Spec PyProof.Rows L2
/-- keywords alone: one, two in the other order -/
def oneG {α : Type} : List α → List α → List α
  | [], [a] => [a]
  | _, _ => []
def swapG {α : Type} : List α → List α → List α
  | [], [a, b] => [b, a]
  | _, _ => []
theorem oneG_rel {vs zs : List V} {us ws : List Value} (r : Vals vs us) (rz : Vals zs ws) : Vals (oneG vs zs) (oneG us ws) := by
  cases r with
  | nil =>
    cases rz with
    | nil => exact .nil
    | cons h t =>
      cases t with
      | nil => exact .cons h .nil
      | cons h2 t2 => exact .nil
  | cons h t => exact .nil
theorem swapG_rel {vs zs : List V} {us ws : List Value} (r : Vals vs us) (rz : Vals zs ws) : Vals (swapG vs zs) (swapG us ws) := by
  cases r with
  | nil =>
    cases rz with
    | nil => exact .nil
    | cons h t =>
      cases t with
      | nil => exact .nil
      | cons h2 t2 =>
        cases t2 with
        | nil => exact .cons h2 (.cons h .nil)
        | cons h3 t3 => exact .nil
  | cons h t => exact .nil
section
variable {K : PySem.W.Frag} {x : Str} {qual : Str} {params : Arguments} {body : List Stmt} {scope : Scope} {kws : List (Str × V)} {f : Addr} {fd : FuncData} {ps : List Str}
theorem kb_one (F : FunD K x qual params body scope [] kws f fd) {k : Str} (hp : ps.length = 1)
    (h : ∀ (kV doc pm : Value) (an : Option Addr) (cdv ct : Value) (a : Value), bindArgs (PySem.W.fnOf x qual params body scope .none kV doc pm an cdv ct) ⟨[], [(k, a)]⟩ = pure (ps.zip [a])) : KBinds K fd ps [k] oneG oneG := by
  obtain ⟨oc, od, dV, kV, doc, pm, an, cdv, ct, osl, rfl, lk, hcd, hD, hK⟩ := F.ex
  rcases hD with ⟨_, rfl⟩ | ⟨e, _⟩
  · refine ⟨fun s us ws X hl => ?_, oneG_rel⟩
    match us, ws, hl with
    | [], [a], _ => exact .of_eq (h kV doc pm an cdv ct a)
    | [], [], hl => rw [hp] at hl; cases hl
    | [], _ :: _ :: _, hl => rw [hp] at hl; cases hl
    | _ :: _, _, hl => rw [hp] at hl; cases hl
  · exact absurd rfl e
theorem kb_swap (F : FunD K x qual params body scope [] kws f fd) {k l : Str} (hp : ps.length = 2)
    (h : ∀ (kV doc pm : Value) (an : Option Addr) (cdv ct : Value) (a b : Value), bindArgs (PySem.W.fnOf x qual params body scope .none kV doc pm an cdv ct) ⟨[], [(k, a), (l, b)]⟩ = pure (ps.zip [b, a])) : KBinds K fd ps [k, l] swapG swapG := by
  obtain ⟨oc, od, dV, kV, doc, pm, an, cdv, ct, osl, rfl, lk, hcd, hD, hK⟩ := F.ex
  rcases hD with ⟨_, rfl⟩ | ⟨e, _⟩
  · refine ⟨fun s us ws X hl => ?_, swapG_rel⟩
    match us, ws, hl with
    | [], [a, b], _ => exact .of_eq (h kV doc pm an cdv ct a b)
    | [], [], hl => rw [hp] at hl; cases hl
    | [], [_], hl => rw [hp] at hl; cases hl
    | [], _ :: _ :: _ :: _, hl => rw [hp] at hl; cases hl
    | _ :: _, _, hl => rw [hp] at hl; cases hl
  · exact absurd rfl e
end
section
variable {X : Cx} {CX : CXT} {k : Nat} {f : Addr} {fd : FuncData} {ps ks : List Str} {sp : Sp} {E : XK} {x : Str} {p pos : Pos} {kws : List Keyword} {tk : TA} {g : List Value → List Value → List Value} {gV : List V → List V → List V}
/-- f(k = v, ..), keywords alone -/
theorem pe_callK0 (F : FnOk X.prog X.w X.K X.mg X.base CX k f fd ps sp) (hr : Room k X.A) (hg : Gl X x) (hm : X.mg x = some (.ref f)) (hk : PySem.W.keepIn X.K (.ref f) = true) (hb : KBinds X.K fd ps ks g gV) (hx : Passes CX X E)
    (hkw : PK X kws tk) (hall : (backToKw pos (keywordEach kws X.env)).all (·.1.isSome) = true := by rfl) (hks : (backToKw pos (keywordEach kws X.env)).filterMap (·.1) = ks := by rfl)
    (hdb : (x == ("__debug__" : Str)) = false := by decide)
    (hpl : ((backTo pos (starEach [] X.env)).any (·.1) || (backToKw pos (keywordEach kws X.env)).any (·.1.isNone)) = false := by rfl) :
    PE X (.Call (.Name x p) [] kws pos) (tCallK sp gV E tNil tk) := by
  refine ⟨fun pins s σ H Q I h => ?_⟩
  refine wpAny_Call_Name_kw (ld_glob I hg hm ?_ hdb)
  refine PySem.W.callWith_KW0 (h₀ := X.base) I.ok.mod.kin hk hall (thn (hkw.run pos pins s σ H _ I h) fun ws s2 ⟨zs, H2, I2, rz, q2⟩ => ⟨I2.kIn, ?_⟩) hpl
  rw [hks]
  exact run_fnk F hr hb hx I2 .nil rz q2
end
end KxK
end
section
set_option maxRecDepth 100000
set_option maxHeartbeats 4000000
namespace Wd
open PySem L2
theorem filter_split {p q r : Str → Bool} : ∀ {xs : List Str}, (∀ y ∈ xs, (p y).toNat + (q y).toNat = (r y).toNat) → (xs.filter p).length + (xs.filter q).length = (xs.filter r).length
  | [], _ => rfl
  | x :: xs, h => by
    have ih := filter_split (p := p) (q := q) (r := r) (xs := xs) fun y hy => h y (List.mem_cons_of_mem _ hy)
    have hx := h x (List.mem_cons_self ..)
    rw [List.filter_cons, List.filter_cons, List.filter_cons]
    revert hx
    cases p x <;> cases q x <;> cases r x <;> simp <;> omega
theorem one_eq {x : Str} : ∀ {xs : List Str}, xs.Nodup → x ∈ xs → (xs.filter fun y => y == x).length = 1
  | z :: xs, nd, h => by
    obtain ⟨n1, n2⟩ := List.nodup_cons.mp nd
    rw [List.filter_cons]
    by_cases e : z = x
    · subst e
      have e0 : xs.filter (fun y => y == z) = [] := List.filter_eq_nil_iff.mpr fun y hy q => n1 (by rw [← eq_of_beq q]; exact hy)
      simp [e0]
    · have h2 : x ∈ xs := (List.mem_cons.mp h).resolve_left fun q => e q.symm
      have b : (z == x) = false := by simp [e]
      rw [b]
      exact one_eq n2 h2
theorem filter_not {xs : List Str} {x : Str} (nd : xs.Nodup) (hx : x ∈ xs) : (xs.filter fun y => decide (y ≠ x)).length + 1 = xs.length := by
  have h := filter_split (p := fun y => decide (y ≠ x)) (q := fun y => y == x) (r := fun _ => true) (xs := xs) fun y _ => by
    by_cases e : y = x <;> simp [e]
  rw [List.filter_eq_self.mpr (fun (_ : Str) _ => rfl : ∀ y ∈ xs, (fun _ => true) y = true)] at h
  have c : (xs.filter fun y => y == x).length = 1 := by
    exact one_eq nd hx
  omega
theorem deg_opp {xs : List Str} {ps : List Pr} (g : Good xs ps) {x : Str} (hx : x ∈ xs) : (frs (oppP xs ps) x).length + (frs ps x).length + 1 = xs.length := by
  rw [frs_eq g.opp x, frs_eq g x]
  have h := filter_split (p := fun y => decide (y ≠ x ∧ mk x y ∈ oppP xs ps)) (q := fun y => decide (y ≠ x ∧ mk x y ∈ ps)) (r := fun y => decide (y ≠ x)) (xs := xs) fun y hy => by
    by_cases e : y = x
    · simp [e]
    · have m := mk_mem g.asc hx hy (fun z => e z.symm)
      have o : mk x y ∈ oppP xs ps ↔ mk x y ∉ ps := by
        unfold oppP
        rw [List.mem_filter]
        exact ⟨fun z => of_decide_eq_true z.2, fun z => ⟨m, decide_eq_true z⟩⟩
      by_cases q : mk x y ∈ ps <;> simp [e, o, q]
  have := filter_not g.nd hx
  omega
theorem opp_opp {xs : List Str} {ps : List Pr} (g : Good xs ps) : oppP xs (oppP xs ps) = ps := by
  refine asc_uniq ((prsS_asc g.asc).filter _) g.ascP fun p => ?_
  unfold oppP
  rw [List.mem_filter]
  constructor
  · rintro ⟨h1, h2⟩
    have h2 := of_decide_eq_true h2
    rw [List.mem_filter] at h2
    by_cases q : p ∈ ps
    · exact q
    · exact absurd ⟨h1, decide_eq_true q⟩ h2
  · intro h
    refine ⟨g.sub.subset h, decide_eq_true fun z => ?_⟩
    exact of_decide_eq_true (List.mem_filter.mp z).2 h
/-- a def, callable also by its parameters' names -/
def HasK (P : Program) (w : World) (K : PySem.W.Frag) (mg : Str → Option Value) (base : Heap) (n : Nat) (x : Str) (ps ks : List Str) (sp : Sp) (gv : List Value → List Value → List Value) (gV : List V → List V → List V) : Prop :=
  ∃ f fd, FnOk P w K mg base CX0 n f fd ps sp ∧ mg x = some (.ref f) ∧ PySem.W.keepIn K (.ref f) = true ∧ Binds K fd ps [] ∧ KBinds K fd ps ks gv gV
/-- the own ==, and so != -/
def HasNe (P : Program) (w : World) (K : PySem.W.Frag) (mg : Str → Option Value) (base : Heap) (C : Addr) : Prop :=
  ∃ (f : Addr) (fd : FuncData), FnOk P w K mg base CX0 1 f fd ["self", "other"] (spEqB (CEqB C)) ∧ PySem.W.findIn K (.ref C) "__eq__" = some (some (.ref f)) ∧ PySem.W.isFn K (.ref f) = true ∧ Binds K fd ["self", "other"] [] ∧
    PySem.W.findIn K (.ref C) "__ne__" = some (some (.builtin "object.__ne__")) ∧ PySem.W.mroIn K C (.type "object") = some true
theorem ceq {C : Addr} {H : Hp} {a b : Addr} {xs ys : List Str} {ps qs : List Pr} (g : Good xs ps) (g' : Good ys qs) (ha : CAt C H a xs ps) (hb : CAt C H b ys qs) : DInsB C (CEqB C) (.ref a) (.ref b) (decide (xs = ys ∧ ps = qs)) H := by
  obtain ⟨dx, a1, a2, h1, _⟩ := id ha
  obtain ⟨dy, b1, b2, g1, _⟩ := id hb
  exact ⟨a, b, dx, dy, _, _, rfl, rfl, h1, g1, xs, ps, ys, qs, g, g', ha, hb, rfl⟩
theorem sm_world {H : Hp} {a b : Addr} {xs : List Str} {ps : List Pr} (g : Good xs ps) (ha : WAt H a xs ps) (hb : WAt H b xs ps) : Sm H 3 (.ref a) (.ref b) := by
  obtain ⟨c, l, h1, h2, h3⟩ := ha
  obtain ⟨c', l', g1, g2, g3⟩ := hb
  have l9 := g.few
  have few := g.len
  exact sm_two (n := 2) h1 g1 (sm_strs 1 h2 g2 (by omega)) (sm_prs 0 h3 g3 (by omega))
def spOR (C : Addr) : Sp := fun vs H Q _ => ∃ (c a : Addr) (xs : List Str) (ps : List Pr), vs = [.ref c, .ref a] ∧ CAt C H c xs ps ∧ WAt H a xs ps ∧ Good xs ps ∧ ∀ H', Same H H' → Q (.bl true) H'
section
variable {P : Program} {w : World} {K : PySem.W.Frag} {mg : Str → Option Value} {base : Heap}
theorem ok_oppR {f C : Addr} {fd : FuncData} (F : Fun K "_law_opposite_right" "_law_opposite_right" s_opposite_right f fd) (T : Bt mg) (CO : HasK P w K mg base 6 "opposite" ["company"] ["company"] (spOppC C) KxK.oneG KxK.oneG) (NE : HasNe P w K mg base C)
    (CX : Has P w K mg base 4 "_law_exact" ["_law_mine", "_law_theirs"] (spExact 3)) (CL : Has P w K mg base 2 "_law_lists" ["_law_company_here"] (spLsts C)) (CP : Has P w K mg base 2 "_law_opposite" ["_law_world_here"] spOpp) (CN : Has P w K mg base 3 "friend_numbers" ["company"] (spNums C)) :
    FnOk P w K mg base CX0 7 f fd ["_law_company_here", "_law_world_here"] (spOR C) := by
  obtain ⟨fO, dO, GO, mO, kO, bO, kbO⟩ := CO
  obtain ⟨fE, dE, GE, eE, nE, bE, neE, miE⟩ := NE
  obtain ⟨fX, dX, GX, mX, kX, bX⟩ := CX
  obtain ⟨fL, dL, GL, mL, kL, bL⟩ := CL
  obtain ⟨fP, dP, GP, mP, kP, bP⟩ := CP
  obtain ⟨fN, dN, GN, mN, kN, bN⟩ := CN
  refine F.ok c_opposite_right (fun vs H Q E h => ?_) (fun cdv A outer s H vs Q E hr h => ?_)
  · obtain ⟨_, _, _, _, rfl, _⟩ := h
    rfl
  · obtain ⟨c, a, xs, ps, rfl, hc, hW, g, k⟩ := h
    have hu := hu_of hr
    have hr2 : Room 2 _ := hr.mono (by decide)
    have hr3 : Room 3 _ := hr.mono (by decide)
    have hr4 : Room 4 _ := hr.mono (by decide)
    refine ⟨_, pss_cons (ps_set (i := 2) c_opposite_right.nd rfl (Or.inl rfl) (pe_call GO hr rfl mO kO bO .nil pass0 (pa_cons (pv 0) pa_nil)))
      (pss_cons (ps_if (PW.pt (pw_or (pt_not (pt_val (pe_call GX hr4 rfl mX kX bX .nil pass0 (pa_cons (pe_call GL hr2 rfl mL kL bL .nil pass0 (pa_cons (pv 2) pa_nil)) (pa_cons (pe_call GP hr2 rfl mP kP bP .nil pass0 (pa_cons (pv 1) pa_nil)) pa_nil)))))
        (pw_or1 (pt_cmpR (op_neB GE eE nE bE pass0 neE miE hr2) (pe_call GO hr rfl mO kO bO .nil pass0 (pa_cons (KxK.pe_callK0 GO hr rfl mO kO kbO pass0 (pk_cons (pv 0) pk_nil)) pa_nil)) (pv 0) (nomark _))))) (pss_one ps_never) pss_nil)
      (pss_cons (ps_set (i := 3) c_opposite_right.nd rfl (Or.inr rfl) (pe_lst (pa_cons (pe_call GN hr3 rfl mN kN bN .nil pass0 (pa_cons (pv 2) pa_nil)) (pa_cons (pe_call GN hr3 rfl mN kN bN .nil pass0 (pa_cons (pv 0) pa_nil)) pa_nil))))
      (pss_one (ps_ret (pe_callB (cr_all rfl) (by rfl) T.all (by decide +kernel) (pa_cons (pe_lc (own := [("_law_person", 4)]) (g := gName 4) (tt := tYes) rfl c_opposite_right.nd (pi_list (pe_ix ix_list (pv 1) pe_int (fun _ _ => rfl)))
        (blkOk_by (N := ["_law_company_here", "_law_world_here", "_law_made", "_law_numbers", "_law_person"]) (sc := defScope s_opposite_right) (by decide +kernel)) (fun _ _ _ _ _ => pg_name (i := 4) c_opposite_right.nd rfl (Or.inl rfl)) (fun _ _ _ _ _ => pts_nil)
        (fun _ _ _ _ _ => pe_cmpR op_eq (pe_op op_add (pe_dget hu (pe_ix (r := rIxL K) ix_list (pv 3) pe_int (fun _ _ => rfl)) (pv 4) (fun _ _ => rfl)) (pe_dget hu (pe_ix (r := rIxL K) ix_list (pv 3) pe_int (fun _ _ => rfl)) (pv 4) (fun _ _ => rfl)))
          (pe_op op_sub (pe_callB (r := rLen K) call_len_seq (by rfl) T.len PySem.boot_len (pa_cons (pe_ix (r := rIxL K) ix_list (pv 1) pe_int (fun _ _ => rfl)) pa_nil)) pe_int) (nomark _))) pa_nil)))))), ?_⟩
    obtain ⟨wc, wl, ha, hwc, hwl⟩ := id hW
    have l9 := g.few
    refine ⟨_, rfl, c, xs, ps, rfl, hc, g, fun H1 D s1 nD hD => ?_⟩
    refine ⟨_, rfl, D, xs, oppP xs ps, rfl, hD, g.opp, fun H2 L s2 nL hL => ?_⟩
    have s12 := s1.trans s2
    refine ⟨_, rfl, a, xs, ps, rfl, hW.same s12, g, fun H3 M s3 nM hM => ?_⟩
    have hM : WAt H3 M xs (oppP xs ps) := hM
    refine ⟨_, _, rfl, sm_world g.opp (hL.same s3) hM, fun H4 s4 => ⟨_, rfl, iteF ?_⟩⟩
    have s14 := (s12.trans s3).trans s4
    refine ⟨_, rfl, c, xs, ps, rfl, hc.same s14, g, fun H5 D2 s5 n5 hD2 => ⟨D2, xs, oppP xs ps, rfl, hD2, g.opp, fun H6 D3 s6 n6 hD3 => ?_⟩⟩
    rw [opp_opp g] at hD3
    have s16 := (s14.trans s5).trans s6
    refine ⟨_, rfl, _, ceq g g hD3 (hc.same s16), fun H7 e7 => ?_⟩
    have e7 : Same H6 H7 := e7
    rw [decide_eq_true ⟨rfl, rfl⟩]
    refine ⟨_, rfl, iteF ?_⟩
    have s17 := s16.trans e7
    have s27 := ((s2.trans (s3.trans s4)).trans (s5.trans s6)).trans e7
    refine ⟨_, rfl, D, xs, oppP xs ps, rfl, hD.same s27, g.opp, fun H8 N1 s8 n8 hN1 => ?_⟩
    refine ⟨_, rfl, c, xs, ps, rfl, hc.same (s17.trans s8), g, fun H9 N2 s9 n9 hN2 => ?_⟩
    refine ⟨by show 2 ≤ sizeLine; decide, fun Z hZ => ?_⟩
    have e10 := same_new (o := .lst [.ref N1, .ref N2]) hZ
    have hZ10 : upd H9 Z (.lst [.ref N1, .ref N2]) Z = some (.lst [.ref N1, .ref N2]) := upd_same
    generalize upd H9 Z (.lst [.ref N1, .ref N2]) = H10 at e10 hZ10 ⊢
    have s910 := s9.trans e10
    have s110 := (s17.trans s8).trans s910
    refine ⟨_, rfl, a, _, _, .ref wc, rfl, rfl, SqL.of (s110 _ _ ha), rfl, wc, rfl, ⟨_, SqL.of (s110 _ _ hwc)⟩, fun R hR => ?_⟩
    refine lc_list (xs := xs.map V.str) (fun i H' => Same H10 H' ∧ H' R = some (.lst (trues i))) ⟨same_new hR, upd_same⟩ (fun i H' _ z => SqL.of ((s110.trans z.1) _ _ hwc)) ?_ ?_
    · rintro i v H11 hv ⟨s11, hr11⟩
      rw [List.getElem?_map] at hv
      obtain ⟨x, hx, rfl⟩ := Option.map_eq_some_iff.mp hv
      have il := (List.getElem?_eq_some_iff.mp hx).1
      have mx := List.mem_of_getElem? hx
      have sA := s910.trans s11
      have dg : ∀ qs : List Pr, (degs xs qs)[i]? = some (V.int ((frs qs x).length : Nat)) := fun qs => by
        unfold degs
        rw [List.getElem?_map, hx]
        rfl
      refine ⟨rfl, _, rfl, Z, _, _, .ref N1, rfl, rfl, SqL.of (s11 _ _ hZ10), rfl, _, rfl, N1, _, rfl, .inl ⟨_, Sum.inr x, .inl (sA _ _ hN1), rfl, (dkv_get g.nd hx (dg _)).symm⟩, ?_⟩
      refine ⟨_, rfl, Z, _, _, .ref N2, rfl, rfl, SqL.of (s11 _ _ hZ10), rfl, _, rfl, N2, _, rfl, .inl ⟨_, Sum.inr x, .inl ((e10.trans s11) _ _ hN2), rfl, (dkv_get g.nd hx (dg _)).symm⟩, _, _, rfl, rfl, ?_⟩
      have d := deg_opp g mx
      refine ⟨_, rfl, a, _, _, .ref wc, rfl, rfl, SqL.of ((s110.trans s11) _ _ ha), rfl, ?_⟩
      refine ⟨wc, _, rfl, .inl (SqL.of ((s110.trans s11) _ _ hwc)), _, _, rfl, rfl, rfl, ?_⟩
      refine ⟨_, hr11, by rw [trues_len, sizeLine_eq]; omega, same_over s11 hR, ?_⟩
      rw [upd_same]
      show some (HO.lst (trues i ++ [V.bl (decide (V.int (((frs (oppP xs ps) x).length : Int) + ((frs ps x).length : Int)) = V.int (((xs.map V.str).length : Int) - 1)))])) = _
      rw [decide_eq_true (congrArg V.int (by rw [List.length_map]; omega)), trues_next]
    · rintro H11 ⟨s11, hr11⟩
      refine ⟨R, _, rfl, SqL.of hr11, ?_⟩
      rw [trues_all]
      exact k H11 (s110.trans s11)
end
end Wd
end
section
set_option maxRecDepth 100000
set_option maxHeartbeats 4000000
namespace Wd
open PySem L2
theorem mk_lt {x y : Str} (ne : x ≠ y) : Lt (mk x y).1 (mk x y).2 := by
  unfold mk
  by_cases h : Lt x y
  · rw [if_pos h]; exact h
  · rw [if_neg h]
    rcases Lt.tri x y with z | z | z
    · exact absurd z h
    · exact absurd z ne
    · exact z
theorem mk_two (x y : Str) : ((mk x y).1 = x ∧ (mk x y).2 = y) ∨ ((mk x y).1 = y ∧ (mk x y).2 = x) := by
  unfold mk
  by_cases h : Lt x y
  · rw [if_pos h]; exact .inl ⟨rfl, rfl⟩
  · rw [if_neg h]; exact .inr ⟨rfl, rfl⟩
theorem cone_nd {xs : List Str} {ps : List Pr} {x : Str} (g : Good xs ps) (nx : x ∉ xs) : (ps ++ xs.map (mk x)).Nodup := by
  rw [List.nodup_append]
  refine ⟨g.nodup, ?_, fun p hp q hq e => ?_⟩
  · refine List.Pairwise.map _ (R := fun a b => a ≠ b ∧ a ∈ xs ∧ b ∈ xs) (fun a b h e => ?_) (List.Pairwise.imp_of_mem (fun {a b} ha hb h => ⟨h, ha, hb⟩) g.nd)
    rcases mk_eq e with ⟨_, z⟩ | ⟨z, _⟩
    · exact h.1 z
    · exact nx (by rw [z]; exact h.2.2)
  · obtain ⟨y, hy, rfl⟩ := List.mem_map.mp hq
    have o := g.of p hp
    rw [e] at o
    rcases mk_two x y with ⟨z, _⟩ | ⟨_, z⟩
    · exact nx (by rw [← z]; exact o.1)
    · exact nx (by rw [← z]; exact o.2.1)
theorem cone_ex {xs : List Str} {ps : List Pr} {x : Str} (g : Good xs ps) (nx : x ∉ xs) (hx : IsW x) (l8 : xs.length ≤ 8) : ∃ zs qs, Good zs qs ∧ (xs ++ [x]).Perm zs ∧ (ps ++ xs.map (mk x)).Perm qs := by
  have mem : ∀ {y : Str}, y ∈ xs ++ [x] ↔ y ∈ xs ∨ y = x := by
    intro y
    rw [List.mem_append, List.mem_singleton]
  refine good_ex ?_ ?_ ?_ ?_ (cone_nd g nx) fun p hp => ?_
  · rw [List.nodup_append]
    exact ⟨g.nd, by simp, fun a ha b hb e => nx (by rw [← List.mem_singleton.mp hb, ← e]; exact ha)⟩
  · intro y hy
    rcases mem.mp hy with h | h
    · exact g.word y h
    · rw [h]; exact hx
  · rw [List.length_append]; show 1 ≤ xs.length + 1; omega
  · rw [List.length_append]; show xs.length + 1 ≤ 9; omega
  · rcases List.mem_append.mp hp with h | h
    · have o := g.of p h
      exact ⟨mem.mpr (.inl o.1), mem.mpr (.inl o.2.1), o.2.2⟩
    · obtain ⟨y, hy, rfl⟩ := List.mem_map.mp h
      have ne : x ≠ y := fun e => nx (by rw [e]; exact hy)
      rcases mk_two x y with ⟨z1, z2⟩ | ⟨z1, z2⟩
      · exact ⟨mem.mpr (.inr z1), mem.mpr (.inl (by rw [z2]; exact hy)), mk_lt ne⟩
      · exact ⟨mem.mpr (.inl (by rw [z1]; exact hy)), mem.mpr (.inr z2), mk_lt ne⟩
theorem cone_cut {xs : List Str} {ps qs : List Pr} {zs : List Str} {x : Str} (g : Good xs ps) (nx : x ∉ xs) (gz : Good zs qs) (pq : (ps ++ xs.map (mk x)).Perm qs) : cutP xs qs = ps := by
  refine asc_uniq (gz.ascP.filter _) g.ascP fun p => ?_
  unfold cutP
  rw [List.mem_filter, ← pq.mem_iff, List.mem_append]
  constructor
  · rintro ⟨h | h, o⟩
    · exact h
    · obtain ⟨y, hy, rfl⟩ := List.mem_map.mp h
      have o := of_decide_eq_true o
      rcases mk_two x y with ⟨z, _⟩ | ⟨_, z⟩
      · exact absurd (by rw [← z]; exact o.1) nx
      · exact absurd (by rw [← z]; exact o.2) nx
  · intro h
    have o := g.of p h
    exact ⟨.inl h, decide_eq_true ⟨o.1, o.2.1⟩⟩
theorem cone_opp {xs zs : List Str} {ps qs : List Pr} {x : Str} (g : Good xs ps) (nx : x ∉ xs) (gz : Good zs qs) (pz : (xs ++ [x]).Perm zs) (pq : (oppP xs ps ++ xs.map (mk x)).Perm qs) : oppP zs qs = ps := by
  have mem : ∀ {y : Str}, y ∈ zs ↔ y ∈ xs ∨ y = x := by
    intro y
    rw [← pz.mem_iff, List.mem_append, List.mem_singleton]
  refine asc_uniq ((prsS_asc gz.asc).filter _) g.ascP fun p => ?_
  unfold oppP
  rw [List.mem_filter]
  constructor
  · rintro ⟨h1, h2⟩
    have h2 : p ∉ qs := of_decide_eq_true h2
    rw [← pq.mem_iff, List.mem_append] at h2
    have m := mem_prsS gz.asc h1
    have e1 : p.1 ∈ xs := by
      rcases mem.mp m.1 with z | z
      · exact z
      · exfalso
        rcases mem.mp m.2.1 with u | u
        · exact h2 (.inr (List.mem_map.mpr ⟨p.2, u, by
            have l : Lt x p.2 := by rw [← z]; exact m.2.2
            unfold mk
            rw [if_pos l, ← z]⟩))
        · exact Lt.irr x (by have l := m.2.2; rw [z, u] at l; exact l)
    have e2 : p.2 ∈ xs := by
      rcases mem.mp m.2.1 with z | z
      · exact z
      · exfalso
        exact h2 (.inr (List.mem_map.mpr ⟨p.1, e1, by
            have l : Lt p.1 x := by rw [← z]; exact m.2.2
            unfold mk
            rw [if_neg fun q => Lt.irr x (q.tr l), ← z]⟩))
    by_cases q : p ∈ ps
    · exact q
    · exact absurd (.inl (List.mem_filter.mpr ⟨prsS_mem g.asc e1 e2 m.2.2, decide_eq_true q⟩)) h2
  · intro h
    have o := g.of p h
    refine ⟨prsS_mem gz.asc (mem.mpr (.inl o.1)) (mem.mpr (.inl o.2.1)) o.2.2, decide_eq_true fun z => ?_⟩
    rcases List.mem_append.mp (pq.mem_iff.mpr z) with u | u
    · exact of_decide_eq_true (List.mem_filter.mp u).2 h
    · obtain ⟨y, hy, rfl⟩ := List.mem_map.mp u
      rcases mk_two x y with ⟨e, _⟩ | ⟨_, e⟩
      · exact nx (by rw [← e]; exact o.1)
      · exact nx (by rw [← e]; exact o.2.1)
end Wd
end
section
set_option maxRecDepth 100000
set_option maxHeartbeats 4000000
namespace KxM
open PySem PySem.Spec PyProof.Rows L2
/-- a sign * 8 -/
theorem op_mul8 {X : Cx} : OpR X (binaryOp .Mult) (fun x y H Q => ∃ c : Nat, x = .str ⟨#[c]⟩ ∧ y = .int 8 ∧ Q (.str ⟨#[c, c, c, c, c, c, c, c]⟩) H) := by
  intro pins s σ H x y v u Q I rx ry h
  obtain ⟨c, rfl, rfl, q⟩ := h
  obtain ⟨t, rfl⟩ := rx
  obtain ⟨t', rfl⟩ := ry
  refine PySem.P.mul_str (by decide) (fun _ _ => by show ¬ ((1 : Nat) : Int) > (2 ^ 63 - 1) / 8; decide) (fun _ _ => by first | rfl | decide) ?_
  rw [if_neg (by decide), if_neg (by show ¬ ((8 : Int) == 1 || (1 : Nat) == 0) = true; decide)]
  refine ⟨by show 8 ≤ sizeLine; decide, ?_⟩
  exact ⟨.str _, H, I.kept (t' := s.toks + 1) fun _ _ e => e, ⟨_, rfl⟩, q⟩
end KxM
end
section
set_option maxRecDepth 100000
set_option maxHeartbeats 4000000
namespace Wd
open PySem L2
def sg (z : Str) : List Str := z.cps.toList.map fun c => ⟨#[c]⟩
theorem sg_signs (z : Str) : Kx.signs z = (sg z).map V.str := by
  unfold Kx.signs sg
  rw [List.map_map]
  rfl
def lettersP : Str := "abcdefghijklmnop"
def lettersZ : Str := "zyxwvutsrq"
def eight (c : Nat) : Str := ⟨#[c, c, c, c, c, c, c, c]⟩
def eights : List Str := lettersZ.cps.toList.map eight
def isWB (x : Str) : Bool := decide (1 ≤ x.cps.toList.length) && (decide (x.cps.toList.length ≤ 8) && x.cps.toList.all fun c => decide (97 ≤ c) && decide (c ≤ 122))
theorem isW_of {x : Str} (h : isWB x = true) : IsW x := by
  unfold isWB at h
  rw [Bool.and_eq_true, Bool.and_eq_true] at h
  refine ⟨of_decide_eq_true h.1, of_decide_eq_true h.2.1, fun c hc => ?_⟩
  have := List.all_eq_true.mp h.2.2 c hc
  rw [Bool.and_eq_true] at this
  exact ⟨of_decide_eq_true this.1, of_decide_eq_true this.2⟩
theorem sgP_w : ∀ x ∈ sg lettersP, IsW x := fun x hx => isW_of (List.all_eq_true.mp (by decide +kernel : (sg lettersP).all isWB = true) x hx)
theorem sgZ_w : ∀ x ∈ eights, IsW x := fun x hx => isW_of (List.all_eq_true.mp (by decide +kernel : eights.all isWB = true) x hx)
def outOf (xs l : List Str) : List Str := l.filter fun x => decide (x ∉ xs)
theorem out_mem {xs l : List Str} {x : Str} (h : x ∈ outOf xs l) : x ∈ l ∧ x ∉ xs := by
  unfold outOf at h
  exact ⟨(List.mem_filter.mp h).1, of_decide_eq_true (List.mem_filter.mp h).2⟩
theorem out_len {xs l : List Str} (nd : l.Nodup) : l.length ≤ (outOf xs l).length + xs.length := by
  have h := filter_split (p := fun y => decide (y ∉ xs)) (q := fun y => decide (y ∈ xs)) (r := fun _ => true) (xs := l) fun y _ => by by_cases e : y ∈ xs <;> simp [e]
  rw [List.filter_eq_self.mpr (fun (_ : Str) _ => rfl : ∀ y ∈ l, (fun _ => true) y = true)] at h
  have h2 : (l.filter fun y => decide (y ∈ xs)).length ≤ xs.length := List.Nodup.length_le_of_subset (nd.filter _) fun y hy => of_decide_eq_true (List.mem_filter.mp hy).2
  unfold outOf
  omega
def spCR (C : Addr) : Sp := fun vs H Q _ => ∃ (c a : Addr) (xs : List Str) (ps : List Pr), vs = [.ref c, .ref a] ∧ CAt C H c xs ps ∧ WAt H a xs ps ∧ Good xs ps ∧ xs.length ≤ 8 ∧ ∀ H', Same H H' → Q (.bl true) H'
section
variable {P : Program} {w : World} {K : PySem.W.Frag} {mg : Str → Option Value} {base : Heap}
theorem ok_coneR {f C : Addr} {fd : FuncData} (F : Fun K "_law_cone_right" "_law_cone_right" s_cone_right f fd) (T : Bt mg) (TC : CT K mg C) (M : Maker P w K mg base C) (NE : HasNe P w K mg base C)
    (CC : HasK P w K mg base 6 "cone" ["company", "person"] ["person", "company"] (spCone C) KxK.swapG KxK.swapG)
    (CX : Has P w K mg base 4 "_law_exact" ["_law_mine", "_law_theirs"] (spExact 3))
    (CL : Has P w K mg base 2 "_law_lists" ["_law_company_here"] (spLsts C))
    (CD : Has P w K mg base 2 "_law_cone" ["_law_world_here", "_law_person"] spConeL)
    (CU : Has P w K mg base 7 "cut_to" ["company", "people"] (spCut C))
    (CO : Has P w K mg base 6 "opposite" ["company"] (spOppC C))
    (CS : Has P w K mg base 6 "side_by_side" ["one", "other"] (spSide C)) :
    FnOk P w K mg base CX0 8 f fd ["_law_company_here", "_law_world_here"] (spCR C) := by
  obtain ⟨fI, fdI, MI, GI, bI⟩ := M.ex
  obtain ⟨fE, dE, GE, eE, nE, bE, neE, miE⟩ := NE
  obtain ⟨fC, dC, GC, mC, kC, bC, kbC⟩ := CC
  obtain ⟨fX, dX, GX, mX, kX, bX⟩ := CX
  obtain ⟨fL, dL, GL, mL, kL, bL⟩ := CL
  obtain ⟨fD, dD, GD, mD, kD, bD⟩ := CD
  obtain ⟨fU, dU, GU, mU, kU, bU⟩ := CU
  obtain ⟨fO, dO, GO, mO, kO, bO⟩ := CO
  obtain ⟨fS, dS, GS, mS, kS, bS⟩ := CS
  refine F.ok c_cone_right (fun vs H Q E h => ?_) (fun cdv A outer s H vs Q E hr h => ?_)
  · obtain ⟨_, _, _, _, rfl, _⟩ := h
    rfl
  · obtain ⟨c, a, xs, ps, rfl, hc, hW, g, x8, k⟩ := h
    have hu := hu_of hr
    have hr1 : Room 1 _ := hr.mono (by decide)
    have hr2 : Room 2 _ := hr.mono (by decide)
    have hr5 : Room 5 _ := hr.mono (by decide)
    have hrX : Room 4 _ := hr.mono (by decide)
    have hrL : Room 2 _ := hr.mono (by decide)
    have hrD : Room 2 _ := hr.mono (by decide)
    have hrU : Room 7 _ := hr.mono (by decide)
    have hrO : Room 6 _ := hr.mono (by decide)
    have hrS : Room 6 _ := hr.mono (by decide)
    have hrC : Room 6 _ := hr.mono (by decide)
    refine ⟨_, pss_cons (ps_set (i := 3) c_cone_right.nd rfl (Or.inl rfl) (pe_slice sl_list (pe_lc (own := [("_law_letter", 2)]) (g := gName 2) rfl c_cone_right.nd (pi_list (pe_callTy (Kx.cr_listS rfl) (by rfl) T.list (by decide +kernel) (pa_cons pe_str pa_nil))) (blkOk_by (N := ["_law_company_here", "_law_world_here", "_law_letter", "_law_fresh", "_law_word_here", "_law_person", "_law_made", "_law_alone"]) (sc := defScope s_cone_right) (by decide +kernel)) (fun _ _ _ _ _ => pg_name (i := 2) c_cone_right.nd rfl (Or.inl rfl)) (fun _ _ _ _ _ => pts_one (pt_cmpR (r := rIn K true) op_notIn_seq (pv 2) (pe_ix (r := rIxL K) ix_list (pv 1) pe_int (fun _ _ => rfl)) rfl)) (fun _ _ _ _ _ => pv 2)) po_none (po_some pe_int)))
      (pss_cons (ps_for PassesOwn.never rfl (pi_list (pe_op op_cat (pv 3) (pe_slice sl_list (pe_lc (own := [("_law_word_here", 4)]) (g := gName 4) rfl c_cone_right.nd (pi_list (pe_lc (own := [("_law_letter", 2)]) (g := gName 2) (tt := tYes) rfl c_cone_right.nd (pi_str pe_str) (blkOk_by (N := ["_law_company_here", "_law_world_here", "_law_letter", "_law_fresh", "_law_word_here", "_law_person", "_law_made", "_law_alone"]) (sc := defScope s_cone_right) (by decide +kernel)) (fun _ _ _ _ _ => pg_name (i := 2) c_cone_right.nd rfl (Or.inl rfl)) (fun _ _ _ _ _ => pts_nil) (fun _ _ _ _ _ => pe_op KxM.op_mul8 (pv 2) pe_int)))
            (blkOk_by (N := ["_law_company_here", "_law_world_here", "_law_letter", "_law_fresh", "_law_word_here", "_law_person", "_law_made", "_law_alone"]) (sc := defScope s_cone_right) (by decide +kernel)) (fun _ _ _ _ _ => pg_name (i := 4) c_cone_right.nd rfl (Or.inl rfl)) (fun _ _ _ _ _ => pts_one (pt_cmpR (r := rIn K true) op_notIn_seq (pv 4) (pe_ix (r := rIxL K) ix_list (pv 1) pe_int (fun _ _ => rfl)) rfl)) (fun _ _ _ _ _ => pv 4)) po_none (po_some pe_int)))) (pg_name (i := 5) c_cone_right.nd rfl (Or.inl rfl))
        (pss_cons (ps_set (i := 6) c_cone_right.nd rfl (Or.inl rfl) (KxK.pe_callK0 GC hrC rfl mC kC kbC pass0 (pk_cons (pv 5) (pk_cons (pv 0) pk_nil))))
        (pss_one (ps_if (PW.pt (pw_or (pt_not (pt_val (pe_call GX hrX rfl mX kX bX .nil pass0 (pa_cons (pe_call GL hrL rfl mL kL bL .nil pass0 (pa_cons (pv 6) pa_nil)) (pa_cons (pe_call GD hrD rfl mD kD bD .nil pass0 (pa_cons (pv 1) (pa_cons (pv 5) pa_nil))) pa_nil)))))
          (pw_or1 (pt_cmpR (op_neB GE eE nE bE pass0 neE miE hr2) (pe_call GU hrU rfl mU kU bU .nil pass0 (pa_cons (pv 6) (pa_cons (pe_callTy call_list_of (by rfl) T.list (by decide +kernel) (pa_cons (pe_ix ix_list (pv 1) pe_int (fun _ _ => rfl)) pa_nil)) pa_nil))) (pv 0) (nomark _))))) (pss_one ps_never) pss_nil))))
      (pss_cons (ps_set (i := 7) c_cone_right.nd rfl (Or.inl rfl) (pe_call GO hrO rfl mO kO bO .nil pass0 (pa_cons (pe_call GC hrC rfl mC kC bC .nil pass0 (pa_cons (pe_call GO hrO rfl mO kO bO .nil pass0 (pa_cons (pv 0) pa_nil)) (pa_cons (pe_ix ix_list (pv 3) pe_int (fun _ _ => rfl)) pa_nil))) pa_nil)))
      (pss_one (ps_ret (pe_and (pe_call GX hrX rfl mX kX bX .nil pass0 (pa_cons (pe_call GL hrL rfl mL kL bL .nil pass0 (pa_cons (pv 7) pa_nil)) (pa_cons (pe_lst (pa_cons (pe_callB cr_sortedS (by rfl) T.sorted (by decide +kernel) (pa_cons (pe_op op_cat (pe_ix ix_list (pv 1) pe_int (fun _ _ => rfl)) (pe_slice sl_list (pv 3) po_none (po_some pe_int))) pa_nil)) (pa_cons (pe_ix ix_list (pv 1) pe_int (fun _ _ => rfl)) pa_nil))) pa_nil)))
        (pe_one (pe_cmpR (op_eqB GE eE nE bE pass0 hr1) (pe_call GS hrS rfl mS kS bS .nil pass0 (pa_cons (pv 0) (pa_cons (pe_make MI GI hr5 rfl TC.mC bI .nil pass0 (pa_cons (pe_slice sl_list (pv 3) po_none (po_some pe_int)) (pa_cons (pe_lst pa_nil) pa_nil))) pa_nil))) (pv 7) (nomark _)))))))), ?_⟩
    obtain ⟨wc, wl, ha, hwc, hwl⟩ := id hW
    have l9 := g.few
    have step : ∀ {l : List Str} {j : Nat} {x : Str}, l[j]? = some x → outOf xs (l.take (j + 1)) = outOf xs (l.take j) ++ (if decide (x ∉ xs) = true then [x] else []) := fun hx => filter_next hx
    refine ⟨lettersP, rfl, by decide +kernel, fun L0 hL0 => ⟨L0, rfl, ⟨_, SqL.of upd_same⟩, fun R hR => ?_⟩⟩
    have s1 := same_new (o := .lst (Kx.signs lettersP)) hL0
    have hL1 : upd H L0 (.lst (Kx.signs lettersP)) L0 = some (.lst ((sg lettersP).map V.str)) := by rw [upd_same, sg_signs]
    generalize upd H L0 (.lst (Kx.signs lettersP)) = H1 at s1 hL1 hR ⊢
    refine lc_list (xs := (sg lettersP).map V.str) (fun i H' => Same H1 H' ∧ H' R = some (.lst ((outOf xs ((sg lettersP).take i)).map V.str))) ⟨same_new hR, upd_same⟩ (fun i H' _ z => SqL.of (z.1 _ _ hL1)) ?_ ?_
    · rintro j v H2 hv ⟨s2, hr2⟩
      rw [List.getElem?_map] at hv
      obtain ⟨x, hx, rfl⟩ := Option.map_eq_some_iff.mp hv
      have hj := (List.getElem?_eq_some_iff.mp hx).1
      have l16 : (sg lettersP).length = 16 := by decide +kernel
      refine ⟨rfl, _, rfl, _, rfl, a, _, _, .ref wc, rfl, rfl, SqL.of ((s1.trans s2) _ _ ha), rfl, wc, _, rfl, .inl (SqL.of ((s1.trans s2) _ _ hwc)), rfl, flat_strs' xs, _, rfl, ?_⟩
      have ei : (!inV (.str x) (xs.map V.str)) = decide (x ∉ xs) := by rw [in_strs, decide_not]
      refine ite2 (fun hb => ?_) (fun hb => ?_)
      · have hb : decide (x ∉ xs) = true := by rw [← ei]; exact hb
        refine ⟨_, rfl, _, hr2, ?_, same_over s2 hR, ?_⟩
        · have h1 := List.length_filter_le (fun x => decide (x ∉ xs)) ((sg lettersP).take j)
          rw [List.length_take] at h1
          rw [List.length_map, outOf, sizeLine_eq]
          omega
        · rw [upd_same, step hx, if_pos hb, List.map_append]
          rfl
      · have hb : ¬ decide (x ∉ xs) = true := by rw [← ei]; exact hb
        refine ⟨s2, ?_⟩
        rw [step hx, if_neg hb, List.append_nil]
        exact hr2
    rintro H2 ⟨s2, hr2⟩
    rw [List.length_map, List.take_length] at hr2
    refine ⟨3, rfl, R, _, rfl, SqL.of hr2, fun Fr hF => ?_⟩
    rw [show (some (3 : Int)) = some ((3 : Nat) : Int) from rfl, cutV_lo, ← List.map_take] at *
    obtain ⟨s3, hF3⟩ := newS (o := .lst (((outOf xs (sg lettersP)).take 3).map V.str)) (s1.trans s2) hF
    generalize upd H2 Fr (.lst (((outOf xs (sg lettersP)).take 3).map V.str)) = H3 at s3 hF3 ⊢
    refine ⟨_, rfl, lettersZ, rfl, fun D hD => ?_⟩
    refine lc_it walk_str (fun i H' => Same H3 H' ∧ H' D = some (.lst (((lettersZ.cps.toList.take i).map eight).map V.str))) ⟨same_new hD, upd_same⟩ (fun _ _ _ _ => True.intro) ?_ ?_
    · rintro i v H4 H' hi ⟨s4, hd4⟩ ⟨rfl, ch, hc, rfl⟩
      have l10 : lettersZ.cps.size = 10 := by decide +kernel
      refine ⟨rfl, _, rfl, ch, rfl, rfl, _, hd4, ?_, same_over s4 hD, ?_⟩
      · rw [List.length_map, List.length_map, List.length_take, sizeLine_eq]
        omega
      · have hc' : lettersZ.cps.toList[i]? = some ch := by rw [Array.getElem?_toList]; exact hc
        rw [upd_same, take_next hc', List.map_append, List.map_append]
        rfl
    rintro H4 ⟨s4, hd4⟩
    rw [List.take_of_length_le (by rw [Array.length_toList]; exact Nat.le_refl _)] at hd4
    have hd4 : H4 D = some (.lst (eights.map V.str)) := hd4
    refine ⟨D, rfl, ⟨_, SqL.of hd4⟩, fun R2 hR2 => ?_⟩
    refine lc_list (xs := eights.map V.str) (fun i H' => Same H4 H' ∧ H' R2 = some (.lst ((outOf xs (eights.take i)).map V.str))) ⟨same_new hR2, upd_same⟩ (fun i H' _ z => SqL.of (z.1 _ _ hd4)) ?_ ?_
    · rintro j v H5 hv ⟨s5, hr5⟩
      rw [List.getElem?_map] at hv
      obtain ⟨x, hx, rfl⟩ := Option.map_eq_some_iff.mp hv
      have l16 : eights.length = 10 := by decide +kernel
      have s05 := (s3.trans s4).trans s5
      refine ⟨rfl, _, rfl, _, rfl, a, _, _, .ref wc, rfl, rfl, SqL.of (s05 _ _ ha), rfl, wc, _, rfl, .inl (SqL.of (s05 _ _ hwc)), rfl, flat_strs' xs, _, rfl, ?_⟩
      have ei : (!inV (.str x) (xs.map V.str)) = decide (x ∉ xs) := by rw [in_strs, decide_not]
      refine ite2 (fun hb => ?_) (fun hb => ?_)
      · have hb : decide (x ∉ xs) = true := by rw [← ei]; exact hb
        refine ⟨_, rfl, _, hr5, ?_, same_over s5 hR2, ?_⟩
        · have h1 := List.length_filter_le (fun x => decide (x ∉ xs)) (eights.take j)
          rw [List.length_take] at h1
          rw [List.length_map, outOf, sizeLine_eq]
          omega
        · rw [upd_same, step hx, if_pos hb, List.map_append]
          rfl
      · have hb : ¬ decide (x ∉ xs) = true := by rw [← ei]; exact hb
        refine ⟨s5, ?_⟩
        rw [step hx, if_neg hb, List.append_nil]
        exact hr5
    rintro H5 ⟨s5, hr5⟩
    rw [List.length_map, List.take_length] at hr5
    refine ⟨1, rfl, R2, _, rfl, SqL.of hr5, fun Wd hW' => ?_⟩
    rw [show (some (1 : Int)) = some ((1 : Nat) : Int) from rfl, cutV_lo, ← List.map_take]
    have s05 := (s3.trans s4).trans s5
    obtain ⟨s6, hW6⟩ := newS (o := .lst (((outOf xs eights).take 1).map V.str)) s05 hW'
    have e6 := same_new (o := .lst (((outOf xs eights).take 1).map V.str)) hW'
    generalize upd H5 Wd (.lst (((outOf xs eights).take 1).map V.str)) = H6 at s6 hW6 e6 ⊢
    have s36 := (s4.trans s5).trans e6
    have hF6 := s36 _ _ hF3
    have lF : ((outOf xs (sg lettersP)).take 3).length ≤ 3 := by rw [List.length_take]; omega
    have lW : ((outOf xs eights).take 1).length ≤ 1 := by rw [List.length_take]; omega
    refine ⟨Fr, Wd, _, _, rfl, rfl, hF6, hW6, by rw [List.length_map, List.length_map, sizeLine_eq]; omega, fun It hIt => ?_⟩
    obtain ⟨s7, hI7⟩ := newS (o := .lst (((outOf xs (sg lettersP)).take 3).map V.str ++ ((outOf xs eights).take 1).map V.str)) s6 hIt
    have e7 := same_new (o := .lst (((outOf xs (sg lettersP)).take 3).map V.str ++ ((outOf xs eights).take 1).map V.str)) hIt
    generalize upd H6 It (.lst (((outOf xs (sg lettersP)).take 3).map V.str ++ ((outOf xs eights).take 1).map V.str)) = H7 at s7 hI7 e7 ⊢
    rw [← List.map_append] at hI7
    have hF7 := e7 _ _ hF6
    have good : ∀ x ∈ (outOf xs (sg lettersP)).take 3 ++ (outOf xs eights).take 1, IsW x ∧ x ∉ xs := fun x hx => by
      rcases List.mem_append.mp hx with z | z
      · have q := out_mem (List.mem_of_mem_take z)
        exact ⟨sgP_w x q.1, q.2⟩
      · have q := out_mem (List.mem_of_mem_take z)
        exact ⟨sgZ_w x q.1, q.2⟩
    refine ⟨It, rfl, ⟨_, SqL.of hI7⟩, ?_⟩
    refine for_list (xs := ((outOf xs (sg lettersP)).take 3 ++ (outOf xs eights).take 1).map V.str) (fun i σ H' => ∃ v5 v6 : Option V, σ = [some (.ref c), some (.ref a), none, some (.ref Fr), none, v5, v6, none] ∧ Same H7 H') ⟨none, none, rfl, Same.refl _⟩ (fun i σ H' _ ⟨_, _, _, z⟩ => SqL.of (z _ _ hI7)) ?_ ?_
    · rintro i v σ H8 hv ⟨v5, v6, rfl, s8⟩
      rw [List.getElem?_map] at hv
      obtain ⟨x, hx, rfl⟩ := Option.map_eq_some_iff.mp hv
      obtain ⟨wx, nx⟩ := good x (List.mem_of_getElem? hx)
      obtain ⟨zs, qs, gz, pz, pq⟩ := cone_ex g nx wx x8
      have s08 := s7.trans s8
      have hc8 := hc.same s08
      refine ⟨_, rfl, _, rfl, c, x, xs, zs, ps, qs, rfl, hc8, g, wx, nx, pz, pq, gz, fun H9 M1 s9 n9 hM1 => ?_⟩
      refine ⟨_, rfl, M1, zs, qs, rfl, hM1, gz, fun H10 L1 s10 n10 hL10 => ?_⟩
      have s010 := (s08.trans s9).trans s10
      refine ⟨_, rfl, _, rfl, a, x, xs, zs, ps, qs, rfl, hW.same s010, g, pz, pq, gz, fun H11 L2 s11 n11 hL11 => ?_⟩
      refine ⟨_, _, rfl, sm_world gz (hL10.same s11) hL11, fun H12 s12 => ⟨_, rfl, iteF ?_⟩⟩
      have s012 := (s010.trans s11).trans s12
      refine ⟨_, rfl, _, rfl, a, _, _, .ref wc, rfl, rfl, SqL.of (s012 _ _ ha), rfl, wc, _, rfl, .inl (SqL.of (s012 _ _ hwc)), fun L3 hL3 => ?_⟩
      have e13 := same_new (o := .lst (xs.map V.str)) hL3
      have gc := gz.cut (List.Perm.refl xs) g.asc (fun z hz => pz.mem_iff.mp (List.mem_append.mpr (.inl hz))) l9.1 l9.2
      have s913 := ((s10.trans s11).trans s12).trans e13
      refine ⟨M1, L3, zs, xs, xs, qs, rfl, hM1.same s913, gz, upd_same, (fun y hy => pz.mem_iff.mp (List.mem_append.mpr (.inl hy))), List.Perm.refl _, gc, fun H14 M2 s14 n14 hM2 => ?_⟩
      rw [cone_cut g nx gz pq] at hM2
      have s014 := (s012.trans e13).trans s14
      refine ⟨_, rfl, _, ceq g g hM2 (hc.same s014), fun H15 e15 => ?_⟩
      have e15 : Same H14 H15 := e15
      rw [decide_eq_true ⟨rfl, rfl⟩]
      exact ⟨_, rfl, iteF ⟨_, _, rfl, ((((s8.trans s9).trans s913).trans s14).trans e15)⟩⟩
    · rintro σ H8 ⟨v5, v6, rfl, s8⟩
      have s08 := s7.trans s8
      have lP : (sg lettersP).length = 16 := by decide +kernel
      have o16 := out_len (xs := xs) (l := sg lettersP) (by decide +kernel)
      obtain ⟨f0, fr, ef⟩ : ∃ f0 fr, outOf xs (sg lettersP) = f0 :: fr := by
        cases h : outOf xs (sg lettersP) with
        | nil => rw [h] at o16; rw [lP] at o16; simp at o16; omega
        | cons f0 fr => exact ⟨f0, fr, rfl⟩
      have mf : f0 ∈ outOf xs (sg lettersP) := by rw [ef]; exact List.mem_cons_self ..
      have wx := sgP_w f0 (out_mem mf).1
      have nx := (out_mem mf).2
      rw [ef] at hF7
      have hF8 : H8 Fr = some (.lst ((f0 :: fr.take 2).map V.str)) := s8 _ _ hF7
      obtain ⟨zs, qs, gz, pz, pq⟩ := cone_ex g.opp nx wx x8
      have gA : Good zs ps := by
        have := gz.opp
        rw [cone_opp g nx gz pz pq] at this
        exact this
      have gF : Good [f0] [] := ⟨List.pairwise_singleton _ _, fun y hy => by rw [List.mem_singleton.mp hy]; exact wx, ⟨by show 1 ≤ 1; decide, by show 1 ≤ 9; decide⟩, List.nil_sublist _⟩
      refine ⟨_, rfl, c, xs, ps, rfl, hc.same s08, g, fun H9 M1 s9 n9 hM1 => ⟨_, rfl, Fr, _, _, .str f0, rfl, rfl, SqL.of (s9 _ _ hF8), atI_nat (j := 0) rfl, M1, f0, xs, zs, oppP xs ps, qs, rfl, hM1, g.opp, wx, nx, pz, pq, gz, fun H10 M2 s10 n10 hM2 => ⟨M2, zs, qs, rfl, hM2, gz, fun H11 Al s11 n11 hAl => ?_⟩⟩⟩
      rw [cone_opp g nx gz pz pq] at hAl
      have s811 := (s9.trans s10).trans s11
      refine ⟨_, rfl, Al, zs, ps, rfl, hAl, gA, fun H12 L1 s12 n12 hL1 => ?_⟩
      have s812 := s811.trans s12
      have s012 := s08.trans s812
      refine ⟨_, rfl, a, _, _, .ref wc, rfl, rfl, SqL.of (s012 _ _ ha), rfl, _, rfl, 1, rfl, Fr, _, rfl, SqL.of (s812 _ _ hF8), fun S1 hS1 => ?_⟩
      have c1 : cutV ((f0 :: fr.take 2).map V.str) none (some 1) = [V.str f0] := by
        rw [show (some (1 : Int)) = some ((1 : Nat) : Int) from rfl, cutV_lo]
        rfl
      rw [c1]
      have e13 := same_new (o := .lst [V.str f0]) hS1
      refine ⟨wc, S1, _, _, rfl, rfl, e13 _ _ (s012 _ _ hwc), upd_same, by rw [List.length_map, sizeLine_eq]; show xs.length + 1 ≤ _; omega, fun Ct hCt => ?_⟩
      obtain ⟨e14, hC14⟩ := newS (o := .lst (xs.map V.str ++ [V.str f0])) e13 hCt
      generalize upd (upd H12 S1 (.lst [V.str f0])) Ct (.lst (xs.map V.str ++ [V.str f0])) = H14 at e14 hC14 ⊢
      refine rd_nil ?_
      refine sort_strs (ys := xs ++ [f0]) (by rw [List.map_append]; exact hC14) pz gA.asc (by rw [List.length_append]; show xs.length + 1 < 64; omega) fun Z hZ => ?_
      obtain ⟨e15, hZ15⟩ := newS (o := .lst (zs.map V.str)) e14 hZ
      generalize upd H14 Z (.lst (zs.map V.str)) = H15 at e15 hZ15 ⊢
      have s015 := s012.trans e15
      refine ⟨_, rfl, a, _, _, .ref wl, rfl, rfl, SqL.of (s015 _ _ ha), rfl, by show 2 ≤ sizeLine; decide, fun Tw hTw => ?_⟩
      have e16 := same_new (o := .lst [.ref Z, .ref wl]) hTw
      have hT16 : upd H15 Tw (.lst [.ref Z, .ref wl]) Tw = some (.lst [.ref Z, .ref wl]) := upd_same
      generalize upd H15 Tw (.lst [.ref Z, .ref wl]) = H16 at e16 hT16 ⊢
      have s016 := s015.trans e16
      refine ⟨_, _, rfl, sm_world gA (hL1.same (e15.trans e16)) ⟨Z, wl, hT16, e16 _ _ hZ15, hwl.same s016⟩, fun H17 s17 => ⟨_, rfl, iteT ?_⟩⟩
      have s817 := ((s812.trans e15).trans e16).trans s17
      have s017 := s08.trans s817
      refine ⟨_, rfl, _, rfl, 1, rfl, Fr, _, rfl, SqL.of (s817 _ _ hF8), fun S2 hS2 => ?_⟩
      rw [c1]
      have e18 := same_new (o := .lst [V.str f0]) hS2
      have hS18 : upd H17 S2 (.lst [V.str f0]) S2 = some (.lst [V.str f0]) := upd_same
      generalize upd H17 S2 (.lst [V.str f0]) = H18 at e18 hS18 ⊢
      refine ⟨by decide, fun E0 hE0 => ?_⟩
      have e19 := same_new (o := .lst []) hE0
      have hE19 : upd H18 E0 (.lst []) E0 = some (.lst []) := upd_same
      generalize upd H18 E0 (.lst []) = H19 at e19 hE19 ⊢
      have s019 := (s017.trans e18).trans e19
      intro i dx' ni ndx nei
      have ni' : upd H19 dx' (.own i) i = none := by rw [upd_ne (Ne.symm nei)]; exact ni
      have e20 : Same H19 (upd (upd H19 dx' (.own i)) i (.ins C dx' [])) := same_updN (same_new ndx) ni'
      refine ⟨i, dx', S2, E0, [f0], [f0], [], [], rfl, upd_same, (e19.trans e20) _ _ hS18, ⟨[], e20 _ _ hE19, Tups.nil⟩, List.Perm.refl _, List.Perm.refl _, gF, fun H21 sx ca => ⟨rfl, ?_⟩⟩
      have s1921 : Same H19 H21 := fun q o e => sx q o (ne_of_none e ni) (e20 _ _ e)
      have s021 := s019.trans s1921
      refine ⟨c, i, xs, [f0], zs, ps, [], ps, rfl, hc.same s021, ca, g, gF, fun x hx z => nx (by rw [← List.mem_singleton.mp z]; exact hx), pz, by rw [List.append_nil], gA, fun H22 Sd s22 n22 hSd => ?_⟩
      have sAl := ((((((s12.trans e15).trans e16).trans s17).trans e18).trans e19).trans s1921).trans s22
      refine ⟨_, rfl, _, ceq gA gA hSd (hAl.same sAl), fun H23 e23 => ?_⟩
      have e23 : Same H22 H23 := e23
      rw [decide_eq_true ⟨rfl, rfl⟩]
      exact k H23 ((s021.trans s22).trans e23)
end
end Wd
end
section
set_option maxRecDepth 100000
set_option maxHeartbeats 4000000
namespace Wd
open PySem L2
def nines : List Str := ["come", "part", "zz", "yy", "xx", "ww", "vv", "uu", "tt"]
theorem nines_w : ∀ x ∈ nines, IsW x := fun x hx => isW_of (List.all_eq_true.mp (by decide +kernel : nines.all isWB = true) x hx)
theorem nines_nd : nines.Nodup := by decide +kernel
def spBes : Sp := fun vs H Q _ => ∃ (p a : Addr) (xs : List Str) (ps : List Pr) (c0 : Int) (n : Nat), vs = [.ref p, .ref a] ∧ PurseAt H p c0 (n + 110) ∧ WAt H a xs ps ∧ Good xs ps ∧ xs.length ≤ 8 ∧
  ∀ (H' : Hp) (D : Addr) (ys : List Str) (qs : List Pr), SameX p H H' → H D = none → WAt H' D ys qs → Good ys qs → (∀ y ∈ ys, y ∉ xs) → xs.length + ys.length ≤ 9 → D ≠ p → PurseAt H' p c0 n → Q (.ref D) H'
section
variable {P : Program} {w : World} {K : PySem.W.Frag} {mg : Str → Option Value} {base : Heap}
theorem ok_beside {f : Addr} {fd : FuncData} (F : Fun K "_law_beside" "_law_beside" s_beside f fd) (T : Bt mg) (CD : Has P w K mg base 2 "_law_draw" ["_law_purse_here", "_law_many"] spDraw)
    (CP : Has P w K mg base 1 "_law_pairs" ["_law_crowd"] spPairs) : FnOk P w K mg base CX0 3 f fd ["_law_purse_here", "_law_world_here"] spBes := by
  obtain ⟨fD, fdD, GD, mD, kD, bD⟩ := CD
  obtain ⟨fP, fdP, GP, mP, kP, bP⟩ := CP
  refine F.ok c_beside (fun vs H Q E h => ?_) (fun cdv A outer s H vs Q E hr h => ?_)
  · obtain ⟨_, _, _, _, _, _, rfl, _⟩ := h
    rfl
  · obtain ⟨p, a, xs, ps, c0, n, rfl, pa, hW, g, x8, k⟩ := h
    have hr1 : Room 1 _ := hr.mono (by decide)
    have hr2 : Room 2 _ := hr.mono (by decide)
    refine ⟨_, pss_cons (ps_setLc (i := 3) (own := [("_law_word_here", 2)]) (g := gName 2) rfl c_beside.nd rfl rfl (sw_true rfl rfl rfl (by decide +kernel)) (pi_list (pe_lst (pa_cons pe_str (pa_cons pe_str (pa_cons pe_str (pa_cons pe_str (pa_cons pe_str (pa_cons pe_str (pa_cons pe_str (pa_cons pe_str (pa_cons pe_str pa_nil)))))))))))
        (blkOk_by (N := ["_law_purse_here", "_law_world_here", "_law_word_here", "_law_words_here", "_law_crowd", "_law_pair_here"]) (sc := defScope s_beside) (by decide +kernel)) (fun _ _ _ _ _ => pg_name (i := 2) c_beside.nd rfl (Or.inl rfl)) (fun _ _ _ _ _ => pts_one (pt_cmpR (r := rIn K true) op_notIn_seq (pv 2) (pe_ix (r := rIxL K) ix_list (pv 1) pe_int (fun _ _ => rfl)) rfl)) (fun _ _ _ _ _ => pv 2))
      (pss_cons (ps_set (i := 4) c_beside.nd rfl (Or.inl rfl) (pe_callB cr_sortedS (by rfl) T.sorted (by decide +kernel) (pa_cons (pe_slice sl_list (pv 3) po_none (po_some (pe_op op_add pe_int (pe_call GD hr2 rfl mD kD bD .nil pass0 (pa_cons (pv 0) (pa_cons (pe_callB (call_min2 rfl) (by rfl) T.min (by decide +kernel)
        (pa_cons (pe_callB call_len_seq (by rfl) T.len PySem.boot_len (pa_cons (pv 3) pa_nil)) (pa_cons (pe_op op_sub pe_int (pe_callB call_len_seq (by rfl) T.len PySem.boot_len (pa_cons (pe_ix ix_list (pv 1) pe_int (fun _ _ => rfl)) pa_nil))) pa_nil))) pa_nil)))))) pa_nil)))
      (pss_one (ps_ret (pe_lst (pa_cons (pv 4) (pa_cons (pe_lc (own := [("_law_pair_here", 5)]) (g := gName 5) rfl c_beside.nd (pi_list (pe_call GP hr1 rfl mP kP bP .nil pass0 (pa_cons (pv 4) pa_nil)))
        (blkOk_by (N := ["_law_purse_here", "_law_world_here", "_law_word_here", "_law_words_here", "_law_crowd", "_law_pair_here"]) (sc := defScope s_beside) (by decide +kernel)) (fun _ _ _ _ _ => pg_name (i := 5) c_beside.nd rfl (Or.inl rfl)) (fun _ _ _ _ _ => pts_one (pt_cmpR op_eq (pe_call GD hr2 rfl mD kD bD .nil pass0 (pa_cons (pv 0) (pa_cons pe_int pa_nil))) pe_int (nomark _)))
        (fun _ _ _ _ _ => pv 5)) pa_nil)))))), ?_⟩
    obtain ⟨wc, wl, ha, hwc, hwl⟩ := id hW
    have l9 := g.few
    have step : ∀ {l : List Str} {j : Nat} {x : Str}, l[j]? = some x → outOf xs (l.take (j + 1)) = outOf xs (l.take j) ++ (if decide (x ∉ xs) = true then [x] else []) := fun hx => filter_next hx
    refine ⟨by show 9 ≤ sizeLine; decide, fun L0 hL0 => ⟨L0, rfl, ⟨_, SqL.of upd_same⟩, fun R hR => ?_⟩⟩
    have s1 := same_new (o := .lst (nines.map V.str)) hL0
    have hL1 : upd H L0 (.lst (nines.map V.str)) L0 = some (.lst (nines.map V.str)) := upd_same
    have hR : upd H L0 (.lst (nines.map V.str)) R = none := hR
    have g1 : ∃ H1, upd H L0 (.lst (nines.map V.str)) = H1 := ⟨_, rfl⟩
    obtain ⟨H1, e1⟩ := g1
    rw [e1] at s1 hL1 hR
    refine lc_list (H1 := upd H L0 (.lst (nines.map V.str))) (xs := nines.map V.str) (fun i H' => Same H1 H' ∧ H' R = some (.lst ((outOf xs (nines.take i)).map V.str))) (by rw [e1]; exact ⟨same_new hR, upd_same⟩) (fun i H' _ z => SqL.of (z.1 _ _ hL1)) ?_ ?_
    · rintro j v H2 hv ⟨s2, hr2'⟩
      rw [List.getElem?_map] at hv
      obtain ⟨x, hx, rfl⟩ := Option.map_eq_some_iff.mp hv
      have hj := (List.getElem?_eq_some_iff.mp hx).1
      have l16 : nines.length = 9 := rfl
      refine ⟨rfl, _, rfl, _, rfl, a, _, _, .ref wc, rfl, rfl, SqL.of ((s1.trans s2) _ _ ha), rfl, wc, _, rfl, .inl (SqL.of ((s1.trans s2) _ _ hwc)), rfl, flat_strs' xs, _, rfl, ?_⟩
      have ei : (!inV (.str x) (xs.map V.str)) = decide (x ∉ xs) := by rw [in_strs, decide_not]
      refine ite2 (fun hb => ?_) (fun hb => ?_)
      · have hb : decide (x ∉ xs) = true := by rw [← ei]; exact hb
        refine ⟨_, rfl, _, hr2', ?_, same_over s2 hR, ?_⟩
        · have h1 := List.length_filter_le (fun x => decide (x ∉ xs)) (nines.take j)
          rw [List.length_take] at h1
          rw [List.length_map, outOf, sizeLine_eq]
          omega
        · rw [upd_same, step hx, if_pos hb, List.map_append]
          rfl
      · have hb : ¬ decide (x ∉ xs) = true := by rw [← ei]; exact hb
        refine ⟨s2, ?_⟩
        rw [step hx, if_neg hb, List.append_nil]
        exact hr2'
    rintro H2 ⟨s2, hr2'⟩
    rw [List.length_map, List.take_length] at hr2'
    have s02 := s1.trans s2
    have pa2 := pa.same s02
    have lw := out_len (xs := xs) (l := nines) nines_nd
    have l9n : nines.length = 9 := rfl
    have lw9 : (outOf xs nines).length ≤ 9 := List.length_filter_le _ _
    refine ⟨_, rfl, _, rfl, _, rfl, R, _, rfl, .inl (SqL.of hr2'), _, rfl, a, _, _, .ref wc, rfl, rfl, SqL.of (s02 _ _ ha), rfl, wc, _, rfl, .inl (SqL.of (s02 _ _ hwc)), _, _, rfl, rfl, _, _, rfl, ?_⟩
    generalize em : (if (9 - ((xs.map V.str).length : Int)) < (((outOf xs nines).map V.str).length : Int) then (9 - ((xs.map V.str).length : Int)) else (((outOf xs nines).map V.str).length : Int)) = m
    have hm : 1 ≤ m ∧ m ≤ 9 - (xs.length : Int) ∧ m ≤ ((outOf xs nines).length : Int) := by
      rw [List.length_map, List.length_map] at em
      rw [← em]
      split <;> omega
    refine ⟨p, m, c0, n + 109, rfl, pa2, hm.1, by omega, fun H3 r r0 r1 sx3 pa3 => ⟨_, _, rfl, rfl, ?_⟩⟩
    obtain ⟨mm, emm, mm1, mm2⟩ : ∃ mm : Nat, (1 + r : Int) = (mm : Int) ∧ 1 ≤ mm ∧ (mm : Int) ≤ m := ⟨(1 + r).toNat, by omega, by omega, by omega⟩
    have Rp : R ≠ p := purse_ne pa2 hr2' fun b' c' t' z' e => by
      have l := congrArg (fun o : HO => match o with | .lst (.int i :: _) => true | _ => false) e
      cases h : outOf xs nines with
      | nil => rw [h] at l; simp at l
      | cons x r => rw [h] at l; simp at l
    have hr3 := sx3 _ _ Rp hr2'
    refine ⟨(mm : Int), congrArg V.int emm, R, _, rfl, SqL.of hr3, fun N hN => ?_⟩
    rw [cutV_lo, ← List.map_take]
    have nNp := purse_none pa3 hN
    have sx4 : SameX p H2 (upd H3 N (.lst (((outOf xs nines).take mm).map V.str))) := sx3.updN (sx3.none hN nNp)
    have hN4 : upd H3 N (.lst (((outOf xs nines).take mm).map V.str)) N = some (.lst (((outOf xs nines).take mm).map V.str)) := upd_same
    have pa4 := pa3.upd (o := .lst (((outOf xs nines).take mm).map V.str)) nNp
    generalize upd H3 N (.lst (((outOf xs nines).take mm).map V.str)) = H4 at sx4 hN4 pa4 ⊢
    obtain ⟨ys, ay, py⟩ := asc_ex ((outOf xs nines).take mm) ((nines_nd.filter _).take)
    have ly := py.length_eq
    rw [List.length_take] at ly
    have my : ∀ y ∈ ys, IsW y ∧ y ∉ xs := fun y hy => by
      have q := out_mem (List.mem_of_mem_take (py.mem_iff.mpr hy))
      exact ⟨nines_w y q.1, q.2⟩
    refine rd_nil ?_
    refine sort_strs hN4 py ay (by rw [List.length_take]; omega) fun Z hZ => ?_
    have nZp := purse_none pa4 hZ
    have sx5 : SameX p H2 (upd H4 Z (.lst (ys.map V.str))) := sx4.updN (sx4.none hZ nZp)
    have hZ5 : upd H4 Z (.lst (ys.map V.str)) Z = some (.lst (ys.map V.str)) := upd_same
    have pa5 := pa4.upd (o := .lst (ys.map V.str)) nZp
    have e45 := same_new (o := .lst (ys.map V.str)) hZ
    generalize upd H4 Z (.lst (ys.map V.str)) = H5 at sx5 hZ5 pa5 e45 ⊢
    have gy : Good ys [] := ⟨ay, fun y hy => (my y hy).1, by omega, List.nil_sublist _⟩
    refine ⟨_, rfl, _, rfl, Z, ys.map V.str, rfl, hZ5, by rw [List.length_map]; omega, fun H6 D s6 nD ⟨Ts, hd, tu⟩ => ⟨D, rfl, ⟨_, SqL.of hd⟩, fun Cc hC => ?_⟩⟩
    rw [prs_strs] at tu
    have lT : Ts.length = (prsS ys).length := by rw [tu.1, List.length_map]
    have l36 := Good.len0 gy.few.2
    have sx6 : SameX p H2 H6 := sx5.trans (SameX.of s6)
    have pa6 := pa5.same s6
    have nD2 : D ≠ p := purse_none pa5 nD
    have nC := purse_none pa6 hC
    refine lc_list (xs := Ts.map V.ref) (fun j H3 => ∃ (Us : List Addr) (qs : List Pr), H3 Cc = some (.lst (Us.map V.ref)) ∧ SameX p H6 H3 ∧ Tups H3 Us (qs.map tv) ∧ qs.Sublist ((prsS ys).take j) ∧ PurseAt H3 p c0 (n + (100 - j)))
      ⟨[], [], upd_same, (SameX.refl p H6).updN hC, Tups.nil, List.nil_sublist _, (pa6.upd nC).less (by omega)⟩ (fun j H3 _ ⟨Us, qs, _, s6, _⟩ => SqL.of (s6 _ _ nD2 hd)) ?_ ?_
    · rintro j v H3 hv ⟨Us, qs, hu, s6, tu2, sb, pa3⟩
      rw [List.getElem?_map] at hv
      obtain ⟨T0, hT, rfl⟩ := Option.map_eq_some_iff.mp hv
      have jl := (List.getElem?_eq_some_iff.mp hT).1
      have hq : (prsS ys)[j]? = some (prsS ys)[j] := List.getElem?_eq_getElem (by omega)
      generalize (prsS ys)[j] = q at hq
      have e1' := tu.2 j T0 (tv q) hT (by rw [List.getElem?_map, hq]; rfl)
      have e0 : n + (100 - j) = n + (100 - (j + 1)) + 1 := by omega
      rw [e0] at pa3
      refine ⟨rfl, _, rfl, p, _, c0, _, rfl, pa3, by decide, by decide, fun H4 u u0 u1 s7 pa4 => ⟨rfl, _, rfl, ?_⟩⟩
      have Cp : Cc ≠ p := nC
      have T0p : T0 ≠ p := purse_ne pa6 e1' fun _ _ _ _ z => nomatch z
      have e1 := s7 _ _ T0p (s6 _ _ T0p e1')
      have hu4 := s7 _ _ Cp hu
      have tu4 : Tups H4 Us (qs.map tv) := tu2.keep fun T o hT' e => by
        obtain ⟨y, _, ey⟩ := tu2.at hT'
        exact s7 _ _ (purse_ne pa3 ey fun _ _ _ _ z => nomatch z) e
      refine ite2 (fun hb => ?_) (fun hb => ?_)
      · have lu : Us.length ≤ 36 := by
          rw [tu2.1, List.length_map]
          have h1 := sb.length_le
          rw [List.length_take] at h1
          omega
        refine ⟨_, rfl, _, hu4, by rw [List.length_map, sizeLine_eq]; omega, Us ++ [T0], qs ++ [q], by rw [upd_same]; simp, fun b o nb e => ?_, ?_, ?_, pa4.upd Cp⟩
        · rw [upd_ne (ne_of_none e hC)]
          exact s7 _ _ nb (s6 _ _ nb e)
        · rw [List.map_append]
          have t3 := tu4.upd (a := Cc) (o := .lst (Us.map V.ref ++ [V.ref T0])) fun x y e => by
            rw [hu4] at e
            cases e
          exact t3.snoc (p := tv q) (by rw [upd_ne (ne_of hu4 e1 (fun z => nomatch z)).symm]; exact e1)
        · rw [take_next hq]
          exact sb.append (List.Sublist.refl _)
      · refine ⟨Us, qs, hu4, s6.trans s7, tu4, ?_, pa4⟩
        rw [take_next hq]
        exact sb.trans (List.sublist_append_left _ _)
    · rintro H7 ⟨Us, qs, hu, s7, tu2, sb, pa7⟩
      rw [List.length_map, lT, List.take_length] at sb
      refine ⟨by show 2 ≤ sizeLine; decide, fun Y hY => ?_⟩
      have nY := purse_none pa7 hY
      have sx := ((SameX.of s02).trans sx6).trans s7
      have hZ7 := s7 _ _ nZp (s6 _ _ hZ5)
      refine k _ Y ys qs (sx.updN (sx.none hY nY)) (sx.none hY nY) ⟨Z, Cc, upd_same, ?_, Us, by rw [upd_ne (ne_of_none hu hY)]; exact hu, tu2.keep fun T o _ e => by rw [upd_ne (ne_of_none e hY)]; exact e⟩ ⟨ay, gy.word, gy.few, sb⟩ (fun y hy => (my y hy).2) (by omega) nY ((pa7.upd nY).less (by omega))
      rw [upd_ne (ne_of_none hZ7 hY)]
      exact hZ7
end
end Wd
end
section
set_option maxRecDepth 100000
set_option maxHeartbeats 4000000
namespace Wd
open PySem L2
theorem cutP_perm {xs ys : List Str} {ps : List Pr} (pm : xs.Perm ys) : cutP xs ps = cutP ys ps := by
  unfold cutP
  refine List.filter_congr fun p _ => ?_
  exact decide_eq_decide.mpr ⟨fun z => ⟨pm.mem_iff.mp z.1, pm.mem_iff.mp z.2⟩, fun z => ⟨pm.mem_iff.mpr z.1, pm.mem_iff.mpr z.2⟩⟩
theorem side_nd {xs ys : List Str} {ps qs : List Pr} (g : Good xs ps) (g' : Good ys qs) (dis : ∀ y ∈ ys, y ∉ xs) : (ps ++ qs).Nodup := by
  rw [List.nodup_append]
  exact ⟨g.nodup, g'.nodup, fun p hp q hq e => dis _ (g'.of q hq).1 (by rw [← e]; exact (g.of p hp).1)⟩
theorem side_ex {xs ys : List Str} {ps qs : List Pr} (g : Good xs ps) (g' : Good ys qs) (dis : ∀ y ∈ ys, y ∉ xs) (l9 : xs.length + ys.length ≤ 9) : ∃ zs rs, Good zs rs ∧ (xs ++ ys).Perm zs ∧ (ps ++ qs).Perm rs := by
  refine good_ex ?_ ?_ ?_ ?_ (side_nd g g' dis) fun p hp => ?_
  · rw [List.nodup_append]
    exact ⟨g.nd, g'.nd, fun a ha b hb e => dis b hb (by rw [← e]; exact ha)⟩
  · intro y hy
    rcases List.mem_append.mp hy with h | h
    · exact g.word y h
    · exact g'.word y h
  · rw [List.length_append]; have := g.few; omega
  · rw [List.length_append]; omega
  · rcases List.mem_append.mp hp with h | h
    · have o := g.of p h
      exact ⟨List.mem_append.mpr (.inl o.1), List.mem_append.mpr (.inl o.2.1), o.2.2⟩
    · have o := g'.of p h
      exact ⟨List.mem_append.mpr (.inr o.1), List.mem_append.mpr (.inr o.2.1), o.2.2⟩
theorem side_cut {xs ys zs : List Str} {ps qs rs : List Pr} (g : Good xs ps) (g' : Good ys qs) (dis : ∀ y ∈ ys, y ∉ xs) (gz : Good zs rs) (pr : (ps ++ qs).Perm rs) : cutP xs rs = ps ∧ cutP ys rs = qs := by
  constructor
  · refine asc_uniq (gz.ascP.filter _) g.ascP fun p => ?_
    unfold cutP
    rw [List.mem_filter, ← pr.mem_iff, List.mem_append]
    constructor
    · rintro ⟨h | h, o⟩
      · exact h
      · exact absurd (of_decide_eq_true o).1 (dis _ (g'.of p h).1)
    · intro h
      have o := g.of p h
      exact ⟨.inl h, decide_eq_true ⟨o.1, o.2.1⟩⟩
  · refine asc_uniq (gz.ascP.filter _) g'.ascP fun p => ?_
    unfold cutP
    rw [List.mem_filter, ← pr.mem_iff, List.mem_append]
    constructor
    · rintro ⟨h | h, o⟩
      · exact absurd (g.of p h).1 (dis _ (of_decide_eq_true o).1)
      · exact h
    · intro h
      have o := g'.of p h
      exact ⟨.inr h, decide_eq_true ⟨o.1, o.2.1⟩⟩
/-- all pairs between two lots of people -/
def acrP (xs ys : List Str) : List Pr := xs.flatMap fun x => ys.map (mk x)
theorem mem_acr {xs ys : List Str} {p : Pr} : p ∈ acrP xs ys ↔ ∃ x ∈ xs, ∃ y ∈ ys, mk x y = p := by
  unfold acrP
  rw [List.mem_flatMap]
  exact ⟨fun ⟨x, hx, h⟩ => ⟨x, hx, let ⟨y, hy, e⟩ := List.mem_map.mp h; ⟨y, hy, e⟩⟩, fun ⟨x, hx, y, hy, e⟩ => ⟨x, hx, List.mem_map.mpr ⟨y, hy, e⟩⟩⟩
theorem acr_nd : ∀ {xs ys : List Str}, xs.Nodup → ys.Nodup → (∀ y ∈ ys, y ∉ xs) → (acrP xs ys).Nodup
  | [], _, _, _, _ => List.nodup_nil
  | x :: xs, ys, nx, ny, dis => by
    obtain ⟨n1, n2⟩ := List.nodup_cons.mp nx
    show (ys.map (mk x) ++ acrP xs ys).Nodup
    rw [List.nodup_append]
    refine ⟨?_, acr_nd n2 ny fun y hy z => dis y hy (List.mem_cons_of_mem _ z), fun p hp q hq e => ?_⟩
    · refine List.Pairwise.map _ (R := fun a b => a ≠ b ∧ a ∈ ys ∧ b ∈ ys) (fun a b h e => ?_) (List.Pairwise.imp_of_mem (fun {a b} ha hb h => ⟨h, ha, hb⟩) ny)
      rcases mk_eq e with ⟨_, z⟩ | ⟨z, _⟩
      · exact h.1 z
      · exact dis b h.2.2 (by rw [← z]; exact List.mem_cons_self ..)
    · obtain ⟨y, hy, rfl⟩ := List.mem_map.mp hp
      obtain ⟨x', hx', y', hy', e'⟩ := mem_acr.mp hq
      rcases mk_eq (e.trans e'.symm) with ⟨z, _⟩ | ⟨z, _⟩
      · exact n1 (by rw [z]; exact hx')
      · exact dis y' hy' (by rw [← z]; exact List.mem_cons_self ..)
theorem side_opp {xs ys zs : List Str} {ps qs rs : List Pr} (g : Good xs ps) (g' : Good ys qs) (dis : ∀ y ∈ ys, y ∉ xs) (gz : Good zs rs) (pz : (xs ++ ys).Perm zs) (pr : (ps ++ qs).Perm rs) : (oppP xs ps ++ oppP ys qs ++ acrP xs ys).Perm (oppP zs rs) := by
  have nd1 := side_nd g.opp g'.opp dis
  have mix : ∀ {x y : Str}, x ∈ xs → y ∈ ys → x ≠ y := fun hx hy e => dis _ hy (by rw [← e]; exact hx)
  have nd : (oppP xs ps ++ oppP ys qs ++ acrP xs ys).Nodup := by
    rw [List.nodup_append]
    refine ⟨nd1, acr_nd g.nd g'.nd dis, fun p hp q hq e => ?_⟩
    obtain ⟨x, hx, y, hy, e'⟩ := mem_acr.mp hq
    rw [← e'] at e
    rcases List.mem_append.mp hp with h | h
    · have o := g.opp.of p h
      rw [e] at o
      rcases mk_two x y with ⟨_, z⟩ | ⟨z, _⟩
      · exact dis y hy (by rw [← z]; exact o.2.1)
      · exact dis y hy (by rw [← z]; exact o.1)
    · have o := g'.opp.of p h
      rw [e] at o
      rcases mk_two x y with ⟨z, _⟩ | ⟨_, z⟩
      · exact dis x (by rw [← z]; exact o.1) hx
      · exact dis x (by rw [← z]; exact o.2.1) hx
  refine (List.perm_ext_iff_of_nodup nd ((prsS_nd gz.asc).filter _)).mpr fun p => ?_
  have memz : ∀ {z : Str}, z ∈ zs ↔ z ∈ xs ∨ z ∈ ys := by
    intro z
    rw [← pz.mem_iff, List.mem_append]
  have notr : ∀ {p : Pr}, p ∈ rs ↔ p ∈ ps ∨ p ∈ qs := by
    intro p
    rw [← pr.mem_iff, List.mem_append]
  unfold oppP
  rw [List.mem_append, List.mem_append, List.mem_filter, List.mem_filter, List.mem_filter]
  constructor
  · rintro ((⟨h1, h2⟩ | ⟨h1, h2⟩) | h)
    · have h2 := of_decide_eq_true h2
      have m := mem_prsS g.asc h1
      refine ⟨prsS_mem gz.asc (memz.mpr (.inl m.1)) (memz.mpr (.inl m.2.1)) m.2.2, decide_eq_true fun z => ?_⟩
      rcases notr.mp z with u | u
      · exact h2 u
      · exact dis _ (g'.of p u).1 m.1
    · have h2 := of_decide_eq_true h2
      have m := mem_prsS g'.asc h1
      refine ⟨prsS_mem gz.asc (memz.mpr (.inr m.1)) (memz.mpr (.inr m.2.1)) m.2.2, decide_eq_true fun z => ?_⟩
      rcases notr.mp z with u | u
      · exact dis _ m.1 (g.of p u).1
      · exact h2 u
    · obtain ⟨x, hx, y, hy, rfl⟩ := mem_acr.mp h
      refine ⟨mk_mem gz.asc (memz.mpr (.inl hx)) (memz.mpr (.inr hy)) (mix hx hy), decide_eq_true fun z => ?_⟩
      rcases notr.mp z with u | u
      · have o := g.of _ u
        rcases mk_two x y with ⟨_, z⟩ | ⟨z, _⟩
        · exact dis y hy (by rw [← z]; exact o.2.1)
        · exact dis y hy (by rw [← z]; exact o.1)
      · have o := g'.of _ u
        rcases mk_two x y with ⟨z, _⟩ | ⟨_, z⟩
        · exact dis x (by rw [← z]; exact o.1) hx
        · exact dis x (by rw [← z]; exact o.2.1) hx
  · rintro ⟨h1, h2⟩
    have h2 : p ∉ rs := of_decide_eq_true h2
    have m := mem_prsS gz.asc h1
    rcases memz.mp m.1 with u | u <;> rcases memz.mp m.2.1 with v | v
    · exact .inl (.inl ⟨prsS_mem g.asc u v m.2.2, decide_eq_true fun z => h2 (notr.mpr (.inl z))⟩)
    · refine .inr (mem_acr.mpr ⟨p.1, u, p.2, v, ?_⟩)
      unfold mk
      rw [if_pos m.2.2]
    · refine .inr (mem_acr.mpr ⟨p.2, v, p.1, u, ?_⟩)
      unfold mk
      rw [if_neg fun q => Lt.irr _ (q.tr m.2.2)]
    · exact .inl (.inr ⟨prsS_mem g'.asc u v m.2.2, decide_eq_true fun z => h2 (notr.mpr (.inr z))⟩)
end Wd
end
section
set_option maxRecDepth 100000
set_option maxHeartbeats 4000000
namespace Wd
open PySem L2
theorem acr_len (xs ys : List Str) : (acrP xs ys).length = xs.length * ys.length := by
  unfold acrP
  induction xs with
  | nil => simp
  | cons x xs ih => rw [List.flatMap_cons, List.length_append, List.length_map, ih, List.length_cons, Nat.succ_mul, Nat.add_comm]
theorem acr_next {xs ys : List Str} {i : Nat} {x : Str} (h : xs[i]? = some x) : acrP (xs.take (i + 1)) ys = acrP (xs.take i) ys ++ ys.map (mk x) := by
  unfold acrP
  rw [take_next h, List.flatMap_append]
  simp
def spSR (C : Addr) : Sp := fun vs H Q _ => ∃ (p c a : Addr) (xs : List Str) (ps : List Pr) (c0 : Int) (n : Nat), vs = [.ref p, .ref c, .ref a] ∧ PurseAt H p c0 (n + 110) ∧ CAt C H c xs ps ∧ WAt H a xs ps ∧ Good xs ps ∧ xs.length ≤ 8 ∧ ∀ H', SameX p H H' → PurseAt H' p c0 n → Q (.bl true) H'
section
variable {P : Program} {w : World} {K : PySem.W.Frag} {mg : Str → Option Value} {base : Heap}
theorem ok_sideR {f C : Addr} {fd : FuncData} (F : Fun K "_law_side_right" "_law_side_right" s_side_right f fd) (T : Bt mg) (TC : CT K mg C) (NE : HasNe P w K mg base C) (MF : HasM P w K mg base C 1 "friends" (spFrM C))
    (CS : HasK P w K mg base 6 "side_by_side" ["one", "other"] ["other", "one"] (spSide C) KxK.swapG KxK.swapG)
    (CX : Has P w K mg base 4 "_law_exact" ["_law_mine", "_law_theirs"] (spExact 3))
    (CY : Has P w K mg base 5 "_law_exact" ["_law_mine", "_law_theirs"] (spExact 4))
    (CL : Has P w K mg base 2 "_law_lists" ["_law_company_here"] (spLsts C))
    (CD : Has P w K mg base 2 "_law_cone" ["_law_world_here", "_law_person"] spConeL)
    (CU : Has P w K mg base 7 "cut_to" ["company", "people"] (spCut C))
    (CO : Has P w K mg base 6 "opposite" ["company"] (spOppC C))
    (CC : Has P w K mg base 6 "cone" ["company", "person"] (spCone C))
    (CB : Has P w K mg base 3 "_law_beside" ["_law_purse_here", "_law_world_here"] spBes)
    (CK : Has P w K mg base 6 "_law_company" ["_law_world_here"] (spComp C))
    (CQ : Has P w K mg base 1 "_law_pair" ["_law_first", "_law_second"] spPair)
    (CP : Has P w K mg base 2 "_law_opposite" ["_law_world_here"] spOpp) :
    FnOk P w K mg base CX0 8 f fd ["_law_purse_here", "_law_company_here", "_law_world_here"] (spSR C) := by
  obtain ⟨fE, dE, GE, eE, nE, bE, neE, miE⟩ := NE
  obtain ⟨fF, dF, GF, mF, bF⟩ := MF
  obtain ⟨fS, dS, GS, mS, kS, bS, kbS⟩ := CS
  obtain ⟨fX, dX, GX, mX, kX, bX⟩ := CX
  obtain ⟨fY, dY, GY, mY, kY, bY⟩ := CY
  obtain ⟨fL, dL, GL, mL, kL, bL⟩ := CL
  obtain ⟨fD, dD, GD, mD, kD, bD⟩ := CD
  obtain ⟨fU, dU, GU, mU, kU, bU⟩ := CU
  obtain ⟨fO, dO, GO, mO, kO, bO⟩ := CO
  obtain ⟨fC, dC, GC, mC, kC, bC⟩ := CC
  obtain ⟨fB, dB, GB, mB, kB, bB⟩ := CB
  obtain ⟨fK, dK, GK, mK, kK, bK⟩ := CK
  obtain ⟨fQ, dQ, GQ, mQ, kQ, bQ⟩ := CQ
  obtain ⟨fP, dP, GP, mP, kP, bP⟩ := CP
  refine F.ok c_side_right (fun vs H Q E h => ?_) (fun cdv A outer s H vs Q E hr h => ?_)
  · obtain ⟨_, _, _, _, _, _, _, rfl, _⟩ := h
    rfl
  · obtain ⟨p, c, a, xs, ps, c0, n, rfl, pa, hc, hW, g, x8, k⟩ := h
    have hrX : Room 4 _ := hr.mono (by decide)
    have hrY : Room 5 _ := hr.mono (by decide)
    have hrL : Room 2 _ := hr.mono (by decide)
    have hrD : Room 2 _ := hr.mono (by decide)
    have hrU : Room 7 _ := hr.mono (by decide)
    have hrO : Room 6 _ := hr.mono (by decide)
    have hrC : Room 6 _ := hr.mono (by decide)
    have hrB : Room 3 _ := hr.mono (by decide)
    have hrK : Room 6 _ := hr.mono (by decide)
    have hrQ : Room 1 _ := hr.mono (by decide)
    have hrP : Room 2 _ := hr.mono (by decide)
    have hrS : Room 6 _ := hr.mono (by decide)
    have hr1 : Room 1 _ := hr.mono (by decide)
    have hr2 : Room 2 _ := hr.mono (by decide)
    refine ⟨_, (pss_cons (ps_set (i := 3) c_side_right.nd rfl (Or.inl rfl) (pe_call GB hrB rfl mB kB bB .nil pass0 (pa_cons (pv 0) (pa_cons (pv 2) pa_nil))))
      (pss_cons (ps_set (i := 4) c_side_right.nd rfl (Or.inl rfl) (pe_call GK hrK rfl mK kK bK .nil pass0 (pa_cons (pv 3) pa_nil)))
      (pss_cons (ps_set (i := 5) c_side_right.nd rfl (Or.inl rfl) (KxK.pe_callK0 GS hrS rfl mS kS kbS pass0 (pk_cons (pv 4) (pk_cons (pv 1) pk_nil))))
      (pss_cons (ps_if (pt_not (pt_val (pe_call GX hrX rfl mX kX bX .nil pass0 (pa_cons (pe_call GL hrL rfl mL kL bL .nil pass0 (pa_cons (pv 5) pa_nil)) (pa_cons (pe_lst (pa_cons (pe_callB cr_sortedS (by rfl) T.sorted (by decide +kernel) (pa_cons (pe_op op_cat (pe_ix ix_list (pv 2) pe_int (fun _ _ => rfl)) (pe_ix ix_list (pv 3) pe_int (fun _ _ => rfl))) pa_nil)) (pa_cons (pe_callB (Kx.cr_sortedD hr.units) (by rfl) T.sorted (by decide +kernel) (pa_cons (pe_op op_cat (pe_ix ix_list (pv 2) pe_int (fun _ _ => rfl)) (pe_ix ix_list (pv 3) pe_int (fun _ _ => rfl))) pa_nil)) pa_nil))) pa_nil))))) (pss_one ps_never) pss_nil)
      (pss_cons (ps_par (i := 6) (j := 7) rfl c_side_right.nd rfl rfl (by decide) rfl rfl (pa_cons (pe_ix ix_list (pe_ix ix_list (pv 2) pe_int (fun _ _ => rfl)) pe_int (fun _ _ => rfl)) (pa_cons (pe_ix ix_list (pe_ix ix_list (pv 3) pe_int (fun _ _ => rfl)) (pe_un un_neg pe_int) (fun _ _ => rfl)) pa_nil)) (by rfl))
      (pss_cons (ps_if (pt_not (pt_val (pe_call GY hrY rfl mY kY bY .nil pass0 (pa_cons (pe_lst (pa_cons (pe_call GL hrL rfl mL kL bL .nil pass0 (pa_cons (pe_call GC hrC rfl mC kC bC .nil pass0 (pa_cons (pv 4) (pa_cons (pv 6) pa_nil))) pa_nil)) (pa_cons (pe_call GL hrL rfl mL kL bL .nil pass0 (pa_cons (pe_call GC hrC rfl mC kC bC .nil pass0 (pa_cons (pv 1) (pa_cons (pv 7) pa_nil))) pa_nil)) pa_nil))) (pa_cons (pe_lst (pa_cons (pe_call GD hrD rfl mD kD bD .nil pass0 (pa_cons (pv 3) (pa_cons (pv 6) pa_nil))) (pa_cons (pe_call GD hrD rfl mD kD bD .nil pass0 (pa_cons (pv 2) (pa_cons (pv 7) pa_nil))) pa_nil))) pa_nil))))) (pss_one ps_never) pss_nil)
      (pss_cons (ps_if (PW.pt (pw_or (pt_cmpR (op_neB GE eE nE bE pass0 neE miE hr2) (pe_call GS hrS rfl mS kS bS .nil pass0 (pa_cons (pv 4) (pa_cons (pv 1) pa_nil))) (pv 5) (nomark _)) (pw_or (pt_cmpR (op_neB GE eE nE bE pass0 neE miE hr2) (pe_call GU hrU rfl mU kU bU .nil pass0 (pa_cons (pv 5) (pa_cons (pe_revL (pe_ix ix_list (pv 2) pe_int (fun _ _ => rfl))) pa_nil))) (pv 1) (nomark _)) (pw_or1 (pt_cmpR (op_neB GE eE nE bE pass0 neE miE hr2) (pe_call GU hrU rfl mU kU bU .nil pass0 (pa_cons (pv 5) (pa_cons (pe_callTy call_list_of (by rfl) T.list (by decide +kernel) (pa_cons (pe_ix ix_list (pv 3) pe_int (fun _ _ => rfl)) pa_nil)) pa_nil))) (pv 4) (nomark _)))))) (pss_one ps_never) pss_nil)
      (pss_cons (ps_set (i := 8) c_side_right.nd rfl (Or.inl rfl) (pe_lst pa_nil))
      (pss_cons (ps_for PassesOwn.never rfl (pi_list (pe_ix ix_list (pv 2) pe_int (fun _ _ => rfl))) (pg_name (i := 9) c_side_right.nd rfl (Or.inr rfl))
        (pss_one (ps_set (i := 8) c_side_right.nd rfl (Or.inl rfl) (pe_op op_cat (pv 8) (pe_lc (own := [("_law_late", 10)]) (g := gName 10) (tt := tYes) rfl c_side_right.nd (pi_list (pe_ix ix_list (pv 3) pe_int (fun _ _ => rfl))) (blkOk_by (N := ["_law_purse_here", "_law_company_here", "_law_world_here", "_law_beside_here", "_law_other", "_law_made", "_law_first", "_law_second", "_law_across", "_law_one", "_law_late", "_law_whole"]) (sc := defScope s_side_right) (by decide +kernel)) (fun _ _ _ _ _ => pg_name (i := 10) c_side_right.nd rfl (Or.inl rfl)) (fun _ _ _ _ _ => pts_nil)
          (fun _ _ _ _ _ => (pe_call GQ hrQ rfl mQ kQ bQ .nil pass0 (pa_cons (pv 9) (pa_cons (pv 10) pa_nil)))))))))
      (pss_cons (ps_set (i := 11) c_side_right.nd rfl (Or.inl rfl) (pe_callB (Kx.cr_sortedD hr.units) (by rfl) T.sorted (by decide +kernel) (pa_cons (pe_op op_cat (pe_op op_cat (pe_ix ix_list (pe_call GP hrP rfl mP kP bP .nil pass0 (pa_cons (pv 2) pa_nil)) pe_int (fun _ _ => rfl)) (pe_ix ix_list (pe_call GP hrP rfl mP kP bP .nil pass0 (pa_cons (pv 3) pa_nil)) pe_int (fun _ _ => rfl))) (pv 8)) pa_nil)))
      (pss_one (ps_ret (pe_and (pe_call GX hrX rfl mX kX bX .nil pass0 (pa_cons (pe_meth0 (pe_call GO hrO rfl mO kO bO .nil pass0 (pa_cons (pv 5) pa_nil)) TC.is.cl mF GF hr1 bF .nil pass0) (pa_cons (pv 11) pa_nil))) (pe_one (pe_call GY hrY rfl mY kY bY .nil pass0 (pa_cons (pe_lst (pa_cons (pe_call GL hrL rfl mL kL bL .nil pass0 (pa_cons (pv 1) pa_nil)) (pa_cons (pe_call GL hrL rfl mL kL bL .nil pass0 (pa_cons (pv 4) pa_nil)) pa_nil))) (pa_cons (pe_lst (pa_cons (pv 2) (pa_cons (pv 3) pa_nil))) pa_nil))))))))))))))))), ?_⟩
    refine ⟨_, rfl, _, rfl, p, a, xs, ps, c0, n, rfl, pa, hW, g, x8, fun H1 Bs ys qs sx1 nB hB g' dis l9 nBp pa1 => ?_⟩
    have hc1 := hc.sameX pa sx1
    have hW1 := hW.sameX pa sx1
    obtain ⟨wc, wl, ha, hwc, Ps, hwl, tp⟩ := id hW1
    obtain ⟨bc, bl, hb, hbc, Qs, hbl, tq⟩ := id hB
    have gx := g.few
    have gy := g'.few
    have gl := g.len
    have gl' := g'.len
    have lP : Ps.length = ps.length := by rw [tp.1, List.length_map]
    have lQ : Qs.length = qs.length := by rw [tq.1, List.length_map]
    have dis' : ∀ x ∈ xs, x ∉ ys := fun x hx z => dis x z hx
    obtain ⟨zs, rs, gz, pz, pr⟩ := side_ex g g' dis l9
    obtain ⟨sc1, sc2⟩ := side_cut g g' dis gz pr
    have gzl := gz.len
    refine ⟨_, rfl, Bs, ys, qs, rfl, hB, g', fun H2 Ot S2 n2 hO => ?_⟩
    refine ⟨_, rfl, _, rfl, c, Ot, xs, ys, zs, ps, qs, rs, rfl, hc1.same S2, hO, g, g', dis', pz, pr, gz, fun H3 Md s3 n3 hM => ?_⟩
    have S3 := S2.trans s3
    refine ⟨_, rfl, Md, zs, rs, rfl, hM, gz, fun H4 L1 s4 n4 hL1 => ?_⟩
    have S4 := S3.trans s4
    refine ⟨_, rfl, a, _, _, .ref wc, rfl, rfl, SqL.of (S4 _ _ ha), rfl, _, rfl, Bs, _, _, .ref bc, rfl, rfl, SqL.of (S4 _ _ hb), rfl, wc, bc, _, _, rfl, rfl, S4 _ _ hwc, S4 _ _ hbc, by rw [List.length_map, List.length_map, sizeLine_eq]; omega, fun A1 hA1 => ?_⟩
    obtain ⟨S5, hA5⟩ := newS (o := .lst (xs.map V.str ++ ys.map V.str)) S4 hA1
    have e5 := same_new (o := .lst (xs.map V.str ++ ys.map V.str)) hA1
    generalize upd H4 A1 (.lst (xs.map V.str ++ ys.map V.str)) = H5 at S5 hA5 e5 ⊢
    refine rd_nil ?_
    refine sort_strs (ys := xs ++ ys) (by rw [List.map_append]; exact hA5) pz gz.asc (by rw [List.length_append]; omega) fun Z hZ => ?_
    obtain ⟨S6, hZ6⟩ := newS (o := .lst (zs.map V.str)) S5 hZ
    have e6 := same_new (o := .lst (zs.map V.str)) hZ
    generalize upd H5 Z (.lst (zs.map V.str)) = H6 at S6 hZ6 e6 ⊢
    refine ⟨_, rfl, a, _, _, .ref wl, rfl, rfl, SqL.of (S6 _ _ ha), rfl, _, rfl, Bs, _, _, .ref bl, rfl, rfl, SqL.of (S6 _ _ hb), rfl, wl, bl, _, _, rfl, rfl, S6 _ _ hwl, S6 _ _ hbl, by rw [List.length_map, List.length_map, sizeLine_eq]; omega, fun A2 hA2 => ?_⟩
    obtain ⟨S7, hA7⟩ := newS (o := .lst (Ps.map V.ref ++ Qs.map V.ref)) S6 hA2
    have e7 := same_new (o := .lst (Ps.map V.ref ++ Qs.map V.ref)) hA2
    generalize upd H6 A2 (.lst (Ps.map V.ref ++ Qs.map V.ref)) = H7 at S7 hA7 e7 ⊢
    refine rd_nil ?_
    refine sort_ps (Ts := Ps ++ Qs) (by rw [List.map_append]; exact hA7) (by rw [List.map_append]; exact (tp.same S7).append (tq.same S7)) pr gz.ascP gz.nodup fun Y Us nY uu => ?_
    obtain ⟨S8, hY8⟩ := newS (o := .lst (Us.map V.ref)) S7 nY
    have e8 := same_new (o := .lst (Us.map V.ref)) nY
    generalize upd H7 Y (.lst (Us.map V.ref)) = H8 at S8 hY8 e8 ⊢
    refine ⟨by show 2 ≤ sizeLine; decide, fun T1 hT1 => ?_⟩
    obtain ⟨S9, hT9⟩ := newS (o := .lst [.ref Z, .ref Y]) S8 hT1
    have e9 := same_new (o := .lst [.ref Z, .ref Y]) hT1
    generalize upd H8 T1 (.lst [.ref Z, .ref Y]) = H9 at S9 hT9 e9 ⊢
    have e49 := (((e5.trans e6).trans e7).trans e8).trans e9
    refine ⟨_, _, rfl, sm_world gz (hL1.same e49) ⟨Z, Y, hT9, ((e7.trans e8).trans e9) _ _ hZ6, Us, e9 _ _ hY8, uu.same (e8.trans e9)⟩, fun H10 s10 => ⟨_, rfl, iteF ?_⟩⟩
    have S10 := S9.trans s10
    have m10 := (s4.trans e49).trans s10
    have o10 := s3.trans m10
    obtain ⟨x0, xr, ex⟩ : ∃ x0 xr, xs = x0 :: xr := by
      cases xs with
      | nil => simp at gx
      | cons x0 xr => exact ⟨x0, xr, rfl⟩
    have ny : ys ≠ [] := fun e => by rw [e] at gy; simp at gy
    obtain ⟨yl, yr, ey⟩ : ∃ yl yr, ys = yr ++ [yl] := ⟨ys.getLast ny, ys.dropLast, (List.dropLast_concat_getLast ny).symm⟩
    have mx0 : x0 ∈ xs := by rw [ex]; exact List.mem_cons_self ..
    have myl : yl ∈ ys := by rw [ey]; exact List.mem_append.mpr (.inr (List.mem_singleton.mpr rfl))
    have at0 : atI (xs.map V.str) 0 = some (.str x0) := by rw [ex]; exact atI_nat (j := 0) rfl
    have atl : atI (ys.map V.str) (-1) = some (.str yl) := by rw [ey, List.map_append]; exact atI_last _ _
    refine ⟨_, rfl, a, _, _, .ref wc, rfl, rfl, SqL.of (S10 _ _ ha), rfl, wc, _, _, .str x0, rfl, rfl, SqL.of (S10 _ _ hwc), at0, _, rfl, Bs, _, _, .ref bc, rfl, rfl, SqL.of (S10 _ _ hb), rfl, 1, rfl, bc, _, _, .str yl, rfl, rfl, SqL.of (S10 _ _ hbc), atl, _, _, rfl, ?_⟩
    obtain ⟨zs1, qs1, gz1, pz1, pq1⟩ := cone_ex g' (dis' x0 mx0) (g.word x0 mx0) (by omega)
    obtain ⟨zs2, qs2, gz2, pz2, pq2⟩ := cone_ex g (dis yl myl) (g'.word yl myl) x8
    refine ⟨_, rfl, _, rfl, Ot, x0, ys, zs1, qs, qs1, rfl, hO.same o10, g', g.word x0 mx0, dis' x0 mx0, pz1, pq1, gz1, fun H11 C1 s11 n11 hC1 => ⟨C1, zs1, qs1, rfl, hC1, gz1, fun H12 L2 s12 n12 hL2 => ?_⟩⟩
    have S12 := (S10.trans s11).trans s12
    refine ⟨_, rfl, _, rfl, c, yl, xs, zs2, ps, qs2, rfl, hc1.same S12, g, g'.word yl myl, dis yl myl, pz2, pq2, gz2, fun H13 C2 s13 n13 hC2 => ⟨C2, zs2, qs2, rfl, hC2, gz2, fun H14 L3 s14 n14 hL3 => ?_⟩⟩
    refine ⟨by show 2 ≤ sizeLine; decide, fun T2 hT2 => ?_⟩
    obtain ⟨S15, hT15⟩ := newS (o := .lst [.ref L2, .ref L3]) ((S12.trans s13).trans s14) hT2
    have e15 := same_new (o := .lst [.ref L2, .ref L3]) hT2
    generalize upd H14 T2 (.lst [.ref L2, .ref L3]) = H15 at S15 hT15 e15 ⊢
    refine ⟨_, rfl, _, rfl, Bs, x0, ys, zs1, qs, qs1, rfl, hB.same S15, g', pz1, pq1, gz1, fun H16 D1 s16 n16 hD1 => ?_⟩
    refine ⟨_, rfl, _, rfl, a, yl, xs, zs2, ps, qs2, rfl, hW1.same (S15.trans s16), g, pz2, pq2, gz2, fun H17 D2 s17 n17 hD2 => ?_⟩
    refine ⟨by show 2 ≤ sizeLine; decide, fun T3 hT3 => ?_⟩
    obtain ⟨S18, hT18⟩ := newS (o := .lst [.ref D1, .ref D2]) ((S15.trans s16).trans s17) hT3
    have e18 := same_new (o := .lst [.ref D1, .ref D2]) hT3
    generalize upd H17 T3 (.lst [.ref D1, .ref D2]) = H18 at S18 hT18 e18 ⊢
    have e1518 := (s16.trans s17).trans e18
    have e1418 := e15.trans e1518
    refine ⟨_, _, rfl, sm_two (n := 3) (e1518 _ _ hT15) hT18 (sm_world gz1 (hL2.same ((s13.trans s14).trans e1418)) (hD1.same (s17.trans e18))) (sm_world gz2 (hL3.same e1418) (hD2.same e18)), fun H19 s19 => ⟨_, rfl, iteF ?_⟩⟩
    have S19 := S18.trans s19
    have m19 := m10.trans ((((s11.trans s12).trans s13).trans s14).trans (e1418.trans s19))
    have o19 := s3.trans m19
    refine ⟨_, rfl, _, rfl, Ot, c, ys, xs, zs, qs, ps, rs, rfl, hO.same o19, hc1.same S19, g', g, dis, List.perm_append_comm.trans pz, List.perm_append_comm.trans pr, gz, fun H20 M2 s20 n20 hM2 => ?_⟩
    refine ⟨_, rfl, _, ceq gz gz hM2 (hM.same (m19.trans s20)), fun H21 e21 => ?_⟩
    have e21 : Same H20 H21 := e21
    rw [decide_eq_true ⟨rfl, rfl⟩]
    refine ⟨_, rfl, iteF ?_⟩
    have S21 := (S19.trans s20).trans e21
    have m21 := (m19.trans s20).trans e21
    have er : cutP xs.reverse rs = ps := (cutP_perm (List.reverse_perm xs)).trans sc1
    refine ⟨_, rfl, _, rfl, a, _, _, .ref wc, rfl, rfl, SqL.of (S21 _ _ ha), rfl, wc, _, rfl, SqL.of (S21 _ _ hwc), fun Rv hRv => ?_⟩
    have e22 := same_new (o := .lst (xs.map V.str).reverse) hRv
    refine ⟨Md, Rv, zs, xs.reverse, xs, rs, rfl, hM.same (m21.trans e22), gz, by rw [upd_same, List.map_reverse], (fun y hy => pz.mem_iff.mp (List.mem_append.mpr (.inl (List.mem_reverse.mp hy)))), List.reverse_perm xs, by rw [er]; exact g, fun H23 M3 s23 n23 hM3 => ?_⟩
    rw [er] at hM3
    have e2123 := e22.trans s23
    refine ⟨_, rfl, _, ceq g g hM3 (hc1.same (S21.trans e2123)), fun H24 e24 => ?_⟩
    have e24 : Same H23 H24 := e24
    rw [decide_eq_true ⟨rfl, rfl⟩]
    refine ⟨_, rfl, iteF ?_⟩
    have S24 := (S21.trans e2123).trans e24
    have m24 := (m21.trans e2123).trans e24
    refine ⟨_, rfl, _, rfl, Bs, _, _, .ref bc, rfl, rfl, SqL.of (S24 _ _ hb), rfl, bc, _, rfl, .inl (SqL.of (S24 _ _ hbc)), fun Ly hLy => ?_⟩
    have e25 := same_new (o := .lst (ys.map V.str)) hLy
    refine ⟨Md, Ly, zs, ys, ys, rs, rfl, hM.same (m24.trans e25), gz, upd_same, (fun y hy => pz.mem_iff.mp (List.mem_append.mpr (.inr hy))), List.Perm.refl _, by rw [sc2]; exact g', fun H26 M4 s26 n26 hM4 => ?_⟩
    rw [sc2] at hM4
    have e2426 := e25.trans s26
    refine ⟨_, rfl, _, ceq g' g' hM4 (hO.same (s3.trans (m24.trans e2426))), fun H27 e27 => ?_⟩
    have e27 : Same H26 H27 := e27
    rw [decide_eq_true ⟨rfl, rfl⟩]
    refine ⟨_, rfl, iteF ?_⟩
    have S27 := (S24.trans e2426).trans e27
    have m27 := (m24.trans e2426).trans e27
    refine ⟨Nat.zero_le _, fun Ac hAc => ?_⟩
    obtain ⟨S28, hA28⟩ := newS (o := .lst []) S27 hAc
    have e28 := same_new (o := .lst []) hAc
    generalize upd H27 Ac (.lst []) = H28 at S28 hA28 e28 ⊢
    have m28 := m27.trans e28
    refine ⟨_, rfl, a, _, _, .ref wc, rfl, rfl, SqL.of (S28 _ _ ha), rfl, wc, rfl, ⟨_, SqL.of (S28 _ _ hwc)⟩, ?_⟩
    refine for_list (xs := xs.map V.str) (fun i σ H' => ∃ (D : Addr) (v9 : Option V) (Ts : List Addr), σ = [some (.ref p), some (.ref c), some (.ref a), some (.ref Bs), some (.ref Ot), some (.ref Md), some (.str x0), some (.str yl), some (.ref D), v9, none, none] ∧ Same H28 H' ∧ H' D = some (.lst (Ts.map V.ref)) ∧ Tups H' Ts ((acrP (xs.take i) ys).map tv))
      ⟨Ac, none, [], rfl, Same.refl _, hA28, Tups.nil⟩ (fun i σ H' _ ⟨_, _, _, _, z, _⟩ => SqL.of ((S28.trans z) _ _ hwc)) ?_ ?_
    · rintro i v σ H29 hv ⟨D, v9, Ts, rfl, s29, hD, tT⟩
      rw [List.getElem?_map] at hv
      obtain ⟨x, hx, rfl⟩ := Option.map_eq_some_iff.mp hv
      have il := (List.getElem?_eq_some_iff.mp hx).1
      have S29 := S28.trans s29
      refine ⟨_, rfl, _, rfl, Bs, _, _, .ref bc, rfl, rfl, SqL.of (S29 _ _ hb), rfl, bc, rfl, ⟨_, SqL.of (S29 _ _ hbc)⟩, fun R hR => ?_⟩
      refine lc_list (xs := ys.map V.str) (fun j H' => ∃ Vs : List Addr, H' R = some (.lst (Vs.map V.ref)) ∧ Same H29 H' ∧ Tups H' Vs (((ys.take j).map (mk x)).map tv))
        ⟨[], upd_same, same_new hR, Tups.nil⟩ (fun j H' _ ⟨_, _, s6, _⟩ => SqL.of ((S29.trans s6) _ _ hbc)) ?_ ?_
      · rintro j v H6 hv ⟨Vs, hr6, s6, tv6⟩
        rw [List.getElem?_map] at hv
        obtain ⟨y, hy, rfl⟩ := Option.map_eq_some_iff.mp hv
        have jl := (List.getElem?_eq_some_iff.mp hy).1
        refine ⟨rfl, _, rfl, _, rfl, x, y, rfl, fun T hT => ?_⟩
        have e7 := same_new (o := .tup [.str (mk x y).1, .str (mk x y).2]) hT
        have hT7 : upd H6 T (.tup [.str (mk x y).1, .str (mk x y).2]) T = some (.tup [.str (mk x y).1, .str (mk x y).2]) := upd_same
        generalize upd H6 T (.tup [.str (mk x y).1, .str (mk x y).2]) = H7 at e7 hT7 ⊢
        have lv : Vs.length = j := by rw [tv6.1, List.length_map, List.length_map, List.length_take]; omega
        have hr7 := e7 _ _ hr6
        refine ⟨_, hr7, by rw [List.length_map, sizeLine_eq]; omega, Vs ++ [T], by rw [upd_same]; simp, same_over (s6.trans e7) hR, ?_⟩
        rw [take_next hy, List.map_append, List.map_append]
        have t3 := (tv6.same e7).upd (a := R) (o := .lst (Vs.map V.ref ++ [V.ref T])) fun x y e => by
          rw [hr7] at e
          cases e
        exact t3.snoc (p := tv (mk x y)) (by rw [upd_ne (ne_of hr7 hT7 (fun z => nomatch z)).symm]; exact hT7)
      · rintro H6 ⟨Vs, hr6, s6, tv6⟩
        rw [List.length_map, List.take_length] at tv6
        have lv : Vs.length = ys.length := by rw [tv6.1, List.length_map, List.length_map]
        have lt : Ts.length ≤ 81 := by
          rw [tT.1, List.length_map, acr_len, List.length_take]
          exact Nat.mul_le_mul (by omega : min i xs.length ≤ 9) (by omega : ys.length ≤ 9)
        refine ⟨D, R, _, _, rfl, rfl, s6 _ _ hD, hr6, by rw [List.length_map, List.length_map, sizeLine_eq]; omega, fun E hE => ?_⟩
        have e7 := same_new (o := .lst (Ts.map V.ref ++ Vs.map V.ref)) hE
        refine ⟨E, _, Ts ++ Vs, rfl, (s29.trans s6).trans e7, by rw [List.map_append]; exact upd_same, ?_⟩
        rw [acr_next hx, List.map_append]
        exact (tT.same (s6.trans e7)).append (tv6.same e7)
    · rintro σ H29 ⟨D, v9, Ts, rfl, s29, hD, tT⟩
      rw [List.length_map, List.take_length] at tT
      have S29 := S28.trans s29
      have m29 := m28.trans s29
      refine ⟨_, rfl, a, xs, ps, rfl, hW1.same S29, g, fun H30 P1 s30 n30 hP1 => ?_⟩
      obtain ⟨p1c, p1l, hp1, _, Rs, hp1l, tr1⟩ := hP1
      refine ⟨P1, _, _, .ref p1l, rfl, rfl, SqL.of hp1, rfl, ?_⟩
      refine ⟨_, rfl, Bs, ys, qs, rfl, hB.same (S29.trans s30), g', fun H31 P2 s31 n31 hP2 => ?_⟩
      obtain ⟨p2c, p2l, hp2, _, Rt, hp2l, tr2⟩ := hP2
      have lR : Rs.length ≤ 36 := by
        rw [tr1.1, List.length_map]
        exact g.opp.len
      have lR2 : Rt.length ≤ 36 := by
        rw [tr2.1, List.length_map]
        exact g'.opp.len
      have lT : Ts.length ≤ 81 := by
        rw [tT.1, List.length_map, acr_len]
        exact Nat.mul_le_mul (by omega : xs.length ≤ 9) (by omega : ys.length ≤ 9)
      refine ⟨P2, _, _, .ref p2l, rfl, rfl, SqL.of hp2, rfl, p1l, p2l, _, _, rfl, rfl, s31 _ _ hp1l, hp2l, by rw [List.length_map, List.length_map, sizeLine_eq]; omega, fun A3 hA3 => ?_⟩
      have e32 := same_new (o := .lst (Rs.map V.ref ++ Rt.map V.ref)) hA3
      have hA32 : upd H31 A3 (.lst (Rs.map V.ref ++ Rt.map V.ref)) A3 = some (.lst (Rs.map V.ref ++ Rt.map V.ref)) := upd_same
      generalize upd H31 A3 (.lst (Rs.map V.ref ++ Rt.map V.ref)) = H32 at e32 hA32 ⊢
      have s2932 := (s30.trans s31).trans e32
      refine ⟨_, rfl, A3, D, _, _, rfl, rfl, hA32, s2932 _ _ hD, by rw [List.length_append, List.length_map, List.length_map, List.length_map, sizeLine_eq]; omega, fun A4 hA4 => ?_⟩
      have e33 := same_new (o := .lst (Rs.map V.ref ++ Rt.map V.ref ++ Ts.map V.ref)) hA4
      have hA33 : upd H32 A4 (.lst (Rs.map V.ref ++ Rt.map V.ref ++ Ts.map V.ref)) A4 = some (.lst (Rs.map V.ref ++ Rt.map V.ref ++ Ts.map V.ref)) := upd_same
      generalize upd H32 A4 (.lst (Rs.map V.ref ++ Rt.map V.ref ++ Ts.map V.ref)) = H33 at e33 hA33 ⊢
      refine rd_nil ?_
      have so := side_opp g g' dis gz pz pr
      refine sort_ps (Ts := Rs ++ Rt ++ Ts) (ps := oppP xs ps ++ oppP ys qs ++ acrP xs ys) (by rw [List.map_append, List.map_append]; exact hA33) (by
        rw [List.map_append, List.map_append]
        exact ((tr1.same ((s31.trans e32).trans e33)).append (tr2.same (e32.trans e33))).append (tT.same (s2932.trans e33))) so gz.opp.ascP gz.opp.nodup fun Y2 Us2 nY2 uu2 => ?_
      have e34 := same_new (o := .lst (Us2.map V.ref)) nY2
      have hY34 : upd H33 Y2 (.lst (Us2.map V.ref)) Y2 = some (.lst (Us2.map V.ref)) := upd_same
      generalize upd H33 Y2 (.lst (Us2.map V.ref)) = H34 at e34 hY34 ⊢
      have s2934 := (s2932.trans e33).trans e34
      have m34 := m29.trans s2934
      have S34 := S29.trans s2934
      refine ⟨_, rfl, Md, zs, rs, rfl, hM.same m34, gz, fun H35 Op s35 n35 hOp => ?_⟩
      obtain ⟨dx, oa, ob, h1, h2, h3⟩ := id hOp
      have lo := gz.opp.len
      refine ⟨Op, dx, _, rfl, h1, cF_no oa ob (by decide +kernel) (by decide +kernel), Op, zs, oppP zs rs, rfl, hOp, by omega, fun Fl H36 n36 s36 hFl => ?_⟩
      have s3436 := s35.trans s36
      refine ⟨_, rfl, _, _, rfl, sm_prs 1 hFl ⟨Us2, s3436 _ _ hY34, uu2.same (e34.trans s3436)⟩ (by omega), fun H37 s37 => ⟨_, rfl, iteT ?_⟩⟩
      have S37 := (S34.trans s3436).trans s37
      have o37 := s3.trans ((m34.trans s3436).trans s37)
      refine ⟨_, rfl, c, xs, ps, rfl, hc1.same S37, g, fun H38 L5 s38 n38 hL5 => ?_⟩
      refine ⟨_, rfl, Ot, ys, qs, rfl, hO.same (o37.trans s38), g', fun H39 L6 s39 n39 hL6 => ?_⟩
      refine ⟨by show 2 ≤ sizeLine; decide, fun T5 hT5 => ?_⟩
      have e40 := same_new (o := .lst [.ref L5, .ref L6]) hT5
      have hT40 : upd H39 T5 (.lst [.ref L5, .ref L6]) T5 = some (.lst [.ref L5, .ref L6]) := upd_same
      generalize upd H39 T5 (.lst [.ref L5, .ref L6]) = H40 at e40 hT40 ⊢
      have S40 := ((S37.trans s38).trans s39).trans e40
      refine ⟨_, rfl, _, rfl, by show 2 ≤ sizeLine; decide, fun T6 hT6 => ?_⟩
      have e41 := same_new (o := .lst [.ref a, .ref Bs]) hT6
      have hT41 : upd H40 T6 (.lst [.ref a, .ref Bs]) T6 = some (.lst [.ref a, .ref Bs]) := upd_same
      generalize upd H40 T6 (.lst [.ref a, .ref Bs]) = H41 at e41 hT41 ⊢
      have S41 := S40.trans e41
      refine ⟨_, _, rfl, sm_two (n := 3) (e41 _ _ hT40) hT41 (sm_world g (hL5.same ((s39.trans e40).trans e41)) (hW1.same S41)) (sm_world g' (hL6.same (e40.trans e41)) (hB.same S41)), fun H42 s42 => ?_⟩
      have S42 := S41.trans s42
      exact k H42 (sx1.trans (SameX.of S42)) (pa1.same S42)
end
end Wd
end
section
set_option maxRecDepth 100000
set_option maxHeartbeats 4000000
namespace Wd
open PySem L2
def lettersX : Str := "abcdefghijklmnopqrstuvwx"
theorem sgX_w : ∀ x ∈ sg lettersX, IsW x := fun x hx => isW_of (List.all_eq_true.mp (by decide +kernel : (sg lettersX).all isWB = true) x hx)
theorem sgX_nd : (sg lettersX).Nodup := by decide +kernel
theorem nm_ex : ∀ {xs fs : List Str}, xs.Nodup → fs.length = xs.length → ∃ nm : Str → Str, xs.map nm = fs
  | [], [], _, _ => ⟨id, rfl⟩
  | [], _ :: _, _, h => by cases h
  | _ :: _, [], _, h => by cases h
  | x :: xs, f :: fs, nd, h => by
    obtain ⟨n1, n2⟩ := List.nodup_cons.mp nd
    obtain ⟨nm, e⟩ := nm_ex n2 (Nat.succ.inj h)
    refine ⟨fun y => if y = x then f else nm y, ?_⟩
    rw [List.map_cons, if_pos rfl, ← e]
    refine congrArg (f :: ·) (List.map_congr_left fun y hy => if_neg fun z => n1 (by rw [← z]; exact hy))
theorem pairs_key {K : PySem.W.Frag} {H : Hp} {nm : Str → Str} : ∀ {ks : List Str} {Ts : List Addr}, Tups H Ts ((ks.map fun k => (k, nm k)).map tv) → Paired (fun p kv => SqT K H p [kV kv.1, kv.2]) Ts (dkv ks ((ks.map nm).map V.str))
  | [], Ts, t => by
    cases Ts with
    | nil => exact .nil
    | cons a b => exact absurd t.1 (by simp)
  | k :: ks, Ts, t => by
    cases Ts with
    | nil => exact absurd t.1 (by simp)
    | cons T Ts => exact .cons (SqT.of (t.2 0 T (tv (k, nm k)) rfl rfl)) (pairs_key ⟨Nat.succ.inj t.1, fun i T' p a b => t.2 (i + 1) T' p a b⟩)
theorem merge_nm {ks : List Str} (nm : Str → Str) (nd : ks.Nodup) : mergeK [] (dkv ks ((ks.map nm).map V.str)) = dkv ks ((ks.map nm).map V.str) := by
  have h := merge_dkv ks [] (fun k => V.str (nm k)) nd
  rw [List.map_map]
  exact h
def spNms : Sp := fun vs H Q _ => ∃ (p l : Addr) (xs : List Str) (ps : List Pr) (c0 : Int) (n : Nat), vs = [.ref p, .ref l] ∧ PurseAt H p c0 (n + 30) ∧ H l = some (.lst (xs.map V.str)) ∧ Good xs ps ∧ l ≠ p ∧
  ∀ (H' : Hp) (d : Addr) (nm : Str → Str), SameX p H H' → NmAt H' d xs nm → (xs.map nm).Nodup → (∀ x ∈ xs, IsW (nm x)) → d ≠ p → PurseAt H' p c0 n → Q (.ref d) H'
section
variable {P : Program} {w : World} {K : PySem.W.Frag} {mg : Str → Option Value} {base : Heap}
theorem ok_names {f : Addr} {fd : FuncData} (F : Fun K "_law_names" "_law_names" s_names f fd) (T : Bt mg) (CD : Has P w K mg base 2 "_law_draw" ["_law_purse_here", "_law_many"] spDraw)
    (CS : Has P w K mg base 3 "_law_shuffled" ["_law_purse_here", "_law_some"] spShuffled) : FnOk P w K mg base CX0 4 f fd ["_law_purse_here", "_law_crowd"] spNms := by
  obtain ⟨fD, fdD, GD, mD, kD, bD⟩ := CD
  obtain ⟨fS, fdS, GS, mS, kS, bS⟩ := CS
  refine F.ok c_names (fun vs H Q E h => ?_) (fun cdv A outer s H vs Q E hr h => ?_)
  · obtain ⟨_, _, _, _, _, _, rfl, _⟩ := h
    rfl
  · obtain ⟨p, l, xs, ps, c0, n, rfl, pa, hl, g, lp, k⟩ := h
    have hr2 : Room 2 _ := hr.mono (by decide)
    refine ⟨_, pss_cons (ps_set (i := 3) c_names.nd rfl (Or.inl rfl) (pe_call GS hr rfl mS kS bS .nil pass0 (pa_cons (pv 0) (pa_cons (pe_op op_cat (pv 1) (pe_slice sl_list (pe_lc (own := [("_law_letter", 2)]) (g := gName 2) rfl c_names.nd (pi_list (pe_callTy (Kx.cr_listS rfl) (by rfl) T.list (by decide +kernel) (pa_cons pe_str pa_nil)))
        (blkOk_by (N := ["_law_purse_here", "_law_crowd", "_law_letter", "_law_pool", "_law_fresh", "_law_at"]) (sc := defScope s_names) (by decide +kernel)) (fun _ _ _ _ _ => pg_name (i := 2) c_names.nd rfl (Or.inl rfl)) (fun _ _ _ _ _ => pts_one (pt_cmpR (r := rIn K true) op_notIn_seq (pv 2) (pv 1) rfl)) (fun _ _ _ _ _ => pv 2)) po_none (po_some pe_int))) pa_nil))))
      (pss_cons (ps_set (i := 4) c_names.nd rfl (Or.inr rfl) (pe_ifExp (pt_cmpR op_gt (pe_call GD hr2 rfl mD kD bD .nil pass0 (pa_cons (pv 0) (pa_cons pe_int pa_nil))) pe_int (nomark _))
        (pe_slice sl_list (pv 3) po_none (po_some (pe_callB call_len_seq (by rfl) T.len PySem.boot_len (pa_cons (pv 1) pa_nil)))) (pe_call GS hr rfl mS kS bS .nil pass0 (pa_cons (pv 0) (pa_cons (pv 1) pa_nil)))))
      (pss_one (ps_ret (pe_callTy (call_dictP rfl) (by rfl) T.dict (by decide +kernel) (pa_cons (pe_lc (own := [("_law_at", 5)]) (g := gName 5) (tt := tYes) rfl c_names.nd (pi_range1 rfl T.range (pa_cons (pe_callB call_len_seq (by rfl) T.len PySem.boot_len (pa_cons (pv 1) pa_nil)) pa_nil))
        (blkOk_by (N := ["_law_purse_here", "_law_crowd", "_law_letter", "_law_pool", "_law_fresh", "_law_at"]) (sc := defScope s_names) (by decide +kernel)) (fun _ _ _ _ _ => pg_name (i := 5) c_names.nd rfl (Or.inl rfl)) (fun _ _ _ _ _ => pts_nil)
        (fun _ _ _ _ _ => pe_tup (pa_cons (pe_ix (r := rIxL K) ix_list (pv 1) (pv 5) (fun _ _ => rfl)) (pa_cons (pe_ix (r := rIxL K) ix_list (pv 4) (pv 5) (fun _ _ => rfl)) pa_nil)))) pa_nil))))), ?_⟩
    have l9 := g.few
    have step : ∀ {l : List Str} {j : Nat} {x : Str}, l[j]? = some x → outOf xs (l.take (j + 1)) = outOf xs (l.take j) ++ (if decide (x ∉ xs) = true then [x] else []) := fun hx => filter_next hx
    refine ⟨_, rfl, _, rfl, lettersX, rfl, by decide +kernel, fun L0 hL0 => ⟨L0, rfl, ⟨_, SqL.of upd_same⟩, fun R hR => ?_⟩⟩
    have s1 := same_new (o := .lst (Kx.signs lettersX)) hL0
    have hL1 : upd H L0 (.lst (Kx.signs lettersX)) L0 = some (.lst ((sg lettersX).map V.str)) := by rw [upd_same, sg_signs]
    generalize upd H L0 (.lst (Kx.signs lettersX)) = H1 at s1 hL1 hR ⊢
    refine lc_list (xs := (sg lettersX).map V.str) (fun i H' => Same H1 H' ∧ H' R = some (.lst ((outOf xs ((sg lettersX).take i)).map V.str))) ⟨same_new hR, upd_same⟩ (fun i H' _ z => SqL.of (z.1 _ _ hL1)) ?_ ?_
    · rintro j v H2 hv ⟨s2, hr2'⟩
      rw [List.getElem?_map] at hv
      obtain ⟨x, hx, rfl⟩ := Option.map_eq_some_iff.mp hv
      have hj := (List.getElem?_eq_some_iff.mp hx).1
      have l16 : (sg lettersX).length = 24 := by decide +kernel
      refine ⟨rfl, _, rfl, _, rfl, l, _, rfl, .inl (SqL.of ((s1.trans s2) _ _ hl)), rfl, flat_strs' xs, _, rfl, ?_⟩
      have ei : (!inV (.str x) (xs.map V.str)) = decide (x ∉ xs) := by rw [in_strs, decide_not]
      refine ite2 (fun hb => ?_) (fun hb => ?_)
      · have hb : decide (x ∉ xs) = true := by rw [← ei]; exact hb
        refine ⟨_, rfl, _, hr2', ?_, same_over s2 hR, ?_⟩
        · have h1 := List.length_filter_le (fun x => decide (x ∉ xs)) ((sg lettersX).take j)
          rw [List.length_take] at h1
          rw [List.length_map, outOf, sizeLine_eq]
          omega
        · rw [upd_same, step hx, if_pos hb, List.map_append]
          rfl
      · have hb : ¬ decide (x ∉ xs) = true := by rw [← ei]; exact hb
        refine ⟨s2, ?_⟩
        rw [step hx, if_neg hb, List.append_nil]
        exact hr2'
    rintro H2 ⟨s2, hr2'⟩
    rw [List.length_map, List.take_length] at hr2'
    refine ⟨4, rfl, R, _, rfl, SqL.of hr2', fun Fr hF => ?_⟩
    rw [show (some (4 : Int)) = some ((4 : Nat) : Int) from rfl, cutV_lo, ← List.map_take]
    obtain ⟨s3, hF3⟩ := newS (o := .lst (((outOf xs (sg lettersX)).take 4).map V.str)) (s1.trans s2) hF
    generalize upd H2 Fr (.lst (((outOf xs (sg lettersX)).take 4).map V.str)) = H3 at s3 hF3 ⊢
    have lF : ((outOf xs (sg lettersX)).take 4).length ≤ 4 := by rw [List.length_take]; omega
    refine ⟨l, Fr, _, _, rfl, rfl, s3 _ _ hl, hF3, by rw [List.length_map, List.length_map, sizeLine_eq]; omega, fun Po hPo => ?_⟩
    obtain ⟨s4, hP4⟩ := newS (o := .lst (xs.map V.str ++ ((outOf xs (sg lettersX)).take 4).map V.str)) s3 hPo
    have nPo : Po ≠ p := purse_none (pa.same s3) hPo
    generalize upd H3 Po (.lst (xs.map V.str ++ ((outOf xs (sg lettersX)).take 4).map V.str)) = H4 at s4 hP4 ⊢
    have pa4 := pa.same s4
    rw [← List.map_append] at hP4
    have hl4 := s4 _ _ hl
    refine ⟨p, Po, _, c0, n + 17, rfl, pa4.less (by rw [List.length_map, List.length_append]; omega), hP4, nPo, by rw [List.length_map, List.length_append]; omega, fun H5 Pl vs' pm sx5 nPl hP5 nPp pa5 => ?_⟩
    obtain ⟨ws, pw, ew⟩ := perm_lift V.str pm (xs ++ (outOf xs (sg lettersX)).take 4) rfl
    subst ew
    have all : (xs ++ (outOf xs (sg lettersX)).take 4).Nodup ∧ ∀ x ∈ xs ++ (outOf xs (sg lettersX)).take 4, IsW x := by
      refine ⟨?_, fun x hx => ?_⟩
      · rw [List.nodup_append]
        exact ⟨g.nd, (sgX_nd.filter _).take, fun a ha b hb e => (out_mem (List.mem_of_mem_take hb)).2 (by rw [← e]; exact ha)⟩
      · rcases List.mem_append.mp hx with z | z
        · exact g.word x z
        · exact sgX_w x (out_mem (List.mem_of_mem_take z)).1
    have lw : ws.length = xs.length + ((outOf xs (sg lettersX)).take 4).length := by rw [pw.length_eq, List.length_append]
    have hl5 := sx5 _ _ lp hl4
    refine ⟨_, rfl, p, _, c0, n + 16, rfl, pa5, by decide, by decide, fun H6 r r0 r1 sx6 pa6 => ⟨_, _, rfl, rfl, _, rfl, ?_⟩⟩
    have hl6 := sx6 _ _ lp hl5
    have hP6 := sx6 _ _ nPp hP5
    have sx06 : SameX p H H6 := ((SameX.of s4).trans sx5).trans sx6
    refine ite2 (fun _ => ⟨_, rfl, _, rfl, l, _, rfl, .inl (SqL.of hl6), _, rfl, Pl, _, rfl, SqL.of hP6, fun Fs hFs => ?_⟩) (fun _ => ⟨_, rfl, _, rfl, p, l, xs.map V.str, c0, n + 7, rfl, pa6.less (by rw [List.length_map]; omega), hl6, lp, by rw [List.length_map]; omega, fun H7 Fs vs2 pm2 sx7 nFs hFs7 nFp pa7 => ?_⟩)
    have hFs7 : upd H6 Fs (.lst (cutV (ws.map V.str) none (some (((xs.map V.str).length : Nat) : Int)))) Fs = some (.lst ((ws.take xs.length).map V.str)) := by rw [upd_same, cutV_lo, ← List.map_take, List.length_map]
    have nFp : Fs ≠ p := purse_none pa6 hFs
    have sx7 : SameX p H6 (upd H6 Fs (.lst (cutV (ws.map V.str) none (some (((xs.map V.str).length : Nat) : Int))))) := SameX.new hFs
    have pa7 := (pa6.upd (o := .lst (cutV (ws.map V.str) none (some (((xs.map V.str).length : Nat) : Int)))) nFp).less (show n ≤ n + 16 by omega)
    have ff : (ws.take xs.length).length = xs.length ∧ (ws.take xs.length).Nodup ∧ ∀ x ∈ ws.take xs.length, IsW x := ⟨by rw [List.length_take]; omega, (pw.nodup_iff.mpr all.1).take, fun x hx => all.2 x (pw.mem_iff.mp (List.mem_of_mem_take hx))⟩
    generalize hfs : ws.take xs.length = fs at hFs7 ff
    rotate_left
    obtain ⟨fs, pf, ef⟩ := perm_lift V.str pm2 xs rfl
    subst ef
    replace pa7 := pa7.less (show n ≤ n + 7 by omega)
    have ff : fs.length = xs.length ∧ fs.Nodup ∧ ∀ x ∈ fs, IsW x := ⟨pf.length_eq, pf.nodup_iff.mpr g.nd, fun x hx => g.word x (pf.mem_iff.mp hx)⟩
    all_goals
      have hl7 := sx7 _ _ lp hl6
      have sx07 := sx06.trans sx7
      obtain ⟨f1, f2, f3⟩ := ff
      obtain ⟨nm, en⟩ := nm_ex g.nd f1
      refine ⟨_, rfl, l, _, rfl, .inl (SqL.of hl7), ((xs.map V.str).length : Nat), rfl, by omega, by rw [List.length_map]; omega, fun R5 hR5 => ?_⟩
      refine lc_range (lo := 0) (n := ((((xs.map V.str).length : Nat) : Int)).toNat) (fun i H' => ∃ Ts : List Addr, H' R5 = some (.lst (Ts.map V.ref)) ∧ Same _ H' ∧ Tups H' Ts (((xs.take i).map fun k => (k, nm k)).map tv)) ⟨[], upd_same, same_new hR5, Tups.nil⟩ ?_ ?_
      · rintro i H8 hi ⟨Ts, hr8, s8, t8⟩
        rw [List.length_map, Int.toNat_natCast] at hi
        have hx : xs[i]? = some xs[i] := List.getElem?_eq_getElem hi
        generalize xs[i] = x at hx
        have hfi : fs[i]? = some (nm x) := by rw [← en, List.getElem?_map, hx]; rfl
        have ai : ∀ {ys : List Str} {y : Str}, ys[i]? = some y → atI (ys.map V.str) (0 + (i : Int)) = some (.str y) := fun {ys y} h => by
          rw [Int.zero_add]
          exact atI_nat (by rw [List.getElem?_map, h]; rfl)
        refine ⟨rfl, _, rfl, _, rfl, l, _, _, .str x, rfl, rfl, SqL.of (s8 _ _ hl7), ai hx, _, rfl, _, rfl, Fs, _, _, .str (nm x), rfl, rfl, SqL.of (s8 _ _ hFs7), ai hfi, by show 2 ≤ sizeLine; decide, fun T0 hT0 => ?_⟩
        have e9 := same_new (o := .tup [.str x, .str (nm x)]) hT0
        have hT9 : upd H8 T0 (.tup [.str x, .str (nm x)]) T0 = some (.tup [.str x, .str (nm x)]) := upd_same
        generalize upd H8 T0 (.tup [.str x, .str (nm x)]) = H9 at e9 hT9 ⊢
        have hr9 := e9 _ _ hr8
        have lT : Ts.length = i := by rw [t8.1, List.length_map, List.length_map, List.length_take]; omega
        refine ⟨_, hr9, by rw [List.length_map, sizeLine_eq]; omega, Ts ++ [T0], by rw [upd_same]; simp, same_over (s8.trans e9) hR5, ?_⟩
        rw [take_next hx, List.map_append, List.map_append]
        have t3 := (t8.same e9).upd (a := R5) (o := .lst (Ts.map V.ref ++ [V.ref T0])) fun x y e => by
          rw [hr9] at e
          cases e
        exact t3.snoc (p := tv (x, nm x)) (by rw [upd_ne (ne_of hr9 hT9 (fun z => nomatch z)).symm]; exact hT9)
      · rintro H8 ⟨Ts, hr8, s8, t8⟩
        rw [List.length_map, Int.toNat_natCast, List.take_length] at t8
        refine ⟨R5, Ts, _, rfl, SqL.of hr8, pairs_key t8, fun d hd => ?_⟩
        have pa8 := pa7.same s8
        have nd := purse_none pa8 hd
        rw [merge_nm nm g.nd]
        refine k _ d nm ((sx07.trans (SameX.of s8)).trans (SameX.new hd)) upd_same (by rw [en]; exact f2) (fun x hx => f3 _ (by rw [← en]; exact List.mem_map.mpr ⟨x, hx, rfl⟩)) nd (pa8.upd nd)
end
end Wd
end
section
set_option maxRecDepth 100000
set_option maxHeartbeats 4000000
namespace Wd
open PySem L2
theorem mk_swap (x y : Str) : mk x y = mk y x := by
  unfold mk
  rcases Lt.tri x y with h | h | h
  · rw [if_pos h, if_neg fun z => Lt.irr x (h.tr z)]
  · rw [h]
  · rw [if_neg fun z => Lt.irr x (z.tr h), if_pos h]
theorem mk_of {p : Pr} (h : Lt p.1 p.2) : mk p.1 p.2 = p := by
  unfold mk
  rw [if_pos h]
/-- two names of one pair, whatever stands first -/
theorem mk_mk (f : Str → Str) (x y : Str) : mk (f (mk x y).1) (f (mk x y).2) = mk (f x) (f y) := by
  rcases mk_two x y with ⟨a, b⟩ | ⟨a, b⟩
  · rw [a, b]
  · rw [a, b]
    exact mk_swap _ _
theorem inj_on {xs : List Str} {nm : Str → Str} (nd : (xs.map nm).Nodup) {a b : Str} (ha : a ∈ xs) (hb : b ∈ xs) (e : nm a = nm b) : a = b := by
  induction xs with
  | nil => cases ha
  | cons x xs ih =>
    rw [List.map_cons, List.nodup_cons] at nd
    rcases List.mem_cons.mp ha with h1 | h1 <;> rcases List.mem_cons.mp hb with h2 | h2
    · rw [h1, h2]
    · exact absurd (List.mem_map.mpr ⟨b, h2, by rw [← e, h1]⟩) nd.1
    · exact absurd (List.mem_map.mpr ⟨a, h1, by rw [e, h2]⟩) nd.1
    · exact ih nd.2 h1 h2
theorem ren_nd {xs : List Str} {ps : List Pr} {nm : Str → Str} (g : Good xs ps) (nd : (xs.map nm).Nodup) : (renP nm ps).Nodup := by
  unfold renP
  refine List.Pairwise.map _ (R := fun a b => a ≠ b ∧ a ∈ ps ∧ b ∈ ps) (fun p q h e => ?_) (List.Pairwise.imp_of_mem (fun {a b} ha hb h => ⟨h, ha, hb⟩) g.nodup)
  have o := g.of p h.2.1
  have u := g.of q h.2.2
  rcases mk_eq e with ⟨a, b⟩ | ⟨a, b⟩
  · exact h.1 (Prod.ext (inj_on nd o.1 u.1 a) (inj_on nd o.2.1 u.2.1 b))
  · have z1 := inj_on nd o.1 u.2.1 a
    have z2 := inj_on nd o.2.1 u.1 b
    have l := o.2.2
    rw [z1, z2] at l
    exact Lt.irr _ (l.tr u.2.2)
theorem ren_ex {xs ks : List Str} {ps : List Pr} {nm : Str → Str} (g : Good xs ps) (pk : ks.Perm xs) (nd : (xs.map nm).Nodup) (hw : ∀ x ∈ xs, IsW (nm x)) : ∃ zs qs, Good zs qs ∧ (ks.map nm).Perm zs ∧ (renP nm ps).Perm qs := by
  have l9 := g.few
  have lk := pk.length_eq
  have pm : (ks.map nm).Perm (xs.map nm) := pk.map nm
  refine good_ex (pm.nodup_iff.mpr nd) (fun y hy => ?_) (by rw [List.length_map]; omega) (by rw [List.length_map]; omega) (ren_nd g nd) fun p hp => ?_
  · obtain ⟨x, hx, rfl⟩ := List.mem_map.mp (pm.mem_iff.mp hy)
    exact hw x hx
  · obtain ⟨q, hq, rfl⟩ := List.mem_map.mp hp
    have o := g.of q hq
    have m1 : nm q.1 ∈ ks.map nm := pm.mem_iff.mpr (List.mem_map.mpr ⟨_, o.1, rfl⟩)
    have m2 : nm q.2 ∈ ks.map nm := pm.mem_iff.mpr (List.mem_map.mpr ⟨_, o.2.1, rfl⟩)
    have ne : nm q.1 ≠ nm q.2 := fun e => by
      have := inj_on nd o.1 o.2.1 e
      have l := o.2.2
      rw [this] at l
      exact Lt.irr _ l
    refine ⟨?_, ?_, mk_lt ne⟩
    · rcases mk_two (nm q.1) (nm q.2) with ⟨z, _⟩ | ⟨z, _⟩
      · show (mk (nm q.1) (nm q.2)).1 ∈ _
        rw [z]; exact m1
      · show (mk (nm q.1) (nm q.2)).1 ∈ _
        rw [z]; exact m2
    · rcases mk_two (nm q.1) (nm q.2) with ⟨_, z⟩ | ⟨_, z⟩
      · show (mk (nm q.1) (nm q.2)).2 ∈ _
        rw [z]; exact m2
      · show (mk (nm q.1) (nm q.2)).2 ∈ _
        rw [z]; exact m1
/-- names taken back -/
theorem ren_back {xs : List Str} {ps : List Pr} {nm inv : Str → Str} (g : Good xs ps) (h : ∀ x ∈ xs, inv (nm x) = x) : renP inv (renP nm ps) = ps := by
  unfold renP
  rw [List.map_map]
  refine (List.map_congr_left fun p hp => ?_).trans (List.map_id ps)
  have o := g.of p hp
  show mk (inv (mk (nm p.1) (nm p.2)).1) (inv (mk (nm p.1) (nm p.2)).2) = id p
  rw [mk_mk, h _ o.1, h _ o.2.1, mk_of o.2.2]
  rfl
theorem ren_id {xs : List Str} {ps : List Pr} (g : Good xs ps) : renP id ps = ps := by
  unfold renP
  refine (List.map_congr_left fun p hp => ?_).trans (List.map_id ps)
  show mk p.1 p.2 = id p
  rw [mk_of (g.of p hp).2.2]
  rfl
/-- the opposite of a renamed company is the renamed opposite -/
theorem ren_opp {xs zs : List Str} {ps qs : List Pr} {nm : Str → Str} (g : Good xs ps) (nd : (xs.map nm).Nodup) (gz : Good zs qs) (pz : (xs.map nm).Perm zs) (pq : (renP nm ps).Perm qs) : (renP nm (oppP xs ps)).Perm (oppP zs qs) := by
  refine (List.perm_ext_iff_of_nodup (ren_nd g.opp nd) ((prsS_nd gz.asc).filter _)).mpr fun p => ?_
  have key : ∀ {a b : Str}, a ∈ xs → b ∈ xs → a ≠ b → (mk (nm a) (nm b) ∈ qs ↔ mk a b ∈ ps) := fun {a b} ha hb ne => by
    rw [← pq.mem_iff]
    unfold renP
    rw [List.mem_map]
    constructor
    · rintro ⟨q, hq, e⟩
      have o := g.of q hq
      rcases mk_eq e with ⟨u, v⟩ | ⟨u, v⟩
      · rw [← inj_on nd o.1 ha u, ← inj_on nd o.2.1 hb v, mk_of o.2.2]; exact hq
      · rw [← inj_on nd o.1 hb u, ← inj_on nd o.2.1 ha v, mk_swap, mk_of o.2.2]; exact hq
    · intro h
      exact ⟨mk a b, h, mk_mk nm a b⟩
  unfold oppP
  rw [List.mem_filter]
  constructor
  · intro h
    obtain ⟨q, hq, rfl⟩ := List.mem_map.mp h
    obtain ⟨h1, h2⟩ := List.mem_filter.mp hq
    have h2 := of_decide_eq_true h2
    have m := mem_prsS g.asc h1
    have ne : q.1 ≠ q.2 := fun e => by
      have l := m.2.2
      rw [e] at l
      exact Lt.irr _ l
    refine ⟨mk_mem gz.asc (pz.mem_iff.mp (List.mem_map.mpr ⟨_, m.1, rfl⟩)) (pz.mem_iff.mp (List.mem_map.mpr ⟨_, m.2.1, rfl⟩)) fun e => ne (inj_on nd m.1 m.2.1 e), decide_eq_true fun z => ?_⟩
    have := (key m.1 m.2.1 ne).mp z
    rw [mk_of m.2.2] at this
    exact h2 this
  · rintro ⟨h1, h2⟩
    have h2 := of_decide_eq_true h2
    have m := mem_prsS gz.asc h1
    obtain ⟨a, ha, ea⟩ := List.mem_map.mp (pz.mem_iff.mpr m.1)
    obtain ⟨b, hb, eb⟩ := List.mem_map.mp (pz.mem_iff.mpr m.2.1)
    have ne : a ≠ b := fun e => by
      have l := m.2.2
      rw [← ea, ← eb, e] at l
      exact Lt.irr _ l
    have ep : mk (nm a) (nm b) = p := by rw [ea, eb, mk_of m.2.2]
    refine List.mem_map.mpr ⟨mk a b, List.mem_filter.mpr ⟨mk_mem g.asc ha hb ne, decide_eq_true fun z => ?_⟩, by rw [← ep]; exact mk_mk nm a b⟩
    exact h2 (by rw [← ep]; exact (key ha hb ne).mpr z)
/-- one name put anew -/
theorem nm_put {ks : List Str} {nm : Str → Str} {x v : Str} (nd : ks.Nodup) (hx : x ∈ ks) : putK (dkv ks ((ks.map nm).map V.str)) (Sum.inr x : Key) (V.str v) = dkv ks ((ks.map fun k => if k = x then v else nm k).map V.str) := by
  obtain ⟨i, hi, e⟩ := List.getElem_of_mem hx
  have e1 : ks[i]? = some x := by rw [List.getElem?_eq_getElem hi, e]
  rw [dkv_set nd e1 (by rw [List.length_map, List.length_map]; exact hi)]
  congr 1
  refine List.ext_getElem (by simp) fun j h1 h2 => ?_
  rw [List.getElem_set]
  simp only [List.getElem_map]
  simp only [List.length_set, List.length_map] at h1
  by_cases q : i = j
  · subst q
    rw [if_pos rfl, if_pos e]
  · rw [if_neg q, if_neg fun z => q (nd_inj nd e1 (by rw [List.getElem?_eq_getElem h1, z]))]
/-- two people exchanged -/
def tau (a b k : Str) : Str := if k = b then a else if k = a then b else k
theorem tau_tau (a b k : Str) : tau a b (tau a b k) = k := by
  unfold tau
  by_cases h1 : k = b
  · rw [if_pos h1]
    by_cases h2 : a = b
    · rw [if_pos h2, h1, h2]
    · rw [if_neg h2, if_pos rfl, h1]
  · rw [if_neg h1]
    by_cases h2 : k = a
    · rw [if_pos h2, if_pos rfl, h2]
    · rw [if_neg h2, if_neg h1, if_neg h2]
theorem tau_perm {ks : List Str} {a b : Str} (nd : ks.Nodup) (ha : a ∈ ks) (hb : b ∈ ks) : (ks.map (tau a b)).Perm ks := by
  refine (List.perm_ext_iff_of_nodup ?_ nd).mpr fun k => ?_
  · exact List.Pairwise.map _ (fun x y h e => h (by rw [← tau_tau a b x, e, tau_tau])) nd
  · have mem : ∀ {k : Str}, k ∈ ks → tau a b k ∈ ks := fun {k} hk => by
      unfold tau
      split
      · exact ha
      · split
        · exact hb
        · exact hk
    rw [List.mem_map]
    exact ⟨fun ⟨x, hx, e⟩ => e ▸ mem hx, fun h => ⟨tau a b k, mem h, tau_tau a b k⟩⟩
end Wd
end
section
set_option maxRecDepth 100000
set_option maxHeartbeats 4000000
namespace Wd
open PySem L2
theorem CAt.sd {C d : Addr} {H H' : Hp} {c : Addr} {xs : List Str} {ps : List Pr} {kvs : List (Key × V)} (h : CAt C H c xs ps) (s : SameX d H H') (hd : H d = some (.dK kvs)) : CAt C H' c xs ps := by
  obtain ⟨dx, a, b, h1, h2, Ts, h3, t⟩ := h
  have ne : ∀ {q : Addr} {o : HO}, H q = some o → (∀ ks, o ≠ .dK ks) → q ≠ d := fun e n z => n kvs (by rw [z, hd] at e; exact (Option.some.inj e).symm)
  exact ⟨dx, a, b, s _ _ (ne h1 fun _ z => nomatch z) h1, s _ _ (ne h2 fun _ z => nomatch z) h2, Ts, s _ _ (ne h3 fun _ z => nomatch z) h3, t.keep fun T o hT e => by
    obtain ⟨y, _, ey⟩ := t.at hT
    exact s _ _ (ne ey fun _ z => nomatch z) e⟩
theorem WAt.sd {d : Addr} {H H' : Hp} {c : Addr} {xs : List Str} {ps : List Pr} {kvs : List (Key × V)} (h : WAt H c xs ps) (s : SameX d H H') (hd : H d = some (.dK kvs)) : WAt H' c xs ps := by
  obtain ⟨a, b, h1, h2, Ts, h3, t⟩ := h
  have ne : ∀ {q : Addr} {o : HO}, H q = some o → (∀ ks, o ≠ .dK ks) → q ≠ d := fun e n z => n kvs (by rw [z, hd] at e; exact (Option.some.inj e).symm)
  exact ⟨a, b, s _ _ (ne h1 fun _ z => nomatch z) h1, s _ _ (ne h2 fun _ z => nomatch z) h2, Ts, s _ _ (ne h3 fun _ z => nomatch z) h3, t.keep fun T o hT e => by
    obtain ⟨y, _, ey⟩ := t.at hT
    exact s _ _ (ne ey fun _ z => nomatch z) e⟩
theorem key_tups {H : Hp} {nm : Str → Str} : ∀ {ks : List Str} {ts : List Addr}, Paired (fun (t : Addr) (q : Key × V) => H t = some (.tup [kV q.1, q.2])) ts (dkv ks ((ks.map nm).map V.str)) → Tups H ts ((ks.map fun k => (k, nm k)).map tv)
  | [], ts, h => by
    cases h
    exact Tups.nil
  | k :: ks, ts, h => by
    cases h with
    | cons h1 h2 =>
      have r := key_tups h2
      refine ⟨by rw [List.length_cons, r.1]; rfl, fun i T p a b => ?_⟩
      cases i with
      | zero =>
        obtain rfl := Option.some.inj a
        obtain rfl := Option.some.inj b
        exact h1
      | succ i => exact r.2 i T p a b
def spRR (C : Addr) : Sp := fun vs H Q _ => ∃ (p c a : Addr) (xs : List Str) (ps : List Pr) (c0 : Int) (n : Nat), vs = [.ref p, .ref c, .ref a] ∧ PurseAt H p c0 (n + 40) ∧ CAt C H c xs ps ∧ WAt H a xs ps ∧ Good xs ps ∧ ∀ H', SameX p H H' → PurseAt H' p c0 n → Q (.bl true) H'
section
variable {P : Program} {w : World} {K : PySem.W.Frag} {mg : Str → Option Value} {base : Heap}
theorem ok_renR {f C : Addr} {fd : FuncData} (F : Fun K "_law_renamed_right" "_law_renamed_right" s_renamed_right f fd) (T : Bt mg) (NE : HasNe P w K mg base C)
    (CR : HasK P w K mg base 6 "renamed" ["company", "names"] ["names", "company"] (spRen C) KxK.swapG KxK.swapG)
    (CX : Has P w K mg base 4 "_law_exact" ["_law_mine", "_law_theirs"] (spExact 3))
    (CL : Has P w K mg base 2 "_law_lists" ["_law_company_here"] (spLsts C))
    (CD : Has P w K mg base 2 "_law_renamed" ["_law_world_here", "_law_names_here"] spRenL)
    (CO : Has P w K mg base 6 "opposite" ["company"] (spOppC C))
    (CN : Has P w K mg base 4 "_law_names" ["_law_purse_here", "_law_crowd"] spNms)
    (CS : Has P w K mg base 3 "_law_shuffled" ["_law_purse_here", "_law_some"] spShuffled) :
    FnOk P w K mg base CX0 7 f fd ["_law_purse_here", "_law_company_here", "_law_world_here"] (spRR C) := by
  obtain ⟨fE, dE, GE, eE, nE, bE, neE, miE⟩ := NE
  obtain ⟨fR, dR, GR, mR, kR, bR, kbR⟩ := CR
  obtain ⟨fX, dX, GX, mX, kX, bX⟩ := CX
  obtain ⟨fL, dL, GL, mL, kL, bL⟩ := CL
  obtain ⟨fD, dD, GD, mD, kD, bD⟩ := CD
  obtain ⟨fO, dO, GO, mO, kO, bO⟩ := CO
  obtain ⟨fN, dN, GN, mN, kN, bN⟩ := CN
  obtain ⟨fS, dS, GS, mS, kS, bS⟩ := CS
  refine F.ok c_renamed_right (fun vs H Q E h => ?_) (fun cdv A outer s H vs Q E hr h => ?_)
  · obtain ⟨_, _, _, _, _, _, _, rfl, _⟩ := h
    rfl
  · obtain ⟨p, c, a, xs, ps, c0, n, rfl, pa, hc, hW, g, k⟩ := h
    have hu := hu_of hr
    have hrX : Room 4 _ := hr.mono (by decide)
    have hrL : Room 2 _ := hr.mono (by decide)
    have hrD : Room 2 _ := hr.mono (by decide)
    have hrO : Room 6 _ := hr.mono (by decide)
    have hrN : Room 4 _ := hr.mono (by decide)
    have hrS : Room 3 _ := hr.mono (by decide)
    have hrR : Room 6 _ := hr.mono (by decide)
    have hr1 : Room 1 _ := hr.mono (by decide)
    have hr2 : Room 2 _ := hr.mono (by decide)
    refine ⟨_, (pss_cons (ps_asg (pe_tup (pa_cons (pe_ix ix_list (pv 2) pe_int (fun _ _ => rfl)) (pa_cons (pe_call GN hrN rfl mN kN bN .nil pass0 (pa_cons (pv 0) (pa_cons (pe_ix ix_list (pv 2) pe_int (fun _ _ => rfl)) pa_nil))) pa_nil))) (pg_tup rfl (pgs_cons (pg_name (i := 3) c_renamed_right.nd rfl (Or.inl rfl)) (pgs_cons (pg_name (i := 4) c_renamed_right.nd rfl (Or.inr rfl)) pgs_nil))))
      (pss_cons (ps_set (i := 6) c_renamed_right.nd rfl (Or.inl rfl) (pe_callTy (call_dictP rfl) (by rfl) T.dict (by decide +kernel) (pa_cons (pe_lc (own := [("_law_person", 5)]) (g := gName 5) (tt := tYes) rfl c_renamed_right.nd (pi_list (pe_call GS hrS rfl mS kS bS .nil pass0 (pa_cons (pv 0) (pa_cons (pv 3) pa_nil)))) (blkOk_by (N := ["_law_purse_here", "_law_company_here", "_law_world_here", "_law_crowd", "_law_names_here", "_law_person", "_law_handed", "_law_before", "_law_back", "_law_made", "_law_due"]) (sc := defScope s_renamed_right) (by decide +kernel)) (fun _ _ _ _ _ => pg_name (i := 5) c_renamed_right.nd rfl (Or.inl rfl)) (fun _ _ _ _ _ => pts_nil) (fun _ _ _ _ _ => pe_tup (pa_cons (pv 5) (pa_cons (pe_dget hu (pv 4) (pv 5) (fun _ _ => rfl)) pa_nil)))) pa_nil)))
      (pss_cons (ps_par (i := 7) (j := 8) rfl c_renamed_right.nd rfl rfl (by decide) rfl rfl (pa_cons (LiI.pe_listItems rfl (pv 6) (by rfl) T.list (by decide +kernel)) (pa_cons (pe_callTy (call_dictP rfl) (by rfl) T.dict (by decide +kernel) (pa_cons (pe_lc (own := [("_law_person", 5)]) (g := gName 5) (tt := tYes) rfl c_renamed_right.nd (pi_list (pv 3)) (blkOk_by (N := ["_law_purse_here", "_law_company_here", "_law_world_here", "_law_crowd", "_law_names_here", "_law_person", "_law_handed", "_law_before", "_law_back", "_law_made", "_law_due"]) (sc := defScope s_renamed_right) (by decide +kernel)) (fun _ _ _ _ _ => pg_name (i := 5) c_renamed_right.nd rfl (Or.inl rfl)) (fun _ _ _ _ _ => pts_nil) (fun _ _ _ _ _ => pe_tup (pa_cons (pe_dget hu (pv 4) (pv 5) (fun _ _ => rfl)) (pa_cons (pv 5) pa_nil)))) pa_nil)) pa_nil)) (by rfl))
      (pss_cons (ps_set (i := 9) c_renamed_right.nd rfl (Or.inl rfl) (KxK.pe_callK0 GR hrR rfl mR kR kbR pass0 (pk_cons (pv 6) (pk_cons (pv 1) pk_nil))))
      (pss_cons (ps_set (i := 10) c_renamed_right.nd rfl (Or.inl rfl) (pe_call GD hrD rfl mD kD bD .nil pass0 (pa_cons (pv 2) (pa_cons (pv 4) pa_nil))))
      (pss_cons (ps_if (PW.pt (pw_or (pt_cmpR (op_neD hr.units) (LiI.pe_listItems rfl (pv 6) (by rfl) T.list (by decide +kernel)) (pv 7) (nomark _)) (pw_or1 (pt_not (pt_val (pe_call GX hrX rfl mX kX bX .nil pass0 (pa_cons (pe_call GL hrL rfl mL kL bL .nil pass0 (pa_cons (pv 9) pa_nil)) (pa_cons (pv 10) pa_nil)))))))) (pss_one ps_never) pss_nil)
      (pss_cons (ps_asg (pe_tup (pa_cons (pe_dget hu (pv 6) (pe_ix ix_list (pv 3) (pe_un un_neg pe_int) (fun _ _ => rfl)) (fun _ _ => rfl)) (pa_cons (pe_dget hu (pv 6) (pe_ix ix_list (pv 3) pe_int (fun _ _ => rfl)) (fun _ _ => rfl)) pa_nil))) (pg_tup rfl (pgs_cons (pg_sub (pv 6) (pe_ix ix_list (pv 3) pe_int (fun _ _ => rfl)) (set_dict hu)) (pgs_cons (pg_sub (pv 6) (pe_ix ix_list (pv 3) (pe_un un_neg pe_int) (fun _ _ => rfl)) (set_dict hu)) pgs_nil))))
      (pss_cons (ps_if (pt_not (pt_val (pe_call GX hrX rfl mX kX bX .nil pass0 (pa_cons (pe_call GL hrL rfl mL kL bL .nil pass0 (pa_cons (pe_call GR hrR rfl mR kR bR .nil pass0 (pa_cons (pv 1) (pa_cons (pv 6) pa_nil))) pa_nil)) (pa_cons (pe_call GD hrD rfl mD kD bD .nil pass0 (pa_cons (pv 2) (pa_cons (pe_callTy call_dictD (by rfl) T.dict (by decide +kernel) (pa_cons (pv 6) pa_nil)) pa_nil))) pa_nil))))) (pss_one ps_never) pss_nil)
      (pss_cons (ps_expr (pe_dclear (pv 6)))
      (pss_cons (ps_if (PW.pt (pw_or (pt_not (pt_val (pe_call GX hrX rfl mX kX bX .nil pass0 (pa_cons (pe_call GL hrL rfl mL kL bL .nil pass0 (pa_cons (pv 9) pa_nil)) (pa_cons (pv 10) pa_nil))))) (pw_or1 (pt_cmpR (op_neB GE eE nE bE pass0 neE miE hr2) (pe_call GR hrR rfl mR kR bR .nil pass0 (pa_cons (pv 9) (pa_cons (pv 8) pa_nil))) (pv 1) (nomark _))))) (pss_one ps_never) pss_nil)
      (pss_one (ps_ret (pe_and (pe_cmpR (op_eqB GE eE nE bE pass0 hr1) (pe_call GR hrR rfl mR kR bR .nil pass0 (pa_cons (pe_call GO hrO rfl mO kO bO .nil pass0 (pa_cons (pv 1) pa_nil)) (pa_cons (pv 4) pa_nil))) (pe_call GO hrO rfl mO kO bO .nil pass0 (pa_cons (pv 9) pa_nil)) (nomark _)) (pe_one (pe_cmpR (op_eqB GE eE nE bE pass0 hr1) (pe_call GR hrR rfl mR kR bR .nil pass0 (pa_cons (pv 1) (pa_cons (pe_callTy (call_dictP rfl) (by rfl) T.dict (by decide +kernel) (pa_cons (pe_lc (own := [("_law_person", 5)]) (g := gName 5) (tt := tYes) rfl c_renamed_right.nd (pi_list (pv 3)) (blkOk_by (N := ["_law_purse_here", "_law_company_here", "_law_world_here", "_law_crowd", "_law_names_here", "_law_person", "_law_handed", "_law_before", "_law_back", "_law_made", "_law_due"]) (sc := defScope s_renamed_right) (by decide +kernel)) (fun _ _ _ _ _ => pg_name (i := 5) c_renamed_right.nd rfl (Or.inl rfl)) (fun _ _ _ _ _ => pts_nil) (fun _ _ _ _ _ => pe_tup (pa_cons (pv 5) (pa_cons (pv 5) pa_nil)))) pa_nil)) pa_nil))) (pv 1) (nomark _)))))))))))))))), ?_⟩
    obtain ⟨wc, wl, ha, hwc, hwl⟩ := id hW
    have l9 := g.few
    have wcp : wc ≠ p := purse_ne pa hwc fun b' c' t' z' e => by
      have l := congrArg (fun o : HO => match o with | .lst (.int i :: _) => true | _ => false) e
      cases xs with
      | nil => simp at l
      | cons x r => simp at l
    have ap : a ≠ p := purse_ne pa ha fun _ _ _ _ e => by
      have l := congrArg (fun o : HO => match o with | .lst (.int i :: _) => true | _ => false) e
      simp at l
    refine ⟨_, rfl, a, _, _, .ref wc, rfl, rfl, SqL.of ha, rfl, _, rfl, _, rfl, a, _, _, .ref wc, rfl, rfl, SqL.of ha, rfl, p, wc, xs, ps, c0, n + 10, rfl, pa, hwc, g, wcp, fun H1 Nd nm sx1 hN ndn wn ndp pa1 => ?_⟩
    refine ⟨by show 2 ≤ sizeLine; decide, fun T0 hT0 => ⟨T0, _, rfl, SqT.of upd_same, rfl, _, _, rfl, _, _, rfl, rfl, ?_⟩⟩
    have e1 := same_new (o := .tup [.ref wc, .ref Nd]) hT0
    generalize upd H1 T0 (.tup [.ref wc, .ref Nd]) = H2 at e1 ⊢
    have sx2 : SameX p H H2 := sx1.trans (SameX.of e1)
    have pa2 := pa1.same e1
    have hN2 : NmAt H2 Nd xs nm := e1 _ _ hN
    have hc2 := hc.sameX pa sx2
    have hW2 := hW.sameX pa sx2
    have ha2 := sx2 _ _ ap ha
    have hwc2 := sx2 _ _ wcp hwc
    refine ⟨_, rfl, _, rfl, p, wc, xs.map V.str, c0, n, rfl, pa2.less (by rw [List.length_map]; omega), hwc2, wcp, by rw [List.length_map]; omega, fun H3 Sh vs' pm sx3 nSh hSh nShp pa3 => ?_⟩
    obtain ⟨ks, pk, ek⟩ := perm_lift V.str pm xs rfl
    subst ek
    have ndk : ks.Nodup := pk.nodup_iff.mpr g.nd
    have lk := pk.length_eq
    have hN3 : NmAt H3 Nd xs nm := sx3 _ _ ndp hN2
    have hc3 := hc2.sameX pa2 sx3
    have hW3 := hW2.sameX pa2 sx3
    have ha3 := sx3 _ _ ap ha2
    have hwc3 := sx3 _ _ wcp hwc2
    have sxH3 := sx2.trans sx3
    refine ⟨Sh, rfl, ⟨_, SqL.of hSh⟩, fun R hR => ?_⟩
    refine lc_list (xs := ks.map V.str) (fun j H' => ∃ Vs : List Addr, H' R = some (.lst (Vs.map V.ref)) ∧ Same H3 H' ∧ Tups H' Vs (((ks.take j).map fun x => (x, nm x)).map tv))
      ⟨[], upd_same, same_new hR, Tups.nil⟩ (fun j H' _ ⟨_, _, s6, _⟩ => SqL.of (s6 _ _ hSh)) ?_ ?_
    · rintro j v Hj hv ⟨Vs, hrj, sj, tvj⟩
      rw [List.getElem?_map] at hv
      obtain ⟨x, hx, rfl⟩ := Option.map_eq_some_iff.mp hv
      have jl := (List.getElem?_eq_some_iff.mp hx).1
      have mx := List.mem_of_getElem? hx
      refine ⟨rfl, _, rfl, _, rfl, _, rfl, Nd, _, rfl, nm_get (show NmAt Hj Nd xs nm from sj _ _ hN3) g.nd (pk.mem_iff.mp mx), by show 2 ≤ sizeLine; decide, fun T hT => ?_⟩
      have ej := same_new (o := .tup [.str (x), .str (nm x)]) hT
      have hTj : upd Hj T (.tup [.str (x), .str (nm x)]) T = some (.tup [.str (x), .str (nm x)]) := upd_same
      generalize upd Hj T (.tup [.str (x), .str (nm x)]) = Hk at ej hTj ⊢
      have lv : Vs.length = j := by rw [tvj.1, List.length_map, List.length_map, List.length_take]; omega
      have hrk := ej _ _ hrj
      refine ⟨_, hrk, by rw [List.length_map, sizeLine_eq]; omega, Vs ++ [T], by rw [upd_same]; simp, same_over (sj.trans ej) hR, ?_⟩
      rw [take_next hx, List.map_append, List.map_append]
      have t3 := (tvj.same ej).upd (a := R) (o := .lst (Vs.map V.ref ++ [V.ref T])) fun x y e => by
        rw [hrk] at e
        cases e
      exact t3.snoc (p := tv (x, nm x)) (by rw [upd_ne (ne_of hrk hTj (fun z => nomatch z)).symm]; exact hTj)
    rintro H4 ⟨VR, hrR, s4, tR⟩
    rw [List.length_map, List.take_length] at tR
    refine ⟨R, VR, _, rfl, SqL.of hrR, pairs_key tR, fun Hd hHd => ?_⟩
    rw [merge_nm nm ndk]
    have nHd3 : H3 Hd = none := same_none s4 hHd
    have S5 : Same H3 (upd H4 Hd (.dK (dkv ks ((ks.map nm).map V.str)))) := same_updN s4 hHd
    have hD5 : NmAt (upd H4 Hd (.dK (dkv ks ((ks.map nm).map V.str)))) Hd ks nm := upd_same
    have nHp : Hd ≠ p := purse_none (pa3.same s4) hHd
    generalize upd H4 Hd (.dK (dkv ks ((ks.map nm).map V.str))) = H5 at S5 hD5 ⊢
    refine ⟨_, rfl, Hd, _, rfl, hD5, fun H6 Bf bs s6 nBf nbs nin hBf hpB => ?_⟩
    have s6 : Same H5 H6 := s6
    have tB := key_tups hpB
    have S6 := S5.trans s6
    have hwc6 := S6 _ _ hwc3
    have hN6 : NmAt H6 Nd xs nm := S6 _ _ hN3
    refine ⟨_, rfl, wc, rfl, ⟨_, SqL.of hwc6⟩, fun R2 hR2 => ?_⟩
    refine lc_list (xs := xs.map V.str) (fun j H' => ∃ Vs : List Addr, H' R2 = some (.lst (Vs.map V.ref)) ∧ Same H6 H' ∧ Tups H' Vs (((xs.take j).map fun x => (nm x, x)).map tv))
      ⟨[], upd_same, same_new hR2, Tups.nil⟩ (fun j H' _ ⟨_, _, s6, _⟩ => SqL.of (s6 _ _ hwc6)) ?_ ?_
    · rintro j v Hj hv ⟨Vs, hrj, sj, tvj⟩
      rw [List.getElem?_map] at hv
      obtain ⟨x, hx, rfl⟩ := Option.map_eq_some_iff.mp hv
      have jl := (List.getElem?_eq_some_iff.mp hx).1
      have mx := List.mem_of_getElem? hx
      refine ⟨rfl, _, rfl, _, rfl, Nd, _, rfl, nm_get (show NmAt Hj Nd xs nm from sj _ _ hN6) g.nd mx, _, rfl, by show 2 ≤ sizeLine; decide, fun T hT => ?_⟩
      have ej := same_new (o := .tup [.str (nm x), .str (x)]) hT
      have hTj : upd Hj T (.tup [.str (nm x), .str (x)]) T = some (.tup [.str (nm x), .str (x)]) := upd_same
      generalize upd Hj T (.tup [.str (nm x), .str (x)]) = Hk at ej hTj ⊢
      have lv : Vs.length = j := by rw [tvj.1, List.length_map, List.length_map, List.length_take]; omega
      have hrk := ej _ _ hrj
      refine ⟨_, hrk, by rw [List.length_map, sizeLine_eq]; omega, Vs ++ [T], by rw [upd_same]; simp, same_over (sj.trans ej) hR2, ?_⟩
      rw [take_next hx, List.map_append, List.map_append]
      have t3 := (tvj.same ej).upd (a := R2) (o := .lst (Vs.map V.ref ++ [V.ref T])) fun x y e => by
        rw [hrk] at e
        cases e
      exact t3.snoc (p := tv (nm x, x)) (by rw [upd_ne (ne_of hrk hTj (fun z => nomatch z)).symm]; exact hTj)
    rintro H7 ⟨VR2, hrR2, s7, tR2⟩
    rw [List.length_map, List.take_length] at tR2
    obtain ⟨inv, einv⟩ := nm_ex (fs := xs) ndn (by rw [List.length_map])
    have iv : ∀ x ∈ xs, inv (nm x) = x := fun x hx => by
      obtain ⟨i, hi, e⟩ := List.getElem_of_mem hx
      have q := congrArg (fun l => l[i]?) einv
      simp only [List.getElem?_map, List.getElem?_eq_getElem hi, Option.map_some] at q
      rw [e] at q
      exact Option.some.inj q
    have eiv : (xs.map fun x => (nm x, x)) = ((xs.map nm).map fun k => (k, inv k)) := by
      rw [List.map_map]
      exact List.map_congr_left fun x hx => by show (nm x, x) = (nm x, inv (nm x)); rw [iv x hx]
    rw [eiv] at tR2
    refine ⟨R2, VR2, _, rfl, SqL.of hrR2, pairs_key tR2, fun Bk hBk => ⟨_, _, rfl, ?_⟩⟩
    rw [merge_nm inv ndn]
    have s8 : Same H6 (upd H7 Bk (.dK (dkv (xs.map nm) (((xs.map nm).map inv).map V.str)))) := same_updN s7 hBk
    have hB8 : NmAt (upd H7 Bk (.dK (dkv (xs.map nm) (((xs.map nm).map inv).map V.str)))) Bk (xs.map nm) inv := upd_same
    have nBk : Bk ≠ Hd := fun z => by
      have := (s6.trans s7) _ _ hD5
      rw [← z, hBk] at this
      cases this
    generalize upd H7 Bk (.dK (dkv (xs.map nm) (((xs.map nm).map inv).map V.str))) = H8 at s8 hB8 ⊢
    have s58 := s6.trans s8
    have S8 := S5.trans s58
    have hD8 : NmAt H8 Hd ks nm := s58 _ _ hD5
    obtain ⟨zs, qs, gz, pz, pq⟩ := ren_ex g pk ndn wn
    have pz' : (xs.map nm).Perm zs := (pk.symm.map nm).trans pz
    refine ⟨_, rfl, _, rfl, c, Hd, xs, ks, zs, nm, ps, qs, rfl, hc3.same S8, g, hD8, pk, pz, pq, gz, fun H9 Md s9 n9 hM => ?_⟩
    have S9 := S8.trans s9
    refine ⟨_, rfl, _, rfl, a, Nd, xs, xs, zs, nm, ps, qs, rfl, hW3.same S9, g, S9 _ _ hN3, List.Perm.refl _, pz', pq, gz, fun H10 Du s10 n10 hDu => ?_⟩
    have S10 := S9.trans s10
    have hD10 : NmAt H10 Hd ks nm := (s9.trans s10) _ _ hD8
    refine ⟨_, rfl, Hd, _, rfl, hD10, fun H11 It its s11 nIt nits nin2 hIt hpI => ?_⟩
    have s11 : Same H10 H11 := s11
    have tI := key_tups hpI
    have s611 := ((s8.trans s9).trans s10).trans s11
    have wq : ∀ q ∈ ks.map (fun k => (k, nm k)), IsW q.1 ∧ IsW q.2 := fun q hq => by
      obtain ⟨k', hk, rfl⟩ := List.mem_map.mp hq
      have := pk.mem_iff.mp hk
      exact ⟨g.word _ this, wn _ this⟩
    refine ⟨_, rfl, pdL (ks.map fun k => (k, nm k)), pdL (ks.map fun k => (k, nm k)), dp_pdL (SqL.of hIt) tI, dp_pdL (SqL.of (s611 _ _ hBf)) (tB.same s611), pdL_shaped wq, pdL_shaped wq, ?_⟩
    rw [eqv_pdL, decide_eq_true rfl]
    refine ⟨_, rfl, iteF ?_⟩
    have S11 := S10.trans s11
    refine ⟨_, rfl, Md, zs, qs, rfl, hM.same (s10.trans s11), gz, fun H12 L1 s12 n12 hL1 => ?_⟩
    refine ⟨_, rfl, _, _, rfl, sm_world gz hL1 (hDu.same (s11.trans s12)), fun H13 s13 => ⟨_, rfl, iteF ?_⟩⟩
    have S13 := (S11.trans s12).trans s13
    have s1013 := (s11.trans s12).trans s13
    have hD13 : NmAt H13 Hd ks nm := s1013 _ _ hD10
    obtain ⟨x0, xr, ex⟩ : ∃ x0 xr, xs = x0 :: xr := by
      cases xs with
      | nil => simp at l9
      | cons x0 xr => exact ⟨x0, xr, rfl⟩
    have nx : xs ≠ [] := fun e => by rw [e] at l9; simp at l9
    obtain ⟨xl, yr, ey⟩ : ∃ xl yr, xs = yr ++ [xl] := ⟨xs.getLast nx, xs.dropLast, (List.dropLast_concat_getLast nx).symm⟩
    have mx0 : x0 ∈ ks := pk.mem_iff.mpr (by rw [ex]; exact List.mem_cons_self ..)
    have mxl : xl ∈ ks := pk.mem_iff.mpr (by rw [ey]; exact List.mem_append.mpr (.inr (List.mem_singleton.mpr rfl)))
    have at0 : atI (xs.map V.str) 0 = some (.str x0) := by rw [ex]; exact atI_nat (j := 0) rfl
    have atl : atI (xs.map V.str) (-1) = some (.str xl) := by rw [ey, List.map_append]; exact atI_last _ _
    have hwc13 := S13 _ _ hwc3
    refine ⟨_, rfl, _, rfl, 1, rfl, wc, _, _, .str xl, rfl, rfl, SqL.of hwc13, atl, Hd, _, rfl, nm_get hD13 ndk mxl, ?_⟩
    refine ⟨_, rfl, _, rfl, wc, _, _, .str x0, rfl, rfl, SqL.of hwc13, at0, Hd, _, rfl, nm_get hD13 ndk mx0, by show 2 ≤ sizeLine; decide, fun T1 hT1 => ?_⟩
    have e14 := same_new (o := .tup [.str (nm xl), .str (nm x0)]) hT1
    have hT14 : upd H13 T1 (.tup [.str (nm xl), .str (nm x0)]) T1 = some (.tup [.str (nm xl), .str (nm x0)]) := upd_same
    generalize upd H13 T1 (.tup [.str (nm xl), .str (nm x0)]) = H14 at e14 hT14 ⊢
    have hD14 : NmAt H14 Hd ks nm := e14 _ _ hD13
    have hwc14 := e14 _ _ hwc13
    have wcHd : wc ≠ Hd := ne_of_none hwc3 nHd3
    have lkv : (dkv ks ((ks.map nm).map V.str)).length < sizeLine := by
      rw [dkv_len (by rw [List.length_map, List.length_map]), sizeLine_eq]
      omega
    refine ⟨T1, _, rfl, SqT.of hT14, rfl, _, _, rfl, _, rfl, _, rfl, wc, _, _, .str x0, rfl, rfl, SqL.of hwc14, at0, Hd, _, rfl, .inl ⟨_, Sum.inr x0, hD14, rfl, lkv, rfl⟩, ?_⟩
    have p1 := nm_put (nm := nm) (v := nm xl) ndk mx0
    rw [p1]
    have x15 : SameX Hd H14 (upd H14 Hd (.dK (dkv ks ((ks.map fun k => if k = x0 then nm xl else nm k).map V.str)))) := SameX.upd
    have hD15 : upd H14 Hd (.dK (dkv ks ((ks.map fun k => if k = x0 then nm xl else nm k).map V.str))) Hd = some (.dK (dkv ks ((ks.map fun k => if k = x0 then nm xl else nm k).map V.str))) := upd_same
    generalize upd H14 Hd (.dK (dkv ks ((ks.map fun k => if k = x0 then nm xl else nm k).map V.str))) = H15 at x15 hD15 ⊢
    have lkv1 : (dkv ks ((ks.map fun k => if k = x0 then nm xl else nm k).map V.str)).length < sizeLine := by
      rw [dkv_len (by rw [List.length_map, List.length_map]), sizeLine_eq]
      omega
    refine ⟨_, _, rfl, _, rfl, _, rfl, 1, rfl, wc, _, _, .str xl, rfl, rfl, SqL.of (x15 _ _ wcHd hwc14), atl, Hd, _, rfl, .inl ⟨_, Sum.inr xl, hD15, rfl, lkv1, rfl⟩, rfl, ?_⟩
    have p2 := nm_put (nm := fun k => if k = x0 then nm xl else nm k) (v := nm x0) ndk mxl
    rw [p2]
    have en2 : (fun k => if k = xl then nm x0 else if k = x0 then nm xl else nm k) = fun k => nm (tau x0 xl k) := by
      funext k
      unfold tau
      by_cases h1 : k = xl
      · rw [if_pos h1, if_pos h1]
      · rw [if_neg h1, if_neg h1]
        by_cases h2 : k = x0
        · rw [if_pos h2, if_pos h2]
        · rw [if_neg h2, if_neg h2]
    rw [en2]
    have x16 : SameX Hd H14 (upd H15 Hd (.dK (dkv ks ((ks.map fun k => nm (tau x0 xl k)).map V.str)))) := x15.trans SameX.upd
    have hD16 : NmAt (upd H15 Hd (.dK (dkv ks ((ks.map fun k => nm (tau x0 xl k)).map V.str)))) Hd ks (fun k => nm (tau x0 xl k)) := upd_same
    generalize upd H15 Hd (.dK (dkv ks ((ks.map fun k => nm (tau x0 xl k)).map V.str))) = H16 at x16 hD16 ⊢
    have S14 := S13.trans e14
    have S16 : Same H3 H16 := fun q o e => x16 q o (ne_of_none e nHd3) (S14 _ _ e)
    have hM16 : CAt C H16 Md zs qs := ((hM.same (s10.trans s1013)).same e14).sd x16 hD14
    have hDu16 : WAt H16 Du zs qs := ((hDu.same s1013).same e14).sd x16 hD14
    have hB16 : NmAt H16 Bk (xs.map nm) inv := x16 _ _ nBk (e14 _ _ (((s9.trans s10).trans s1013) _ _ hB8))
    have mx0' : x0 ∈ xs := pk.mem_iff.mp mx0
    have mxl' : xl ∈ xs := pk.mem_iff.mp mxl
    have tx : (xs.map fun k => nm (tau x0 xl k)).Perm (xs.map nm) := by
      have := (tau_perm g.nd mx0' mxl').map nm
      rw [List.map_map] at this
      exact this
    have tmem : ∀ x ∈ xs, tau x0 xl x ∈ xs := fun x hx => (tau_perm g.nd mx0' mxl').mem_iff.mp (List.mem_map.mpr ⟨x, hx, rfl⟩)
    obtain ⟨zs2, qs2, gz2, pz2, pq2⟩ := ren_ex (nm := fun k => nm (tau x0 xl k)) g pk (tx.nodup_iff.mpr ndn) fun x hx => wn _ (tmem x hx)
    have pz2' : (xs.map fun k => nm (tau x0 xl k)).Perm zs2 := (pk.symm.map _).trans pz2
    refine ⟨_, rfl, _, rfl, c, Hd, xs, ks, zs2, _, ps, qs2, rfl, hc3.same S16, g, hD16, pk, pz2, pq2, gz2, fun H17 M2 s17 n17 hM2 => ⟨M2, zs2, qs2, rfl, hM2, gz2, fun H18 L2 s18 n18 hL2 => ?_⟩⟩
    have s1618 := s17.trans s18
    have hD18 : NmAt H18 Hd ks (fun k => nm (tau x0 xl k)) := s1618 _ _ hD16
    refine ⟨_, rfl, _, rfl, Hd, _, rfl, .inl hD18, fun Dc hDc => ?_⟩
    have e19 := same_new (o := .dK (dkv ks ((ks.map fun k => nm (tau x0 xl k)).map V.str))) hDc
    have hDc19 : NmAt (upd H18 Dc (.dK (dkv ks ((ks.map fun k => nm (tau x0 xl k)).map V.str)))) Dc ks (fun k => nm (tau x0 xl k)) := upd_same
    generalize upd H18 Dc (.dK (dkv ks ((ks.map fun k => nm (tau x0 xl k)).map V.str))) = H19 at e19 hDc19 ⊢
    have s1619 := s1618.trans e19
    refine ⟨a, Dc, xs, ks, zs2, _, ps, qs2, rfl, hW3.same (S16.trans s1619), g, hDc19, pk, pz2', pq2, gz2, fun H20 W2 s20 n20 hW2' => ?_⟩
    refine ⟨_, _, rfl, sm_world gz2 (hL2.same (e19.trans s20)) hW2', fun H21 s21 => ⟨_, rfl, iteF ?_⟩⟩
    have s1621 := (s1619.trans s20).trans s21
    have hD21 : NmAt H21 Hd ks (fun k => nm (tau x0 xl k)) := s1621 _ _ hD16
    refine ⟨_, rfl, .inr (.inr (.inl ⟨rfl, .inl ⟨_, hD21⟩⟩)), Hd, _, rfl, rfl, hD21, ?_⟩
    have x22 : SameX Hd H21 (upd H21 Hd (.dK [])) := SameX.upd
    generalize upd H21 Hd (.dK []) = H22 at x22 ⊢
    have S22 : Same H3 H22 := fun q o e => x22 q o (ne_of_none e nHd3) ((S16.trans s1621) _ _ e)
    have hM22 : CAt C H22 Md zs qs := (hM16.same s1621).sd x22 hD21
    have hDu22 : WAt H22 Du zs qs := (hDu16.same s1621).sd x22 hD21
    have hB22 : NmAt H22 Bk (xs.map nm) inv := x22 _ _ nBk (s1621 _ _ hB16)
    refine ⟨_, rfl, Md, zs, qs, rfl, hM22, gz, fun H23 L3 s23 n23 hL3 => ⟨_, rfl, _, _, rfl, sm_world gz hL3 (hDu22.same s23), fun H24 s24 => ⟨_, rfl, iteF ?_⟩⟩⟩
    have s2224 := s23.trans s24
    have pb : (renP inv qs).Perm ps := by
      have := pq.symm.map fun p : Pr => mk (inv p.1) (inv p.2)
      have e := ren_back g iv
      unfold renP at e this ⊢
      rw [e] at this
      exact this
    refine ⟨_, rfl, _, rfl, Md, Bk, zs, xs.map nm, xs, inv, qs, ps, rfl, hM22.same s2224, gz, s2224 _ _ hB22, pz', by rw [einv], pb, g, fun H25 M3 s25 n25 hM3 => ?_⟩
    have S25 := (S22.trans s2224).trans s25
    refine ⟨_, rfl, _, ceq g g hM3 (hc3.same S25), fun H26 e26 => ?_⟩
    have e26 : Same H25 H26 := e26
    rw [decide_eq_true ⟨rfl, rfl⟩]
    refine ⟨_, rfl, iteF ?_⟩
    have S26 := S25.trans e26
    have m26 := (s2224.trans s25).trans e26
    refine ⟨_, rfl, c, xs, ps, rfl, hc3.same S26, g, fun H27 O1 s27 n27 hO1 => ⟨_, rfl, O1, Nd, xs, xs, zs, nm, oppP xs ps, oppP zs qs, rfl, hO1, g.opp, (S26.trans s27) _ _ hN3, List.Perm.refl _, pz', ren_opp g ndn gz pz' pq, gz.opp, fun H28 R1 s28 n28 hR1 => ?_⟩⟩
    have m28 := (m26.trans s27).trans s28
    refine ⟨_, rfl, Md, zs, qs, rfl, hM22.same m28, gz, fun H29 O2 s29 n29 hO2 => ⟨_, ceq gz.opp gz.opp (hR1.same s29) hO2, fun H30 e30 => ?_⟩⟩
    have e30 : Same H29 H30 := e30
    rw [decide_eq_true ⟨rfl, rfl⟩]
    refine ⟨_, rfl, iteT ?_⟩
    have S30 := (((S26.trans s27).trans s28).trans s29).trans e30
    have hwc30 := S30 _ _ hwc3
    refine ⟨_, rfl, _, rfl, wc, rfl, ⟨_, SqL.of hwc30⟩, fun R6 hR6 => ?_⟩
    refine lc_list (xs := xs.map V.str) (fun j H' => ∃ Vs : List Addr, H' R6 = some (.lst (Vs.map V.ref)) ∧ Same H30 H' ∧ Tups H' Vs (((xs.take j).map fun x => (x, x)).map tv))
      ⟨[], upd_same, same_new hR6, Tups.nil⟩ (fun j H' _ ⟨_, _, s6, _⟩ => SqL.of (s6 _ _ hwc30)) ?_ ?_
    · rintro j v Hj hv ⟨Vs, hrj, sj, tvj⟩
      rw [List.getElem?_map] at hv
      obtain ⟨x, hx, rfl⟩ := Option.map_eq_some_iff.mp hv
      have jl := (List.getElem?_eq_some_iff.mp hx).1
      refine ⟨rfl, _, rfl, _, rfl, by show 2 ≤ sizeLine; decide, fun T hT => ?_⟩
      have ej := same_new (o := .tup [.str (x), .str (x)]) hT
      have hTj : upd Hj T (.tup [.str (x), .str (x)]) T = some (.tup [.str (x), .str (x)]) := upd_same
      generalize upd Hj T (.tup [.str (x), .str (x)]) = Hk at ej hTj ⊢
      have lv : Vs.length = j := by rw [tvj.1, List.length_map, List.length_map, List.length_take]; omega
      have hrk := ej _ _ hrj
      refine ⟨_, hrk, by rw [List.length_map, sizeLine_eq]; omega, Vs ++ [T], by rw [upd_same]; simp, same_over (sj.trans ej) hR6, ?_⟩
      rw [take_next hx, List.map_append, List.map_append]
      have t3 := (tvj.same ej).upd (a := R6) (o := .lst (Vs.map V.ref ++ [V.ref T])) fun x y e => by
        rw [hrk] at e
        cases e
      exact t3.snoc (p := tv (x, x)) (by rw [upd_ne (ne_of hrk hTj (fun z => nomatch z)).symm]; exact hTj)
    rintro H31 ⟨VR6, hrR6, s31, tR6⟩
    rw [List.length_map, List.take_length] at tR6
    refine ⟨R6, VR6, _, rfl, SqL.of hrR6, pairs_key (nm := id) tR6, fun Di hDi => ?_⟩
    rw [merge_nm id g.nd]
    have S32 : Same H30 (upd H31 Di (.dK (dkv xs ((xs.map id).map V.str)))) := same_updN s31 hDi
    have hDi32 : NmAt (upd H31 Di (.dK (dkv xs ((xs.map id).map V.str)))) Di xs id := upd_same
    generalize upd H31 Di (.dK (dkv xs ((xs.map id).map V.str))) = H32 at S32 hDi32 ⊢
    have S032 := S30.trans S32
    refine ⟨c, Di, xs, xs, xs, id, ps, ps, rfl, hc3.same S032, g, hDi32, List.Perm.refl _, by rw [List.map_id], by rw [ren_id g], g, fun H33 M4 s33 n33 hM4 => ?_⟩
    refine ⟨_, rfl, _, ceq g g hM4 (hc3.same (S032.trans s33)), fun H34 e34 => ?_⟩
    have e34 : Same H33 H34 := e34
    rw [decide_eq_true ⟨rfl, rfl⟩]
    have Sf := (S032.trans s33).trans e34
    exact k H34 (sxH3.trans (SameX.of Sf)) (pa3.same Sf)
end
end Wd
end
section
set_option maxRecDepth 100000
set_option maxHeartbeats 4000000
namespace Wd
open PySem L2
/-- a company whose own lists were not there at H0 -/
def CAtF (C : Addr) (H0 H : Hp) (c : Addr) (xs : List Str) (ps : List Pr) : Prop := ∃ dx a b, H0 a = none ∧ H0 b = none ∧ H c = some (.ins C dx (cF a b)) ∧ H a = some (.lst (xs.map V.str)) ∧ PwAt H b ps
theorem CAtF.at {C : Addr} {H0 H : Hp} {c : Addr} {xs : List Str} {ps : List Pr} (h : CAtF C H0 H c xs ps) : CAt C H c xs ps := by
  obtain ⟨dx, a, b, _, _, h1, h2, h3⟩ := h
  exact ⟨dx, a, b, h1, h2, h3⟩
theorem CAtF.mono {C : Addr} {H H0 H1 : Hp} {c : Addr} {xs : List Str} {ps : List Pr} (h : CAtF C H0 H1 c xs ps) (s : Same H H0) : CAtF C H H1 c xs ps := by
  obtain ⟨dx, a, b, n1, n2, h⟩ := h
  exact ⟨dx, a, b, same_none s n1, same_none s n2, h⟩
theorem CAtF.same {C : Addr} {H0 H H' : Hp} {c : Addr} {xs : List Str} {ps : List Pr} (h : CAtF C H0 H c xs ps) (s : Same H H') : CAtF C H0 H' c xs ps := by
  obtain ⟨dx, a, b, n1, n2, h1, h2, h3⟩ := h
  exact ⟨dx, a, b, n1, n2, s _ _ h1, s _ _ h2, h3.same s⟩
/-- a list that stood at H0 may change: the company stays -/
theorem CAtF.sx {C d : Addr} {H0 H H' : Hp} {c : Addr} {xs : List Str} {ps : List Pr} {ys ys' : List V} (h : CAtF C H0 H c xs ps) (s : SameX d H H') (h0 : H0 d = some (.lst ys)) (hd : H d = some (.lst ys')) : CAtF C H0 H' c xs ps := by
  obtain ⟨dx, a, b, n1, n2, h1, h2, Ts, h3, t⟩ := h
  have ne : ∀ {q : Addr}, H0 q = none → q ≠ d := fun n z => by
    rw [z, h0] at n
    cases n
  have ne2 : ∀ {q : Addr} {o : HO}, H q = some o → (∀ ks, o ≠ .lst ks) → q ≠ d := fun e n z => n ys' (by rw [z, hd] at e; exact (Option.some.inj e).symm)
  exact ⟨dx, a, b, n1, n2, s _ _ (ne2 h1 fun _ z => nomatch z) h1, s _ _ (ne n1) h2, Ts, s _ _ (ne n2) h3, t.keep fun T o hT e => by
    obtain ⟨y, _, ey⟩ := t.at hT
    exact s _ _ (ne2 ey fun _ z => nomatch z) e⟩
def spInitF (C : Addr) : Sp := fun vs H Q _ => ∃ (p dx l m : Addr) (ys xs : List Str) (qs ps : List Pr), vs = [.ref p, .ref l, .ref m] ∧ H p = some (.ins C dx []) ∧ H l = some (.lst (ys.map V.str)) ∧ PwAt H m qs ∧ ys.Perm xs ∧ qs.Perm ps ∧ Good xs ps ∧
  ∀ H', SameX p H H' → CAtF C H H' p xs ps → Q .non H'
structure MakerF (P : Program) (w : World) (K : PySem.W.Frag) (mg : Str → Option Value) (base : Heap) (C : Addr) : Prop where
  ex : ∃ (f : Addr) (fd : FuncData), Mk K C f ∧ FnOk P w K mg base CX0 4 f fd ["self", "people", "friends"] (spInitF C) ∧ Binds K fd ["self", "people", "friends"] []
def spKeptF (C : Addr) : Sp := fun vs H Q _ => ∃ (c m : Addr) (xs ys zs : List Str) (ps : List Pr), vs = [.ref c, .ref m] ∧ CAt C H c xs ps ∧ Good xs ps ∧ H m = some (.lst (ys.map V.str)) ∧ ys.Perm zs ∧ Good zs (cutP ys ps) ∧
  ∀ (H' : Hp) (D : Addr), Same H H' → H D = none → CAtF C H H' D zs (cutP ys ps) → Q (.ref D) H'
def spCutF (C : Addr) : Sp := fun vs H Q _ => ∃ (c m : Addr) (xs ys zs : List Str) (ps : List Pr), vs = [.ref c, .ref m] ∧ CAt C H c xs ps ∧ Good xs ps ∧ H m = some (.lst (ys.map V.str)) ∧ (∀ y ∈ ys, y ∈ xs) ∧ ys.Perm zs ∧ Good zs (cutP ys ps) ∧
  ∀ (H' : Hp) (D : Addr), Same H H' → H D = none → CAtF C H H' D zs (cutP ys ps) → Q (.ref D) H'
section
variable {P : Program} {w : World} {K : PySem.W.Frag} {mg : Str → Option Value} {base : Heap}
theorem ok_initF {f C : Addr} {fd : FuncData} (F : Fun K "__init__" "Company.__init__" cI f fd) (T : Bt mg) (TC : CT K mg C) (CA : Has P w K mg base 3 "are_people" ["value"] spArePpl) (CB : Has P w K mg base 2 "are_pairs_of" ["people", "value"] spPairsOf) :
    FnOk P w K mg base CX0 4 f fd ["self", "people", "friends"] (spInitF C) := by
  obtain ⟨fA, fdA, GA, mA, kA, bA⟩ := CA
  obtain ⟨fB, fdB, GB, mB, kB, bB⟩ := CB
  refine F.ok sc_I (fun vs H Q E h => ?_) (fun cdv A outer s H vs Q E hr h => ?_)
  · obtain ⟨_, _, _, _, _, _, _, _, rfl, _⟩ := h
    rfl
  · obtain ⟨p, dx, l, m, ys, xs, qs, ps, rfl, hp, hl, hm, py, pq, g, k⟩ := h
    have hr2 : Room 2 _ := hr.mono (by decide)
    have few := g.len
    have l9 := g.few
    have ly := py.length_eq
    have lq := pq.length_eq
    refine ⟨_, pss_cons (ps_if (pt_not (pt_val (pe_call GA hr rfl mA kA bA .nil pass0 (pa_cons (pv 1) pa_nil)))) (pss_one ps_never) pss_nil)
      (pss_cons (ps_if (pt_not (pt_val (pe_call GB hr2 rfl mB kB bB .nil pass0 (pa_cons (pv 1) (pa_cons (pv 2) pa_nil))))) (pss_one ps_never) pss_nil)
      (pss_cons (ps_fld (pv 0) (pe_callB cr_sortedS (by rfl) T.sorted (by decide +kernel) (pa_cons (pv 1) pa_nil)) rfl)
      (pss_one (ps_fld (pv 0) (pe_callB (Kx.cr_sortedD hr.units) (by rfl) T.sorted (by decide +kernel) (pa_cons (pv 2) pa_nil)) rfl)))), ?_⟩
    refine ⟨_, rfl, l, ys, rfl, hl, py.nodup_iff.mpr g.asc.nd, fun x hx => g.word x (py.mem_iff.mp hx), by omega, by omega, fun H1 s1 => ?_⟩
    refine ⟨_, rfl, iteF ?_⟩
    refine ⟨_, rfl, _, rfl, l, m, ys, qs, rfl, s1 _ _ hl, hm.same s1, pq.nodup_iff.mpr g.nodup, by omega, fun q hq => ?_, fun H2 s2 => ?_⟩
    · have o := g.of q (pq.mem_iff.mp hq)
      exact ⟨py.mem_iff.mpr o.1, py.mem_iff.mpr o.2.1, o.2.2⟩
    refine ⟨_, rfl, iteF ?_⟩
    have s12 := s1.trans s2
    refine ⟨_, rfl, l, ys, rfl, SqL.of (s12 _ _ hl), by omega, fun zs a pz so hA => ?_⟩
    have ez : zs = xs := ascS_uniq (asc_of_sorted so (pz.nodup_iff.mpr (py.nodup_iff.mpr g.asc.nd))) g.asc fun x => by rw [pz.mem_iff, py.mem_iff]
    subst ez
    have hp2 := s12 _ _ hp
    have pa : p ≠ a := ne_of_none hp2 hA
    refine ⟨_, rfl, p, C, dx, [], rfl, by rw [upd_ne pa]; exact hp2, TC.is.cl, TC.nP, (by show 0 < 1000; decide), ?_⟩
    obtain ⟨Ts, hm1, tu⟩ := hm.same s12
    have mp : m ≠ p := fun z => by
      rw [z, hp2] at hm1
      cases hm1
    have ma : m ≠ a := ne_of_none hm1 hA
    have tne : ∀ {H' : Hp} {U : Addr} {o : HO}, H2 U = some o → U ≠ p → upd (upd H2 a (.lst (zs.map V.str))) p (.ins C dx (putF "_people" (.ref a) [])) U = some o := fun {H' U o} e n => by
      rw [upd_ne n, upd_ne (ne_of_none e hA)]
      exact e
    have sx3 : SameX p H (upd (upd H2 a (.lst (zs.map V.str))) p (.ins C dx (putF "_people" (.ref a) []))) := ((SameX.of s12).updN (same_none s12 hA)).trans SameX.upd
    have tu3 : Tups (upd (upd H2 a (.lst (zs.map V.str))) p (.ins C dx (putF "_people" (.ref a) []))) Ts (qs.map tv) := tu.keep fun U o hU e => tne (H' := H2) e fun z => by
      obtain ⟨y, _, ey⟩ := tu.at hU
      rw [z, hp2] at ey
      cases ey
    refine ⟨_, rfl, ?_⟩
    dsimp only [tNil]
    refine sorted_prs (tne (H' := H2) hm1 mp) tu3 (pq.nodup_iff.mpr g.nodup) fun D Us rs nD ar mr ur _ => ?_
    have er : rs = ps := asc_uniq ar g.ascP fun q => by rw [mr, pq.mem_iff]
    subst er
    have pD : p ≠ D := ne_of_none upd_same nD
    have aD : a ≠ D := ne_of_none (by rw [upd_ne (Ne.symm pa), upd_same]) nD
    refine ⟨_, rfl, p, C, dx, _, rfl, by rw [upd_ne pD, upd_same], TC.is.cl, TC.nF, (by show 1 < 1000; decide), ?_⟩
    refine k _ ((sx3.updN (sx3.none nD (Ne.symm pD))).trans SameX.upd) ⟨dx, a, D, same_none s12 hA, sx3.none nD (Ne.symm pD), upd_same, ?_, Us, ?_, ?_⟩
    · rw [upd_ne (Ne.symm pa), upd_ne aD, upd_ne (Ne.symm pa), upd_same]
    · rw [upd_ne (Ne.symm pD), upd_same]
    · refine ur.keep fun U o hU e => ?_
      obtain ⟨y, _, ey⟩ := ur.at hU
      have up : U ≠ p := fun z => by
        rw [z, upd_same] at ey
        cases ey
      rw [upd_ne up, upd_ne (ne_of_none e nD)]
      exact e
theorem ok_keptF {f C : Addr} {fd : FuncData} (F : Fun K "kept_among" "kept_among" sp_kept_among f fd) (TC : CT K mg C) (M : MakerF P w K mg base C) (MF : HasM P w K mg base C 1 "friends" (spFrM C)) (CP : Has P w K mg base 1 "is_pair_of" ["people", "value"] spPairOfB) :
    FnOk P w K mg base CX0 6 f fd ["company", "people"] (spKeptF C) := by
  obtain ⟨fI, fdI, MI, GI, bI⟩ := M.ex
  obtain ⟨fF, fdF, GF, mF, bF⟩ := MF
  obtain ⟨fP, dP, GP, mP, kP, bP⟩ := CP
  refine F.ok cp_kept_among (fun vs H Q E h => ?_) (fun cdv A outer s H vs Q E hr h => ?_)
  · obtain ⟨_, _, _, _, _, _, rfl, _⟩ := h
    rfl
  · obtain ⟨c, m, xs, ys, zs, ps, rfl, hc, g, hm, pm, gz, k⟩ := h
    have hr1 : Room 1 _ := hr.mono (by decide)
    refine ⟨_, pss_one (ps_ret (pe_make MI GI hr rfl TC.mC bI .nil pass0 (pa_cons (pv 1) (pa_cons (pe_lc (own := [("pair", 2)]) (g := gName 2) rfl cp_kept_among.nd (pi_list (pe_meth0 (pv 0) TC.is.cl mF GF hr1 bF .nil pass0))
      (blkOk_by (N := ["company", "people", "pair"]) (sc := defScope sp_kept_among) (by decide +kernel)) (fun _ _ _ _ _ => pg_name (i := 2) cp_kept_among.nd rfl (Or.inl rfl)) (fun _ _ _ _ _ => pts_one (pt_val (pe_call GP hr1 rfl mP kP bP .nil pass0 (pa_cons (pv 1) (pa_cons (pv 2) pa_nil)))))
      (fun _ _ _ _ _ => pv 2)) pa_nil)))), ?_⟩
    obtain ⟨dx, a, b, h1, h2, h3⟩ := id hc
    have l9 := g.few
    have few := g.len
    refine ⟨_, rfl, _, rfl, c, dx, _, rfl, h1, cF_no a b (by decide +kernel) (by decide +kernel), c, xs, ps, rfl, hc, by omega, fun M0 H1 nM s1 ⟨Ts, hm1, tu⟩ => ⟨M0, rfl, ⟨_, SqL.of hm1⟩, fun R hR => ?_⟩⟩
    have lT : Ts.length = ps.length := by rw [tu.1, List.length_map]
    refine lc_list (xs := Ts.map V.ref) (fun j H4 => ∃ Vs : List Addr, H4 R = some (.lst (Vs.map V.ref)) ∧ Same H1 H4 ∧ Tups H4 Vs ((cutP ys (ps.take j)).map tv))
      ⟨[], upd_same, same_new hR, Tups.nil⟩ (fun j H4 _ ⟨_, _, s6, _⟩ => SqL.of (s6 _ _ hm1)) ?_ ?_
    · rintro j v H4 hv ⟨Vs, hr4, s6, tv4⟩
      rw [List.getElem?_map] at hv
      obtain ⟨U, hU, rfl⟩ := Option.map_eq_some_iff.mp hv
      have jl := (List.getElem?_eq_some_iff.mp hU).1
      obtain ⟨p, hp⟩ : ∃ p, ps[j]? = some p := ⟨_, List.getElem?_eq_getElem (by omega)⟩
      have e1 := s6 _ _ (tu.2 j U (tv p) hU (by rw [List.getElem?_map, hp]; rfl))
      have mp := g.of p (List.mem_of_getElem? hp)
      refine ⟨rfl, _, rfl, _, rfl, m, U, ys, p, rfl, (s1.trans s6) _ _ hm, e1, mp.2.2, _, rfl, ?_⟩
      have nx : cutP ys (ps.take (j + 1)) = cutP ys (ps.take j) ++ (if p.1 ∈ ys ∧ p.2 ∈ ys then [p] else []) := by
        unfold cutP
        rw [take_next hp, List.filter_append]
        by_cases z : p.1 ∈ ys ∧ p.2 ∈ ys <;> simp [z]
      refine ite2 (fun hb => ?_) (fun hb => ?_)
      · have z := of_decide_eq_true hb
        have lu : Vs.length ≤ 36 := by
          rw [tv4.1, List.length_map]
          have h1 := List.length_filter_le (fun p : Pr => decide (p.1 ∈ ys ∧ p.2 ∈ ys)) (ps.take j)
          rw [List.length_take] at h1
          unfold cutP
          omega
        refine ⟨_, rfl, _, hr4, by rw [List.length_map, sizeLine_eq]; omega, Vs ++ [U], by rw [upd_same]; simp, same_over s6 hR, ?_⟩
        rw [nx, if_pos z, List.map_append]
        have t3 := tv4.upd (a := R) (o := .lst (Vs.map V.ref ++ [V.ref U])) fun x y e => by
          rw [hr4] at e
          cases e
        exact t3.snoc (p := tv p) (by rw [upd_ne (ne_of hr4 e1 (fun z => nomatch z)).symm]; exact e1)
      · have z : ¬ (p.1 ∈ ys ∧ p.2 ∈ ys) := fun z => hb (decide_eq_true z)
        refine ⟨Vs, hr4, s6, ?_⟩
        rw [nx, if_neg z, List.append_nil]
        exact tv4
    · rintro H4 ⟨Vs, hr4, s6, tv4⟩
      rw [List.length_map, lT, List.take_length] at tv4
      have s16 := s1.trans s6
      intro x dx' nx ndx nex
      have nx' : upd H4 dx' (.own x) x = none := by rw [upd_ne (Ne.symm nex)]; exact nx
      have s3 : Same H4 (upd (upd H4 dx' (.own x)) x (.ins C dx' [])) := same_updN (same_new ndx) nx'
      refine ⟨x, dx', m, R, ys, zs, cutP ys ps, cutP ys ps, rfl, upd_same, s3 _ _ (s16 _ _ hm), ⟨Vs, s3 _ _ hr4, tv4.same s3⟩, pm, List.Perm.refl _, gz, fun H5 sx ca => ⟨rfl, ?_⟩⟩
      have nH : H x = none := same_none s16 nx
      exact k H5 x (fun q o e => sx q o (ne_of_none e nH) ((s16.trans s3) _ _ e)) nH (ca.mono (s16.trans s3))
theorem ok_cut_toF {f C : Addr} {fd : FuncData} (F : Fun K "cut_to" "cut_to" sp_cut_to f fd) (TC : CT K mg C) (MP : HasM P w K mg base C 1 "people" (spPplM C)) (CC : Has P w K mg base 1 "check_company" ["company"] (spChk C))
    (CP : Has P w K mg base 4 "are_people_of" ["people", "value"] spPplOf) (CK : Has P w K mg base 6 "kept_among" ["company", "people"] (spKeptF C)) : FnOk P w K mg base CX0 7 f fd ["company", "people"] (spCutF C) := by
  obtain ⟨fM, dM, GM, mM, bM⟩ := MP
  obtain ⟨f1, d1, G1, m1, k1, b1⟩ := CC
  obtain ⟨f2, d2, G2, m2, k2, b2⟩ := CP
  obtain ⟨f3, d3, G3, m3, k3, b3⟩ := CK
  refine F.ok cp_cut_to (fun vs H Q E h => ?_) (fun cdv A outer s H vs Q E hr h => ?_)
  · obtain ⟨_, _, _, _, _, _, rfl, _⟩ := h
    rfl
  · obtain ⟨c, m, xs, ys, zs, ps, rfl, hc, g, hm, sub, pm, gz, k⟩ := h
    have hr1 : Room 1 _ := hr.mono (by decide)
    have hr4 : Room 4 _ := hr.mono (by decide)
    refine ⟨_, pss_cons (ps_expr (pe_call G1 hr1 rfl m1 k1 b1 .nil pass0 (pa_cons (pv 0) pa_nil)))
      (pss_cons (ps_if (pt_not (pt_val (pe_call G2 hr4 rfl m2 k2 b2 .nil pass0 (pa_cons (pe_meth0 (pv 0) TC.is.cl mM GM hr1 bM .nil pass0) (pa_cons (pv 1) pa_nil))))) (pss_one ps_never) pss_nil)
      (pss_one (ps_ret (pe_call G3 hr rfl m3 k3 b3 .nil pass0 (pa_cons (pv 0) (pa_cons (pv 1) pa_nil)))))), ?_⟩
    obtain ⟨dx, a, b, h1, h2, h3⟩ := id hc
    have l9 := g.few
    have z9 := gz.few
    have ly := pm.length_eq
    refine ⟨_, rfl, c, dx, _, rfl, h1, ?_⟩
    refine ⟨_, rfl, c, dx, _, rfl, h1, cF_no a b (by decide +kernel) (by decide +kernel), c, xs, ps, rfl, hc, by omega, fun L hL => ?_⟩
    have s1 := same_new (o := .lst (xs.map V.str)) hL
    refine ⟨_, rfl, L, m, xs, ys, rfl, upd_same, s1 _ _ hm, pm.nodup_iff.mpr gz.nd, fun y hy => ⟨g.word y (sub y hy), sub y hy⟩, by omega, by omega, fun H2 s2 => ⟨_, rfl, iteF ?_⟩⟩
    have s12 := s1.trans s2
    exact ⟨_, rfl, _, rfl, c, m, xs, ys, zs, ps, rfl, hc.same s12, g, s12 _ _ hm, pm, gz, fun H3 D s3 nD hD => k H3 D (s12.trans s3) (same_none s12 nD) (hD.mono s12)⟩
end
end Wd
end
section
set_option maxRecDepth 100000
set_option maxHeartbeats 4000000
namespace Wd
open PySem L2
/-- a world whose own lists were not there at H0 -/
def WAtF (H0 H : Hp) (a : Addr) (xs : List Str) (ps : List Pr) : Prop := ∃ c l, H0 c = none ∧ H0 l = none ∧ H a = some (.lst [.ref c, .ref l]) ∧ H c = some (.lst (xs.map V.str)) ∧ PwAt H l ps
theorem WAtF.at {H0 H : Hp} {c : Addr} {xs : List Str} {ps : List Pr} (h : WAtF H0 H c xs ps) : WAt H c xs ps := by
  obtain ⟨a, b, _, _, h1, h2, h3⟩ := h
  exact ⟨a, b, h1, h2, h3⟩
theorem WAtF.same {H0 H H' : Hp} {c : Addr} {xs : List Str} {ps : List Pr} (h : WAtF H0 H c xs ps) (s : Same H H') : WAtF H0 H' c xs ps := by
  obtain ⟨a, b, n1, n2, h1, h2, h3⟩ := h
  exact ⟨a, b, n1, n2, s _ _ h1, s _ _ h2, h3.same s⟩
theorem WAtF.sx {d : Addr} {H0 H H' : Hp} {c : Addr} {xs : List Str} {ps : List Pr} {ys ys' : List V} (h : WAtF H0 H c xs ps) (nc : H0 c = none) (s : SameX d H H') (h0 : H0 d = some (.lst ys)) (hd : H d = some (.lst ys')) : WAtF H0 H' c xs ps := by
  obtain ⟨a, b, n1, n2, h1, h2, Ts, h3, t⟩ := h
  have ne : ∀ {q : Addr}, H0 q = none → q ≠ d := fun n z => by
    rw [z, h0] at n
    cases n
  have ne2 : ∀ {q : Addr} {o : HO}, H q = some o → (∀ ks, o ≠ .lst ks) → q ≠ d := fun e n z => n ys' (by rw [z, hd] at e; exact (Option.some.inj e).symm)
  exact ⟨a, b, n1, n2, s _ _ (ne nc) h1, s _ _ (ne n1) h2, Ts, s _ _ (ne n2) h3, t.keep fun T o hT e => by
    obtain ⟨y, _, ey⟩ := t.at hT
    exact s _ _ (ne2 ey fun _ z => nomatch z) e⟩
def spCutLF : Sp := fun vs H Q _ => ∃ (a m : Addr) (xs ys zs : List Str) (ps : List Pr), vs = [.ref a, .ref m] ∧ WAt H a xs ps ∧ Good xs ps ∧ H m = some (.lst (ys.map V.str)) ∧ ys.Perm zs ∧ Good zs (cutP ys ps) ∧
  ∀ (H' : Hp) (D : Addr), Same H H' → H D = none → WAtF H H' D zs (cutP ys ps) → Q (.ref D) H'
def spCutR (C : Addr) : Sp := fun vs H Q _ => ∃ (p c a : Addr) (xs : List Str) (ps : List Pr) (c0 : Int) (n : Nat), vs = [.ref p, .ref c, .ref a] ∧ PurseAt H p c0 (n + 70) ∧ CAt C H c xs ps ∧ WAt H a xs ps ∧ Good xs ps ∧ ∀ H', SameX p H H' → PurseAt H' p c0 n → Q (.bl true) H'
theorem cutV_last (xs : List V) (v : V) : cutV (xs ++ [v]) (some (-1)) none = [v] := by
  have h1 : HT.sIx (xs ++ [v]).length 0 (some (-1)) = xs.length := by
    rw [List.length_append]
    unfold HT.sIx
    simp
    try omega
  have h2 : HT.sIx (xs ++ [v]).length (xs ++ [v]).length none = xs.length + 1 := by
    rw [List.length_append]
    rfl
  unfold cutV
  rw [h1, h2]
  simp
theorem erase_map : ∀ (us : List Str) (q : Nat), (us.map V.str).eraseIdx q = (us.eraseIdx q).map V.str
  | [], _ => rfl
  | _ :: _, 0 => rfl
  | u :: us, q + 1 => congrArg (V.str u :: ·) (erase_map us q)
/-- a lot of these people, as it stands -/
def LotAt (H : Hp) (A : Addr) (xs ys : List Str) : Prop := H A = some (.lst (ys.map V.str)) ∧ ys.Nodup ∧ (∀ y ∈ ys, y ∈ xs) ∧ 1 ≤ ys.length
theorem cut_cut {xs ys : List Str} {ps : List Pr} (h : ∀ x ∈ xs, x ∈ ys) : cutP xs (cutP ys ps) = cutP xs ps := by
  unfold cutP
  rw [List.filter_filter]
  refine List.filter_congr fun p _ => ?_
  by_cases z : p.1 ∈ xs ∧ p.2 ∈ xs
  · simp [z, h _ z.1, h _ z.2]
  · simp [z]
theorem cut_opp {xs ys zs : List Str} {ps : List Pr} (g : Good xs ps) (gz : Good zs (cutP ys ps)) (py : ys.Perm zs) (sub : ∀ y ∈ ys, y ∈ xs) : oppP zs (cutP ys ps) = cutP ys (oppP xs ps) := by
  refine asc_uniq ((prsS_asc gz.asc).filter _) (((prsS_asc g.asc).filter _).filter _) fun p => ?_
  unfold oppP cutP
  constructor
  · intro h
    obtain ⟨h1, h2⟩ := List.mem_filter.mp h
    have h2 := of_decide_eq_true h2
    have m := mem_prsS gz.asc h1
    have m1 := py.mem_iff.mpr m.1
    have m2 := py.mem_iff.mpr m.2.1
    exact List.mem_filter.mpr ⟨List.mem_filter.mpr ⟨prsS_mem g.asc (sub _ m1) (sub _ m2) m.2.2, decide_eq_true fun z => h2 (List.mem_filter.mpr ⟨z, decide_eq_true ⟨m1, m2⟩⟩)⟩, decide_eq_true ⟨m1, m2⟩⟩
  · intro h
    obtain ⟨h12, h3⟩ := List.mem_filter.mp h
    obtain ⟨h1, h2⟩ := List.mem_filter.mp h12
    have h2 := of_decide_eq_true h2
    have h3 := of_decide_eq_true h3
    have m := mem_prsS g.asc h1
    exact List.mem_filter.mpr ⟨prsS_mem gz.asc (py.mem_iff.mp h3.1) (py.mem_iff.mp h3.2) m.2.2, decide_eq_true fun z => h2 (List.mem_filter.mp z).1⟩
/-- a lot is the whole crowd just if it has as many people -/
theorem lot_eq {xs ys zs : List Str} {ps : List Pr} (g : Good xs ps) (nd : ys.Nodup) (az : Asc zs) (py : ys.Perm zs) (sub : ∀ y ∈ ys, y ∈ xs) : decide (zs = xs ∧ cutP ys ps = ps) = decide (ys.length = xs.length) := by
  refine decide_eq_decide.mpr ⟨fun h => by rw [py.length_eq, h.1], fun h => ?_⟩
  have pm : ys.Perm xs := (List.perm_ext_iff_of_nodup nd g.nd).mpr fun x => ⟨sub x, fun hx => by
    by_cases q : x ∈ ys
    · exact q
    · exfalso
      have := List.Nodup.length_le_of_subset (List.nodup_cons.mpr ⟨q, nd⟩) (l₂ := xs) fun y hy => by
        rcases List.mem_cons.mp hy with e | e
        · rw [e]; exact hx
        · exact sub y e
      rw [List.length_cons] at this
      omega⟩
  refine ⟨ascS_uniq az g.asc fun x => by rw [← py.mem_iff, pm.mem_iff], ?_⟩
  unfold cutP
  refine List.filter_eq_self.mpr fun p hp => ?_
  have o := g.of p hp
  exact decide_eq_true ⟨pm.mem_iff.mpr o.1, pm.mem_iff.mpr o.2.1⟩
section
variable {P : Program} {w : World} {K : PySem.W.Frag} {mg : Str → Option Value} {base : Heap}
theorem ok_cutLF {f : Addr} {fd : FuncData} (F : Fun K "_law_cut" "_law_cut" s_cut f fd) (T : Bt mg) : FnOk P w K mg base CX0 2 f fd ["_law_world_here", "_law_crowd"] spCutLF := by
  refine F.ok c_cut (fun vs H Q E h => ?_) (fun cdv A outer s H vs Q E hr h => ?_)
  · obtain ⟨_, _, _, _, _, _, rfl, _⟩ := h
    rfl
  · obtain ⟨a, m, xs, ys, zs, ps, rfl, hW, g, hm, pz, gz, k⟩ := h
    refine ⟨_, pss_one (ps_ret (pe_lst (pa_cons (pe_callB cr_sortedS (by rfl) T.sorted (by decide +kernel) (pa_cons (pv 1) pa_nil))
      (pa_cons (pe_lc (own := [("_law_pair_here", 2)]) (g := gName 2) rfl c_cut.nd (pi_list (pe_ix ix_list (pv 0) pe_int (fun _ _ => rfl)))
        (blkOk_by (N := ["_law_world_here", "_law_crowd", "_law_pair_here"]) (sc := defScope s_cut) (by decide +kernel)) (fun _ _ _ _ _ => pg_name (i := 2) c_cut.nd rfl (Or.inl rfl))
        (fun _ _ _ _ _ => pts_one (PW.pt (pw_and (pt_cmpR (r := rIn K false) op_in_seq (pe_ix (r := rIxT K) ix_tup (pv 2) pe_int (fun _ _ => rfl)) (pv 1) rfl) (pw_and1 (pt_cmpR (r := rIn K false) op_in_seq (pe_ix (r := rIxT K) ix_tup (pv 2) pe_int (fun _ _ => rfl)) (pv 1) rfl)))))
        (fun _ _ _ _ _ => pv 2)) pa_nil)))), ?_⟩
    obtain ⟨wc, wl, ha, hwc, Ps, hwl, tp⟩ := id hW
    have l9 := g.few
    have z9 := gz.few
    have ly := pz.length_eq
    have few := g.len
    have lP : Ps.length = ps.length := by rw [tp.1, List.length_map]
    refine ⟨_, rfl, ?_⟩
    refine rd_nil ?_
    refine sort_strs hm pz gz.asc (by omega) fun Z hZ => ?_
    have s2 := same_new (o := .lst (zs.map V.str)) hZ
    have hZ2 : upd H Z (.lst (zs.map V.str)) Z = some (.lst (zs.map V.str)) := upd_same
    generalize upd H Z (.lst (zs.map V.str)) = H2 at s2 hZ2 ⊢
    refine ⟨_, rfl, a, _, _, .ref wl, rfl, rfl, SqL.of (s2 _ _ ha), rfl, wl, rfl, ⟨_, SqL.of (s2 _ _ hwl)⟩, fun R hR => ?_⟩
    refine lc_list (xs := Ps.map V.ref) (fun j H4 => ∃ Vs : List Addr, H4 R = some (.lst (Vs.map V.ref)) ∧ Same H2 H4 ∧ Tups H4 Vs ((cutP ys (ps.take j)).map tv))
      ⟨[], upd_same, same_new hR, Tups.nil⟩ (fun j H4 _ ⟨_, _, s6, _⟩ => SqL.of ((s2.trans s6) _ _ hwl)) ?_ ?_
    · rintro j v H4 hv ⟨Vs, hr4, s6, tv4⟩
      rw [List.getElem?_map] at hv
      obtain ⟨U, hU, rfl⟩ := Option.map_eq_some_iff.mp hv
      have jl := (List.getElem?_eq_some_iff.mp hU).1
      obtain ⟨p, hp⟩ : ∃ p, ps[j]? = some p := ⟨_, List.getElem?_eq_getElem (by omega)⟩
      have e1 := (s2.trans s6) _ _ (tp.2 j U (tv p) hU (by rw [List.getElem?_map, hp]; rfl))
      have hm4 := (s2.trans s6) _ _ hm
      have nx : cutP ys (ps.take (j + 1)) = cutP ys (ps.take j) ++ (if p.1 ∈ ys ∧ p.2 ∈ ys then [p] else []) := by
        unfold cutP
        rw [take_next hp, List.filter_append]
        by_cases z : p.1 ∈ ys ∧ p.2 ∈ ys <;> simp [z]
      have no : ¬ (p.1 ∈ ys ∧ p.2 ∈ ys) → ∃ Vs : List Addr, H4 R = some (.lst (Vs.map V.ref)) ∧ Same H2 H4 ∧ Tups H4 Vs ((cutP ys (ps.take (j + 1))).map tv) := fun z => ⟨Vs, hr4, s6, by
        rw [nx, if_neg z, List.append_nil]
        exact tv4⟩
      refine ⟨rfl, _, rfl, U, _, _, .str p.1, rfl, rfl, SqT.of e1, rfl, _, rfl, m, _, rfl, .inl (SqL.of hm4), rfl, flat_strs' ys, ?_⟩
      show ∃ k, V.bl (inV (.str p.1) (ys.map V.str)) = V.bl k ∧ _
      rw [in_strs]
      refine ⟨_, rfl, ite2 (fun h1 => ?_) (fun h1 => no fun z => h1 (decide_eq_true z.1))⟩
      refine ⟨_, rfl, U, _, _, .str p.2, rfl, rfl, SqT.of e1, rfl, _, rfl, m, _, rfl, .inl (SqL.of hm4), rfl, flat_strs' ys, ?_⟩
      show ∃ k, V.bl (inV (.str p.2) (ys.map V.str)) = V.bl k ∧ _
      rw [in_strs]
      refine ⟨_, rfl, ite2 (fun h2 => ?_) (fun h2 => no fun z => h2 (decide_eq_true z.2))⟩
      have z : p.1 ∈ ys ∧ p.2 ∈ ys := ⟨of_decide_eq_true h1, of_decide_eq_true h2⟩
      have lu : Vs.length ≤ 36 := by
        rw [tv4.1, List.length_map]
        have h1 := List.length_filter_le (fun p : Pr => decide (p.1 ∈ ys ∧ p.2 ∈ ys)) (ps.take j)
        rw [List.length_take] at h1
        unfold cutP
        omega
      refine ⟨_, rfl, _, hr4, by rw [List.length_map, sizeLine_eq]; omega, Vs ++ [U], by rw [upd_same]; simp, same_over s6 hR, ?_⟩
      rw [nx, if_pos z, List.map_append]
      have t3 := tv4.upd (a := R) (o := .lst (Vs.map V.ref ++ [V.ref U])) fun x y e => by
        rw [hr4] at e
        cases e
      exact t3.snoc (p := tv p) (by rw [upd_ne (ne_of hr4 e1 (fun z => nomatch z)).symm]; exact e1)
    · rintro H4 ⟨Vs, hr4, s6, tv4⟩
      rw [List.length_map, lP, List.take_length] at tv4
      refine ⟨by show 2 ≤ sizeLine; decide, fun D hD => ?_⟩
      obtain ⟨s9, hD9⟩ := newS (o := .lst [.ref Z, .ref R]) (s2.trans s6) hD
      have e9 := same_new (o := .lst [.ref Z, .ref R]) hD
      exact k _ D s9 (same_none (s2.trans s6) hD) ⟨Z, R, hZ, same_none s2 hR, hD9, (s6.trans e9) _ _ hZ2, Vs, e9 _ _ hr4, tv4.same e9⟩
theorem ok_cutR {f C : Addr} {fd : FuncData} (F : Fun K "_law_cut_right" "_law_cut_right" s_cut_right f fd) (T : Bt mg) (TC : CT K mg C) (M : Maker P w K mg base C) (NE : HasNe P w K mg base C)
    (CU : HasK P w K mg base 7 "cut_to" ["company", "people"] ["people", "company"] (spCutF C) KxK.swapG KxK.swapG)
    (CX : Has P w K mg base 4 "_law_exact" ["_law_mine", "_law_theirs"] (spExact 3))
    (CL : Has P w K mg base 2 "_law_lists" ["_law_company_here"] (spLsts C))
    (CD : Has P w K mg base 2 "_law_cut" ["_law_world_here", "_law_crowd"] spCutLF)
    (CO : Has P w K mg base 6 "opposite" ["company"] (spOppC C))
    (CS : Has P w K mg base 3 "_law_shuffled" ["_law_purse_here", "_law_some"] spShuffled)
    (CW : Has P w K mg base 2 "_law_draw" ["_law_purse_here", "_law_many"] spDraw) :
    FnOk P w K mg base CX0 8 f fd ["_law_purse_here", "_law_company_here", "_law_world_here"] (spCutR C) := by
  obtain ⟨fI, fdI, MI, GI, bI⟩ := M.ex
  obtain ⟨fE, dE, GE, eE, nE, bE, neE, miE⟩ := NE
  obtain ⟨fU, dU, GU, mU, kU, bU, kbU⟩ := CU
  obtain ⟨fX, dX, GX, mX, kX, bX⟩ := CX
  obtain ⟨fL, dL, GL, mL, kL, bL⟩ := CL
  obtain ⟨fD, dD, GD, mD, kD, bD⟩ := CD
  obtain ⟨fO, dO, GO, mO, kO, bO⟩ := CO
  obtain ⟨fS, dS, GS, mS, kS, bS⟩ := CS
  obtain ⟨fW, dW, GW, mW, kW, bW⟩ := CW
  refine F.ok c_cut_right (fun vs H Q E h => ?_) (fun cdv A outer s H vs Q E hr h => ?_)
  · obtain ⟨_, _, _, _, _, _, _, rfl, _⟩ := h
    rfl
  · obtain ⟨p, c, a, xs, ps, c0, n, rfl, pa, hc, hW, g, k⟩ := h
    have hrX : Room 4 _ := hr.mono (by decide)
    have hrL : Room 2 _ := hr.mono (by decide)
    have hrD : Room 2 _ := hr.mono (by decide)
    have hrO : Room 6 _ := hr.mono (by decide)
    have hrS : Room 3 _ := hr.mono (by decide)
    have hrW : Room 2 _ := hr.mono (by decide)
    have hrU : Room 7 _ := hr.mono (by decide)
    have hr1 : Room 1 _ := hr.mono (by decide)
    have hr2 : Room 2 _ := hr.mono (by decide)
    have hr5 : Room 5 _ := hr.mono (by decide)
    refine ⟨_, (pss_cons (ps_set (i := 3) c_cut_right.nd rfl (Or.inl rfl) (pe_ix ix_list (pv 2) pe_int (fun _ _ => rfl)))
        (pss_cons (ps_set (i := 4) c_cut_right.nd rfl (Or.inl rfl) (pe_lst (pa_cons (pe_slice sl_list (pv 3) po_none (po_some pe_int)) (pa_cons (pe_callTy call_list_of (by rfl) T.list (by decide +kernel) (pa_cons (pv 3) pa_nil)) (pa_cons (pe_revL (pv 3)) (pa_cons (pe_slice sl_list (pv 3) (po_some (pe_un un_neg pe_int)) po_none) pa_nil))))))
        (pss_cons (ps_for PassesOwn.never rfl (pi_range1 rfl T.range (pa_cons pe_int pa_nil)) (pg_name (i := 5) c_cut_right.nd rfl (Or.inl rfl)) (pss_one (ps_expr (pe_bm PySem.F.plainAttrs_list PySem.F.slot_list_append PySem.F.type_list_append mt_append (pv 4) (pa_cons (pe_slice sl_list (pe_call GS hrS rfl mS kS bS .nil pass0 (pa_cons (pv 0) (pa_cons (pv 3) pa_nil))) po_none (po_some (pe_op op_add pe_int (pe_call GW hrW rfl mW kW bW .nil pass0 (pa_cons (pv 0) (pa_cons (pe_callB call_len_seq (by rfl) T.len PySem.boot_len (pa_cons (pv 3) pa_nil)) pa_nil)))))) pa_nil)))))
        (pss_cons (ps_for PassesOwn.never rfl (pi_list (pv 4)) (pg_name (i := 6) c_cut_right.nd rfl (Or.inl rfl)) (pss_cons (ps_set (i := 7) c_cut_right.nd rfl (Or.inl rfl) (pe_callTy call_list_of (by rfl) T.list (by decide +kernel) (pa_cons (pv 6) pa_nil)))
        (pss_cons (ps_par (i := 8) (j := 9) rfl c_cut_right.nd rfl rfl (by decide) rfl rfl (pa_cons (KxK.pe_callK0 GU hrU rfl mU kU kbU pass0 (pk_cons (pv 7) (pk_cons (pv 1) pk_nil))) (pa_cons (pe_call GD hrD rfl mD kD bD .nil pass0 (pa_cons (pv 2) (pa_cons (pv 6) pa_nil))) pa_nil)) (by rfl))
        (pss_cons (ps_if (PW.pt (pw_or (pt_cmpR (op_neD hr.units) (pv 7) (pv 6) (nomark _)) (pw_or (pt_not (pt_val (pe_call GX hrX rfl mX kX bX .nil pass0 (pa_cons (pe_call GL hrL rfl mL kL bL .nil pass0 (pa_cons (pv 8) pa_nil)) (pa_cons (pv 9) pa_nil))))) (pw_or1 (pt_cmpR (op_neB GE eE nE bE pass0 neE miE hr2) (pv 8) (pe_make MI GI hr5 rfl TC.mC bI .nil pass0 (pa_cons (pe_ix ix_list (pv 9) pe_int (fun _ _ => rfl)) (pa_cons (pe_ix ix_list (pv 9) pe_int (fun _ _ => rfl)) pa_nil))) (nomark _)))))) (pss_one ps_never) pss_nil)
        (pss_cons (ps_for PassesOwn.never rfl (pi_range1 rfl T.range (pa_cons (pe_op op_sub (pe_callB call_len_seq (by rfl) T.len PySem.boot_len (pa_cons (pv 6) pa_nil)) pe_int) pa_nil)) (pg_name (i := 5) c_cut_right.nd rfl (Or.inl rfl)) (pss_cons (ps_expr (pe_bm PySem.F.plainAttrs_list PySem.F.slot_list_pop PySem.F.type_list_pop mt_popAt (pv 7) (pa_cons (pe_op op_fdiv (pe_callB call_len_seq (by rfl) T.len PySem.boot_len (pa_cons (pv 7) pa_nil)) pe_int) pa_nil))) (pss_one (ps_if (pt_not (pt_val (pe_call GX hrX rfl mX kX bX .nil pass0 (pa_cons (pe_call GL hrL rfl mL kL bL .nil pass0 (pa_cons (pe_call GU hrU rfl mU kU bU .nil pass0 (pa_cons (pv 1) (pa_cons (pv 7) pa_nil))) pa_nil)) (pa_cons (pe_call GD hrD rfl mD kD bD .nil pass0 (pa_cons (pv 2) (pa_cons (pe_callTy call_list_of (by rfl) T.list (by decide +kernel) (pa_cons (pv 7) pa_nil)) pa_nil))) pa_nil))))) (pss_one ps_never) pss_nil))))
        (pss_cons (ps_expr (pe_bm0 PySem.F.plainAttrs_list PySem.F.slot_list_clear PySem.F.type_list_clear mt_clear (pv 7)))
        (pss_cons (ps_set (i := 10) c_cut_right.nd rfl (Or.inl rfl) (pe_slice sl_list (pv 6) po_none (po_some (pe_op op_add pe_int (pe_call GW hrW rfl mW kW bW .nil pass0 (pa_cons (pv 0) (pa_cons (pe_callB call_len_seq (by rfl) T.len PySem.boot_len (pa_cons (pv 6) pa_nil)) pa_nil)))))))
        (pss_cons (ps_if (PW.pt (pw_or (pt_not (pt_val (pe_call GX hrX rfl mX kX bX .nil pass0 (pa_cons (pe_call GL hrL rfl mL kL bL .nil pass0 (pa_cons (pv 8) pa_nil)) (pa_cons (pv 9) pa_nil))))) (pw_or (pt_cmpR (op_neB GE eE nE bE pass0 neE miE hr2) (pe_call GU hrU rfl mU kU bU .nil pass0 (pa_cons (pv 8) (pa_cons (pv 10) pa_nil))) (pe_call GU hrU rfl mU kU bU .nil pass0 (pa_cons (pv 1) (pa_cons (pv 10) pa_nil))) (nomark _)) (pw_or1 (pt_cmpR op_ne (pe_cmpR (op_eqB GE eE nE bE pass0 hr1) (pv 8) (pv 1) (nomark _)) (pe_cmpR op_eq (pe_callB call_len_seq (by rfl) T.len PySem.boot_len (pa_cons (pv 6) pa_nil)) (pe_callB call_len_seq (by rfl) T.len PySem.boot_len (pa_cons (pv 3) pa_nil)) (nomark _)) (nomark _)))))) (pss_one ps_never) pss_nil)
        (pss_one (ps_if (pt_cmpR (op_neB GE eE nE bE pass0 neE miE hr2) (pe_call GO hrO rfl mO kO bO .nil pass0 (pa_cons (pv 8) pa_nil)) (pe_call GU hrU rfl mU kU bU .nil pass0 (pa_cons (pe_call GO hrO rfl mO kO bO .nil pass0 (pa_cons (pv 1) pa_nil)) (pa_cons (pv 6) pa_nil))) (nomark _)) (pss_one ps_never) pss_nil))))))))))
        (pss_one (ps_ret pe_bl)))))), ?_⟩
    obtain ⟨wc, wl, ha, hwc, hwl⟩ := id hW
    have l9 := g.few
    have wcp : wc ≠ p := purse_ne pa hwc fun b' c' t' z' e => by
      have l := congrArg (fun o : HO => match o with | .lst (.int i :: _) => true | _ => false) e
      cases xs with
      | nil => simp at l
      | cons x r => simp at l
    obtain ⟨x0, xr, ex⟩ : ∃ x0 xr, xs = x0 :: xr := by
      cases xs with
      | nil => simp at l9
      | cons x0 xr => exact ⟨x0, xr, rfl⟩
    have nx : xs ≠ [] := fun e => by rw [e] at l9; simp at l9
    obtain ⟨xl, yr, ey⟩ : ∃ xl yr, xs = yr ++ [xl] := ⟨xs.getLast nx, xs.dropLast, (List.dropLast_concat_getLast nx).symm⟩
    refine ⟨_, rfl, a, _, _, .ref wc, rfl, rfl, SqL.of ha, rfl, ?_⟩
    refine ⟨_, rfl, 1, rfl, wc, _, rfl, SqL.of hwc, fun A1 hA1 => ?_⟩
    rw [show (some (1 : Int)) = some ((1 : Nat) : Int) from rfl, cutV_lo, ← List.map_take]
    have e1 := same_new (o := .lst ((xs.take 1).map V.str)) hA1
    have h1 : upd H A1 (.lst ((xs.take 1).map V.str)) A1 = some (.lst ((xs.take 1).map V.str)) := upd_same
    generalize upd H A1 (.lst ((xs.take 1).map V.str)) = H1 at e1 h1 ⊢
    refine ⟨_, rfl, wc, _, rfl, .inl (SqL.of (e1 _ _ hwc)), fun A2 hA2 => ?_⟩
    obtain ⟨e2, h2⟩ := newS (o := .lst (xs.map V.str)) e1 hA2
    have s2 := same_new (o := .lst (xs.map V.str)) hA2
    generalize upd H1 A2 (.lst (xs.map V.str)) = H2 at e2 h2 s2 ⊢
    refine ⟨_, rfl, wc, _, rfl, SqL.of (e2 _ _ hwc), fun A3 hA3 => ?_⟩
    obtain ⟨e3, h3⟩ := newS (o := .lst (xs.map V.str).reverse) e2 hA3
    have s3 := same_new (o := .lst (xs.map V.str).reverse) hA3
    generalize upd H2 A3 (.lst (xs.map V.str).reverse) = H3 at e3 h3 s3 ⊢
    rw [← List.map_reverse] at h3
    refine ⟨_, rfl, 1, rfl, -1, rfl, wc, _, rfl, SqL.of (e3 _ _ hwc), fun A4 hA4 => ?_⟩
    have c4 : cutV (xs.map V.str) (some (-1)) none = ([xl] : List Str).map V.str := by
      rw [ey, List.map_append]
      exact cutV_last _ _
    rw [c4]
    obtain ⟨e4, h4⟩ := newS (o := .lst (([xl] : List Str).map V.str)) e3 hA4
    have s4 := same_new (o := .lst (([xl] : List Str).map V.str)) hA4
    generalize upd H3 A4 (.lst (([xl] : List Str).map V.str)) = H4 at e4 h4 s4 ⊢
    refine ⟨by show 4 ≤ sizeLine; decide, fun L hL => ?_⟩
    obtain ⟨e5, hL5⟩ := newS (o := .lst (([A1, A2, A3, A4] : List Addr).map V.ref)) e4 hL
    have s5 := same_new (o := .lst (([A1, A2, A3, A4] : List Addr).map V.ref)) hL
    have nL : H L = none := same_none e4 hL
    have nLp : L ≠ p := purse_none (pa.same e4) hL
    show gName 4 (V.ref L) _ (upd H4 L (.lst (([A1, A2, A3, A4] : List Addr).map V.ref))) _
    generalize upd H4 L (.lst (([A1, A2, A3, A4] : List Addr).map V.ref)) = H5 at e5 hL5 s5 ⊢
    have pa5 := pa.same e5
    have l1 : LotAt H5 A1 xs [x0] := ⟨(((s2.trans s3).trans s4).trans s5) _ _ (by rw [h1, ex]; rfl), by simp, fun y hy => by rw [List.mem_singleton.mp hy, ex]; exact List.mem_cons_self .., by show 1 ≤ 1; decide⟩
    have l2 : LotAt H5 A2 xs xs := ⟨((s3.trans s4).trans s5) _ _ h2, g.nd, fun y hy => hy, l9.1⟩
    have l3 : LotAt H5 A3 xs xs.reverse := ⟨(s4.trans s5) _ _ h3, (List.reverse_perm xs).nodup_iff.mpr g.nd, fun y hy => List.mem_reverse.mp hy, by rw [List.length_reverse]; exact l9.1⟩
    have l4 : LotAt H5 A4 xs [xl] := ⟨s5 _ _ h4, by simp, fun y hy => by rw [List.mem_singleton.mp hy, ey]; exact List.mem_append.mpr (.inr (List.mem_singleton.mpr rfl)), by show 1 ≤ 1; decide⟩
    refine ⟨5, rfl, by decide, by decide, ?_⟩
    refine for_range (lo := 0) (n := 5) (fun i σ H' => ∃ (v5 : Option V) (As : List Addr), σ = [some (.ref p), some (.ref c), some (.ref a), some (.ref wc), some (.ref L), v5, none, none, none, none, none] ∧ SameX p H H' ∧ H' L = some (.lst (As.map V.ref)) ∧ As.length = 4 + i ∧ (∀ A ∈ As, ∃ ys, LotAt H' A xs ys) ∧ PurseAt H' p c0 (n + 10 + (5 - i) * 12))
      ⟨none, _, rfl, SameX.of e5, hL5, rfl, fun A hA => by
        simp only [List.mem_cons, List.not_mem_nil, or_false] at hA
        rcases hA with rfl | rfl | rfl | rfl
        · exact ⟨_, l1⟩
        · exact ⟨_, l2⟩
        · exact ⟨_, l3⟩
        · exact ⟨_, l4⟩, pa5⟩ ?_ ?_
    · rintro i σ H6 hi ⟨v5, As, rfl, sx6, hL6, lA, lots, pa6⟩
      have hwc6 := sx6 _ _ wcp hwc
      refine ⟨_, rfl, .inl ⟨rfl, _, SqL.of hL6⟩, _, rfl, _, rfl, p, wc, xs.map V.str, c0, n + 10 + (5 - (i + 1)) * 12 + 1, rfl, pa6.less (by rw [List.length_map]; omega), hwc6, wcp, by rw [List.length_map]; omega, fun H7 Sh vs' pm sx7 nSh hSh nShp pa7 => ?_⟩
      obtain ⟨ws, pw, ew⟩ := perm_lift V.str pm xs rfl
      subst ew
      have hwc7 := sx7 _ _ wcp hwc6
      refine ⟨_, rfl, _, rfl, wc, _, rfl, .inl (SqL.of hwc7), p, _, c0, n + 10 + (5 - (i + 1)) * 12, rfl, pa7, by rw [List.length_map]; omega, by rw [List.length_map]; omega, fun H8 r r0 r1 sx8 pa8 => ⟨_, _, rfl, rfl, ?_⟩⟩
      obtain ⟨mm, emm, mm1⟩ : ∃ mm : Nat, (1 + r : Int) = (mm : Int) ∧ 1 ≤ mm := ⟨(1 + r).toNat, by omega, by omega⟩
      have hSh8 := sx8 _ _ nShp hSh
      refine ⟨(mm : Int), congrArg V.int emm, Sh, _, rfl, SqL.of hSh8, fun Nw hNw => ?_⟩
      rw [cutV_lo, ← List.map_take]
      have nNp := purse_none pa8 hNw
      have sx08 := (sx6.trans sx7).trans sx8
      have hL8 := sx8 _ _ nLp (sx7 _ _ nLp hL6)
      have e9 := same_new (o := .lst ((ws.take mm).map V.str)) hNw
      have hN9 : upd H8 Nw (.lst ((ws.take mm).map V.str)) Nw = some (.lst ((ws.take mm).map V.str)) := upd_same
      have pa9 := pa8.upd (o := .lst ((ws.take mm).map V.str)) nNp
      have sx09 : SameX p H (upd H8 Nw (.lst ((ws.take mm).map V.str))) := sx08.trans (SameX.of e9)
      generalize upd H8 Nw (.lst ((ws.take mm).map V.str)) = H9 at e9 hN9 pa9 sx09 ⊢
      have hL9 := e9 _ _ hL8
      have lw := pw.length_eq
      refine ⟨L, _, .ref Nw, rfl, rfl, hL9, by rw [List.length_map, sizeLine_eq]; omega, ?_⟩
      have keep : ∀ {A : Addr} {ys : List Str}, LotAt H9 A xs ys → LotAt (upd H9 L (.lst (As.map V.ref ++ [.ref Nw]))) A xs ys := fun {A ys} h => by
        refine ⟨?_, h.2⟩
        rw [upd_ne fun z => ?_]
        · exact h.1
        · have := h.1
          rw [z, hL9] at this
          have q := congrArg (fun o : Option HO => match o with | some (.lst (.str _ :: _)) => true | _ => false) this
          cases ys with
          | nil => exact absurd h.2.2.2 (by simp)
          | cons y yr =>
            cases As with
            | nil => exact absurd lA (by show ¬ 0 = 4 + i; omega)
            | cons b br => simp at q
      refine ⟨_, As ++ [Nw], rfl, sx09.updN nL |> fun z => z, by rw [upd_same, List.map_append]; rfl, by rw [List.length_append, lA]; rfl, fun A hA => ?_, pa9.upd nLp⟩
      rcases List.mem_append.mp hA with z | z
      · obtain ⟨ys, ly⟩ := lots A z
        refine ⟨ys, keep ⟨e9 _ _ (sx8 _ _ ?_ (sx7 _ _ ?_ ly.1)), ly.2⟩⟩
        all_goals
          refine purse_ne pa6 ly.1 fun b' c' t' z' e => ?_
          have l := congrArg (fun o : HO => match o with | .lst (.int i :: _) => true | _ => false) e
          cases ys with
          | nil => exact absurd ly.2.2.2 (by simp)
          | cons x r => simp at l
      · rw [List.mem_singleton.mp z]
        exact ⟨ws.take mm, keep ⟨hN9, (pw.nodup_iff.mpr g.nd).take, fun y hy => pw.mem_iff.mp (List.mem_of_mem_take hy), by rw [List.length_take]; omega⟩⟩
    · rintro σ H6 ⟨v5, As, rfl, sx6, hL6, lA, lots, pa6⟩
      refine ⟨_, rfl, L, rfl, ⟨_, SqL.of hL6⟩, ?_⟩
      have lotX : ∀ {H' H'' : Hp} {n' : Nat} {A : Addr} {ys : List Str}, PurseAt H' p c0 n' → SameX p H' H'' → LotAt H' A xs ys → LotAt H'' A xs ys := fun {H' H'' n' A ys} pq sq h => ⟨sq _ _ (purse_ne pq h.1 fun b' c' t' z' e => by
        have l := congrArg (fun o : HO => match o with | .lst (.int i :: _) => true | _ => false) e
        cases ys with
        | nil => exact absurd h.2.2.2 (by simp)
        | cons x r => simp at l) h.1, h.2⟩
      refine for_list (xs := As.map V.ref) (fun i σ H' => ∃ v5 v6 v7 v8 v9 v10 : Option V, σ = [some (.ref p), some (.ref c), some (.ref a), some (.ref wc), some (.ref L), v5, v6, v7, v8, v9, v10] ∧ SameX p H H' ∧ H' L = some (.lst (As.map V.ref)) ∧ (∀ A ∈ As, ∃ ys, LotAt H' A xs ys) ∧ PurseAt H' p c0 (n + (10 - i)))
        ⟨_, _, _, _, _, _, rfl, sx6, hL6, lots, pa6.less (by omega)⟩ (fun i σ H' _ ⟨_, _, _, _, _, _, _, _, z, _⟩ => SqL.of z) ?_ ?_
      · rintro i v σ H7 hv ⟨v5, v6, v7, v8, v9, v10, rfl, sx7, hL7, lots7, pa7⟩
        rw [List.getElem?_map] at hv
        obtain ⟨A, hA, rfl⟩ := Option.map_eq_some_iff.mp hv
        have i9 := (List.getElem?_eq_some_iff.mp hA).1
        obtain ⟨ys, lot, ndy, sub, ly1⟩ := lots7 A (List.mem_of_getElem? hA)
        have hc7 := hc.sameX pa sx7
        have hW7 := hW.sameX pa sx7
        have hwc7 := sx7 _ _ wcp hwc
        obtain ⟨zs, az, py⟩ := asc_ex ys ndy
        have lyx : ys.length ≤ xs.length := List.Nodup.length_le_of_subset ndy sub
        have lzy := py.length_eq
        have gz := g.cut py az (fun z hz => sub z (py.mem_iff.mpr hz)) (by omega) (by omega)
        have wy : ∀ y ∈ ys, IsW y := fun y hy => g.word y (sub y hy)
        refine ⟨_, rfl, A, _, rfl, .inl (SqL.of lot), fun Hd hHd => ?_⟩
        have S8 := same_new (o := .lst (ys.map V.str)) hHd
        have hD8 : upd H7 Hd (.lst (ys.map V.str)) Hd = some (.lst (ys.map V.str)) := upd_same
        generalize upd H7 Hd (.lst (ys.map V.str)) = H8 at S8 hD8 ⊢
        refine ⟨_, rfl, _, rfl, c, Hd, xs, ys, zs, ps, rfl, hc7.same S8, g, hD8, sub, py, gz, fun H9 Md s9 n9 hM => ?_⟩
        have S9 := S8.trans s9
        refine ⟨_, rfl, _, rfl, a, A, xs, ys, zs, ps, rfl, hW7.same S9, g, S9 _ _ lot, py, gz, fun H10 Du s10 n10 hDu => ⟨_, _, rfl, ?_⟩⟩
        have S10 := S9.trans s10
        have hM10 := hM.same s10
        refine ⟨_, rfl, _, rfl, sdL ys, sdL ys, dp_sdL (SqL.of ((s9.trans s10) _ _ hD8)), dp_sdL (SqL.of (S10 _ _ lot)), sdL_shaped wy, sdL_shaped wy, ?_⟩
        rw [eqv_sdL, decide_eq_true rfl]
        refine ⟨_, rfl, iteF ?_⟩
        refine ⟨_, rfl, Md, zs, cutP ys ps, rfl, hM10.at, gz, fun H11 L1 s11 n11 hL1 => ⟨_, rfl, _, _, rfl, sm_world gz hL1 (hDu.at.same s11), fun H12 s12 => ⟨_, rfl, iteF ?_⟩⟩⟩
        have s1012 := s11.trans s12
        have S12 := S10.trans s1012
        have hDu12 := hDu.same s1012
        obtain ⟨uc, ul, nuc, nul, hu1, hu2, hu3⟩ := id hDu12
        refine ⟨_, rfl, _, rfl, Du, _, _, .ref uc, rfl, rfl, SqL.of hu1, rfl, _, rfl, Du, _, _, .ref ul, rfl, rfl, SqL.of hu1, rfl, ?_⟩
        intro ii dx' ni ndx nei
        have ni' : upd H12 dx' (.own ii) ii = none := by rw [upd_ne (Ne.symm nei)]; exact ni
        have e13 : Same H12 (upd (upd H12 dx' (.own ii)) ii (.ins C dx' [])) := same_updN (same_new ndx) ni'
        refine ⟨ii, dx', uc, ul, zs, zs, cutP ys ps, cutP ys ps, rfl, upd_same, e13 _ _ hu2, hu3.same e13, List.Perm.refl _, List.Perm.refl _, gz, fun H14 sx ca => ⟨rfl, ?_⟩⟩
        have s1214 : Same H12 H14 := fun q o e => sx q o (ne_of_none e ni) (e13 _ _ e)
        have s1014 := s1012.trans s1214
        refine ⟨_, ceq gz gz (hM10.at.same s1014) ca, fun H15 e15 => ?_⟩
        have e15 : Same H14 H15 := e15
        rw [decide_eq_true ⟨rfl, rfl⟩]
        refine ⟨_, rfl, iteF ?_⟩
        have s1015 := s1014.trans e15
        have S15 := S10.trans s1015
        refine ⟨_, rfl, A, _, rfl, .inl (SqL.of (S15 _ _ lot)), _, _, rfl, rfl, (((ys.map V.str).length : Nat) : Int) - 1, rfl, by rw [List.length_map]; omega, by rw [List.length_map]; omega, ?_⟩
        refine for_range (lo := 0) (n := ((((ys.map V.str).length : Nat) : Int) - 1).toNat) (fun i σ H' => ∃ (v5 : Option V) (us : List Str), σ = [some (.ref p), some (.ref c), some (.ref a), some (.ref wc), some (.ref L), v5, some (.ref A), some (.ref Hd), some (.ref Md), some (.ref Du), v10] ∧ Same H7 H' ∧ H' Hd = some (.lst (us.map V.str)) ∧ us.length + i = ys.length ∧ us.Nodup ∧ (∀ u ∈ us, u ∈ xs) ∧ CAtF C H8 H' Md zs (cutP ys ps) ∧ WAtF H9 H' Du zs (cutP ys ps))
          ⟨_, ys, rfl, S15, ((s9.trans s10).trans s1015) _ _ hD8, rfl, ndy, sub, hM.same (s10.trans s1015), hDu.same s1015⟩ ?_ ?_
        · rintro j σ H16 hj ⟨v5', us, rfl, S16, hU, lu, ndu, subu, hM16, hDu16⟩
          rw [List.length_map] at hj
          have lj : 2 ≤ us.length := by omega
          have kk : us.length / 2 < us.length := by omega
          obtain ⟨q, hq, hqv, ql⟩ := atI_get (atI_nat (xs := us.map V.str) (j := us.length / 2) (v := .str us[us.length / 2]) (by rw [List.getElem?_map, List.getElem?_eq_getElem kk]; rfl))
          refine ⟨_, rfl, .inl ⟨rfl, _, SqL.of hU⟩, _, rfl, Hd, _, rfl, .inl (SqL.of hU), _, _, rfl, rfl, ⟨by decide, by decide⟩, Hd, us.map V.str, ((us.length / 2 : Nat) : Int), q, _, rfl, by rw [List.length_map]; rfl, hU, by omega, by omega, hq, hqv, ?_⟩
          have hql : q < us.length := by have := ql.1; rw [List.length_map] at this; exact this
          have es : (us.map V.str).eraseIdx q = (us.eraseIdx q).map V.str := erase_map us q
          rw [es]
          have x17 : SameX Hd H16 (upd H16 Hd (.lst ((us.eraseIdx q).map V.str))) := SameX.upd
          have hU17 : upd H16 Hd (.lst ((us.eraseIdx q).map V.str)) Hd = some (.lst ((us.eraseIdx q).map V.str)) := upd_same
          generalize upd H16 Hd (.lst ((us.eraseIdx q).map V.str)) = H17 at x17 hU17 ⊢
          have S17 : Same H7 H17 := fun b o e => x17 b o (ne_of_none e hHd) (S16 _ _ e)
          have hM17 := hM16.sx x17 hD8 hU
          have hDu17 := hDu16.sx n10 x17 (s9 _ _ hD8) hU
          have ndu' : (us.eraseIdx q).Nodup := List.Nodup.sublist (List.eraseIdx_sublist us q) ndu
          have subu' : ∀ u ∈ us.eraseIdx q, u ∈ xs := fun u hu => subu u (List.mem_of_mem_eraseIdx hu)
          have lu' : (us.eraseIdx q).length + 1 = us.length := by rw [List.length_eraseIdx_of_lt hql]; omega
          obtain ⟨zu, azu, pzu⟩ := asc_ex _ ndu'
          have lux : (us.eraseIdx q).length ≤ xs.length := List.Nodup.length_le_of_subset ndu' subu'
          have lzu := pzu.length_eq
          have gzu := g.cut pzu azu (fun z hz => subu' z (pzu.mem_iff.mpr hz)) (by omega) (by omega)
          refine ⟨_, rfl, _, rfl, c, Hd, xs, us.eraseIdx q, zu, ps, rfl, hc7.same S17, g, hU17, subu', pzu, gzu, fun H18 M2 s18 n18 hM2 => ⟨M2, zu, cutP (us.eraseIdx q) ps, rfl, hM2.at, gzu, fun H19 L2 s19 n19 hL2 => ?_⟩⟩
          have s1719 := s18.trans s19
          refine ⟨_, rfl, _, rfl, Hd, _, rfl, .inl (SqL.of (s1719 _ _ hU17)), fun Lh hLh => ?_⟩
          have e20 := same_new (o := .lst ((us.eraseIdx q).map V.str)) hLh
          refine ⟨a, Lh, xs, us.eraseIdx q, zu, ps, rfl, hW7.same ((S17.trans s1719).trans e20), g, upd_same, pzu, gzu, fun H21 W2 s21 n21 hW2 => ?_⟩
          refine ⟨_, _, rfl, sm_world gzu (hL2.same (e20.trans s21)) hW2.at, fun H22 s22 => ⟨_, rfl, iteF ?_⟩⟩
          have s1722 := ((s1719.trans e20).trans s21).trans s22
          exact ⟨_, us.eraseIdx q, rfl, S17.trans s1722, s1722 _ _ hU17, by omega, ndu', subu', hM17.same s1722, hDu17.same s1722⟩
        · rintro σ H16 ⟨v5', us, rfl, S16, hU, lu, ndu, subu, hM16, hDu16⟩
          refine ⟨_, rfl, .inl ⟨rfl, _, SqL.of hU⟩, Hd, _, rfl, rfl, hU, ?_⟩
          have x17 : SameX Hd H16 (upd H16 Hd (.lst [])) := SameX.upd
          generalize upd H16 Hd (.lst []) = H17 at x17 ⊢
          have S17 : Same H7 H17 := fun q o e => x17 q o (ne_of_none e hHd) (S16 _ _ e)
          have hM17 := (hM16.sx x17 hD8 hU).at
          have hDu17 := (hDu16.sx n10 x17 (s9 _ _ hD8) hU).at
          have lot17 := S17 _ _ lot
          have pa17 := pa7.same S17
          refine ⟨_, rfl, _, rfl, _, rfl, A, _, rfl, .inl (SqL.of lot17), p, _, c0, n + (10 - (i + 1)), rfl, pa17.less (by omega), by rw [List.length_map]; omega, by rw [List.length_map]; omega, fun H18 r r0 r1 sx18 pa18 => ⟨_, _, rfl, rfl, ?_⟩⟩
          obtain ⟨mm, emm, mm1⟩ : ∃ mm : Nat, (1 + r : Int) = (mm : Int) ∧ 1 ≤ mm := ⟨(1 + r).toNat, by omega, by omega⟩
          have sx0 := (sx7.trans (SameX.of S17)).trans sx18
          have hc18 := hc.sameX pa sx0
          have hM18 := hM17.sameX pa17 sx18
          have hDu18 := hDu17.sameX pa17 sx18
          have lot18 := (lotX pa17 sx18 ⟨lot17, ndy, sub, ly1⟩).1
          refine ⟨(mm : Int), congrArg V.int emm, A, _, rfl, SqL.of lot18, fun Le hLe => ?_⟩
          rw [cutV_lo, ← List.map_take]
          have nLe := purse_none pa18 hLe
          have e19 := same_new (o := .lst ((ys.take mm).map V.str)) hLe
          have hLe19 : upd H18 Le (.lst ((ys.take mm).map V.str)) Le = some (.lst ((ys.take mm).map V.str)) := upd_same
          have pa19 := pa18.same e19
          generalize upd H18 Le (.lst ((ys.take mm).map V.str)) = H19 at e19 hLe19 pa19 ⊢
          have ndt : (ys.take mm).Nodup := ndy.take
          have subt : ∀ y ∈ ys.take mm, y ∈ ys := fun y hy => List.mem_of_mem_take hy
          have lt1 : 1 ≤ (ys.take mm).length := by rw [List.length_take]; omega
          have ltx : (ys.take mm).length ≤ ys.length := by rw [List.length_take]; omega
          obtain ⟨zt, azt, pzt⟩ := asc_ex _ ndt
          have lzt := pzt.length_eq
          have gzt := g.cut pzt azt (fun z hz => sub z (subt z (pzt.mem_iff.mpr hz))) (by omega) (by omega)
          have ecc := cut_cut (ps := ps) subt
          refine ⟨_, rfl, Md, zs, cutP ys ps, rfl, hM18.same e19, gz, fun H20 L3 s20 n20 hL3 => ⟨_, rfl, _, _, rfl, sm_world gz hL3 (hDu18.same (e19.trans s20)), fun H21 s21 => ⟨_, rfl, iteF ?_⟩⟩⟩
          have s1921 := s20.trans s21
          have s1821 := e19.trans s1921
          refine ⟨_, rfl, _, rfl, Md, Le, zs, ys.take mm, zt, cutP ys ps, rfl, hM18.same s1821, gz, s1921 _ _ hLe19, fun y hy => py.mem_iff.mp (subt y hy), pzt, by rw [ecc]; exact gzt, fun H22 M3 s22 n22 hM3 => ?_⟩
          rw [ecc] at hM3
          have s1822 := s1821.trans s22
          refine ⟨_, rfl, _, rfl, c, Le, xs, ys.take mm, zt, ps, rfl, hc18.same s1822, g, (s1921.trans s22) _ _ hLe19, fun y hy => sub y (subt y hy), pzt, gzt, fun H23 M4 s23 n23 hM4 => ⟨_, ceq gzt gzt (hM3.at.same s23) hM4.at, fun H24 e24 => ?_⟩⟩
          have e24 : Same H23 H24 := e24
          rw [decide_eq_true ⟨rfl, rfl⟩]
          refine ⟨_, rfl, iteF ?_⟩
          have s1824 := (s1822.trans s23).trans e24
          refine ⟨_, rfl, _, rfl, _, ceq gz g (hM18.same s1824) (hc18.same s1824), fun H25 e25 => ?_⟩
          have e25 : Same H24 H25 := e25
          have s1825 := s1824.trans e25
          have hwc25 : H25 wc = some (.lst (xs.map V.str)) := s1825 _ _ (sx18 _ _ wcp (S17 _ _ hwc7))
          rw [lot_eq g ndy az py sub]
          refine ⟨_, rfl, A, _, rfl, .inl (SqL.of (s1825 _ _ lot18)), _, rfl, wc, _, rfl, .inl (SqL.of hwc25), rfl, rfl, ?_⟩
          have eb : (!decide (V.bl (false != decide (ys.length = xs.length)) = V.bl (decide (V.int (((ys.map V.str).length : Nat) : Int) = V.int (((xs.map V.str).length : Nat) : Int))))) = false := by
            rw [List.length_map, List.length_map]
            by_cases h : ys.length = xs.length
            · rw [h]; simp
            · have h2 : ¬ V.int ((ys.length : Nat) : Int) = V.int ((xs.length : Nat) : Int) := fun z => h (by have := V.int.inj z; omega)
              rw [decide_eq_false h, decide_eq_false h2]; simp
          refine ⟨_, rfl, ite_f eb ?_⟩
          have gq : Good zs (cutP ys (oppP xs ps)) := by rw [← cut_opp g gz py sub]; exact gz.opp
          refine ⟨_, rfl, Md, zs, cutP ys ps, rfl, hM18.same s1825, gz, fun H26 O1 s26 n26 hO1 => ?_⟩
          have s1826 := s1825.trans s26
          refine ⟨_, rfl, c, xs, ps, rfl, hc18.same s1826, g, fun H27 O2 s27 n27 hO2 => ?_⟩
          refine ⟨_, rfl, O2, A, xs, ys, zs, oppP xs ps, rfl, hO2, g.opp, (s1826.trans s27) _ _ lot18, sub, py, gq, fun H28 C9 s28 n28 hC9 => ⟨_, ceq gz.opp gq (hO1.same (s27.trans s28)) hC9.at, fun H29 e29 => ?_⟩⟩
          have e29 : Same H28 H29 := e29
          rw [decide_eq_true ⟨rfl, cut_opp g gz py sub⟩]
          have s1829 := ((s1826.trans s27).trans s28).trans e29
          refine ⟨_, rfl, iteF ⟨_, _, _, _, _, _, rfl, sx0.trans (SameX.of s1829), s1829 _ _ (sx18 _ _ nLp (S17 _ _ hL7)), fun A' hA' => ?_, pa18.same s1829⟩⟩
          obtain ⟨ys', l'⟩ := lots7 A' hA'
          have l18 := lotX pa17 sx18 ⟨S17 _ _ l'.1, l'.2⟩
          exact ⟨ys', s1829 _ _ l18.1, l18.2⟩
      · rintro σ H7 ⟨v5, v6, v7, v8, v9, v10, rfl, sx7, hL7, lots7, pa7⟩
        exact k H7 sx7 (pa7.less (by omega))
end
end Wd
end
section
set_option maxRecDepth 100000
set_option maxHeartbeats 4000000
namespace Wd
open PySem L2
def spLaw (K : PySem.W.Frag) : Sp := fun vs H Q _ => ∃ (a : Addr) (ns : List Int), vs = [.ref a] ∧ SqL K H a (ns.map V.int) ∧ ns.length ≤ 63 ∧ ∀ H', Q (.bl true) H'
section
variable {P : Program} {w : World} {K : PySem.W.Frag} {mg : Str → Option Value} {base : Heap}
theorem ok_law {f C : Addr} {fd : FuncData} (F : Fun K "law" "law" s_law f fd) (C1 : Has P w K mg base 2 "_law_purses" ["_law_script", "_law_few"] (spPurses K))
    (CW : Has P w K mg base 6 "_law_world" ["_law_purse_here", "_law_many"] spWorld)
    (CD : Has P w K mg base 2 "_law_draw" ["_law_purse_here", "_law_many"] spDraw)
    (CK : Has P w K mg base 6 "_law_company" ["_law_world_here"] (spComp C))
    (CA : Has P w K mg base 7 "_law_opposite_right" ["_law_company_here", "_law_world_here"] (spOR C))
    (CB : Has P w K mg base 8 "_law_cone_right" ["_law_company_here", "_law_world_here"] (spCR C))
    (CS : Has P w K mg base 8 "_law_side_right" ["_law_purse_here", "_law_company_here", "_law_world_here"] (spSR C))
    (CR : Has P w K mg base 7 "_law_renamed_right" ["_law_purse_here", "_law_company_here", "_law_world_here"] (spRR C))
    (CU : Has P w K mg base 8 "_law_cut_right" ["_law_purse_here", "_law_company_here", "_law_world_here"] (spCutR C))
    (CX : Has P w K mg base 4 "_law_exact" ["_law_mine", "_law_theirs"] (spExact 3))
    (CL : Has P w K mg base 2 "_law_lists" ["_law_company_here"] (spLsts C)) : FnOk P w K mg base CX0 9 f fd ["_law_script"] (spLaw K) := by
  obtain ⟨f1, d1, G1, m1, k1, b1⟩ := C1
  obtain ⟨fW, dW, GW, mW, kW, bW⟩ := CW
  obtain ⟨fD, dD, GD, mD, kD, bD⟩ := CD
  obtain ⟨fK, dK, GK, mK, kK, bK⟩ := CK
  obtain ⟨fA, dA, GA, mA, kA, bA⟩ := CA
  obtain ⟨fB, dB, GB, mB, kB, bB⟩ := CB
  obtain ⟨fS, dS, GS, mS, kS, bS⟩ := CS
  obtain ⟨fR, dR, GR, mR, kR, bR⟩ := CR
  obtain ⟨fU, dU, GU, mU, kU, bU⟩ := CU
  obtain ⟨fX, dX, GX, mX, kX, bX⟩ := CX
  obtain ⟨fL, dL, GL, mL, kL, bL⟩ := CL
  refine F.ok c_law (fun vs H Q E h => ?_) (fun cdv A outer s H vs Q E hr h => ?_)
  · obtain ⟨_, _, rfl, _⟩ := h
    rfl
  · obtain ⟨a, ns, rfl, hS, l63, k⟩ := h
    have hr1 : Room 2 _ := hr.mono (by decide)
    have hrW : Room 6 _ := hr.mono (by decide)
    have hrD : Room 2 _ := hr.mono (by decide)
    have hrK : Room 6 _ := hr.mono (by decide)
    have hrA : Room 7 _ := hr.mono (by decide)
    have hrB : Room 8 _ := hr.mono (by decide)
    have hrS : Room 8 _ := hr.mono (by decide)
    have hrR : Room 7 _ := hr.mono (by decide)
    have hrU : Room 8 _ := hr.mono (by decide)
    have hrX : Room 4 _ := hr.mono (by decide)
    have hrL : Room 2 _ := hr.mono (by decide)
    refine ⟨_, pss_cons (ps_for PassesOwn.never rfl (pi_list (pe_call G1 hr1 rfl m1 k1 b1 .nil pass0 (pa_cons (pv 0) (pa_cons pe_int pa_nil)))) (pg_name (i := 1) c_law.nd rfl (Or.inl rfl))
        (pss_one (ps_for PassesOwn.never rfl (pi_list (pe_lst (pa_cons (pe_call GW hrW rfl mW kW bW .nil pass0 (pa_cons (pv 1) (pa_cons (pe_op op_add pe_int (pe_call GD hrD rfl mD kD bD .nil pass0 (pa_cons (pv 1) (pa_cons pe_int pa_nil)))) pa_nil))) (pa_cons (pe_call GW hrW rfl mW kW bW .nil pass0 (pa_cons (pv 1) (pa_cons (pe_op op_add pe_int (pe_call GD hrD rfl mD kD bD .nil pass0 (pa_cons (pv 1) (pa_cons pe_int pa_nil)))) pa_nil))) (pa_cons (pe_lst (pa_cons (pe_lst (pa_cons pe_str pa_nil)) (pa_cons (pe_lst pa_nil) pa_nil))) pa_nil))))) (pg_name (i := 2) c_law.nd rfl (Or.inl rfl))
          (pss_cons (ps_set (i := 3) c_law.nd rfl (Or.inl rfl) (pe_call GK hrK rfl mK kK bK .nil pass0 (pa_cons (pv 2) pa_nil)))
          (pss_cons (ps_if (PW.pt (pw_or (pt_not (pt_val (pe_call GA hrA rfl mA kA bA .nil pass0 (pa_cons (pv 3) (pa_cons (pv 2) pa_nil))))) (pw_or (pt_not (pt_val (pe_call GB hrB rfl mB kB bB .nil pass0 (pa_cons (pv 3) (pa_cons (pv 2) pa_nil))))) (pw_or1 (pt_not (pt_val (pe_call GS hrS rfl mS kS bS .nil pass0 (pa_cons (pv 1) (pa_cons (pv 3) (pa_cons (pv 2) pa_nil)))))))))) (pss_one ps_never) pss_nil)
          (pss_cons (ps_if (PW.pt (pw_or (pt_not (pt_val (pe_call GR hrR rfl mR kR bR .nil pass0 (pa_cons (pv 1) (pa_cons (pv 3) (pa_cons (pv 2) pa_nil)))))) (pw_or1 (pt_not (pt_val (pe_call GU hrU rfl mU kU bU .nil pass0 (pa_cons (pv 1) (pa_cons (pv 3) (pa_cons (pv 2) pa_nil))))))))) (pss_one ps_never) pss_nil)
          (pss_one (ps_if (pt_not (pt_val (pe_call GX hrX rfl mX kX bX .nil pass0 (pa_cons (pe_call GL hrL rfl mL kL bL .nil pass0 (pa_cons (pv 3) pa_nil)) (pa_cons (pv 2) pa_nil))))) (pss_one ps_never) pss_nil))))))))
      (pss_one (ps_ret pe_bl)), ?_⟩
    refine ⟨_, rfl, a, ns, 2, rfl, hS, by decide, fun H1 D ps s1 nD hD nd hp => ?_⟩
    refine ⟨D, rfl, ⟨_, SqL.of hD⟩, ?_⟩
    refine for_list (xs := ps.map V.ref) (fun i σ H' => ∃ v1 v2 v3 : Option V, σ = [some (.ref a), v1, v2, v3] ∧ H' D = some (.lst (ps.map V.ref)) ∧ ∀ (j : Nat) q, i ≤ j → ps[j]? = some q → ∃ c, PurseAt H' q c 1000000)
      ⟨none, none, none, rfl, hD, fun j q _ hq => (hp q (List.mem_of_getElem? hq)).2⟩ (fun i σ H' _ ⟨_, _, _, _, z, _⟩ => SqL.of z) ?_ ?_
    · rintro i v σ H2 hv ⟨v1, v2, v3, rfl, hd, hp2⟩
      rw [List.getElem?_map] at hv
      obtain ⟨q, hq, rfl⟩ := Option.map_eq_some_iff.mp hv
      obtain ⟨c0, pa⟩ := hp2 i q (Nat.le_refl _) hq
      have refs : ∀ x ∈ ps.map V.ref, ∀ i : Int, x ≠ .int i := fun x hx i z => by
        obtain ⟨y, _, e⟩ := List.mem_map.mp hx
        rw [z] at e
        cases e
      refine ⟨_, rfl, _, rfl, q, _, c0, 999000, rfl, pa.less (by omega), by decide, by decide, fun H3 r r0 r1 sx3 pa3 => ⟨_, _, rfl, rfl, ?_⟩⟩
      obtain ⟨m1', em1, ml1, mu1⟩ : ∃ mm : Nat, (1 + r : Int) = (mm : Int) ∧ 1 ≤ mm ∧ mm ≤ 8 := ⟨(1 + r).toNat, by omega, by omega, by omega⟩
      refine ⟨q, m1', c0, 998000, by show [V.ref q, V.int (1 + r)] = _; rw [em1], pa3.less (by omega), ml1, by omega, fun H4 W1 xs1 qs1 lx1 g1 sx4 nW1 hW1 nWq1 pa4 => ?_⟩
      refine ⟨_, rfl, _, rfl, q, _, c0, 997000, rfl, pa4.less (by omega), by decide, by decide, fun H5 u u0 u1 sx5 pa5 => ⟨_, _, rfl, rfl, ?_⟩⟩
      obtain ⟨m2', em2, ml2, mu2⟩ : ∃ mm : Nat, (2 + u : Int) = (mm : Int) ∧ 1 ≤ mm ∧ mm ≤ 8 := ⟨(2 + u).toNat, by omega, by omega, by omega⟩
      refine ⟨q, m2', c0, 996000, by show [V.ref q, V.int (2 + u)] = _; rw [em2], pa5.less (by omega), ml2, by omega, fun H6 W2 xs2 qs2 lx2 g2 sx6 nW2 hW2 nWq2 pa6 => ?_⟩
      have hW16 := (hW1.sameX pa4 sx5).sameX pa5 sx6
      refine ⟨by show 1 ≤ sizeLine; decide, fun La hLa => ?_⟩
      have e7 := same_new (o := .lst [.str ("a" : Str)]) hLa
      have h7 : upd H6 La (.lst [.str ("a" : Str)]) La = some (.lst [.str ("a" : Str)]) := upd_same
      generalize upd H6 La (.lst [.str ("a" : Str)]) = H7 at e7 h7 ⊢
      refine ⟨by decide, fun Lb hLb => ?_⟩
      have e8 := same_new (o := .lst []) hLb
      have h8 : upd H7 Lb (.lst []) Lb = some (.lst []) := upd_same
      generalize upd H7 Lb (.lst []) = H8 at e8 h8 ⊢
      refine ⟨by show 2 ≤ sizeLine; decide, fun W3 hW3' => ?_⟩
      have e9 := same_new (o := .lst [.ref La, .ref Lb]) hW3'
      have h9 : upd H8 W3 (.lst [.ref La, .ref Lb]) W3 = some (.lst [.ref La, .ref Lb]) := upd_same
      generalize upd H8 W3 (.lst [.ref La, .ref Lb]) = H9 at e9 h9 ⊢
      have g3 : Good [("a" : Str)] [] := ⟨List.pairwise_singleton _ _, fun y hy => by rw [List.mem_singleton.mp hy]; exact isW_of (by decide +kernel), ⟨by decide, by decide⟩, List.nil_sublist _⟩
      have hW39 : WAt H9 W3 [("a" : Str)] [] := ⟨La, Lb, h9, (e8.trans e9) _ _ h7, [], e9 _ _ h8, Tups.nil⟩
      refine ⟨by show 3 ≤ sizeLine; decide, fun Wl hWl => ?_⟩
      have e10 := same_new (o := .lst (([W1, W2, W3] : List Addr).map V.ref)) hWl
      have h10 : upd H9 Wl (.lst (([W1, W2, W3] : List Addr).map V.ref)) Wl = some (.lst (([W1, W2, W3] : List Addr).map V.ref)) := upd_same
      have nWl : Wl ≠ q := purse_none ((((pa6.same e7).same e8).same e9)) hWl
      have e610 : Same H6 (upd H9 Wl (.lst (([W1, W2, W3] : List Addr).map V.ref))) := ((e7.trans e8).trans e9).trans e10
      have hW310 := hW39.same e10
      refine ⟨Wl, rfl, ⟨_, SqL.of h10⟩, ?_⟩
      have pa10 := pa6.same e610
      have sx010 : SameX q H2 (upd H9 Wl (.lst (([W1, W2, W3] : List Addr).map V.ref))) := (((sx3.trans sx4).trans sx5).trans sx6).trans (SameX.of e610)
      have all : ∀ W ∈ ([W1, W2, W3] : List Addr), ∃ xs qs, WAt (upd H9 Wl (.lst (([W1, W2, W3] : List Addr).map V.ref))) W xs qs ∧ Good xs qs ∧ xs.length ≤ 8 := fun W hW => by
        simp only [List.mem_cons, List.not_mem_nil, or_false] at hW
        rcases hW with rfl | rfl | rfl
        · exact ⟨_, _, hW16.same e610, g1, by omega⟩
        · exact ⟨_, _, hW2.same e610, g2, by omega⟩
        · exact ⟨_, _, hW310, g3, by decide⟩
      refine for_list (xs := ([W1, W2, W3] : List Addr).map V.ref) (fun i σ H' => ∃ v2 v3 : Option V, σ = [some (.ref a), some (.ref q), v2, v3] ∧ SameX q (upd H9 Wl (.lst (([W1, W2, W3] : List Addr).map V.ref))) H' ∧ PurseAt H' q c0 (900000 + (3 - i) * 1000))
        ⟨v2, v3, rfl, SameX.refl _ _, pa10.less (by omega)⟩ (fun i σ H' _ ⟨_, _, _, z, _⟩ => SqL.of (z _ _ nWl h10)) ?_ ?_
      · rintro j v σ H11 hv ⟨v2', v3', rfl, sx11, pa11⟩
        rw [List.getElem?_map] at hv
        obtain ⟨W, hWm, rfl⟩ := Option.map_eq_some_iff.mp hv
        have j3 := (List.getElem?_eq_some_iff.mp hWm).1
        have j3 : j < 3 := j3
        obtain ⟨xs, qs, hW, g, x8⟩ := all W (List.mem_of_getElem? hWm)
        have hW11 := hW.sameX pa10 sx11
        refine ⟨_, rfl, W, xs, qs, rfl, hW11, g, fun H12 Co s12 n12 hC => ?_⟩
        have pa12 := pa11.same s12
        refine ⟨_, rfl, _, rfl, Co, W, xs, qs, rfl, hC, hW11.same s12, g, fun H13 s13 => ⟨_, rfl, iteF ?_⟩⟩
        refine ⟨_, rfl, _, rfl, Co, W, xs, qs, rfl, hC.same s13, hW11.same (s12.trans s13), g, x8, fun H14 s14 => ⟨_, rfl, iteF ?_⟩⟩
        have s1214 := s13.trans s14
        have pa14 := pa12.same s1214
        have hC14 := hC.same s1214
        have hW14 := hW11.same (s12.trans s1214)
        refine ⟨_, rfl, _, rfl, _, rfl, q, Co, W, xs, qs, c0, 900000 + (3 - (j + 1)) * 1000 + 200, rfl, pa14.less (by omega), hC14, hW14, g, x8, fun H15 sx15 pa15 => ⟨_, rfl, iteF ?_⟩⟩
        have hC15 := hC14.sameX pa14 sx15
        have hW15 := hW14.sameX pa14 sx15
        refine ⟨_, rfl, _, rfl, _, rfl, q, Co, W, xs, qs, c0, 900000 + (3 - (j + 1)) * 1000 + 100, rfl, pa15.less (by omega), hC15, hW15, g, fun H16 sx16 pa16 => ⟨_, rfl, iteF ?_⟩⟩
        have hC16 := hC15.sameX pa15 sx16
        have hW16' := hW15.sameX pa15 sx16
        refine ⟨_, rfl, _, rfl, _, rfl, q, Co, W, xs, qs, c0, 900000 + (3 - (j + 1)) * 1000, rfl, pa16.less (by omega), hC16, hW16', g, fun H17 sx17 pa17 => ⟨_, rfl, iteF ?_⟩⟩
        have hC17 := hC16.sameX pa16 sx17
        have hW17 := hW16'.sameX pa16 sx17
        refine ⟨_, rfl, Co, xs, qs, rfl, hC17, g, fun H18 L1 s18 n18 hL1 => ⟨_, rfl, _, _, rfl, sm_world g hL1 (hW17.same s18), fun H19 s19 => ⟨_, rfl, iteF ?_⟩⟩⟩
        have s1719 := s18.trans s19
        exact ⟨_, _, rfl, ((((sx11.trans (SameX.of (s12.trans s1214))).trans sx15).trans sx16).trans sx17).trans (SameX.of s1719), pa17.same s1719⟩
      · rintro σ H11 ⟨v2', v3', rfl, sx11, pa11⟩
        have sx := sx010.trans sx11
        refine ⟨_, _, _, rfl, sameX_lst pa sx hd refs, fun j q' hj hq' => ?_⟩
        obtain ⟨c', b, t, z, e, r⟩ := hp2 j q' (by omega) hq'
        have ne : q' ≠ q := fun z => by
          have := nd_inj nd hq (by rw [hq', z])
          omega
        exact ⟨c', b, t, z, sx q' _ ne e, r⟩
    · rintro σ H2 ⟨v1, v2, v3, rfl, hd, hp2⟩
      exact k H2
end
end Wd
end
section
set_option maxRecDepth 100000
set_option maxHeartbeats 4000000
namespace Wd
open PySem L2
section
variable {P : Program} {w : World} {K : PySem.W.Frag} {mg : Str → Option Value} {base : Heap}
theorem ok_ppair_of {f : Addr} {fd : FuncData} (F : Fun K "pair_of" "pair_of" sp_pair_of f fd) : FnOk P w K mg base CX0 1 f fd ["one", "other"] spPair := by
  refine F.ok cp_pair_of (fun vs H Q E h => ?_) (fun cdv A outer s H vs Q E hr h => ?_)
  · obtain ⟨_, _, rfl, _⟩ := h
    rfl
  · obtain ⟨a, b, rfl, k⟩ := h
    refine ⟨_, pss_one (ps_ret (pe_ifExp (pt_cmpR op_lt_str (pv 0) (pv 1) (nomark _)) (pe_tup (pa_cons (pv 0) (pa_cons (pv 1) pa_nil))) (pe_tup (pa_cons (pv 1) (pa_cons (pv 0) pa_nil))))), ?_⟩
    refine ⟨_, rfl, _, rfl, _, _, rfl, rfl, _, rfl, ?_⟩
    refine ite2 (fun hb => ?_) (fun hb => ?_)
    · have c : Lt a b := of_decide_eq_true hb
      refine ⟨_, rfl, _, rfl, by show 2 ≤ sizeLine; decide, fun T hT => ?_⟩
      have q := k T hT
      unfold mk at q
      rw [if_pos c] at q
      exact q
    · have c : ¬ Lt a b := fun z => hb (decide_eq_true z)
      refine ⟨_, rfl, _, rfl, by show 2 ≤ sizeLine; decide, fun T hT => ?_⟩
      have q := k T hT
      unfold mk at q
      rw [if_neg c] at q
      exact q
end
end Wd
end
section
set_option maxRecDepth 100000
set_option maxHeartbeats 0
namespace Wd
open PySem PySem.Spec PyProof.Rows L2
def d0 : He.DefD := ⟨("is_word", none), "is_word", "is_word", defArgs sp_is_word, defBody sp_is_word, defScope sp_is_word, [], []⟩
def d1 : He.DefD := ⟨("are_unlike", none), "are_unlike", "are_unlike", defArgs sp_are_unlike, defBody sp_are_unlike, defScope sp_are_unlike, [], []⟩
def d2 : He.DefD := ⟨("is_person", none), "is_person", "is_person", defArgs sp_is_person, defBody sp_is_person, defScope sp_is_person, [], []⟩
def d3 : He.DefD := ⟨("Company", some "__init__"), "__init__", "Company.__init__", defArgs cI, defBody cI, defScope cI, [], []⟩
def d4 : He.DefD := ⟨("Company", some "people"), "people", "Company.people", defArgs cP, defBody cP, defScope cP, [], []⟩
def d5 : He.DefD := ⟨("Company", some "friends"), "friends", "Company.friends", defArgs cFr, defBody cFr, defScope cFr, [], []⟩
def d6 : He.DefD := ⟨("Company", some "__eq__"), "__eq__", "Company.__eq__", defArgs cE, defBody cE, defScope cE, [], []⟩
def d7 : He.DefD := ⟨("are_people", none), "are_people", "are_people", defArgs sp_are_people, defBody sp_are_people, defScope sp_are_people, [], []⟩
def d8 : He.DefD := ⟨("are_people_of", none), "are_people_of", "are_people_of", defArgs sp_are_people_of, defBody sp_are_people_of, defScope sp_are_people_of, [], []⟩
def d9 : He.DefD := ⟨("is_pair_of", none), "is_pair_of", "is_pair_of", defArgs sp_is_pair_of, defBody sp_is_pair_of, defScope sp_is_pair_of, [], []⟩
def d10 : He.DefD := ⟨("are_pairs_of", none), "are_pairs_of", "are_pairs_of", defArgs sp_are_pairs_of, defBody sp_are_pairs_of, defScope sp_are_pairs_of, [], []⟩
def d11 : He.DefD := ⟨("check_company", none), "check_company", "check_company", defArgs sp_check_company, defBody sp_check_company, defScope sp_check_company, [], []⟩
def d12 : He.DefD := ⟨("pair_of", none), "pair_of", "pair_of", defArgs sp_pair_of, defBody sp_pair_of, defScope sp_pair_of, [], []⟩
def d13 : He.DefD := ⟨("all_pairs", none), "all_pairs", "all_pairs", defArgs sp_all_pairs, defBody sp_all_pairs, defScope sp_all_pairs, [], []⟩
def d14 : He.DefD := ⟨("circles", none), "circles", "circles", defArgs sp_circles, defBody sp_circles, defScope sp_circles, [], []⟩
def d15 : He.DefD := ⟨("strangers", none), "strangers", "strangers", defArgs sp_strangers, defBody sp_strangers, defScope sp_strangers, [], []⟩
def d16 : He.DefD := ⟨("friend_numbers", none), "friend_numbers", "friend_numbers", defArgs sp_friend_numbers, defBody sp_friend_numbers, defScope sp_friend_numbers, [], []⟩
def d17 : He.DefD := ⟨("kept_among", none), "kept_among", "kept_among", defArgs sp_kept_among, defBody sp_kept_among, defScope sp_kept_among, [], []⟩
def d18 : He.DefD := ⟨("opposite", none), "opposite", "opposite", defArgs sp_opposite, defBody sp_opposite, defScope sp_opposite, [], []⟩
def d19 : He.DefD := ⟨("cone", none), "cone", "cone", defArgs sp_cone, defBody sp_cone, defScope sp_cone, [], []⟩
def d20 : He.DefD := ⟨("side_by_side", none), "side_by_side", "side_by_side", defArgs sp_side_by_side, defBody sp_side_by_side, defScope sp_side_by_side, [], []⟩
def d21 : He.DefD := ⟨("cut_to", none), "cut_to", "cut_to", defArgs sp_cut_to, defBody sp_cut_to, defScope sp_cut_to, [], []⟩
def d22 : He.DefD := ⟨("are_names", none), "are_names", "are_names", defArgs sp_are_names, defBody sp_are_names, defScope sp_are_names, [], []⟩
def d23 : He.DefD := ⟨("renamed", none), "renamed", "renamed", defArgs sp_renamed, defBody sp_renamed, defScope sp_renamed, [], []⟩
def d24 : He.DefD := ⟨("_law_purse", none), "_law_purse", "_law_purse", defArgs s_purse, defBody s_purse, defScope s_purse, [], []⟩
def d25 : He.DefD := ⟨("_law_mixed", none), "_law_mixed", "_law_mixed", defArgs s_mixed, defBody s_mixed, defScope s_mixed, [], []⟩
def d26 : He.DefD := ⟨("_law_draw", none), "_law_draw", "_law_draw", defArgs s_draw, defBody s_draw, defScope s_draw, [], []⟩
def d27 : He.DefD := ⟨("_law_purses", none), "_law_purses", "_law_purses", defArgs s_purses, defBody s_purses, defScope s_purses, [], []⟩
def d28 : He.DefD := ⟨("_law_one_of", none), "_law_one_of", "_law_one_of", defArgs s_one_of, defBody s_one_of, defScope s_one_of, [], []⟩
def d29 : He.DefD := ⟨("_law_shuffled", none), "_law_shuffled", "_law_shuffled", defArgs s_shuffled, defBody s_shuffled, defScope s_shuffled, [], []⟩
def d30 : He.DefD := ⟨("_law_exact", none), "_law_exact", "_law_exact", defArgs s_exact, defBody s_exact, defScope s_exact, [], []⟩
def d31 : He.DefD := ⟨("_law_word", none), "_law_word", "_law_word", defArgs s_word, defBody s_word, defScope s_word, [], []⟩
def d32 : He.DefD := ⟨("_law_words", none), "_law_words", "_law_words", defArgs s_words, defBody s_words, defScope s_words, [], []⟩
def d33 : He.DefD := ⟨("_law_people", none), "_law_people", "_law_people", defArgs s_people, defBody s_people, defScope s_people, [], []⟩
def d34 : He.DefD := ⟨("_law_pair", none), "_law_pair", "_law_pair", defArgs s_pair, defBody s_pair, defScope s_pair, [], []⟩
def d35 : He.DefD := ⟨("_law_pairs", none), "_law_pairs", "_law_pairs", defArgs s_pairs, defBody s_pairs, defScope s_pairs, [], []⟩
def d36 : He.DefD := ⟨("_law_net", none), "_law_net", "_law_net", defArgs s_net, defBody s_net, defScope s_net, [], []⟩
def d37 : He.DefD := ⟨("_law_deed", none), "_law_deed", "_law_deed", defArgs s_deed, defBody s_deed, defScope s_deed, [], []⟩
def d38 : He.DefD := ⟨("_law_opposite", none), "_law_opposite", "_law_opposite", defArgs s_opposite, defBody s_opposite, defScope s_opposite, [], []⟩
def d39 : He.DefD := ⟨("_law_cone", none), "_law_cone", "_law_cone", defArgs s_cone, defBody s_cone, defScope s_cone, [], []⟩
def d40 : He.DefD := ⟨("_law_cut", none), "_law_cut", "_law_cut", defArgs s_cut, defBody s_cut, defScope s_cut, [], []⟩
def d41 : He.DefD := ⟨("_law_renamed", none), "_law_renamed", "_law_renamed", defArgs s_renamed, defBody s_renamed, defScope s_renamed, [], []⟩
def d42 : He.DefD := ⟨("_law_by_density", none), "_law_by_density", "_law_by_density", defArgs s_by_density, defBody s_by_density, defScope s_by_density, [], []⟩
def d43 : He.DefD := ⟨("_law_by_labels", none), "_law_by_labels", "_law_by_labels", defArgs s_by_labels, defBody s_by_labels, defScope s_by_labels, [], []⟩
def d44 : He.DefD := ⟨("_law_shaped", none), "_law_shaped", "_law_shaped", defArgs s_shaped, defBody s_shaped, defScope s_shaped, [], []⟩
def d45 : He.DefD := ⟨("_law_world", none), "_law_world", "_law_world", defArgs s_world, defBody s_world, defScope s_world, [], []⟩
def d46 : He.DefD := ⟨("_law_company", none), "_law_company", "_law_company", defArgs s_company, defBody s_company, defScope s_company, [], []⟩
def d47 : He.DefD := ⟨("_law_lists", none), "_law_lists", "_law_lists", defArgs s_lists, defBody s_lists, defScope s_lists, [], []⟩
def d48 : He.DefD := ⟨("_law_names", none), "_law_names", "_law_names", defArgs s_names, defBody s_names, defScope s_names, [], []⟩
def d49 : He.DefD := ⟨("_law_opposite_right", none), "_law_opposite_right", "_law_opposite_right", defArgs s_opposite_right, defBody s_opposite_right, defScope s_opposite_right, [], []⟩
def d50 : He.DefD := ⟨("_law_cone_right", none), "_law_cone_right", "_law_cone_right", defArgs s_cone_right, defBody s_cone_right, defScope s_cone_right, [], []⟩
def d51 : He.DefD := ⟨("_law_beside", none), "_law_beside", "_law_beside", defArgs s_beside, defBody s_beside, defScope s_beside, [], []⟩
def d52 : He.DefD := ⟨("_law_side_right", none), "_law_side_right", "_law_side_right", defArgs s_side_right, defBody s_side_right, defScope s_side_right, [], []⟩
def d53 : He.DefD := ⟨("_law_renamed_right", none), "_law_renamed_right", "_law_renamed_right", defArgs s_renamed_right, defBody s_renamed_right, defScope s_renamed_right, [], []⟩
def d54 : He.DefD := ⟨("_law_cut_right", none), "_law_cut_right", "_law_cut_right", defArgs s_cut_right, defBody s_cut_right, defScope s_cut_right, [], []⟩
def d55 : He.DefD := ⟨("law", none), "law", "law", defArgs s_law, defBody s_law, defScope s_law, [], []⟩
def fn0 : List He.DefD := [d0, d1, d2, d3, d4, d5, d6, d7, d8, d9, d10, d11, d12, d13, d14, d15, d16, d17, d18, d19]
def fn1 : List He.DefD := [d20, d21, d22, d23, d24, d25, d26, d27, d28, d29, d30, d31, d32, d33, d34, d35, d36, d37, d38, d39]
def fn2 : List He.DefD := [d40, d41, d42, d43, d44, d45, d46, d47, d48, d49, d50, d51, d52, d53, d54, d55]
def fnA : List He.DefD := fn0 ++ fn1 ++ fn2
def fa0 : List He.Fa := [.glo "is_word", .glo "are_unlike", .glo "is_person", .glo "are_people", .glo "are_people_of", .glo "is_pair_of", .glo "are_pairs_of", .glo "check_company", .glo "pair_of", .glo "all_pairs", .glo "circles", .glo "strangers", .glo "friend_numbers", .glo "kept_among", .glo "opposite", .glo "cone", .glo "side_by_side", .glo "cut_to", .glo "are_names", .glo "renamed"]
def fa1 : List He.Fa := [.glo "_law_purse", .glo "_law_mixed", .glo "_law_draw", .glo "_law_purses", .glo "_law_one_of", .glo "_law_shuffled", .glo "_law_exact", .glo "_law_word", .glo "_law_words", .glo "_law_people", .glo "_law_pair", .glo "_law_pairs", .glo "_law_net", .glo "_law_deed", .glo "_law_opposite", .glo "_law_cone", .glo "_law_cut", .glo "_law_renamed", .glo "_law_by_density", .glo "_law_by_labels"]
def fa2 : List He.Fa := [.glo "_law_shaped", .glo "_law_world", .glo "_law_company", .glo "_law_lists", .glo "_law_names", .glo "_law_opposite_right", .glo "_law_cone_right", .glo "_law_beside", .glo "_law_side_right", .glo "_law_renamed_right", .glo "_law_cut_right", .glo "law", .glo "Company", .cls "Company", .noat "Company" "_people", .noat "Company" "_friends", .meth "Company" "people", .meth "Company" "friends", .meth "Company" "__eq__", .mkr "Company"]
def fa3 : List He.Fa := [.int "LONGEST_WORD" 8, .free "sum", .free "max", .free "min", .free "int", .free "range", .free "len", .free "sorted", .free "list", .free "dict", .free "set", .free "all", .free "zip", .free "isinstance", .free "str", .free "tuple", .free "bool"]
def faA : List He.Fa := fa0 ++ fa1 ++ fa2 ++ fa3
def nm0 : List PySem.Str := ["combinations", "FriendError", "InvalidPerson", "InvalidPeople", "InvalidPairs", "InvalidCompany", "InvalidNames", "LONGEST_WORD", "is_word", "are_unlike", "is_person", "Company", "are_people", "are_people_of", "is_pair_of", "are_pairs_of", "check_company", "pair_of", "all_pairs", "circles"]
def nm1 : List PySem.Str := ["strangers", "friend_numbers", "kept_among", "opposite", "cone", "side_by_side", "cut_to", "are_names", "renamed", "_law_purse", "_law_mixed", "_law_draw", "_law_purses", "_law_one_of", "_law_shuffled", "_law_exact", "_law_word", "_law_words", "_law_people", "_law_pair"]
def nm2 : List PySem.Str := ["_law_pairs", "_law_net", "_law_deed", "_law_opposite", "_law_cone", "_law_cut", "_law_renamed", "_law_by_density", "_law_by_labels", "_law_shaped", "_law_world", "_law_company", "_law_lists", "_law_names", "_law_opposite_right", "_law_cone_right", "_law_beside", "_law_side_right", "_law_renamed_right", "_law_cut_right"]
def nmA : List PySem.Str := nm0 ++ nm1 ++ nm2
def lawAt : Nat := 64
/-- the rest that the end asks: the import, what isinstance asks of the class -/
def exB (K : PySem.W.Frag) : Bool := He.eqO (PySem.W.nsIn K mainGlobals "combinations") (some (some (.type Kc.TC))) && (He.eqO (PySem.W.findIn K (.ref (He.ga K "Company")) "__class__") (some (some (.builtin "object.__class__"))) &&
  (He.eqO (PySem.W.specialIn K (.builtin "object.__class__") "__get__") (some (some (.builtin "getset_descriptor.__get__"))) && (decide (PySem.W.takesIn K (.builtin "object.__class__") = some true) &&
  (decide (PySem.W.mroIn K (He.ga K "Company") (.type "object") = some true) && (decide (PySem.W.kitOne K (.ref (He.ga K "Company")) (.ref (He.ga K "Company")) = some true) &&
  He.eqO (PySem.W.findIn K (.ref (He.ga K "Company")) "__ne__") (some (some (.builtin "object.__ne__"))))))))
def obsM (n : Nat) (g : Addr → Option Obj) : He.AlD × Bool := (He.obsD faA fnA (He.frG g (He.asD g n)), exB (He.frG g (He.asD g n)))
def hookM (n : Nat) : PySem.W.Hook where
  α := He.AlD × Bool
  obs := fun s => obsM n s.heap.get?
  val := fun _ => (He.valD fnA, true)
  says := fun _ h => ∃ K : PySem.W.Frag, K.In h ∧ He.SaysD faA fnA K ∧ exB K = true
  of := fun _ _ e => ⟨_, He.frG_in, congrArg (fun z : He.AlD × Bool => z.1) e, congrArg (fun z : He.AlD × Bool => z.2) e⟩
  keeps := fun _ _ _ ⟨K, hK, c, d⟩ k => ⟨K, PySem.W.Frag.In.keeps hK k, c, d⟩
abbrev RR : PySem.W.OpenRow := PySem.W.OpenLaw.row PySem.Challenge.rw_evenfriends_k05_whole_opposite_cone_side
abbrev hk : PySem.W.Hook := hookM 4
def ob (s : PySem.W.SharedT) : He.AlD × Bool := obsM 4 (HandSHeadRun.getT s)
theorem ob_eq (s : PySem.W.SharedT) : ob s = hk.obs s.abs := by
  have e : HandSHeadRun.getT s = s.abs.heap.get? := funext (HandSHeadRun.getT_eq s)
  show obsM 4 (HandSHeadRun.getT s) = obsM 4 s.abs.heap.get?
  rw [e]
end Wd
end
section
set_option maxRecDepth 100000
set_option maxHeartbeats 4000000
namespace Wd
open PySem PySem.Spec PyProof.Rows L2
theorem fun_of {K : PySem.W.Frag} {x q : PySem.Str} {st : Stmt} {f : Addr} {fd : FuncData} (F : FunD K x q (defArgs st) (defBody st) (defScope st) [] [] f fd) : Fun K x q st f fd := by
  obtain ⟨oc, od, dV, kV, doc, pm, an, cdv, ct, osl, e, lk, hcd, hd, _⟩ := F.ex
  rcases hd with ⟨_, rfl⟩ | ⟨z, _⟩
  · exact ⟨⟨oc, od, kV, doc, pm, an, cdv, ct, osl, e, lk, hcd⟩, F.kp⟩
  · exact absurd rfl z
theorem facts {P : Program} {w : World} {K : PySem.W.Frag} {h : Heap} {mg : PySem.Str → Option Value} {fa : Addr} (X : K.In h) (G : h.Ns mainGlobals mg) (hfa : mg ("law" : PySem.Str) = some (.ref fa)) (c : He.SaysD faA fnA K) (ce : exB K = true) :
    ∃ fd : FuncData, (∀ (s : Shared) (v : Value), BindsTo s fd ⟨[v], []⟩ [("_law_script", v)]) ∧ ∀ base : Heap, K.In base → base.Ns mainGlobals mg → FnOk P w K mg base CX0 9 fa fd ["_law_script"] (spLaw K) := by
  obtain ⟨d_is_word, D_is_word⟩ := c.def_ 0 (d := d0) rfl
  have F_is_word : Fun K "is_word" "is_word" sp_is_word (He.ga K "is_word") d_is_word := fun_of D_is_word
  have b_is_word : Binds K d_is_word ["value"] [] := D_is_word.bindsN fun _ _ _ _ _ _ us hl => match us, hl with | [_], _ => rfl
  have g_is_word : mg "is_word" = some (.ref (He.ga K "is_word")) := He.glo_ok X G (c.fact 0 (f := .glo "is_word") rfl)
  obtain ⟨d_are_unlike, D_are_unlike⟩ := c.def_ 1 (d := d1) rfl
  have F_are_unlike : Fun K "are_unlike" "are_unlike" sp_are_unlike (He.ga K "are_unlike") d_are_unlike := fun_of D_are_unlike
  have b_are_unlike : Binds K d_are_unlike ["things"] [] := D_are_unlike.bindsN fun _ _ _ _ _ _ us hl => match us, hl with | [_], _ => rfl
  have g_are_unlike : mg "are_unlike" = some (.ref (He.ga K "are_unlike")) := He.glo_ok X G (c.fact 1 (f := .glo "are_unlike") rfl)
  obtain ⟨d_is_person, D_is_person⟩ := c.def_ 2 (d := d2) rfl
  have F_is_person : Fun K "is_person" "is_person" sp_is_person (He.ga K "is_person") d_is_person := fun_of D_is_person
  have b_is_person : Binds K d_is_person ["value"] [] := D_is_person.bindsN fun _ _ _ _ _ _ us hl => match us, hl with | [_], _ => rfl
  have g_is_person : mg "is_person" = some (.ref (He.ga K "is_person")) := He.glo_ok X G (c.fact 2 (f := .glo "is_person") rfl)
  obtain ⟨d_are_people, D_are_people⟩ := c.def_ 7 (d := d7) rfl
  have F_are_people : Fun K "are_people" "are_people" sp_are_people (He.ga K "are_people") d_are_people := fun_of D_are_people
  have b_are_people : Binds K d_are_people ["value"] [] := D_are_people.bindsN fun _ _ _ _ _ _ us hl => match us, hl with | [_], _ => rfl
  have g_are_people : mg "are_people" = some (.ref (He.ga K "are_people")) := He.glo_ok X G (c.fact 3 (f := .glo "are_people") rfl)
  obtain ⟨d_are_people_of, D_are_people_of⟩ := c.def_ 8 (d := d8) rfl
  have F_are_people_of : Fun K "are_people_of" "are_people_of" sp_are_people_of (He.ga K "are_people_of") d_are_people_of := fun_of D_are_people_of
  have b_are_people_of : Binds K d_are_people_of ["people", "value"] [] := D_are_people_of.bindsN fun _ _ _ _ _ _ us hl => match us, hl with | [_, _], _ => rfl
  have g_are_people_of : mg "are_people_of" = some (.ref (He.ga K "are_people_of")) := He.glo_ok X G (c.fact 4 (f := .glo "are_people_of") rfl)
  obtain ⟨d_is_pair_of, D_is_pair_of⟩ := c.def_ 9 (d := d9) rfl
  have F_is_pair_of : Fun K "is_pair_of" "is_pair_of" sp_is_pair_of (He.ga K "is_pair_of") d_is_pair_of := fun_of D_is_pair_of
  have b_is_pair_of : Binds K d_is_pair_of ["people", "value"] [] := D_is_pair_of.bindsN fun _ _ _ _ _ _ us hl => match us, hl with | [_, _], _ => rfl
  have g_is_pair_of : mg "is_pair_of" = some (.ref (He.ga K "is_pair_of")) := He.glo_ok X G (c.fact 5 (f := .glo "is_pair_of") rfl)
  obtain ⟨d_are_pairs_of, D_are_pairs_of⟩ := c.def_ 10 (d := d10) rfl
  have F_are_pairs_of : Fun K "are_pairs_of" "are_pairs_of" sp_are_pairs_of (He.ga K "are_pairs_of") d_are_pairs_of := fun_of D_are_pairs_of
  have b_are_pairs_of : Binds K d_are_pairs_of ["people", "value"] [] := D_are_pairs_of.bindsN fun _ _ _ _ _ _ us hl => match us, hl with | [_, _], _ => rfl
  have g_are_pairs_of : mg "are_pairs_of" = some (.ref (He.ga K "are_pairs_of")) := He.glo_ok X G (c.fact 6 (f := .glo "are_pairs_of") rfl)
  obtain ⟨d_check_company, D_check_company⟩ := c.def_ 11 (d := d11) rfl
  have F_check_company : Fun K "check_company" "check_company" sp_check_company (He.ga K "check_company") d_check_company := fun_of D_check_company
  have b_check_company : Binds K d_check_company ["company"] [] := D_check_company.bindsN fun _ _ _ _ _ _ us hl => match us, hl with | [_], _ => rfl
  have g_check_company : mg "check_company" = some (.ref (He.ga K "check_company")) := He.glo_ok X G (c.fact 7 (f := .glo "check_company") rfl)
  obtain ⟨d_pair_of, D_pair_of⟩ := c.def_ 12 (d := d12) rfl
  have F_pair_of : Fun K "pair_of" "pair_of" sp_pair_of (He.ga K "pair_of") d_pair_of := fun_of D_pair_of
  have b_pair_of : Binds K d_pair_of ["one", "other"] [] := D_pair_of.bindsN fun _ _ _ _ _ _ us hl => match us, hl with | [_, _], _ => rfl
  have g_pair_of : mg "pair_of" = some (.ref (He.ga K "pair_of")) := He.glo_ok X G (c.fact 8 (f := .glo "pair_of") rfl)
  obtain ⟨d_all_pairs, D_all_pairs⟩ := c.def_ 13 (d := d13) rfl
  have F_all_pairs : Fun K "all_pairs" "all_pairs" sp_all_pairs (He.ga K "all_pairs") d_all_pairs := fun_of D_all_pairs
  have b_all_pairs : Binds K d_all_pairs ["people"] [] := D_all_pairs.bindsN fun _ _ _ _ _ _ us hl => match us, hl with | [_], _ => rfl
  have g_all_pairs : mg "all_pairs" = some (.ref (He.ga K "all_pairs")) := He.glo_ok X G (c.fact 9 (f := .glo "all_pairs") rfl)
  obtain ⟨d_circles, D_circles⟩ := c.def_ 14 (d := d14) rfl
  have F_circles : Fun K "circles" "circles" sp_circles (He.ga K "circles") d_circles := fun_of D_circles
  have b_circles : Binds K d_circles ["company"] [] := D_circles.bindsN fun _ _ _ _ _ _ us hl => match us, hl with | [_], _ => rfl
  have g_circles : mg "circles" = some (.ref (He.ga K "circles")) := He.glo_ok X G (c.fact 10 (f := .glo "circles") rfl)
  obtain ⟨d_strangers, D_strangers⟩ := c.def_ 15 (d := d15) rfl
  have F_strangers : Fun K "strangers" "strangers" sp_strangers (He.ga K "strangers") d_strangers := fun_of D_strangers
  have b_strangers : Binds K d_strangers ["company"] [] := D_strangers.bindsN fun _ _ _ _ _ _ us hl => match us, hl with | [_], _ => rfl
  have g_strangers : mg "strangers" = some (.ref (He.ga K "strangers")) := He.glo_ok X G (c.fact 11 (f := .glo "strangers") rfl)
  obtain ⟨d_friend_numbers, D_friend_numbers⟩ := c.def_ 16 (d := d16) rfl
  have F_friend_numbers : Fun K "friend_numbers" "friend_numbers" sp_friend_numbers (He.ga K "friend_numbers") d_friend_numbers := fun_of D_friend_numbers
  have b_friend_numbers : Binds K d_friend_numbers ["company"] [] := D_friend_numbers.bindsN fun _ _ _ _ _ _ us hl => match us, hl with | [_], _ => rfl
  have g_friend_numbers : mg "friend_numbers" = some (.ref (He.ga K "friend_numbers")) := He.glo_ok X G (c.fact 12 (f := .glo "friend_numbers") rfl)
  obtain ⟨d_kept_among, D_kept_among⟩ := c.def_ 17 (d := d17) rfl
  have F_kept_among : Fun K "kept_among" "kept_among" sp_kept_among (He.ga K "kept_among") d_kept_among := fun_of D_kept_among
  have b_kept_among : Binds K d_kept_among ["company", "people"] [] := D_kept_among.bindsN fun _ _ _ _ _ _ us hl => match us, hl with | [_, _], _ => rfl
  have g_kept_among : mg "kept_among" = some (.ref (He.ga K "kept_among")) := He.glo_ok X G (c.fact 13 (f := .glo "kept_among") rfl)
  obtain ⟨d_opposite, D_opposite⟩ := c.def_ 18 (d := d18) rfl
  have F_opposite : Fun K "opposite" "opposite" sp_opposite (He.ga K "opposite") d_opposite := fun_of D_opposite
  have b_opposite : Binds K d_opposite ["company"] [] := D_opposite.bindsN fun _ _ _ _ _ _ us hl => match us, hl with | [_], _ => rfl
  have g_opposite : mg "opposite" = some (.ref (He.ga K "opposite")) := He.glo_ok X G (c.fact 14 (f := .glo "opposite") rfl)
  obtain ⟨d_cone, D_cone⟩ := c.def_ 19 (d := d19) rfl
  have F_cone : Fun K "cone" "cone" sp_cone (He.ga K "cone") d_cone := fun_of D_cone
  have b_cone : Binds K d_cone ["company", "person"] [] := D_cone.bindsN fun _ _ _ _ _ _ us hl => match us, hl with | [_, _], _ => rfl
  have g_cone : mg "cone" = some (.ref (He.ga K "cone")) := He.glo_ok X G (c.fact 15 (f := .glo "cone") rfl)
  obtain ⟨d_side_by_side, D_side_by_side⟩ := c.def_ 20 (d := d20) rfl
  have F_side_by_side : Fun K "side_by_side" "side_by_side" sp_side_by_side (He.ga K "side_by_side") d_side_by_side := fun_of D_side_by_side
  have b_side_by_side : Binds K d_side_by_side ["one", "other"] [] := D_side_by_side.bindsN fun _ _ _ _ _ _ us hl => match us, hl with | [_, _], _ => rfl
  have g_side_by_side : mg "side_by_side" = some (.ref (He.ga K "side_by_side")) := He.glo_ok X G (c.fact 16 (f := .glo "side_by_side") rfl)
  obtain ⟨d_cut_to, D_cut_to⟩ := c.def_ 21 (d := d21) rfl
  have F_cut_to : Fun K "cut_to" "cut_to" sp_cut_to (He.ga K "cut_to") d_cut_to := fun_of D_cut_to
  have b_cut_to : Binds K d_cut_to ["company", "people"] [] := D_cut_to.bindsN fun _ _ _ _ _ _ us hl => match us, hl with | [_, _], _ => rfl
  have g_cut_to : mg "cut_to" = some (.ref (He.ga K "cut_to")) := He.glo_ok X G (c.fact 17 (f := .glo "cut_to") rfl)
  obtain ⟨d_are_names, D_are_names⟩ := c.def_ 22 (d := d22) rfl
  have F_are_names : Fun K "are_names" "are_names" sp_are_names (He.ga K "are_names") d_are_names := fun_of D_are_names
  have b_are_names : Binds K d_are_names ["people", "value"] [] := D_are_names.bindsN fun _ _ _ _ _ _ us hl => match us, hl with | [_, _], _ => rfl
  have g_are_names : mg "are_names" = some (.ref (He.ga K "are_names")) := He.glo_ok X G (c.fact 18 (f := .glo "are_names") rfl)
  obtain ⟨d_renamed, D_renamed⟩ := c.def_ 23 (d := d23) rfl
  have F_renamed : Fun K "renamed" "renamed" sp_renamed (He.ga K "renamed") d_renamed := fun_of D_renamed
  have b_renamed : Binds K d_renamed ["company", "names"] [] := D_renamed.bindsN fun _ _ _ _ _ _ us hl => match us, hl with | [_, _], _ => rfl
  have g_renamed : mg "renamed" = some (.ref (He.ga K "renamed")) := He.glo_ok X G (c.fact 19 (f := .glo "renamed") rfl)
  obtain ⟨d__law_purse, D__law_purse⟩ := c.def_ 24 (d := d24) rfl
  have F__law_purse : Fun K "_law_purse" "_law_purse" s_purse (He.ga K "_law_purse") d__law_purse := fun_of D__law_purse
  have b__law_purse : Binds K d__law_purse ["_law_script", "_law_at"] [] := D__law_purse.bindsN fun _ _ _ _ _ _ us hl => match us, hl with | [_, _], _ => rfl
  have g__law_purse : mg "_law_purse" = some (.ref (He.ga K "_law_purse")) := He.glo_ok X G (c.fact 20 (f := .glo "_law_purse") rfl)
  obtain ⟨d__law_mixed, D__law_mixed⟩ := c.def_ 25 (d := d25) rfl
  have F__law_mixed : Fun K "_law_mixed" "_law_mixed" s_mixed (He.ga K "_law_mixed") d__law_mixed := fun_of D__law_mixed
  have b__law_mixed : Binds K d__law_mixed ["_law_seed", "_law_turn", "_law_at"] [] := D__law_mixed.bindsN fun _ _ _ _ _ _ us hl => match us, hl with | [_, _, _], _ => rfl
  have g__law_mixed : mg "_law_mixed" = some (.ref (He.ga K "_law_mixed")) := He.glo_ok X G (c.fact 21 (f := .glo "_law_mixed") rfl)
  obtain ⟨d__law_draw, D__law_draw⟩ := c.def_ 26 (d := d26) rfl
  have F__law_draw : Fun K "_law_draw" "_law_draw" s_draw (He.ga K "_law_draw") d__law_draw := fun_of D__law_draw
  have b__law_draw : Binds K d__law_draw ["_law_purse_here", "_law_many"] [] := D__law_draw.bindsN fun _ _ _ _ _ _ us hl => match us, hl with | [_, _], _ => rfl
  have g__law_draw : mg "_law_draw" = some (.ref (He.ga K "_law_draw")) := He.glo_ok X G (c.fact 22 (f := .glo "_law_draw") rfl)
  obtain ⟨d__law_purses, D__law_purses⟩ := c.def_ 27 (d := d27) rfl
  have F__law_purses : Fun K "_law_purses" "_law_purses" s_purses (He.ga K "_law_purses") d__law_purses := fun_of D__law_purses
  have b__law_purses : Binds K d__law_purses ["_law_script", "_law_few"] [] := D__law_purses.bindsN fun _ _ _ _ _ _ us hl => match us, hl with | [_, _], _ => rfl
  have g__law_purses : mg "_law_purses" = some (.ref (He.ga K "_law_purses")) := He.glo_ok X G (c.fact 23 (f := .glo "_law_purses") rfl)
  obtain ⟨d__law_one_of, D__law_one_of⟩ := c.def_ 28 (d := d28) rfl
  have F__law_one_of : Fun K "_law_one_of" "_law_one_of" s_one_of (He.ga K "_law_one_of") d__law_one_of := fun_of D__law_one_of
  have b__law_one_of : Binds K d__law_one_of ["_law_purse_here", "_law_some"] [] := D__law_one_of.bindsN fun _ _ _ _ _ _ us hl => match us, hl with | [_, _], _ => rfl
  have g__law_one_of : mg "_law_one_of" = some (.ref (He.ga K "_law_one_of")) := He.glo_ok X G (c.fact 24 (f := .glo "_law_one_of") rfl)
  obtain ⟨d__law_shuffled, D__law_shuffled⟩ := c.def_ 29 (d := d29) rfl
  have F__law_shuffled : Fun K "_law_shuffled" "_law_shuffled" s_shuffled (He.ga K "_law_shuffled") d__law_shuffled := fun_of D__law_shuffled
  have b__law_shuffled : Binds K d__law_shuffled ["_law_purse_here", "_law_some"] [] := D__law_shuffled.bindsN fun _ _ _ _ _ _ us hl => match us, hl with | [_, _], _ => rfl
  have g__law_shuffled : mg "_law_shuffled" = some (.ref (He.ga K "_law_shuffled")) := He.glo_ok X G (c.fact 25 (f := .glo "_law_shuffled") rfl)
  obtain ⟨d__law_exact, D__law_exact⟩ := c.def_ 30 (d := d30) rfl
  have F__law_exact : Fun K "_law_exact" "_law_exact" s_exact (He.ga K "_law_exact") d__law_exact := fun_of D__law_exact
  have b__law_exact : Binds K d__law_exact ["_law_mine", "_law_theirs"] [] := D__law_exact.bindsN fun _ _ _ _ _ _ us hl => match us, hl with | [_, _], _ => rfl
  have g__law_exact : mg "_law_exact" = some (.ref (He.ga K "_law_exact")) := He.glo_ok X G (c.fact 26 (f := .glo "_law_exact") rfl)
  obtain ⟨d__law_word, D__law_word⟩ := c.def_ 31 (d := d31) rfl
  have F__law_word : Fun K "_law_word" "_law_word" s_word (He.ga K "_law_word") d__law_word := fun_of D__law_word
  have b__law_word : Binds K d__law_word ["_law_purse_here"] [] := D__law_word.bindsN fun _ _ _ _ _ _ us hl => match us, hl with | [_], _ => rfl
  have g__law_word : mg "_law_word" = some (.ref (He.ga K "_law_word")) := He.glo_ok X G (c.fact 27 (f := .glo "_law_word") rfl)
  obtain ⟨d__law_words, D__law_words⟩ := c.def_ 32 (d := d32) rfl
  have F__law_words : Fun K "_law_words" "_law_words" s_words (He.ga K "_law_words") d__law_words := fun_of D__law_words
  have b__law_words : Binds K d__law_words ["_law_purse_here", "_law_many"] [] := D__law_words.bindsN fun _ _ _ _ _ _ us hl => match us, hl with | [_, _], _ => rfl
  have g__law_words : mg "_law_words" = some (.ref (He.ga K "_law_words")) := He.glo_ok X G (c.fact 28 (f := .glo "_law_words") rfl)
  obtain ⟨d__law_people, D__law_people⟩ := c.def_ 33 (d := d33) rfl
  have F__law_people : Fun K "_law_people" "_law_people" s_people (He.ga K "_law_people") d__law_people := fun_of D__law_people
  have b__law_people : Binds K d__law_people ["_law_purse_here", "_law_many"] [] := D__law_people.bindsN fun _ _ _ _ _ _ us hl => match us, hl with | [_, _], _ => rfl
  have g__law_people : mg "_law_people" = some (.ref (He.ga K "_law_people")) := He.glo_ok X G (c.fact 29 (f := .glo "_law_people") rfl)
  obtain ⟨d__law_pair, D__law_pair⟩ := c.def_ 34 (d := d34) rfl
  have F__law_pair : Fun K "_law_pair" "_law_pair" s_pair (He.ga K "_law_pair") d__law_pair := fun_of D__law_pair
  have b__law_pair : Binds K d__law_pair ["_law_first", "_law_second"] [] := D__law_pair.bindsN fun _ _ _ _ _ _ us hl => match us, hl with | [_, _], _ => rfl
  have g__law_pair : mg "_law_pair" = some (.ref (He.ga K "_law_pair")) := He.glo_ok X G (c.fact 30 (f := .glo "_law_pair") rfl)
  obtain ⟨d__law_pairs, D__law_pairs⟩ := c.def_ 35 (d := d35) rfl
  have F__law_pairs : Fun K "_law_pairs" "_law_pairs" s_pairs (He.ga K "_law_pairs") d__law_pairs := fun_of D__law_pairs
  have b__law_pairs : Binds K d__law_pairs ["_law_crowd"] [] := D__law_pairs.bindsN fun _ _ _ _ _ _ us hl => match us, hl with | [_], _ => rfl
  have g__law_pairs : mg "_law_pairs" = some (.ref (He.ga K "_law_pairs")) := He.glo_ok X G (c.fact 31 (f := .glo "_law_pairs") rfl)
  obtain ⟨d__law_net, D__law_net⟩ := c.def_ 36 (d := d36) rfl
  have F__law_net : Fun K "_law_net" "_law_net" s_net (He.ga K "_law_net") d__law_net := fun_of D__law_net
  have b__law_net : Binds K d__law_net ["_law_world_here"] [] := D__law_net.bindsN fun _ _ _ _ _ _ us hl => match us, hl with | [_], _ => rfl
  have g__law_net : mg "_law_net" = some (.ref (He.ga K "_law_net")) := He.glo_ok X G (c.fact 32 (f := .glo "_law_net") rfl)
  obtain ⟨d__law_deed, D__law_deed⟩ := c.def_ 37 (d := d37) rfl
  have F__law_deed : Fun K "_law_deed" "_law_deed" s_deed (He.ga K "_law_deed") d__law_deed := fun_of D__law_deed
  have b__law_deed : Binds K d__law_deed ["_law_world_here", "_law_pair_here"] [] := D__law_deed.bindsN fun _ _ _ _ _ _ us hl => match us, hl with | [_, _], _ => rfl
  have g__law_deed : mg "_law_deed" = some (.ref (He.ga K "_law_deed")) := He.glo_ok X G (c.fact 33 (f := .glo "_law_deed") rfl)
  obtain ⟨d__law_opposite, D__law_opposite⟩ := c.def_ 38 (d := d38) rfl
  have F__law_opposite : Fun K "_law_opposite" "_law_opposite" s_opposite (He.ga K "_law_opposite") d__law_opposite := fun_of D__law_opposite
  have b__law_opposite : Binds K d__law_opposite ["_law_world_here"] [] := D__law_opposite.bindsN fun _ _ _ _ _ _ us hl => match us, hl with | [_], _ => rfl
  have g__law_opposite : mg "_law_opposite" = some (.ref (He.ga K "_law_opposite")) := He.glo_ok X G (c.fact 34 (f := .glo "_law_opposite") rfl)
  obtain ⟨d__law_cone, D__law_cone⟩ := c.def_ 39 (d := d39) rfl
  have F__law_cone : Fun K "_law_cone" "_law_cone" s_cone (He.ga K "_law_cone") d__law_cone := fun_of D__law_cone
  have b__law_cone : Binds K d__law_cone ["_law_world_here", "_law_person"] [] := D__law_cone.bindsN fun _ _ _ _ _ _ us hl => match us, hl with | [_, _], _ => rfl
  have g__law_cone : mg "_law_cone" = some (.ref (He.ga K "_law_cone")) := He.glo_ok X G (c.fact 35 (f := .glo "_law_cone") rfl)
  obtain ⟨d__law_cut, D__law_cut⟩ := c.def_ 40 (d := d40) rfl
  have F__law_cut : Fun K "_law_cut" "_law_cut" s_cut (He.ga K "_law_cut") d__law_cut := fun_of D__law_cut
  have b__law_cut : Binds K d__law_cut ["_law_world_here", "_law_crowd"] [] := D__law_cut.bindsN fun _ _ _ _ _ _ us hl => match us, hl with | [_, _], _ => rfl
  have g__law_cut : mg "_law_cut" = some (.ref (He.ga K "_law_cut")) := He.glo_ok X G (c.fact 36 (f := .glo "_law_cut") rfl)
  obtain ⟨d__law_renamed, D__law_renamed⟩ := c.def_ 41 (d := d41) rfl
  have F__law_renamed : Fun K "_law_renamed" "_law_renamed" s_renamed (He.ga K "_law_renamed") d__law_renamed := fun_of D__law_renamed
  have b__law_renamed : Binds K d__law_renamed ["_law_world_here", "_law_names_here"] [] := D__law_renamed.bindsN fun _ _ _ _ _ _ us hl => match us, hl with | [_, _], _ => rfl
  have g__law_renamed : mg "_law_renamed" = some (.ref (He.ga K "_law_renamed")) := He.glo_ok X G (c.fact 37 (f := .glo "_law_renamed") rfl)
  obtain ⟨d__law_by_density, D__law_by_density⟩ := c.def_ 42 (d := d42) rfl
  have F__law_by_density : Fun K "_law_by_density" "_law_by_density" s_by_density (He.ga K "_law_by_density") d__law_by_density := fun_of D__law_by_density
  have b__law_by_density : Binds K d__law_by_density ["_law_purse_here", "_law_crowd"] [] := D__law_by_density.bindsN fun _ _ _ _ _ _ us hl => match us, hl with | [_, _], _ => rfl
  have g__law_by_density : mg "_law_by_density" = some (.ref (He.ga K "_law_by_density")) := He.glo_ok X G (c.fact 38 (f := .glo "_law_by_density") rfl)
  obtain ⟨d__law_by_labels, D__law_by_labels⟩ := c.def_ 43 (d := d43) rfl
  have F__law_by_labels : Fun K "_law_by_labels" "_law_by_labels" s_by_labels (He.ga K "_law_by_labels") d__law_by_labels := fun_of D__law_by_labels
  have b__law_by_labels : Binds K d__law_by_labels ["_law_purse_here", "_law_crowd"] [] := D__law_by_labels.bindsN fun _ _ _ _ _ _ us hl => match us, hl with | [_, _], _ => rfl
  have g__law_by_labels : mg "_law_by_labels" = some (.ref (He.ga K "_law_by_labels")) := He.glo_ok X G (c.fact 39 (f := .glo "_law_by_labels") rfl)
  obtain ⟨d__law_shaped, D__law_shaped⟩ := c.def_ 44 (d := d44) rfl
  have F__law_shaped : Fun K "_law_shaped" "_law_shaped" s_shaped (He.ga K "_law_shaped") d__law_shaped := fun_of D__law_shaped
  have b__law_shaped : Binds K d__law_shaped ["_law_purse_here", "_law_crowd"] [] := D__law_shaped.bindsN fun _ _ _ _ _ _ us hl => match us, hl with | [_, _], _ => rfl
  have g__law_shaped : mg "_law_shaped" = some (.ref (He.ga K "_law_shaped")) := He.glo_ok X G (c.fact 40 (f := .glo "_law_shaped") rfl)
  obtain ⟨d__law_world, D__law_world⟩ := c.def_ 45 (d := d45) rfl
  have F__law_world : Fun K "_law_world" "_law_world" s_world (He.ga K "_law_world") d__law_world := fun_of D__law_world
  have b__law_world : Binds K d__law_world ["_law_purse_here", "_law_many"] [] := D__law_world.bindsN fun _ _ _ _ _ _ us hl => match us, hl with | [_, _], _ => rfl
  have g__law_world : mg "_law_world" = some (.ref (He.ga K "_law_world")) := He.glo_ok X G (c.fact 41 (f := .glo "_law_world") rfl)
  obtain ⟨d__law_company, D__law_company⟩ := c.def_ 46 (d := d46) rfl
  have F__law_company : Fun K "_law_company" "_law_company" s_company (He.ga K "_law_company") d__law_company := fun_of D__law_company
  have b__law_company : Binds K d__law_company ["_law_world_here"] [] := D__law_company.bindsN fun _ _ _ _ _ _ us hl => match us, hl with | [_], _ => rfl
  have g__law_company : mg "_law_company" = some (.ref (He.ga K "_law_company")) := He.glo_ok X G (c.fact 42 (f := .glo "_law_company") rfl)
  obtain ⟨d__law_lists, D__law_lists⟩ := c.def_ 47 (d := d47) rfl
  have F__law_lists : Fun K "_law_lists" "_law_lists" s_lists (He.ga K "_law_lists") d__law_lists := fun_of D__law_lists
  have b__law_lists : Binds K d__law_lists ["_law_company_here"] [] := D__law_lists.bindsN fun _ _ _ _ _ _ us hl => match us, hl with | [_], _ => rfl
  have g__law_lists : mg "_law_lists" = some (.ref (He.ga K "_law_lists")) := He.glo_ok X G (c.fact 43 (f := .glo "_law_lists") rfl)
  obtain ⟨d__law_names, D__law_names⟩ := c.def_ 48 (d := d48) rfl
  have F__law_names : Fun K "_law_names" "_law_names" s_names (He.ga K "_law_names") d__law_names := fun_of D__law_names
  have b__law_names : Binds K d__law_names ["_law_purse_here", "_law_crowd"] [] := D__law_names.bindsN fun _ _ _ _ _ _ us hl => match us, hl with | [_, _], _ => rfl
  have g__law_names : mg "_law_names" = some (.ref (He.ga K "_law_names")) := He.glo_ok X G (c.fact 44 (f := .glo "_law_names") rfl)
  obtain ⟨d__law_opposite_right, D__law_opposite_right⟩ := c.def_ 49 (d := d49) rfl
  have F__law_opposite_right : Fun K "_law_opposite_right" "_law_opposite_right" s_opposite_right (He.ga K "_law_opposite_right") d__law_opposite_right := fun_of D__law_opposite_right
  have b__law_opposite_right : Binds K d__law_opposite_right ["_law_company_here", "_law_world_here"] [] := D__law_opposite_right.bindsN fun _ _ _ _ _ _ us hl => match us, hl with | [_, _], _ => rfl
  have g__law_opposite_right : mg "_law_opposite_right" = some (.ref (He.ga K "_law_opposite_right")) := He.glo_ok X G (c.fact 45 (f := .glo "_law_opposite_right") rfl)
  obtain ⟨d__law_cone_right, D__law_cone_right⟩ := c.def_ 50 (d := d50) rfl
  have F__law_cone_right : Fun K "_law_cone_right" "_law_cone_right" s_cone_right (He.ga K "_law_cone_right") d__law_cone_right := fun_of D__law_cone_right
  have b__law_cone_right : Binds K d__law_cone_right ["_law_company_here", "_law_world_here"] [] := D__law_cone_right.bindsN fun _ _ _ _ _ _ us hl => match us, hl with | [_, _], _ => rfl
  have g__law_cone_right : mg "_law_cone_right" = some (.ref (He.ga K "_law_cone_right")) := He.glo_ok X G (c.fact 46 (f := .glo "_law_cone_right") rfl)
  obtain ⟨d__law_beside, D__law_beside⟩ := c.def_ 51 (d := d51) rfl
  have F__law_beside : Fun K "_law_beside" "_law_beside" s_beside (He.ga K "_law_beside") d__law_beside := fun_of D__law_beside
  have b__law_beside : Binds K d__law_beside ["_law_purse_here", "_law_world_here"] [] := D__law_beside.bindsN fun _ _ _ _ _ _ us hl => match us, hl with | [_, _], _ => rfl
  have g__law_beside : mg "_law_beside" = some (.ref (He.ga K "_law_beside")) := He.glo_ok X G (c.fact 47 (f := .glo "_law_beside") rfl)
  obtain ⟨d__law_side_right, D__law_side_right⟩ := c.def_ 52 (d := d52) rfl
  have F__law_side_right : Fun K "_law_side_right" "_law_side_right" s_side_right (He.ga K "_law_side_right") d__law_side_right := fun_of D__law_side_right
  have b__law_side_right : Binds K d__law_side_right ["_law_purse_here", "_law_company_here", "_law_world_here"] [] := D__law_side_right.bindsN fun _ _ _ _ _ _ us hl => match us, hl with | [_, _, _], _ => rfl
  have g__law_side_right : mg "_law_side_right" = some (.ref (He.ga K "_law_side_right")) := He.glo_ok X G (c.fact 48 (f := .glo "_law_side_right") rfl)
  obtain ⟨d__law_renamed_right, D__law_renamed_right⟩ := c.def_ 53 (d := d53) rfl
  have F__law_renamed_right : Fun K "_law_renamed_right" "_law_renamed_right" s_renamed_right (He.ga K "_law_renamed_right") d__law_renamed_right := fun_of D__law_renamed_right
  have b__law_renamed_right : Binds K d__law_renamed_right ["_law_purse_here", "_law_company_here", "_law_world_here"] [] := D__law_renamed_right.bindsN fun _ _ _ _ _ _ us hl => match us, hl with | [_, _, _], _ => rfl
  have g__law_renamed_right : mg "_law_renamed_right" = some (.ref (He.ga K "_law_renamed_right")) := He.glo_ok X G (c.fact 49 (f := .glo "_law_renamed_right") rfl)
  obtain ⟨d__law_cut_right, D__law_cut_right⟩ := c.def_ 54 (d := d54) rfl
  have F__law_cut_right : Fun K "_law_cut_right" "_law_cut_right" s_cut_right (He.ga K "_law_cut_right") d__law_cut_right := fun_of D__law_cut_right
  have b__law_cut_right : Binds K d__law_cut_right ["_law_purse_here", "_law_company_here", "_law_world_here"] [] := D__law_cut_right.bindsN fun _ _ _ _ _ _ us hl => match us, hl with | [_, _, _], _ => rfl
  have g__law_cut_right : mg "_law_cut_right" = some (.ref (He.ga K "_law_cut_right")) := He.glo_ok X G (c.fact 50 (f := .glo "_law_cut_right") rfl)
  obtain ⟨d_law, D_law⟩ := c.def_ 55 (d := d55) rfl
  have F_law : Fun K "law" "law" s_law (He.ga K "law") d_law := fun_of D_law
  have b_law : Binds K d_law ["_law_script"] [] := D_law.bindsN fun _ _ _ _ _ _ us hl => match us, hl with | [_], _ => rfl
  have g_law : mg "law" = some (.ref (He.ga K "law")) := He.glo_ok X G (c.fact 51 (f := .glo "law") rfl)
  obtain ⟨d_mpeople, D_mpeople⟩ := c.def_ 4 (d := d4) rfl
  have F_mpeople : Fun K "people" "Company.people" cP (He.ma K (He.ga K "Company") "people") d_mpeople := fun_of D_mpeople
  have b_mpeople : Binds K d_mpeople ["self"] [] := D_mpeople.bindsN fun _ _ _ _ _ _ us hl => match us, hl with | [_], _ => rfl
  have m_mpeople : Meth K (He.ga K "Company") "people" (He.ma K (He.ga K "Company") "people") := He.meth_ok (c.fact 56 (f := .meth "Company" "people") rfl)
  obtain ⟨d_mfriends, D_mfriends⟩ := c.def_ 5 (d := d5) rfl
  have F_mfriends : Fun K "friends" "Company.friends" cFr (He.ma K (He.ga K "Company") "friends") d_mfriends := fun_of D_mfriends
  have b_mfriends : Binds K d_mfriends ["self"] [] := D_mfriends.bindsN fun _ _ _ _ _ _ us hl => match us, hl with | [_], _ => rfl
  have m_mfriends : Meth K (He.ga K "Company") "friends" (He.ma K (He.ga K "Company") "friends") := He.meth_ok (c.fact 57 (f := .meth "Company" "friends") rfl)
  obtain ⟨d_meq, D_meq⟩ := c.def_ 6 (d := d6) rfl
  have F_meq : Fun K "__eq__" "Company.__eq__" cE (He.ma K (He.ga K "Company") "__eq__") d_meq := fun_of D_meq
  have b_meq : Binds K d_meq ["self", "other"] [] := D_meq.bindsN fun _ _ _ _ _ _ us hl => match us, hl with | [_, _], _ => rfl
  have m_meq : Meth K (He.ga K "Company") "__eq__" (He.ma K (He.ga K "Company") "__eq__") := He.meth_ok (c.fact 58 (f := .meth "Company" "__eq__") rfl)
  obtain ⟨d_minit, D_minit⟩ := c.def_ 3 (d := d3) rfl
  have F_minit : Fun K "__init__" "Company.__init__" cI (He.ma K (He.ga K "Company") "__init__") d_minit := fun_of D_minit
  have b_minit : Binds K d_minit ["self", "people", "friends"] [] := D_minit.bindsN fun _ _ _ _ _ _ us hl => match us, hl with | [_, _, _], _ => rfl
  obtain ⟨x1, ce⟩ := He.ba ce
  obtain ⟨x2, ce⟩ := He.ba ce
  obtain ⟨x3, ce⟩ := He.ba ce
  obtain ⟨x4, ce⟩ := He.ba ce
  obtain ⟨x5, ce⟩ := He.ba ce
  obtain ⟨x6, x7⟩ := He.ba ce
  have mCo : mg "combinations" = some (.type Kc.TC) := PySem.W.mg_of X G (He.eqO_ok x1)
  have cls : Cls K (He.ga K "Company") := He.cls_ok (c.fact 53 (f := .cls "Company") rfl)
  have TC : CT K mg (He.ga K "Company") := ⟨He.noat_ok (c.fact 54 (f := .noat "Company" "_people") rfl), He.noat_ok (c.fact 55 (f := .noat "Company" "_friends") rfl), He.glo_ok X G (c.fact 52 (f := .glo "Company") rfl), ⟨cls, He.eqO_ok x2, He.eqO_ok x3, of_decide_eq_true x4, of_decide_eq_true x5, of_decide_eq_true x6⟩⟩
  have mk : Mk K (He.ga K "Company") (He.ma K (He.ga K "Company") "__init__") := He.mkr_ok (c.fact 59 (f := .mkr "Company") rfl)
  have mL := He.int_ok X G (c.fact 60 (f := .int "LONGEST_WORD" 8) rfl)
  have T : Bt mg := ⟨He.free_ok X G (c.fact 61 (f := .free "sum") rfl), He.free_ok X G (c.fact 62 (f := .free "max") rfl), He.free_ok X G (c.fact 63 (f := .free "min") rfl), He.free_ok X G (c.fact 64 (f := .free "int") rfl), He.free_ok X G (c.fact 65 (f := .free "range") rfl), He.free_ok X G (c.fact 66 (f := .free "len") rfl), He.free_ok X G (c.fact 67 (f := .free "sorted") rfl), He.free_ok X G (c.fact 68 (f := .free "list") rfl), He.free_ok X G (c.fact 69 (f := .free "dict") rfl), He.free_ok X G (c.fact 70 (f := .free "set") rfl), He.free_ok X G (c.fact 71 (f := .free "all") rfl), He.free_ok X G (c.fact 72 (f := .free "zip") rfl), He.free_ok X G (c.fact 73 (f := .free "isinstance") rfl), He.free_ok X G (c.fact 74 (f := .free "str") rfl), He.free_ok X G (c.fact 75 (f := .free "tuple") rfl), He.free_ok X G (c.fact 76 (f := .free "bool") rfl)⟩
  have e := hfa.symm.trans g_law
  cases e
  have b := FunD.bindsA (ps := ["_law_script"]) D_law fun _ _ _ _ _ _ us hl => match us, hl with | [_], _ => rfl
  refine ⟨d_law, fun s v => b s [v] rfl, fun base hIn hNs => ?_⟩
  have G_is_word : FnOk P w K mg base CX0 1 (He.ga K "is_word") d_is_word ["value"] spIsWord := ok_is_word F_is_word T mL
  have H_is_word : Has P w K mg base 1 "is_word" ["value"] spIsWord := ⟨_, _, G_is_word, g_is_word, F_is_word.kp, b_is_word⟩
  have G_are_unlike : FnOk P w K mg base CX0 1 (He.ga K "are_unlike") d_are_unlike ["things"] (spUnlike K) := ok_unlike F_are_unlike T
  have H_are_unlike : Has P w K mg base 1 "are_unlike" ["things"] (spUnlike K) := ⟨_, _, G_are_unlike, g_are_unlike, F_are_unlike.kp, b_are_unlike⟩
  have G_is_person : FnOk P w K mg base CX0 2 (He.ga K "is_person") d_is_person ["value"] spIsWord := ok_is_person F_is_person H_is_word
  have H_is_person : Has P w K mg base 2 "is_person" ["value"] spIsWord := ⟨_, _, G_is_person, g_is_person, F_is_person.kp, b_is_person⟩
  have G_are_people : FnOk P w K mg base CX0 3 (He.ga K "are_people") d_are_people ["value"] spArePpl := ok_are_people F_are_people T H_is_person H_are_unlike
  have H_are_people : Has P w K mg base 3 "are_people" ["value"] spArePpl := ⟨_, _, G_are_people, g_are_people, F_are_people.kp, b_are_people⟩
  have G_is_pair_of : FnOk P w K mg base CX0 1 (He.ga K "is_pair_of") d_is_pair_of ["people", "value"] spPairOf := ok_is_pair_of F_is_pair_of T
  have H_is_pair_of : Has P w K mg base 1 "is_pair_of" ["people", "value"] spPairOf := ⟨_, _, G_is_pair_of, g_is_pair_of, F_is_pair_of.kp, b_is_pair_of⟩
  have G_are_pairs_of : FnOk P w K mg base CX0 2 (He.ga K "are_pairs_of") d_are_pairs_of ["people", "value"] spPairsOf := ok_are_pairs_of F_are_pairs_of T H_is_pair_of H_are_unlike
  have H_are_pairs_of : Has P w K mg base 2 "are_pairs_of" ["people", "value"] spPairsOf := ⟨_, _, G_are_pairs_of, g_are_pairs_of, F_are_pairs_of.kp, b_are_pairs_of⟩
  have M_people : HasM P w K mg base (He.ga K "Company") 1 "people" (spPplM (He.ga K "Company")) := ⟨_, _, ok_ppl F_mpeople T TC, m_mpeople, b_mpeople⟩
  have M_friends : HasM P w K mg base (He.ga K "Company") 1 "friends" (spFrM (He.ga K "Company")) := ⟨_, _, ok_frs F_mfriends T TC, m_mfriends, b_mfriends⟩
  have M_eq : HasEq P w K mg base (He.ga K "Company") := ⟨_, _, ok_eq F_meq T TC, m_meq.at_, m_meq.fn, b_meq⟩
  have NE : HasNe P w K mg base (He.ga K "Company") := ⟨_, _, ok_eqB F_meq T TC, m_meq.at_, m_meq.fn, b_meq, He.eqO_ok x7, of_decide_eq_true x5⟩
  have MK : Maker P w K mg base (He.ga K "Company") := ⟨⟨_, _, mk, ok_init F_minit T TC H_are_people H_are_pairs_of, b_minit⟩⟩
  have MKF : MakerF P w K mg base (He.ga K "Company") := ⟨⟨_, _, mk, ok_initF F_minit T TC H_are_people H_are_pairs_of, b_minit⟩⟩
  have G_check_company : FnOk P w K mg base CX0 1 (He.ga K "check_company") d_check_company ["company"] (spChk (He.ga K "Company")) := ok_check F_check_company T TC
  have H_check_company : Has P w K mg base 1 "check_company" ["company"] (spChk (He.ga K "Company")) := ⟨_, _, G_check_company, g_check_company, F_check_company.kp, b_check_company⟩
  have G_all_pairs : FnOk P w K mg base CX0 1 (He.ga K "all_pairs") d_all_pairs ["people"] spAllP := ok_all_pairs F_all_pairs T mCo
  have H_all_pairs : Has P w K mg base 1 "all_pairs" ["people"] spAllP := ⟨_, _, G_all_pairs, g_all_pairs, F_all_pairs.kp, b_all_pairs⟩
  have G_circles : FnOk P w K mg base CX0 2 (He.ga K "circles") d_circles ["company"] (spCirc (He.ga K "Company")) := ok_circles F_circles T TC M_people M_friends
  have H_circles : Has P w K mg base 2 "circles" ["company"] (spCirc (He.ga K "Company")) := ⟨_, _, G_circles, g_circles, F_circles.kp, b_circles⟩
  have G_strangers : FnOk P w K mg base CX0 2 (He.ga K "strangers") d_strangers ["company"] (spStr (He.ga K "Company")) := ok_strangers F_strangers T TC H_check_company H_all_pairs M_people M_friends
  have H_strangers : Has P w K mg base 2 "strangers" ["company"] (spStr (He.ga K "Company")) := ⟨_, _, G_strangers, g_strangers, F_strangers.kp, b_strangers⟩
  have G_friend_numbers : FnOk P w K mg base CX0 3 (He.ga K "friend_numbers") d_friend_numbers ["company"] (spNums (He.ga K "Company")) := ok_friend_numbers F_friend_numbers T TC H_check_company H_circles
  have H_friend_numbers : Has P w K mg base 3 "friend_numbers" ["company"] (spNums (He.ga K "Company")) := ⟨_, _, G_friend_numbers, g_friend_numbers, F_friend_numbers.kp, b_friend_numbers⟩
  have G__law_mixed : FnOk P w K mg base CX0 1 (He.ga K "_law_mixed") d__law_mixed ["_law_seed", "_law_turn", "_law_at"] spMixed := ok_mixed F__law_mixed T
  have H__law_mixed : Has P w K mg base 1 "_law_mixed" ["_law_seed", "_law_turn", "_law_at"] spMixed := ⟨_, _, G__law_mixed, g__law_mixed, F__law_mixed.kp, b__law_mixed⟩
  have G__law_draw : FnOk P w K mg base CX0 2 (He.ga K "_law_draw") d__law_draw ["_law_purse_here", "_law_many"] spDraw := ok_draw F__law_draw T F__law_mixed g__law_mixed b__law_mixed
  have H__law_draw : Has P w K mg base 2 "_law_draw" ["_law_purse_here", "_law_many"] spDraw := ⟨_, _, G__law_draw, g__law_draw, F__law_draw.kp, b__law_draw⟩
  have G__law_purses : FnOk P w K mg base CX0 2 (He.ga K "_law_purses") d__law_purses ["_law_script", "_law_few"] (spPurses K) := ok_purses F__law_purses T F__law_purse g__law_purse b__law_purse
  have H__law_purses : Has P w K mg base 2 "_law_purses" ["_law_script", "_law_few"] (spPurses K) := ⟨_, _, G__law_purses, g__law_purses, F__law_purses.kp, b__law_purses⟩
  have G__law_one_of : FnOk P w K mg base CX0 3 (He.ga K "_law_one_of") d__law_one_of ["_law_purse_here", "_law_some"] spOneOf := ok_oneof F__law_one_of T G__law_draw g__law_draw F__law_draw.kp b__law_draw
  have H__law_one_of : Has P w K mg base 3 "_law_one_of" ["_law_purse_here", "_law_some"] spOneOf := ⟨_, _, G__law_one_of, g__law_one_of, F__law_one_of.kp, b__law_one_of⟩
  have G__law_word : FnOk P w K mg base CX0 3 (He.ga K "_law_word") d__law_word ["_law_purse_here"] spWord := ok_word F__law_word T G__law_draw g__law_draw F__law_draw.kp b__law_draw
  have H__law_word : Has P w K mg base 3 "_law_word" ["_law_purse_here"] spWord := ⟨_, _, G__law_word, g__law_word, F__law_word.kp, b__law_word⟩
  have G__law_shuffled : FnOk P w K mg base CX0 3 (He.ga K "_law_shuffled") d__law_shuffled ["_law_purse_here", "_law_some"] spShuffled := ok_shuffled F__law_shuffled T H__law_draw
  have H__law_shuffled : Has P w K mg base 3 "_law_shuffled" ["_law_purse_here", "_law_some"] spShuffled := ⟨_, _, G__law_shuffled, g__law_shuffled, F__law_shuffled.kp, b__law_shuffled⟩
  have G__law_words : FnOk P w K mg base CX0 4 (He.ga K "_law_words") d__law_words ["_law_purse_here", "_law_many"] spWords := ok_words F__law_words T H__law_draw H__law_word
  have H__law_words : Has P w K mg base 4 "_law_words" ["_law_purse_here", "_law_many"] spWords := ⟨_, _, G__law_words, g__law_words, F__law_words.kp, b__law_words⟩
  have G__law_people : FnOk P w K mg base CX0 5 (He.ga K "_law_people") d__law_people ["_law_purse_here", "_law_many"] spPeople := ok_people F__law_people T H__law_draw H__law_words H__law_shuffled
  have H__law_people : Has P w K mg base 5 "_law_people" ["_law_purse_here", "_law_many"] spPeople := ⟨_, _, G__law_people, g__law_people, F__law_people.kp, b__law_people⟩
  have G__law_pair : FnOk P w K mg base CX0 1 (He.ga K "_law_pair") d__law_pair ["_law_first", "_law_second"] spPair := ok_pair F__law_pair
  have H__law_pair : Has P w K mg base 1 "_law_pair" ["_law_first", "_law_second"] spPair := ⟨_, _, G__law_pair, g__law_pair, F__law_pair.kp, b__law_pair⟩
  have G__law_pairs : FnOk P w K mg base CX0 1 (He.ga K "_law_pairs") d__law_pairs ["_law_crowd"] spPairs := ok_pairs F__law_pairs T
  have H__law_pairs : Has P w K mg base 1 "_law_pairs" ["_law_crowd"] spPairs := ⟨_, _, G__law_pairs, g__law_pairs, F__law_pairs.kp, b__law_pairs⟩
  have G__law_net : FnOk P w K mg base CX0 1 (He.ga K "_law_net") d__law_net ["_law_world_here"] spNet := ok_net F__law_net T
  have H__law_net : Has P w K mg base 1 "_law_net" ["_law_world_here"] spNet := ⟨_, _, G__law_net, g__law_net, F__law_net.kp, b__law_net⟩
  have G__law_deed : FnOk P w K mg base CX0 1 (He.ga K "_law_deed") d__law_deed ["_law_world_here", "_law_pair_here"] spDeed := ok_deed F__law_deed T
  have H__law_deed : Has P w K mg base 1 "_law_deed" ["_law_world_here", "_law_pair_here"] spDeed := ⟨_, _, G__law_deed, g__law_deed, F__law_deed.kp, b__law_deed⟩
  have G__law_opposite : FnOk P w K mg base CX0 2 (He.ga K "_law_opposite") d__law_opposite ["_law_world_here"] spOpp := ok_opp F__law_opposite T H__law_net H__law_pairs
  have H__law_opposite : Has P w K mg base 2 "_law_opposite" ["_law_world_here"] spOpp := ⟨_, _, G__law_opposite, g__law_opposite, F__law_opposite.kp, b__law_opposite⟩
  have G__law_by_density : FnOk P w K mg base CX0 3 (He.ga K "_law_by_density") d__law_by_density ["_law_purse_here", "_law_crowd"] (spMade 110) := ok_density F__law_by_density T H__law_draw H__law_pairs
  have H__law_by_density : Has P w K mg base 3 "_law_by_density" ["_law_purse_here", "_law_crowd"] (spMade 110) := ⟨_, _, G__law_by_density, g__law_by_density, F__law_by_density.kp, b__law_by_density⟩
  have G__law_by_labels : FnOk P w K mg base CX0 3 (He.ga K "_law_by_labels") d__law_by_labels ["_law_purse_here", "_law_crowd"] (spMade 110) := ok_labels F__law_by_labels T H__law_draw H__law_pairs
  have H__law_by_labels : Has P w K mg base 3 "_law_by_labels" ["_law_purse_here", "_law_crowd"] (spMade 110) := ⟨_, _, G__law_by_labels, g__law_by_labels, F__law_by_labels.kp, b__law_by_labels⟩
  have G__law_shaped : FnOk P w K mg base CX0 4 (He.ga K "_law_shaped") d__law_shaped ["_law_purse_here", "_law_crowd"] (spMade 110) := ok_shaped F__law_shaped T H__law_draw H__law_pairs H__law_pair H__law_shuffled
  have H__law_shaped : Has P w K mg base 4 "_law_shaped" ["_law_purse_here", "_law_crowd"] (spMade 110) := ⟨_, _, G__law_shaped, g__law_shaped, F__law_shaped.kp, b__law_shaped⟩
  have G__law_world : FnOk P w K mg base CX0 6 (He.ga K "_law_world") d__law_world ["_law_purse_here", "_law_many"] spWorld := ok_world F__law_world T H__law_draw H__law_pairs H__law_one_of H__law_people H__law_by_labels H__law_by_density H__law_shaped H__law_opposite H__law_deed
  have H__law_world : Has P w K mg base 6 "_law_world" ["_law_purse_here", "_law_many"] spWorld := ⟨_, _, G__law_world, g__law_world, F__law_world.kp, b__law_world⟩
  have G__law_company : FnOk P w K mg base CX0 6 (He.ga K "_law_company") d__law_company ["_law_world_here"] (spComp (He.ga K "Company")) := ok_company F__law_company T TC MK
  have H__law_company : Has P w K mg base 6 "_law_company" ["_law_world_here"] (spComp (He.ga K "Company")) := ⟨_, _, G__law_company, g__law_company, F__law_company.kp, b__law_company⟩
  have G__law_exact : FnOk P w K mg base CX0 4 (He.ga K "_law_exact") d__law_exact ["_law_mine", "_law_theirs"] (spExact 3) := ok_exact F__law_exact T g__law_exact b__law_exact 3
  have H__law_exact : Has P w K mg base 4 "_law_exact" ["_law_mine", "_law_theirs"] (spExact 3) := ⟨_, _, G__law_exact, g__law_exact, F__law_exact.kp, b__law_exact⟩
  have G_pair_of : FnOk P w K mg base CX0 1 (He.ga K "pair_of") d_pair_of ["one", "other"] spPair := ok_ppair_of F_pair_of
  have H_pair_of : Has P w K mg base 1 "pair_of" ["one", "other"] spPair := ⟨_, _, G_pair_of, g_pair_of, F_pair_of.kp, b_pair_of⟩
  have G_is_pair_of2 : FnOk P w K mg base CX0 1 (He.ga K "is_pair_of") d_is_pair_of ["people", "value"] spPairOfB := ok_pair_ofB F_is_pair_of T
  have H_is_pair_of2 : Has P w K mg base 1 "is_pair_of" ["people", "value"] spPairOfB := ⟨_, _, G_is_pair_of2, g_is_pair_of, F_is_pair_of.kp, b_is_pair_of⟩
  have G_are_people_of : FnOk P w K mg base CX0 4 (He.ga K "are_people_of") d_are_people_of ["people", "value"] spPplOf := ok_ppl_of F_are_people_of T H_are_people
  have H_are_people_of : Has P w K mg base 4 "are_people_of" ["people", "value"] spPplOf := ⟨_, _, G_are_people_of, g_are_people_of, F_are_people_of.kp, b_are_people_of⟩
  have G_kept_among : FnOk P w K mg base CX0 6 (He.ga K "kept_among") d_kept_among ["company", "people"] (spKeptF (He.ga K "Company")) := ok_keptF F_kept_among TC MKF M_friends H_is_pair_of2
  have H_kept_among : Has P w K mg base 6 "kept_among" ["company", "people"] (spKeptF (He.ga K "Company")) := ⟨_, _, G_kept_among, g_kept_among, F_kept_among.kp, b_kept_among⟩
  have G_kept_among2 : FnOk P w K mg base CX0 6 (He.ga K "kept_among") d_kept_among ["company", "people"] (spKept (He.ga K "Company")) := ok_kept F_kept_among TC MK M_friends H_is_pair_of2
  have H_kept_among2 : Has P w K mg base 6 "kept_among" ["company", "people"] (spKept (He.ga K "Company")) := ⟨_, _, G_kept_among2, g_kept_among, F_kept_among.kp, b_kept_among⟩
  have G_opposite : FnOk P w K mg base CX0 6 (He.ga K "opposite") d_opposite ["company"] (spOppC (He.ga K "Company")) := ok_opposite F_opposite TC MK M_people H_check_company H_strangers
  have H_opposite : Has P w K mg base 6 "opposite" ["company"] (spOppC (He.ga K "Company")) := ⟨_, _, G_opposite, g_opposite, F_opposite.kp, b_opposite⟩
  have G_cone : FnOk P w K mg base CX0 6 (He.ga K "cone") d_cone ["company", "person"] (spCone (He.ga K "Company")) := ok_cone F_cone TC MK M_people M_friends H_check_company H_is_person H_pair_of
  have H_cone : Has P w K mg base 6 "cone" ["company", "person"] (spCone (He.ga K "Company")) := ⟨_, _, G_cone, g_cone, F_cone.kp, b_cone⟩
  have G_side_by_side : FnOk P w K mg base CX0 6 (He.ga K "side_by_side") d_side_by_side ["one", "other"] (spSide (He.ga K "Company")) := ok_side F_side_by_side TC MK M_people M_friends H_check_company
  have H_side_by_side : Has P w K mg base 6 "side_by_side" ["one", "other"] (spSide (He.ga K "Company")) := ⟨_, _, G_side_by_side, g_side_by_side, F_side_by_side.kp, b_side_by_side⟩
  have G_cut_to : FnOk P w K mg base CX0 7 (He.ga K "cut_to") d_cut_to ["company", "people"] (spCutF (He.ga K "Company")) := ok_cut_toF F_cut_to TC M_people H_check_company H_are_people_of H_kept_among
  have H_cut_to : Has P w K mg base 7 "cut_to" ["company", "people"] (spCutF (He.ga K "Company")) := ⟨_, _, G_cut_to, g_cut_to, F_cut_to.kp, b_cut_to⟩
  have G_cut_to2 : FnOk P w K mg base CX0 7 (He.ga K "cut_to") d_cut_to ["company", "people"] (spCut (He.ga K "Company")) := ok_cut_to F_cut_to TC M_people H_check_company H_are_people_of H_kept_among2
  have H_cut_to2 : Has P w K mg base 7 "cut_to" ["company", "people"] (spCut (He.ga K "Company")) := ⟨_, _, G_cut_to2, g_cut_to, F_cut_to.kp, b_cut_to⟩
  have G_are_names : FnOk P w K mg base CX0 4 (He.ga K "are_names") d_are_names ["people", "value"] spAreNm := ok_are_names F_are_names T H_are_people
  have H_are_names : Has P w K mg base 4 "are_names" ["people", "value"] spAreNm := ⟨_, _, G_are_names, g_are_names, F_are_names.kp, b_are_names⟩
  have G_renamed : FnOk P w K mg base CX0 6 (He.ga K "renamed") d_renamed ["company", "names"] (spRen (He.ga K "Company")) := ok_renamed F_renamed T TC MK M_people M_friends H_check_company H_are_names H_pair_of
  have H_renamed : Has P w K mg base 6 "renamed" ["company", "names"] (spRen (He.ga K "Company")) := ⟨_, _, G_renamed, g_renamed, F_renamed.kp, b_renamed⟩
  have G__law_exact4 : FnOk P w K mg base CX0 5 (He.ga K "_law_exact") d__law_exact ["_law_mine", "_law_theirs"] (spExact 4) := ok_exact F__law_exact T g__law_exact b__law_exact 4
  have H__law_exact4 : Has P w K mg base 5 "_law_exact" ["_law_mine", "_law_theirs"] (spExact 4) := ⟨_, _, G__law_exact4, g__law_exact, F__law_exact.kp, b__law_exact⟩
  have G__law_lists : FnOk P w K mg base CX0 2 (He.ga K "_law_lists") d__law_lists ["_law_company_here"] (spLsts (He.ga K "Company")) := ok_lists F__law_lists TC M_people M_friends
  have H__law_lists : Has P w K mg base 2 "_law_lists" ["_law_company_here"] (spLsts (He.ga K "Company")) := ⟨_, _, G__law_lists, g__law_lists, F__law_lists.kp, b__law_lists⟩
  have G__law_cone : FnOk P w K mg base CX0 2 (He.ga K "_law_cone") d__law_cone ["_law_world_here", "_law_person"] spConeL := ok_coneL F__law_cone T H__law_pair
  have H__law_cone : Has P w K mg base 2 "_law_cone" ["_law_world_here", "_law_person"] spConeL := ⟨_, _, G__law_cone, g__law_cone, F__law_cone.kp, b__law_cone⟩
  have G__law_cut : FnOk P w K mg base CX0 2 (He.ga K "_law_cut") d__law_cut ["_law_world_here", "_law_crowd"] spCutLF := ok_cutLF F__law_cut T
  have H__law_cut : Has P w K mg base 2 "_law_cut" ["_law_world_here", "_law_crowd"] spCutLF := ⟨_, _, G__law_cut, g__law_cut, F__law_cut.kp, b__law_cut⟩
  have G__law_renamed : FnOk P w K mg base CX0 2 (He.ga K "_law_renamed") d__law_renamed ["_law_world_here", "_law_names_here"] spRenL := ok_renL F__law_renamed T H__law_pair
  have H__law_renamed : Has P w K mg base 2 "_law_renamed" ["_law_world_here", "_law_names_here"] spRenL := ⟨_, _, G__law_renamed, g__law_renamed, F__law_renamed.kp, b__law_renamed⟩
  have G__law_names : FnOk P w K mg base CX0 4 (He.ga K "_law_names") d__law_names ["_law_purse_here", "_law_crowd"] spNms := ok_names F__law_names T H__law_draw H__law_shuffled
  have H__law_names : Has P w K mg base 4 "_law_names" ["_law_purse_here", "_law_crowd"] spNms := ⟨_, _, G__law_names, g__law_names, F__law_names.kp, b__law_names⟩
  have G__law_beside : FnOk P w K mg base CX0 3 (He.ga K "_law_beside") d__law_beside ["_law_purse_here", "_law_world_here"] spBes := ok_beside F__law_beside T H__law_draw H__law_pairs
  have H__law_beside : Has P w K mg base 3 "_law_beside" ["_law_purse_here", "_law_world_here"] spBes := ⟨_, _, G__law_beside, g__law_beside, F__law_beside.kp, b__law_beside⟩
  have G__law_opposite_right : FnOk P w K mg base CX0 7 (He.ga K "_law_opposite_right") d__law_opposite_right ["_law_company_here", "_law_world_here"] (spOR (He.ga K "Company")) := ok_oppR F__law_opposite_right T ⟨_, _, G_opposite, g_opposite, F_opposite.kp, b_opposite, KxK.kb_one D_opposite rfl fun _ _ _ _ _ _ _ => rfl⟩ NE H__law_exact H__law_lists H__law_opposite H_friend_numbers
  have H__law_opposite_right : Has P w K mg base 7 "_law_opposite_right" ["_law_company_here", "_law_world_here"] (spOR (He.ga K "Company")) := ⟨_, _, G__law_opposite_right, g__law_opposite_right, F__law_opposite_right.kp, b__law_opposite_right⟩
  have G__law_cone_right : FnOk P w K mg base CX0 8 (He.ga K "_law_cone_right") d__law_cone_right ["_law_company_here", "_law_world_here"] (spCR (He.ga K "Company")) := ok_coneR F__law_cone_right T TC MK NE ⟨_, _, G_cone, g_cone, F_cone.kp, b_cone, KxK.kb_swap D_cone rfl fun _ _ _ _ _ _ _ _ => rfl⟩ H__law_exact H__law_lists H__law_cone H_cut_to2 H_opposite H_side_by_side
  have H__law_cone_right : Has P w K mg base 8 "_law_cone_right" ["_law_company_here", "_law_world_here"] (spCR (He.ga K "Company")) := ⟨_, _, G__law_cone_right, g__law_cone_right, F__law_cone_right.kp, b__law_cone_right⟩
  have G__law_side_right : FnOk P w K mg base CX0 8 (He.ga K "_law_side_right") d__law_side_right ["_law_purse_here", "_law_company_here", "_law_world_here"] (spSR (He.ga K "Company")) := ok_sideR F__law_side_right T TC NE M_friends ⟨_, _, G_side_by_side, g_side_by_side, F_side_by_side.kp, b_side_by_side, KxK.kb_swap D_side_by_side rfl fun _ _ _ _ _ _ _ _ => rfl⟩ H__law_exact H__law_exact4 H__law_lists H__law_cone H_cut_to2 H_opposite H_cone H__law_beside H__law_company H__law_pair H__law_opposite
  have H__law_side_right : Has P w K mg base 8 "_law_side_right" ["_law_purse_here", "_law_company_here", "_law_world_here"] (spSR (He.ga K "Company")) := ⟨_, _, G__law_side_right, g__law_side_right, F__law_side_right.kp, b__law_side_right⟩
  have G__law_renamed_right : FnOk P w K mg base CX0 7 (He.ga K "_law_renamed_right") d__law_renamed_right ["_law_purse_here", "_law_company_here", "_law_world_here"] (spRR (He.ga K "Company")) := ok_renR F__law_renamed_right T NE ⟨_, _, G_renamed, g_renamed, F_renamed.kp, b_renamed, KxK.kb_swap D_renamed rfl fun _ _ _ _ _ _ _ _ => rfl⟩ H__law_exact H__law_lists H__law_renamed H_opposite H__law_names H__law_shuffled
  have H__law_renamed_right : Has P w K mg base 7 "_law_renamed_right" ["_law_purse_here", "_law_company_here", "_law_world_here"] (spRR (He.ga K "Company")) := ⟨_, _, G__law_renamed_right, g__law_renamed_right, F__law_renamed_right.kp, b__law_renamed_right⟩
  have G__law_cut_right : FnOk P w K mg base CX0 8 (He.ga K "_law_cut_right") d__law_cut_right ["_law_purse_here", "_law_company_here", "_law_world_here"] (spCutR (He.ga K "Company")) := ok_cutR F__law_cut_right T TC MK NE ⟨_, _, G_cut_to, g_cut_to, F_cut_to.kp, b_cut_to, KxK.kb_swap D_cut_to rfl fun _ _ _ _ _ _ _ _ => rfl⟩ H__law_exact H__law_lists H__law_cut H_opposite H__law_shuffled H__law_draw
  have H__law_cut_right : Has P w K mg base 8 "_law_cut_right" ["_law_purse_here", "_law_company_here", "_law_world_here"] (spCutR (He.ga K "Company")) := ⟨_, _, G__law_cut_right, g__law_cut_right, F__law_cut_right.kp, b__law_cut_right⟩
  exact ok_law F_law H__law_purses H__law_world H__law_draw H__law_company H__law_opposite_right H__law_cone_right H__law_side_right H__law_renamed_right H__law_cut_right H__law_exact H__law_lists
end Wd
end
section
set_option maxRecDepth 100000
set_option maxHeartbeats 0
namespace Wd
open PySem PySem.Spec PySem.W PySem.Calls PyProof.Rows L2
theorem run (w : World) : HandSHeadRun.RunEqI RR (PySem.W.view RR.prog [0, lawAt]) hk ob 8000 nmA w := by
  unfold HandSHeadRun.RunEqI
  kernel_rfl
end Wd
end
section
set_option maxRecDepth 100000
set_option maxHeartbeats 0
open PySem PySem.W PySem.Calls PyProof.Rows
theorem PySem.Challenge.cw_evenfriends_k05_whole_opposite_cone_side_holds : PySem.Challenge.rw_evenfriends_k05_whole_opposite_cone_side.Holds := by
  w_on; o_law
  refine HandSHeadRun.head_imp (r := OpenLaw.row PySem.Challenge.rw_evenfriends_k05_whole_opposite_cone_side) (q := view (OpenLaw.row PySem.Challenge.rw_evenfriends_k05_whole_opposite_cone_side).prog [0, Wd.lawAt]) (H := Wd.hk) (ob := Wd.ob) (M := 8000) (loose := Wd.nmA) (d := HandSHeadRun.topDef (OpenLaw.row PySem.Challenge.rw_evenfriends_k05_whole_opposite_cone_side).prog Wd.lawAt) (kwd := []) Wd.ob_eq Wd.run
    (by kernel_rfl) (by kernel_rfl) (by kernel_rfl) (by rfl) (by first | assumption | decide +kernel) (by decide +kernel) ⟨rfl, rfl, rfl, rfl, rfl, by decide +kernel⟩ ?hw ?hc
  case hw => w_witness2
  case hc =>
    refine L2.walk_ofE (l := PySem.Challenge.rw_evenfriends_k05_whole_opposite_cone_side) (n := 63) (k := 9) (x := "_law_script") (CX := L2.CX0) rfl (by decide) (by kernel_rfl) ⟨rfl, by decide, by decide⟩ ?F (fun _ _ _ _ z => z)
    intro w mg fa h Y G hmg0
    obtain ⟨K, KX, c, ce⟩ := Y
    have hmg : mg ("law" : PySem.Str) = some (.ref fa) := by
      have e : (HandSHeadRun.topDef (OpenLaw.row PySem.Challenge.rw_evenfriends_k05_whole_opposite_cone_side).prog Wd.lawAt).name = ("law" : PySem.Str) := by kernel_rfl
      rw [← e]
      exact hmg0
    obtain ⟨fd, hb, hF⟩ := Wd.facts (P := (PySem.Challenge.rw_evenfriends_k05_whole_opposite_cone_side).prog) (w := w) KX G hmg c ce
    exact ⟨K, fd, Wd.spLaw K, KX, hb, fun H a ns hl _ hS => ⟨a, ns, rfl, hS, hl, fun _ => rfl⟩, hF⟩
end
