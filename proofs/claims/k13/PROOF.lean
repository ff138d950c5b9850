import PyProof.Rows.All
import Wide.All
import OpenK.AllK
import Wide.FinOn
import HandS.ForMost
import HandS.Wide
import HandS.WideBits
import HandS.More
import PyProof.ListStr
import HandS.Codes
import HandS.Keys
import KE.KDictPairs
import KE.SortData
import HandS.Set
import HandS.SetFor
import HandS.TupSets
import HandS.Strs
import HandS.Conv
import HandS.Walk
import HandS.IsInst
import HandS.Deep
import HandS.OwnEq
import HandS.DictComp
import PyProof.ZipIter
import PyProof.CallType
import PyProof.Walk
import PyProof.WalkLemmas
import PyProof.RangeIter
import PyProof.RulesTry
import PyProof.CollectWalk
import KE.KStateDown
import HandS.WordsExc
import HandS.Defaults
import HandS.Head0
import HandS.Head1
import HandS.Head2
import HandS.Head3
import HandS.HeadEnd
import HandS.HeadHook1
import HandS.HeadHook2
import HandS.Style
import HandS.Zip
import HandS.FStr
import HandS.StrMore
import PyProof.FString3
import PyProof.Rows.StrIntSpec
import PyProof.Rows.BitMore
import KE.KxField
import HandS.WordsDict
import HandS.TupAny
import PyProof.AutoIntG2
import KE.KSortTup
import KE.DataCmp
import HandS.Small
import PySem.Challenge.RW_evenfriends_k13_whole_pairs_that_are_let
set_option Elab.async false
set_option linter.all false
section
set_option maxRecDepth 100000
set_option maxHeartbeats 4000000
namespace Wd
open PySem L2
def top (i : Nat) : Stmt := PySem.Challenge.pw_evenfriends_k13_whole_pairs_that_are_let.main.body.getD i (.Pass ⟨0, 0, 0, 0⟩)
abbrev cl_FriendError : Stmt := top 2
abbrev cl_InvalidPeople : Stmt := top 3
-- InvalidPeople.__init__: ['self', 'value']
abbrev cl_InvalidPair : Stmt := top 4
-- InvalidPair.__init__: ['self', 'value']
abbrev cl_InvalidPairs : Stmt := top 5
-- InvalidPairs.__init__: ['self', 'value']
abbrev cl_InvalidCompany : Stmt := top 6
-- InvalidCompany.__init__: ['self', 'value']
abbrev cl_InvalidManner : Stmt := top 7
-- InvalidManner.__init__: ['self', 'value']
abbrev sp_is_word : Stmt := top 10
theorem cp_is_word : FnScope ["value", "letter"] ["value"] (defScope sp_is_word) := ⟨rfl, rfl, rfl, by decide +kernel, rfl, by decide +kernel, by decide +kernel⟩
abbrev sp_is_count : Stmt := top 11
theorem cp_is_count : FnScope ["value"] ["value"] (defScope sp_is_count) := ⟨rfl, rfl, rfl, by decide +kernel, rfl, by decide +kernel, by decide +kernel⟩
abbrev sp_are_unlike : Stmt := top 12
theorem cp_are_unlike : FnScope ["things"] ["things"] (defScope sp_are_unlike) := ⟨rfl, rfl, rfl, by decide +kernel, rfl, by decide +kernel, by decide +kernel⟩
abbrev sp_is_ascending : Stmt := top 13
theorem cp_is_ascending : FnScope ["things", "one", "other"] ["things"] (defScope sp_is_ascending) := ⟨rfl, rfl, rfl, by decide +kernel, rfl, by decide +kernel, by decide +kernel⟩
abbrev sp_are_numbers_below : Stmt := top 14
theorem cp_are_numbers_below : FnScope ["value", "end", "number"] ["value", "end"] (defScope sp_are_numbers_below) := ⟨rfl, rfl, rfl, by decide +kernel, rfl, by decide +kernel, by decide +kernel⟩
abbrev sp_is_person : Stmt := top 16
theorem cp_is_person : FnScope ["value"] ["value"] (defScope sp_is_person) := ⟨rfl, rfl, rfl, by decide +kernel, rfl, by decide +kernel, by decide +kernel⟩
abbrev cl_Company : Stmt := top 17
-- Company.__init__: ['self', 'people', 'friends']
-- Company.people: ['self']
-- Company.friends: ['self']
-- Company.__eq__: ['self', 'other']
abbrev sp_are_people : Stmt := top 18
theorem cp_are_people : FnScope ["value", "person"] ["value"] (defScope sp_are_people) := ⟨rfl, rfl, rfl, by decide +kernel, rfl, by decide +kernel, by decide +kernel⟩
abbrev sp_is_pair_of : Stmt := top 19
theorem cp_is_pair_of : FnScope ["people", "value"] ["people", "value"] (defScope sp_is_pair_of) := ⟨rfl, rfl, rfl, by decide +kernel, rfl, by decide +kernel, by decide +kernel⟩
abbrev sp_are_pairs_of : Stmt := top 20
theorem cp_are_pairs_of : FnScope ["people", "value", "pair"] ["people", "value"] (defScope sp_are_pairs_of) := ⟨rfl, rfl, rfl, by decide +kernel, rfl, by decide +kernel, by decide +kernel⟩
abbrev sp_check_company : Stmt := top 21
theorem cp_check_company : FnScope ["company"] ["company"] (defScope sp_check_company) := ⟨rfl, rfl, rfl, by decide +kernel, rfl, by decide +kernel, by decide +kernel⟩
abbrev sp_check_pair_of : Stmt := top 22
theorem cp_check_pair_of : FnScope ["company", "pair"] ["company", "pair"] (defScope sp_check_pair_of) := ⟨rfl, rfl, rfl, by decide +kernel, rfl, by decide +kernel, by decide +kernel⟩
abbrev sp_pair_of : Stmt := top 23
theorem cp_pair_of : FnScope ["one", "other"] ["one", "other"] (defScope sp_pair_of) := ⟨rfl, rfl, rfl, by decide +kernel, rfl, by decide +kernel, by decide +kernel⟩
abbrev sp_rows_of : Stmt := top 25
theorem cp_rows_of : FnScope ["company", "at", "person", "places", "rows", "one", "other"] ["company"] (defScope sp_rows_of) := ⟨rfl, rfl, rfl, by decide +kernel, rfl, by decide +kernel, by decide +kernel⟩
abbrev sp_pairs_in : Stmt := top 26
theorem cp_pairs_in : FnScope ["rows"] ["rows"] (defScope sp_pairs_in) := ⟨rfl, rfl, rfl, by decide +kernel, rfl, by decide +kernel, by decide +kernel⟩
abbrev sp_ones : Stmt := top 27
theorem cp_ones : FnScope ["bits", "text"] ["bits"] (defScope sp_ones) := ⟨rfl, rfl, rfl, by decide +kernel, rfl, by decide +kernel, by decide +kernel⟩
abbrev sp_members : Stmt := top 28
theorem cp_members : FnScope ["bits", "at"] ["bits"] (defScope sp_members) := ⟨rfl, rfl, rfl, by decide +kernel, rfl, by decide +kernel, by decide +kernel⟩
abbrev sp_counted_bits : Stmt := top 29
theorem cp_counted_bits : FnScope ["rows", "kinds", "pair", "one", "other", "first", "second", "found", "third"] ["rows", "kinds", "pair"] (defScope sp_counted_bits) := ⟨rfl, rfl, rfl, by decide +kernel, rfl, by decide +kernel, by decide +kernel⟩
abbrev sp_lets : Stmt := top 30
theorem cp_lets : FnScope ["rows", "manner", "pair", "kinds", "word"] ["rows", "manner", "pair"] (defScope sp_lets) := ⟨rfl, rfl, rfl, by decide +kernel, rfl, by decide +kernel, by decide +kernel⟩
abbrev sp_let_in : Stmt := top 31
theorem cp_let_in : FnScope ["rows", "manner", "pair"] ["rows", "manner"] (defScope sp_let_in) := ⟨rfl, rfl, rfl, by decide +kernel, rfl, by decide +kernel, by decide +kernel⟩
abbrev sp_turn : Stmt := top 32
theorem cp_turn : FnScope ["rows", "deed", "one", "other"] ["rows", "deed"] (defScope sp_turn) := ⟨rfl, rfl, rfl, by decide +kernel, rfl, by decide +kernel, by decide +kernel⟩
abbrev sp_road_of : Stmt := top 33
theorem cp_road_of : FnScope ["people", "deeds", "one", "other"] ["people", "deeds"] (defScope sp_road_of) := ⟨rfl, rfl, rfl, by decide +kernel, rfl, by decide +kernel, by decide +kernel⟩
abbrev sp_deeds_of : Stmt := top 34
theorem cp_deeds_of : FnScope ["people", "road", "at", "person", "places", "one", "other"] ["people", "road"] (defScope sp_deeds_of) := ⟨rfl, rfl, rfl, by decide +kernel, rfl, by decide +kernel, by decide +kernel⟩
abbrev sp_is_manner : Stmt := top 38
theorem cp_is_manner : FnScope ["value"] ["value"] (defScope sp_is_manner) := ⟨rfl, rfl, rfl, by decide +kernel, rfl, by decide +kernel, by decide +kernel⟩
abbrev sp_check_manner : Stmt := top 39
theorem cp_check_manner : FnScope ["manner"] ["manner"] (defScope sp_check_manner) := ⟨rfl, rfl, rfl, by decide +kernel, rfl, by decide +kernel, by decide +kernel⟩
abbrev sp_subsets : Stmt := top 40
theorem cp_subsets : FnScope ["end", "size", "lot"] ["end"] (defScope sp_subsets) := ⟨rfl, rfl, rfl, by decide +kernel, rfl, by decide +kernel, by decide +kernel⟩
abbrev sp_all_manners : Stmt := top 41
theorem cp_all_manners : FnScope ["kinds", "word"] [] (defScope sp_all_manners) := ⟨rfl, rfl, rfl, by decide +kernel, rfl, by decide +kernel, by decide +kernel⟩
abbrev sp_pairs_let : Stmt := top 42
theorem cp_pairs_let : FnScope ["company", "manner"] ["company", "manner"] (defScope sp_pairs_let) := ⟨rfl, rfl, rfl, by decide +kernel, rfl, by decide +kernel, by decide +kernel⟩
abbrev sp_is_pair_let : Stmt := top 43
theorem cp_is_pair_let : FnScope ["company", "manner", "pair", "deeds"] ["company", "manner", "pair"] (defScope sp_is_pair_let) := ⟨rfl, rfl, rfl, by decide +kernel, rfl, by decide +kernel, by decide +kernel⟩
abbrev sp_counted_people : Stmt := top 44
theorem cp_counted_people : FnScope ["company", "manner", "pair", "people", "deeds", "at"] ["company", "manner", "pair"] (defScope sp_counted_people) := ⟨rfl, rfl, rfl, by decide +kernel, rfl, by decide +kernel, by decide +kernel⟩
abbrev sp_is_let : Stmt := top 45
theorem cp_is_let : FnScope ["company", "manner", "pair"] ["company", "manner", "pair"] (defScope sp_is_let) := ⟨rfl, rfl, rfl, by decide +kernel, rfl, by decide +kernel, by decide +kernel⟩
abbrev sp_let_pairs : Stmt := top 46
theorem cp_let_pairs : FnScope ["company", "manner"] ["company", "manner"] (defScope sp_let_pairs) := ⟨rfl, rfl, rfl, by decide +kernel, rfl, by decide +kernel, by decide +kernel⟩
abbrev sp_are_ascending_pairs : Stmt := top 47
theorem cp_are_ascending_pairs : FnScope ["company", "value", "people", "pair"] ["company", "value"] (defScope sp_are_ascending_pairs) := ⟨rfl, rfl, rfl, by decide +kernel, rfl, by decide +kernel, by decide +kernel⟩
abbrev sp_manners_letting : Stmt := top 48
theorem cp_manners_letting : FnScope ["company", "pairs", "manner"] ["company", "pairs"] (defScope sp_manners_letting) := ⟨rfl, rfl, rfl, by decide +kernel, rfl, by decide +kernel, by decide +kernel⟩
abbrev sp_let_number : Stmt := top 49
theorem cp_let_number : FnScope ["company", "manner"] ["company", "manner"] (defScope sp_let_number) := ⟨rfl, rfl, rfl, by decide +kernel, rfl, by decide +kernel, by decide +kernel⟩
abbrev s_purse : Stmt := top 51
theorem c_purse : FnScope ["_law_script", "_law_at_here", "_law_seed"] ["_law_script", "_law_at_here"] (defScope s_purse) := ⟨rfl, rfl, rfl, by decide +kernel, rfl, by decide +kernel, by decide +kernel⟩
abbrev s_mixed : Stmt := top 52
theorem c_mixed : FnScope ["_law_seed", "_law_turn", "_law_at_here", "_law_mixed_here"] ["_law_seed", "_law_turn", "_law_at_here"] (defScope s_mixed) := ⟨rfl, rfl, rfl, by decide +kernel, rfl, by decide +kernel, by decide +kernel⟩
abbrev s_draw : Stmt := top 53
theorem c_draw : FnScope ["_law_purse_here", "_law_many", "_law_drawn", "_law_found", "_law_piece"] ["_law_purse_here", "_law_many"] (defScope s_draw) := ⟨rfl, rfl, rfl, by decide +kernel, rfl, by decide +kernel, by decide +kernel⟩
abbrev s_purses : Stmt := top 54
theorem c_purses : FnScope ["_law_script", "_law_few", "_law_at_here"] ["_law_script", "_law_few"] (defScope s_purses) := ⟨rfl, rfl, rfl, by decide +kernel, rfl, by decide +kernel, by decide +kernel⟩
abbrev s_one_of : Stmt := top 55
theorem c_one_of : FnScope ["_law_purse_here", "_law_some"] ["_law_purse_here", "_law_some"] (defScope s_one_of) := ⟨rfl, rfl, rfl, by decide +kernel, rfl, by decide +kernel, by decide +kernel⟩
abbrev s_shuffled : Stmt := top 56
theorem c_shuffled : FnScope ["_law_purse_here", "_law_some", "_law_found", "_law_item"] ["_law_purse_here", "_law_some"] (defScope s_shuffled) := ⟨rfl, rfl, rfl, by decide +kernel, rfl, by decide +kernel, by decide +kernel⟩
abbrev s_exact : Stmt := top 57
theorem c_exact : FnScope ["_law_mine", "_law_theirs", "_law_alike", "_law_a", "_law_b", "_law_key"] ["_law_mine", "_law_theirs"] (defScope s_exact) := ⟨rfl, rfl, rfl, by decide +kernel, rfl, by decide +kernel, by decide +kernel⟩
abbrev s_word : Stmt := top 58
theorem c_word : FnScope ["_law_purse_here", "_law_size", "_law_turn"] ["_law_purse_here"] (defScope s_word) := ⟨rfl, rfl, rfl, by decide +kernel, rfl, by decide +kernel, by decide +kernel⟩
abbrev s_words : Stmt := top 59
theorem c_words : FnScope ["_law_purse_here", "_law_many", "_law_base", "_law_near", "_law_spot", "_law_found", "_law_turn", "_law_word_here", "_law_letter"] ["_law_purse_here", "_law_many"] (defScope s_words) := ⟨rfl, rfl, rfl, by decide +kernel, rfl, by decide +kernel, by decide +kernel⟩
abbrev s_people : Stmt := top 60
theorem c_people : FnScope ["_law_purse_here", "_law_many", "_law_words_here", "_law_extra", "_law_mixed_here", "_law_word_here"] ["_law_purse_here", "_law_many"] (defScope s_people) := ⟨rfl, rfl, rfl, by decide +kernel, rfl, by decide +kernel, by decide +kernel⟩
abbrev s_pair : Stmt := top 61
theorem c_pair : FnScope ["_law_first", "_law_second"] ["_law_first", "_law_second"] (defScope s_pair) := ⟨rfl, rfl, rfl, by decide +kernel, rfl, by decide +kernel, by decide +kernel⟩
abbrev s_pairs : Stmt := top 62
theorem c_pairs : FnScope ["_law_crowd", "_law_found", "_law_at_here", "_law_late"] ["_law_crowd"] (defScope s_pairs) := ⟨rfl, rfl, rfl, by decide +kernel, rfl, by decide +kernel, by decide +kernel⟩
abbrev s_net : Stmt := top 63
theorem c_net : FnScope ["_law_world_here", "_law_pair_here"] ["_law_world_here"] (defScope s_net) := ⟨rfl, rfl, rfl, by decide +kernel, rfl, by decide +kernel, by decide +kernel⟩
abbrev s_deed : Stmt := top 64
theorem c_deed : FnScope ["_law_world_here", "_law_pair_here", "_law_kept", "_law_rest"] ["_law_world_here", "_law_pair_here"] (defScope s_deed) := ⟨rfl, rfl, rfl, by decide +kernel, rfl, by decide +kernel, by decide +kernel⟩
abbrev s_opposite : Stmt := top 65
theorem c_opposite : FnScope ["_law_world_here", "_law_net_here", "_law_pair_here"] ["_law_world_here"] (defScope s_opposite) := ⟨rfl, rfl, rfl, by decide +kernel, rfl, by decide +kernel, by decide +kernel⟩
abbrev s_at : Stmt := top 66
theorem c_at : FnScope ["_law_crowd", "_law_number", "_law_found", "_law_rest", "_law_pair_here"] ["_law_crowd", "_law_number"] (defScope s_at) := ⟨rfl, rfl, rfl, by decide +kernel, rfl, by decide +kernel, by decide +kernel⟩
abbrev s_by_density : Stmt := top 67
theorem c_by_density : FnScope ["_law_purse_here", "_law_crowd", "_law_way", "_law_pairs_here", "_law_pair_here"] ["_law_purse_here", "_law_crowd"] (defScope s_by_density) := ⟨rfl, rfl, rfl, by decide +kernel, rfl, by decide +kernel, by decide +kernel⟩
abbrev s_by_labels : Stmt := top 68
theorem c_by_labels : FnScope ["_law_purse_here", "_law_crowd", "_law_size", "_law_turn", "_law_person", "_law_rows", "_law_tie", "_law_ties", "_law_found", "_law_first", "_law_second", "_law_total", "_law_at_here", "_law_spot"] ["_law_purse_here", "_law_crowd"] (defScope s_by_labels) := ⟨rfl, rfl, rfl, by decide +kernel, rfl, by decide +kernel, by decide +kernel⟩
abbrev s_shaped : Stmt := top 69
theorem c_shaped : FnScope ["_law_purse_here", "_law_crowd", "_law_way", "_law_mixed_here", "_law_pairs_here", "_law_at_here", "_law_late", "_law_pair_here", "_law_near", "_law_part"] ["_law_purse_here", "_law_crowd"] (defScope s_shaped) := ⟨rfl, rfl, rfl, by decide +kernel, rfl, by decide +kernel, by decide +kernel⟩
abbrev s_world : Stmt := top 70
theorem c_world : FnScope ["_law_purse_here", "_law_many", "_law_crowd", "_law_way", "_law_world_here"] ["_law_purse_here", "_law_many"] (defScope s_world) := ⟨rfl, rfl, rfl, by decide +kernel, rfl, by decide +kernel, by decide +kernel⟩
abbrev s_company : Stmt := top 71
theorem c_company : FnScope ["_law_world_here", "_law_step"] ["_law_world_here"] (defScope s_company) := ⟨rfl, rfl, rfl, by decide +kernel, rfl, by decide +kernel, by decide +kernel⟩
abbrev s_stays : Stmt := top 72
theorem c_stays : FnScope ["_law_world_here", "_law_company_here"] ["_law_world_here", "_law_company_here"] (defScope s_stays) := ⟨rfl, rfl, rfl, by decide +kernel, rfl, by decide +kernel, by decide +kernel⟩
abbrev s_all_manners : Stmt := top 73
theorem c_all_manners : FnScope ["_law_found", "_law_kinds", "_law_word_here"] [] (defScope s_all_manners) := ⟨rfl, rfl, rfl, by decide +kernel, rfl, by decide +kernel, by decide +kernel⟩
abbrev s_kind_lists : Stmt := top 74
theorem c_kind_lists : FnScope ["_law_world_here", "_law_net_here", "_law_found", "_law_pair_here", "_law_lists", "_law_person"] ["_law_world_here"] (defScope s_kind_lists) := ⟨rfl, rfl, rfl, by decide +kernel, rfl, by decide +kernel, by decide +kernel⟩
abbrev s_own_counted : Stmt := top 75
theorem c_own_counted : FnScope ["_law_lists", "_law_manner", "_law_pair_here", "_law_found", "_law_kind"] ["_law_lists", "_law_manner", "_law_pair_here"] (defScope s_own_counted) := ⟨rfl, rfl, rfl, by decide +kernel, rfl, by decide +kernel, by decide +kernel⟩
abbrev s_own_lets : Stmt := top 76
theorem c_own_lets : FnScope ["_law_lists", "_law_manner", "_law_pair_here", "_law_kind"] ["_law_lists", "_law_manner", "_law_pair_here"] (defScope s_own_lets) := ⟨rfl, rfl, rfl, by decide +kernel, rfl, by decide +kernel, by decide +kernel⟩
abbrev s_manner_right : Stmt := top 77
theorem c_manner_right : FnScope ["_law_purse_here", "_law_lists", "_law_company_here", "_law_manner", "_law_pairs_here", "_law_pair_here", "_law_due", "_law_told", "_law_counted"] ["_law_purse_here", "_law_lists", "_law_company_here", "_law_manner"] (defScope s_manner_right) := ⟨rfl, rfl, rfl, by decide +kernel, rfl, by decide +kernel, by decide +kernel⟩
abbrev s_company_right : Stmt := top 78
theorem c_company_right : FnScope ["_law_purse_here", "_law_world_here", "_law_company_here", "_law_manners", "_law_lets", "_law_lists", "_law_manner", "_law_kept", "_law_pairs_here", "_law_pair_here", "_law_counted", "_law_told", "_law_due", "_law_at_here", "_law_some", "_law_handed"] ["_law_purse_here", "_law_world_here"] (defScope s_company_right) := ⟨rfl, rfl, rfl, by decide +kernel, rfl, by decide +kernel, by decide +kernel⟩
abbrev s_told_manners_right : Stmt := top 79
theorem c_told_manners_right : FnScope ["_law_told", "_law_due", "_law_manner"] [] (defScope s_told_manners_right) := ⟨rfl, rfl, rfl, by decide +kernel, rfl, by decide +kernel, by decide +kernel⟩
abbrev s_law : Stmt := top 80
theorem c_law : FnScope ["_law_script", "_law_purse_here", "_law_many", "_law_crowd", "_law_total", "_law_number", "_law_at_here"] ["_law_script"] (defScope s_law) := ⟨rfl, rfl, rfl, by decide +kernel, rfl, by decide +kernel, by decide +kernel⟩
end Wd
end
section
set_option maxRecDepth 100000
set_option maxHeartbeats 4000000
namespace Wd
open PySem L2
/-- the built-in names that the text uses stand for themselves -/
structure Bt (mg : Str → Option Value) : Prop where
  sum : mg "sum" = none
  max : mg "max" = none
  min : mg "min" = none
  int : mg "int" = none
  range : mg "range" = none
  len : mg "len" = none
  sorted : mg "sorted" = none
  list : mg "list" = none
  dict : mg "dict" = none
  set : mg "set" = none
  all : mg "all" = none
  zip : mg "zip" = none
  isi : mg "isinstance" = none
  str : mg "str" = none
  tuple : mg "tuple" = none
  bool : mg "bool" = none
/-- all that was tracked stands, but at p -/
def SameX (p : Addr) (H H' : Hp) : Prop := ∀ b o, b ≠ p → H b = some o → H' b = some o
theorem SameX.refl (p : Addr) (H : Hp) : SameX p H H := fun _ _ _ h => h
theorem SameX.trans {p : Addr} {H H1 H2 : Hp} (a : SameX p H H1) (b : SameX p H1 H2) : SameX p H H2 := fun c o n h => b c o n (a c o n h)
theorem SameX.of {p : Addr} {H H' : Hp} (a : Same H H') : SameX p H H' := fun c o _ h => a c o h
theorem SameX.upd {p : Addr} {H : Hp} {o : HO} : SameX p H (upd H p o) := fun b u n h => by
  rw [upd_ne n]
  exact h
theorem SameX.new {p q : Addr} {H : Hp} {o : HO} (hq : H q = none) : SameX p H (L2.upd H q o) := fun b u _ h => by
  rw [upd_ne (ne_of_none h hq)]
  exact h
theorem same_new {q : Addr} {H : Hp} {o : HO} (hq : H q = none) : Same H (upd H q o) := fun b u h => by
  rw [upd_ne (ne_of_none h hq)]
  exact h
/-- a purse stands at p: c its second number, n draws are left -/
def PurseAt (H : Hp) (p : Addr) (c : Int) (n : Nat) : Prop := ∃ b t z : Int, H p = some (.lst [.int b, .int c, .int t, .int z]) ∧ 0 ≤ c ∧ c < 2147483629 ∧ 0 ≤ t ∧ t + (n : Int) ≤ 1000000 ∧ 0 ≤ z ∧ z ≤ 64
theorem PurseAt.same {H H' : Hp} {p : Addr} {c : Int} {n : Nat} (h : PurseAt H p c n) (s : Same H H') : PurseAt H' p c n := by
  obtain ⟨b, t, z, e, r⟩ := h
  exact ⟨b, t, z, s _ _ e, r⟩
theorem PurseAt.less {H : Hp} {p : Addr} {c : Int} {n m : Nat} (h : PurseAt H p c n) (l : m ≤ n) : PurseAt H p c m := by
  obtain ⟨b, t, z, e, h1, h2, h3, h4, r⟩ := h
  exact ⟨b, t, z, e, h1, h2, h3, by omega, r⟩
def spPurse (K : PySem.W.Frag) : Sp := fun vs H Q _ => ∃ (a : Addr) (ns : List Int) (i : Int), vs = [.ref a, .int i] ∧ SqL K H a (ns.map V.int) ∧ 0 ≤ i ∧ i ≤ 64 ∧
  ∀ (H' : Hp) (p : Addr) (c : Int), Same H H' → H p = none → PurseAt H' p c 1000000 → Q (.ref p) H'
def spMixed : Sp := fun vs H Q _ => ∃ s t z : Int, vs = [.int s, .int t, .int z] ∧ -(2 ^ 64) < s ∧ s < 2 ^ 64 ∧ -(2 ^ 64) < t ∧ t < 2 ^ 64 ∧ ∀ r : Int, 0 ≤ r → r < 2147483587 → Q (.int r) H
def spDraw : Sp := fun vs H Q _ => ∃ (p : Addr) (m c : Int) (n : Nat), vs = [.ref p, .int m] ∧ PurseAt H p c (n + 1) ∧ 1 ≤ m ∧ m < 1048576 ∧
  ∀ (H' : Hp) (r : Int), 0 ≤ r → r < m → SameX p H H' → PurseAt H' p c n → Q (.int r) H'
section
variable {P : Program} {w : World} {K : PySem.W.Frag} {mg : Str → Option Value} {base : Heap}
theorem op_powW {X : Cx} : OpR X (binaryOp .Pow) (rI (fun i j => i = 10 ^ 60 ∧ j = 8) fun i j => .int (i ^ j.toNat)) := opI fun i j _ _ _ _ _ hc q => by
  obtain ⟨rfl, rfl⟩ := hc
  exact PyProof.Rows.pow_int (by decide) (by decide +kernel) q
theorem cut_ints (ns : List Int) (lo hi : Option Int) : ∃ ms : List Int, cutV (ns.map V.int) lo hi = ms.map V.int := by
  exact ⟨_, by unfold cutV; rw [← List.map_drop, ← List.map_take]⟩
theorem ok_mixed {f : Addr} {fd : FuncData} (F : Fun K "_law_mixed" "_law_mixed" s_mixed f fd) (T : Bt mg) : FnOk P w K mg base CX0 1 f fd ["_law_seed", "_law_turn", "_law_at_here"] spMixed := by
  refine F.ok c_mixed (fun vs H Q E h => ?_) (fun cdv A outer s H vs Q E hr h => ?_)
  · obtain ⟨_, _, _, rfl, _⟩ := h
    rfl
  · obtain ⟨x, t, z, rfl, h1, h2, h3, h4, k⟩ := h
    refine ⟨_, pss_cons (ps_set (i := 3) c_mixed.nd rfl (Or.inl rfl) (pe_op op_add (pe_op op_mul (pv 0) pe_int) (pe_op op_mul (pe_op op_mul pe_int (pv 1)) (pv 1))))
      (pss_cons (ps_set (i := 3) c_mixed.nd rfl (Or.inl rfl) (pe_op op_mod (pe_callTy call_int1 (by rfl) T.int (by decide +kernel) (pa_cons (pe_op op_add (pe_op op_add (pv 3) (pe_op op_mul pe_int (pv 2))) (pv 1)) pa_nil)) pe_int))
      (pss_cons (ps_set (i := 3) c_mixed.nd rfl (Or.inl rfl) (pe_op op_mod (pe_callTy call_int1 (by rfl) T.int (by decide +kernel) (pa_cons (pe_op op_add (pe_op op_mul (pv 3) (pv 3)) pe_int) pa_nil)) pe_int))
      (pss_one (ps_ret (pe_op op_mod (pe_callTy call_int1 (by rfl) T.int (by decide +kernel) (pa_cons (pe_op op_mul (pv 3) pe_int) pa_nil)) pe_int))))), ?_⟩
    refine ⟨_, rfl, _, _, rfl, rfl, .inl ⟨h1, h2⟩, _, rfl, _, _, rfl, rfl, .inl ⟨by decide, by decide⟩, _, rfl, _, _, rfl, rfl, .inr ⟨h3, h4⟩, _, _, rfl, rfl, ?_⟩
    refine ⟨_, rfl, _, rfl, _, _, rfl, rfl, .inl ⟨by decide, by decide⟩, _, _, rfl, rfl, _, rfl, _, _, rfl, rfl, .inl ⟨_, rfl, _, _, rfl, rfl, (by show (0 : Int) < 2147483647; decide), ?_⟩⟩
    have u0 : ∀ y : Int, 0 ≤ y % 2147483647 := fun y => Int.emod_nonneg _ (by decide)
    have u1 : ∀ y : Int, y % 2147483647 < 2147483647 := fun y => Int.emod_lt_of_pos _ (by decide)
    refine ⟨_, rfl, _, rfl, _, _, rfl, rfl, .inl ⟨?_, ?_⟩, _, _, rfl, rfl, .inl ⟨_, rfl, _, _, rfl, rfl, (by show (0 : Int) < 2147483629; decide), ?_⟩⟩
    · exact Int.lt_of_lt_of_le (by decide) (u0 _)
    · exact Int.lt_of_lt_of_le (u1 _) (by decide)
    · have v0 : ∀ y : Int, 0 ≤ y % 2147483629 := fun y => Int.emod_nonneg _ (by decide)
      have v1 : ∀ y : Int, y % 2147483629 < 2147483629 := fun y => Int.emod_lt_of_pos _ (by decide)
      refine ⟨_, rfl, _, _, rfl, rfl, .inl ⟨?_, ?_⟩, .inl ⟨_, rfl, _, _, rfl, rfl, (by show (0 : Int) < 2147483587; decide), ?_⟩⟩
      · exact Int.lt_of_lt_of_le (by decide) (v0 _)
      · exact Int.lt_of_lt_of_le (v1 _) (by decide)
      · exact k _ (Int.emod_nonneg _ (by decide)) (Int.emod_lt_of_pos _ (by decide))
theorem ok_purse {f : Addr} {fd : FuncData} (F : Fun K "_law_purse" "_law_purse" s_purse f fd) (T : Bt mg) : FnOk P w K mg base CX0 1 f fd ["_law_script", "_law_at_here"] (spPurse K) := by
  refine F.ok c_purse (fun vs H Q E h => ?_) (fun cdv A outer s H vs Q E hr h => ?_)
  · obtain ⟨_, _, _, rfl, _⟩ := h
    rfl
  · obtain ⟨a, ns, i, rfl, hS, h0, h1, k⟩ := h
    refine ⟨_, pss_cons (ps_set (i := 2) c_purse.nd rfl (Or.inl rfl) (pe_callB (cr_sum rfl) (by rfl) T.sum (by decide +kernel) (pa_cons (pe_slice sl_list (pv 0) (po_some (pv 1)) (po_some (pe_op op_add (pv 1) pe_int))) pa_nil)))
      (pss_one (ps_ret (pe_lst (pa_cons (pe_op op_mod (pe_callTy call_int1 (by rfl) T.int (by decide +kernel) (pa_cons (pe_callB (call_max2 rfl) (by rfl) T.max (by decide +kernel) (pa_cons (pe_op op_sub (pv 2) (pe_op op_pow pe_int pe_int)) (pa_cons pe_int pa_nil))) pa_nil))
            (pe_op op_powW (pe_op op_pow pe_int pe_int) pe_int))
          (pa_cons (pe_op op_mod (pe_callTy call_int1 (by rfl) T.int (by decide +kernel) (pa_cons (pv 2) pa_nil)) pe_int) (pa_cons pe_int (pa_cons (pv 1) pa_nil))))))), ?_⟩
    obtain ⟨ms, hms⟩ := cut_ints ns (some i) (some (i + 1))
    refine ⟨_, rfl, _, rfl, _, rfl, _, rfl, _, _, rfl, rfl, _, rfl, a, _, rfl, hS, fun p0 hp0 => ?_⟩
    refine ⟨p0, ms, rfl, SqL.of (by rw [upd_same, hms]), ?_⟩
    refine ⟨_, rfl, _, _, rfl, rfl, ⟨by decide, by decide, by decide⟩, _, _, rfl, rfl, _, _, rfl, .inl ⟨_, rfl, _, _, rfl, rfl, ⟨by decide, by decide, by decide⟩, _, _, rfl, rfl, ⟨by decide, by decide⟩, _, _, rfl, rfl, (by show (0 : Int) < _; decide +kernel), ?_⟩⟩
    refine ⟨_, rfl, .inl ⟨_, rfl, _, _, rfl, rfl, (by show (0 : Int) < 2147483629; decide), _, rfl, (by show 4 ≤ sizeLine; decide), fun p hp => ?_⟩⟩
    have np : H p = none := (same_new hp0).free hp
    exact k _ p _ ((same_new hp0).trans (same_new hp)) np ⟨_, _, _, upd_same, Int.emod_nonneg _ (by decide), Int.emod_lt_of_pos _ (by decide), by decide, by decide, h0, h1⟩
theorem ok_draw {f fM : Addr} {fd fdM : FuncData} (F : Fun K "_law_draw" "_law_draw" s_draw f fd) (T : Bt mg) (FM : Fun K "_law_mixed" "_law_mixed" s_mixed fM fdM) (mM : mg "_law_mixed" = some (.ref fM)) (bM : Binds K fdM ["_law_seed", "_law_turn", "_law_at_here"] []) :
    FnOk P w K mg base CX0 2 f fd ["_law_purse_here", "_law_many"] spDraw := by
  have GM : FnOk P w K mg base CX0 1 fM fdM ["_law_seed", "_law_turn", "_law_at_here"] spMixed := ok_mixed FM T
  refine F.ok c_draw (fun vs H Q E h => ?_) (fun cdv A outer s H vs Q E hr h => ?_)
  · obtain ⟨_, _, _, _, rfl, _⟩ := h
    rfl
  · obtain ⟨p, m, c, n, rfl, ⟨b, t, z, hp, c0, c1, t0, t1, z0, z1⟩, m0, m1, k⟩ := h
    have hr1 : Room 1 _ := hr.mono (by decide)
    refine ⟨_, pss_cons (ps_if (pt_cmpR op_gt (pe_ix ix_list (pv 0) pe_int (fun _ _ => rfl)) pe_int (nomark _))
        (pss_cons (ps_set (i := 2) c_draw.nd rfl (Or.inl rfl) (pe_op op_mod (pe_callTy call_int1 (by rfl) T.int (by decide +kernel) (pa_cons (pe_ix ix_list (pv 0) pe_int (fun _ _ => rfl)) pa_nil)) (pv 1)))
        (pss_cons (ps_asg (pe_op op_fdiv (pe_ix ix_list (pv 0) pe_int (fun _ _ => rfl)) (pv 1)) (pg_sub (pv 0) pe_int set_list))
        (pss_one (ps_ret (pv 2))))) pss_nil)
      (pss_cons (ps_set (i := 3) c_draw.nd rfl (Or.inl rfl) pe_int)
      (pss_cons (ps_for PassesOwn.never rfl (pi_range1 rfl T.range (pa_cons (pe_op op_add pe_int (pe_op op_fdiv (pe_bits (pv 1)) pe_int)) pa_nil)) (pg_name (i := 4) c_draw.nd rfl (Or.inl rfl))
        (pss_cons (ps_asg (pe_op op_add (pe_ix ix_list (pv 0) pe_int (fun _ _ => rfl)) pe_int) (pg_sub (pv 0) pe_int set_list))
        (pss_one (ps_set (i := 3) c_draw.nd rfl (Or.inl rfl) (pe_op op_add (pe_op op_mul (pv 3) pe_int)
          (pe_call GM hr1 rfl mM FM.kp bM .nil pass0 (pa_cons (pe_ix ix_list (pv 0) pe_int (fun _ _ => rfl)) (pa_cons (pe_ix ix_list (pv 0) pe_int (fun _ _ => rfl)) (pa_cons (pe_ix ix_list (pv 0) pe_int (fun _ _ => rfl)) pa_nil)))))))))
      (pss_one (ps_ret (pe_op op_mod (pe_callTy call_int1 (by rfl) T.int (by decide +kernel) (pa_cons (pv 3) pa_nil)) (pv 1)))))), ?_⟩
    refine ⟨_, rfl, p, _, _, _, rfl, rfl, SqL.of hp, rfl, _, _, rfl, rfl, _, rfl, ?_⟩
    refine ite2 (fun _ => ?_) (fun _ => ?_)
    · refine ⟨_, rfl, p, _, _, _, rfl, rfl, SqL.of hp, rfl, .inl ⟨_, rfl, _, rfl, _, _, rfl, rfl, (by show (0 : Int) < m; omega), ?_⟩⟩
      refine ⟨_, rfl, p, _, _, _, rfl, rfl, SqL.of hp, rfl, _, rfl, _, _, rfl, rfl, ⟨by show (0 : Int) < m; omega, by show m < 1073741824; omega⟩, _, rfl, p, _, _, 0, rfl, rfl, hp, rfl, ?_⟩
      refine ⟨_, rfl, ?_⟩
      exact k _ _ (Int.emod_nonneg _ (by omega)) (Int.emod_lt_of_pos _ (by omega)) SameX.upd ⟨_, _, _, upd_same, c0, c1, t0, by omega, z0, z1⟩
    · have hb : Builtin.Int.intBits m ≤ 20 := PyProof.Rows.intBits_le (by omega)
      have e28 : (1 : Int) + ((Builtin.Int.intBits m : Nat) : Int) / 28 = 1 := by omega
      refine ⟨_, rfl, m, rfl, _, _, rfl, rfl, ⟨by decide, by decide⟩, _, _, rfl, rfl, 1, congrArg (fun q => [V.int q]) e28, by decide, by decide, ?_⟩
      refine for_range (lo := 0) (n := 1) (fun i σ H' => ∃ (f t' : Int) (v : Option V), σ = [some (.ref p), some (.int m), none, some (.int f), v] ∧ SameX p H H' ∧ H' p = some (.lst [.int b, .int c, .int t', .int z]) ∧ t' = t + (i : Int))
        ⟨0, t, none, rfl, SameX.refl _ _, hp, by simp⟩ ?_ ?_
      · rintro i σ H' hi ⟨f, t', v, rfl, sx, hp', et⟩
        refine ⟨_, rfl, p, _, _, _, rfl, rfl, SqL.of hp', rfl, _, _, rfl, rfl, _, rfl, p, _, _, 2, rfl, rfl, hp', rfl, ?_⟩
        have hp2 : (upd H' p (.lst [.int b, .int c, .int (t' + 1), .int z])) p = some (.lst [.int b, .int c, .int (t' + 1), .int z]) := upd_same
        refine ⟨_, rfl, _, _, rfl, rfl, .inr ⟨by decide, by decide⟩, _, rfl, p, _, _, _, rfl, rfl, SqL.of hp2, rfl, _, rfl, p, _, _, _, rfl, rfl, SqL.of hp2, rfl, _, rfl, p, _, _, _, rfl, rfl, SqL.of hp2, rfl, ?_⟩
        refine ⟨_, _, _, rfl, by omega, by omega, by omega, by omega, fun r r0 r1 => ?_⟩
        exact ⟨_, _, rfl, rfl, _, _, _, rfl, sx.trans SameX.upd, hp2, by omega⟩
      · rintro σ H' ⟨f, t', v, rfl, sx, hp', et⟩
        refine ⟨_, rfl, .inl ⟨_, rfl, _, rfl, _, _, rfl, rfl, (by show (0 : Int) < m; omega), ?_⟩⟩
        exact k _ _ (Int.emod_nonneg _ (by omega)) (Int.emod_lt_of_pos _ (by omega)) sx ⟨_, _, _, hp', c0, c1, by omega, by omega, z0, z1⟩
end
end Wd
end
section
set_option maxRecDepth 100000
set_option maxHeartbeats 4000000
namespace Wd
open PySem L2
def spPurses (K : PySem.W.Frag) : Sp := fun vs H Q _ => ∃ (a : Addr) (ns : List Int) (few : Int), vs = [.ref a, .int few] ∧ SqL K H a (ns.map V.int) ∧ few ≤ 60 ∧
  ∀ (H' : Hp) (D : Addr) (ps : List Addr), Same H H' → H D = none → H' D = some (.lst (ps.map V.ref)) → ps.Nodup → 1 ≤ ps.length → (∀ p ∈ ps, H p = none ∧ ∃ c, PurseAt H' p c 1000000) → Q (.ref D) H'
def spOneOf : Sp := fun vs H Q _ => ∃ (p l : Addr) (xs : List V) (c : Int) (n : Nat), vs = [.ref p, .ref l] ∧ PurseAt H p c (n + 1) ∧ H l = some (.lst xs) ∧ l ≠ p ∧ 1 ≤ xs.length ∧ xs.length ≤ 1000 ∧
  ∀ (H' : Hp) (i : Nat) (x : V), xs[i]? = some x → SameX p H H' → PurseAt H' p c n → Q x H'
/-- a word: one to eight letters from a to z -/
def IsW (x : Str) : Prop := 1 ≤ x.cps.toList.length ∧ x.cps.toList.length ≤ 8 ∧ ∀ c ∈ x.cps.toList, 97 ≤ c ∧ c ≤ 122
def spWord : Sp := fun vs H Q _ => ∃ (p : Addr) (c : Int) (n : Nat), vs = [.ref p] ∧ PurseAt H p c (n + 10) ∧
  ∀ (H' : Hp) (x : Str), IsW x → SameX p H H' → PurseAt H' p c n → Q (.str x) H'
theorem join_cps : ∀ cs : List Nat, (Str.join Str.empty (cs.map fun c => (⟨#[c]⟩ : Str))).cps.toList = cs
  | [] => rfl
  | [c] => rfl
  | c :: d :: r => by
    have h := join_cps (d :: r)
    show ((⟨#[c]⟩ : Str) ++ Str.empty ++ Str.join Str.empty ((d :: r).map fun c => (⟨#[c]⟩ : Str))).cps.toList = c :: d :: r
    have e : ∀ a b : Str, (a ++ b).cps.toList = a.cps.toList ++ b.cps.toList := fun a b => Array.toList_append
    rw [e, e, h]
    rfl
theorem letters {n : Nat} (h : n < 26) : ∃ c, ("abcdefghijklmnopqrstuvwxyz" : Str).cps.toList[n]? = some c ∧ 97 ≤ c ∧ c ≤ 122 := by
  have all : ∀ n, n < 26 → ∃ c, ("abcdefghijklmnopqrstuvwxyz" : Str).cps.toList[n]? = some c ∧ 97 ≤ c ∧ c ≤ 122 := by
    intro n h
    have q : ∀ n : Fin 26, (match ("abcdefghijklmnopqrstuvwxyz" : Str).cps.toList[n.val]? with | some c => decide (97 ≤ c) && decide (c ≤ 122) | none => false) = true := by decide +kernel
    have z := q ⟨n, h⟩
    dsimp only at z
    split at z
    · exact ⟨_, by assumption, by simpa using z⟩
    · cases z
  exact all n h
section
variable {P : Program} {w : World} {K : PySem.W.Frag} {mg : Str → Option Value} {base : Heap}
theorem ok_purses {f fP : Addr} {fd fdP : FuncData} (F : Fun K "_law_purses" "_law_purses" s_purses f fd) (T : Bt mg) (FP : Fun K "_law_purse" "_law_purse" s_purse fP fdP) (mP : mg "_law_purse" = some (.ref fP)) (bP : Binds K fdP ["_law_script", "_law_at_here"] []) :
    FnOk P w K mg base CX0 2 f fd ["_law_script", "_law_few"] (spPurses K) := by
  have GP : FnOk P w K mg base CX0 1 fP fdP ["_law_script", "_law_at_here"] (spPurse K) := ok_purse FP T
  refine F.ok c_purses (fun vs H Q E h => ?_) (fun cdv A outer s H vs Q E hr h => ?_)
  · obtain ⟨_, _, _, rfl, _⟩ := h
    rfl
  · obtain ⟨a, ns, few, rfl, hS, hf, k⟩ := h
    have hr1 : Room 1 _ := hr.mono (by decide)
    refine ⟨_, pss_one (ps_ret (pe_lc (own := [("_law_at_here", 2)]) (g := gName 2) (tt := tYes) rfl c_purses.nd
      (pi_range1 rfl T.range (pa_cons (pe_callB (call_max2 rfl) (by rfl) T.max (by decide +kernel) (pa_cons pe_int (pa_cons (pe_callB (call_min2 rfl) (by rfl) T.min (by decide +kernel) (pa_cons (pv 1) (pa_cons (pe_callB call_len_seq (by rfl) T.len PySem.boot_len (pa_cons (pv 0) pa_nil)) pa_nil))) pa_nil))) pa_nil))
      (blkOk_by (N := ["_law_script", "_law_few", "_law_at_here"]) (sc := defScope s_purses) (by decide +kernel)) (fun _ _ _ _ _ => pg_name (i := 2) c_purses.nd rfl (Or.inl rfl)) (fun _ _ _ _ _ => pts_nil)
      (fun _ _ _ _ _ => pe_call GP hr1 rfl mP FP.kp bP .nil pass0 (pa_cons (pv 0) (pa_cons (pv 2) pa_nil))))), ?_⟩
    refine ⟨_, rfl, _, rfl, a, _, rfl, .inl hS, _, _, rfl, _, _, rfl, ?_⟩
    generalize hN : (if (if ((ns.map V.int).length : Int) < few then ((ns.map V.int).length : Int) else few) > 1 then (if ((ns.map V.int).length : Int) < few then ((ns.map V.int).length : Int) else few) else (1 : Int)) = N
    have hN0 : 1 ≤ N ∧ N ≤ 60 := by
      rw [← hN]
      split <;> split <;> omega
    refine ⟨N, rfl, by omega, by omega, fun D hD => ?_⟩
    refine lc_range (lo := 0) (n := N.toNat) (fun i H' => ∃ ps : List Addr, H' D = some (.lst (ps.map V.ref)) ∧ ps.length = i ∧ Same H H' ∧ ps.Nodup ∧ (∀ p ∈ ps, H p = none ∧ ∃ c, PurseAt H' p c 1000000))
      ⟨[], upd_same, rfl, same_new hD, List.nodup_nil, fun _ h => nomatch h⟩ ?_ ?_
    · rintro i H' hi ⟨ps, hd, hl, s5, nd, hp⟩
      refine ⟨rfl, ?_⟩
      refine ⟨_, rfl, _, rfl, a, ns, _, rfl, s5.seq hS, by omega, by omega, fun H2 p c s2 hn pa => ?_⟩
      have hd2 := s2 _ _ hd
      have npD : p ≠ D := fun z => by
        rw [z, hd] at hn
        cases hn
      have hnp : p ∉ ps := fun hm => by
        obtain ⟨_, c', b', t', z', e, _⟩ := hp p hm
        rw [hn] at e
        cases e
      have sd : ∀ o, Same H (upd H2 D o) := fun o b u e => by
        have nb : b ≠ D := ne_of_none e hD
        rw [upd_ne nb]
        exact s2 _ _ (s5 _ _ e)
      refine ⟨_, hd2, by rw [List.length_map, hl, sizeLine_eq]; omega, ps ++ [p], ?_, by simp [hl], sd _, ?_, fun q hq => ?_⟩
      · rw [upd_same]
        simp
      · rw [List.nodup_append]
        refine ⟨nd, by simp, fun x hx y hy => ?_⟩
        have ey : y = p := by simpa using hy
        rw [ey]
        rintro rfl
        exact hnp hx
      · have keep : ∀ {q : Addr} {c : Int} {n : Nat}, q ≠ D → PurseAt H2 q c n → PurseAt (upd H2 D (.lst (ps.map V.ref ++ [V.ref p]))) q c n := fun {q c n} nq ⟨b, t, z, e, r⟩ => ⟨b, t, z, by rw [upd_ne nq]; exact e, r⟩
        rcases List.mem_append.mp hq with hq | hq
        · obtain ⟨h1, c', pc⟩ := hp q hq
          refine ⟨h1, c', keep (fun z => ?_) (pc.same s2)⟩
          obtain ⟨b', t', z', e, _⟩ := pc
          rw [z, hd] at e
          injection e with e
          injection e with e
          cases ps with
          | nil => cases hq
          | cons x xs => simp at e
        · have eq : q = p := by simpa using hq
          rw [eq]
          exact ⟨s5.free hn, c, keep npD pa⟩
    · rintro H' ⟨ps, hd, hl, s5, nd, hp⟩
      exact k H' D ps s5 hD hd nd (by omega) hp
theorem ok_oneof {f fD : Addr} {fd fdD : FuncData} (F : Fun K "_law_one_of" "_law_one_of" s_one_of f fd) (T : Bt mg) (GD : FnOk P w K mg base CX0 2 fD fdD ["_law_purse_here", "_law_many"] spDraw) (mD : mg "_law_draw" = some (.ref fD)) (kD : PySem.W.keepIn K (.ref fD) = true) (bD : Binds K fdD ["_law_purse_here", "_law_many"] []) :
    FnOk P w K mg base CX0 3 f fd ["_law_purse_here", "_law_some"] spOneOf := by
  refine F.ok c_one_of (fun vs H Q E h => ?_) (fun cdv A outer s H vs Q E hr h => ?_)
  · obtain ⟨_, _, _, _, _, rfl, _⟩ := h
    rfl
  · obtain ⟨p, l, xs, c, n, rfl, pa, hl, ne, l1, l2, k⟩ := h
    have hr2 : Room 2 _ := hr.mono (by decide)
    refine ⟨_, pss_one (ps_ret (pe_ix ix_list (pv 1) (pe_call GD hr2 rfl mD kD bD .nil pass0 (pa_cons (pv 0) (pa_cons (pe_callB call_len_seq (by rfl) T.len PySem.boot_len (pa_cons (pv 1) pa_nil)) pa_nil))) (fun _ _ => rfl))), ?_⟩
    refine ⟨_, rfl, _, rfl, _, rfl, l, _, rfl, .inl (SqL.of hl), p, _, c, n, rfl, pa, by omega, by omega, fun H' r r0 r1 sx pa' => ?_⟩
    obtain ⟨i, rfl⟩ : ∃ i : Nat, r = (i : Int) := ⟨r.toNat, by omega⟩
    have hi : i < xs.length := by omega
    exact ⟨l, xs, _, xs[i], rfl, rfl, SqL.of (sx _ _ ne hl), atI_nat (by simp [hi]), k H' i _ (by simp [hi]) sx pa'⟩
theorem ok_word {f fD : Addr} {fd fdD : FuncData} (F : Fun K "_law_word" "_law_word" s_word f fd) (T : Bt mg) (GD : FnOk P w K mg base CX0 2 fD fdD ["_law_purse_here", "_law_many"] spDraw) (mD : mg "_law_draw" = some (.ref fD)) (kD : PySem.W.keepIn K (.ref fD) = true) (bD : Binds K fdD ["_law_purse_here", "_law_many"] []) :
    FnOk P w K mg base CX0 3 f fd ["_law_purse_here"] spWord := by
  refine F.ok c_word (fun vs H Q E h => ?_) (fun cdv A outer s H vs Q E hr h => ?_)
  · obtain ⟨_, _, _, rfl, _⟩ := h
    rfl
  · obtain ⟨p, c, n, rfl, pa, k⟩ := h
    have hr2 : Room 2 _ := hr.mono (by decide)
    refine ⟨_, pss_cons (ps_set (i := 1) c_word.nd rfl (Or.inl rfl) (pe_op op_add pe_int (pe_call GD hr2 rfl mD kD bD .nil pass0 (pa_cons (pv 0) (pa_cons (pe_ifExp (pt_cmpR op_eq (pe_call GD hr2 rfl mD kD bD .nil pass0 (pa_cons (pv 0) (pa_cons pe_int pa_nil))) pe_int (nomark _)) pe_int pe_int) pa_nil)))))
      (pss_one (ps_ret (pe_join pe_str (pe_lc (own := [("_law_turn", 2)]) (g := gName 2) (tt := tYes) rfl c_word.nd
      (pi_range1 rfl T.range (pa_cons (pv 1) pa_nil))
      (blkOk_by (N := ["_law_purse_here", "_law_size", "_law_turn"]) (sc := defScope s_word) (by decide +kernel)) (fun _ _ _ _ _ => pg_name (i := 2) c_word.nd rfl (Or.inl rfl)) (fun _ _ _ _ _ => pts_nil)
      (fun _ _ _ _ _ => pe_ix ix_str pe_str (pe_call GD hr2 rfl mD kD bD .nil pass0 (pa_cons (pv 0) (pa_cons pe_int pa_nil))) (fun _ _ => rfl)))))), ?_⟩
    refine ⟨_, rfl, _, rfl, p, _, c, n + 9, rfl, pa, by omega, by omega, fun H1 r r0 r1 sx1 pa1 => ⟨rfl, _, rfl, ?_⟩⟩
    refine ite2 (fun _ => ?_) (fun _ => ?_)
    all_goals
      refine ⟨p, _, c, n + 8, rfl, pa1, by decide, by decide, fun H2 r r0 r1 sx2 pa2 => ?_⟩
      refine ⟨_, _, rfl, rfl, ?_⟩
      refine ⟨⟨_, rfl⟩, _, rfl, 1 + r, rfl, by omega, by omega, fun D hD => ?_⟩
      refine lc_range (lo := 0) (n := (1 + r).toNat) (fun i H' => ∃ cs : List Nat, H' D = some (.lst ((cs.map fun c => (⟨#[c]⟩ : Str)).map V.str)) ∧ cs.length = i ∧ SameX p H H' ∧ (∀ c ∈ cs, 97 ≤ c ∧ c ≤ 122) ∧ PurseAt H' p c (n + (8 - i)))
        ⟨[], upd_same, rfl, (sx1.trans sx2).trans (SameX.new hD), (fun _ h => nomatch h), ?_⟩ ?_ ?_
      · obtain ⟨b, t, z, e, q⟩ := pa2
        exact ⟨b, t, z, by rw [upd_ne (ne_of_none e hD)]; exact e, q⟩
      · rintro i H' hi ⟨cs, hd, hl, s5, hc, pa3⟩
        refine ⟨rfl, ?_⟩
        have l8 : n + (8 - i) = n + (8 - (i + 1)) + 1 := by omega
        rw [l8] at pa3
        refine ⟨_, rfl, p, _, c, _, rfl, pa3, by decide, by decide, fun H3 u u0 u1 sx3 pa4 => ?_⟩
        obtain ⟨j, rfl⟩ : ∃ j : Nat, u = (j : Int) := ⟨u.toNat, by omega⟩
        obtain ⟨ch, hch, hlt⟩ := letters (n := j) (by omega)
        have nDp : D ≠ p := fun e => by
          obtain ⟨b, t, z, q, _⟩ := pa2
          rw [← e, hD] at q
          cases q
        refine ⟨_, _, ch, rfl, rfl, by decide, atI_nat hch, _, sx3 _ _ nDp hd, by simp only [List.length_map]; rw [hl, sizeLine_eq]; omega, cs ++ [ch], ?_, by simp [hl], ?_, ?_, ?_⟩
        · rw [upd_same]
          simp
        · intro b o nb e
          have nb2 : b ≠ D := fun q => by
            rw [q] at e
            have z := (sx1.trans sx2) _ _ nDp e
            rw [hD] at z
            cases z
          rw [upd_ne nb2]
          exact sx3 _ _ nb (s5 _ _ nb e)
        · intro x hx
          rcases List.mem_append.mp hx with hx | hx
          · exact hc x hx
          · have ex : x = ch := by simpa using hx
            rw [ex]
            exact hlt
        · obtain ⟨b, t, z, e, q⟩ := pa4
          exact ⟨b, t, z, by rw [upd_ne (Ne.symm nDp)]; exact e, q⟩
      · rintro H' ⟨cs, hd, hl, s5, hc, pa3⟩
        have hlen : cs.length ≤ 8 := by omega
        refine ⟨_, _, _, rfl, rfl, .inl (SqL.of hd), ?_, ?_⟩
        · have e1 : ∀ l : List Nat, ((l.map fun c => (⟨#[c]⟩ : Str)).map (·.length)).sum = l.length := by
            intro l
            induction l with
            | nil => rfl
            | cons x l ih =>
              rw [List.map_cons, List.map_cons, List.sum_cons, ih, List.length_cons]
              show 1 + l.length = _
              omega
          rw [e1]
          show cs.length + _ * 0 ≤ _
          omega
        · have ej : (Txt.join ("" : Str) (cs.map fun c => (⟨#[c]⟩ : Str))).cps.toList = cs := by
            show (Builtin.Str.glued ("" : Str) _).cps.toList = cs
            rw [StrLaws.glued_eq_join]
            exact join_cps cs
          refine k H' _ ⟨?_, ?_, ?_⟩ s5 (pa3.less (by omega))
          · rw [ej]
            omega
          · rw [ej]
            exact hlen
          · rw [ej]
            exact hc
end
end Wd
end
section
set_option maxRecDepth 100000
set_option maxHeartbeats 4000000
namespace Wd
open PySem L2
/-- a def of the text that keeps a promise -/
def Has (P : Program) (w : World) (K : PySem.W.Frag) (mg : Str → Option Value) (base : Heap) (k : Nat) (x : Str) (ps : List Str) (sp : Sp) : Prop :=
  ∃ (f : Addr) (fd : FuncData), FnOk P w K mg base CX0 k f fd ps sp ∧ mg x = some (.ref f) ∧ PySem.W.keepIn K (.ref f) = true ∧ Binds K fd ps []
/-- the object at a is none of the purse's -/
theorem purse_ne {H : Hp} {p a : Addr} {c : Int} {n : Nat} {o : HO} (pa : PurseAt H p c n) (e : H a = some o) (h : ∀ b c t z : Int, o ≠ .lst [.int b, .int c, .int t, .int z]) : a ≠ p := by
  rintro rfl
  obtain ⟨b, t, z, q, _⟩ := pa
  rw [e] at q
  exact h _ _ _ _ (Option.some.inj q)
theorem purse_none {H : Hp} {p a : Addr} {c : Int} {n : Nat} (pa : PurseAt H p c n) (e : H a = none) : a ≠ p := by
  rintro rfl
  obtain ⟨b, t, z, q, _⟩ := pa
  rw [e] at q
  cases q
theorem PurseAt.upd {H : Hp} {p a : Addr} {c : Int} {n : Nat} {o : HO} (pa : PurseAt H p c n) (ne : a ≠ p) : PurseAt (L2.upd H a o) p c n := by
  obtain ⟨b, t, z, e, q⟩ := pa
  exact ⟨b, t, z, by rw [upd_ne (Ne.symm ne)]; exact e, q⟩
theorem SameX.updN {p a : Addr} {H H' : Hp} {o : HO} (s : SameX p H H') (hn : H a = none) : SameX p H (L2.upd H' a o) := fun b u nb e => by
  rw [upd_ne (ne_of_none e hn)]
  exact s b u nb e
theorem SameX.none {p a : Addr} {H H' : Hp} (s : SameX p H H') (hn : H' a = none) (ne : a ≠ p) : H a = none := by
  cases e : H a with
  | none => rfl
  | some o =>
    rw [s a o ne e] at hn
    cases hn
def spShuffled : Sp := fun vs H Q _ => ∃ (p l : Addr) (xs : List V) (c : Int) (n : Nat), vs = [.ref p, .ref l] ∧ PurseAt H p c (n + xs.length) ∧ H l = some (.lst xs) ∧ l ≠ p ∧ xs.length ≤ 1000 ∧
  ∀ (H' : Hp) (D : Addr) (ys : List V), ys.Perm xs → SameX p H H' → H D = none → H' D = some (.lst ys) → D ≠ p → PurseAt H' p c n → Q (.ref D) H'
section
variable {P : Program} {w : World} {K : PySem.W.Frag} {mg : Str → Option Value} {base : Heap}
theorem ok_shuffled {f : Addr} {fd : FuncData} (F : Fun K "_law_shuffled" "_law_shuffled" s_shuffled f fd) (T : Bt mg) (CD : Has P w K mg base 2 "_law_draw" ["_law_purse_here", "_law_many"] spDraw) :
    FnOk P w K mg base CX0 3 f fd ["_law_purse_here", "_law_some"] spShuffled := by
  obtain ⟨fD, fdD, GD, mD, kD, bD⟩ := CD
  refine F.ok c_shuffled (fun vs H Q E h => ?_) (fun cdv A outer s H vs Q E hr h => ?_)
  · obtain ⟨_, _, _, _, _, rfl, _⟩ := h
    rfl
  · obtain ⟨p, l, xs, c, n, rfl, pa, hl, ne, l2, k⟩ := h
    have hr2 : Room 2 _ := hr.mono (by decide)
    refine ⟨_, pss_cons (ps_set (i := 2) c_shuffled.nd rfl (Or.inl rfl) (pe_lst pa_nil))
      (pss_cons (ps_for PassesOwn.never rfl (pi_list (pv 1)) (pg_name (i := 3) c_shuffled.nd rfl (Or.inl rfl))
        (pss_one (ps_expr (pe_bm PySem.F.plainAttrs_list PySem.F.slot_list_insert PySem.F.type_list_insert mt_insert (pv 2)
          (pa_cons (pe_call GD hr2 rfl mD kD bD .nil pass0 (pa_cons (pv 0) (pa_cons (pe_op op_add (pe_callB call_len_seq (by rfl) T.len PySem.boot_len (pa_cons (pv 2) pa_nil)) pe_int) pa_nil))) (pa_cons (pv 3) pa_nil))))))
      (pss_one (ps_ret (pv 2)))), ?_⟩
    refine ⟨Nat.zero_le _, fun D hD => ?_⟩
    have nDp := purse_none pa hD
    have hl0 : upd H D (.lst []) l = some (.lst xs) := by rw [upd_ne (ne_of_none hl hD)]; exact hl
    refine ⟨_, rfl, l, rfl, ⟨xs, SqL.of hl0⟩, ?_⟩
    refine for_list (xs := xs) (fun i σ H' => ∃ (ys : List V) (v : Option V), σ = [some (.ref p), some (.ref l), some (.ref D), v] ∧ ys.Perm (xs.take i) ∧ SameX p H H' ∧ H' D = some (.lst ys) ∧ PurseAt H' p c (n + (xs.length - i)))
      ⟨[], none, rfl, List.Perm.nil, (SameX.refl p H).updN hD, upd_same, (pa.upd nDp)⟩ ?_ ?_ ?_
    · rintro i σ H' hi ⟨ys, v, rfl, _, sx, _⟩
      exact SqL.of (sx l _ ne hl)
    · rintro i x σ H' hx ⟨ys, v, rfl, pm, sx, hd, pa'⟩
      have il : i < xs.length := (List.getElem?_eq_some_iff.mp hx).1
      have ly : ys.length = i := by rw [pm.length_eq, List.length_take]; omega
      have e1 : n + (xs.length - i) = n + (xs.length - (i + 1)) + 1 := by omega
      rw [e1] at pa'
      refine ⟨_, rfl, .inl ⟨rfl, _, SqL.of hd⟩, ?_⟩
      refine ⟨_, rfl, _, rfl, D, _, rfl, .inl (SqL.of hd), _, _, rfl, rfl, p, _, c, _, rfl, pa', by omega, by omega, fun H2 r r0 r1 sx2 pa2 => ?_⟩
      have hd2 := sx2 D _ nDp hd
      refine ⟨_, rfl, D, ys, r, x, rfl, rfl, hd2, by rw [sizeLine_eq]; omega, r0, by omega, ?_⟩
      refine ⟨ys.take r.toNat ++ [x] ++ ys.drop r.toNat, some x, rfl, ?_, (sx.trans sx2).updN hD, upd_same, pa2.upd nDp⟩
      have h1 : (ys.take r.toNat ++ [x] ++ ys.drop r.toNat).Perm (x :: ys) := by
        have z : (ys.take r.toNat ++ x :: ys.drop r.toNat).Perm (x :: (ys.take r.toNat ++ ys.drop r.toNat)) := List.perm_middle
        rw [List.take_append_drop] at z
        simpa using z
      have h2 : (xs.take (i + 1)).Perm (x :: xs.take i) := by
        rw [List.take_succ, hx]
        exact List.perm_append_singleton x _
      exact h1.trans ((pm.cons x).trans h2.symm)
    · rintro σ H' ⟨ys, v, rfl, pm, sx, hd, pa'⟩
      refine ⟨_, rfl, ?_⟩
      rw [List.take_length] at pm
      exact k H' D ys pm sx hD hd nDp (pa'.less (by omega))
end
end Wd
end
section
set_option maxRecDepth 100000
set_option maxHeartbeats 4000000
namespace Kx
open PySem PySem.Spec PyProof.Rows L2
/-- the signs of a text, each a text -/
def signs (z : Str) : List V := z.cps.toList.map fun c => V.str ⟨#[c]⟩
theorem vals_signs {z : Str} {acc : Array Value} (h : ItemsOf (SignAt z) acc z.cps.size) : Vals (signs z) acc.toList := by
  obtain ⟨sz, at_⟩ := h
  have key : ∀ (k : Nat) (l : List Nat) (vs : List Value), l.length = vs.length → (∀ (j : Nat) (c : Nat) (v : Value), l[j]? = some c → vs[j]? = some v → ∃ t, v = Value.str ⟨#[c]⟩ t) → Vals (l.map fun c => V.str ⟨#[c]⟩) vs := by
    intro k l
    induction l with
    | nil =>
      intro vs e _
      cases vs with
      | nil => exact .nil
      | cons v vs => simp at e
    | cons c l ih =>
      intro vs e q
      cases vs with
      | nil => simp at e
      | cons v vs =>
        obtain ⟨t, rfl⟩ := q 0 c v rfl rfl
        exact .cons ⟨t, rfl⟩ (ih vs (by simpa using e) fun j c' v' h1 h2 => q (j + 1) c' v' (by simpa using h1) (by simpa using h2))
  refine key 0 z.cps.toList acc.toList (by rw [Array.length_toList, Array.length_toList, sz]) fun j c v hc hv => ?_
  have hv' : acc[j]? = some v := by rw [← Array.getElem?_toList]; exact hv
  have hc' : z.cps[j]? = some c := by rw [← Array.getElem?_toList]; exact hc
  have q := at_ j v hv'
  unfold SignAt at q
  obtain ⟨c2, t, e1, e2⟩ := q
  rw [hc'] at e1
  exact ⟨t, by rw [e2, Option.some.inj e1]⟩
def rListS : List V → Hp → VK → Prop := fun vs H Q => ∃ z : Str, vs = [.str z] ∧ z.cps.size ≤ 1000 ∧ ∀ l, H l = none → Q (.ref l) (upd H l (.lst (signs z)))
theorem cr_listS {X : Cx} (hc : X.calm = true) : CallR X (.type "list") rListS := by
  intro pins s σ H vs us Q I r h
  obtain ⟨z, rfl, few, q⟩ := h
  obtain ⟨u, rfl, rx⟩ := vals1 r
  obtain ⟨t, rfl⟩ := rx
  refine call_list_str (I.ok.hd hc) z t (fun h' tk acc c' k g it => ?_) (by rw [sizeLine_eq]; omega)
  have len : (signs z).length ≤ sizeLine := by
    unfold signs
    rw [List.length_map, Array.length_toList, sizeLine_eq]
    omega
  exact ⟨.ref s.heap.objs.size, _, I.laid (t' := tk) k (Nat.le_refl _) (show ObjOk X.prog X.w _ h' _ (.lst (signs z)) from ⟨len, acc.toList, c', vals_signs it, by simpa using g⟩), rfl, q _ (I.hok.fresh (Nat.le_refl _))⟩
end Kx
end
section
set_option maxRecDepth 100000
set_option maxHeartbeats 4000000
namespace Wd
open PySem L2
theorem sIx_n (n d k : Nat) : HT.sIx n d (some (k : Int)) = min k n := HT.sIx_nat n d k
theorem cut_lo (z : Str) (k : Nat) : (cutS z none (some (k : Int))).cps.toList = z.cps.toList.take k := by
  have e0 : HT.sIx z.length 0 none = 0 := rfl
  unfold cutS
  rw [sIx_n, e0, List.drop_zero, Nat.sub_zero]
  show z.cps.toList.take (min k z.cps.size) = _
  rw [← Array.length_toList, ← List.take_take, List.take_length]
theorem cut_hi (z : Str) (k : Nat) : (cutS z (some (k : Int)) none).cps.toList = z.cps.toList.drop k := by
  have e0 : HT.sIx z.length z.length none = z.length := rfl
  unfold cutS
  rw [sIx_n, e0]
  show (z.cps.toList.drop (min k z.cps.size)).take (z.cps.size - min k z.cps.size) = _
  by_cases h : k ≤ z.cps.size
  · rw [Nat.min_eq_left h, List.take_of_length_le (by rw [List.length_drop, Array.length_toList]; exact Nat.le_refl _)]
  · rw [Nat.min_eq_right (by omega), Nat.sub_self, List.take_zero, List.drop_eq_nil_of_le (by rw [Array.length_toList]; omega)]
theorem in_strs (x : Str) (xs : List Str) : inV (.str x) (xs.map V.str) = decide (x ∈ xs) := by
  unfold inV
  rw [List.any_map]
  induction xs with
  | nil => simp
  | cons y ys ih =>
    rw [List.any_cons, ih]
    show ((y == x) || decide (x ∈ ys)) = decide (x ∈ y :: ys)
    by_cases h : x = y
    · subst h
      simp
    · have h' : (y == x) = false := beq_eq_false_iff_ne.mpr (Ne.symm h)
      rw [h', Bool.false_or]
      exact decide_eq_decide.mpr ⟨fun z => List.mem_cons_of_mem _ z, fun z => by
        rcases List.mem_cons.mp z with e | z
        · exact absurd e h
        · exact z⟩
theorem flat_strs' (xs : List Str) : (xs.map V.str).all flatV = true := by
  rw [List.all_map]
  exact List.all_eq_true.mpr fun _ _ => rfl
def abc : Str := "abcdefghijklmnopqrstuvwxyz"
def spWords : Sp := fun vs H Q _ => ∃ (p : Addr) (many : Nat) (c : Int) (n : Nat), vs = [.ref p, .int many] ∧ PurseAt H p c (n + 200) ∧ many ≤ 9 ∧
  ∀ (H' : Hp) (D : Addr) (xs : List Str), xs.length = many → xs.Nodup → (∀ x ∈ xs, IsW x) → SameX p H H' → H D = none → H' D = some (.lst (xs.map V.str)) → D ≠ p → PurseAt H' p c n → Q (.ref D) H'
theorem isW_mid {z : Str} {k ch : Nat} (h : IsW z) (hk : k < z.cps.toList.length) (hc : 97 ≤ ch ∧ ch ≤ 122) : IsW (cutS z none (some (k : Int)) ++ ⟨#[ch]⟩ ++ cutS z (some ((k : Int) + 1)) none) := by
  obtain ⟨h1, h2, h3⟩ := h
  have e : ∀ a b : Str, (a ++ b).cps.toList = a.cps.toList ++ b.cps.toList := fun a b => Array.toList_append
  have ek : (k : Int) + 1 = ((k + 1 : Nat) : Int) := by omega
  have l : (cutS z none (some (k : Int)) ++ ⟨#[ch]⟩ ++ cutS z (some ((k : Int) + 1)) none).cps.toList = z.cps.toList.take k ++ [ch] ++ z.cps.toList.drop (k + 1) := by
    rw [e, e, cut_lo, ek, cut_hi]
  unfold IsW
  rw [l]
  refine ⟨?_, ?_, fun c hm => ?_⟩
  · simp only [List.length_append, List.length_singleton]
    omega
  · simp only [List.length_append, List.length_singleton, List.length_take, List.length_drop]
    omega
  · rcases List.mem_append.mp hm with hm | hm
    · rcases List.mem_append.mp hm with hm | hm
      · exact h3 c (List.mem_of_mem_take hm)
      · rw [List.mem_singleton.mp hm]
        exact hc
    · exact h3 c (List.mem_of_mem_drop hm)
/-- the letters, each a text -/
def abcL : List Str := abc.cps.toList.map fun c => ⟨#[c]⟩
theorem sign_at {j : Nat} {v : V} (h : (Kx.signs abc)[j]? = some v) : ∃ z, abcL[j]? = some z ∧ v = .str z := by
  unfold Kx.signs at h
  rw [List.getElem?_map] at h
  obtain ⟨c, hc, e⟩ := Option.map_eq_some_iff.mp h
  exact ⟨⟨#[c]⟩, by unfold abcL; rw [List.getElem?_map, hc]; rfl, e.symm⟩
theorem take_next {α : Type} {l : List α} {i : Nat} {x : α} (h : l[i]? = some x) : l.take (i + 1) = l.take i ++ [x] := by
  rw [List.take_succ, h]
  rfl
theorem abc_codes : ((List.range 26).all fun n => decide ((⟨#[97 + n]⟩ : Str) ∈ abcL)) = true ∧ (abcL.all fun z => decide (z.cps.toList.length = 1) && z.cps.toList.all fun c => decide (97 ≤ c) && decide (c ≤ 122)) = true := by decide +kernel
theorem flt_le (xs : List Str) (j : Nat) : ((abcL.take j).filter fun z => decide (z ∉ xs)).length ≤ 26 := by
  have h1 := List.length_filter_le (fun z => decide (z ∉ xs)) (abcL.take j)
  rw [List.length_take] at h1
  have h2 : abcL.length = 26 := rfl
  omega
theorem pigeons : ∀ (l D : List Nat), l.Nodup → (∀ x ∈ l, x ∈ D) → l.length ≤ D.length
  | [], _, _, _ => Nat.zero_le _
  | x :: l, D, hn, hs => by
    obtain ⟨h1, h2⟩ := List.nodup_cons.mp hn
    have hx : x ∈ D := hs x List.mem_cons_self
    have ih := pigeons l (D.erase x) h2 fun y hy => (List.mem_erase_of_ne (fun e => h1 (by rw [← e]; exact hy))).2 (hs y (List.mem_cons_of_mem _ hy))
    have e := List.length_erase_of_mem hx
    have hp : 0 < D.length := List.length_pos_of_mem hx
    rw [List.length_cons]
    omega
/-- fewer than 26 texts leave a letter out -/
theorem some_letter (xs : List Str) (h : xs.length < 26) : ∃ y, (y ∉ xs ∧ IsW y) ∧ (abcL.filter fun z => decide (z ∉ xs))[0]? = some y := by
  cases e : abcL.filter fun z => decide (z ∉ xs) with
  | nil =>
    exfalso
    have all : ∀ n ∈ List.range 26, n ∈ xs.map fun z => z.cps.toList.headD 0 - 97 := fun n hn => by
      have m := of_decide_eq_true (List.all_eq_true.mp abc_codes.1 n hn)
      have q : ¬ (⟨#[97 + n]⟩ : Str) ∉ xs := fun z => by
        have hm : (⟨#[97 + n]⟩ : Str) ∈ abcL.filter fun z => decide (z ∉ xs) := List.mem_filter.mpr ⟨m, decide_eq_true z⟩
        rw [e] at hm
        cases hm
      refine List.mem_map.mpr ⟨_, Classical.not_not.mp q, ?_⟩
      show 97 + n - 97 = n
      omega
    have l := pigeons (List.range 26) _ List.nodup_range all
    rw [List.length_range, List.length_map] at l
    omega
  | cons y ys =>
    have hm : y ∈ abcL.filter fun z => decide (z ∉ xs) := by rw [e]; exact List.mem_cons_self
    obtain ⟨h1, h2⟩ := List.mem_filter.mp hm
    have q := List.all_eq_true.mp abc_codes.2 y h1
    rw [Bool.and_eq_true] at q
    have l1 := of_decide_eq_true q.1
    refine ⟨y, ⟨of_decide_eq_true h2, by omega, by omega, fun c hc => ?_⟩, rfl⟩
    have r := List.all_eq_true.mp q.2 c hc
    simpa using r
section
variable {P : Program} {w : World} {K : PySem.W.Frag} {mg : Str → Option Value} {base : Heap}
set_option maxHeartbeats 1000000 in
theorem ok_words {f : Addr} {fd : FuncData} (F : Fun K "_law_words" "_law_words" s_words f fd) (T : Bt mg) (CD : Has P w K mg base 2 "_law_draw" ["_law_purse_here", "_law_many"] spDraw) (CW : Has P w K mg base 3 "_law_word" ["_law_purse_here"] spWord) :
    FnOk P w K mg base CX0 4 f fd ["_law_purse_here", "_law_many"] spWords := by
  obtain ⟨fD, fdD, GD, mD, kD, bD⟩ := CD
  obtain ⟨fW, fdW, GW, mW, kW, bW⟩ := CW
  refine F.ok c_words (fun vs H Q E h => ?_) (fun cdv A outer s H vs Q E hr h => ?_)
  · obtain ⟨_, _, _, _, rfl, _⟩ := h
    rfl
  · obtain ⟨p, many, c, n, rfl, pa, hm, k⟩ := h
    have hr2 : Room 2 _ := hr.mono (by decide)
    have hr3 : Room 3 _ := hr.mono (by decide)
    refine ⟨_, pss_cons (ps_par (i := 2) (j := 3) rfl c_words.nd rfl rfl (by decide) rfl rfl (pa_cons (pe_call GW hr3 rfl mW kW bW .nil pass0 (pa_cons (pv 0) pa_nil)) (pa_cons (pe_cmpR op_eq (pe_call GD hr2 rfl mD kD bD .nil pass0 (pa_cons (pv 0) (pa_cons pe_int pa_nil))) pe_int (nomark _)) pa_nil)) (by rfl))
      (pss_cons (ps_asg (pe_tup (pa_cons (pe_call GD hr2 rfl mD kD bD .nil pass0 (pa_cons (pv 0) (pa_cons (pe_callB call_len_str (by rfl) T.len PySem.boot_len (pa_cons (pv 2) pa_nil)) pa_nil))) (pa_cons (pe_lst pa_nil) pa_nil)))
        (pg_tup rfl (pgs_cons (pg_name (i := 4) c_words.nd rfl (Or.inl rfl)) (pgs_cons (pg_name (i := 5) c_words.nd rfl (Or.inr rfl)) pgs_nil))))
      (pss_cons (ps_for PassesOwn.never rfl (pi_range1 rfl T.range (pa_cons (pv 1) pa_nil)) (pg_name (i := 6) c_words.nd rfl (Or.inl rfl))
        (pss_cons (ps_set (i := 7) c_words.nd rfl (Or.inl rfl) (pe_op op_add_str (pe_op op_add_str (pe_slice sl_str (pv 2) po_none (po_some (pv 4))) (pe_ix ix_str pe_str (pe_call GD hr2 rfl mD kD bD .nil pass0 (pa_cons (pv 0) (pa_cons pe_int pa_nil))) (fun _ _ => rfl)))
            (pe_slice sl_str (pv 2) (po_some (pe_op op_add (pv 4) pe_int)) po_none)))
        (pss_cons (ps_if (pt_not (pt_val (pv 3))) (pss_one (ps_set (i := 7) c_words.nd rfl (Or.inl rfl) (pe_call GW hr3 rfl mW kW bW .nil pass0 (pa_cons (pv 0) pa_nil)))) pss_nil)
        (pss_cons (ps_if (pt_cmpR op_in_seq (pv 7) (pv 5) rfl) (pss_one (ps_set (i := 7) c_words.nd rfl (Or.inl rfl) (pe_ix ix_list (pe_lc (own := [("_law_letter", 8)]) (g := gName 8) rfl c_words.nd
            (pi_list (pe_callTy (Kx.cr_listS rfl) (by rfl) T.list (by decide +kernel) (pa_cons pe_str pa_nil)))
            (blkOk_by (N := ["_law_purse_here", "_law_many", "_law_base", "_law_near", "_law_spot", "_law_found", "_law_turn", "_law_word_here", "_law_letter"]) (sc := defScope s_words) (by decide +kernel)) (fun _ _ _ _ _ => pg_name (i := 8) c_words.nd rfl (Or.inl rfl)) (fun _ _ _ _ _ => pts_one (pt_cmpR (r := rIn K true) op_notIn_seq (pv 8) (pv 5) rfl))
            (fun _ _ _ _ _ => pv 8)) pe_int (fun _ _ => rfl)))) pss_nil)
        (pss_one (ps_expr (pe_bm PySem.F.plainAttrs_list PySem.F.slot_list_append PySem.F.type_list_append mt_append (pv 5) (pa_cons (pv 7) pa_nil))))))))
      (pss_one (ps_ret (pv 5))))), ?_⟩
    refine ⟨_, rfl, p, c, n + 190, rfl, pa, fun H1 x hx sx1 pa1 => ?_⟩
    refine ⟨_, rfl, p, _, c, n + 189, rfl, pa1, by decide, by decide, fun H2 r r0 r1 sx2 pa2 => ⟨rfl, _, _, rfl, ?_⟩⟩
    have lx : x.length = x.cps.toList.length := Array.length_toList.symm
    have lx1 : 1 ≤ x.length := by rw [lx]; exact hx.1
    have lx8 : x.length ≤ 8 := by rw [lx]; exact hx.2.1
    have lxs : x.length ≤ sizeLine := by rw [sizeLine_eq]; omega
    refine ⟨_, rfl, _, rfl, x, rfl, lxs, p, _, c, n + 188, rfl, pa2, by omega, by omega, fun H3 q q0 q1 sx3 pa3 => ?_⟩
    refine ⟨Nat.zero_le _, fun D hD => ⟨by show 2 ≤ sizeLine; decide, fun t ht => ⟨t, _, rfl, SqT.of upd_same, rfl, _, _, rfl, _, _, rfl, rfl, ?_⟩⟩⟩
    obtain ⟨q, rfl⟩ : ∃ m : Nat, q = (m : Int) := ⟨q.toNat, by omega⟩
    have nDp := purse_none pa3 hD
    have sx03 : SameX p H H3 := (sx1.trans sx2).trans sx3
    have nD : H D = none := sx03.none hD nDp
    have ht3 : H3 t = none := by
      have tD : t ≠ D := fun e => by
        rw [e, upd_same] at ht
        cases ht
      rw [upd_ne tD] at ht
      exact ht
    have tp := purse_none pa3 ht3
    have nT : H t = none := sx03.none ht3 tp
    have tD : D ≠ t := ne_of_none upd_same ht
    refine ⟨_, rfl, (many : Int), rfl, by omega, by omega, ?_⟩
    refine for_range (lo := 0) (n := (many : Int).toNat) (fun i σ H' => ∃ (xs : List Str) (v6 v7 : Option V), σ = [some (.ref p), some (.int many), some (.str x), some (.bl (decide (V.int r = V.int 0))), some (.int q), some (.ref D), v6, v7, none] ∧ xs.length = i ∧ xs.Nodup ∧ (∀ z ∈ xs, IsW z) ∧ SameX p H H' ∧ H' D = some (.lst (xs.map V.str)) ∧ PurseAt H' p c (n + (9 - i) * 20))
      ⟨[], none, none, rfl, rfl, List.nodup_nil, (fun _ h => nomatch h), (sx03.updN nD).updN nT, by rw [upd_ne tD, upd_same]; rfl, ((pa3.upd nDp).upd tp).less (by omega)⟩ ?_ ?_
    · rintro i σ H' hi ⟨xs, v6, v7, rfl, li, nd, hw, sx, hd, pa'⟩
      have i8 : i ≤ 8 := by omega
      have m1 : n + (9 - i) * 20 = n + (9 - (i + 1)) * 20 + 10 + 9 + 1 := by omega
      rw [m1] at pa'
      refine ⟨_, rfl, _, rfl, _, rfl, x, rfl, lxs, _, rfl, p, _, c, _, rfl, pa', by decide, by decide, fun H4 u u0 u1 sx4 pa4 => ?_⟩
      obtain ⟨j, rfl⟩ : ∃ j : Nat, u = (j : Int) := ⟨u.toNat, by omega⟩
      obtain ⟨ch, hch, hlt⟩ := letters (n := j) (by omega)
      have hd4 := sx4 _ _ nDp hd
      have wy := isW_mid (k := q) (ch := ch) hx (by rw [← lx]; omega) hlt
      have cl1 := cutS_length x none (some (q : Int))
      have cl2 := cutS_length x (some ((q : Int) + 1)) none
      refine ⟨_, _, ch, rfl, rfl, by decide, atI_nat hch, _, _, rfl, rfl, ?_, _, rfl, _, rfl, _, _, rfl, rfl, _, rfl, x, rfl, lxs, _, _, rfl, rfl, ?_, ?_⟩
      · show _ + 1 ≤ _
        rw [sizeLine_eq]
        omega
      · show (cutS x none (some (q : Int)) ++ (⟨#[ch]⟩ : Str)).cps.size + _ ≤ _
        have e9 : (cutS x none (some (q : Int)) ++ (⟨#[ch]⟩ : Str)).cps.size = (cutS x none (some (q : Int))).length + 1 := Array.size_append
        rw [e9, sizeLine_eq]
        omega
      refine ⟨_, rfl, _, rfl, ?_⟩
      refine ite2 (fun _ => ?_) (fun _ => ?_)
      · refine ⟨_, rfl, p, c, _, rfl, pa4.less (m := n + (9 - (i + 1)) * 20 + 10) (by omega), fun H5 y hy sx5 pa5 => ?_⟩
        have hd5 := sx5 _ _ nDp hd4
        refine ⟨_, rfl, _, rfl, D, _, rfl, .inl (SqL.of hd5), rfl, flat_strs' xs, _, rfl, ?_⟩
        rw [if_neg (by decide), in_strs]
        refine ite2 (fun hin => ?_) (fun hno => ?_)
        · refine ⟨abc, rfl, by decide, fun l hl => ⟨l, rfl, ⟨_, SqL.of upd_same⟩, fun D2 hD2 => ?_⟩⟩
          have lD2 : l ≠ D2 := ne_of_none upd_same hD2
          have Dl : D ≠ l := ne_of_none hd5 hl
          have hdl : upd H5 l (.lst (Kx.signs abc)) D = some (.lst (xs.map V.str)) := by rw [upd_ne Dl]; exact hd5
          have DD2 : D ≠ D2 := ne_of_none hdl hD2
          refine lc_list (xs := Kx.signs abc) (fun j H' => H' = upd (upd H5 l (.lst (Kx.signs abc))) D2 (.lst ((((abcL.take j).filter fun z => decide (z ∉ xs)).map V.str)))) rfl (fun j H' _ e => ?_) ?_ ?_
          · rw [e]
            exact SqL.of (by rw [upd_ne lD2, upd_same])
          · rintro j v H' hv rfl
            obtain ⟨z, hz, rfl⟩ := sign_at hv
            refine ⟨rfl, _, rfl, _, rfl, D, _, rfl, .inl (SqL.of (by rw [upd_ne DD2]; exact hdl)), rfl, flat_strs' xs, _, rfl, ?_⟩
            rw [if_pos rfl, in_strs]
            have nx : (abcL.take (j + 1)).filter (fun z => decide (z ∉ xs)) = (abcL.take j).filter (fun z => decide (z ∉ xs)) ++ (if z ∈ xs then [] else [z]) := by
              rw [take_next hz, List.filter_append]
              by_cases c : z ∈ xs <;> simp [c]
            refine ite2 (fun hb => ?_) (fun hb => ?_)
            · have c : z ∉ xs := by simpa using hb
              refine ⟨_, rfl, _, upd_same, by rw [List.length_map, sizeLine_eq]; have := flt_le xs j; omega, ?_⟩
              show upd _ _ _ = upd _ _ _
              rw [upd_upd, nx, if_neg c, List.map_append]
              rfl
            · have c : z ∈ xs := by simpa using hb
              show upd _ _ _ = upd _ _ _
              rw [nx, if_pos c, List.append_nil]
          · rintro H' rfl
            obtain ⟨y2, hy2, e2⟩ := some_letter xs (by omega)
            have e3 : (abcL.take (Kx.signs abc).length).filter (fun z => decide (z ∉ xs)) = abcL.filter fun z => decide (z ∉ xs) := by
              rw [List.take_of_length_le (by decide)]
            refine ⟨D2, _, ((0 : Nat) : Int), .str y2, rfl, rfl, SqL.of upd_same, atI_nat ?_, ?_⟩
            · rw [e3, List.getElem?_map, e2]
              rfl
            have hdz : upd (upd H5 l (.lst (Kx.signs abc))) D2 (.lst (((abcL.take (Kx.signs abc).length).filter fun z => decide (z ∉ xs)).map V.str)) D = some (.lst (xs.map V.str)) := by rw [upd_ne DD2]; exact hdl
            have pl : l ≠ p := purse_none pa5 hl
            have hD2' : H5 D2 = none := by
              rw [upd_ne (Ne.symm lD2)] at hD2
              exact hD2
            have pD2 : D2 ≠ p := purse_none pa5 hD2'
            have sxz : SameX p H (upd (upd H5 l (.lst (Kx.signs abc))) D2 (.lst (((abcL.take (Kx.signs abc).length).filter fun z => decide (z ∉ xs)).map V.str))) :=
              (((sx.trans sx4).trans sx5).updN (((sx.trans sx4).trans sx5).none hl pl)).updN (((sx.trans sx4).trans sx5).none hD2' pD2)
            have nin2 : y2 ∉ xs := hy2.1
            refine ⟨_, rfl, .inl ⟨rfl, _, SqL.of hdz⟩, _, rfl, D, _, _, rfl, rfl, hdz, by rw [List.length_map, sizeLine_eq]; omega, ?_⟩
            refine ⟨xs ++ [y2], some (.int (0 + (i : Int))), some (.str y2), rfl, by rw [List.length_append, List.length_singleton]; omega, ?_, fun z hz => ?_, (sxz).updN nD, by rw [upd_same]; simp, (((pa5).upd pl).upd pD2).upd nDp⟩
            · rw [List.nodup_append]
              exact ⟨nd, by simp, fun a ha b hb => by
                rw [List.mem_singleton.mp hb]
                rintro rfl
                exact nin2 ha⟩
            · rcases List.mem_append.mp hz with hz | hz
              · exact hw z hz
              · rw [List.mem_singleton.mp hz]
                exact hy2.2
        · have c : y ∉ xs := by simpa using hno
          refine ⟨_, rfl, .inl ⟨rfl, _, SqL.of hd5⟩, _, rfl, D, _, _, rfl, rfl, hd5, by rw [List.length_map, sizeLine_eq]; omega, ?_⟩
          refine ⟨xs ++ [y], some (.int (0 + (i : Int))), some (.str y), rfl, by rw [List.length_append, List.length_singleton]; omega, ?_, fun z hz => ?_, ((sx.trans sx4).trans sx5).updN nD, by rw [upd_same]; simp, (pa5).upd nDp⟩
          · rw [List.nodup_append]
            exact ⟨nd, by simp, fun a ha b hb => by
              rw [List.mem_singleton.mp hb]
              rintro rfl
              exact c ha⟩
          · rcases List.mem_append.mp hz with hz | hz
            · exact hw z hz
            · rw [List.mem_singleton.mp hz]
              exact hy
      · have pa5 := pa4.less (m := n + (9 - (i + 1)) * 20) (by omega)
        generalize cutS x none (some (q : Int)) ++ (⟨#[ch]⟩ : Str) ++ cutS x (some ((q : Int) + 1)) none = y at wy ⊢
        refine ⟨_, rfl, _, rfl, D, _, rfl, .inl (SqL.of hd4), rfl, flat_strs' xs, _, rfl, ?_⟩
        rw [if_neg (by decide), in_strs]
        refine ite2 (fun hin => ?_) (fun hno => ?_)
        · refine ⟨abc, rfl, by decide, fun l hl => ⟨l, rfl, ⟨_, SqL.of upd_same⟩, fun D2 hD2 => ?_⟩⟩
          have lD2 : l ≠ D2 := ne_of_none upd_same hD2
          have Dl : D ≠ l := ne_of_none hd4 hl
          have hdl : upd H4 l (.lst (Kx.signs abc)) D = some (.lst (xs.map V.str)) := by rw [upd_ne Dl]; exact hd4
          have DD2 : D ≠ D2 := ne_of_none hdl hD2
          refine lc_list (xs := Kx.signs abc) (fun j H' => H' = upd (upd H4 l (.lst (Kx.signs abc))) D2 (.lst ((((abcL.take j).filter fun z => decide (z ∉ xs)).map V.str)))) rfl (fun j H' _ e => ?_) ?_ ?_
          · rw [e]
            exact SqL.of (by rw [upd_ne lD2, upd_same])
          · rintro j v H' hv rfl
            obtain ⟨z, hz, rfl⟩ := sign_at hv
            refine ⟨rfl, _, rfl, _, rfl, D, _, rfl, .inl (SqL.of (by rw [upd_ne DD2]; exact hdl)), rfl, flat_strs' xs, _, rfl, ?_⟩
            rw [if_pos rfl, in_strs]
            have nx : (abcL.take (j + 1)).filter (fun z => decide (z ∉ xs)) = (abcL.take j).filter (fun z => decide (z ∉ xs)) ++ (if z ∈ xs then [] else [z]) := by
              rw [take_next hz, List.filter_append]
              by_cases c : z ∈ xs <;> simp [c]
            refine ite2 (fun hb => ?_) (fun hb => ?_)
            · have c : z ∉ xs := by simpa using hb
              refine ⟨_, rfl, _, upd_same, by rw [List.length_map, sizeLine_eq]; have := flt_le xs j; omega, ?_⟩
              show upd _ _ _ = upd _ _ _
              rw [upd_upd, nx, if_neg c, List.map_append]
              rfl
            · have c : z ∈ xs := by simpa using hb
              show upd _ _ _ = upd _ _ _
              rw [nx, if_pos c, List.append_nil]
          · rintro H' rfl
            obtain ⟨y2, hy2, e2⟩ := some_letter xs (by omega)
            have e3 : (abcL.take (Kx.signs abc).length).filter (fun z => decide (z ∉ xs)) = abcL.filter fun z => decide (z ∉ xs) := by
              rw [List.take_of_length_le (by decide)]
            refine ⟨D2, _, ((0 : Nat) : Int), .str y2, rfl, rfl, SqL.of upd_same, atI_nat ?_, ?_⟩
            · rw [e3, List.getElem?_map, e2]
              rfl
            have hdz : upd (upd H4 l (.lst (Kx.signs abc))) D2 (.lst (((abcL.take (Kx.signs abc).length).filter fun z => decide (z ∉ xs)).map V.str)) D = some (.lst (xs.map V.str)) := by rw [upd_ne DD2]; exact hdl
            have pl : l ≠ p := purse_none pa5 hl
            have hD2' : H4 D2 = none := by
              rw [upd_ne (Ne.symm lD2)] at hD2
              exact hD2
            have pD2 : D2 ≠ p := purse_none pa5 hD2'
            have sxz : SameX p H (upd (upd H4 l (.lst (Kx.signs abc))) D2 (.lst (((abcL.take (Kx.signs abc).length).filter fun z => decide (z ∉ xs)).map V.str))) :=
              ((sx.trans sx4).updN ((sx.trans sx4).none hl pl)).updN ((sx.trans sx4).none hD2' pD2)
            have nin2 : y2 ∉ xs := hy2.1
            refine ⟨_, rfl, .inl ⟨rfl, _, SqL.of hdz⟩, _, rfl, D, _, _, rfl, rfl, hdz, by rw [List.length_map, sizeLine_eq]; omega, ?_⟩
            refine ⟨xs ++ [y2], some (.int (0 + (i : Int))), some (.str y2), rfl, by rw [List.length_append, List.length_singleton]; omega, ?_, fun z hz => ?_, (sxz).updN nD, by rw [upd_same]; simp, (((pa5).upd pl).upd pD2).upd nDp⟩
            · rw [List.nodup_append]
              exact ⟨nd, by simp, fun a ha b hb => by
                rw [List.mem_singleton.mp hb]
                rintro rfl
                exact nin2 ha⟩
            · rcases List.mem_append.mp hz with hz | hz
              · exact hw z hz
              · rw [List.mem_singleton.mp hz]
                exact hy2.2
        · have c : y ∉ xs := by simpa using hno
          refine ⟨_, rfl, .inl ⟨rfl, _, SqL.of hd4⟩, _, rfl, D, _, _, rfl, rfl, hd4, by rw [List.length_map, sizeLine_eq]; omega, ?_⟩
          refine ⟨xs ++ [y], some (.int (0 + (i : Int))), some (.str y), rfl, by rw [List.length_append, List.length_singleton]; omega, ?_, fun z hz => ?_, (sx.trans sx4).updN nD, by rw [upd_same]; simp, (pa5).upd nDp⟩
          · rw [List.nodup_append]
            exact ⟨nd, by simp, fun a ha b hb => by
              rw [List.mem_singleton.mp hb]
              rintro rfl
              exact c ha⟩
          · rcases List.mem_append.mp hz with hz | hz
            · exact hw z hz
            · rw [List.mem_singleton.mp hz]
              exact wy
    · rintro σ H' ⟨xs, v6, v7, rfl, li, nd, hw, sx, hd, pa'⟩
      exact ⟨_, rfl, k H' D xs (by simpa using li) nd hw sx nD hd nDp (pa'.less (by omega))⟩
end
end Wd
end
section
set_option maxRecDepth 100000
set_option maxHeartbeats 4000000
namespace Wd
open PySem PySem.Spec PyProof.Rows L2
/-! ### the order of texts -/
def Lt (a b : Str) : Prop := a.cps.toList < b.cps.toList
instance (a b : Str) : Decidable (Lt a b) := inferInstanceAs (Decidable (a.cps.toList < b.cps.toList))
theorem Lt.irr (a : Str) : ¬ Lt a a := List.lt_irrefl _
theorem Lt.tr {a b c : Str} (h : Lt a b) (k : Lt b c) : Lt a c := List.lt_trans h k
theorem str_eq {a b : Str} (h : a.cps.toList = b.cps.toList) : a = b := by
  cases a
  cases b
  exact congrArg Str.mk (Array.toList_inj.mp h)
theorem Lt.tri (a b : Str) : Lt a b ∨ a = b ∨ Lt b a := by
  by_cases h : Lt a b
  · exact .inl h
  · by_cases k : Lt b a
    · exact .inr (.inr k)
    · exact .inr (.inl (str_eq (List.le_antisymm k h)))
/-- strictly ascending -/
def Asc (xs : List Str) : Prop := xs.Pairwise Lt
theorem asc_of_rising : ∀ (p : Str) (l : List Str), risingS p l = true → (p :: l).Nodup → (p :: l).Pairwise Lt
  | p, [], _, _ => List.pairwise_singleton _ _
  | p, x :: r, h, nd => by
    have h' : (!ltCps x.cps.toList p.cps.toList && risingS x r) = true := h
    rw [Bool.and_eq_true] at h'
    obtain ⟨n1, n2⟩ := List.nodup_cons.mp nd
    have ih := asc_of_rising x r h'.2 n2
    have px : Lt p x := by
      have a : ¬ Lt x p := fun z => by
        have e : ltCps x.cps.toList p.cps.toList = true := by
          rw [ltCps_eq]
          exact decide_eq_true z
        rw [e] at h'
        cases h'.1
      rcases Lt.tri p x with z | z | z
      · exact z
      · exact absurd (by rw [z]; exact List.mem_cons_self) n1
      · exact absurd z a
    refine List.pairwise_cons.mpr ⟨fun y hy => ?_, ih⟩
    rcases List.mem_cons.mp hy with e | hy
    · rw [e]
      exact px
    · exact px.tr ((List.pairwise_cons.mp ih).1 y hy)
theorem asc_of_sorted {l : List Str} (h : sortedS l = true) (nd : l.Nodup) : Asc l := by
  cases l with
  | nil => exact List.Pairwise.nil
  | cons p r => exact asc_of_rising p r h nd
end Wd
end
section
set_option maxRecDepth 100000
set_option maxHeartbeats 4000000
namespace Wd
open PySem L2
theorem cutV_lo (xs : List V) (k : Nat) : cutV xs none (some (k : Int)) = xs.take k := by
  have e0 : HT.sIx xs.length 0 none = 0 := rfl
  unfold cutV
  rw [sIx_n, e0, List.drop_zero, Nat.sub_zero, ← List.take_take, List.take_length]
theorem cutV_hi (xs : List V) (k : Nat) : cutV xs (some (k : Int)) none = xs.drop k := by
  have e0 : HT.sIx xs.length xs.length none = xs.length := rfl
  unfold cutV
  rw [sIx_n, e0]
  by_cases h : k ≤ xs.length
  · rw [Nat.min_eq_left h, List.take_of_length_le (by rw [List.length_drop]; exact Nat.le_refl _)]
  · rw [Nat.min_eq_right (by omega), Nat.sub_self, List.take_zero, List.drop_eq_nil_of_le (by omega)]
def exL : List Str := ["put", "take", "deed", "wish", "leave", "come", "even", "odd", "part"]
theorem exL_ok : exL.Nodup ∧ (exL.all fun z => decide (1 ≤ z.cps.toList.length) && decide (z.cps.toList.length ≤ 8) && z.cps.toList.all fun c => decide (97 ≤ c) && decide (c ≤ 122)) = true := by decide +kernel
theorem exL_w : ∀ z ∈ exL, IsW z := fun z hz => by
  have q := List.all_eq_true.mp exL_ok.2 z hz
  rw [Bool.and_eq_true, Bool.and_eq_true] at q
  refine ⟨of_decide_eq_true q.1.1, of_decide_eq_true q.1.2, fun c hc => ?_⟩
  have r := List.all_eq_true.mp q.2 c hc
  simpa using r
/-- the people, mixed with the extra words -/
def mixW (ys xs : List Str) (many : Nat) : List Str := (ys.take 2 ++ xs.filter (fun z => decide (z ∉ exL)) ++ ys.drop 2).take many
theorem mixW_ok {ys xs : List Str} {many : Nat} (pm : ys.Perm exL) (nd : xs.Nodup) (hw : ∀ x ∈ xs, IsW x) (hm : many ≤ 9) : (mixW ys xs many).length = many ∧ (mixW ys xs many).Nodup ∧ ∀ z ∈ mixW ys xs many, IsW z := by
  have l9 : ys.length = 9 := pm.length_eq
  have pmm : (ys.take 2 ++ xs.filter (fun z => decide (z ∉ exL)) ++ ys.drop 2).Perm (ys ++ xs.filter (fun z => decide (z ∉ exL))) := by
    have a : (ys.take 2 ++ xs.filter (fun z => decide (z ∉ exL)) ++ ys.drop 2).Perm (ys.take 2 ++ (ys.drop 2 ++ xs.filter (fun z => decide (z ∉ exL)))) := by
      rw [List.append_assoc]
      exact List.Perm.append_left _ List.perm_append_comm
    rw [← List.append_assoc, List.take_append_drop] at a
    exact a
  have all : ∀ z ∈ mixW ys xs many, z ∈ ys ++ xs.filter (fun z => decide (z ∉ exL)) := fun z hz => pmm.mem_iff.mp (List.mem_of_mem_take hz)
  refine ⟨?_, ?_, fun z hz => ?_⟩
  · unfold mixW
    rw [List.length_take, pmm.length_eq, List.length_append]
    omega
  · refine List.Nodup.sublist (List.take_sublist _ _) (pmm.nodup_iff.mpr ?_)
    rw [List.nodup_append]
    refine ⟨pm.nodup_iff.mpr exL_ok.1, nd.filter _, fun a ha b hb => ?_⟩
    rintro rfl
    have h2 := (List.mem_filter.mp hb).2
    exact of_decide_eq_true h2 (pm.mem_iff.mp ha)
  · rcases List.mem_append.mp (all z hz) with h | h
    · exact exL_w z (pm.mem_iff.mp h)
    · exact hw z (List.mem_filter.mp h).1
def spPeople : Sp := fun vs H Q _ => ∃ (p : Addr) (many : Nat) (c : Int) (n : Nat), vs = [.ref p, .int many] ∧ PurseAt H p c (n + 300) ∧ many ≤ 9 ∧
  ∀ (H' : Hp) (D : Addr) (xs : List Str), xs.length = many → Asc xs → (∀ x ∈ xs, IsW x) → SameX p H H' → H D = none → H' D = some (.lst (xs.map V.str)) → D ≠ p → PurseAt H' p c n → Q (.ref D) H'
section
variable {P : Program} {w : World} {K : PySem.W.Frag} {mg : Str → Option Value} {base : Heap}
set_option maxHeartbeats 1000000 in
theorem ok_people {f : Addr} {fd : FuncData} (F : Fun K "_law_people" "_law_people" s_people f fd) (T : Bt mg) (CD : Has P w K mg base 2 "_law_draw" ["_law_purse_here", "_law_many"] spDraw)
    (CW : Has P w K mg base 4 "_law_words" ["_law_purse_here", "_law_many"] spWords) (CS : Has P w K mg base 3 "_law_shuffled" ["_law_purse_here", "_law_some"] spShuffled) :
    FnOk P w K mg base CX0 5 f fd ["_law_purse_here", "_law_many"] spPeople := by
  obtain ⟨fD, fdD, GD, mD, kD, bD⟩ := CD
  obtain ⟨fW, fdW, GW, mW, kW, bW⟩ := CW
  obtain ⟨fS, fdS, GS, mS, kS, bS⟩ := CS
  refine F.ok c_people (fun vs H Q E h => ?_) (fun cdv A outer s H vs Q E hr h => ?_)
  · obtain ⟨_, _, _, _, rfl, _⟩ := h
    rfl
  · obtain ⟨p, many, c, n, rfl, pa, hm, k⟩ := h
    have hr2 : Room 2 _ := hr.mono (by decide)
    have hr3 : Room 3 _ := hr.mono (by decide)
    have hr4 : Room 4 _ := hr.mono (by decide)
    refine ⟨_, pss_cons (ps_set (i := 2) c_people.nd rfl (Or.inl rfl) (pe_call GW hr4 rfl mW kW bW .nil pass0 (pa_cons (pv 0) (pa_cons (pv 1) pa_nil))))
      (pss_cons (ps_if (pt_cmpR op_eq (pe_call GD hr2 rfl mD kD bD .nil pass0 (pa_cons (pv 0) (pa_cons pe_int pa_nil))) pe_int (nomark _))
        (pss_cons (ps_set (i := 3) c_people.nd rfl (Or.inr rfl) (pe_lst (pa_cons pe_str (pa_cons pe_str (pa_cons pe_str (pa_cons pe_str (pa_cons pe_str (pa_cons pe_str (pa_cons pe_str (pa_cons pe_str (pa_cons pe_str pa_nil)))))))))))
        (pss_cons (ps_set (i := 4) c_people.nd rfl (Or.inl rfl) (pe_call GS hr3 rfl mS kS bS .nil pass0 (pa_cons (pv 0) (pa_cons (pv 3) pa_nil))))
        (pss_one (ps_set (i := 2) c_people.nd rfl (Or.inl rfl) (pe_slice sl_list
          (pe_op op_cat (pe_op op_cat (pe_slice sl_list (pv 4) po_none (po_some pe_int))
            (pe_lc (own := [("_law_word_here", 5)]) (g := gName 5) rfl c_people.nd (pi_list (pv 2))
              (blkOk_by (N := ["_law_purse_here", "_law_many", "_law_words_here", "_law_extra", "_law_mixed_here", "_law_word_here"]) (sc := defScope s_people) (by decide +kernel)) (fun _ _ _ _ _ => pg_name (i := 5) c_people.nd rfl (Or.inl rfl))
              (fun _ _ _ _ _ => pts_one (pt_cmpR (r := rIn K true) op_notIn_seq (pv 5) (pv 3) rfl)) (fun _ _ _ _ _ => pv 5)))
            (pe_slice sl_list (pv 4) (po_some pe_int) po_none)) po_none (po_some (pv 1))))))) pss_nil)
      (pss_one (ps_ret (pe_callB cr_sortedS (by rfl) T.sorted (by decide +kernel) (pa_cons (pv 2) pa_nil))))), ?_⟩
    refine ⟨_, rfl, _, rfl, p, many, c, n + 100, rfl, pa, hm, fun H1 D xs lx nd hw sx1 nD hd1 nDp pa1 => ?_⟩
    have fin : ∀ (H4 : Hp) (Z : Addr) (zs : List Str), zs.length = many → zs.Nodup → (∀ z ∈ zs, IsW z) → SameX p H H4 → H4 Z = some (.lst (zs.map V.str)) → PurseAt H4 p c n → rSortedS K [V.ref Z] H4 Q := fun H4 Z zs lz ndz hwz sxz hz paz => by
      refine ⟨Z, zs, rfl, SqL.of hz, by omega, fun ys R pm so hR => ?_⟩
      have nRp := purse_none paz hR
      exact k _ R ys (by rw [pm.length_eq, lz]) (asc_of_sorted so (pm.nodup_iff.mpr ndz)) (fun y hy => hwz y (pm.mem_iff.mp hy)) (sxz.updN (sxz.none hR nRp)) (sxz.none hR nRp) upd_same nRp (paz.upd nRp)
    refine ⟨_, rfl, p, _, c, n + 99, rfl, pa1, by decide, by decide, fun H2 r r0 r1 sx2 pa2 => ⟨rfl, _, rfl, ?_⟩⟩
    have hd2 := sx2 D _ nDp hd1
    refine ite2 (fun _ => ?_) (fun _ => ?_)
    · refine ⟨by show 9 ≤ sizeLine; decide, fun E1 hE => ?_⟩
      have nE := purse_none pa2 hE
      have DE : D ≠ E1 := ne_of_none hd2 hE
      refine ⟨_, rfl, _, rfl, p, E1, exL.map V.str, c, n + 20, rfl, (pa2.upd nE).less (by show n + 20 + 9 ≤ _; omega), upd_same, nE, by decide, fun H3 M ys pm sx3 nM hm3 nMp pa3 => ?_⟩
      obtain ⟨ws, pw, ew⟩ := perm_lift V.str pm exL rfl
      subst ew
      have hd3 : H3 D = some (.lst (xs.map V.str)) := sx3 D _ nDp (by rw [upd_ne DE]; exact hd2)
      have he3 : H3 E1 = some (.lst (exL.map V.str)) := sx3 E1 _ nE upd_same
      have sx03 : SameX p H H3 := ((sx1.trans sx2).updN ((sx1.trans sx2).none hE nE)).trans sx3
      have two : (2 : Int) = ((2 : Nat) : Int) := rfl
      refine ⟨_, rfl, _, rfl, M, ws.map V.str, rfl, SqL.of hm3, fun A1 hA1 => ⟨_, rfl, D, rfl, ⟨_, SqL.of (by rw [upd_ne (ne_of_none hd3 hA1)]; exact hd3)⟩, fun L hL => ?_⟩⟩
      have MA : M ≠ A1 := ne_of_none hm3 hA1
      have DA : D ≠ A1 := ne_of_none hd3 hA1
      have EA : E1 ≠ A1 := ne_of_none he3 hA1
      have AL : A1 ≠ L := ne_of_none upd_same hL
      have hL3 : H3 L = none := by
        rw [upd_ne (Ne.symm AL)] at hL
        exact hL
      have ML : M ≠ L := ne_of_none hm3 hL3
      have DL : D ≠ L := ne_of_none hd3 hL3
      have EL : E1 ≠ L := ne_of_none he3 hL3
      refine lc_list (xs := xs.map V.str) (fun j H' => H' = upd (upd H3 A1 (.lst (cutV (ws.map V.str) none (some 2)))) L (.lst (((xs.take j).filter fun z => decide (z ∉ exL)).map V.str))) rfl (fun j H' _ e => ?_) ?_ ?_
      · rw [e]
        exact SqL.of (by rw [upd_ne DL, upd_ne DA]; exact hd3)
      · rintro j v H' hv rfl
        rw [List.getElem?_map] at hv
        obtain ⟨z, hz, rfl⟩ := Option.map_eq_some_iff.mp hv
        refine ⟨rfl, _, rfl, _, rfl, E1, _, rfl, .inl (SqL.of (by rw [upd_ne EL, upd_ne EA]; exact he3)), rfl, flat_strs' exL, _, rfl, ?_⟩
        rw [if_pos rfl, in_strs]
        have nx : (xs.take (j + 1)).filter (fun z => decide (z ∉ exL)) = (xs.take j).filter (fun z => decide (z ∉ exL)) ++ (if z ∈ exL then [] else [z]) := by
          rw [take_next hz, List.filter_append]
          by_cases c : z ∈ exL <;> simp [c]
        refine ite2 (fun hb => ?_) (fun hb => ?_)
        · have c : z ∉ exL := by simpa using hb
          refine ⟨_, rfl, _, upd_same, by rw [List.length_map, sizeLine_eq]; have h1 := List.length_filter_le (fun z => decide (z ∉ exL)) (xs.take j); rw [List.length_take] at h1; omega, ?_⟩
          show upd _ _ _ = upd _ _ _
          rw [upd_upd, nx, if_neg c, List.map_append]
          rfl
        · have c : z ∈ exL := by simpa using hb
          show upd _ _ _ = upd _ _ _
          rw [nx, if_pos c, List.append_nil]
      · rintro H' rfl
        rw [show (xs.map V.str).length = xs.length by simp, List.take_length, show (some 2 : Option Int) = some ((2 : Nat) : Int) from rfl, cutV_lo, ← List.map_take]
        have l1 : (ws.take 2).length ≤ 2 := List.length_take_le 2 ws
        have l2 := List.length_filter_le (fun z => decide (z ∉ exL)) xs
        have l9 : ws.length = 9 := pw.length_eq
        refine ⟨A1, L, _, _, rfl, rfl, by rw [upd_ne AL, upd_same], upd_same, by rw [List.length_map, List.length_map, sizeLine_eq]; omega, fun B hB => ?_⟩
        have nB : H3 B = none := by
          have x1 : L ≠ B := ne_of_none upd_same hB
          rw [upd_ne (Ne.symm x1)] at hB
          have x2 : A1 ≠ B := ne_of_none upd_same hB
          rw [upd_ne (Ne.symm x2)] at hB
          exact hB
        have MB : M ≠ B := ne_of_none hm3 nB
        have hm5 : upd (upd (upd H3 A1 (.lst ((ws.take 2).map V.str))) L (.lst ((xs.filter fun z => decide (z ∉ exL)).map V.str))) B (.lst ((ws.take 2).map V.str ++ (xs.filter fun z => decide (z ∉ exL)).map V.str)) M = some (.lst (ws.map V.str)) := by rw [upd_ne MB, upd_ne ML, upd_ne MA]; exact hm3
        have sx5 : SameX p H (upd (upd (upd H3 A1 (.lst ((ws.take 2).map V.str))) L (.lst ((xs.filter fun z => decide (z ∉ exL)).map V.str))) B (.lst ((ws.take 2).map V.str ++ (xs.filter fun z => decide (z ∉ exL)).map V.str))) :=
          ((sx03.updN (sx03.none hA1 (purse_none pa3 hA1))).updN (sx03.none hL3 (purse_none pa3 hL3))).updN (sx03.none nB (purse_none pa3 nB))
        have pa5 := ((pa3.upd (o := .lst ((ws.take 2).map V.str)) (purse_none pa3 hA1)).upd (o := .lst ((xs.filter fun z => decide (z ∉ exL)).map V.str)) (purse_none pa3 hL3)).upd (o := .lst ((ws.take 2).map V.str ++ (xs.filter fun z => decide (z ∉ exL)).map V.str)) (purse_none pa3 nB)
        have hb5 : upd (upd (upd H3 A1 (.lst ((ws.take 2).map V.str))) L (.lst ((xs.filter fun z => decide (z ∉ exL)).map V.str))) B (.lst ((ws.take 2).map V.str ++ (xs.filter fun z => decide (z ∉ exL)).map V.str)) B = some (.lst ((ws.take 2 ++ xs.filter fun z => decide (z ∉ exL)).map V.str)) := by rw [upd_same, List.map_append]
        generalize upd (upd (upd H3 A1 (.lst ((ws.take 2).map V.str))) L (.lst ((xs.filter fun z => decide (z ∉ exL)).map V.str))) B (.lst ((ws.take 2).map V.str ++ (xs.filter fun z => decide (z ∉ exL)).map V.str)) = H5 at hm5 sx5 pa5 hb5 ⊢
        refine ⟨_, rfl, _, rfl, M, _, rfl, SqL.of hm5, fun A2 hA2 => ?_⟩
        rw [show (some 2 : Option Int) = some ((2 : Nat) : Int) from rfl, cutV_hi, ← List.map_drop]
        have BA : B ≠ A2 := ne_of_none hb5 hA2
        have l3 : (ws.drop 2).length ≤ 9 := by rw [List.length_drop]; omega
        refine ⟨B, A2, _, _, rfl, rfl, by rw [upd_ne BA]; exact hb5, upd_same, by rw [List.length_map, List.length_map, List.length_append, sizeLine_eq]; omega, fun C hC => ?_⟩
        have nC : H5 C = none := by
          have x1 : A2 ≠ C := ne_of_none upd_same hC
          rw [upd_ne (Ne.symm x1)] at hC
          exact hC
        rw [← List.map_append]
        refine ⟨_, rfl, _, rfl, C, _, rfl, SqL.of upd_same, fun Z hZ => ?_⟩
        have nZ : H5 Z = none := by
          have x0 : C ≠ Z := ne_of_none upd_same hZ
          rw [upd_ne (Ne.symm x0)] at hZ
          have x1 : A2 ≠ Z := ne_of_none upd_same hZ
          rw [upd_ne (Ne.symm x1)] at hZ
          exact hZ
        obtain ⟨m1, m2, m3⟩ := mixW_ok pw nd hw hm
        have sx6 := ((sx5.updN (o := .lst ((ws.drop 2).map V.str)) (sx5.none hA2 (purse_none pa5 hA2))).updN (o := .lst ((ws.take 2 ++ (xs.filter fun z => decide (z ∉ exL)) ++ ws.drop 2).map V.str)) (sx5.none nC (purse_none pa5 nC))).updN (o := .lst ((mixW ws xs many).map V.str)) (sx5.none nZ (purse_none pa5 nZ))
        have pa6 := ((pa5.upd (o := .lst ((ws.drop 2).map V.str)) (purse_none pa5 hA2)).upd (o := .lst ((ws.take 2 ++ (xs.filter fun z => decide (z ∉ exL)) ++ ws.drop 2).map V.str)) (purse_none pa5 nC)).upd (o := .lst ((mixW ws xs many).map V.str)) (purse_none pa5 nZ)
        have ez : cutV ((ws.take 2 ++ (xs.filter fun z => decide (z ∉ exL)) ++ ws.drop 2).map V.str) none (some (many : Int)) = (mixW ws xs many).map V.str := by
          rw [cutV_lo, ← List.map_take]
          rfl
        rw [ez]
        exact ⟨_, rfl, fin _ Z (mixW ws xs many) m1 m2 m3 sx6 upd_same (pa6.less (by omega))⟩
    · exact ⟨_, rfl, fin H2 D xs lx nd hw (sx1.trans sx2) hd2 (pa2.less (by omega))⟩
end
end Wd
end
section
set_option maxRecDepth 100000
set_option maxHeartbeats 4000000
namespace Wd
open PySem L2
/-- two texts in their order -/
def mk (a b : Str) : Str × Str := if Lt a b then (a, b) else (b, a)
def spPair : Sp := fun vs H Q _ => ∃ a b : Str, vs = [.str a, .str b] ∧ ∀ T, H T = none → Q (.ref T) (upd H T (.tup [.str (mk a b).1, .str (mk a b).2]))
/-- all twos of a list, in their order -/
def prs : List V → List (V × V)
  | [] => []
  | x :: r => r.map (fun y => (x, y)) ++ prs r
theorem prs_len : ∀ xs : List V, (prs xs).length ≤ xs.length * xs.length
  | [] => Nat.le_refl _
  | x :: r => by
    have h := prs_len r
    show (r.map (fun y => (x, y)) ++ prs r).length ≤ _
    rw [List.length_append, List.length_map, List.length_cons]
    have e : (r.length + 1) * (r.length + 1) = r.length * r.length + r.length + (r.length + 1) := by
      rw [Nat.add_mul, Nat.one_mul, Nat.mul_add, Nat.mul_one]
    omega
/-- the tuples at Ts hold the twos ps -/
def Tups (H : Hp) (Ts : List Addr) (ps : List (V × V)) : Prop := Ts.length = ps.length ∧ ∀ (k : Nat) T p, Ts[k]? = some T → ps[k]? = some p → H T = some (.tup [p.1, p.2])
theorem Tups.nil {H : Hp} : Tups H [] [] := ⟨rfl, fun k T p h => by simp at h⟩
theorem Tups.keep {H H' : Hp} {Ts : List Addr} {ps : List (V × V)} (t : Tups H Ts ps) (k : ∀ T o, T ∈ Ts → H T = some o → H' T = some o) : Tups H' Ts ps :=
  ⟨t.1, fun j T p h1 h2 => k T _ (List.mem_of_getElem? h1) (t.2 j T p h1 h2)⟩
theorem Tups.same {H H' : Hp} {Ts : List Addr} {ps : List (V × V)} (t : Tups H Ts ps) (s : Same H H') : Tups H' Ts ps := t.keep fun T o _ e => s T o e
theorem Tups.at {H : Hp} {Ts : List Addr} {ps : List (V × V)} (t : Tups H Ts ps) {T : Addr} (h : T ∈ Ts) : ∃ p, p ∈ ps ∧ H T = some (.tup [p.1, p.2]) := by
  obtain ⟨j, hj, e⟩ := List.getElem_of_mem h
  have h1 : Ts[j]? = some T := by rw [List.getElem?_eq_getElem hj, e]
  have hp : j < ps.length := by rw [← t.1]; exact hj
  exact ⟨ps[j], List.getElem_mem hp, t.2 j T _ h1 (List.getElem?_eq_getElem hp)⟩
theorem Tups.append {H : Hp} {Ts Us : List Addr} {ps qs : List (V × V)} (t : Tups H Ts ps) (u : Tups H Us qs) : Tups H (Ts ++ Us) (ps ++ qs) := by
  refine ⟨by rw [List.length_append, List.length_append, t.1, u.1], fun k T p h1 h2 => ?_⟩
  by_cases c : k < Ts.length
  · rw [List.getElem?_append_left c] at h1
    rw [List.getElem?_append_left (by rw [← t.1]; exact c)] at h2
    exact t.2 k T p h1 h2
  · rw [List.getElem?_append_right (by omega)] at h1
    rw [List.getElem?_append_right (by rw [← t.1]; omega), ← t.1] at h2
    exact u.2 _ T p h1 h2
theorem Tups.snoc {H : Hp} {Ts : List Addr} {ps : List (V × V)} (t : Tups H Ts ps) {T : Addr} {p : V × V} (h : H T = some (.tup [p.1, p.2])) : Tups H (Ts ++ [T]) (ps ++ [p]) := by
  refine t.append ⟨rfl, fun k U q h1 h2 => ?_⟩
  cases k with
  | zero =>
    obtain rfl : T = U := by simpa using h1
    obtain rfl : p = q := by simpa using h2
    exact h
  | succ k => simp at h1
theorem Tups.ne {H : Hp} {Ts : List Addr} {ps : List (V × V)} (t : Tups H Ts ps) {a : Addr} (h : ∀ x y, H a ≠ some (.tup [x, y])) : ∀ T ∈ Ts, T ≠ a := fun T hT e => by
  obtain ⟨p, _, q⟩ := t.at hT
  rw [e] at q
  exact h _ _ q
/-- a list of tuples of two stands at l -/
def PrsAt (H : Hp) (l : Addr) (ps : List (V × V)) : Prop := ∃ Ts : List Addr, H l = some (.lst (Ts.map V.ref)) ∧ Tups H Ts ps
def spPairs : Sp := fun vs H Q _ => ∃ (l : Addr) (xs : List V), vs = [.ref l] ∧ H l = some (.lst xs) ∧ xs.length ≤ 50 ∧
  ∀ (H' : Hp) (D : Addr), Same H H' → H D = none → PrsAt H' D (prs xs) → Q (.ref D) H'
section
variable {P : Program} {w : World} {K : PySem.W.Frag} {mg : Str → Option Value} {base : Heap}
theorem ok_pair {f : Addr} {fd : FuncData} (F : Fun K "_law_pair" "_law_pair" s_pair f fd) : FnOk P w K mg base CX0 1 f fd ["_law_first", "_law_second"] spPair := by
  refine F.ok c_pair (fun vs H Q E h => ?_) (fun cdv A outer s H vs Q E hr h => ?_)
  · obtain ⟨_, _, rfl, _⟩ := h
    rfl
  · obtain ⟨a, b, rfl, k⟩ := h
    refine ⟨_, pss_one (ps_ret (pe_ifExp (pt_cmpR op_lt_str (pv 0) (pv 1) (nomark _)) (pe_tup (pa_cons (pv 0) (pa_cons (pv 1) pa_nil))) (pe_tup (pa_cons (pv 1) (pa_cons (pv 0) pa_nil))))), ?_⟩
    refine ⟨_, rfl, _, rfl, _, _, rfl, rfl, _, rfl, ?_⟩
    refine ite2 (fun hb => ?_) (fun hb => ?_)
    · have c : Lt a b := of_decide_eq_true hb
      refine ⟨_, rfl, _, rfl, by show 2 ≤ sizeLine; decide, fun T hT => ?_⟩
      have q := k T hT
      unfold mk at q
      rw [if_pos c] at q
      exact q
    · have c : ¬ Lt a b := fun z => hb (decide_eq_true z)
      refine ⟨_, rfl, _, rfl, by show 2 ≤ sizeLine; decide, fun T hT => ?_⟩
      have q := k T hT
      unfold mk at q
      rw [if_neg c] at q
      exact q
theorem prs_take (xs : List V) (i : Nat) (x : V) (h : xs[i]? = some x) : prs xs = (prs xs).take ((prs xs).length - (prs (xs.drop i)).length) ++ prs (xs.drop i) ∧ prs (xs.drop i) = (xs.drop (i + 1)).map (fun y => (x, y)) ++ prs (xs.drop (i + 1)) := by
  have hd : xs.drop i = x :: xs.drop (i + 1) := by
    have lt := (List.getElem?_eq_some_iff.mp h).1
    rw [List.drop_eq_getElem_cons lt, (List.getElem?_eq_some_iff.mp h).2]
  refine ⟨?_, by rw [hd]; rfl⟩
  have suf : ∀ (l : List V) (j : Nat), ∃ r, prs l = r ++ prs (l.drop j) := by
    intro l
    induction l with
    | nil => exact fun j => ⟨[], by rw [List.drop_nil]; rfl⟩
    | cons y l ih =>
      intro j
      cases j with
      | zero => exact ⟨[], rfl⟩
      | succ j =>
        obtain ⟨r, e⟩ := ih j
        exact ⟨l.map (fun z => (y, z)) ++ r, by
          show l.map (fun z => (y, z)) ++ prs l = _
          rw [e, List.append_assoc]
          rfl⟩
  obtain ⟨r, e⟩ := suf xs i
  rw [e]
  have : (r ++ prs (xs.drop i)).length - (prs (xs.drop i)).length = r.length := by rw [List.length_append]; omega
  rw [this, List.take_left']
  rfl
set_option maxHeartbeats 1000000 in
theorem ok_pairs {f : Addr} {fd : FuncData} (F : Fun K "_law_pairs" "_law_pairs" s_pairs f fd) (T : Bt mg) : FnOk P w K mg base CX0 1 f fd ["_law_crowd"] spPairs := by
  refine F.ok c_pairs (fun vs H Q E h => ?_) (fun cdv A outer s H vs Q E hr h => ?_)
  · obtain ⟨_, _, rfl, _⟩ := h
    rfl
  · obtain ⟨l, xs, rfl, hl, few, k⟩ := h
    have pl := prs_len xs
    have sq : xs.length * xs.length ≤ 50 * 50 := Nat.mul_le_mul few few
    refine ⟨_, pss_cons (ps_set (i := 1) c_pairs.nd rfl (Or.inl rfl) (pe_lst pa_nil))
      (pss_cons (ps_for PassesOwn.never rfl (pi_range1 rfl T.range (pa_cons (pe_callB call_len_seq (by rfl) T.len PySem.boot_len (pa_cons (pv 0) pa_nil)) pa_nil)) (pg_name (i := 2) c_pairs.nd rfl (Or.inr rfl))
        (pss_one (ps_set (i := 1) c_pairs.nd rfl (Or.inl rfl) (pe_op op_cat (pv 1) (pe_lc (own := [("_law_late", 3)]) (g := gName 3) (tt := tYes) rfl c_pairs.nd (pi_list (pe_slice sl_list (pv 0) (po_some (pe_op op_add (pv 2) pe_int)) po_none))
          (blkOk_by (N := ["_law_crowd", "_law_found", "_law_at_here", "_law_late"]) (sc := defScope s_pairs) (by decide +kernel)) (fun _ _ _ _ _ => pg_name (i := 3) c_pairs.nd rfl (Or.inl rfl)) (fun _ _ _ _ _ => pts_nil)
          (fun _ _ _ _ _ => pe_tup (pa_cons (pe_ix (r := rIxL K) ix_list (pv 0) (pv 2) (fun _ _ => rfl)) (pa_cons (pv 3) pa_nil)))))))) 
      (pss_one (ps_ret (pv 1)))), ?_⟩
    refine ⟨Nat.zero_le _, fun D0 hD0 => ?_⟩
    have lD0 : l ≠ D0 := ne_of_none hl hD0
    refine ⟨_, rfl, l, _, rfl, .inl (SqL.of (by rw [upd_ne lD0]; exact hl)), (xs.length : Int), rfl, by omega, by omega, ?_⟩
    refine for_range (lo := 0) (n := (xs.length : Int).toNat) (fun i σ H' => ∃ (D : Addr) (Ts : List Addr) (v2 : Option V) (qs : List (V × V)), σ = [some (.ref l), some (.ref D), v2, none] ∧ Same H H' ∧ H D = none ∧ H' D = some (.lst (Ts.map V.ref)) ∧ Tups H' Ts qs ∧ prs xs = qs ++ prs (xs.drop i))
      ⟨D0, [], none, [], rfl, same_new hD0, hD0, upd_same, Tups.nil, rfl⟩ ?_ ?_
    · rintro i σ H' hi ⟨D, Ts, v2, qs, rfl, s5, nD, hd, tu, eq⟩
      have il : i < xs.length := by omega
      have hx : xs[i]? = some xs[i] := List.getElem?_eq_getElem il
      generalize xs[i] = x at hx
      have row := (prs_take xs i x hx).2
      have hl5 := s5 _ _ hl
      rw [Int.zero_add]
      have ei : (i : Int) + 1 = ((i + 1 : Nat) : Int) := by omega
      refine ⟨_, rfl, _, rfl, _, rfl, _, _, rfl, rfl, _, rfl, l, xs, rfl, SqL.of hl5, fun S hS => ⟨S, rfl, ⟨_, SqL.of upd_same⟩, fun C hC => ?_⟩⟩
      rw [ei, cutV_hi] at hC ⊢
      have hC5 : H' C = none := by
        have x1 : S ≠ C := ne_of_none upd_same hC
        rw [upd_ne (Ne.symm x1)] at hC
        exact hC
      refine lc_list (xs := xs.drop (i + 1)) (fun j H2 => ∃ Us : List Addr, H2 C = some (.lst (Us.map V.ref)) ∧ Same (upd H' S (.lst (xs.drop (i + 1)))) H2 ∧ Tups H2 Us (((xs.drop (i + 1)).take j).map fun y => (x, y)))
        ⟨[], upd_same, same_new hC, Tups.nil⟩ (fun j H2 _ ⟨Us, _, s6, _⟩ => SqL.of (s6 _ _ upd_same)) ?_ ?_
      · rintro j y H2 hy ⟨Us, hu, s6, tu2⟩
        have jl := (List.getElem?_eq_some_iff.mp hy).1
        rw [List.length_drop] at jl
        have hl6 : H2 l = some (.lst xs) := s6 _ _ (by rw [upd_ne (ne_of_none hl5 hS)]; exact hl5)
        refine ⟨rfl, ?_⟩
        refine ⟨_, rfl, _, rfl, l, xs, _, x, rfl, rfl, SqL.of hl6, atI_nat hx, _, rfl, by show 2 ≤ sizeLine; decide, fun Z hZ => ?_⟩
        have CZ : C ≠ Z := ne_of_none hu hZ
        have lu : Us.length ≤ 50 := by
          rw [tu2.1, List.length_map, List.length_take, List.length_drop]
          omega
        have cne : ∀ T ∈ Us, T ≠ C := tu2.ne fun a b e => by
          rw [hu] at e
          cases e
        refine ⟨_, by rw [upd_ne CZ]; exact hu, by rw [List.length_map, sizeLine_eq]; omega, Us ++ [Z], by rw [upd_same]; simp, fun b o e => ?_, ?_⟩
        · have bC : b ≠ C := ne_of_none e hC
          have e2 := s6 _ _ e
          rw [upd_ne bC, upd_ne (ne_of_none e2 hZ)]
          exact e2
        · rw [take_next hy, List.map_append]
          have t3 : Tups (upd (upd H2 Z (.tup [x, y])) C (.lst (Us.map V.ref ++ [V.ref Z]))) Us (((xs.drop (i + 1)).take j).map fun y => (x, y)) :=
            tu2.keep fun T o hT e => by
              rw [upd_ne (cne T hT), upd_ne (ne_of_none e hZ)]
              exact e
          exact t3.snoc (p := (x, y)) (by rw [upd_ne (Ne.symm CZ), upd_same])
      · rintro H2 ⟨Us, hu, s6, tu2⟩
        rw [List.take_length] at tu2
        have s7 : Same H' H2 := fun b o e => s6 b o (by rw [upd_ne (ne_of_none e hS)]; exact e)
        have hd7 := s7 _ _ hd
        have lt1 := congrArg List.length eq
        rw [List.length_append, row, List.length_append, List.length_map] at lt1
        have lu : Us.length = (xs.drop (i + 1)).length := by rw [tu2.1, List.length_map]
        refine ⟨D, C, _, _, rfl, rfl, hd7, hu, by rw [List.length_map, List.length_map, sizeLine_eq, tu.1, lu]; omega, fun Z hZ => ?_⟩
        have s8 : Same H' (upd H2 Z (.lst (Ts.map V.ref ++ Us.map V.ref))) := fun b o e => by
          have e2 := s7 _ _ e
          rw [upd_ne (ne_of_none e2 hZ)]
          exact e2
        have nZ : H Z = none := by
          cases e : H Z with
          | none => rfl
          | some o =>
            rw [s7 _ _ (s5 _ _ e)] at hZ
            cases hZ
        refine ⟨Z, Ts ++ Us, some (.int (i : Int)), qs ++ (xs.drop (i + 1)).map (fun y => (x, y)), rfl, s5.trans s8, nZ, by rw [upd_same, List.map_append], ?_, by rw [eq, row, List.append_assoc]⟩
        exact (tu.same s8).append (tu2.keep fun T o _ e => by
          rw [upd_ne (ne_of_none e hZ)]
          exact e)
    · rintro σ H' ⟨D, Ts, v2, qs, rfl, s5, nD, hd, tu, eq⟩
      have e0 : xs.drop (xs.length : Int).toNat = [] := by rw [Int.toNat_natCast, List.drop_length]
      rw [e0] at eq
      have e1 : prs xs = qs := by rw [eq]; exact List.append_nil qs
      exact ⟨_, rfl, k H' D s5 nD ⟨Ts, hd, by rw [e1]; exact tu⟩⟩
end
end Wd
end
section
set_option maxRecDepth 100000
set_option maxHeartbeats 4000000
namespace Kx
open PySem PySem.Spec PyProof.Rows L2
/-- dict(pairs), the keys tuples, none twice -/
def rDictT (K : PySem.W.Frag) : List V → Hp → VK → Prop := fun vs H Q => ∃ (a : Addr) (Us : List Addr) (kvs : List (List Key × Addr × V)), vs = [V.ref a] ∧ SqL K H a (Us.map V.ref) ∧ Us.length = kvs.length ∧
  (∀ (j : Nat) U q, Us[j]? = some U → kvs[j]? = some q → SqT K H U [.ref q.2.1, q.2.2] ∧ H q.2.1 = some (.tup (q.1.map kV))) ∧ (kvs.map fun q => q.1).Nodup ∧
  ∀ p, H p = none → Q (.ref p) (upd H p (.dT (kvs.map fun q => (q.1, q.2.2))))
theorem stored_new {K : Type} [DecidableEq K] : ∀ (ps acc : List (K × Addr × Value)), ((acc ++ ps).map fun q => q.1).Nodup → storedAllH acc ps = acc ++ ps
  | [], acc, _ => by rw [List.append_nil]; rfl
  | p :: ps, acc, nd => by
    have e : acc ++ p :: ps = (acc ++ [p]) ++ ps := by simp
    show storedAllH (storedH acc p.1 p.2.1 p.2.2) ps = _
    have no : atKey acc p.1 = none := atKey_none_of_get fun j q hq => by
      rw [List.map_append, List.map_cons, List.nodup_append] at nd
      exact nd.2.2 p.1 (List.mem_map.mpr ⟨_, List.mem_of_getElem? hq, rfl⟩) p.1 List.mem_cons_self rfl
    rw [storedH_new no]
    rw [e] at nd ⊢
    exact stored_new ps _ nd
theorem cr_dictT {X : Cx} (hc : X.calm = true) (hu : X.A.units + 64 < cLine) : CallR X (.type "dict") (rDictT X.K) := by
  intro pins s σ H vs us Q I r h
  obtain ⟨a, Us, kvs, rfl, hs, hl, hq, nd, q⟩ := h
  obtain ⟨u, rfl, rx⟩ := vals1 r
  obtain rfl : u = Value.ref a := rx
  obtain ⟨its, rv, pl, hz⟩ := I.list hs
  have ei := refs_at rv
  subst ei
  rw [List.length_map] at hz
  -- the values of the items
  have item : ∀ (j : Nat) q, kvs[j]? = some q → ∃ U y, Us[j]? = some U ∧ IsTup s.heap U #[.ref q.2.1, y] ∧ RelV q.2.2 y := fun j q e => by
    have jl := (List.getElem?_eq_some_iff.mp e).1
    have hU : Us[j]? = some Us[j] := List.getElem?_eq_getElem (by omega)
    obtain ⟨h1, _⟩ := hq j _ q hU e
    obtain ⟨its2, rv2, hT, _⟩ := I.tuple h1
    obtain ⟨u1, y, rfl, r1, r2⟩ := vals2 rv2
    obtain rfl : u1 = Value.ref q.2.1 := r1
    exact ⟨_, y, hU, hT, r2⟩
  -- as a list of keys, places, values
  obtain ⟨ps, pl2, pp⟩ : ∃ ps : List (List Key × Addr × Value), ps.length = kvs.length ∧ ∀ (j : Nat) q, kvs[j]? = some q → ∃ U y, Us[j]? = some U ∧ ps[j]? = some (q.1, q.2.1, y) ∧ IsTup s.heap U #[.ref q.2.1, y] ∧ RelV q.2.2 y := by
    have key : ∀ n, n ≤ kvs.length → ∃ ps : List (List Key × Addr × Value), ps.length = n ∧ ∀ (j : Nat) q, j < n → kvs[j]? = some q → ∃ U y, Us[j]? = some U ∧ ps[j]? = some (q.1, q.2.1, y) ∧ IsTup s.heap U #[.ref q.2.1, y] ∧ RelV q.2.2 y := by
      intro n
      induction n with
      | zero => exact fun _ => ⟨[], rfl, fun j q h => absurd h (Nat.not_lt_zero _)⟩
      | succ n ih =>
        intro hn
        obtain ⟨ps, l1, h1⟩ := ih (by omega)
        have e := List.getElem?_eq_getElem (l := kvs) (i := n) hn
        obtain ⟨U, y, hU, hT, ry⟩ := item n _ e
        refine ⟨ps ++ [(kvs[n].1, kvs[n].2.1, y)], by rw [List.length_append, l1]; rfl, fun j q hj hjq => ?_⟩
        by_cases c : j < n
        · obtain ⟨U', y', a1, a2, a3⟩ := h1 j q c hjq
          exact ⟨U', y', a1, by rw [List.getElem?_append_left (by omega)]; exact a2, a3⟩
        · have ej : j = n := by omega
          subst ej
          rw [e] at hjq
          obtain rfl := Option.some.inj hjq
          exact ⟨U, y, hU, by rw [List.getElem?_append_right (by omega), l1, Nat.sub_self]; rfl, hT, ry⟩
    obtain ⟨ps, l1, h1⟩ := key kvs.length (Nat.le_refl _)
    exact ⟨ps, l1, fun j q e => h1 j q (List.getElem?_eq_some_iff.mp e).1 e⟩
  have kv : ∀ (j : Nat) p, ps[j]? = some p → ∃ q, kvs[j]? = some q ∧ p.1 = q.1 ∧ p.2.1 = q.2.1 ∧ ∃ U, Us[j]? = some U ∧ IsTup s.heap U #[.ref p.2.1, p.2.2] ∧ RelV q.2.2 p.2.2 := fun j p e => by
    have jl := (List.getElem?_eq_some_iff.mp e).1
    have eq := List.getElem?_eq_getElem (l := kvs) (i := j) (by omega)
    obtain ⟨U, y, a1, a2, a3, a4⟩ := pp j _ eq
    rw [e] at a2
    obtain rfl := Option.some.inj a2
    exact ⟨_, eq, rfl, rfl, U, a1, a3, a4⟩
  have keys : ps.map (fun q => q.1) = kvs.map fun q => q.1 := by
    apply List.ext_getElem? fun j => ?_
    rw [List.getElem?_map, List.getElem?_map]
    cases e : ps[j]? with
    | none =>
      have : kvs[j]? = none := List.getElem?_eq_none (by have := List.getElem?_eq_none_iff.mp e; omega)
      rw [this]
      rfl
    | some p =>
      obtain ⟨q, e2, e3, _⟩ := kv j p e
      rw [e2]
      exact congrArg some e3
  obtain ⟨o, n, ho, hcl, hdi, hdat⟩ := pl
  have okA : PlainSeq "list" s.heap a (Us.map Value.ref).toArray ∧ PairItems s.heap (Us.map Value.ref).toArray (fun j => Us.getD j 0) (ps.map fun p => (Value.ref p.2.1, p.2.2)) := by
    refine ⟨⟨o, n, ho, hcl, hdi, hdat⟩, by simp; omega, fun j k v e => ?_⟩
    rw [List.getElem?_map] at e
    obtain ⟨p, hp, e2⟩ := Option.map_eq_some_iff.mp e
    obtain ⟨_, _, _, _, U, hU, hT, _⟩ := kv j p hp
    have e3 := Prod.mk.inj e2
    have gd : Us.getD j 0 = U := by rw [List.getD_eq_getElem?_getD, hU]; rfl
    refine ⟨by simp [hU], .inl ?_⟩
    show s.heap.IsTuple (Us.getD j 0) #[k, v]
    rw [gd, ← e3.1, ← e3.2]
    exact hT
  refine call_dict_pairsH (knd := tupleKind (mixKind X.prog X.w)) (ps := ps) (PairArg.list a _ _ _) (I.ok.hd hc) (by show X.A.units + 2 < cLine; omega) okA ⟨by simp, fun j k v e => ?_⟩ (fun h' hk x hx => ?_) (by rw [List.length_map]; omega) fun h' tk hd' hk => ?_
  · have e' : (ps.map fun p => (Value.ref p.2.1, p.2.2))[j]? = some (k, v) := e
    rw [List.getElem?_map] at e'
    obtain ⟨p, hp, e2⟩ := Option.map_eq_some_iff.mp e'
    have e3 := Prod.mk.inj e2
    exact ⟨p.1, p.2.1, by rw [hp, ← e3.2], e3.1.symm⟩
  · obtain ⟨j, hj, e⟩ := List.getElem_of_mem hx
    obtain ⟨q', e1, e2, e3, _⟩ := kv j x (by rw [List.getElem?_eq_getElem hj, e])
    have jl := (List.getElem?_eq_some_iff.mp e1).1
    obtain ⟨_, kt⟩ := hq j _ q' (List.getElem?_eq_getElem (l := Us) (by omega)) e1
    obtain ⟨ob, its2, n2, hob, r2⟩ := key_of (P := X.prog) (w := X.w) I.hok kt
    rw [e2, e3]
    exact ⟨ob, its2, n2, hk _ _ (Nat.ne_of_lt (Heap.lt_size hob)) (by simp) hob, r2⟩
  · have es : storedAllH [] ps = ps := by
      rw [stored_new ps [] (by rw [List.nil_append, keys]; exact nd)]
      rfl
    rw [es] at hd'
    obtain ⟨ob, ents, ep, g1, g2, g3, g4, _, g6⟩ := hd'
    have fr : H s.heap.objs.size = none := I.hok.fresh (Nat.le_refl _)
    have hm : (s.heap.objs.size == sysModules) = false := beq_eq_false_iff_ne.mpr (Nat.ne_of_gt I.big)
    have par : ∀ (m : Nat), Paired (fun (p : List Key × V) (q : List Key × Addr × Value) => p.1 = q.1 ∧ upd H s.heap.objs.size (.dT (kvs.map fun q => (q.1, q.2.2))) q.2.1 = some (.tup (p.1.map kV)) ∧ RelV p.2 q.2.2) ((kvs.drop m).map fun q => (q.1, q.2.2)) (ps.drop m) := by
      have back : ∀ k m, kvs.length - m = k → Paired (fun (p : List Key × V) (q : List Key × Addr × Value) => p.1 = q.1 ∧ upd H s.heap.objs.size (.dT (kvs.map fun q => (q.1, q.2.2))) q.2.1 = some (.tup (p.1.map kV)) ∧ RelV p.2 q.2.2) ((kvs.drop m).map fun q => (q.1, q.2.2)) (ps.drop m) := by
        intro k
        induction k with
        | zero =>
          intro m hk
          rw [List.drop_eq_nil_of_le (by omega), List.drop_eq_nil_of_le (by omega)]
          exact .nil
        | succ k ih =>
          intro m hk
          have l1 : m < kvs.length := by omega
          have l2 : m < ps.length := by omega
          rw [List.drop_eq_getElem_cons l1, List.drop_eq_getElem_cons l2, List.map_cons]
          refine .cons ?_ (ih (m + 1) (by omega))
          obtain ⟨q', e1, e2, e3, _, _, _, ry⟩ := kv m _ (List.getElem?_eq_getElem l2)
          have e4 : q' = kvs[m] := by
            rw [List.getElem?_eq_getElem l1] at e1
            exact (Option.some.inj e1).symm
          subst e4
          obtain ⟨_, kt⟩ := hq m _ _ (List.getElem?_eq_getElem (l := Us) (by omega)) (List.getElem?_eq_getElem l1)
          refine ⟨e2.symm, ?_, ry⟩
          rw [e3, upd_ne (ne_of_none kt fr)]
          exact kt
      exact fun m => back _ m rfl
    have par0 := par 0
    rw [List.drop_zero, List.drop_zero] at par0
    exact ⟨.ref s.heap.objs.size, upd H s.heap.objs.size (.dT (kvs.map fun q => (q.1, q.2.2))), I.laid (t' := tk) (fun b o e => hk b o (by simp) e) (Nat.le_refl _)
      (show ObjOk X.prog X.w _ _ _ (.dT (kvs.map fun q => (q.1, q.2.2))) from ⟨by rw [List.length_map]; omega, hm, ps, par0, ob, ents, ep, g1, g2, g3, g4, g6⟩), rfl, q _ fr⟩
end Kx
end
section
set_option maxRecDepth 100000
set_option maxHeartbeats 4000000
namespace Kx
open PySem PySem.Spec PyProof.Rows L2
abbrev DV := V × PyData
/-- the values of bs, sorted as data -/
def sortedD (bs : List DV) : List DV := bs.mergeSort (PySem.W.dataLe false fun b => b.2)
/-- sorted(xs), xs a list of alike data: a new list -/
def rSortedD (K : PySem.W.Frag) : List V → Hp → VK → Prop := fun vs H Q => ∃ (a : Addr) (bs : List DV), vs = [V.ref a] ∧ SqL K H a (bs.map fun b => b.1) ∧ (∀ b ∈ bs, Dp K H b.1 b.2 ∧ b.2.depth ≤ 40) ∧
  PySem.W.AllAlike (bs.map fun b => b.2) ∧ PySem.W.Sortable (bs.map fun b => b.2) ∧ ∀ p, H p = none → Q (.ref p) (upd H p (.lst ((sortedD bs).map fun b => b.1)))
theorem each_of_vals {us : List Value} : ∀ {bs : List DV} {us : List Value}, Vals (bs.map fun b => b.1) us → PySem.W.EachIs (fun (v : Value) (b : DV) => RelV b.1 v) us bs
  | [], _, .nil => .nil
  | _ :: _, _, .cons r t => .cons r (each_of_vals (us := []) t)
theorem vals_of_each : ∀ {bs : List DV} {us : List Value}, PySem.W.EachIs (fun (v : Value) (b : DV) => RelV b.1 v) us bs → Vals (bs.map fun b => b.1) us
  | _, _, .nil => .nil
  | _, _, .cons r t => .cons r (vals_of_each t)
theorem each_reads {X : Cx} {pins : List (Addr × Obj)} {σ : L2.St} {H : Hp} {s : Shared} (I : Inv X pins σ H s) : ∀ {bs : List DV} {us : List Value}, PySem.W.EachIs (fun (v : Value) (b : DV) => RelV b.1 v) us bs → (∀ b ∈ bs, Dp X.K H b.1 b.2) →
    PySem.W.EachIs (fun v b => ∃ as, Reads s.heap v b.2 as) us bs
  | _, _, .nil, _ => .nil
  | b :: bs, _, .cons r t, h => .cons (Dp.reads I b.2 b.1 _ (h b List.mem_cons_self) r) (each_reads I t fun c hc => h c (List.mem_cons_of_mem _ hc))
theorem cr_sortedD {X : Cx} (hu : X.A.units + 64 < cLine) : CallR X (.builtin "sorted") (rSortedD X.K) := by
  intro pins s σ H vs us Q I r h
  obtain ⟨a, bs, rfl, hs, hd, al, so, q⟩ := h
  obtain ⟨its, rv, hl, hz⟩ := I.list hs
  rw [Vals.ref1 r]
  have e := each_of_vals (us := []) rv
  have er := each_reads I e fun b hb => (hd b hb).1
  rw [List.length_map] at hz
  refine PySem.W.sorted_data (enc := fun b : DV => b.2) (bs := bs) hl.isList e er al so hz (fun b hb => ?_) fun out lo eo => ?_
  · have := (hd b hb).2
    omega
  · obtain ⟨ep, he⟩ := PyProof.Rows.sortedAll_at s.heap its (List.toArray out)
    have ro : Vals ((sortedD bs).map fun b => b.1) out := vals_of_each eo
    have hlen : ((sortedD bs).map fun b => b.1).length ≤ sizeLine := by
      rw [ro.length, lo]
      exact hz
    exact ⟨.ref _, upd H (s.heap.objs.size + 1) (.lst ((sortedD bs).map fun b => b.1)), I.laid (t' := s.toks) (fun _ _ => PyProof.Rows.sortedAll_old) (Nat.le_succ _) ⟨hlen, out, ep, ro, he⟩, rfl, q _ (I.hok.fresh (Nat.le_succ _))⟩
end Kx
end
section
set_option maxRecDepth 100000
set_option maxHeartbeats 4000000
namespace Kx
open PySem PySem.Spec PyProof.Rows L2
/-- all that stood at h stands at h' -/
abbrev Ext (h h' : Heap) : Prop := ∀ b o, h.get? b = some o → h'.get? b = some o
section
variable {P : Program} {w : World} {A : Around} {E : Value → Shared → Prop} {s : Shared}
/-- what a set that is filled item by item keeps: Z i of the heap, behind i items -/
structure Filled (P : Program) (w : World) (A : Around) (E : Value → Shared → Prop) (S : Addr) (h0 : Heap) (items : Array Value) (Z : Nat → Heap → Prop) : Prop where
  zero : ∀ h, h.get? S = some { cls := .type "set", dict := none, data := .set #[] 0 (.fresh 0 0 (!w.params.followText "set-order")) } → Z 0 h
  keep : ∀ i h h', Z i h → (∀ o, h.get? S = some o → h'.get? S = some o) → Ext h0 h' → Z i h'
  step : ∀ i v (s : Shared), items[i]? = some v → Z i s.heap → Ext h0 s.heap → ∀ Q : Bool → Shared → Prop,
    (∀ b h' tk, s.toks ≤ tk → Heap.SameBut S s.heap h' → Z (i + 1) h' → Q b { s with heap := h', toks := tk }) → wpAny (model P w) A (setAdd S v) Q E s
theorem set_loop {I : Addr} {fp wr : List Addr} {G : Array GenState → Array GenState → Prop} {n : Nat} {Pv : Nat → Value → Prop} {St : Nat → Shared → Prop} {R : Result → Shared → Prop} {items : Array Value} {Z : Nat → Heap → Prop}
    (W : WalksS P w A.in1 I fp wr G n Pv St) (S : Addr) (out : S ∉ fp) (h0 : Heap) (fr : h0.get? S = none) (frs : ∀ b ∈ wr, h0.get? b = none) (val : ∀ i v, Pv i v → items[i]? = some v)
    (Y : Filled P w A.in1 (fun v s => R (.error v) s) S h0 items Z) :
    ∀ (k i : Nat) (s : Shared), n - i = k → i ≤ n → St i s → Ext h0 s.heap → Z i s.heap →
      (∀ s', Moved (S :: wr) G s s' → Z n s'.heap → Ext h0 s'.heap → R (.ok (.ret .none)) s') →
      codeAny (model P w) A (.builtin "set.update.loop" ⟨[.ref S, .ref I], []⟩) R s := by
  have oW : S ∉ wr := fun h => out (W.sub _ h)
  have inc : ∀ b ∈ wr, b ∈ S :: wr := fun b hb => List.mem_cons_of_mem _ hb
  have kept : ∀ {s s' : Shared}, Moved wr G s s' → Ext h0 s.heap → Ext h0 s'.heap := fun hm x b o e =>
    hm.heap b o (fun hb => by rw [frs b hb] at e; cases e) (x b o e)
  intro k
  induction k with
  | zero =>
    intro i s ek hi st x z done
    obtain rfl : i = n := by omega
    refine codeAny_builtin F.entry_set_update_loop ?_
    rw [Around.under_plainId F.plain_set_update_loop _]
    show wpAny _ A.in1 (pyNext (.ref I) >>= _) _ _ s
    refine wpAny_bind (W.done s _ _ st fun s' hm => ?_)
    have x' := kept hm x
    exact wpAny_pure (done s' (hm.mono inc) (Y.keep _ _ _ z (fun o e => hm.heap S o oW e) x') x')
  | succ k ih =>
    intro i s ek hi st x z done
    have lt : i < n := by omega
    refine codeAny_builtin F.entry_set_update_loop ?_
    rw [Around.under_plainId F.plain_set_update_loop _]
    show wpAny _ A.in1 (pyNext (.ref I) >>= _) _ _ s
    refine wpAny_bind (W.item i s _ _ lt st fun v s' pv st' hm => ?_)
    have x' := kept hm x
    have z' := Y.keep _ _ _ z (fun o e => hm.heap S o oW e) x'
    show wpAny _ A.in1 (holding [v] (setAdd S v) >>= _) _ _ s'
    refine wpAny_bind (wpAny_holding (Y.step i v s' (val i v pv) z' x' _ fun b h' tk le sb z2 => ?_))
    have x2 : Ext h0 h' := fun b o e => (sb.2 b (fun q => by rw [q, fr] at e; cases e)).trans (x' b o e)
    refine wpAny_pure ⟨plainId_quiet F.plain_set_update_loop _, ih (i + 1) _ (by omega) lt (W.frame _ s' _ _ st' le fun b hb o e => ?_) x2 z2 fun s2 hm2 z3 x3 => ?_⟩
    · exact (sb.2 b (fun q : b = S => out (by rw [← q]; exact hb))).trans e
    · refine done s2 (Moved.trans W.gtrans ((hm.mono inc).then_heap le fun b o hb e => ?_) hm2) z3 x3
      exact (sb.2 b (fun q : b = S => hb (by rw [q]; exact List.mem_cons_self))).trans e
end
end Kx
end
section
set_option maxRecDepth 100000
set_option maxHeartbeats 4000000
namespace Kx
open PySem PySem.Spec PyProof.Rows L2
section
variable {P : Program} {w : World} {A : Around} {E : Value → Shared → Prop} {s : Shared}
abbrev newSetO (w : World) : Obj := { cls := .type "set", dict := none, data := .set #[] 0 (.fresh 0 0 (!w.params.followText "set-order")) }
/-- set(xs), xs a list: what the filling keeps stands behind it -/
theorem call_set_any {l : Addr} {items : Array Value} {Z : Nat → Heap → Prop} {Q : Value → Shared → Prop} (hh : A.handled = none) (hl : s.heap.IsList l items)
    (Y : ∀ E, Filled P w A.in1.in1.in1 E s.heap.objs.size s.heap items Z)
    (h : ∀ (h' : Heap) (tk : Nat), Z items.size h' → Ext s.heap h' → Q (.ref s.heap.objs.size) { s with heap := h', toks := tk }) : wpAny (model P w) A (call (.type "set") [.ref l]) Q E s := by
  obtain ⟨c, tl, mro⟩ := F.called_set.mro
  have made := F.called_set.made
  have sub := F.called_set.sub
  refine wpAny_call (codeAny_of_tree ?_)
  show wpAny _ _ (callAny (.type "set") _) _ _ _
  refine wpAny_pure ⟨Code.quiet_builtin _ (by decide +kernel), codeAny_builtin F.entry_type_call ?_⟩
  rw [Around.under_plain (weight_type_call_type "set" [.ref l] []) rfl]
  have nT := F.called_set.notType
  have cC := F.called_set.canCreate
  have tC := F.typeCall_set_1 (.ref l)
  repeat (any_goals (first | assumption | wp_step))
  refine codeAny_mono (code_set_led1 (.ref l) (E := E) (Q₁ := fun r s1 => r = .ref s.heap.objs.size ∧ s1 = { s with heap := s.heap.push (newSetO w) }) ⟨rfl, rfl⟩) fun r s1 hr => ?_
  cases r with
  | error e => exact hr
  | ok fl =>
    cases fl with
    | ret r1 =>
      obtain ⟨rfl, rfl⟩ := hr
      have hS : (s.heap.push (newSetO w)).get? s.heap.objs.size = some (newSetO w) := Heap.get?_push_size _ rfl
      have hT : Shared.TypeIs { s with heap := s.heap.push (newSetO w) } (.ref s.heap.objs.size) "set" := ⟨_, hS, rfl⟩
      have look := F.called_set.init.lookup
      have bind := F.called_set.init.bind (.ref s.heap.objs.size)
      repeat (any_goals (first | assumption | wp_step))
      refine codeAny_mono (codeAny_call_builtin (R := wants (fun r s2 => r = .none ∧ ∃ h' tk, s2 = { s with heap := h', toks := tk } ∧ Z items.size h' ∧ Ext s.heap h') E) F.called_set.init.plain F.entry_set_init (check_set_init_1 hT ?_)) fun r2 s2 hr2 => ?_
      · obtain ⟨⟨oc, od, oda, osl⟩, ho, hc, n, hd⟩ := hl
        simp only at hc hd
        subst hc
        subst hd
        have ho1 := Heap.get?_push_of_some (newSetO w) ho
        have h1 : (s.heap.push (newSetO w)).IsList l items := ⟨_, ho1, rfl, n, rfl⟩
        have c1 := F.sub_list_set
        have c2 := F.sub_list_frozenset
        have c3 : (Value.type "list" == Value.type "dict") = false := by decide
        unfold Builtin.«set.__init__» noKeywords Builtin.Frozenset.updateFrom
        generalize pi : pyIter = PI
        wp_walk
        subst pi
        refine wpAny_pyIter_list h1 ?_
        refine wpAny_bind (wpAny_runValue ?_)
        have lt : l < s.heap.objs.size := Heap.lt_size ho
        have h3 : A.in1.in1.in1.handled = none := by simp [hh]
        have z1 : (s.heap.push (newSetO w)).objs.size = s.heap.objs.size + 1 := Heap.size_push ..
        have ne : l ≠ (s.heap.push (newSetO w)).objs.size := Nat.ne_of_lt (by rw [z1]; exact Nat.lt_succ_of_lt lt)
        have none_of : ∀ b, s.heap.objs.size ≤ b → s.heap.get? b = none := fun b hb => Heap.get?_none_of_le hb
        refine set_loop (Z := Z) ((Walks.list h3 _ l ne items).toS) s.heap.objs.size ?hSf s.heap (none_of _ (Nat.le_refl _)) (fun b hb => none_of b ?hb) (fun i v hv => hv) (Y _) (items.size - 0) 0 _ (by omega) (Nat.zero_le _)
          ⟨⟨_, Heap.get?_push_size _ rfl, rfl, rfl⟩, (h1.push _)⟩ (fun b o e => Heap.get?_push_of_some _ (Heap.get?_push_of_some _ e)) ?h0 ?hR
        case hSf =>
          rw [z1]
          simp only [List.mem_cons, List.mem_singleton, List.not_mem_nil, or_false, not_or]
          exact ⟨Nat.ne_of_lt (Nat.lt_succ_self _), Nat.ne_of_gt lt⟩
        case hb =>
          rw [List.mem_singleton.mp hb, z1]
          exact Nat.le_succ _
        case h0 =>
          exact (Y E).zero _ (Heap.get?_push_of_some _ hS)
        case hR =>
          intro s' hm hz hx
          obtain ⟨h', g', d', tk', os'⟩ := s'
          have eg : g' = s.gens := hm.gens
          have ed : d' = s.drawn := hm.drawn
          have eo : os' = s.os := hm.os
          subst eg ed eo
          refine wpAny_pure ?_
          show wpAny _ _ (ret Value.none) _ _ _
          exact wpAny_pure ⟨rfl, h', tk', rfl, hz, hx⟩
      · cases r2 with
        | error e => exact hr2
        | ok f2 =>
          cases f2 with
          | ret r =>
            obtain ⟨rfl, h', tk, rfl, hz, hx⟩ := hr2
            repeat (any_goals (first | assumption | wp_step))
            exact h _ _ hz hx
          | _ => exact hr2.elim
    | _ => exact hr.elim
end
end Kx
end
section
set_option maxRecDepth 100000
set_option maxHeartbeats 4000000
namespace Kx
open PySem PySem.Spec PyProof.Rows L2
/-- the tuple at a holds the keys k -/
abbrev IsK (P : Program) (w : World) (h : Heap) (k : List Key) (a : Addr) : Prop := IsTupleKey (mixKind P w) h k a
abbrev hashK (P : Program) (w : World) (k : List Key) : Int := tupleKeyHash (mixKind P w) k
section
variable {P : Program} {w : World} {A : Around} {E : Value → Shared → Prop} {s : Shared}
theorem key_byval {k : Key} {v : Value} (h : (mixKind P w).is k v = true) : carriedByValue v = true := (mixKind P w).byValue _ _ h
theorem cls_val (n : Nat) {v : Value} (h : carriedByValue v = true) : ofAClassStatement n v = pure false := by
  cases v with
  | ref a => exact absurd h (by simp [carriedByValue])
  | _ => cases n <;> rfl
theorem items_byval {k : List Key} {vs : List Value} (h : ItemsAre (mixKind P w) k vs) : ∀ v ∈ vs, carriedByValue v = true := h.byValue
theorem cls_tup {k : List Key} {b : Addr} {Q : Bool → Shared → Prop} (hk : IsK P w s.heap k b) (h : Q false s) : wpAny (model P w) A (ofAClassStatement 8 (.ref b)) Q E s := by
  have ty := hk.typeIs
  obtain ⟨o, items, n, ho, _, hd, hi⟩ := hk
  have bv := items_byval hi
  unfold ofAClassStatement
  refine wpAny_bind (wpAny_typeOf ty ?_)
  dsimp only
  rw [show (("tuple" : String) == "tuple") = true by decide]
  simp only [if_true, Bool.not_true, Bool.false_eq_true, if_false]
  try refine wpAny_bind (wpAny_pure ?_)
  try simp only [Bool.not_true, Bool.false_eq_true, if_false]
  show wpAny _ _ (seqItems? (.ref b) >>= _) _ _ s
  refine wpAny_bind (wpAny_seqItems ho hd ?_)
  dsimp only
  refine wpAny_bind ?_
  show wpAny _ _ (forIn items _ _) _ _ s
  rw [← Array.forIn_toList]
  refine wpAny_forIn_list _ (fun left r s' => r.1 = none ∧ s' = s ∧ ∀ v ∈ left, carriedByValue v = true) _ ?_ ?_ _ _ ⟨rfl, rfl, bv⟩
  · rintro v left r s' ⟨hr, rfl, al⟩
    rw [cls_val _ (al v List.mem_cons_self)]
    refine wpAny_bind (wpAny_pure ?_)
    simp only [Bool.false_eq_true, if_false]
    exact wpAny_pure ⟨rfl, rfl, fun u hu => al u (List.mem_cons_of_mem _ hu)⟩
  · rintro ⟨r1, r2⟩ s' ⟨hr, rfl, _⟩
    obtain rfl : r1 = none := hr
    exact wpAny_pure h
theorem hashV_val (n : Nat) {k : Key} {v : Value} (h : (mixKind P w).is k v = true) : ∃ c, hashByValue n v = pure c := by
  rcases keyIs_shape h with ⟨i, t, _, rfl⟩ | ⟨x, t, _, rfl⟩
  · exact ⟨true, by cases n <;> rfl⟩
  · exact ⟨false, by cases n <;> rfl⟩
theorem items_hash {k : List Key} {vs : List Value} (h : ItemsAre (mixKind P w) k vs) (n : Nat) : ∀ v ∈ vs, ∃ c, hashByValue n v = pure c := by
  induction h with
  | nil =>
    intro v hv
    cases hv
  | cons h1 _ ih =>
    intro v hv
    rcases List.mem_cons.mp hv with e | hv
    · rw [e]
      exact hashV_val n h1
    · exact ih v hv
theorem hashV_tup {k : List Key} {b : Addr} {Q : Bool → Shared → Prop} (hk : IsK P w s.heap k b) (h : ∀ c, Q c s) : wpAny (model P w) A (hashByValue 8 (.ref b)) Q E s := by
  have ty := hk.typeIs
  obtain ⟨o, items, n, ho, _, hd, hi⟩ := hk
  have bv := items_hash hi 7
  unfold hashByValue
  refine wpAny_bind (wpAny_specialOf ty F.slot_tuple_hash.lookup ?_)
  show wpAny _ _ (seqItems? (.ref b) >>= _) _ _ s
  refine wpAny_bind (wpAny_seqItems ho hd ?_)
  refine wpAny_bind ?_
  show wpAny _ _ (forIn items _ _) _ _ s
  rw [← Array.forIn_toList]
  refine wpAny_forIn_list _ (fun left r s' => r.1 = none ∧ s' = s ∧ ∀ v ∈ left, ∃ c, hashByValue 7 v = pure c) _ ?_ ?_ _ _ ⟨rfl, rfl, bv⟩
  · rintro v left r s' ⟨hr, rfl, al⟩
    obtain ⟨c, e⟩ := al v List.mem_cons_self
    rw [e]
    refine wpAny_bind (wpAny_pure ?_)
    cases c with
    | false =>
      simp only [Bool.not_false, if_true]
      exact wpAny_pure (wpAny_pure (h _))
    | true =>
      simp only [Bool.not_true, Bool.false_eq_true, if_false]
      exact wpAny_pure ⟨rfl, rfl, fun u hu => al u (List.mem_cons_of_mem _ hu)⟩
  · rintro ⟨r1, r2⟩ s' ⟨hr, rfl, _⟩
    obtain rfl : r1 = none := hr
    exact wpAny_pure (h _)
end
end Kx
end
section
set_option maxRecDepth 100000
set_option maxHeartbeats 4000000
namespace Kx
open PySem PySem.Spec PyProof.Rows L2
section
variable {P : Program} {w : World} {A : Around} {E : Value → Shared → Prop} {s : Shared}
theorem seen_none {k : List Key} {b : Addr} {Q : Bool → Shared → Prop} (hk : IsK P w s.heap k b) {ys : List Value} (hy : ∀ y ∈ ys, ∃ k' c, y = Value.ref c ∧ IsK P w s.heap k' c) (h : Q false s) :
    wpAny (model P w) A (searchCouldBeSeen (.ref b) ys) Q E s := by
  unfold searchCouldBeSeen
  refine wpAny_bind ?_
  refine wpAny_forIn_list _ (fun left r s' => r.1 = none ∧ s' = s ∧ ∀ y ∈ left, ∃ k' c, y = Value.ref c ∧ IsK P w s.heap k' c) _ ?_ ?_ _ _ ⟨rfl, rfl, hy⟩
  · rintro v left r s' ⟨hr, rfl, al⟩
    obtain ⟨k', c, rfl, hc⟩ := al v List.mem_cons_self
    have al' : ∀ y ∈ left, ∃ k' c, y = Value.ref c ∧ IsK P w s'.heap k' c := fun u hu => al u (List.mem_cons_of_mem _ hu)
    dsimp only
    by_cases same : (b == c || (carriedByValue (.ref b) && carriedByValue (.ref c))) = true
    · exact wp_if_pos same (wpAny_pure ⟨rfl, rfl, al'⟩)
    · refine wp_if_neg same ?_
      refine wpAny_bind (wpAny_eqIsQuiet_tuple hk ?_)
      simp only [Bool.not_true, Bool.false_eq_true, if_false]
      refine wpAny_bind (wpAny_eqIsQuiet_tuple hc ?_)
      simp only [Bool.not_true, Bool.false_eq_true, if_false]
      refine wpAny_bind (cls_tup hk ?_)
      simp only [Bool.false_eq_true, if_false]
      refine wpAny_bind (cls_tup hc ?_)
      simp only [Bool.false_eq_true, if_false]
      exact wpAny_pure ⟨rfl, rfl, al'⟩
  · rintro ⟨r1, r2⟩ s' ⟨hr, rfl, _⟩
    obtain rfl : r1 = none := hr
    exact wpAny_pure h
abbrev ents (P : Program) (w : World) (L : List (Addr × List Key)) : List (Int × Value) := L.map fun p => (hashK P w p.2, Value.ref p.1)
abbrev hashes (P : Program) (w : World) (L : List (Addr × List Key)) : List Int := L.map fun p => hashK P w p.2
/-- the set at S holds the tuples L -/
structure TSet (P : Program) (w : World) (h : Heap) (S : Addr) (L : List (Addr × List Key)) (es : Array (Int × Value)) (ep : Nat) (t : SetTable) : Prop where
  ob : ∃ o, h.get? S = some o ∧ o.ExactSet ∧ o.data = .set es ep t
  es_eq : es.toList = ents P w L
  tab : TabOk t (hashes P w L)
  nd : (L.map (·.2)).Nodup
  tup : ∀ p ∈ L, IsK P w h p.2 p.1
  room : L.length * 5 < t.mask * 3
  few : L.length < 64
variable {S : Addr} {L : List (Addr × List Key)} {es : Array (Int × Value)} {ep : Nat} {t : SetTable}
theorem ents_size (e : es.toList = ents P w L) : es.size = L.length := by
  have h := congrArg List.length e
  rw [Array.length_toList, List.length_map] at h
  exact h
theorem TSet.fits (R : TSet P w s.heap S L es ep t) : t.fits es.size = true := by
  have h1 := R.tab.sz
  rw [List.length_map] at h1
  have h2 := ents_size R.es_eq
  have h3 := R.room
  unfold SetTable.fits SetTable.fill
  rw [R.tab.dm, Bool.and_eq_true, beq_iff_eq, decide_eq_true_eq]
  exact ⟨by omega, by show t.place.size + 0 ≤ t.mask; omega⟩
theorem TSet.ent (R : TSet P w s.heap S L es ep t) {i : Nat} {p : Addr × List Key} (h : L[i]? = some p) : es[i]? = some (hashK P w p.2, Value.ref p.1) := by
  rw [← Array.getElem?_toList, R.es_eq, List.getElem?_map, h]
  rfl
theorem no_dummy (m : Nat) : ∀ (n : Nat) (p : SetTable.Probe), p.dummy = none → (nth m p n).dummy = none
  | 0, _, h => h
  | n + 1, p, h => no_dummy m n (adv m p) (by
    unfold adv
    split <;> exact h)
/-- a search from the c-th step of its way on -/
theorem tsearch (R : TSet P w s.heap S L es ep t) {x : Addr} {k : List Key} (hx : IsK P w s.heap k x) (hu : A.units < cLine) {h : Int} (eh : h = hashK P w k) {K : Nat} (hKf : K < 10 * SetTable.turns t.mask)
    (hK : way t.mask h K ∉ t.place.toList) (hKb : ∀ c, c < K → way t.mask h c ∈ t.place.toList) {Q : SetFound → Shared → Prop}
    (yes : k ∈ L.map (·.2) → Q (.there none) s) (no : k ∉ L.map (·.2) → Q (.free (way t.mask h K) false) s) :
    ∀ (f c : Nat) (stand : Option SetTable.Probe), stand.getD (t.probeStart h) = nth t.mask (runAt t.mask (SetTable.bits h % (t.mask + 1)) (SetTable.bits h)) c → c ≤ K → K - c < f →
      (∀ (i : Nat) p, L[i]? = some p → p.2 = k → ∃ c', c ≤ c' ∧ c' < K ∧ t.place.toList[i]? = some (way t.mask h c')) →
      wpAny (model P w) A (setSearchFrom S (.ref x) h true f stand) Q E s
  | 0, c, stand, _, _, hf, _ => absurd hf (Nat.not_lt_zero _)
  | f + 1, c, stand, hst, hc, hf, hre => by
    obtain ⟨o, ho, hex, hd⟩ := R.ob
    have gw : ¬ t.gaveWay = true := by
      unfold SetTable.gaveWay
      rw [mask_odd R.tab.mok]
      decide
    rw [setSearchFrom_succ]
    refine wpAny_bind (wpAny_setState_of ho hd R.fits ?_)
    dsimp only
    refine wp_if_neg gw ?_
    try refine wpAny_bind (wpAny_pure ?_)
    obtain ⟨r0, er0⟩ : ∃ r0, r0 = runAt t.mask (SetTable.bits h % (t.mask + 1)) (SetTable.bits h) := ⟨_, rfl⟩
    have wy : ∀ q, (nth t.mask r0 q).j = way t.mask h q := fun q => by rw [er0]
    have e1 : ∀ q, (nth t.mask (nth t.mask r0 c) q).j = way t.mask h (c + q) := fun q => by rw [← nth_add, wy]
    rw [← er0] at hst
    have spec := go_spec t R.tab.ris R.tab.dm (fun i => (es[i]?.map (·.1)).getD 0) h (10 * SetTable.turns t.mask) (K - c) (nth t.mask r0 c) (no_dummy _ _ _ (by rw [er0]; rfl)) (by omega)
      (fun q hq => by rw [e1]; exact hKb _ (by omega)) (by rw [e1, show c + (K - c) = K by omega]; exact hK)
    have hat : ∀ (i : Nat) p, L[i]? = some p → (es[i]?.map (·.1)).getD 0 = hashK P w p.2 := fun i p hp => by
      rw [R.ent hp]
      rfl
    have later : ∀ q : Nat, (∀ k' i' : Nat, k' < q → t.place.toList[i']? = some (nth t.mask (nth t.mask r0 c) k').j → (es[i']?.map (·.1)).getD 0 ≠ h) → ∀ (i : Nat) p, L[i]? = some p → p.2 = k → ∀ c', c ≤ c' → t.place.toList[i]? = some (way t.mask h c') → c + q ≤ c' :=
      fun q hno i p hp hk c' lo hi => by
        rcases Nat.lt_or_ge c' (c + q) with z | z
        · exfalso
          refine hno (c' - c) i (by omega) (by rw [e1, show c + (c' - c) = c' by omega]; exact hi) ?_
          rw [hat i p hp, hk, eh]
        · exact z
    rcases spec with ⟨q, i, hq, hi, hh, hno, hpr⟩ | ⟨hno, hpr⟩
    · have pr : t.probe (fun i => (es[i]?.map (·.1)).getD 0) h (stand.getD (t.probeStart h)) = some (.candidate (way t.mask h (c + q)) i (nth t.mask r0 (c + (q + 1)))) := by
        rw [hst, ← e1, nth_add]
        exact hpr
      rw [pr]
      dsimp only
      rw [e1] at hi
      have il : i < L.length := by
        have h1 : i < t.place.toList.length := (List.getElem?_eq_some_iff.mp hi).1
        have h2 := R.tab.sz
        rw [List.length_map] at h2
        rw [Array.length_toList] at h1
        omega
      have hp : L[i]? = some L[i] := List.getElem?_eq_getElem il
      generalize L[i] = p at hp
      have pm : p ∈ L := List.mem_of_getElem? hp
      have rest : wpAny (model P w) A (searchRest S (.ref x) h true f es t (way t.mask h (c + q)) i (nth t.mask r0 (c + (q + 1)))) Q E s := by
        unfold searchRest
        rw [R.ent hp]
        dsimp only
        refine wpAny_bind (wpAny_holding (wpAny_eqBool_tuple hu (R.tup p pm) hx ?_))
        refine wpAny_bind (wpAny_setState_of ho hd R.fits ?_)
        dsimp only
        by_cases ek : p.2 = k
        · exact wp_if_pos (by simp [ek]) (wpAny_pure (yes (List.mem_map.mpr ⟨p, pm, ek⟩)))
        · refine wp_if_neg (by simp [ek]) ?_
          try refine wpAny_bind (wpAny_pure ?_)
          rw [sameMem]
          dsimp only
          have sl : t.slot (way t.mask h (c + q)) = .live i := slot_live R.tab.ris hi
          simp only [if_true, sl, R.ent hp]
          refine wpAny_bind (wpAny_isSame_ref_self (wpAny_bind (wpAny_pure ?_)))
          simp only [if_true]
          refine wp_if_neg (by simp [ek]) ?_
          refine tsearch R hx hu eh hKf hK hKb yes no f (c + (q + 1)) _ (by rw [← er0]; rfl) (by omega) (by omega) fun i0 p0 h0 k0 => ?_
          obtain ⟨c', a1, a2, a3⟩ := hre i0 p0 h0 k0
          refine ⟨c', ?_, a2, a3⟩
          have ge := later q hno i0 p0 h0 k0 c' a1 a3
          rcases Nat.lt_or_ge (c + q) c' with y | y
          · omega
          · exfalso
            rw [show c' = c + q by omega] at a3
            have s0 := slot_live R.tab.ris a3
            rw [sl] at s0
            injection s0 with s0
            rw [← s0, hp] at h0
            exact ek ((congrArg Prod.snd (Option.some.inj h0)).trans k0)
      by_cases hl : t.led = true
      · refine wp_if_neg (by simp [hl]) ?_
        try refine wpAny_bind (wpAny_pure ?_)
        exact rest
      · refine wp_if_pos (by simp [hl]) ?_
        refine wpAny_bind (seen_none hx (fun y hy => ?_) ?_)
        · obtain ⟨e, he, ee⟩ := List.mem_map.mp hy
          have he1 : e ∈ es ∧ e.1 = h := by simpa using he
          have he2 : e ∈ es.toList := by simpa using he1.1
          rw [R.es_eq] at he2
          obtain ⟨p2, hp2, e2⟩ := List.mem_map.mp he2
          exact ⟨p2.2, p2.1, by rw [← ee, ← e2], R.tup p2 hp2⟩
        · refine wp_if_neg (by decide) ?_
          try refine wpAny_bind (wpAny_pure ?_)
          exact rest
    · have pr : t.probe (fun i => (es[i]?.map (·.1)).getD 0) h (stand.getD (t.probeStart h)) = some (.empty (way t.mask h K) none) := by
        rw [hst, show way t.mask h K = (nth t.mask (nth t.mask r0 c) (K - c)).j by rw [e1, show c + (K - c) = K by omega]]
        exact hpr
      rw [pr]
      dsimp only
      refine wpAny_pure (no fun hm => ?_)
      obtain ⟨p0, h0, k0⟩ := List.mem_map.mp hm
      obtain ⟨i0, hi0, e0⟩ := List.getElem_of_mem h0
      have h00 : L[i0]? = some p0 := by rw [List.getElem?_eq_getElem hi0, e0]
      obtain ⟨c', a1, a2, a3⟩ := hre i0 p0 h00 k0
      have ge := later (K - c) hno i0 p0 h00 k0 c' a1 a3
      omega
/-- .. as adding asks it -/
theorem tsearch_at (R : TSet P w s.heap S L es ep t) {x : Addr} {k : List Key} (hx : IsK P w s.heap k x) (hu : A.units < cLine) {h : Int} (eh : h = hashK P w k) {Q : SetFound → Shared → Prop}
    (yes : k ∈ L.map (·.2) → Q (.there none) s)
    (no : ∀ K, k ∉ L.map (·.2) → way t.mask h K ∉ t.place.toList → (∀ c, c < K → way t.mask h c ∈ t.place.toList) → Q (.free (way t.mask h K) false) s) :
    wpAny (model P w) A (setSearch S (.ref x) h true) Q E s := by
  have room := R.room
  obtain ⟨K, hKf, hK, hKb⟩ := R.tab.first (by rw [List.length_map]; omega) h
  have turns : 10 * SetTable.turns t.mask ≤ 1420 := by
    unfold SetTable.turns
    rcases R.tab.mok with e | e | e <;> omega
  unfold setSearch
  refine tsearch R hx hu eh hKf hK hKb yes (fun hn => no K hn hK hKb) 100000 0 none rfl (Nat.zero_le _) (by omega) fun i p hp hk => ?_
  have hi : (hashes P w L)[i]? = some h := by
    rw [List.getElem?_map, hp, eh, ← hk]
    rfl
  have il : i < t.place.toList.length := by
    have h1 : i < L.length := (List.getElem?_eq_some_iff.mp hp).1
    have h2 := R.tab.sz
    rw [List.length_map] at h2
    rw [Array.length_toList]
    omega
  have hj := List.getElem?_eq_getElem il
  obtain ⟨c, hc, e⟩ := R.tab.before hK hi hj
  exact ⟨c, Nat.zero_le _, hc, by rw [hj, e]⟩
end
end Kx
end
section
set_option maxRecDepth 100000
set_option maxHeartbeats 4000000
namespace Kx
open PySem PySem.Spec PyProof.Rows L2
section
variable {P : Program} {w : World} {A : Around} {E : Value → Shared → Prop} {s : Shared}
theorem isK_but {h h' : Heap} {k : List Key} {a b : Addr} {o : Obj} {es : Array (Int × Value)} {ep : Nat} {t : SetTable} (hb : IsK P w h k b) (ho : h.get? a = some o) (hd : o.data = .set es ep t) (hs : Heap.SameBut a h h') : IsK P w h' k b := by
  obtain ⟨o', items, n, ho', hc, hd', hi⟩ := hb
  refine ⟨o', items, n, (hs.2 b ?_).trans ho', hc, hd', hi⟩
  rintro rfl
  obtain rfl : o' = o := Option.some.inj (ho'.symm.trans ho)
  rw [hd] at hd'
  exact nomatch hd'
theorem isK_ext {h h' : Heap} {k : List Key} {b : Addr} (x : IsK P w h k b) (hk : Ext h h') : IsK P w h' k b := by
  obtain ⟨o, items, n, ho, r⟩ := x
  exact ⟨o, items, n, hk b o ho, r⟩
theorem fm_some {α : Type} {L : List α} : ∀ n, n ≤ L.length → (List.range n).filterMap (fun i => L[i]?) = L.take n
  | 0, _ => rfl
  | n + 1, hn => by
    have lt : n < L.length := hn
    rw [List.range_succ, List.filterMap_append, fm_some n (Nat.le_of_lt lt), List.take_succ, List.getElem?_eq_getElem lt, List.filterMap_cons_some (List.getElem?_eq_getElem lt)]
    rfl
theorem ents_order (L : List (Addr × List Key)) (es : Array (Int × Value)) (order : Array Nat) (hr : es.toList = ents P w L) (hp : order.toList.Perm (List.range L.length)) :
    ∃ L2, (order.filterMap (es[·]?)).toList = ents P w L2 ∧ L2.Perm L ∧ hashes P w L2 = order.toList.map fun i => (es.map (·.1)).getD i 0 := by
  have sz := ents_size hr
  have at_ : ∀ i (h : i < L.length), es[i]? = some (hashK P w (L[i]).2, Value.ref (L[i]).1) := fun i h => by
    rw [← Array.getElem?_toList, hr, List.getElem?_map, List.getElem?_eq_getElem h]
    rfl
  have key : ∀ l : List Nat, (∀ i ∈ l, i < L.length) → l.filterMap (fun i => es[i]?) = ents P w (l.filterMap fun i => L[i]?) ∧ hashes P w (l.filterMap fun i => L[i]?) = l.map fun i => (es.map (·.1)).getD i 0 := by
    intro l
    induction l with
    | nil => exact fun _ => ⟨rfl, rfl⟩
    | cons i l ih =>
      intro hl
      have hi := hl i List.mem_cons_self
      obtain ⟨e1, e3⟩ := ih fun j hj => hl j (List.mem_cons_of_mem _ hj)
      have e5 : (es.map (·.1))[i]? = some (hashK P w (L[i]).2) := by
        rw [Array.getElem?_map, at_ i hi]
        rfl
      constructor
      · rw [List.filterMap_cons_some (at_ i hi), e1, List.filterMap_cons_some (List.getElem?_eq_getElem hi)]
        rfl
      · rw [List.filterMap_cons_some (List.getElem?_eq_getElem hi), List.map_cons]
        show hashK P w (L[i]).2 :: hashes P w _ = _
        rw [e3]
        simp [Array.getD_eq_getD_getElem?, e5]
  obtain ⟨e1, e3⟩ := key order.toList fun i hi => List.mem_range.mp (hp.mem_iff.mp hi)
  refine ⟨_, by first | (rw [Array.toList_filterMap]; exact e1) | simpa using e1, ?_, e3⟩
  have h1 := hp.filterMap fun i => L[i]?
  rw [fm_some L.length (Nat.le_refl _), List.take_length] at h1
  exact h1
variable {S : Addr} {L : List (Addr × List Key)} {es : Array (Int × Value)} {ep : Nat} {t : SetTable}
/-- the table laid anew -/
theorem trelay {o : Obj} (ho : s.heap.get? S = some o) (hex : o.ExactSet) (hd : o.data = .set es ep t) (hr : es.toList = ents P w L) (hsz : t.place.size = es.size) (hdm : t.dummies = #[]) (hfl : es.size ≤ t.mask)
    (nd : (L.map (·.2)).Nodup) (tup : ∀ p ∈ L, IsK P w s.heap p.2 p.1) (few : L.length < 64) {wanted M : Nat} (hw : SetTable.sizeAbove wanted - 1 = M) (hM : MaskOk M) (hw2 : SetTable.sizeAbove wanted ≤ 128) (hn : L.length * 5 < M * 3)
    {Q : Unit → Shared → Prop} (hQ : ∀ h' L' es' ep' t', Heap.SameBut S s.heap h' → TSet P w h' S L' es' ep' t' → L'.Perm L → Q () { s with heap := h' }) : wpAny (model P w) A (setRelay S wanted) Q E s := by
  have sl := ents_size hr
  have fits : t.fits es.size = true := by
    unfold SetTable.fits SetTable.fill
    rw [hdm, Bool.and_eq_true, beq_iff_eq, decide_eq_true_eq]
    exact ⟨hsz, by show t.place.size + 0 ≤ t.mask; omega⟩
  obtain ⟨t', order, e, hp, T, em, _, _, _⟩ := relaid_ok t (hs := es.map (·.1)) (wanted := wanted) hw hM (by rw [Array.size_map, sl]; omega)
  rw [Array.size_map, sl] at hp
  obtain ⟨L2, r1, r2, r3⟩ := ents_order L es order hr hp
  rw [← r3] at T
  have s2 : (order.filterMap (es[·]?)).size = es.size := by rw [ents_size r1, r2.length_eq, sl]
  rw [setRelay_eq]
  refine wpAny_bind (wpAny_setState_of ho hd fits ?_)
  dsimp only
  refine wp_if_neg (by rw [sizeLine_eq]; omega) ?_
  try refine wpAny_bind (wpAny_pure ?_)
  rw [e]
  dsimp only
  refine wpAny_bind ?_
  refine wp_if_neg (by rw [s2]; simp) ?_
  try refine wpAny_bind (wpAny_pure ?_)
  refine wpAny_pure ?_
  dsimp only
  refine wpAny_storeSet_of ho hd ?_ (by rw [s2, sl, sizeLine_eq]; omega)
  have sb : Heap.SameBut S s.heap (s.heap.update S (Obj.putSet (order.filterMap (es[·]?)) t')) := Heap.SameBut.update ..
  exact hQ _ L2 _ (ep + 1) t' sb ⟨⟨_, store_at ho hd, ⟨hex.1, hex.2.1, hex.2.2⟩, rfl⟩, r1, T, (r2.map (·.2)).nodup_iff.mpr nd, fun p hp => isK_but (tup p (r2.mem_iff.mp hp)) ho hd sb,
    by rw [r2.length_eq, em]; exact hn, by rw [r2.length_eq]; exact few⟩ r2
theorem hashes_put (L : List (Addr × List Key)) (p : Nat) (x : Addr) (k : List Key) : hashes P w (L.take p ++ (x, k) :: L.drop p) = (hashes P w L).take p ++ hashK P w k :: (hashes P w L).drop p := by
  unfold hashes
  rw [List.map_append, List.map_cons, List.map_take, List.map_drop]
theorem ents_put (L : List (Addr × List Key)) (p : Nat) (x : Addr) (k : List Key) : ents P w (L.take p ++ (x, k) :: L.drop p) = (ents P w L).take p ++ (hashK P w k, Value.ref x) :: (ents P w L).drop p := by
  unfold ents
  rw [List.map_append, List.map_cons, List.map_take, List.map_drop]
theorem tabOk_plain {t : SetTable} {hs : List Int} (T : TabOk t hs) (b : Bool) : TabOk { t with plain := b } hs := ⟨T.ris, T.dm, T.sz, T.mok, T.bd, T.reach⟩
/-- one tuple added -/
theorem tadd (R : TSet P w s.heap S L es ep t) {x : Addr} {k : List Key} (hx : IsK P w s.heap k x) (hu : A.units < cLine) (few : L.length + 1 < 64) {h : Int} (eh : h = hashK P w k) {Q : Bool → Shared → Prop}
    (hQ : ∀ b h' L' es' ep' t', Heap.SameBut S s.heap h' → TSet P w h' S L' es' ep' t' → (k ∈ L.map (·.2) → L' = L) → (k ∉ L.map (·.2) → L'.Perm ((x, k) :: L)) → Q b { s with heap := h' }) :
    wpAny (model P w) A (setAddHashed S (.ref x) h) Q E s := by
  obtain ⟨o, ho, hex, hd⟩ := R.ob
  have sl := ents_size R.es_eq
  have room := R.room
  unfold setAddHashed
  refine wpAny_holding ?_
  rw [show (100000 : Nat) = 99999 + 1 from rfl, setAddHashedIn_succ]
  refine wpAny_bind (wpAny_setState_of ho hd R.fits ?_)
  dsimp only
  refine wp_if_neg (by simp [byScan, Value.scannable]) ?_
  try refine wpAny_bind (wpAny_pure ?_)
  refine wpAny_bind (tsearch_at R hx hu eh (fun hm => ?_) fun K hm hK hb => ?_)
  · dsimp only
    exact wpAny_pure (hQ false s.heap L es ep t (Heap.SameBut.refl S s.heap) R (fun _ => rfl) fun z => absurd hm z)
  · dsimp only
    refine wpAny_bind (wpAny_setState_of ho hd R.fits ?_)
    dsimp only
    obtain ⟨q1, q2, q3, q4, _, _, _, _, q9⟩ := R.tab.put hK hb
    generalize ept : t.put (way t.mask h K) = pt at q1 q3 q4 q9 ⊢
    obtain ⟨t1, p⟩ := pt
    dsimp only at q1 q3 q4 q9 ⊢
    subst q1
    have eb : (SetTable.insertAt es (SetTable.below t.place (way t.mask h K)) (h, Value.ref x)).toList = ents P w (L.take (SetTable.below t.place (way t.mask h K)) ++ (x, k) :: L.drop (SetTable.below t.place (way t.mask h K))) := by
      rw [SetTable.toList_insertAt, ents_put, R.es_eq, eh]
    rw [eh] at q3
    rw [← eh] at q3
    generalize SetTable.below t.place (way t.mask h K) = p at q2 q3 eb ⊢
    have pm := put_perm L p (x, k)
    have len : (L.take p ++ (x, k) :: L.drop p).length = L.length + 1 := pm.length_eq
    have hh : hashes P w (L.take p ++ (x, k) :: L.drop p) = (hashes P w L).take p ++ h :: (hashes P w L).drop p := by rw [hashes_put, eh]
    rw [← hh] at q3
    have nd1 : ((L.take p ++ (x, k) :: L.drop p).map (·.2)).Nodup := by
      refine (pm.map (·.2)).nodup_iff.mpr ?_
      rw [List.map_cons]
      exact List.nodup_cons.mpr ⟨hm, R.nd⟩
    generalize SetTable.insertAt es p (h, Value.ref x) = es1 at eb ⊢
    generalize L.take p ++ (x, k) :: L.drop p = L1 at pm len q3 nd1 eb
    have z1 : es1.size = L.length + 1 := by rw [ents_size eb, len]
    have cont : ∀ t2 : SetTable, TabOk t2 (hashes P w L1) → t2.mask = t.mask → t2.fill = (hashes P w L).length + 1 →
        wpAny (model P w) A (do
          storeSet S es1 t2
          if !false && t2.tooFull then setRelay S (SetTable.grown (es.size + 1))
          return true) Q E s := fun t2 T2 m2 f2 => by
      refine wpAny_bind (wpAny_storeSet_of ho hd ?_ (by rw [z1, sizeLine_eq]; omega))
      have sb : Heap.SameBut S s.heap (s.heap.update S (Obj.putSet es1 t2)) := Heap.SameBut.update ..
      have ho1 := store_at (es' := es1) (t' := t2) ho hd
      generalize s.heap.update S (Obj.putSet es1 t2) = h1 at sb ho1 ⊢
      have tup1 : ∀ p ∈ L1, IsK P w h1 p.2 p.1 := fun p hp => by
        rcases List.mem_cons.mp (pm.mem_iff.mp hp) with e | hp
        · rw [e]
          exact isK_but hx ho hd sb
        · exact isK_but (R.tup p hp) ho hd sb
      by_cases full : t2.tooFull = true
      · have big : (L.length + 1) * 5 ≥ t2.mask * 3 := by
          have u := full
          unfold SetTable.tooFull at u
          rw [decide_eq_true_eq, f2, List.length_map] at u
          exact u
        have two : (t.mask = 7 ∧ L.length = 4) ∨ (t.mask = 31 ∧ L.length = 18) := by
          rcases R.tab.mok with e | e | e
          · rw [m2, e] at big
            rw [e] at room
            exact .inl ⟨e, by omega⟩
          · rw [m2, e] at big
            rw [e] at room
            exact .inr ⟨e, by omega⟩
          · exfalso
            rw [m2, e] at big
            omega
        have s1 : t2.place.size = es1.size := by
          have u := T2.sz
          rw [List.length_map, len] at u
          rw [u, z1]
        have go : ∀ M, SetTable.sizeAbove (SetTable.grown (L.length + 1)) - 1 = M → MaskOk M → SetTable.sizeAbove (SetTable.grown (L.length + 1)) ≤ 128 → (L.length + 1) * 5 < M * 3 →
            wpAny (model P w) A (setRelay S (SetTable.grown (L.length + 1))) (fun _ s' => wpAny (model P w) A (pure true) Q E s') E { s with heap := h1 } := fun M y1 y2 y3 y4 => by
          refine trelay (s := { s with heap := h1 }) ho1 ⟨hex.1, hex.2.1, hex.2.2⟩ rfl eb s1 T2.dm (by rw [z1, m2]; rcases two with ⟨e, e2⟩ | ⟨e, e2⟩ <;> omega) nd1 tup1 (by rw [len]; exact few) y1 y2 y3 (by rw [len]; exact y4) ?_
          intro h2 L2 es2 ep2 t2 sb2 R2 pm2
          exact wpAny_pure (hQ true h2 L2 es2 ep2 t2 (sb.trans sb2) R2 (fun z => absurd z hm) fun _ => pm2.trans pm)
        rw [sl]
        first
          | (refine wpAny_bind ?_; refine wp_if_pos (by simp [full]) ?_)
          | (refine wp_if_pos (by simp [full]) ?_; refine wpAny_bind ?_)
        rcases two with ⟨_, e2⟩ | ⟨_, e2⟩
        · exact go 31 (by rw [e2, size_20]) (.inr (.inl rfl)) (by rw [e2, size_20]; decide) (by omega)
        · exact go 127 (by rw [e2, size_76]) (.inr (.inr rfl)) (by rw [e2, size_76]; decide) (by omega)
      · first
          | refine wp_if_neg (by simp [full]) ?_
          | (refine wpAny_bind ?_; refine wp_if_neg (by simp [full]) ?_; refine wpAny_pure ?_)
        refine wpAny_pure (hQ true h1 L1 es1 (ep + 1) t2 sb ⟨⟨_, ho1, ⟨hex.1, hex.2.1, hex.2.2⟩, rfl⟩, eb, T2, nd1, tup1, ?_, by rw [len]; exact few⟩ (fun z => absurd z hm) fun _ => pm)
        have u := full
        unfold SetTable.tooFull at u
        rw [decide_eq_true_eq, f2, List.length_map] at u
        rw [len]
        omega
    by_cases pl : t1.plain = true
    · first
        | (refine wpAny_bind ?_; refine wp_if_pos pl ?_; refine hashV_tup hx fun c => ?_)
        | refine wp_if_pos pl (wpAny_bind (hashV_tup hx fun c => ?_))
      cases c with
      | true =>
        simp only [if_true]
        exact cont t1 q3 q4 q9
      | false =>
        simp only [Bool.false_eq_true, if_false]
        exact cont { t1 with plain := false } (tabOk_plain q3 false) q4 q9
    · first
        | (refine wpAny_bind ?_; refine wp_if_neg pl ?_; refine wpAny_pure ?_)
        | refine wp_if_neg pl (wpAny_bind (wpAny_pure ?_))
      simp only [if_true]
      exact cont t1 q3 q4 q9
end
end Kx
end
section
set_option maxRecDepth 100000
set_option maxHeartbeats 4000000
namespace Kx
open PySem PySem.Spec PyProof.Rows L2
/-! ### how many of the first i are unlike -/
section
variable {α : Type} [DecidableEq α]
def cntTo (xs : List α) : Nat → Nat
  | 0 => 0
  | i + 1 => match xs[i]? with
    | some x => if x ∈ xs.take i then cntTo xs i else cntTo xs i + 1
    | none => cntTo xs i
theorem cnt_le (xs : List α) : ∀ i, cntTo xs i ≤ i
  | 0 => Nat.le_refl _
  | i + 1 => by
    have h := cnt_le xs i
    unfold cntTo
    split
    · split <;> omega
    · omega
theorem cnt_step {xs : List α} {i : Nat} {x : α} (h : xs[i]? = some x) : cntTo xs (i + 1) = if x ∈ xs.take i then cntTo xs i else cntTo xs i + 1 := by
  conv => lhs; unfold cntTo
  rw [h]
theorem cnt_nodup {xs : List α} (n : xs.Nodup) : ∀ i, i ≤ xs.length → cntTo xs i = i
  | 0, _ => rfl
  | i + 1, hi => by
    have lt : i < xs.length := hi
    rw [cnt_step (List.getElem?_eq_getElem lt), cnt_nodup n i (Nat.le_of_lt lt), if_neg]
    intro hm
    obtain ⟨j, hj, e⟩ := List.getElem_of_mem hm
    rw [List.getElem_take] at e
    rw [List.length_take] at hj
    exact absurd e (List.pairwise_iff_getElem.mp n j i (by omega) lt (by omega))
theorem nodup_cnt {xs : List α} : ∀ i, i ≤ xs.length → cntTo xs i = i → (xs.take i).Nodup
  | 0, _, _ => by simp
  | i + 1, hi, e => by
    have lt : i < xs.length := hi
    have le := cnt_le xs i
    rw [cnt_step (List.getElem?_eq_getElem lt)] at e
    by_cases c : xs[i] ∈ xs.take i
    · rw [if_pos c] at e
      omega
    · rw [if_neg c] at e
      have ih := nodup_cnt i (Nat.le_of_lt lt) (by omega)
      rw [take_next (List.getElem?_eq_getElem lt), List.nodup_append]
      exact ⟨ih, by simp, fun a ha b hb => by
        rw [List.mem_singleton.mp hb]
        rintro rfl
        exact c ha⟩
/-- just lists without doubles have as many unlike things as things -/
theorem cnt_iff (xs : List α) : cntTo xs xs.length = xs.length ↔ xs.Nodup :=
  ⟨fun h => by
    have n := nodup_cnt xs.length (Nat.le_refl _) h
    rwa [List.take_length] at n, fun n => cnt_nodup n _ (Nat.le_refl _)⟩
end
section
variable {P : Program} {w : World} {A : Around} {E : Value → Shared → Prop} {s : Shared}
theorem fill_texts {S : Addr} {h0 : Heap} {us : List Value} {xs : List Str} (hs : StrsAre us xs) (few : xs.length < 4000) :
    Filled P w A E S h0 us.toArray (fun i h => i ≤ xs.length → h.SetOf (strKind P w) S (fun k => decide (k ∈ xs.take i)) (cntTo xs i)) where
  zero := fun h e _ => SetOf_congr ((setObjOf_fresh (knd := strKind P w) _).setOf e (by unfold scanBound; omega)) (fun _ => rfl) rfl
  keep := fun i h h' z k _ hi => by
    obtain ⟨o, es, ep, t, ho, r⟩ := z hi
    exact ⟨o, es, ep, t, k o ho, r⟩
  step := fun i v s hv z x Q hQ => by
    have hv' : us[i]? = some v := by simpa using hv
    have len := StrsAre.len_eq hs
    have il : i < xs.length := by
      have := (List.getElem?_eq_some_iff.mp hv').1
      omega
    have hx := List.getElem?_eq_getElem il
    obtain ⟨t, e⟩ := SS.strs_at hs i v hv'
    have ex : xs.getD i Str.empty = xs[i] := by simp [il]
    rw [ex] at e
    subst e
    have le := cnt_le xs i
    unfold setAdd
    refine wpAny_holding ?_
    refine wpAny_bind ((strKind P w).pyHash (k := xs[i]) (strKind_is _ _ _ _) ?_)
    refine wpAny_setAddHashed_of (knd := strKind P w) (s := { s with toks := s.toks + 1 }) (strKind_is _ _ _ _) rfl (z (Nat.le_of_lt il)) (by unfold scanBound; omega) fun h' sb z2 => ?_
    refine hQ _ h' (s.toks + 1) (Nat.le_succ _) sb fun _ => SetOf_congr z2 (fun k => ?_) ?_
    · show (decide (k ∈ xs.take i) || decide (k = xs[i])) = decide (k ∈ xs.take (i + 1))
      rw [take_next hx, ← Bool.decide_or]
      exact decide_eq_decide.mpr (by rw [List.mem_append, List.mem_singleton])
    · rw [cnt_step hx]
      by_cases c : xs[i] ∈ xs.take i <;> simp [c]
/-- what the set has got of the first i tuples -/
def GotK (P : Program) (w : World) (S : Addr) (ks : List (Addr × List Key)) (i : Nat) (h : Heap) : Prop :=
  ∃ L es ep t, TSet P w h S L es ep t ∧ (∀ p ∈ L, p ∈ ks.take i) ∧ (∀ p ∈ ks.take i, p.2 ∈ L.map (·.2)) ∧ L.length = cntTo (ks.map (·.2)) i
theorem fill_tups {S : Addr} {h0 : Heap} {ks : List (Addr × List Key)} {us : List Value} (hu : A.units < cLine) (hs : us = ks.map fun p => Value.ref p.1) (hk : ∀ p ∈ ks, IsK P w h0 p.2 p.1) (few : ks.length < 64) :
    Filled P w A E S h0 us.toArray (fun i h => i ≤ ks.length → GotK P w S ks i h) where
  zero := fun h e _ => ⟨[], #[], 0, _, ⟨⟨_, e, ⟨rfl, rfl, rfl⟩, rfl⟩, rfl, ⟨List.Pairwise.nil, rfl, rfl, .inl rfl, fun x hx => (by cases hx), fun i h j hi => (by simp at hi)⟩, List.nodup_nil, fun p hp => (by cases hp),
    (by show 0 * 5 < 7 * 3; decide), (by show 0 < 64; decide)⟩, fun p hp => (by cases hp), fun p hp => (by simp at hp), rfl⟩
  keep := fun i h h' z k x hi => by
    obtain ⟨L, es, ep, t, R, g1, g2, g3⟩ := z hi
    obtain ⟨o, ho, r⟩ := R.ob
    exact ⟨L, es, ep, t, ⟨⟨o, k o ho, r⟩, R.es_eq, R.tab, R.nd, fun p hp => isK_ext (hk p (List.mem_of_mem_take (g1 p hp))) x, R.room, R.few⟩, g1, g2, g3⟩
  step := fun i v s hv z x Q hQ => by
    subst hs
    have hv' : (ks.map fun p => Value.ref p.1)[i]? = some v := by simpa using hv
    rw [List.getElem?_map] at hv'
    obtain ⟨p, hp, rfl⟩ := Option.map_eq_some_iff.mp hv'
    have il : i < ks.length := (List.getElem?_eq_some_iff.mp hp).1
    obtain ⟨L, es, ep, t, R, g1, g2, g3⟩ := z (Nat.le_of_lt il)
    have le := cnt_le (ks.map (·.2)) i
    have hx : IsK P w s.heap p.2 p.1 := isK_ext (hk p (List.mem_of_getElem? hp)) x
    have hp2 : (ks.map (·.2))[i]? = some p.2 := by rw [List.getElem?_map, hp]; rfl
    have same : p.2 ∈ L.map (·.2) ↔ p.2 ∈ (ks.map (·.2)).take i := by
      rw [← List.map_take]
      constructor
      · intro h
        obtain ⟨q, hq, e⟩ := List.mem_map.mp h
        exact List.mem_map.mpr ⟨q, g1 q hq, e⟩
      · intro h
        obtain ⟨q, hq, e⟩ := List.mem_map.mp h
        rw [← e]
        exact g2 q hq
    unfold setAdd
    refine wpAny_holding ?_
    refine wpAny_bind (wpAny_pyHash_tuple hu hx ?_)
    refine tadd (s := { s with toks := s.toks + (p.2.length + 1) }) ⟨R.ob, R.es_eq, R.tab, R.nd, R.tup, R.room, R.few⟩ hx hu (by omega) rfl fun b h' L' es' ep' t' sb R' c1 c2 => ?_
    refine hQ b h' _ (Nat.le_add_right _ _) sb fun _ => ⟨L', es', ep', t', R', ?_, ?_, ?_⟩
    · intro q hq
      rw [take_next hp]
      rcases Classical.em (p.2 ∈ L.map (·.2)) with c | c
      · rw [c1 c] at hq
        exact List.mem_append_left _ (g1 q hq)
      · rcases List.mem_cons.mp ((c2 c).mem_iff.mp hq) with e | hq
        · rw [e]
          exact List.mem_append_right _ (List.mem_singleton.mpr rfl)
        · exact List.mem_append_left _ (g1 q hq)
    · intro q hq
      rw [take_next hp] at hq
      rcases Classical.em (p.2 ∈ L.map (·.2)) with c | c
      · rw [c1 c]
        rcases List.mem_append.mp hq with hq | hq
        · exact g2 q hq
        · rw [List.mem_singleton.mp hq]
          exact c
      · rw [((c2 c).map (·.2)).mem_iff, List.map_cons]
        rcases List.mem_append.mp hq with hq | hq
        · exact List.mem_cons_of_mem _ (g2 q hq)
        · rw [List.mem_singleton.mp hq]
          exact List.mem_cons_self
    · rw [cnt_step hp2]
      rcases Classical.em (p.2 ∈ L.map (·.2)) with c | c
      · rw [c1 c, if_pos (same.mp c), g3]
      · rw [(c2 c).length_eq, List.length_cons, if_neg (fun z => c (same.mpr z)), g3]
end
end Kx
end
section
set_option maxRecDepth 100000
set_option maxHeartbeats 4000000
namespace Kx
open PySem PySem.Spec PyProof.Rows L2
/-- x is a list of texts, or of tuples of keys, n of them unlike -/
def Unlike (K : PySem.W.Frag) (H : Hp) (x : V) (n : Nat) : Prop :=
  (∃ (l : Addr) (xs : List Str), x = .ref l ∧ SqL K H l (xs.map V.str) ∧ xs.length < 4000 ∧ n = cntTo xs xs.length) ∨
  (∃ (l : Addr) (ks : List (Addr × List Key)), x = .ref l ∧ SqL K H l (ks.map fun p => V.ref p.1) ∧ (∀ p ∈ ks, SqT K H p.1 (p.2.map kV)) ∧ ks.length < 64 ∧ n = cntTo (ks.map (·.2)) ks.length)
/-- len(set(xs)) -/
def tLenU (K : PySem.W.Frag) (ta : TE) : TE := fun σ H Q => ta σ H fun x H1 => ∃ n : Nat, Unlike K H1 x n ∧ Q (.int n) H1
section
variable {X : Cx} {pins : List (Addr × Obj)} {σ : L2.St} {H : Hp} {s : Shared}
theorem isK_of (I : Inv X pins σ H s) {t : Addr} {ks : List Key} (h : SqT X.K H t (ks.map kV)) : IsK X.prog X.w s.heap ks t := by
  obtain ⟨its, rv, hT, _⟩ := I.tuple h
  obtain ⟨o, ho, hc, n, hd⟩ := hT
  exact ⟨o, its.toArray, n, ho, hc, hd, by simpa using items_are rv⟩
theorem vals_refs : ∀ {ks : List (Addr × List Key)} {us : List Value}, Vals (ks.map fun p => V.ref p.1) us → us = ks.map fun p => Value.ref p.1
  | [], _, .nil => rfl
  | p :: ks, _, .cons r t => by
    rw [vals_refs t]
    have r' : _ = Value.ref p.1 := r
    rw [r']
    rfl
theorem pe_lenU {a : Expr} {ta : TE} {p p2 q pos : Pos} (hc : X.calm = true) (hu : X.A.units + 64 < cLine) (hg : Gl X "len") (hm : X.mg "len" = none) (hg2 : Gl X "set") (hm2 : X.mg "set" = none) (ha : PE X a ta)
    (na : starEach [a] X.env = (false, eval a X.env) :: starEach [] X.env := by rfl) : PE X (.Call (.Name "len" p) [.Call (.Name "set" p2) [a] [] q] [] pos) (tLenU X.K ta) := by
  refine ⟨fun pins s σ H Q I h => ?_⟩
  refine Call_ (ld_blt I hg hm PySem.boot_len ?_)
  refine PyProof.Rows.callWith_builtin1 (PyProof.Rows.args_cons ?_ rfl) rfl rfl
  refine Call_ (ld_blt I hg2 hm2 PyProof.Rows.boot_set ?_)
  refine PyProof.Rows.callWith_type1 (PyProof.Rows.args_cons (thn (ha.run pins s σ H _ I h) fun v s1 ⟨x, H1, I1, r1, n, un, q1⟩ => PyProof.Rows.args_nil ?_) na) na rfl
  have hz : s1.heap.get? s1.heap.objs.size = none := Heap.get?_none_of_le (Nat.le_refl _)
  rcases un with ⟨l, xs, rfl, hq, few, rfl⟩ | ⟨l, ks, rfl, hq, hk, few, rfl⟩
  · cases r1
    obtain ⟨its, r, pl, _⟩ := I1.list hq
    have sa := strsAre_of r
    have len : its.toArray.size = xs.length := by rw [List.size_toArray, ← r.length, List.length_map]
    refine call_set_any (I1.ok.hd hc) pl.isList (fun E => fill_texts sa few) fun h' tk hZ x => ?_
    rw [len] at hZ
    obtain ⟨o, es, ep, t, ho, hex, hd, _, _, _, hf, hn⟩ := hZ (Nat.le_refl _)
    have le := cnt_le xs xs.length
    have I2 : Inv X pins σ H1 { s1 with heap := h', toks := tk } := I1.kept fun b o e => x b o e
    exact PyProof.Rows.args_nil (call_len_set ho hex hd hf (by rw [hn]; omega) ⟨.int _, H1, I2.tok _, ⟨_, by rw [hn]⟩, q1⟩)
  · cases r1
    obtain ⟨its, r, pl, _⟩ := I1.list hq
    have su := vals_refs r
    have len : its.toArray.size = ks.length := by rw [List.size_toArray, su, List.length_map]
    refine call_set_any (I1.ok.hd hc) pl.isList (fun E => fill_tups (by show X.A.units + 3 < cLine; omega) su (fun p hp => isK_of I1 (hk p hp)) few) fun h' tk hZ x => ?_
    rw [len] at hZ
    obtain ⟨L, es, ep, t, R, g1, g2, g3⟩ := hZ (Nat.le_refl _)
    obtain ⟨o, ho, hex, hd⟩ := R.ob
    have sl := ents_size R.es_eq
    have le := cnt_le (ks.map (·.2)) ks.length
    have I2 : Inv X pins σ H1 { s1 with heap := h', toks := tk } := I1.kept fun b o e => x b o e
    have fits : t.fits es.size = true := TSet.fits (s := { s1 with heap := h' }) R
    exact PyProof.Rows.args_nil (call_len_set ho hex hd fits (by rw [sl, g3]; omega) ⟨.int _, H1, I2.tok _, ⟨_, by rw [sl, g3]⟩, q1⟩)
end
end Kx
end
section
set_option maxRecDepth 100000
set_option maxHeartbeats 4000000
namespace Wd
open PySem L2
abbrev Pr := Str × Str
/-- a pair as the values of its tuple, as a key -/
def tv (p : Pr) : V × V := (.str p.1, .str p.2)
def pk (p : Pr) : List Key := [.inr p.1, .inr p.2]
theorem pk_inj {p q : Pr} (h : pk p = pk q) : p = q := by
  unfold pk at h
  injection h with h1 h2
  injection h2 with h2 _
  injection h1 with h1
  injection h2 with h2
  exact Prod.ext h1 h2
/-- all pairs of some texts, in their order -/
def prsS : List Str → List Pr
  | [] => []
  | x :: r => r.map (fun y => (x, y)) ++ prsS r
theorem prs_strs : ∀ xs : List Str, prs (xs.map V.str) = (prsS xs).map tv
  | [] => rfl
  | x :: r => by
    show (r.map V.str).map (fun y => (V.str x, y)) ++ prs (r.map V.str) = _
    rw [prs_strs r, List.map_map]
    show _ = (r.map (fun y => (x, y)) ++ prsS r).map tv
    rw [List.map_append, List.map_map]
    rfl
/-- the list of pairs ps stands at l -/
def PwAt (H : Hp) (l : Addr) (ps : List Pr) : Prop := PrsAt H l (ps.map tv)
/-- some people, ascending, and pairs of them, ascending -/
structure Good (xs : List Str) (ps : List Pr) : Prop where
  asc : Asc xs
  word : ∀ x ∈ xs, IsW x
  few : 1 ≤ xs.length ∧ xs.length ≤ 9
  sub : ps.Sublist (prsS xs)
/-- the world of xs and ps stands at a -/
def WAt (H : Hp) (a : Addr) (xs : List Str) (ps : List Pr) : Prop := ∃ c l, H a = some (.lst [.ref c, .ref l]) ∧ H c = some (.lst (xs.map V.str)) ∧ PwAt H l ps
theorem PrsAt.same {H H' : Hp} {l : Addr} {ps : List (V × V)} (h : PrsAt H l ps) (s : Same H H') : PrsAt H' l ps := by
  obtain ⟨Ts, e, t⟩ := h
  exact ⟨Ts, s _ _ e, t.same s⟩
theorem WAt.same {H H' : Hp} {a : Addr} {xs : List Str} {ps : List Pr} (h : WAt H a xs ps) (s : Same H H') : WAt H' a xs ps := by
  obtain ⟨c, l, e1, e2, e3⟩ := h
  exact ⟨c, l, s _ _ e1, s _ _ e2, e3.same s⟩
theorem mem_prsS {xs : List Str} (a : Asc xs) {p : Pr} (h : p ∈ prsS xs) : p.1 ∈ xs ∧ p.2 ∈ xs ∧ Lt p.1 p.2 := by
  induction xs with
  | nil => cases h
  | cons x r ih =>
    obtain ⟨a1, a2⟩ := List.pairwise_cons.mp a
    rcases List.mem_append.mp h with h | h
    · obtain ⟨y, hy, rfl⟩ := List.mem_map.mp h
      exact ⟨List.mem_cons_self, List.mem_cons_of_mem _ hy, a1 y hy⟩
    · obtain ⟨b1, b2, b3⟩ := ih a2 h
      exact ⟨List.mem_cons_of_mem _ b1, List.mem_cons_of_mem _ b2, b3⟩
theorem prsS_mem {xs : List Str} (a : Asc xs) {p : Pr} (h1 : p.1 ∈ xs) (h2 : p.2 ∈ xs) (h3 : Lt p.1 p.2) : p ∈ prsS xs := by
  induction xs with
  | nil => cases h1
  | cons x r ih =>
    obtain ⟨a1, a2⟩ := List.pairwise_cons.mp a
    refine List.mem_append.mpr ?_
    rcases List.mem_cons.mp h1 with e | h1
    · rcases List.mem_cons.mp h2 with e2 | h2
      · rw [e, e2] at h3
        exact absurd h3 (Lt.irr _)
      · exact .inl (List.mem_map.mpr ⟨p.2, h2, by rw [← e]⟩)
    · rcases List.mem_cons.mp h2 with e2 | h2
      · exfalso
        rw [e2] at h3
        exact Lt.irr _ (h3.tr (a1 _ h1))
      · exact .inr (ih a2 h1 h2)
/-- the order of pairs -/
def LtP (p q : Pr) : Prop := Lt p.1 q.1 ∨ (p.1 = q.1 ∧ Lt p.2 q.2)
theorem LtP.irr (p : Pr) : ¬ LtP p p := fun h => h.elim (Lt.irr _) fun h => Lt.irr _ h.2
theorem LtP.tr {p q r : Pr} (h : LtP p q) (k : LtP q r) : LtP p r := by
  rcases h with h | ⟨e, h⟩
  · rcases k with k | ⟨e2, k⟩
    · exact .inl (h.tr k)
    · exact .inl (e2 ▸ h)
  · rcases k with k | ⟨e2, k⟩
    · exact .inl (e ▸ k)
    · exact .inr ⟨e.trans e2, h.tr k⟩
theorem LtP.tri (p q : Pr) : LtP p q ∨ p = q ∨ LtP q p := by
  rcases Lt.tri p.1 q.1 with h | h | h
  · exact .inl (.inl h)
  · rcases Lt.tri p.2 q.2 with k | k | k
    · exact .inl (.inr ⟨h, k⟩)
    · exact .inr (.inl (Prod.ext h k))
    · exact .inr (.inr (.inr ⟨h.symm, k⟩))
  · exact .inr (.inr (.inl h))
theorem prsS_asc {xs : List Str} (a : Asc xs) : (prsS xs).Pairwise LtP := by
  induction xs with
  | nil => exact List.Pairwise.nil
  | cons x r ih =>
    obtain ⟨a1, a2⟩ := List.pairwise_cons.mp a
    refine List.pairwise_append.mpr ⟨List.pairwise_map.mpr (a2.imp fun h => .inr ⟨rfl, h⟩), ih a2, fun p hp q hq => ?_⟩
    obtain ⟨y, _, rfl⟩ := List.mem_map.mp hp
    exact .inl (a1 _ (mem_prsS a2 hq).1)
/-- two strictly ascending lists of the same pairs are one -/
theorem asc_uniq : ∀ {l m : List Pr}, l.Pairwise LtP → m.Pairwise LtP → (∀ p, p ∈ l ↔ p ∈ m) → l = m
  | [], [], _, _, _ => rfl
  | [], q :: m, _, _, h => absurd ((h q).mpr List.mem_cons_self) (by simp)
  | p :: l, [], _, _, h => absurd ((h p).mp List.mem_cons_self) (by simp)
  | p :: l, q :: m, h1, h2, h => by
    obtain ⟨a1, a2⟩ := List.pairwise_cons.mp h1
    obtain ⟨b1, b2⟩ := List.pairwise_cons.mp h2
    have e : p = q := by
      rcases List.mem_cons.mp ((h p).mp List.mem_cons_self) with e | hp
      · exact e
      · rcases List.mem_cons.mp ((h q).mpr List.mem_cons_self) with e | hq
        · exact e.symm
        · exact absurd ((a1 q hq).tr (b1 p hp)) (LtP.irr _)
    subst e
    refine congrArg (p :: ·) (asc_uniq a2 b2 fun r => ⟨fun hr => ?_, fun hr => ?_⟩)
    · rcases List.mem_cons.mp ((h r).mp (List.mem_cons_of_mem _ hr)) with e | hr'
      · rw [e] at hr
        exact absurd (a1 p hr) (LtP.irr _)
      · exact hr'
    · rcases List.mem_cons.mp ((h r).mpr (List.mem_cons_of_mem _ hr)) with e | hr'
      · rw [e] at hr
        exact absurd (b1 p hr) (LtP.irr _)
      · exact hr'
instance : DecidableEq Pr := inferInstance
/-- what is ascending and among the pairs is the pairs filtered -/
theorem sub_of_asc {xs : List Str} (a : Asc xs) {l : List Pr} (h : l.Pairwise LtP) (m : ∀ p ∈ l, p ∈ prsS xs) : l.Sublist (prsS xs) := by
  have e : l = (prsS xs).filter fun p => decide (p ∈ l) := by
    refine asc_uniq h ((prsS_asc a).filter _) fun p => ⟨fun hp => List.mem_filter.mpr ⟨m p hp, decide_eq_true hp⟩, fun hp => of_decide_eq_true (List.mem_filter.mp hp).2⟩
  rw [e]
  exact List.filter_sublist
theorem Good.ascP {xs : List Str} {ps : List Pr} (g : Good xs ps) : ps.Pairwise LtP := (prsS_asc g.asc).sublist g.sub
theorem Good.nodup {xs : List Str} {ps : List Pr} (g : Good xs ps) : ps.Nodup := List.Pairwise.imp (fun {p q} (h : LtP p q) (e : p = q) => LtP.irr q (by rw [e] at h; exact h)) g.ascP
theorem prsS_len : ∀ xs : List Str, 2 * (prsS xs).length + xs.length = xs.length * xs.length
  | [] => rfl
  | x :: r => by
    have h := prsS_len r
    show 2 * (r.map (fun y => (x, y)) ++ prsS r).length + (r.length + 1) = (r.length + 1) * (r.length + 1)
    rw [List.length_append, List.length_map]
    have e : (r.length + 1) * (r.length + 1) = r.length * r.length + r.length + (r.length + 1) := by
      rw [Nat.add_mul, Nat.one_mul, Nat.mul_add, Nat.mul_one]
    omega
theorem sq9 {n : Nat} (h : n ≤ 9) : n * n ≤ 72 + n := by
  have : n = 0 ∨ n = 1 ∨ n = 2 ∨ n = 3 ∨ n = 4 ∨ n = 5 ∨ n = 6 ∨ n = 7 ∨ n = 8 ∨ n = 9 := by omega
  rcases this with e | e | e | e | e | e | e | e | e | e <;> subst e <;> decide
theorem Good.len0 {xs : List Str} (h : xs.length ≤ 9) : (prsS xs).length ≤ 36 := by
  have h2 := prsS_len xs
  have h3 := sq9 h
  omega
theorem Good.len {xs : List Str} {ps : List Pr} (g : Good xs ps) : ps.length ≤ 36 := Nat.le_trans g.sub.length_le (Good.len0 g.few.2)
end Wd
end
section
set_option maxRecDepth 100000
set_option maxHeartbeats 4000000
namespace Wd
open PySem L2
/-- the dictionary from the pairs -/
def netK (ps : List Pr) : List (List Key × V) := ps.map fun p => (pk p, .bl true)
def spNet : Sp := fun vs H Q _ => ∃ (a : Addr) (xs : List Str) (ps : List Pr), vs = [.ref a] ∧ WAt H a xs ps ∧ ps.Nodup ∧ ps.length ≤ 100 ∧
  ∀ (H' : Hp) (D : Addr), Same H H' → H D = none → H' D = some (.dT (netK ps)) → Q (.ref D) H'
section
variable {P : Program} {w : World} {K : PySem.W.Frag} {mg : Str → Option Value} {base : Heap}
set_option maxHeartbeats 1000000 in
theorem ok_net {f : Addr} {fd : FuncData} (F : Fun K "_law_net" "_law_net" s_net f fd) (T : Bt mg) : FnOk P w K mg base CX0 1 f fd ["_law_world_here"] spNet := by
  refine F.ok c_net (fun vs H Q E h => ?_) (fun cdv A outer s H vs Q E hr h => ?_)
  · obtain ⟨_, _, _, rfl, _⟩ := h
    rfl
  · obtain ⟨a, xs, ps, rfl, ⟨c, l, ha, hc, Ts, hl, tu⟩, nd, few, k⟩ := h
    refine ⟨_, pss_one (ps_ret (pe_callTy (Kx.cr_dictT rfl hr.units) (by rfl) T.dict (by decide +kernel) (pa_cons (pe_lc (own := [("_law_pair_here", 1)]) (g := gName 1) (tt := tYes) rfl c_net.nd (pi_list (pe_ix ix_list (pv 0) pe_int (fun _ _ => rfl)))
      (blkOk_by (N := ["_law_world_here", "_law_pair_here"]) (sc := defScope s_net) (by decide +kernel)) (fun _ _ _ _ _ => pg_name (i := 1) c_net.nd rfl (Or.inl rfl)) (fun _ _ _ _ _ => pts_nil)
      (fun _ _ _ _ _ => pe_tup (pa_cons (pv 1) (pa_cons pe_bl pa_nil)))) pa_nil))), ?_⟩
    refine ⟨_, rfl, a, _, _, _, rfl, rfl, SqL.of ha, rfl, l, rfl, ⟨_, SqL.of hl⟩, fun C hC => ?_⟩
    have lT : Ts.length = ps.length := by rw [tu.1, List.length_map]
    refine lc_list (xs := Ts.map V.ref) (fun j H2 => ∃ Us : List Addr, H2 C = some (.lst (Us.map V.ref)) ∧ Same H H2 ∧ Tups H2 Us ((Ts.take j).map fun T => (V.ref T, V.bl true)))
      ⟨[], upd_same, same_new hC, Tups.nil⟩ (fun j H2 _ ⟨Us, _, s6, _⟩ => SqL.of (s6 _ _ hl)) ?_ ?_
    · rintro j v H2 hv ⟨Us, hu, s6, tu2⟩
      rw [List.getElem?_map] at hv
      obtain ⟨T0, hT, rfl⟩ := Option.map_eq_some_iff.mp hv
      have jl := (List.getElem?_eq_some_iff.mp hT).1
      refine ⟨rfl, _, rfl, by show 2 ≤ sizeLine; decide, fun Z hZ => ?_⟩
      have CZ : C ≠ Z := ne_of_none hu hZ
      have lu : Us.length ≤ 100 := by
        rw [tu2.1, List.length_map, List.length_take]
        omega
      have cne : ∀ T ∈ Us, T ≠ C := tu2.ne fun x y e => by
        rw [hu] at e
        cases e
      refine ⟨_, by rw [upd_ne CZ]; exact hu, by rw [List.length_map, sizeLine_eq]; omega, Us ++ [Z], by rw [upd_same]; simp, fun b o e => ?_, ?_⟩
      · have bC : b ≠ C := ne_of_none e hC
        have e2 := s6 _ _ e
        rw [upd_ne bC, upd_ne (ne_of_none e2 hZ)]
        exact e2
      · rw [take_next hT, List.map_append]
        have t3 : Tups (upd (upd H2 Z (.tup [.ref T0, .bl true])) C (.lst (Us.map V.ref ++ [V.ref Z]))) Us ((Ts.take j).map fun T => (V.ref T, V.bl true)) :=
          tu2.keep fun T o hT' e => by
            rw [upd_ne (cne T hT'), upd_ne (ne_of_none e hZ)]
            exact e
        exact t3.snoc (p := (V.ref T0, V.bl true)) (by rw [upd_ne (Ne.symm CZ), upd_same])
    · rintro H2 ⟨Us, hu, s6, tu2⟩
      rw [List.length_map, List.take_length] at tu2
      have lu : Us.length = Ts.length := by rw [tu2.1, List.length_map]
      refine ⟨C, Us, (Ts.zip ps).map fun q => (pk q.2, q.1, V.bl true), rfl, SqL.of hu, by rw [List.length_map, List.length_zip]; omega, fun j U q h1 h2 => ?_, ?_, fun p hp => ?_⟩
      · rw [List.getElem?_map] at h2
        obtain ⟨⟨T0, p0⟩, hz, rfl⟩ := Option.map_eq_some_iff.mp h2
        obtain ⟨z1, z2⟩ := List.getElem?_zip_eq_some.mp hz
        have e1 := tu2.2 j U (V.ref T0, V.bl true) h1 (by rw [List.getElem?_map, z1]; rfl)
        have e2 := tu.2 j T0 (tv p0) z1 (by rw [List.getElem?_map, z2]; rfl)
        exact ⟨SqT.of e1, s6 _ _ e2⟩
      · rw [List.map_map]
        have e : (Ts.zip ps).map ((fun q : List Key × Addr × V => q.1) ∘ fun q : Addr × Pr => (pk q.2, q.1, V.bl true)) = ((Ts.zip ps).map Prod.snd).map pk := by
          rw [List.map_map]
          rfl
        rw [e, List.map_snd_zip (by omega)]
        exact List.Pairwise.map pk (fun a b (h : a ≠ b) e => h (pk_inj e)) nd
      · have e : ((Ts.zip ps).map fun q => (pk q.2, q.1, V.bl true)).map (fun q : List Key × Addr × V => (q.1, q.2.2)) = netK ps := by
          unfold netK
          conv => rhs; rw [← List.map_snd_zip (l₁ := Ts) (l₂ := ps) (by omega)]
          rw [List.map_map, List.map_map]
          rfl
        rw [e]
        have nP : H p = none := by
          cases e0 : H p with
          | none => rfl
          | some o =>
            rw [s6 _ _ e0] at hp
            cases hp
        exact k _ p (fun b o e0 => by rw [upd_ne (ne_of_none e0 nP)]; exact s6 b o e0) nP upd_same
end
end Wd
end
section
set_option maxRecDepth 100000
set_option maxHeartbeats 4000000
namespace Wd
open PySem L2
theorem net_get (ps : List Pr) (p : Pr) : (valV (netK ps) (pk p)).isSome = decide (p ∈ ps) := by
  unfold valV netK
  rw [Option.isSome_map]
  induction ps with
  | nil => simp
  | cons q ps ih =>
    rw [List.map_cons, List.find?_cons]
    by_cases h : q = p
    · subst h
      simp
    · have h' : ¬ pk q = pk p := fun e => h (pk_inj e)
      simp only [decide_eq_false h']
      rw [ih]
      exact decide_eq_decide.mpr ⟨fun z => List.mem_cons_of_mem _ z, fun z => by
        rcases List.mem_cons.mp z with e | z
        · exact absurd e.symm h
        · exact z⟩
def spOpp : Sp := fun vs H Q _ => ∃ (a : Addr) (xs : List Str) (ps : List Pr), vs = [.ref a] ∧ WAt H a xs ps ∧ Good xs ps ∧
  ∀ (H' : Hp) (D : Addr), Same H H' → H D = none → WAt H' D xs ((prsS xs).filter fun p => decide (p ∉ ps)) → Q (.ref D) H'
theorem same_none {H H' : Hp} {a : Addr} (s : Same H H') (h : H' a = none) : H a = none := by
  cases e : H a with
  | none => rfl
  | some o =>
    rw [s _ _ e] at h
    cases h
theorem same_updN {H H' : Hp} {a : Addr} {o : HO} (s : Same H H') (h : H' a = none) : Same H (upd H' a o) := fun b u e => by
  have e2 := s _ _ e
  rw [upd_ne (ne_of_none e2 h)]
  exact e2
/-- a fresh list is written again: what stood before it stays -/
theorem same_upd2 {H H' : Hp} {C : Addr} {o : HO} (s : Same (upd H C (.lst [])) H' ∨ Same H H') (hC : H C = none) : Same H (upd H' C o) := fun b u e => by
  have nb : b ≠ C := ne_of_none e hC
  rw [upd_ne nb]
  rcases s with s | s
  · exact s _ _ (by rw [upd_ne nb]; exact e)
  · exact s _ _ e
theorem Tups.upd {H : Hp} {Ts : List Addr} {ps : List (V × V)} (t : Tups H Ts ps) {a : Addr} {o : HO} (h : ∀ x y, H a ≠ some (.tup [x, y])) : Tups (L2.upd H a o) Ts ps := by
  have ne := t.ne h
  exact t.keep fun T u hT e => by
    rw [upd_ne (ne T hT)]
    exact e
section
variable {P : Program} {w : World} {K : PySem.W.Frag} {mg : Str → Option Value} {base : Heap}
set_option maxHeartbeats 1000000 in
theorem ok_opp {f : Addr} {fd : FuncData} (F : Fun K "_law_opposite" "_law_opposite" s_opposite f fd) (T : Bt mg) (CN : Has P w K mg base 1 "_law_net" ["_law_world_here"] spNet) (CP : Has P w K mg base 1 "_law_pairs" ["_law_crowd"] spPairs) :
    FnOk P w K mg base CX0 2 f fd ["_law_world_here"] spOpp := by
  obtain ⟨fN, fdN, GN, mN, kN, bN⟩ := CN
  obtain ⟨fP, fdP, GP, mP, kP, bP⟩ := CP
  refine F.ok c_opposite (fun vs H Q E h => ?_) (fun cdv A outer s H vs Q E hr h => ?_)
  · obtain ⟨_, _, _, rfl, _⟩ := h
    rfl
  · obtain ⟨a, xs, ps, rfl, W0, g, k⟩ := h
    have hr1 : Room 1 _ := hr.mono (by decide)
    refine ⟨_, pss_cons (ps_set (i := 1) c_opposite.nd rfl (Or.inr rfl) (pe_call GN hr1 rfl mN kN bN .nil pass0 (pa_cons (pv 0) pa_nil)))
      (pss_one (ps_ret (pe_lst (pa_cons (pe_ix ix_list (pv 0) pe_int (fun _ _ => rfl)) (pa_cons (pe_lc (own := [("_law_pair_here", 2)]) (g := gName 2) rfl c_opposite.nd (pi_list (pe_call GP hr1 rfl mP kP bP .nil pass0 (pa_cons (pe_ix ix_list (pv 0) pe_int (fun _ _ => rfl)) pa_nil)))
        (blkOk_by (N := ["_law_world_here", "_law_net_here", "_law_pair_here"]) (sc := defScope s_opposite) (by decide +kernel)) (fun _ _ _ _ _ => pg_name (i := 2) c_opposite.nd rfl (Or.inl rfl)) (fun _ _ _ _ _ => pts_one (pt_cmp (pc_dnotin (hu_of hr1) (pv 2) (pv 1))))
        (fun _ _ _ _ _ => pv 2)) pa_nil))))), ?_⟩
    obtain ⟨c, l, ha, hc, hps⟩ := id W0
    have few := g.len
    refine ⟨_, rfl, a, xs, ps, rfl, W0, g.nodup, by omega, fun H1 N s1 nN hN => ?_⟩
    have ha1 := s1 _ _ ha
    have hc1 := s1 _ _ hc
    refine ⟨_, rfl, a, _, _, .ref c, rfl, rfl, SqL.of ha1, rfl, ?_⟩
    refine ⟨_, rfl, a, _, _, .ref c, rfl, rfl, SqL.of ha1, rfl, c, xs.map V.str, rfl, hc1, by rw [List.length_map]; have := g.few; omega, fun H2 D s2 nD ⟨Ts, hd, tu⟩ => ?_⟩
    rw [prs_strs] at tu
    have lT : Ts.length = (prsS xs).length := by rw [tu.1, List.length_map]
    have l36 := Good.len0 g.few.2
    have hN2 := s2 _ _ hN
    refine ⟨D, rfl, ⟨_, SqL.of hd⟩, fun C hC => ?_⟩
    refine lc_list (xs := Ts.map V.ref) (fun j H3 => ∃ Us : List Addr, H3 C = some (.lst (Us.map V.ref)) ∧ Same H2 H3 ∧ Tups H3 Us ((((prsS xs).take j).filter fun p => decide (p ∉ ps)).map tv))
      ⟨[], upd_same, same_new hC, Tups.nil⟩ (fun j H3 _ ⟨Us, _, s6, _⟩ => SqL.of (s6 _ _ hd)) ?_ ?_
    · rintro j v H3 hv ⟨Us, hu, s6, tu2⟩
      rw [List.getElem?_map] at hv
      obtain ⟨T0, hT, rfl⟩ := Option.map_eq_some_iff.mp hv
      have jl := (List.getElem?_eq_some_iff.mp hT).1
      have hp : (prsS xs)[j]? = some (prsS xs)[j] := List.getElem?_eq_getElem (by omega)
      generalize (prsS xs)[j] = p at hp
      have e1 := s6 _ _ (tu.2 j T0 (tv p) hT (by rw [List.getElem?_map, hp]; rfl))
      refine ⟨rfl, _, rfl, _, rfl, N, _, rfl, DGet.t (k := pk p) (s6 _ _ hN2) e1, _, rfl, ?_⟩
      rw [net_get]
      have nx : ((prsS xs).take (j + 1)).filter (fun p => decide (p ∉ ps)) = ((prsS xs).take j).filter (fun p => decide (p ∉ ps)) ++ (if p ∈ ps then [] else [p]) := by
        rw [take_next hp, List.filter_append]
        by_cases c : p ∈ ps <;> simp [c]
      refine ite2 (fun hb => ?_) (fun hb => ?_)
      · have c : p ∉ ps := by simpa using hb
        have lu : Us.length ≤ 36 := by
          rw [tu2.1, List.length_map]
          have h1 := List.length_filter_le (fun p => decide (p ∉ ps)) ((prsS xs).take j)
          rw [List.length_take] at h1
          omega
        refine ⟨_, rfl, _, hu, by rw [List.length_map, sizeLine_eq]; omega, Us ++ [T0], by rw [upd_same]; simp, same_upd2 (.inr s6) hC, ?_⟩
        rw [nx, if_neg c, List.map_append]
        have t3 := tu2.upd (a := C) (o := .lst (Us.map V.ref ++ [V.ref T0])) fun x y e => by
          rw [hu] at e
          cases e
        exact t3.snoc (p := tv p) (by rw [upd_ne (ne_of hu e1 (fun z => nomatch z)).symm]; exact e1)
      · have c : p ∈ ps := by simpa using hb
        refine ⟨Us, hu, s6, ?_⟩
        rw [nx, if_pos c, List.append_nil]
        exact tu2
    · rintro H3 ⟨Us, hu, s6, tu2⟩
      have e0 : (prsS xs).take (Ts.map V.ref).length = prsS xs := by rw [List.length_map, lT, List.take_length]
      rw [e0] at tu2
      refine ⟨by show 2 ≤ sizeLine; decide, fun Z hZ => ?_⟩
      have s7 : Same H H3 := (s1.trans s2).trans s6
      refine k _ Z (same_updN s7 hZ) (same_none s7 hZ) ⟨c, C, upd_same, (same_updN s7 hZ) _ _ hc, Us, by rw [upd_ne (ne_of_none hu hZ)]; exact hu, tu2.keep fun T o _ e => by rw [upd_ne (ne_of_none e hZ)]; exact e⟩
end
end Wd
end
section
set_option maxRecDepth 100000
set_option maxHeartbeats 4000000
namespace Wd
open PySem L2
/-- a pair as data -/
def pd (p : Pr) : PyData := .tuple [.str p.1, .str p.2]
instance (p q : Pr) : Decidable (LtP p q) := inferInstanceAs (Decidable (_ ∨ _))
theorem pd_alike (p q : Pr) : PySem.W.alike (pd p) (pd q) = true := by simp [pd, PySem.W.alike, PySem.W.alikeAll]
theorem str_eqv (a b : Str) : PyData.eqv (.str a) (.str b) = decide (a = b) := by
  simp only [PyData.eqv]
  by_cases h : a = b
  · subst h
    simp
  · rw [decide_eq_false h]
    exact beq_eq_false_iff_ne.mpr h
theorem pd_eqv (p q : Pr) : PyData.eqv (pd p) (pd q) = decide (p = q) := by
  have e : PyData.eqv (pd p) (pd q) = (PyData.eqv (.str p.1) (.str q.1) && (PyData.eqv (.str p.2) (.str q.2) && true)) := by simp only [pd, PyData.eqv, PyData.eqvAll]
  rw [e, str_eqv, str_eqv, Bool.and_true, ← Bool.decide_and]
  exact decide_eq_decide.mpr ⟨fun h => Prod.ext h.1 h.2, fun h => by rw [h]; exact ⟨rfl, rfl⟩⟩
theorem pd_lt (p q : Pr) : PySem.W.dataLt (pd p) (pd q) = decide (LtP p q) := by
  have h := PySem.W.dataLt_pair (x := .str p.1) (y := .str p.2) (x' := .str q.1) (y' := .str q.2) (by simp [PySem.W.alike]) (by simp [PySem.W.alike])
  show PySem.W.dataLt (.tuple [.str p.1, .str p.2]) (.tuple [.str q.1, .str q.2]) = _
  rw [h, str_eqv, str_eqv, PySem.W.dataLt_str, PySem.W.dataLt_str]
  by_cases e : p.1 = q.1
  · rw [decide_eq_true e, if_pos rfl]
    by_cases e2 : p.2 = q.2
    · rw [decide_eq_true e2, if_pos rfl]
      refine (decide_eq_false fun z => ?_).symm
      rcases z with z | z
      · rw [e] at z
        exact Lt.irr _ z
      · rw [e2] at z
        exact Lt.irr _ z.2
    · rw [decide_eq_false e2, if_neg (by decide)]
      refine decide_eq_decide.mpr ⟨fun z => .inr ⟨e, z⟩, fun z => ?_⟩
      rcases z with z | z
      · rw [e] at z
        exact absurd z (Lt.irr _)
      · exact z.2
  · rw [decide_eq_false e, if_neg (by decide)]
    refine decide_eq_decide.mpr ⟨fun z => .inl z, fun z => ?_⟩
    rcases z with z | z
    · exact z
    · exact absurd z.1 e
theorem isW_ok {x : Str} (h : IsW x) : PyData.strOk x = true := by
  unfold PyData.strOk
  rw [← Array.all_toList, List.all_eq_true]
  intro c hc
  have := h.2.2 c hc
  exact decide_eq_true (by omega)
theorem pd_shaped {p : Pr} (w1 : IsW p.1) (w2 : IsW p.2) : SeqAt.shaped (pd p) = true := by
  show ((pd p).canLay0 && decide ((pd p).depth ≤ 64)) = true
  have h1 : (pd p).canLay0 = true := by simp [pd, PyData.canLay0, PyData.canLayAll0, isW_ok w1, isW_ok w2]
  have h2 : (pd p).depth = 1 := by simp [pd, PyData.depth, PyData.depthAll]
  rw [h1, h2]
  rfl
theorem pd_depth (p : Pr) : (pd p).depth ≤ 40 := by simp [pd, PyData.depth, PyData.depthAll]
theorem dp_pair {K : PySem.W.Frag} {H : Hp} {T : Addr} {p : Pr} (h : SqT K H T [.str p.1, .str p.2]) : Dp K H (.ref T) (pd p) := .tup h (.cons (.str _) (.cons (.str _) .nil))
/-- the tuples at Ts, with what they hold, sorted -/
def sortZ (Ts : List Addr) (ps : List Pr) : List (Addr × Pr) := (Ts.zip ps).mergeSort fun a b => !decide (LtP b.2 a.2)
theorem sortZ_perm (Ts : List Addr) (ps : List Pr) : (sortZ Ts ps).Perm (Ts.zip ps) := List.mergeSort_perm _ _
theorem sortZ_asc {Ts : List Addr} {ps : List Pr} (hl : Ts.length = ps.length) (nd : ps.Nodup) : ((sortZ Ts ps).map Prod.snd).Pairwise LtP := by
  have h := List.pairwise_mergeSort (le := fun a b : Addr × Pr => !decide (LtP b.2 a.2)) (fun a b c h1 h2 => by
    rw [Bool.not_eq_true', decide_eq_false_iff_not] at h1 h2 ⊢
    intro z
    rcases LtP.tri b.2 a.2 with q | q | q
    · exact h1 q
    · rw [q] at h2
      exact h2 z
    · exact h2 (z.tr q)) (fun a b => by
    rw [Bool.or_eq_true, Bool.not_eq_true', Bool.not_eq_true', decide_eq_false_iff_not, decide_eq_false_iff_not]
    by_cases c : LtP b.2 a.2
    · exact .inr fun z => LtP.irr _ (c.tr z)
    · exact .inl c) (Ts.zip ps)
  have pm := (sortZ_perm Ts ps).map Prod.snd
  rw [List.map_snd_zip (by omega)] at pm
  have nd2 := pm.nodup_iff.mpr nd
  rw [List.pairwise_map]
  have nd3 : (sortZ Ts ps).Pairwise fun a b => a.2 ≠ b.2 := List.pairwise_map.mp nd2
  refine List.Pairwise.imp (fun {a b} (h : (!decide (LtP b.2 a.2)) = true ∧ a.2 ≠ b.2) => ?_) (List.Pairwise.and h nd3)
  rw [Bool.not_eq_true', decide_eq_false_iff_not] at h
  rcases LtP.tri a.2 b.2 with q | q | q
  · exact q
  · exact absurd q h.2
  · exact absurd q h.1
def zv (q : Addr × Pr) : Kx.DV := (.ref q.1, pd q.2)
theorem sorted_zv (Ts : List Addr) (ps : List Pr) : Kx.sortedD ((Ts.zip ps).map zv) = (sortZ Ts ps).map zv := by
  unfold Kx.sortedD sortZ
  refine (List.map_mergeSort fun a _ b _ => ?_).symm
  show (!decide (LtP b.2 a.2)) = PySem.W.dataLe false (fun b : Kx.DV => b.2) (zv a) (zv b)
  rw [PySem.W.dataLe_eq]
  show _ = !PySem.W.dataLt (pd b.2) (pd a.2)
  rw [pd_lt]
/-- sorted(xs) of a list of pairs, none twice -/
theorem sorted_prs {K : PySem.W.Frag} {H : Hp} {a : Addr} {Ts : List Addr} {ps : List Pr} {Q : VK} (ha : H a = some (.lst (Ts.map V.ref))) (tu : Tups H Ts (ps.map tv)) (nd : ps.Nodup)
    (q : ∀ (D : Addr) (Us : List Addr) (qs : List Pr), H D = none → qs.Pairwise LtP → (∀ p, p ∈ qs ↔ p ∈ ps) → Tups H Us (qs.map tv) → (∀ U ∈ Us, U ∈ Ts) → Q (.ref D) (upd H D (.lst (Us.map V.ref)))) : Kx.rSortedD K [.ref a] H Q := by
  have hl : Ts.length = ps.length := by rw [tu.1, List.length_map]
  have e1 : ((Ts.zip ps).map zv).map (fun b => b.1) = Ts.map V.ref := by
    rw [List.map_map]
    have : ((fun b : Kx.DV => b.1) ∘ zv) = V.ref ∘ Prod.fst := rfl
    rw [this, ← List.map_map, List.map_fst_zip (by omega)]
  have zat : ∀ z ∈ Ts.zip ps, z.1 ∈ Ts ∧ H z.1 = some (.tup [.str z.2.1, .str z.2.2]) := fun z hz => by
    obtain ⟨j, hj, e⟩ := List.getElem_of_mem hz
    have e' : (Ts.zip ps)[j]? = some z := by rw [List.getElem?_eq_getElem hj, e]
    obtain ⟨z1, z2⟩ := List.getElem?_zip_eq_some.mp e'
    exact ⟨List.mem_of_getElem? z1, tu.2 j z.1 (tv z.2) z1 (by rw [List.getElem?_map, z2]; rfl)⟩
  refine ⟨a, (Ts.zip ps).map zv, rfl, by rw [e1]; exact SqL.of ha, fun b hb => ?_, ?_, ?_, fun D hD => ?_⟩
  · obtain ⟨z, hz, rfl⟩ := List.mem_map.mp hb
    exact ⟨dp_pair (SqT.of (zat z hz).2), pd_depth z.2⟩
  · rw [List.map_map]
    exact PySem.W.AllAlike.of fun b b' => pd_alike b.2 b'.2
  · rw [List.map_map]
    exact PySem.W.Sortable.tuples fun b => ⟨_, _, rfl⟩
  · rw [sorted_zv, List.map_map]
    have e2 : (sortZ Ts ps).map ((fun b : Kx.DV => b.1) ∘ zv) = ((sortZ Ts ps).map Prod.fst).map V.ref := by
      rw [List.map_map]
      rfl
    rw [e2]
    have pm := sortZ_perm Ts ps
    refine q D ((sortZ Ts ps).map Prod.fst) ((sortZ Ts ps).map Prod.snd) hD (sortZ_asc hl nd) (fun p => ?_) ⟨by simp, fun k T v h1 h2 => ?_⟩ fun U hU => ?_
    · have h := (pm.map Prod.snd).mem_iff (a := p)
      rw [List.map_snd_zip (by omega)] at h
      exact h
    · rw [List.getElem?_map] at h1 h2
      obtain ⟨z, hz, rfl⟩ := Option.map_eq_some_iff.mp h1
      rw [List.getElem?_map, hz] at h2
      obtain rfl : tv z.2 = v := Option.some.inj h2
      exact (zat z (pm.mem_iff.mp (List.mem_of_getElem? hz))).2
    · obtain ⟨z, hz, rfl⟩ := List.mem_map.mp hU
      exact (zat z (pm.mem_iff.mp hz)).1
end Wd
end
section
set_option maxRecDepth 100000
set_option maxHeartbeats 4000000
namespace Wd
open PySem L2
/-- the pairs behind a deed -/
def flip (xs : List Str) (ps : List Pr) (p : Pr) : List Pr := (prsS xs).filter fun q => decide (q ∈ ps) != decide (q = p)
theorem mem_flip {xs : List Str} {ps : List Pr} {p q : Pr} : q ∈ flip xs ps p ↔ q ∈ prsS xs ∧ (decide (q ∈ ps) != decide (q = p)) = true := List.mem_filter
def spDeed : Sp := fun vs H Q _ => ∃ (a t : Addr) (xs : List Str) (ps : List Pr) (p : Pr), vs = [.ref a, .ref t] ∧ WAt H a xs ps ∧ Good xs ps ∧ H t = some (.tup [.str p.1, .str p.2]) ∧ p ∈ prsS xs ∧
  ∀ (H' : Hp) (D : Addr), Same H H' → H D = none → WAt H' D xs (flip xs ps p) → Q (.ref D) H'
section
variable {P : Program} {w : World} {K : PySem.W.Frag} {mg : Str → Option Value} {base : Heap}
set_option maxHeartbeats 1000000 in
theorem ok_deed {f : Addr} {fd : FuncData} (F : Fun K "_law_deed" "_law_deed" s_deed f fd) (T : Bt mg) : FnOk P w K mg base CX0 1 f fd ["_law_world_here", "_law_pair_here"] spDeed := by
  refine F.ok c_deed (fun vs H Q E h => ?_) (fun cdv A outer s H vs Q E hr h => ?_)
  · obtain ⟨_, _, _, _, _, rfl, _⟩ := h
    rfl
  · obtain ⟨a, t, xs, ps, p, rfl, W0, g, ht, hp, k⟩ := h
    refine ⟨_, pss_cons (ps_setLc (i := 3) (own := [("_law_kept", 2)]) (g := gName 2) rfl c_deed.nd rfl rfl (sw_true rfl rfl rfl (by decide +kernel)) (pi_list (pe_ix ix_list (pv 0) pe_int (fun _ _ => rfl)))
        (blkOk_by (N := ["_law_world_here", "_law_pair_here", "_law_kept", "_law_rest"]) (sc := defScope s_deed) (by decide +kernel)) (fun _ _ _ _ _ => pg_name (i := 2) c_deed.nd rfl (Or.inl rfl)) (fun _ _ _ _ _ => pts_one (pt_cmpR (r := rNeD K) (op_neD hr.units) (pv 2) (pv 1) (nomark _)))
        (fun _ _ _ _ _ => pv 2))
      (pss_one (ps_ret (pe_lst (pa_cons (pe_ix ix_list (pv 0) pe_int (fun _ _ => rfl)) (pa_cons (pe_ifExp (pt_cmpR op_lt (pe_callB call_len_seq (by rfl) T.len PySem.boot_len (pa_cons (pv 3) pa_nil)) (pe_callB call_len_seq (by rfl) T.len PySem.boot_len (pa_cons (pe_ix ix_list (pv 0) pe_int (fun _ _ => rfl)) pa_nil)) (nomark _))
        (pv 3) (pe_callB (Kx.cr_sortedD hr.units) (by rfl) T.sorted (by decide +kernel) (pa_cons (pe_op op_cat (pe_ix ix_list (pv 0) pe_int (fun _ _ => rfl)) (pe_lst (pa_cons (pv 1) pa_nil))) pa_nil))) pa_nil))))), ?_⟩
    obtain ⟨c, l, ha, hc, Ts, hl, tu⟩ := id W0
    have few := g.len
    have lT : Ts.length = ps.length := by rw [tu.1, List.length_map]
    have pw : ∀ q ∈ prsS xs, IsW q.1 ∧ IsW q.2 := fun q hq => ⟨g.word _ (mem_prsS g.asc hq).1, g.word _ (mem_prsS g.asc hq).2.1⟩
    refine ⟨_, rfl, a, _, _, .ref l, rfl, rfl, SqL.of ha, rfl, l, rfl, ⟨_, SqL.of hl⟩, fun C hC => ?_⟩
    refine lc_list (xs := Ts.map V.ref) (fun j H2 => ∃ Us : List Addr, H2 C = some (.lst (Us.map V.ref)) ∧ Same H H2 ∧ Tups H2 Us (((ps.take j).filter fun q => decide (q ≠ p)).map tv))
      ⟨[], upd_same, same_new hC, Tups.nil⟩ (fun j H2 _ ⟨Us, _, s6, _⟩ => SqL.of (s6 _ _ hl)) ?_ ?_
    · rintro j v H2 hv ⟨Us, hu, s6, tu2⟩
      rw [List.getElem?_map] at hv
      obtain ⟨T0, hT, rfl⟩ := Option.map_eq_some_iff.mp hv
      have jl := (List.getElem?_eq_some_iff.mp hT).1
      have hq : ps[j]? = some ps[j] := List.getElem?_eq_getElem (by omega)
      have mq : ps[j] ∈ prsS xs := g.sub.subset (List.getElem_mem _)
      generalize ps[j] = q at hq mq
      have e1 := s6 _ _ (tu.2 j T0 (tv q) hT (by rw [List.getElem?_map, hq]; rfl))
      refine ⟨rfl, _, rfl, _, rfl, pd q, pd p, dp_pair (SqT.of e1), dp_pair (SqT.of (s6 _ _ ht)), pd_shaped (pw q mq).1 (pw q mq).2, pd_shaped (pw p hp).1 (pw p hp).2, _, rfl, ?_⟩
      rw [pd_eqv]
      have nx : (ps.take (j + 1)).filter (fun q => decide (q ≠ p)) = (ps.take j).filter (fun q => decide (q ≠ p)) ++ (if q = p then [] else [q]) := by
        rw [take_next hq, List.filter_append]
        by_cases z : q = p <;> simp [z]
      refine ite2 (fun hb => ?_) (fun hb => ?_)
      · have z : q ≠ p := by simpa using hb
        have lu : Us.length ≤ 36 := by
          rw [tu2.1, List.length_map]
          have h1 := List.length_filter_le (fun q => decide (q ≠ p)) (ps.take j)
          rw [List.length_take] at h1
          omega
        refine ⟨_, rfl, _, hu, by rw [List.length_map, sizeLine_eq]; omega, Us ++ [T0], by rw [upd_same]; simp, same_upd2 (.inr s6) hC, ?_⟩
        rw [nx, if_neg z, List.map_append]
        have t3 := tu2.upd (a := C) (o := .lst (Us.map V.ref ++ [V.ref T0])) fun x y e => by
          rw [hu] at e
          cases e
        exact t3.snoc (p := tv q) (by rw [upd_ne (ne_of hu e1 (fun z => nomatch z)).symm]; exact e1)
      · have z : q = p := by simpa using hb
        refine ⟨Us, hu, s6, ?_⟩
        rw [nx, if_pos z, List.append_nil]
        exact tu2
    · rintro H2 ⟨Us, hu, s6, tu2⟩
      have e0 : ps.take (Ts.map V.ref).length = ps := by rw [List.length_map, lT, List.take_length]
      rw [e0] at tu2
      have ha2 := s6 _ _ ha
      have hl2 := s6 _ _ hl
      have lU : Us.length = (ps.filter fun q => decide (q ≠ p)).length := by rw [tu2.1, List.length_map]
      have lF := List.length_filter_le (fun q => decide (q ≠ p)) ps
      refine ⟨_, rfl, a, _, _, .ref c, rfl, rfl, SqL.of ha2, rfl, ?_⟩
      refine ⟨_, rfl, C, _, rfl, .inl (SqL.of hu), _, rfl, a, _, _, .ref l, rfl, rfl, SqL.of ha2, rfl, l, _, rfl, .inl (SqL.of hl2), _, _, rfl, rfl, _, rfl, ?_⟩
      rw [List.length_map, List.length_map, lU, lT]
      refine ite2 (fun hb => ?_) (fun hb => ?_)
      · have hlt : (ps.filter fun q => decide (q ≠ p)).length < ps.length := by
          have := of_decide_eq_true hb
          omega
        have pin : p ∈ ps := by
          apply Classical.byContradiction
          intro no
          have e : ps.filter (fun q => decide (q ≠ p)) = ps := List.filter_eq_self.mpr fun q hq => decide_eq_true fun z => no (z ▸ hq)
          rw [e] at hlt
          exact Nat.lt_irrefl _ hlt
        have ef : ps.filter (fun q => decide (q ≠ p)) = flip xs ps p := asc_uniq (g.ascP.filter _) ((prsS_asc g.asc).filter _) fun q => by
          rw [List.mem_filter, mem_flip]
          constructor
          · rintro ⟨h1, h2⟩
            have h3 := of_decide_eq_true h2
            exact ⟨g.sub.subset h1, by simp [h1, h3]⟩
          · rintro ⟨h1, h2⟩
            by_cases z : q = p
            · subst z
              simp [pin] at h2
            · simp only [decide_eq_false z, Bool.bne_false] at h2
              exact ⟨of_decide_eq_true h2, decide_eq_true z⟩
        refine ⟨_, rfl, by show 2 ≤ sizeLine; decide, fun Z hZ => ?_⟩
        refine k _ Z (same_updN s6 hZ) (same_none s6 hZ) ⟨c, C, upd_same, (same_updN s6 hZ) _ _ hc, Us, by rw [upd_ne (ne_of_none hu hZ)]; exact hu, ?_⟩
        rw [← ef]
        exact tu2.keep fun T o _ e => by rw [upd_ne (ne_of_none e hZ)]; exact e
      · have nin : p ∉ ps := fun pin => by
          apply hb
          refine decide_eq_true ?_
          have hs : (ps.filter fun q => decide (q ≠ p)).length < ps.length := by
            rcases Nat.lt_or_ge (ps.filter fun q => decide (q ≠ p)).length ps.length with z | z
            · exact z
            · exfalso
              have e := (List.filter_sublist (p := fun q => decide (q ≠ p)) (l := ps)).eq_of_length (by omega)
              have h1 : p ∈ ps.filter fun q => decide (q ≠ p) := by rw [e]; exact pin
              exact of_decide_eq_true (List.mem_filter.mp h1).2 rfl
          omega
        refine ⟨_, rfl, a, _, _, .ref l, rfl, rfl, SqL.of ha2, rfl, _, rfl, by show 1 ≤ sizeLine; decide, fun L hL => ?_⟩
        have ll : l ≠ L := ne_of_none hl2 hL
        refine ⟨l, L, _, _, rfl, rfl, by rw [upd_ne ll]; exact hl2, upd_same, by rw [List.length_map, sizeLine_eq]; show _ + 1 ≤ _; omega, fun M hM => ?_⟩
        have s7 : Same H (upd (upd H2 L (.lst [.ref t])) M (.lst (Ts.map V.ref ++ [.ref t]))) := same_updN (same_updN s6 hL) hM
        have tu7 : Tups (upd (upd H2 L (.lst [.ref t])) M (.lst (Ts.map V.ref ++ [.ref t]))) (Ts ++ [t]) ((ps ++ [p]).map tv) := by
          rw [List.map_append]
          exact (tu.same s7).snoc (p := tv p) (s7 _ _ ht)
        dsimp only [tNil]
        refine sorted_prs (by rw [upd_same, List.map_append]; rfl) tu7 (by
          rw [List.nodup_append]
          exact ⟨g.nodup, by simp, fun x hx y hy => by
            rw [List.mem_singleton.mp hy]
            rintro rfl
            exact nin hx⟩) fun D Vs qs nD aq mq tq _ => ?_
        have ef : qs = flip xs ps p := asc_uniq aq ((prsS_asc g.asc).filter _) fun q => by
          rw [mq, List.mem_append, List.mem_singleton, mem_flip]
          constructor
          · rintro (h1 | h1)
            · have z : q ≠ p := fun e => nin (e ▸ h1)
              exact ⟨g.sub.subset h1, by simp [h1, z]⟩
            · subst h1
              exact ⟨hp, by simp [nin]⟩
          · rintro ⟨h1, h2⟩
            by_cases z : q = p
            · exact .inr z
            · simp only [decide_eq_false z, Bool.bne_false] at h2
              exact .inl (of_decide_eq_true h2)
        refine ⟨by show 2 ≤ sizeLine; decide, fun Z hZ => ?_⟩
        have s8 := same_updN (o := .lst (Vs.map V.ref)) s7 nD
        have s9 := same_updN (o := .lst [.ref c, .ref D]) s8 hZ
        refine k _ Z s9 (same_none s8 hZ) ⟨c, D, upd_same, s9 _ _ hc, Vs, ?_, ?_⟩
        · rw [upd_ne (ne_of_none upd_same hZ), upd_same]
        · rw [← ef]
          refine tq.keep fun T o _ e => ?_
          have e2 : upd (upd (upd H2 L (.lst [.ref t])) M (.lst (Ts.map V.ref ++ [.ref t]))) D (.lst (Vs.map V.ref)) T = some o := by rw [upd_ne (ne_of_none e nD)]; exact e
          rw [upd_ne (ne_of_none e2 hZ)]
          exact e2
end
end Wd
end
section
set_option maxRecDepth 100000
set_option maxHeartbeats 4000000
namespace Wd
open PySem L2
/-- a world of some people is made with draws -/
def spMade (m : Nat) : Sp := fun vs H Q _ => ∃ (p c : Addr) (xs : List Str) (c0 : Int) (n : Nat), vs = [.ref p, .ref c] ∧ PurseAt H p c0 (n + m) ∧ H c = some (.lst (xs.map V.str)) ∧ Good xs [] ∧
  ∀ (H' : Hp) (D : Addr) (qs : List Pr), qs.Sublist (prsS xs) → SameX p H H' → H D = none → WAt H' D xs qs → D ≠ p → PurseAt H' p c0 n → Q (.ref D) H'
section
variable {P : Program} {w : World} {K : PySem.W.Frag} {mg : Str → Option Value} {base : Heap}
set_option maxHeartbeats 1000000 in
theorem ok_density {f : Addr} {fd : FuncData} (F : Fun K "_law_by_density" "_law_by_density" s_by_density f fd) (T : Bt mg) (CD : Has P w K mg base 2 "_law_draw" ["_law_purse_here", "_law_many"] spDraw)
    (CP : Has P w K mg base 1 "_law_pairs" ["_law_crowd"] spPairs) : FnOk P w K mg base CX0 3 f fd ["_law_purse_here", "_law_crowd"] (spMade 110) := by
  obtain ⟨fD, fdD, GD, mD, kD, bD⟩ := CD
  obtain ⟨fP, fdP, GP, mP, kP, bP⟩ := CP
  refine F.ok c_by_density (fun vs H Q E h => ?_) (fun cdv A outer s H vs Q E hr h => ?_)
  · obtain ⟨_, _, _, _, _, rfl, _⟩ := h
    rfl
  · obtain ⟨p, c, xs, c0, n, rfl, pa, hc, g, k⟩ := h
    have hr1 : Room 1 _ := hr.mono (by decide)
    have hr2 : Room 2 _ := hr.mono (by decide)
    have ncp : c ≠ p := purse_ne pa hc fun b' c' t' z' e => by
      have l := congrArg (fun o : HO => match o with | .lst (.int i :: _) => true | _ => false) e
      cases xs with
      | nil => simp at l
      | cons x r => simp at l
    refine ⟨_, pss_cons (ps_par (i := 2) (j := 3) rfl c_by_density.nd rfl rfl (by decide) rfl rfl (pa_cons (pe_call GD hr2 rfl mD kD bD .nil pass0 (pa_cons (pv 0) (pa_cons pe_int pa_nil))) (pa_cons (pe_call GP hr1 rfl mP kP bP .nil pass0 (pa_cons (pv 1) pa_nil)) pa_nil)) (by rfl))
      (pss_cons (ps_if (pt_cmpR op_eq (pv 2) pe_int (nomark _)) (pss_one (ps_ret (pe_lst (pa_cons (pv 1) (pa_cons (pe_lc (own := [("_law_pair_here", 4)]) (g := gName 4) rfl c_by_density.nd (pi_list (pv 3))
        (blkOk_by (N := ["_law_purse_here", "_law_crowd", "_law_way", "_law_pairs_here", "_law_pair_here"]) (sc := defScope s_by_density) (by decide +kernel)) (fun _ _ _ _ _ => pg_name (i := 4) c_by_density.nd rfl (Or.inl rfl)) (fun _ _ _ _ _ => pts_one (pt_cmpR op_eq (pe_call GD hr2 rfl mD kD bD .nil pass0 (pa_cons (pv 0) (pa_cons pe_int pa_nil))) pe_int (nomark _)))
        (fun _ _ _ _ _ => pv 4)) pa_nil))))) pss_nil)
      (pss_cons (ps_if (pt_cmpR op_eq (pv 2) pe_int (nomark _)) (pss_one (ps_ret (pe_lst (pa_cons (pv 1) (pa_cons (pe_lc (own := [("_law_pair_here", 4)]) (g := gName 4) rfl c_by_density.nd (pi_list (pv 3))
        (blkOk_by (N := ["_law_purse_here", "_law_crowd", "_law_way", "_law_pairs_here", "_law_pair_here"]) (sc := defScope s_by_density) (by decide +kernel)) (fun _ _ _ _ _ => pg_name (i := 4) c_by_density.nd rfl (Or.inl rfl)) (fun _ _ _ _ _ => pts_one (pt_cmpR op_gt (pe_call GD hr2 rfl mD kD bD .nil pass0 (pa_cons (pv 0) (pa_cons pe_int pa_nil))) pe_int (nomark _)))
        (fun _ _ _ _ _ => pv 4)) pa_nil))))) pss_nil)
      (pss_one (ps_ret (pe_lst (pa_cons (pv 1) (pa_cons (pe_lc (own := [("_law_pair_here", 4)]) (g := gName 4) rfl c_by_density.nd (pi_list (pv 3))
        (blkOk_by (N := ["_law_purse_here", "_law_crowd", "_law_way", "_law_pairs_here", "_law_pair_here"]) (sc := defScope s_by_density) (by decide +kernel)) (fun _ _ _ _ _ => pg_name (i := 4) c_by_density.nd rfl (Or.inl rfl)) (fun _ _ _ _ _ => pts_one (pt_cmpR op_eq (pe_call GD hr2 rfl mD kD bD .nil pass0 (pa_cons (pv 0) (pa_cons pe_int pa_nil))) pe_int (nomark _)))
        (fun _ _ _ _ _ => pv 4)) pa_nil))))))), ?_⟩
    refine ⟨_, rfl, p, _, c0, n + 109, rfl, pa, by decide, by decide, fun H1 r r0 r1 sx1 pa1 => ?_⟩
    refine ⟨_, rfl, c, xs.map V.str, rfl, sx1 _ _ ncp hc, by rw [List.length_map]; have := g.few; omega, fun H2 D s2 nD ⟨Ts, hd, tu⟩ => ?_⟩
    rw [prs_strs] at tu
    have lT : Ts.length = (prsS xs).length := by rw [tu.1, List.length_map]
    have l36 := Good.len0 g.few.2
    have sx2 : SameX p H H2 := sx1.trans (SameX.of s2)
    have pa2 := pa1.same s2
    have nD2 : D ≠ p := purse_none pa1 nD
    refine ⟨_, _, rfl, ?_⟩
    refine ⟨_, rfl, rfl, _, rfl, ?_⟩
    refine ite2 (fun _ => ?_) (fun _ => ?_)
    · refine ⟨_, rfl, _, rfl, D, rfl, ⟨_, SqL.of hd⟩, fun C hC => ?_⟩
      have nC := purse_none pa2 hC
      refine lc_list (xs := Ts.map V.ref) (fun j H3 => ∃ (Us : List Addr) (qs : List Pr), H3 C = some (.lst (Us.map V.ref)) ∧ SameX p H2 H3 ∧ Tups H3 Us (qs.map tv) ∧ qs.Sublist ((prsS xs).take j) ∧ PurseAt H3 p c0 (n + (100 - j)))
        ⟨[], [], upd_same, (SameX.refl p H2).updN hC, Tups.nil, List.nil_sublist _, (pa2.upd nC).less (by omega)⟩ (fun j H3 _ ⟨Us, qs, _, s6, _⟩ => SqL.of (s6 _ _ nD2 hd)) ?_ ?_
      · rintro j v H3 hv ⟨Us, qs, hu, s6, tu2, sb, pa3⟩
        rw [List.getElem?_map] at hv
        obtain ⟨T0, hT, rfl⟩ := Option.map_eq_some_iff.mp hv
        have jl := (List.getElem?_eq_some_iff.mp hT).1
        have hq : (prsS xs)[j]? = some (prsS xs)[j] := List.getElem?_eq_getElem (by omega)
        generalize (prsS xs)[j] = q at hq
        have e1' := tu.2 j T0 (tv q) hT (by rw [List.getElem?_map, hq]; rfl)
        have e0 : n + (100 - j) = n + (100 - (j + 1)) + 1 := by omega
        rw [e0] at pa3
        refine ⟨rfl, _, rfl, p, _, c0, _, rfl, pa3, by decide, by decide, fun H4 u u0 u1 s7 pa4 => ⟨rfl, _, rfl, ?_⟩⟩
        have Cp : C ≠ p := nC
        have T0p : T0 ≠ p := purse_ne pa2 e1' fun _ _ _ _ z => nomatch z
        have e1 := s7 _ _ T0p (s6 _ _ T0p e1')
        have hu4 := s7 _ _ Cp hu
        have tu4 : Tups H4 Us (qs.map tv) := tu2.keep fun T o hT' e => by
          obtain ⟨y, _, ey⟩ := tu2.at hT'
          exact s7 _ _ (purse_ne pa3 ey fun _ _ _ _ z => nomatch z) e
        refine ite2 (fun hb => ?_) (fun hb => ?_)
        · have lu : Us.length ≤ 36 := by
            rw [tu2.1, List.length_map]
            have h1 := sb.length_le
            rw [List.length_take] at h1
            omega
          refine ⟨_, rfl, _, hu4, by rw [List.length_map, sizeLine_eq]; omega, Us ++ [T0], qs ++ [q], by rw [upd_same]; simp, fun b o nb e => ?_, ?_, ?_, pa4.upd Cp⟩
          · rw [upd_ne (ne_of_none e hC)]
            exact s7 _ _ nb (s6 _ _ nb e)
          · rw [List.map_append]
            have t3 := tu4.upd (a := C) (o := .lst (Us.map V.ref ++ [V.ref T0])) fun x y e => by
              rw [hu4] at e
              cases e
            exact t3.snoc (p := tv q) (by rw [upd_ne (ne_of hu4 e1 (fun z => nomatch z)).symm]; exact e1)
          · rw [take_next hq]
            exact sb.append (List.Sublist.refl _)
        · refine ⟨Us, qs, hu4, s6.trans s7, tu4, ?_, pa4⟩
          rw [take_next hq]
          exact sb.trans (List.sublist_append_left _ _)
      · rintro H3 ⟨Us, qs, hu, s6, tu2, sb, pa3⟩
        rw [List.length_map, lT, List.take_length] at sb
        refine ⟨by show 2 ≤ sizeLine; decide, fun Z hZ => ?_⟩
        have nZ := purse_none pa3 hZ
        have s7 := sx2.trans s6
        refine k _ Z qs sb (s7.updN (s7.none hZ nZ)) (s7.none hZ nZ) ⟨c, C, upd_same, ?_, Us, by rw [upd_ne (ne_of_none hu hZ)]; exact hu, tu2.keep fun T o _ e => by rw [upd_ne (ne_of_none e hZ)]; exact e⟩ nZ ((pa3.upd nZ).less (by omega))
        have hc3 := s7 _ _ ncp hc
        rw [upd_ne (ne_of_none hc3 hZ)]
        exact hc3
    · refine ⟨_, rfl, rfl, _, rfl, ?_⟩
      refine ite2 (fun _ => ?_) (fun _ => ?_)
      · refine ⟨_, rfl, _, rfl, D, rfl, ⟨_, SqL.of hd⟩, fun C hC => ?_⟩
        have nC := purse_none pa2 hC
        refine lc_list (xs := Ts.map V.ref) (fun j H3 => ∃ (Us : List Addr) (qs : List Pr), H3 C = some (.lst (Us.map V.ref)) ∧ SameX p H2 H3 ∧ Tups H3 Us (qs.map tv) ∧ qs.Sublist ((prsS xs).take j) ∧ PurseAt H3 p c0 (n + (100 - j)))
          ⟨[], [], upd_same, (SameX.refl p H2).updN hC, Tups.nil, List.nil_sublist _, (pa2.upd nC).less (by omega)⟩ (fun j H3 _ ⟨Us, qs, _, s6, _⟩ => SqL.of (s6 _ _ nD2 hd)) ?_ ?_
        · rintro j v H3 hv ⟨Us, qs, hu, s6, tu2, sb, pa3⟩
          rw [List.getElem?_map] at hv
          obtain ⟨T0, hT, rfl⟩ := Option.map_eq_some_iff.mp hv
          have jl := (List.getElem?_eq_some_iff.mp hT).1
          have hq : (prsS xs)[j]? = some (prsS xs)[j] := List.getElem?_eq_getElem (by omega)
          generalize (prsS xs)[j] = q at hq
          have e1' := tu.2 j T0 (tv q) hT (by rw [List.getElem?_map, hq]; rfl)
          have e0 : n + (100 - j) = n + (100 - (j + 1)) + 1 := by omega
          rw [e0] at pa3
          refine ⟨rfl, _, rfl, p, _, c0, _, rfl, pa3, by decide, by decide, fun H4 u u0 u1 s7 pa4 => ⟨_, _, rfl, rfl, _, rfl, ?_⟩⟩
          have Cp : C ≠ p := nC
          have T0p : T0 ≠ p := purse_ne pa2 e1' fun _ _ _ _ z => nomatch z
          have e1 := s7 _ _ T0p (s6 _ _ T0p e1')
          have hu4 := s7 _ _ Cp hu
          have tu4 : Tups H4 Us (qs.map tv) := tu2.keep fun T o hT' e => by
            obtain ⟨y, _, ey⟩ := tu2.at hT'
            exact s7 _ _ (purse_ne pa3 ey fun _ _ _ _ z => nomatch z) e
          refine ite2 (fun hb => ?_) (fun hb => ?_)
          · have lu : Us.length ≤ 36 := by
              rw [tu2.1, List.length_map]
              have h1 := sb.length_le
              rw [List.length_take] at h1
              omega
            refine ⟨_, rfl, _, hu4, by rw [List.length_map, sizeLine_eq]; omega, Us ++ [T0], qs ++ [q], by rw [upd_same]; simp, fun b o nb e => ?_, ?_, ?_, pa4.upd Cp⟩
            · rw [upd_ne (ne_of_none e hC)]
              exact s7 _ _ nb (s6 _ _ nb e)
            · rw [List.map_append]
              have t3 := tu4.upd (a := C) (o := .lst (Us.map V.ref ++ [V.ref T0])) fun x y e => by
                rw [hu4] at e
                cases e
              exact t3.snoc (p := tv q) (by rw [upd_ne (ne_of hu4 e1 (fun z => nomatch z)).symm]; exact e1)
            · rw [take_next hq]
              exact sb.append (List.Sublist.refl _)
          · refine ⟨Us, qs, hu4, s6.trans s7, tu4, ?_, pa4⟩
            rw [take_next hq]
            exact sb.trans (List.sublist_append_left _ _)
        · rintro H3 ⟨Us, qs, hu, s6, tu2, sb, pa3⟩
          rw [List.length_map, lT, List.take_length] at sb
          refine ⟨by show 2 ≤ sizeLine; decide, fun Z hZ => ?_⟩
          have nZ := purse_none pa3 hZ
          have s7 := sx2.trans s6
          refine k _ Z qs sb (s7.updN (s7.none hZ nZ)) (s7.none hZ nZ) ⟨c, C, upd_same, ?_, Us, by rw [upd_ne (ne_of_none hu hZ)]; exact hu, tu2.keep fun T o _ e => by rw [upd_ne (ne_of_none e hZ)]; exact e⟩ nZ ((pa3.upd nZ).less (by omega))
          have hc3 := s7 _ _ ncp hc
          rw [upd_ne (ne_of_none hc3 hZ)]
          exact hc3
      · refine ⟨_, rfl, _, rfl, D, rfl, ⟨_, SqL.of hd⟩, fun C hC => ?_⟩
        have nC := purse_none pa2 hC
        refine lc_list (xs := Ts.map V.ref) (fun j H3 => ∃ (Us : List Addr) (qs : List Pr), H3 C = some (.lst (Us.map V.ref)) ∧ SameX p H2 H3 ∧ Tups H3 Us (qs.map tv) ∧ qs.Sublist ((prsS xs).take j) ∧ PurseAt H3 p c0 (n + (100 - j)))
          ⟨[], [], upd_same, (SameX.refl p H2).updN hC, Tups.nil, List.nil_sublist _, (pa2.upd nC).less (by omega)⟩ (fun j H3 _ ⟨Us, qs, _, s6, _⟩ => SqL.of (s6 _ _ nD2 hd)) ?_ ?_
        · rintro j v H3 hv ⟨Us, qs, hu, s6, tu2, sb, pa3⟩
          rw [List.getElem?_map] at hv
          obtain ⟨T0, hT, rfl⟩ := Option.map_eq_some_iff.mp hv
          have jl := (List.getElem?_eq_some_iff.mp hT).1
          have hq : (prsS xs)[j]? = some (prsS xs)[j] := List.getElem?_eq_getElem (by omega)
          generalize (prsS xs)[j] = q at hq
          have e1' := tu.2 j T0 (tv q) hT (by rw [List.getElem?_map, hq]; rfl)
          have e0 : n + (100 - j) = n + (100 - (j + 1)) + 1 := by omega
          rw [e0] at pa3
          refine ⟨rfl, _, rfl, p, _, c0, _, rfl, pa3, by decide, by decide, fun H4 u u0 u1 s7 pa4 => ⟨rfl, _, rfl, ?_⟩⟩
          have Cp : C ≠ p := nC
          have T0p : T0 ≠ p := purse_ne pa2 e1' fun _ _ _ _ z => nomatch z
          have e1 := s7 _ _ T0p (s6 _ _ T0p e1')
          have hu4 := s7 _ _ Cp hu
          have tu4 : Tups H4 Us (qs.map tv) := tu2.keep fun T o hT' e => by
            obtain ⟨y, _, ey⟩ := tu2.at hT'
            exact s7 _ _ (purse_ne pa3 ey fun _ _ _ _ z => nomatch z) e
          refine ite2 (fun hb => ?_) (fun hb => ?_)
          · have lu : Us.length ≤ 36 := by
              rw [tu2.1, List.length_map]
              have h1 := sb.length_le
              rw [List.length_take] at h1
              omega
            refine ⟨_, rfl, _, hu4, by rw [List.length_map, sizeLine_eq]; omega, Us ++ [T0], qs ++ [q], by rw [upd_same]; simp, fun b o nb e => ?_, ?_, ?_, pa4.upd Cp⟩
            · rw [upd_ne (ne_of_none e hC)]
              exact s7 _ _ nb (s6 _ _ nb e)
            · rw [List.map_append]
              have t3 := tu4.upd (a := C) (o := .lst (Us.map V.ref ++ [V.ref T0])) fun x y e => by
                rw [hu4] at e
                cases e
              exact t3.snoc (p := tv q) (by rw [upd_ne (ne_of hu4 e1 (fun z => nomatch z)).symm]; exact e1)
            · rw [take_next hq]
              exact sb.append (List.Sublist.refl _)
          · refine ⟨Us, qs, hu4, s6.trans s7, tu4, ?_, pa4⟩
            rw [take_next hq]
            exact sb.trans (List.sublist_append_left _ _)
        · rintro H3 ⟨Us, qs, hu, s6, tu2, sb, pa3⟩
          rw [List.length_map, lT, List.take_length] at sb
          refine ⟨by show 2 ≤ sizeLine; decide, fun Z hZ => ?_⟩
          have nZ := purse_none pa3 hZ
          have s7 := sx2.trans s6
          refine k _ Z qs sb (s7.updN (s7.none hZ nZ)) (s7.none hZ nZ) ⟨c, C, upd_same, ?_, Us, by rw [upd_ne (ne_of_none hu hZ)]; exact hu, tu2.keep fun T o _ e => by rw [upd_ne (ne_of_none e hZ)]; exact e⟩ nZ ((pa3.upd nZ).less (by omega))
          have hc3 := s7 _ _ ncp hc
          rw [upd_ne (ne_of_none hc3 hZ)]
          exact hc3
end
end Wd
end
section
set_option maxRecDepth 100000
set_option maxHeartbeats 4000000
namespace Wd
open PySem L2
abbrev nLab : List Str := ["_law_purse_here", "_law_crowd", "_law_size", "_law_turn", "_law_person", "_law_rows", "_law_tie", "_law_ties", "_law_found", "_law_first", "_law_second", "_law_total", "_law_at_here", "_law_spot"]
theorem mem_prs {xs : List V} {q : V × V} (h : q ∈ prs xs) : q.1 ∈ xs ∧ q.2 ∈ xs := by
  induction xs with
  | nil => cases h
  | cons x r ih =>
    rcases List.mem_append.mp h with h | h
    · obtain ⟨y, hy, rfl⟩ := List.mem_map.mp h
      exact ⟨List.mem_cons_self, List.mem_cons_of_mem _ hy⟩
    · obtain ⟨h1, h2⟩ := ih h
      exact ⟨List.mem_cons_of_mem _ h1, List.mem_cons_of_mem _ h2⟩
theorem prs_map (f : V → V) : ∀ l : List V, prs (l.map f) = (prs l).map fun q => (f q.1, f q.2)
  | [] => rfl
  | x :: r => by
    show (r.map f).map (fun y => (f x, y)) ++ prs (r.map f) = (r.map (fun y => (x, y)) ++ prs r).map _
    rw [prs_map f r, List.map_append, List.map_map, List.map_map]
    rfl
theorem mem_rgV {n : Nat} {v : V} (h : v ∈ rgV 0 (n : Int)) : ∃ i : Nat, v = .int (i : Int) ∧ i < n := by
  unfold rgV at h
  obtain ⟨i, hi, rfl⟩ := List.mem_map.mp h
  have := List.mem_range.mp hi
  exact ⟨i, by rw [Int.zero_add], by omega⟩
/-- the k-th two of the places is the k-th pair -/
theorem prs_places (xs : List Str) (k : Nat) (q : V × V) (h : (prs (rgV 0 (xs.length : Int)))[k]? = some q) : ∃ (i j : Nat) (a b : Str), q = (.int (i : Int), .int (j : Int)) ∧ xs[i]? = some a ∧ xs[j]? = some b ∧ (prsS xs)[k]? = some (a, b) := by
  have m := mem_prs (List.mem_of_getElem? h)
  obtain ⟨i, e1, hi⟩ := mem_rgV m.1
  obtain ⟨j, e2, hj⟩ := mem_rgV m.2
  let f : V → V := fun v => match v with | .int i => .str (xs.getD i.toNat Str.empty) | _ => .non
  have em : (rgV 0 (xs.length : Int)).map f = xs.map V.str := by
    unfold rgV
    rw [List.map_map, Int.sub_zero, Int.toNat_natCast]
    refine List.ext_getElem? fun t => ?_
    rw [List.getElem?_map, List.getElem?_map]
    by_cases c : t < xs.length
    · rw [List.getElem?_range c, List.getElem?_eq_getElem c]
      show some (V.str (xs.getD ((0 : Int) + (t : Nat)).toNat Str.empty)) = _
      rw [Int.zero_add, Int.toNat_natCast, List.getD_eq_getElem?_getD, List.getElem?_eq_getElem c]
      rfl
    · rw [List.getElem?_eq_none (by rw [List.length_range]; omega), List.getElem?_eq_none (by omega)]
      rfl
  have h2 : (prs ((rgV 0 (xs.length : Int)).map f))[k]? = some (f q.1, f q.2) := by
    rw [prs_map, List.getElem?_map, h]
    rfl
  rw [em, prs_strs, List.getElem?_map] at h2
  obtain ⟨p, hp, ep⟩ := Option.map_eq_some_iff.mp h2
  have ga : xs[i]? = some xs[i] := List.getElem?_eq_getElem hi
  have gb : xs[j]? = some xs[j] := List.getElem?_eq_getElem hj
  have fa : f (.int (i : Int)) = .str xs[i] := by
    show V.str (xs.getD ((i : Int)).toNat Str.empty) = _
    rw [Int.toNat_natCast, List.getD_eq_getElem?_getD, ga]
    rfl
  have fb : f (.int (j : Int)) = .str xs[j] := by
    show V.str (xs.getD ((j : Int)).toNat Str.empty) = _
    rw [Int.toNat_natCast, List.getD_eq_getElem?_getD, gb]
    rfl
  rw [e1, e2, fa, fb] at ep
  have e3 := Prod.mk.inj ep
  injection e3.1 with e4
  injection e3.2 with e5
  exact ⟨i, j, xs[i], xs[j], Prod.ext e1 e2, ga, gb, by rw [hp, ← e4, ← e5]⟩
theorem two_len : ∀ xs : List V, 2 * (prs xs).length + xs.length = xs.length * xs.length
  | [] => rfl
  | x :: r => by
    have h := two_len r
    show 2 * (r.map (fun y => (x, y)) ++ prs r).length + (r.length + 1) = (r.length + 1) * (r.length + 1)
    rw [List.length_append, List.length_map]
    have e : (r.length + 1) * (r.length + 1) = r.length * r.length + r.length + (r.length + 1) := by
      rw [Nat.add_mul, Nat.one_mul, Nat.mul_add, Nat.mul_one]
    omega
/-- a row of bits stands at a -/
def Row (H : Hp) (m : Nat) (a : Addr) : Prop := ∃ ns : List Int, H a = some (.lst (ns.map V.int)) ∧ ns.length = m ∧ ∀ v ∈ ns, 0 ≤ v ∧ v ≤ 1
theorem Row.at {H : Hp} {m : Nat} {a : Addr} (r : Row H m a) {i : Nat} (h : i < m) : ∃ (ns : List Int) (v : Int), H a = some (.lst (ns.map V.int)) ∧ atI (ns.map V.int) (i : Int) = some (.int v) ∧ 0 ≤ v ∧ v ≤ 1 := by
  obtain ⟨ns, e, l, b⟩ := r
  have hi : ns[i]? = some ns[i] := List.getElem?_eq_getElem (by omega)
  exact ⟨ns, ns[i], e, atI_nat (by rw [List.getElem?_map, hi]; rfl), b _ (List.getElem_mem _)⟩
section
variable {P : Program} {w : World} {K : PySem.W.Frag} {mg : Str → Option Value} {base : Heap}
set_option maxHeartbeats 1000000 in
theorem ok_labels {f : Addr} {fd : FuncData} (F : Fun K "_law_by_labels" "_law_by_labels" s_by_labels f fd) (T : Bt mg) (CD : Has P w K mg base 2 "_law_draw" ["_law_purse_here", "_law_many"] spDraw)
    (CP : Has P w K mg base 1 "_law_pairs" ["_law_crowd"] spPairs) : FnOk P w K mg base CX0 3 f fd ["_law_purse_here", "_law_crowd"] (spMade 110) := by
  obtain ⟨fD, fdD, GD, mD, kD, bD⟩ := CD
  obtain ⟨fP, fdP, GP, mP, kP, bP⟩ := CP
  refine F.ok c_by_labels (fun vs H Q E h => ?_) (fun cdv A outer s H vs Q E hr h => ?_)
  · obtain ⟨_, _, _, _, _, rfl, _⟩ := h
    rfl
  · obtain ⟨p, c, xs, c0, n, rfl, pa, hc, g, k⟩ := h
    have hr1 : Room 1 _ := hr.mono (by decide)
    have hr2 : Room 2 _ := hr.mono (by decide)
    refine ⟨_, pss_cons (ps_set (i := 2) c_by_labels.nd rfl (Or.inl rfl) (pe_op op_add pe_int (pe_call GD hr2 rfl mD kD bD .nil pass0 (pa_cons (pv 0) (pa_cons pe_int pa_nil)))))
      (pss_cons (ps_setLc (i := 5) (own := [("_law_turn", 3)]) (g := gName 3) (tt := tYes) rfl c_by_labels.nd rfl rfl (sw_true rfl rfl rfl (by decide +kernel)) (pi_range1 rfl T.range (pa_cons (pv 2) pa_nil))
          (blkOk_by (N := nLab) (sc := defScope s_by_labels) (by decide +kernel)) (fun _ _ _ _ _ => pg_name (i := 3) c_by_labels.nd rfl (Or.inl rfl)) (fun _ _ _ _ _ => pts_nil)
          (fun _ _ _ _ _ => pe_lc (wi := iList K (tVar 1)) (own := [("_law_person", 4)]) (g := gName 4) (tt := tYes) rfl c_by_labels.nd (pi_list (pv 1)) (blkOk_by (by rfl)) (fun _ _ _ _ _ => pg_name (i := 4) c_by_labels.nd rfl (Or.inl rfl)) (fun _ _ _ _ _ => pts_nil)
            (fun _ _ _ _ _ => pe_call GD hr2 rfl mD kD bD .nil pass0 (pa_cons (pv 0) (pa_cons pe_int pa_nil)))))
      (pss_cons (ps_setLc (i := 7) (own := [("_law_tie", 6)]) (g := gName 6) rfl c_by_labels.nd rfl rfl (sw_true rfl rfl rfl (by decide +kernel)) (pi_list (pe_call GP hr1 rfl mP kP bP .nil pass0 (pa_cons (pe_listRg rfl (by rfl) T.list (prg_1 rfl T.range (pv 2))) pa_nil)))
          (blkOk_by (N := nLab) (sc := defScope s_by_labels) (by decide +kernel)) (fun _ _ _ _ _ => pg_name (i := 6) c_by_labels.nd rfl (Or.inl rfl)) (fun _ _ _ _ _ => pts_one (pt_cmpR op_eq (pe_call GD hr2 rfl mD kD bD .nil pass0 (pa_cons (pv 0) (pa_cons pe_int pa_nil))) pe_int (nomark _)))
          (fun _ _ _ _ _ => pv 6))
      (pss_cons (ps_set (i := 8) c_by_labels.nd rfl (Or.inl rfl) (pe_lst pa_nil))
      (pss_cons (ps_for PassesOwn.never rfl (pi_list (pe_call GP hr1 rfl mP kP bP .nil pass0 (pa_cons (pe_listRg rfl (by rfl) T.list (prg_1 rfl T.range (pe_callB call_len_seq (by rfl) T.len PySem.boot_len (pa_cons (pv 1) pa_nil)))) pa_nil)))
          (pg_tup rfl (pgs_cons (pg_name (i := 9) c_by_labels.nd rfl (Or.inl rfl)) (pgs_cons (pg_name (i := 10) c_by_labels.nd rfl (Or.inl rfl)) pgs_nil)))
          (pss_cons (ps_set (i := 11) c_by_labels.nd rfl (Or.inl rfl) pe_int)
          (pss_cons (ps_for PassesOwn.never rfl (pi_list (pv 7)) (pg_tup rfl (pgs_cons (pg_name (i := 12) c_by_labels.nd rfl (Or.inl rfl)) (pgs_cons (pg_name (i := 13) c_by_labels.nd rfl (Or.inl rfl)) pgs_nil)))
            (pss_cons (ps_set (i := 11) c_by_labels.nd rfl (Or.inl rfl) (pe_op op_add (pv 11) (pe_op op_mul (pe_ix ix_list (pe_ix ix_list (pv 5) (pv 12) (fun _ _ => rfl)) (pv 9) (fun _ _ => rfl)) (pe_ix ix_list (pe_ix ix_list (pv 5) (pv 13) (fun _ _ => rfl)) (pv 10) (fun _ _ => rfl)))))
            (pss_one (ps_set (i := 11) c_by_labels.nd rfl (Or.inl rfl) (pe_op op_add (pv 11) (pe_op op_mul (pe_ix ix_list (pe_ix ix_list (pv 5) (pv 13) (fun _ _ => rfl)) (pv 9) (fun _ _ => rfl)) (pe_ix ix_list (pe_ix ix_list (pv 5) (pv 12) (fun _ _ => rfl)) (pv 10) (fun _ _ => rfl))))))))
          (pss_one (ps_if (pt_cmpR op_eq (pe_op op_mod (pe_callTy call_int1 (by rfl) T.int (by decide +kernel) (pa_cons (pv 11) pa_nil)) pe_int) pe_int (nomark _))
            (pss_one (ps_expr (pe_bm PySem.F.plainAttrs_list PySem.F.slot_list_append PySem.F.type_list_append mt_append (pv 8) (pa_cons (pe_tup (pa_cons (pe_ix ix_list (pv 1) (pv 9) (fun _ _ => rfl)) (pa_cons (pe_ix ix_list (pv 1) (pv 10) (fun _ _ => rfl)) pa_nil))) pa_nil)))) pss_nil)))))
      (pss_one (ps_ret (pe_lst (pa_cons (pv 1) (pa_cons (pv 8) pa_nil))))))))), ?_⟩
    have lx := g.few
    have ncp : c ≠ p := purse_ne pa hc fun b' c' t' z' e => by
      have l := congrArg (fun o : HO => match o with | .lst (.int i :: _) => true | _ => false) e
      cases xs with
      | nil => simp at l
      | cons x r => simp at l
    refine ⟨_, rfl, p, _, c0, n + 109, rfl, pa, by decide, by decide, fun H1 r r0 r1 sx1 pa1 => ⟨_, _, rfl, rfl, ?_⟩⟩
    obtain ⟨sz, esz, sz1, sz3⟩ : ∃ sz : Nat, (1 + r : Int) = (sz : Int) ∧ 1 ≤ sz ∧ sz ≤ 3 := ⟨(1 + r).toNat, by omega, by omega, by omega⟩
    show gName 2 (V.int (1 + r)) _ _ _
    rw [esz]
    refine ⟨_, rfl, (sz : Int), rfl, by omega, by omega, fun R hR => ?_⟩
    have nR := purse_none pa1 hR
    have hc1 := sx1 _ _ ncp hc
    have cR := ne_of_none hc1 hR
    refine lc_range (lo := 0) (n := (sz : Int).toNat) (fun i H2 => ∃ Ls : List Addr, H2 R = some (.lst (Ls.map V.ref)) ∧ Ls.length = i ∧ (∀ a ∈ Ls, Row H2 xs.length a ∧ a ≠ R ∧ a ≠ p) ∧ SameX p H1 H2 ∧ PurseAt H2 p c0 (n + 60 + (3 - i) * 10))
      ⟨[], upd_same, rfl, (fun _ h => nomatch h), (SameX.refl p H1).updN hR, (pa1.upd nR).less (by omega)⟩ ?_ ?_
    · rintro i H2 hi ⟨Ls, hl, li, rows, sx2, pa2⟩
      have hc2 := sx2 _ _ ncp hc1
      refine ⟨rfl, _, rfl, c, rfl, ⟨_, SqL.of hc2⟩, fun C hC => ?_⟩
      have nC := purse_none pa2 hC
      have CR : R ≠ C := ne_of_none hl hC
      refine lc_list (xs := xs.map V.str) (fun j H3 => ∃ ns : List Int, H3 C = some (.lst (ns.map V.int)) ∧ ns.length = j ∧ (∀ v ∈ ns, 0 ≤ v ∧ v ≤ 1) ∧ SameX p H2 H3 ∧ PurseAt H3 p c0 (n + 60 + (3 - (i + 1)) * 10 + (10 - j)))
        ⟨[], upd_same, rfl, (fun _ h => nomatch h), (SameX.refl p H2).updN hC, (pa2.upd nC).less (by omega)⟩ (fun j H3 _ ⟨ns, _, _, _, s3, _⟩ => SqL.of (s3 _ _ ncp hc2)) ?_ ?_
      · rintro j v H3 hv ⟨ns, hn, lj, bits, sx3, pa3⟩
        have jl := (List.getElem?_eq_some_iff.mp hv).1
        rw [List.length_map] at jl
        have e0 : n + 60 + (3 - (i + 1)) * 10 + (10 - j) = n + 60 + (3 - (i + 1)) * 10 + (10 - (j + 1)) + 1 := by omega
        rw [e0] at pa3
        refine ⟨rfl, _, rfl, p, _, c0, _, rfl, pa3, by decide, by decide, fun H4 u u0 u1 sx4 pa4 => ?_⟩
        have hn4 := sx4 _ _ nC hn
        refine ⟨_, hn4, by rw [List.length_map, sizeLine_eq]; omega, ns ++ [u], by rw [upd_same]; simp, by rw [List.length_append, List.length_singleton, lj], fun v hv => ?_, (sx3.trans sx4).updN hC, pa4.upd nC⟩
        rcases List.mem_append.mp hv with h | h
        · exact bits v h
        · rw [List.mem_singleton.mp h]
          omega
      · rintro H3 ⟨ns, hn, lj, bits, sx3, pa3⟩
        rw [List.length_map] at lj pa3
        have hl3 := sx3 _ _ nR hl
        refine ⟨_, hl3, by rw [List.length_map, sizeLine_eq]; omega, Ls ++ [C], by rw [upd_same]; simp, by rw [List.length_append, List.length_singleton, li], fun a ha => ?_, (sx2.trans sx3).updN hR, (pa3.upd nR).less (by omega)⟩
        rcases List.mem_append.mp ha with h | h
        · obtain ⟨⟨ms, e1, e2, e3⟩, e4, e5⟩ := rows a h
          exact ⟨⟨ms, by rw [upd_ne e4]; exact sx3 _ _ e5 e1, e2, e3⟩, e4, e5⟩
        · rw [List.mem_singleton.mp h]
          exact ⟨⟨ns, by rw [upd_ne (Ne.symm CR)]; exact hn, lj, bits⟩, Ne.symm CR, nC⟩
    rintro H2 ⟨Ls, hl, li, rows, sx2, pa2⟩
    rw [Int.toNat_natCast] at li pa2
    have hc2 := sx2 _ _ ncp hc1
    -- the ties
    refine ⟨_, rfl, _, rfl, RgOk.of_le (by omega) (by omega) (by omega) (by omega), fun L hL => ?_⟩
    have nL := purse_none pa2 hL
    have lrg : (rgV 0 (sz : Int)).length = sz := by rw [rgV_length]; omega
    refine ⟨L, _, rfl, upd_same, by rw [lrg]; omega, fun H3 D s3 nD ⟨Ts, hd, tu⟩ => ⟨D, rfl, ⟨_, SqL.of hd⟩, fun C hC => ?_⟩⟩
    have pa3 := (pa2.upd (o := .lst (rgV 0 (sz : Int))) nL).same s3
    have sx3 : SameX p H2 H3 := ((SameX.refl p H2).updN hL).trans (SameX.of s3)
    have nDp : D ≠ p := purse_none (pa2.upd (o := .lst (rgV 0 (sz : Int))) nL) nD
    have nC := purse_none pa3 hC
    have pl : (prs (rgV 0 (sz : Int))).length ≤ 9 := by
      have h1 := prs_len (rgV 0 (sz : Int))
      rw [lrg] at h1
      have h2 : sz * sz ≤ 3 * 3 := Nat.mul_le_mul sz3 sz3
      omega
    have lT := tu.1
    refine lc_list (xs := Ts.map V.ref) (fun j H4 => ∃ (Us : List Addr) (qs : List (V × V)), H4 C = some (.lst (Us.map V.ref)) ∧ SameX p H3 H4 ∧ Tups H4 Us qs ∧ (∀ q ∈ qs, q ∈ prs (rgV 0 (sz : Int))) ∧ qs.length ≤ j ∧ PurseAt H4 p c0 (n + 40 + (9 - j)))
      ⟨[], [], upd_same, (SameX.refl p H3).updN hC, Tups.nil, (fun _ h => nomatch h), Nat.le_refl _, (pa3.upd nC).less (by omega)⟩ (fun j H4 _ ⟨Us, qs, _, s6, _⟩ => SqL.of (s6 _ _ nDp hd)) ?_ ?_
    · rintro j v H4 hv ⟨Us, qs, hu, s6, tu2, mq, lq, pa4⟩
      rw [List.getElem?_map] at hv
      obtain ⟨T0, hT, rfl⟩ := Option.map_eq_some_iff.mp hv
      have jl := (List.getElem?_eq_some_iff.mp hT).1
      have hq : (prs (rgV 0 (sz : Int)))[j]? = some (prs (rgV 0 (sz : Int)))[j] := List.getElem?_eq_getElem (by omega)
      have qm : (prs (rgV 0 (sz : Int)))[j] ∈ prs (rgV 0 (sz : Int)) := List.getElem_mem _
      generalize (prs (rgV 0 (sz : Int)))[j] = q at hq qm
      have e1' := tu.2 j T0 q hT hq
      have e0 : n + 40 + (9 - j) = n + 40 + (9 - (j + 1)) + 1 := by omega
      rw [e0] at pa4
      refine ⟨rfl, _, rfl, p, _, c0, _, rfl, pa4, by decide, by decide, fun H5 u u0 u1 s7 pa5 => ⟨rfl, _, rfl, ?_⟩⟩
      have T0p : T0 ≠ p := purse_ne pa3 e1' fun _ _ _ _ z => nomatch z
      have e1 := s7 _ _ T0p (s6 _ _ T0p e1')
      have hu4 := s7 _ _ nC hu
      have tu4 : Tups H5 Us qs := tu2.keep fun T o hT' e => by
        obtain ⟨y, _, ey⟩ := tu2.at hT'
        exact s7 _ _ (purse_ne pa4 ey fun _ _ _ _ z => nomatch z) e
      refine ite2 (fun hb => ?_) (fun hb => ?_)
      · refine ⟨_, rfl, _, hu4, by rw [List.length_map, sizeLine_eq, tu2.1]; omega, Us ++ [T0], qs ++ [q], by rw [upd_same]; simp, fun b o nb e => ?_, ?_, fun z hz => ?_, by rw [List.length_append, List.length_singleton]; omega, pa5.upd nC⟩
        · rw [upd_ne (ne_of_none e hC)]
          exact s7 _ _ nb (s6 _ _ nb e)
        · have t3 := tu4.upd (a := C) (o := .lst (Us.map V.ref ++ [V.ref T0])) fun x y e => by
            rw [hu4] at e
            cases e
          exact t3.snoc (by rw [upd_ne (ne_of hu4 e1 (fun z => nomatch z)).symm]; exact e1)
        · rcases List.mem_append.mp hz with h | h
          · exact mq z h
          · rw [List.mem_singleton.mp h]
            exact qm
      · exact ⟨Us, qs, hu4, s6.trans s7, tu4, mq, by omega, pa5⟩
    rintro H4 ⟨Us, qs, hu, s6, tu2, mq, lq, pa4⟩
    rw [List.length_map] at lq
    have sx4 : SameX p H2 H4 := sx3.trans s6
    have sx04 : SameX p H H4 := (sx1.trans sx2).trans sx4
    have hc4 := sx4 _ _ ncp hc2
    have hl4 := sx4 _ _ nR hl
    have rows4 : ∀ a ∈ Ls, Row H4 xs.length a := fun a ha => by
      obtain ⟨⟨ms, e1, e2, e3⟩, e4, e5⟩ := rows a ha
      exact ⟨ms, sx4 _ _ e5 e1, e2, e3⟩
    -- the friendships
    refine ⟨Nat.zero_le _, fun Fd hF => ?_⟩
    have nF := purse_none pa4 hF
    have cF := ne_of_none hc4 hF
    refine ⟨_, rfl, c, _, rfl, .inl (SqL.of (by rw [upd_ne cF]; exact hc4)), _, rfl, by rw [List.length_map]; exact RgOk.of_le (by omega) (by omega) (by omega) (by omega), fun L2 hL2 => ?_⟩
    rw [List.length_map]
    have lrg2 : (rgV 0 (xs.length : Int)).length = xs.length := by rw [rgV_length]; omega
    have hL24 : H4 L2 = none := by
      have x1 : Fd ≠ L2 := ne_of_none upd_same hL2
      rw [upd_ne (Ne.symm x1)] at hL2
      exact hL2
    refine ⟨L2, _, rfl, upd_same, by rw [lrg2]; omega, fun H5 D2 s5 nD2 ⟨Vs, hd2, tv2⟩ => ⟨D2, rfl, ⟨_, SqL.of hd2⟩, ?_⟩⟩
    have s45 : Same H4 H5 := fun b o e => s5 _ _ ((same_updN (same_updN (o := .lst []) (fun _ _ e => e) hF) hL2) _ _ e)
    have pa5 := pa4.same s45
    have hF5 : H5 Fd = some (.lst []) := s5 _ _ (by rw [upd_ne (ne_of_none upd_same hL2), upd_same])
    have lV := tv2.1
    have l36 := Good.len0 g.few.2
    have hl5 := s45 _ _ hl4
    have hu5 := s45 _ _ hu
    have tu5 := tu2.same s45
    have hc5 := s45 _ _ hc4
    have rows5 : ∀ a ∈ Ls, Row H5 xs.length a := fun a ha => by
      obtain ⟨ms, e1, e2, e3⟩ := rows4 a ha
      exact ⟨ms, s45 _ _ e1, e2, e3⟩
    have nDF : D2 ≠ Fd := fun z => by
      rw [z] at nD2
      rw [upd_ne (ne_of_none upd_same hL2), upd_same] at nD2
      cases nD2
    have CF : C ≠ Fd := ne_of_none hu hF
    have RF : R ≠ Fd := ne_of_none hl4 hF
    refine for_list (xs := Vs.map V.ref) (fun i σ H6 => ∃ (Ws : List Addr) (ws : List Pr) (v9 v10 v11 v12 v13 : Option V), σ = [some (.ref p), some (.ref c), some (.int sz), none, none, some (.ref R), none, some (.ref C), some (.ref Fd), v9, v10, v11, v12, v13] ∧ H6 Fd = some (.lst (Ws.map V.ref)) ∧ Tups H6 Ws (ws.map tv) ∧ ws.Sublist ((prsS xs).take i) ∧ (∀ b o, b ≠ Fd → H5 b = some o → H6 b = some o))
      ⟨[], [], none, none, none, none, none, rfl, hF5, Tups.nil, List.nil_sublist _, fun _ _ _ e => e⟩ ?_ ?_ ?_
    · rintro i σ H6 _ ⟨Ws, ws, v9, v10, v11, v12, v13, rfl, _, _, _, kp⟩
      exact SqL.of (kp _ _ nDF hd2)
    · rintro i x σ H6 hx ⟨Ws, ws, v9, v10, v11, v12, v13, rfl, hf6, tw, sb, kp⟩
      rw [List.getElem?_map] at hx
      obtain ⟨T0, hT, rfl⟩ := Option.map_eq_some_iff.mp hx
      have jl := (List.getElem?_eq_some_iff.mp hT).1
      have hq : (prs (rgV 0 (xs.length : Int)))[i]? = some (prs (rgV 0 (xs.length : Int)))[i] := List.getElem?_eq_getElem (by omega)
      generalize (prs (rgV 0 (xs.length : Int)))[i] = q at hq
      have e1 := tv2.2 i T0 q hT hq
      obtain ⟨fi, se, ta, tb, rfl, hta, htb, hpr⟩ := prs_places xs i q hq
      have fl : fi < xs.length := (List.getElem?_eq_some_iff.mp hta).1
      have sl : se < xs.length := (List.getElem?_eq_some_iff.mp htb).1
      have e6 := kp _ _ (ne_of hF5 e1 (fun z => nomatch z)).symm e1
      have hu6 := kp _ _ CF hu5
      have hl6 := kp _ _ RF hl5
      have hc6 := kp _ _ cF hc5
      have tu6 : Tups H6 Us qs := tu5.keep fun T o hT' e => by
        obtain ⟨y, _, ey⟩ := tu5.at hT'
        exact kp _ _ (ne_of hF5 ey (fun z => nomatch z)).symm e
      have rows6 : ∀ a ∈ Ls, Row H6 xs.length a := fun a ha => by
        obtain ⟨ms, e1, e2, e3⟩ := rows5 a ha
        have aF : a ≠ Fd := fun z => by
          rw [z, hF5] at e1
          cases ms with
          | nil =>
            have : (0 : Nat) = xs.length := e2
            omega
          | cons m ms => cases e1
        exact ⟨ms, kp _ _ aF e1, e2, e3⟩
      refine ⟨T0, _, rfl, SqT.of e6, rfl, _, _, rfl, _, _, rfl, rfl, ?_⟩
      refine ⟨_, rfl, C, rfl, ⟨_, SqL.of hu6⟩, ?_⟩
      refine for_list (xs := Us.map V.ref) (fun j σ H7 => ∃ (t : Int) (v12 v13 : Option V), σ = [some (.ref p), some (.ref c), some (.int sz), none, none, some (.ref R), none, some (.ref C), some (.ref Fd), some (.int fi), some (.int se), some (.int t), v12, v13] ∧ H7 = H6 ∧ 0 ≤ t ∧ t ≤ 2 * (j : Int))
        ⟨0, v12, v13, rfl, rfl, Int.le_refl _, by omega⟩ (fun j σ H7 _ ⟨t, _, _, _, e, _⟩ => by rw [e]; exact SqL.of hu6) ?_ ?_
      · rintro j x σ H7 hx ⟨t, v12, v13, rfl, rfl, t0, t1⟩
        rw [List.getElem?_map] at hx
        obtain ⟨T1, hT1, rfl⟩ := Option.map_eq_some_iff.mp hx
        have jl1 := (List.getElem?_eq_some_iff.mp hT1).1
        have jq : j < qs.length := by
          rw [← tu6.1]
          exact jl1
        have hq1 : qs[j]? = some qs[j] := List.getElem?_eq_getElem jq
        have mm := mem_prs (mq _ (List.getElem_mem jq))
        generalize qs[j] = q1 at hq1 mm
        obtain ⟨a1, ea1, la1⟩ := mem_rgV mm.1
        obtain ⟨a2, ea2, la2⟩ := mem_rgV mm.2
        have eT1 := tu6.2 j T1 q1 hT1 hq1
        rw [ea1, ea2] at eT1
        have g1 : Ls[a1]? = some Ls[a1] := List.getElem?_eq_getElem (by omega)
        have g2 : Ls[a2]? = some Ls[a2] := List.getElem?_eq_getElem (by omega)
        have w1 : atI (Ls.map V.ref) (a1 : Int) = some (.ref Ls[a1]) := atI_nat (by rw [List.getElem?_map, g1]; rfl)
        have w2 : atI (Ls.map V.ref) (a2 : Int) = some (.ref Ls[a2]) := atI_nat (by rw [List.getElem?_map, g2]; rfl)
        obtain ⟨n1, x1, h11, h12, b11, b12⟩ := (rows6 _ (List.getElem_mem (by omega : a1 < Ls.length))).at fl
        obtain ⟨n2, x2, h21, h22, b21, b22⟩ := (rows6 _ (List.getElem_mem (by omega : a2 < Ls.length))).at sl
        obtain ⟨n3, x3, h31, h32, b31, b32⟩ := (rows6 _ (List.getElem_mem (by omega : a2 < Ls.length))).at fl
        obtain ⟨n4, x4, h41, h42, b41, b42⟩ := (rows6 _ (List.getElem_mem (by omega : a1 < Ls.length))).at sl
        have bits : ∀ u v : Int, 0 ≤ u → u ≤ 1 → 0 ≤ v → v ≤ 1 → 0 ≤ u * v ∧ u * v ≤ 1 := fun u v h1 h2 h3 h4 => by
          have : u = 0 ∨ u = 1 := by omega
          rcases this with e | e <;> subst e <;> omega
        obtain ⟨m1, m2⟩ := bits x1 x2 b11 b12 b21 b22
        obtain ⟨m3, m4⟩ := bits x3 x4 b31 b32 b41 b42
        refine ⟨T1, _, rfl, SqT.of eT1, rfl, _, _, rfl, _, _, rfl, rfl, ?_⟩
        refine ⟨_, rfl, _, rfl, _, rfl, R, _, _, _, rfl, rfl, SqL.of hl6, w1, _, rfl, _, _, _, _, rfl, rfl, SqL.of h11, h12, _, rfl, _, rfl, R, _, _, _, rfl, rfl, SqL.of hl6, w2, _, rfl, _, _, _, _, rfl, rfl, SqL.of h21, h22, _, _, rfl, rfl, .inl ⟨by omega, by omega⟩, _, _, rfl, rfl, ?_⟩
        refine ⟨_, rfl, _, rfl, _, rfl, R, _, _, _, rfl, rfl, SqL.of hl6, w2, _, rfl, _, _, _, _, rfl, rfl, SqL.of h31, h32, _, rfl, _, rfl, R, _, _, _, rfl, rfl, SqL.of hl6, w1, _, rfl, _, _, _, _, rfl, rfl, SqL.of h41, h42, _, _, rfl, rfl, .inl ⟨by omega, by omega⟩, _, _, rfl, rfl, ?_⟩
        exact ⟨t + x1 * x2 + x3 * x4, some (.int a1), some (.int a2), rfl, rfl, by omega, by omega⟩
      · rintro σ H7 ⟨t, v12, v13, rfl, rfl, t0, t1⟩
        refine ⟨_, rfl, .inl ⟨_, rfl, _, _, rfl, rfl, (by show (0 : Int) < 2; decide), rfl, _, rfl, ?_⟩⟩
        have sb2 : ws.Sublist ((prsS xs).take (i + 1)) := by
          rw [take_next hpr]
          exact sb.trans (List.sublist_append_left _ _)
        refine ite2 (fun _ => ?_) (fun _ => ?_)
        · refine ⟨_, rfl, .inl ⟨rfl, _, SqL.of hf6⟩, _, rfl, _, rfl, c, _, _, .str ta, rfl, rfl, SqL.of hc6, atI_nat (by rw [List.getElem?_map, hta]; rfl), _, rfl, _, rfl, c, _, _, .str tb, rfl, rfl, SqL.of hc6, atI_nat (by rw [List.getElem?_map, htb]; rfl), by show 2 ≤ sizeLine; decide, fun Z hZ => ?_⟩
          have FZ := ne_of_none hf6 hZ
          have lw : Ws.length ≤ 36 := by
            rw [tw.1, List.length_map]
            have h1 := sb.length_le
            rw [List.length_take] at h1
            omega
          refine ⟨Fd, _, _, rfl, rfl, by rw [upd_ne FZ]; exact hf6, by rw [List.length_map, sizeLine_eq]; omega, Ws ++ [Z], ws ++ [(ta, tb)], _, _, _, _, _, rfl, by rw [upd_same]; simp, ?_, by rw [take_next hpr]; exact sb.append (List.Sublist.refl _), fun b o nb e => ?_⟩
          · rw [List.map_append]
            have t3 : Tups (upd (upd H7 Z (.tup [.str ta, .str tb])) Fd (.lst (Ws.map V.ref ++ [.ref Z]))) Ws (ws.map tv) := (tw.keep (H' := upd H7 Z (.tup [.str ta, .str tb])) fun T o _ e => by rw [upd_ne (ne_of_none e hZ)]; exact e).upd fun x y e => by
              rw [upd_ne FZ, hf6] at e
              cases e
            exact t3.snoc (p := tv (ta, tb)) (by rw [upd_ne (Ne.symm FZ), upd_same]; rfl)
          · have e7 := kp _ _ nb e
            rw [upd_ne nb, upd_ne (ne_of_none e7 hZ)]
            exact e7
        · exact ⟨Ws, ws, _, _, _, _, _, rfl, hf6, tw, sb2, kp⟩
    · rintro σ H6 ⟨Ws, ws, v9, v10, v11, v12, v13, rfl, hf6, tw, sb, kp⟩
      rw [List.length_map, lV] at sb
      have e36 : (prs (rgV 0 (xs.length : Int))).length = (prsS xs).length := by
        have h1 := two_len (rgV 0 (xs.length : Int))
        have h2 := prsS_len xs
        rw [lrg2] at h1
        omega
      rw [e36, List.take_length] at sb
      refine ⟨_, rfl, _, rfl, by show 2 ≤ sizeLine; decide, fun Z hZ => ?_⟩
      have sx6 : SameX p H H6 := fun b o nb e => by
        have e4 := sx04 _ _ nb e
        exact kp _ _ (ne_of_none e4 hF) (s45 _ _ e4)
      have pa6 : PurseAt H6 p c0 n := by
        obtain ⟨b, t, z, e, q⟩ := pa5.less (m := n) (by omega)
        exact ⟨b, t, z, kp _ _ (Ne.symm nF) e, q⟩
      have nZ := purse_none pa6 hZ
      refine k _ Z ws sb (sx6.updN (sx6.none hZ nZ)) (sx6.none hZ nZ) ⟨c, Fd, upd_same, ?_, Ws, by rw [upd_ne (ne_of_none hf6 hZ)]; exact hf6, tw.keep fun T o _ e => by rw [upd_ne (ne_of_none e hZ)]; exact e⟩ nZ (pa6.upd nZ)
      have hc6 := kp _ _ cF hc5
      rw [upd_ne (ne_of_none hc6 hZ)]
      exact hc6
end
end Wd
end
section
set_option maxRecDepth 100000
set_option maxHeartbeats 4000000
namespace Wd
open PySem L2
theorem mk_eq {a b c d : Str} (h : mk a b = mk c d) : (a = c ∧ b = d) ∨ (a = d ∧ b = c) := by
  unfold mk at h
  by_cases h1 : Lt a b <;> by_cases h2 : Lt c d
  · rw [if_pos h1, if_pos h2] at h
    exact .inl (Prod.mk.inj h)
  · rw [if_pos h1, if_neg h2] at h
    exact .inr (Prod.mk.inj h)
  · rw [if_neg h1, if_pos h2] at h
    have := Prod.mk.inj h
    exact .inr ⟨this.2, this.1⟩
  · rw [if_neg h1, if_neg h2] at h
    have := Prod.mk.inj h
    exact .inl ⟨this.2, this.1⟩
theorem mk_mem {xs : List Str} (a : Asc xs) {x y : Str} (hx : x ∈ xs) (hy : y ∈ xs) (ne : x ≠ y) : mk x y ∈ prsS xs := by
  unfold mk
  rcases Lt.tri x y with h | h | h
  · rw [if_pos h]
    exact prsS_mem a hx hy h
  · exact absurd h ne
  · rw [if_neg fun z => Lt.irr _ (z.tr h)]
    exact prsS_mem a hy hx h
theorem mk_has {x y z : Str} (h : z = (mk x y).1 ∨ z = (mk x y).2) : z = x ∨ z = y := by
  unfold mk at h
  split at h
  · exact h
  · exact h.symm
theorem has_mk (x y : Str) : x = (mk x y).1 ∨ x = (mk x y).2 := by
  unfold mk
  split
  · exact .inl rfl
  · exact .inr rfl
/-- pairs told by two places each -/
def IP (ms : List Str) (l : List (Nat × Nat)) : List Pr := l.map fun q => mk (ms.getD q.1 Str.empty) (ms.getD q.2 Str.empty)
def okI (n : Nat) (l : List (Nat × Nat)) : Bool := (l.all fun q => decide (q.1 < n) && decide (q.2 < n) && decide (q.1 ≠ q.2)) &&
  ((List.range l.length).all fun i => (List.range l.length).all fun j => decide (i = j) || (match l[i]?, l[j]? with
    | some a, some b => !(decide (a.1 = b.1) && decide (a.2 = b.2)) && !(decide (a.1 = b.2) && decide (a.2 = b.1))
    | _, _ => true))
theorem getD_inj {ms : List Str} (nd : ms.Nodup) {i j : Nat} (hi : i < ms.length) (hj : j < ms.length) (h : ms.getD i Str.empty = ms.getD j Str.empty) : i = j := by
  rw [List.getD_eq_getElem?_getD, List.getD_eq_getElem?_getD, List.getElem?_eq_getElem hi, List.getElem?_eq_getElem hj] at h
  have h' : ms[i] = ms[j] := h
  rcases Nat.lt_trichotomy i j with c | c | c
  · exact absurd h' (List.pairwise_iff_getElem.mp nd i j hi hj c)
  · exact c
  · exact absurd h'.symm (List.pairwise_iff_getElem.mp nd j i hj hi c)
theorem getD_mem {ms : List Str} {i : Nat} (hi : i < ms.length) : ms.getD i Str.empty ∈ ms := by
  rw [List.getD_eq_getElem?_getD, List.getElem?_eq_getElem hi]
  exact List.getElem_mem hi
theorem ip_ok {xs ms : List Str} {l : List (Nat × Nat)} (a : Asc xs) (pm : ms.Perm xs) (nd : ms.Nodup) (ok : okI ms.length l = true) : (IP ms l).Nodup ∧ ∀ p ∈ IP ms l, p ∈ prsS xs := by
  unfold okI at ok
  rw [Bool.and_eq_true] at ok
  obtain ⟨o1, o2⟩ := ok
  have at_ : ∀ q ∈ l, q.1 < ms.length ∧ q.2 < ms.length ∧ q.1 ≠ q.2 := fun q hq => by
    have h := List.all_eq_true.mp o1 q hq
    simp only [Bool.and_eq_true, decide_eq_true_eq] at h
    exact ⟨h.1.1, h.1.2, h.2⟩
  refine ⟨?_, fun p hp => ?_⟩
  · unfold IP
    refine List.pairwise_map.mpr (List.pairwise_iff_getElem.mpr fun i j hi hj hij e => ?_)
    have h := List.all_eq_true.mp (List.all_eq_true.mp o2 i (List.mem_range.mpr hi)) j (List.mem_range.mpr hj)
    rw [List.getElem?_eq_getElem hi, List.getElem?_eq_getElem hj, decide_eq_false (by omega : ¬ i = j), Bool.false_or] at h
    obtain ⟨a1, a2, _⟩ := at_ _ (List.getElem_mem hi)
    obtain ⟨b1, b2, _⟩ := at_ _ (List.getElem_mem hj)
    have h' : (¬ l[i].1 = l[j].1 ∨ ¬ l[i].2 = l[j].2) ∧ (¬ l[i].1 = l[j].2 ∨ ¬ l[i].2 = l[j].1) := by simpa using h
    rcases mk_eq e with ⟨e1, e2⟩ | ⟨e1, e2⟩
    · exact h'.1.elim (fun z => z (getD_inj nd a1 b1 e1)) fun z => z (getD_inj nd a2 b2 e2)
    · exact h'.2.elim (fun z => z (getD_inj nd a1 b2 e1)) fun z => z (getD_inj nd a2 b1 e2)
  · obtain ⟨q, hq, rfl⟩ := List.mem_map.mp hp
    obtain ⟨a1, a2, a3⟩ := at_ q hq
    exact mk_mem a (pm.mem_iff.mp (getD_mem a1)) (pm.mem_iff.mp (getD_mem a2)) fun e => a3 (getD_inj nd a1 a2 e)
/-- the shapes' places -/
def shPath (n : Nat) : List (Nat × Nat) := (List.range (n - 1)).map fun k => (k, k + 1)
def shRing (n : Nat) : List (Nat × Nat) := (List.range n).map fun k => (if k = 0 then n - 1 else k - 1, k)
def shStar (m : Nat) : List (Nat × Nat) := (List.range m).map fun k => (0, k + 1)
def shTwos (n : Nat) : List (Nat × Nat) := (List.range ((n - 1) / 2)).map fun k => (1 + 2 * k, 2 + 2 * k)
theorem sh_ok : ((List.range 10).all fun n => okI n (shPath n) && (decide (n < 3) || okI n (shRing n)) && okI n (shStar (n - 1)) && okI n (shTwos n ++ shStar (n - 1)) && okI n (shStar (min 1 (n - 1)))) = true := by decide +kernel
theorem twos_n : ((List.range 10).all fun n => decide (n = 0) || (Builtin.Range.small 1 ((n : Int) - 1) 2 && decide (Builtin.Range.rangeSize 1 ((n : Int) - 1) 2 = (((n - 1) / 2 : Nat) : Int)))) = true := by decide +kernel
/-- one pair more in a list that is being made -/
theorem acc_tup {H2 H3 : Hp} {C T : Addr} {Us : List Addr} {qs : List (V × V)} {q : V × V} (hC : H2 C = none) (s : Same H2 H3) (hu : H3 C = some (.lst (Us.map V.ref))) (tu : Tups H3 Us qs) (hT : H3 T = none) :
    upd H3 T (.tup [q.1, q.2]) C = some (.lst (Us.map V.ref)) ∧ upd (upd H3 T (.tup [q.1, q.2])) C (.lst (Us.map V.ref ++ [.ref T])) C = some (.lst ((Us ++ [T]).map V.ref)) ∧
    Same H2 (upd (upd H3 T (.tup [q.1, q.2])) C (.lst (Us.map V.ref ++ [.ref T]))) ∧ Tups (upd (upd H3 T (.tup [q.1, q.2])) C (.lst (Us.map V.ref ++ [.ref T]))) (Us ++ [T]) (qs ++ [q]) := by
  have CT := ne_of_none hu hT
  refine ⟨by rw [upd_ne CT]; exact hu, by rw [upd_same]; simp, fun b o e => ?_, ?_⟩
  · have e2 := s _ _ e
    rw [upd_ne (ne_of_none e hC), upd_ne (ne_of_none e2 hT)]
    exact e2
  · have t3 : Tups (upd (upd H3 T (.tup [q.1, q.2])) C (.lst (Us.map V.ref ++ [.ref T]))) Us qs := (tu.keep (H' := upd H3 T (.tup [q.1, q.2])) fun U o _ e => by rw [upd_ne (ne_of_none e hT)]; exact e).upd fun x y e => by
      rw [upd_ne CT, hu] at e
      cases e
    exact t3.snoc (by rw [upd_ne (Ne.symm CT), upd_same])
end Wd
end
section
set_option maxRecDepth 100000
set_option maxHeartbeats 4000000
namespace Wd
open PySem L2
theorem perm_strs {ys : List V} {xs : List Str} (pm : ys.Perm (xs.map V.str)) : ∃ ms : List Str, ys = ms.map V.str ∧ ms.Perm xs := by
  refine ⟨ys.map fun v => match v with | .str s => s | _ => Str.empty, ?_, ?_⟩
  · rw [List.map_map]
    refine (List.map_id _).symm.trans (List.map_congr_left fun v hv => ?_)
    obtain ⟨s, _, rfl⟩ := List.mem_map.mp (pm.mem_iff.mp hv)
    rfl
  · refine (pm.map _).trans (List.Perm.of_eq ?_)
    rw [List.map_map]
    exact List.map_id _
theorem Asc.nd {xs : List Str} (a : Asc xs) : xs.Nodup := List.Pairwise.imp (fun {x y} (h : Lt x y) (e : x = y) => Lt.irr y (by rw [e] at h; exact h)) a
theorem ip_next {ms : List Str} {l : List (Nat × Nat)} {i : Nat} {q : Nat × Nat} (h : l[i]? = some q) : (IP ms (l.take (i + 1))).map tv = (IP ms (l.take i)).map tv ++ [tv (mk (ms.getD q.1 Str.empty) (ms.getD q.2 Str.empty))] := by
  rw [take_next h]
  unfold IP
  rw [List.map_append, List.map_append]
  rfl
theorem at_ms {ms : List Str} {i : Nat} (h : i < ms.length) : atI (ms.map V.str) (i : Int) = some (.str (ms.getD i Str.empty)) :=
  atI_nat (by rw [List.getElem?_map, List.getElem?_eq_getElem h, List.getD_eq_getElem?_getD, List.getElem?_eq_getElem h]; rfl)
theorem at_msI {ms : List Str} {i : Nat} {j : Int} (h : i < ms.length) (e : j = (i : Int)) : atI (ms.map V.str) j = some (.str (ms.getD i Str.empty)) := by
  rw [e]
  exact at_ms h
theorem at_msP {ms : List Str} {i : Nat} {j : Int} (h : i < ms.length) (e : j = (i : Int) - 1) : atI (ms.map V.str) j = some (.str (ms.getD (if i = 0 then ms.length - 1 else i - 1) Str.empty)) := by
  by_cases z : i = 0
  · subst z
    rw [if_pos rfl, e]
    have ne : ms ≠ [] := List.ne_nil_of_length_pos h
    have hl : (ms.map V.str) = ms.dropLast.map V.str ++ [V.str (ms.getLast ne)] := by
      rw [← List.map_singleton, ← List.map_append, List.dropLast_concat_getLast]
    have h2 := atI_last (ms.dropLast.map V.str) (V.str (ms.getLast ne))
    rw [← hl] at h2
    refine h2.trans ?_
    rw [List.getD_eq_getElem?_getD, List.getElem?_eq_getElem (by omega), List.getLast_eq_getElem]
    rfl
  · rw [if_neg z]
    exact at_msI (by omega) (by omega)
theorem ite_join {c d : Bool} {X A B : Prop} (w : (if d = true then A else B) → X) (h : if (c && d) = true then A else B) : if c = true then X else if false = true then A else B := by
  cases c
  · exact h
  · exact w h
theorem filter_next {α : Type} {f : α → Bool} {l : List α} {i : Nat} {q : α} (h : l[i]? = some q) : (l.take (i + 1)).filter f = (l.take i).filter f ++ if f q = true then [q] else [] := by
  rw [take_next h, List.filter_append]
  cases c : f q <;> simp [c]
/-- one old pair more in a list that is being made -/
theorem keep_tup {H2 H3 : Hp} {C T : Addr} {Us : List Addr} {qs : List (V × V)} {q : V × V} (hC : H2 C = none) (s : Same H2 H3) (hu : H3 C = some (.lst (Us.map V.ref))) (tu : Tups H3 Us qs) (hT : H3 T = some (.tup [q.1, q.2])) :
    upd H3 C (.lst (Us.map V.ref ++ [.ref T])) C = some (.lst ((Us ++ [T]).map V.ref)) ∧ Same H2 (upd H3 C (.lst (Us.map V.ref ++ [.ref T]))) ∧ Tups (upd H3 C (.lst (Us.map V.ref ++ [.ref T]))) (Us ++ [T]) (qs ++ [q]) := by
  refine ⟨by rw [upd_same]; simp, fun b o e => ?_, ?_⟩
  · rw [upd_ne (ne_of_none e hC)]
    exact s _ _ e
  · have t3 := tu.upd (a := C) (o := .lst (Us.map V.ref ++ [V.ref T])) fun x y e => by
      rw [hu] at e
      cases e
    exact t3.snoc (by rw [upd_ne (ne_of hu hT (fun z => nomatch z)).symm]; exact hT)
def farF (x : Str) (q : Pr) : Bool := !inV (.str x) [.str q.1, .str q.2]
theorem farF_iff {x : Str} {q : Pr} : farF x q = true ↔ ¬ (x = q.1 ∨ x = q.2) := by
  unfold farF
  have h := in_strs x [q.1, q.2]
  rw [show inV (.str x) [.str q.1, .str q.2] = decide (x ∈ [q.1, q.2]) from h]
  simp
theorem prsS_nd {xs : List Str} (a : Asc xs) : (prsS xs).Nodup := List.Pairwise.imp (fun {p q} (h : LtP p q) (e : p = q) => LtP.irr q (by rw [e] at h; exact h)) (prsS_asc a)
def sideF (bs : List Str) (q : Pr) : Bool := decide (V.bl (inV (.str q.1) (bs.map V.str)) = V.bl (inV (.str q.2) (bs.map V.str)))
theorem sh_of {n : Nat} (h : n < 10) : okI n (shPath n) = true ∧ (n < 3 ∨ okI n (shRing n) = true) ∧ okI n (shStar (n - 1)) = true ∧ okI n (shTwos n ++ shStar (n - 1)) = true ∧ okI n (shStar (min 1 (n - 1))) = true := by
  have h := List.all_eq_true.mp sh_ok n (List.mem_range.mpr h)
  simp only [Bool.and_eq_true, Bool.or_eq_true, decide_eq_true_eq] at h
  exact ⟨h.1.1.1.1, h.1.1.1.2, h.1.1.2, h.1.2, h.2⟩
abbrev nSh : List Str := ["_law_purse_here", "_law_crowd", "_law_way", "_law_mixed_here", "_law_pairs_here", "_law_at_here", "_law_late", "_law_pair_here", "_law_near", "_law_part"]
section
variable {P : Program} {w : World} {K : PySem.W.Frag} {mg : Str → Option Value} {base : Heap}
set_option maxHeartbeats 1000000 in
theorem ok_shaped {f : Addr} {fd : FuncData} (F : Fun K "_law_shaped" "_law_shaped" s_shaped f fd) (T : Bt mg) (CD : Has P w K mg base 2 "_law_draw" ["_law_purse_here", "_law_many"] spDraw)
    (CP : Has P w K mg base 1 "_law_pairs" ["_law_crowd"] spPairs) (CR : Has P w K mg base 1 "_law_pair" ["_law_first", "_law_second"] spPair) (CS : Has P w K mg base 3 "_law_shuffled" ["_law_purse_here", "_law_some"] spShuffled) :
    FnOk P w K mg base CX0 4 f fd ["_law_purse_here", "_law_crowd"] (spMade 110) := by
  obtain ⟨fD, fdD, GD, mD, kD, bD⟩ := CD
  obtain ⟨fP, fdP, GP, mP, kP, bP⟩ := CP
  obtain ⟨fR, fdR, GR, mR, kR, bR⟩ := CR
  obtain ⟨fS, fdS, GS, mS, kS, bS⟩ := CS
  refine F.ok c_shaped (fun vs H Q E h => ?_) (fun cdv A outer s H vs Q E hr h => ?_)
  · obtain ⟨_, _, _, _, _, rfl, _⟩ := h
    rfl
  · obtain ⟨p, c, xs, c0, n, rfl, pa, hc, g, k⟩ := h
    have hr1 : Room 1 _ := hr.mono (by decide)
    have hr2 : Room 2 _ := hr.mono (by decide)
    have hr3 : Room 3 _ := hr.mono (by decide)
    refine ⟨_, pss_cons (ps_asg (pe_tup (pa_cons (pe_call GD hr2 rfl mD kD bD .nil pass0 (pa_cons (pv 0) (pa_cons pe_int pa_nil))) (pa_cons (pe_call GS hr3 rfl mS kS bS .nil pass0 (pa_cons (pv 0) (pa_cons (pv 1) pa_nil))) pa_nil)))
        (pg_tup rfl (pgs_cons (pg_name (i := 2) c_shaped.nd rfl (Or.inl rfl)) (pgs_cons (pg_name (i := 3) c_shaped.nd rfl (Or.inr rfl)) pgs_nil))))
      (pss_cons (ps_set (i := 4) c_shaped.nd rfl (Or.inl rfl) (pe_call GP hr1 rfl mP kP bP .nil pass0 (pa_cons (pv 1) pa_nil)))
      (pss_cons (ps_if (pt_cmpR op_eq (pv 2) pe_int (nomark _)) (pss_one (ps_ret (pe_lst (pa_cons (pv 1) (pa_cons (pe_lst pa_nil) pa_nil))))) pss_nil)
      (pss_cons (ps_if (pt_cmpR op_eq (pv 2) pe_int (nomark _)) (pss_one (ps_ret (pe_lst (pa_cons (pv 1) (pa_cons (pv 4) pa_nil))))) pss_nil)
      (pss_cons (ps_if (pt_cmpR op_eq (pv 2) pe_int (nomark _)) (pss_one (ps_ret (pe_lst (pa_cons (pv 1) (pa_cons (pe_callB (Kx.cr_sortedD hr.units) (by rfl) T.sorted (by decide +kernel) (pa_cons (pe_lc (own := [("_law_at_here", 5)]) (g := gName 5) (tt := tYes) rfl c_shaped.nd (pi_range1 rfl T.range (pa_cons (pe_op op_sub (pe_callB call_len_seq (by rfl) T.len PySem.boot_len (pa_cons (pv 3) pa_nil)) pe_int) pa_nil))
          (blkOk_by (N := nSh) (sc := defScope s_shaped) (by decide +kernel)) (fun _ _ _ _ _ => pg_name (i := 5) c_shaped.nd rfl (Or.inl rfl)) (fun _ _ _ _ _ => pts_nil)
          (fun _ _ _ _ _ => (pe_call GR hr1 rfl mR kR bR .nil pass0 (pa_cons (pe_ix (r := rIxL K) ix_list (pv 3) (pv 5) (fun _ _ => rfl)) (pa_cons (pe_ix (r := rIxL K) ix_list (pv 3) (pe_op op_add (pv 5) pe_int) (fun _ _ => rfl)) pa_nil))))) pa_nil)) pa_nil))))) pss_nil)
      (pss_cons (ps_if (PW.pt (pw_and (pt_cmpR op_eq (pv 2) pe_int (nomark _)) (pw_and1 (pt_cmpR op_gt (pe_callB call_len_seq (by rfl) T.len PySem.boot_len (pa_cons (pv 1) pa_nil)) pe_int (nomark _))))) (pss_one (ps_ret (pe_lst (pa_cons (pv 1) (pa_cons (pe_callB (Kx.cr_sortedD hr.units) (by rfl) T.sorted (by decide +kernel) (pa_cons (pe_lc (own := [("_law_at_here", 5)]) (g := gName 5) (tt := tYes) rfl c_shaped.nd (pi_range1 rfl T.range (pa_cons (pe_callB call_len_seq (by rfl) T.len PySem.boot_len (pa_cons (pv 3) pa_nil)) pa_nil))
          (blkOk_by (N := nSh) (sc := defScope s_shaped) (by decide +kernel)) (fun _ _ _ _ _ => pg_name (i := 5) c_shaped.nd rfl (Or.inl rfl)) (fun _ _ _ _ _ => pts_nil)
          (fun _ _ _ _ _ => (pe_call GR hr1 rfl mR kR bR .nil pass0 (pa_cons (pe_ix (r := rIxL K) ix_list (pv 3) (pe_op op_sub (pv 5) pe_int) (fun _ _ => rfl)) (pa_cons (pe_ix (r := rIxL K) ix_list (pv 3) (pv 5) (fun _ _ => rfl)) pa_nil))))) pa_nil)) pa_nil))))) pss_nil)
      (pss_cons (ps_if (pt_cmpR op_eq (pv 2) pe_int (nomark _)) (pss_one (ps_ret (pe_lst (pa_cons (pv 1) (pa_cons (pe_callB (Kx.cr_sortedD hr.units) (by rfl) T.sorted (by decide +kernel) (pa_cons (pe_lc (own := [("_law_late", 6)]) (g := gName 6) (tt := tYes) rfl c_shaped.nd (pi_list (pe_slice sl_list (pv 3) (po_some pe_int) po_none))
          (blkOk_by (N := nSh) (sc := defScope s_shaped) (by decide +kernel)) (fun _ _ _ _ _ => pg_name (i := 6) c_shaped.nd rfl (Or.inl rfl)) (fun _ _ _ _ _ => pts_nil)
          (fun _ _ _ _ _ => (pe_call GR hr1 rfl mR kR bR .nil pass0 (pa_cons (pe_ix (r := rIxL K) ix_list (pv 3) pe_int (fun _ _ => rfl)) (pa_cons (pv 6) pa_nil))))) pa_nil)) pa_nil))))) pss_nil)
      (pss_cons (ps_if (pt_cmpR op_eq (pv 2) pe_int (nomark _)) (pss_cons (ps_setLc (i := 8) (own := [("_law_pair_here", 7)]) (g := gName 7) rfl c_shaped.nd rfl rfl (sw_true rfl rfl rfl (by decide +kernel)) (pi_list (pv 4))
          (blkOk_by (N := nSh) (sc := defScope s_shaped) (by decide +kernel)) (fun _ _ _ _ _ => pg_name (i := 7) c_shaped.nd rfl (Or.inl rfl)) (fun _ _ _ _ _ => pts_one (pt_cmpR (r := rIn K true) op_notIn_seq (pe_ix (r := rIxL K) ix_list (pv 3) pe_int (fun _ _ => rfl)) (pv 7) rfl))
          (fun _ _ _ _ _ => pv 7)) (pss_one (ps_ret (pe_lst (pa_cons (pv 1) (pa_cons (pe_callB (Kx.cr_sortedD hr.units) (by rfl) T.sorted (by decide +kernel) (pa_cons (pe_op op_cat (pv 8) (pe_lc (own := [("_law_late", 6)]) (g := gName 6) (tt := tYes) rfl c_shaped.nd (pi_list (pe_slice sl_list (pv 3) (po_some pe_int) (po_some (pe_op op_add pe_int (pe_call GD hr2 rfl mD kD bD .nil pass0 (pa_cons (pv 0) (pa_cons pe_int pa_nil)))))))
          (blkOk_by (N := nSh) (sc := defScope s_shaped) (by decide +kernel)) (fun _ _ _ _ _ => pg_name (i := 6) c_shaped.nd rfl (Or.inl rfl)) (fun _ _ _ _ _ => pts_nil)
          (fun _ _ _ _ _ => (pe_call GR hr1 rfl mR kR bR .nil pass0 (pa_cons (pe_ix (r := rIxL K) ix_list (pv 3) pe_int (fun _ _ => rfl)) (pa_cons (pv 6) pa_nil)))))) pa_nil)) pa_nil)))))) pss_nil)
      (pss_cons (ps_if (pt_cmpR op_eq (pv 2) pe_int (nomark _)) (pss_cons (ps_setLc (i := 8) (own := [("_law_at_here", 5)]) (g := gName 5) (tt := tYes) rfl c_shaped.nd rfl rfl (sw_true rfl rfl rfl (by decide +kernel)) (pi_range3 rfl T.range (pa_cons pe_int (pa_cons (pe_op op_sub (pe_callB call_len_seq (by rfl) T.len PySem.boot_len (pa_cons (pv 3) pa_nil)) pe_int) (pa_cons pe_int pa_nil))))
          (blkOk_by (N := nSh) (sc := defScope s_shaped) (by decide +kernel)) (fun _ _ _ _ _ => pg_name (i := 5) c_shaped.nd rfl (Or.inl rfl)) (fun _ _ _ _ _ => pts_nil)
          (fun _ _ _ _ _ => (pe_call GR hr1 rfl mR kR bR .nil pass0 (pa_cons (pe_ix (r := rIxL K) ix_list (pv 3) (pv 5) (fun _ _ => rfl)) (pa_cons (pe_ix (r := rIxL K) ix_list (pv 3) (pe_op op_add (pv 5) pe_int) (fun _ _ => rfl)) pa_nil))))) (pss_one (ps_ret (pe_lst (pa_cons (pv 1) (pa_cons (pe_callB (Kx.cr_sortedD hr.units) (by rfl) T.sorted (by decide +kernel) (pa_cons (pe_op op_cat (pv 8) (pe_lc (own := [("_law_late", 6)]) (g := gName 6) (tt := tYes) rfl c_shaped.nd (pi_list (pe_slice sl_list (pv 3) (po_some pe_int) po_none))
          (blkOk_by (N := nSh) (sc := defScope s_shaped) (by decide +kernel)) (fun _ _ _ _ _ => pg_name (i := 6) c_shaped.nd rfl (Or.inl rfl)) (fun _ _ _ _ _ => pts_nil)
          (fun _ _ _ _ _ => (pe_call GR hr1 rfl mR kR bR .nil pass0 (pa_cons (pe_ix (r := rIxL K) ix_list (pv 3) pe_int (fun _ _ => rfl)) (pa_cons (pv 6) pa_nil)))))) pa_nil)) pa_nil)))))) pss_nil)
      (pss_cons (ps_set (i := 9) c_shaped.nd rfl (Or.inr rfl) (pe_slice sl_list (pv 3) po_none (po_some (pe_op op_add pe_int (pe_call GD hr2 rfl mD kD bD .nil pass0 (pa_cons (pv 0) (pa_cons (pe_callB call_len_seq (by rfl) T.len PySem.boot_len (pa_cons (pv 3) pa_nil)) pa_nil)))))))
      (pss_one (ps_ret (pe_lst (pa_cons (pv 1) (pa_cons (pe_lc (own := [("_law_pair_here", 7)]) (g := gName 7) rfl c_shaped.nd (pi_list (pv 4))
          (blkOk_by (N := nSh) (sc := defScope s_shaped) (by decide +kernel)) (fun _ _ _ _ _ => pg_name (i := 7) c_shaped.nd rfl (Or.inl rfl)) (fun _ _ _ _ _ => pts_one (pt_cmpR op_eq (pe_cmpR (r := rIn K false) op_in_seq (pe_ix (r := rIxT K) ix_tup (pv 7) pe_int (fun _ _ => rfl)) (pv 9) rfl) (pe_cmpR (r := rIn K false) op_in_seq (pe_ix (r := rIxT K) ix_tup (pv 7) pe_int (fun _ _ => rfl)) (pv 9) rfl) (nomark _)))
          (fun _ _ _ _ _ => pv 7)) pa_nil)))))))))))))), ?_⟩
    have lx := g.few
    have ncp : c ≠ p := purse_ne pa hc fun b' c' t' z' e => by
      have l := congrArg (fun o : HO => match o with | .lst (.int i :: _) => true | _ => false) e
      cases xs with
      | nil => simp at l
      | cons x r => simp at l
    refine ⟨_, rfl, p, _, c0, n + 109, rfl, pa, by decide, by decide, fun H1 r r0 r1 sx1 pa1 => ?_⟩
    have hc1 := sx1 _ _ ncp hc
    have lxs : (xs.map V.str).length = xs.length := List.length_map _
    refine ⟨_, rfl, _, rfl, p, c, _, c0, n + 100, rfl, pa1.less (by omega), hc1, ncp, by omega, fun H2 S ys pm sx2 nS hS nSp pa2 => ?_⟩
    have hc2 := sx2 _ _ ncp hc1
    refine ⟨by show 2 ≤ sizeLine; decide, fun T0 hT0 => ⟨T0, _, rfl, SqT.of upd_same, rfl, _, _, rfl, _, _, rfl, rfl, ?_⟩⟩
    refine ⟨_, rfl, c, xs.map V.str, rfl, by rw [upd_ne (ne_of_none hc2 hT0)]; exact hc2, by rw [lxs]; omega, fun H4 D s4 nD ⟨Ts, hd, tu⟩ => ?_⟩
    have pa4 : PurseAt H4 p c0 (n + 100) := (pa2.upd (purse_none pa2 hT0)).same s4
    have sx4 : SameX p H H4 := ((sx1.trans sx2).updN ((sx1.trans sx2).none hT0 (purse_none pa2 hT0))).trans (SameX.of s4)
    have hc4 := sx4 _ _ ncp hc
    have nT0 := purse_none pa2 hT0
    have hS4 : H4 S = some (.lst ys) := s4 _ _ (by rw [upd_ne (ne_of_none hS hT0)]; exact hS)
    obtain ⟨ms, rfl, pmm⟩ : ∃ ms : List Str, ys = ms.map V.str ∧ ms.Perm xs := perm_strs pm
    have lms : ms.length = xs.length := pmm.length_eq
    have ndm : ms.Nodup := pmm.nodup_iff.mpr g.asc.nd
    have fin : ∀ (H5 : Hp) (L Z : Addr) (Us : List Addr) (qs : List Pr), SameX p H H5 → H5 L = some (.lst (Us.map V.ref)) → Tups H5 Us (qs.map tv) → H5 Z = none → qs.Sublist (prsS xs) → PurseAt H5 p c0 n → Q (.ref Z) (upd H5 Z (.lst [.ref c, .ref L])) := fun H5 L Z Us qs sx5 hL tL hZ sb pa5 => by
      have nZ := purse_none pa5 hZ
      have hc5 := sx5 _ _ ncp hc
      exact k _ Z qs sb (sx5.updN (sx5.none hZ nZ)) (sx5.none hZ nZ) ⟨c, L, upd_same, by rw [upd_ne (ne_of_none hc5 hZ)]; exact hc5, Us, by rw [upd_ne (ne_of_none hL hZ)]; exact hL, tL.keep fun T o _ e => by rw [upd_ne (ne_of_none e hZ)]; exact e⟩ nZ (pa5.upd nZ)
    have endS : ∀ (H5 : Hp) (C : Addr) (Us : List Addr) (ps : List Pr), SameX p H H5 → H5 C = some (.lst (Us.map V.ref)) → Tups H5 Us (ps.map tv) → ps.Nodup → (∀ q ∈ ps, q ∈ prsS xs) → PurseAt H5 p c0 n →
        Kx.rSortedD K [.ref C] H5 fun x H1 => [V.ref c, x].length ≤ sizeLine ∧ ∀ Z : Addr, H1 Z = none → Q (.ref Z) (upd H1 Z (.lst [.ref c, x])) := fun H5 C Us ps sx5 hu tu5 nd mm pa5 => by
      refine sorted_prs hu tu5 nd fun D2 Us2 qs hD2 asc mq tu6 _ => ⟨by show 2 ≤ sizeLine; decide, fun Z hZ => ?_⟩
      have nD2 := purse_none pa5 hD2
      exact fin _ D2 Z Us2 qs (sx5.updN (sx5.none hD2 nD2)) upd_same (tu6.keep fun T o _ e => by rw [upd_ne (ne_of_none e hD2)]; exact e) hZ (sub_of_asc g.asc asc fun q hq => mm q ((mq q).mp hq)) (pa5.upd nD2)
    have tuS : Tups H4 Ts ((prsS xs).map tv) := by rw [← prs_strs]; exact tu
    have lTs : Ts.length = (prsS xs).length := by rw [tuS.1, List.length_map]
    have l36 := Good.len0 g.few.2
    have sh := sh_of (n := ms.length) (by omega)
    refine ⟨_, rfl, rfl, _, rfl, ?_⟩
    refine ite2 (fun w0 => ?_) (fun w0 => ?_)
    · refine ⟨_, rfl, Nat.zero_le _, fun L hL => ⟨by show 2 ≤ sizeLine; decide, fun Z hZ => ?_⟩⟩
      exact fin _ L Z [] [] (sx4.updN (sx4.none hL (purse_none pa4 hL))) upd_same Tups.nil hZ (List.nil_sublist _) ((pa4.less (by omega)).upd (purse_none pa4 hL))
    refine ⟨_, rfl, rfl, _, rfl, ?_⟩
    refine ite2 (fun w1 => ?_) (fun w1 => ?_)
    · refine ⟨_, rfl, _, rfl, by show 2 ≤ sizeLine; decide, fun Z hZ => ?_⟩
      exact fin _ D Z Ts (prsS xs) sx4 hd (by rw [← prs_strs]; exact tu) hZ (List.Sublist.refl _) (pa4.less (by omega))
    refine ⟨_, rfl, rfl, _, rfl, ?_⟩
    refine ite2 (fun w2 => ?_) (fun w2 => ?_)
    · refine ⟨_, rfl, ?_⟩
      refine ⟨_, rfl, S, ms.map V.str, rfl, .inl (SqL.of hS4), _, _, rfl, rfl, _, rfl, by rw [List.length_map]; omega, by rw [List.length_map]; omega, fun C hC => ?_⟩
      have nC := purse_none pa4 hC
      refine lc_range (lo := 0) (n := (((ms.map V.str).length : Int) - 1).toNat) (fun i H5 => ∃ Us : List Addr, H5 C = some (.lst (Us.map V.ref)) ∧ Same H4 H5 ∧ Tups H5 Us ((IP ms ((shPath ms.length).take i)).map tv))
        ⟨[], upd_same, same_new hC, Tups.nil⟩ ?_ ?_
      · rintro i H5 hi ⟨Us, hu, s5, tu5⟩
        rw [List.length_map] at hi
        have hS5 := s5 _ _ hS4
        have e : (shPath ms.length)[i]? = some (i, i + 1) := by
          unfold shPath
          rw [List.getElem?_map, List.getElem?_range (by omega)]
          rfl
        have lU : Us.length ≤ 9 := by
          rw [tu5.1, List.length_map]
          unfold IP
          rw [List.length_map, List.length_take]
          omega
        refine ⟨rfl, _, rfl, _, rfl, S, _, _, _, rfl, rfl, SqL.of hS5, at_msI (ms := ms) (i := i) (by omega) (by omega), _, rfl, _, rfl, _, _, rfl, rfl, S, _, _, _, rfl, rfl, SqL.of hS5, at_msI (ms := ms) (i := i + 1) (by omega) (by omega), _, _, rfl, fun Z hZ => ?_⟩
        have A := acc_tup (q := tv (mk (ms.getD i Str.empty) (ms.getD (i + 1) Str.empty))) hC s5 hu tu5 hZ
        exact ⟨_, A.1, by rw [List.length_map, sizeLine_eq]; omega, Us ++ [Z], A.2.1, A.2.2.1, by rw [ip_next e]; exact A.2.2.2⟩
      · rintro H5 ⟨Us, hu, s5, tu5⟩
        have et : (shPath ms.length).take (((ms.map V.str).length : Int) - 1).toNat = shPath ms.length := List.take_of_length_le (by
          unfold shPath
          rw [List.length_map, List.length_range, List.length_map]
          omega)
        rw [et] at tu5
        have ok := ip_ok g.asc pmm ndm sh.1
        dsimp only [tNil]
        exact endS H5 C Us _ (sx4.trans (SameX.of s5)) hu tu5 ok.1 ok.2 ((pa4.same s5).less (by omega))
    refine ⟨_, rfl, rfl, _, rfl, ?_⟩
    refine ite_join (fun h => ⟨_, rfl, c, xs.map V.str, rfl, .inl (SqL.of hc4), _, _, rfl, rfl, _, rfl, h⟩) ?_
    refine ite2 (fun w3 => ?_) (fun _ => ?_)
    · refine ⟨_, rfl, ?_⟩
      dsimp only [tC, tNil, tCons, tLst, tVar, tOp, tCB]
      refine ⟨_, rfl, S, ms.map V.str, rfl, .inl (SqL.of hS4), _, rfl, by rw [List.length_map]; omega, by rw [List.length_map]; omega, fun C hC => ?_⟩
      have nC := purse_none pa4 hC
      have big : 3 ≤ ms.length := by
        rw [Bool.and_eq_true, decide_eq_true_eq, decide_eq_true_eq, List.length_map] at w3
        omega
      refine lc_range (lo := 0) (n := ((ms.map V.str).length : Int).toNat) (fun i H5 => ∃ Us : List Addr, H5 C = some (.lst (Us.map V.ref)) ∧ Same H4 H5 ∧ Tups H5 Us ((IP ms ((shRing ms.length).take i)).map tv))
        ⟨[], upd_same, same_new hC, Tups.nil⟩ ?_ ?_
      · rintro i H5 hi ⟨Us, hu, s5, tu5⟩
        rw [List.length_map] at hi
        have hS5 := s5 _ _ hS4
        have e : (shRing ms.length)[i]? = some (if i = 0 then ms.length - 1 else i - 1, i) := by
          unfold shRing
          rw [List.getElem?_map, List.getElem?_range (by omega)]
          rfl
        have lU : Us.length ≤ 9 := by
          rw [tu5.1, List.length_map]
          unfold IP
          rw [List.length_map, List.length_take]
          omega
        refine ⟨rfl, _, rfl, _, rfl, _, _, rfl, rfl, S, _, _, _, rfl, rfl, SqL.of hS5, at_msP (ms := ms) (i := i) (by omega) (by omega), _, rfl, _, rfl, S, _, _, _, rfl, rfl, SqL.of hS5, at_msI (ms := ms) (i := i) (by omega) (by omega), _, _, rfl, fun Z hZ => ?_⟩
        have A := acc_tup (q := tv (mk (ms.getD (if i = 0 then ms.length - 1 else i - 1) Str.empty) (ms.getD i Str.empty))) hC s5 hu tu5 hZ
        exact ⟨_, A.1, by rw [List.length_map, sizeLine_eq]; omega, Us ++ [Z], A.2.1, A.2.2.1, by rw [ip_next e]; exact A.2.2.2⟩
      · rintro H5 ⟨Us, hu, s5, tu5⟩
        have et : (shRing ms.length).take ((ms.map V.str).length : Int).toNat = shRing ms.length := List.take_of_length_le (by
          unfold shRing
          rw [List.length_map, List.length_range, List.length_map]
          omega)
        rw [et] at tu5
        have ok := ip_ok g.asc pmm ndm (sh.2.1.resolve_left (by omega))
        exact endS H5 C Us _ (sx4.trans (SameX.of s5)) hu tu5 ok.1 ok.2 ((pa4.same s5).less (by omega))
    refine ⟨_, rfl, rfl, _, rfl, ?_⟩
    refine ite2 (fun w4 => ?_) (fun _ => ?_)
    · refine ⟨_, rfl, _, rfl, _, rfl, S, ms.map V.str, rfl, SqL.of hS4, fun M hM => ⟨M, rfl, ⟨_, SqL.of upd_same⟩, fun C hC => ?_⟩⟩
      have nM := purse_none pa4 hM
      have pa5 := pa4.upd (o := .lst (cutV (ms.map V.str) (some 1) none)) nM
      have nC := purse_none pa5 hC
      have ec : cutV (ms.map V.str) (some 1) none = (ms.drop 1).map V.str := by
        rw [show (some 1 : Option Int) = some ((1 : Nat) : Int) from rfl, cutV_hi, ← List.map_drop]
      rw [ec] at hC pa5 ⊢
      have s45 : Same H4 (upd H4 M (.lst ((ms.drop 1).map V.str))) := same_new hM
      refine lc_list (xs := (ms.drop 1).map V.str) (fun i H5 => ∃ Us : List Addr, H5 C = some (.lst (Us.map V.ref)) ∧ Same (upd H4 M (.lst ((ms.drop 1).map V.str))) H5 ∧ Tups H5 Us ((IP ms ((shStar (ms.length - 1)).take i)).map tv))
        ⟨[], upd_same, same_new hC, Tups.nil⟩ (fun i H5 _ ⟨Us, _, s5, _⟩ => SqL.of (s5 _ _ upd_same)) ?_ ?_
      · rintro i v H5 hv ⟨Us, hu, s5, tu5⟩
        rw [List.getElem?_map, List.getElem?_drop] at hv
        obtain ⟨t, ht, rfl⟩ := Option.map_eq_some_iff.mp hv
        have hi := (List.getElem?_eq_some_iff.mp ht).1
        have et : ms.getD (i + 1) Str.empty = t := by
          rw [List.getD_eq_getElem?_getD, Nat.add_comm i 1, ht]
          rfl
        have hS5 := s5 _ _ (s45 _ _ hS4)
        have e : (shStar (ms.length - 1))[i]? = some (0, i + 1) := by
          unfold shStar
          rw [List.getElem?_map, List.getElem?_range (by omega)]
          rfl
        have lU : Us.length ≤ 9 := by
          rw [tu5.1, List.length_map]
          unfold IP
          rw [List.length_map, List.length_take]
          omega
        refine ⟨rfl, _, rfl, S, _, _, _, rfl, rfl, SqL.of hS5, at_msI (ms := ms) (i := 0) (by omega) (by omega), _, rfl, _, _, rfl, fun Z hZ => ?_⟩
        have A := acc_tup (q := tv (mk (ms.getD 0 Str.empty) (ms.getD (i + 1) Str.empty))) hC s5 hu tu5 hZ
        rw [et] at A
        exact ⟨_, A.1, by rw [List.length_map, sizeLine_eq]; omega, Us ++ [Z], A.2.1, A.2.2.1, by rw [ip_next e, et]; exact A.2.2.2⟩
      · rintro H5 ⟨Us, hu, s5, tu5⟩
        have et : (shStar (ms.length - 1)).take ((ms.drop 1).map V.str).length = shStar (ms.length - 1) := List.take_of_length_le (by
          unfold shStar
          rw [List.length_map, List.length_range, List.length_map, List.length_drop]
          exact Nat.le_refl _)
        rw [et] at tu5
        have ok := ip_ok g.asc pmm ndm sh.2.2.1
        dsimp only [tNil]
        exact endS H5 C Us _ (sx4.trans (SameX.of fun b o e => s5 _ _ (s45 _ _ e))) hu tu5 ok.1 ok.2 ((pa5.same s5).less (by omega))
    refine ⟨_, rfl, rfl, _, rfl, ?_⟩
    refine ite2 (fun w5 => ?_) (fun _ => ?_)
    · refine ⟨_, rfl, D, rfl, ⟨_, SqL.of hd⟩, fun N hN => ?_⟩
      have nN := purse_none pa4 hN
      refine lc_list (xs := Ts.map V.ref) (fun i H5 => ∃ Us : List Addr, H5 N = some (.lst (Us.map V.ref)) ∧ Same H4 H5 ∧ Tups H5 Us ((((prsS xs).take i).filter (farF (ms.getD 0 Str.empty))).map tv))
        ⟨[], upd_same, same_new hN, Tups.nil⟩ (fun i H5 _ ⟨Us, _, s5, _⟩ => SqL.of (s5 _ _ hd)) ?_ ?_
      · rintro i v H5 hv ⟨Us, hu, s5, tu5⟩
        rw [List.getElem?_map] at hv
        obtain ⟨T1, hT, rfl⟩ := Option.map_eq_some_iff.mp hv
        have jl := (List.getElem?_eq_some_iff.mp hT).1
        obtain ⟨q, hq⟩ : ∃ q, (prsS xs)[i]? = some q := ⟨_, List.getElem?_eq_getElem (by rw [← lTs]; exact jl)⟩
        have e5 := s5 _ _ (tuS.2 i T1 (tv q) hT (by rw [List.getElem?_map, hq]; rfl))
        have lU : Us.length ≤ 36 := by
          rw [tu5.1, List.length_map]
          have h1 := List.length_filter_le (farF (ms.getD 0 Str.empty)) ((prsS xs).take i)
          rw [List.length_take] at h1
          omega
        refine ⟨rfl, _, rfl, S, _, _, _, rfl, rfl, SqL.of (s5 _ _ hS4), at_msI (ms := ms) (i := 0) (by omega) (by omega), _, rfl, T1, _, rfl, .inr (SqT.of e5), rfl, rfl, _, rfl, ?_⟩
        rw [filter_next hq]
        refine ite2 (fun hb => ?_) (fun hb => ?_)
        · have hb : farF (ms.getD 0 Str.empty) q = true := hb
          have A := keep_tup hN s5 hu tu5 e5
          exact ⟨_, rfl, _, hu, by rw [List.length_map, sizeLine_eq]; omega, Us ++ [T1], A.1, A.2.1, by rw [if_pos hb, List.map_append]; exact A.2.2⟩
        · have hb : ¬ farF (ms.getD 0 Str.empty) q = true := hb
          exact ⟨Us, hu, s5, by rw [if_neg hb, List.append_nil]; exact tu5⟩
      rintro H5 ⟨UN, hu, s5, tu5⟩
      rw [List.length_map, lTs, List.take_length] at tu5
      have sx5 : SameX p H H5 := sx4.trans (SameX.of s5)
      have pa5 := pa4.same s5
      have hS5 := s5 _ _ hS4
      refine ⟨_, rfl, _, rfl, _, rfl, _, rfl, _, rfl, p, _, c0, n + 99, rfl, pa5, by decide, by decide, fun H6 u u0 u1 sx6 pa6 => ?_⟩
      have hS6 := sx6 _ _ nSp hS5
      have hu6 := sx6 _ _ nN hu
      have tu6 : Tups H6 UN (((prsS xs).filter (farF (ms.getD 0 Str.empty))).map tv) := tu5.keep fun T o hT' e => by
        obtain ⟨y, _, ey⟩ := tu5.at hT'
        exact sx6 _ _ (purse_ne pa5 ey fun _ _ _ _ z => nomatch z) e
      obtain ⟨m, rfl, m1⟩ : ∃ m : Nat, u = (m : Int) ∧ m ≤ 1 := ⟨u.toNat, by omega, by omega⟩
      refine ⟨_, _, rfl, rfl, _, rfl, S, ms.map V.str, rfl, SqL.of hS6, fun M hM => ⟨M, rfl, ⟨_, SqL.of upd_same⟩, fun C hC => ?_⟩⟩
      have sxH6 : SameX p H H6 := sx5.trans sx6
      have ec : cutV (ms.map V.str) (some 1) (some (1 + (m : Int))) = ((ms.drop 1).take (min m (ms.length - 1))).map V.str := by
        unfold cutV
        rw [show (some 1 : Option Int) = some ((1 : Nat) : Int) from rfl, show (1 + (m : Int)) = ((1 + m : Nat) : Int) by omega, sIx_n, sIx_n, List.length_map, show min 1 ms.length = 1 by omega, show min (1 + m) ms.length - 1 = min m (ms.length - 1) by omega, ← List.map_drop, ← List.map_take]
      have nM := purse_none pa6 hM
      rw [ec] at hC ⊢
      have pa6m := pa6.upd (o := .lst (((ms.drop 1).take (min m (ms.length - 1))).map V.str)) nM
      have nC := purse_none pa6m hC
      have s6m : Same H6 (upd H6 M (.lst (((ms.drop 1).take (min m (ms.length - 1))).map V.str))) := same_new hM
      refine lc_list (xs := ((ms.drop 1).take (min m (ms.length - 1))).map V.str) (fun i H7 => ∃ Us : List Addr, H7 C = some (.lst (Us.map V.ref)) ∧ Same (upd H6 M (.lst (((ms.drop 1).take (min m (ms.length - 1))).map V.str))) H7 ∧ Tups H7 Us ((IP ms ((shStar (min m (ms.length - 1))).take i)).map tv))
        ⟨[], upd_same, same_new hC, Tups.nil⟩ (fun i H7 _ ⟨Us, _, s7, _⟩ => SqL.of (s7 _ _ upd_same)) ?_ ?_
      · rintro i v H7 hv ⟨Us, hu7, s7, tu7⟩
        rw [List.getElem?_map] at hv
        obtain ⟨t, ht, rfl⟩ := Option.map_eq_some_iff.mp hv
        have hi := (List.getElem?_eq_some_iff.mp ht).1
        rw [List.length_take, List.length_drop] at hi
        rw [List.getElem?_take_of_lt (by omega), List.getElem?_drop] at ht
        have et : ms.getD (i + 1) Str.empty = t := by
          rw [List.getD_eq_getElem?_getD, Nat.add_comm i 1, ht]
          rfl
        have e : (shStar (min m (ms.length - 1)))[i]? = some (0, i + 1) := by
          unfold shStar
          rw [List.getElem?_map, List.getElem?_range (by omega)]
          rfl
        have lU : Us.length ≤ 9 := by
          rw [tu7.1, List.length_map]
          unfold IP
          rw [List.length_map, List.length_take]
          omega
        refine ⟨rfl, _, rfl, S, _, _, _, rfl, rfl, SqL.of (s7 _ _ (s6m _ _ hS6)), at_msI (ms := ms) (i := 0) (by omega) (by omega), _, rfl, _, _, rfl, fun Z hZ => ?_⟩
        have A := acc_tup (q := tv (mk (ms.getD 0 Str.empty) (ms.getD (i + 1) Str.empty))) hC s7 hu7 tu7 hZ
        rw [et] at A
        exact ⟨_, A.1, by rw [List.length_map, sizeLine_eq]; omega, Us ++ [Z], A.2.1, A.2.2.1, by rw [ip_next e, et]; exact A.2.2.2⟩
      rintro H7 ⟨Us, hu7, s7, tu7⟩
      have et : (shStar (min m (ms.length - 1))).take (((ms.drop 1).take (min m (ms.length - 1))).map V.str).length = shStar (min m (ms.length - 1)) := List.take_of_length_le (by
        unfold shStar
        rw [List.length_map, List.length_range, List.length_map, List.length_take, List.length_drop]
        omega)
      rw [et] at tu7
      have s67 : Same H6 H7 := fun b o e => s7 _ _ (s6m _ _ e)
      have okS : okI ms.length (shStar (min m (ms.length - 1))) = true := by
        rcases (by omega : m = 0 ∨ m = 1) with e | e <;> subst e
        · rw [Nat.zero_min]
          rfl
        · exact sh.2.2.2.2
      have ok := ip_ok g.asc pmm ndm okS
      have tuN := tu6.same s67
      have lN : UN.length ≤ 36 := by
        rw [tuN.1, List.length_map]
        exact Nat.le_trans (List.length_filter_le _ _) l36
      have lU : Us.length ≤ 9 := by
        rw [tu7.1, List.length_map]
        unfold IP shStar
        rw [List.length_map, List.length_map, List.length_range]
        omega
      refine ⟨N, C, _, _, rfl, rfl, s67 _ _ hu6, hu7, by rw [List.length_map, List.length_map, sizeLine_eq]; omega, fun B hB => ?_⟩
      dsimp only [tNil]
      have pa7 := pa6.same s67
      have nB := purse_none pa7 hB
      have sx7 := sxH6.trans (SameX.of s67)
      refine endS _ B (UN ++ Us) ((prsS xs).filter (farF (ms.getD 0 Str.empty)) ++ IP ms (shStar (min m (ms.length - 1)))) (sx7.updN (sx7.none hB nB)) (by rw [upd_same, List.map_append]) (by rw [List.map_append]; exact (tuN.append tu7).keep fun T o _ e => by rw [upd_ne (ne_of_none e hB)]; exact e)
        (List.pairwise_append.mpr ⟨List.Pairwise.sublist List.filter_sublist (prsS_nd g.asc), ok.1, fun a ha b hb e => ?_⟩) (fun q hq => ?_) ((pa7.upd nB).less (by omega))
      · have h1 := farF_iff.mp (List.mem_filter.mp ha).2
        unfold IP shStar at hb
        rw [List.map_map] at hb
        obtain ⟨j, _, rfl⟩ := List.mem_map.mp hb
        rw [e] at h1
        exact h1 (has_mk _ _)
      · rcases List.mem_append.mp hq with h | h
        · exact (List.mem_filter.mp h).1
        · exact ok.2 q h
    refine ⟨_, rfl, rfl, _, rfl, ?_⟩
    refine ite2 (fun w6 => ?_) (fun _ => ?_)
    · have tw := List.all_eq_true.mp twos_n ms.length (List.mem_range.mpr (by omega))
      rw [Bool.or_eq_true, Bool.and_eq_true, decide_eq_true_eq, decide_eq_true_eq] at tw
      have tw := tw.resolve_left (by omega)
      refine ⟨_, rfl, S, ms.map V.str, rfl, .inl (SqL.of hS4), _, _, rfl, rfl, 1, ((ms.map V.str).length : Int) - 1, 2, (ms.length - 1) / 2, rfl, ⟨by decide, by decide, by rw [List.length_map]; exact tw.1, by rw [List.length_map]; exact tw.2⟩, fun N hN => ?_⟩
      have nN := purse_none pa4 hN
      refine lc_it walk_rangeC (fun i H5 => ∃ Us : List Addr, H5 N = some (.lst (Us.map V.ref)) ∧ Same H4 H5 ∧ Tups H5 Us ((IP ms ((shTwos ms.length).take i)).map tv))
        ⟨[], upd_same, same_new hN, Tups.nil⟩ (fun _ _ _ _ => trivial) ?_ ?_
      · rintro i v H5' H5 hi ⟨Us, hu, s5, tu5⟩ ⟨rfl, rfl⟩
        have hS5 := s5 _ _ hS4
        have e : (shTwos ms.length)[i]? = some (1 + 2 * i, 2 + 2 * i) := by
          unfold shTwos
          rw [List.getElem?_map, List.getElem?_range (by omega)]
          rfl
        have lU : Us.length ≤ 9 := by
          rw [tu5.1, List.length_map]
          unfold IP
          rw [List.length_map, List.length_take]
          omega
        refine ⟨rfl, _, rfl, _, rfl, S, _, _, _, rfl, rfl, SqL.of hS5, at_msI (ms := ms) (i := 1 + 2 * i) (by omega) (by omega), _, rfl, _, rfl, _, _, rfl, rfl, S, _, _, _, rfl, rfl, SqL.of hS5, at_msI (ms := ms) (i := 2 + 2 * i) (by omega) (by omega), _, _, rfl, fun Z hZ => ?_⟩
        have A := acc_tup (q := tv (mk (ms.getD (1 + 2 * i) Str.empty) (ms.getD (2 + 2 * i) Str.empty))) hN s5 hu tu5 hZ
        exact ⟨_, A.1, by rw [List.length_map, sizeLine_eq]; omega, Us ++ [Z], A.2.1, A.2.2.1, by rw [ip_next e]; exact A.2.2.2⟩
      rintro H5 ⟨UN, hu, s5, tu5⟩
      have et : (shTwos ms.length).take ((ms.length - 1) / 2) = shTwos ms.length := List.take_of_length_le (by
        unfold shTwos
        rw [List.length_map, List.length_range]
        exact Nat.le_refl _)
      rw [et] at tu5
      have hS5 := s5 _ _ hS4
      have pa5 := pa4.same s5
      refine ⟨_, rfl, _, rfl, _, rfl, _, rfl, S, ms.map V.str, rfl, SqL.of hS5, fun M hM => ⟨M, rfl, ⟨_, SqL.of upd_same⟩, fun C hC => ?_⟩⟩
      have ec : cutV (ms.map V.str) (some 1) none = ((ms.drop 1).take (ms.length - 1)).map V.str := by
        rw [show (some 1 : Option Int) = some ((1 : Nat) : Int) from rfl, cutV_hi, ← List.map_drop, List.take_of_length_le (by rw [List.length_drop]; exact Nat.le_refl _)]
      have nM := purse_none pa5 hM
      rw [ec] at hC ⊢
      have pa5m := pa5.upd (o := .lst (((ms.drop 1).take (ms.length - 1)).map V.str)) nM
      have nC := purse_none pa5m hC
      have s5m : Same H5 (upd H5 M (.lst (((ms.drop 1).take (ms.length - 1)).map V.str))) := same_new hM
      refine lc_list (xs := ((ms.drop 1).take (ms.length - 1)).map V.str) (fun i H7 => ∃ Us : List Addr, H7 C = some (.lst (Us.map V.ref)) ∧ Same (upd H5 M (.lst (((ms.drop 1).take (ms.length - 1)).map V.str))) H7 ∧ Tups H7 Us ((IP ms ((shStar (ms.length - 1)).take i)).map tv))
        ⟨[], upd_same, same_new hC, Tups.nil⟩ (fun i H7 _ ⟨Us, _, s7, _⟩ => SqL.of (s7 _ _ upd_same)) ?_ ?_
      · rintro i v H7 hv ⟨Us, hu7, s7, tu7⟩
        rw [List.getElem?_map] at hv
        obtain ⟨t, ht, rfl⟩ := Option.map_eq_some_iff.mp hv
        have hi := (List.getElem?_eq_some_iff.mp ht).1
        rw [List.length_take, List.length_drop] at hi
        rw [List.getElem?_take_of_lt (by omega), List.getElem?_drop] at ht
        have et : ms.getD (i + 1) Str.empty = t := by
          rw [List.getD_eq_getElem?_getD, Nat.add_comm i 1, ht]
          rfl
        have e : (shStar (ms.length - 1))[i]? = some (0, i + 1) := by
          unfold shStar
          rw [List.getElem?_map, List.getElem?_range (by omega)]
          rfl
        have lU : Us.length ≤ 9 := by
          rw [tu7.1, List.length_map]
          unfold IP
          rw [List.length_map, List.length_take]
          omega
        refine ⟨rfl, _, rfl, S, _, _, _, rfl, rfl, SqL.of (s7 _ _ (s5m _ _ hS5)), at_msI (ms := ms) (i := 0) (by omega) (by omega), _, rfl, _, _, rfl, fun Z hZ => ?_⟩
        have A := acc_tup (q := tv (mk (ms.getD 0 Str.empty) (ms.getD (i + 1) Str.empty))) hC s7 hu7 tu7 hZ
        rw [et] at A
        exact ⟨_, A.1, by rw [List.length_map, sizeLine_eq]; omega, Us ++ [Z], A.2.1, A.2.2.1, by rw [ip_next e, et]; exact A.2.2.2⟩
      rintro H7 ⟨Us, hu7, s7, tu7⟩
      have et : (shStar (ms.length - 1)).take (((ms.drop 1).take (ms.length - 1)).map V.str).length = shStar (ms.length - 1) := List.take_of_length_le (by
        unfold shStar
        rw [List.length_map, List.length_range, List.length_map, List.length_take, List.length_drop]
        omega)
      rw [et] at tu7
      have s57 : Same H5 H7 := fun b o e => s7 _ _ (s5m _ _ e)
      have ok := ip_ok g.asc pmm ndm sh.2.2.2.1
      have tuN := tu5.same s57
      have lN : UN.length ≤ 9 := by
        rw [tuN.1, List.length_map]
        unfold IP shTwos
        rw [List.length_map, List.length_map, List.length_range]
        omega
      have lU : Us.length ≤ 9 := by
        rw [tu7.1, List.length_map]
        unfold IP shStar
        rw [List.length_map, List.length_map, List.length_range]
        omega
      refine ⟨N, C, _, _, rfl, rfl, s57 _ _ hu, hu7, by rw [List.length_map, List.length_map, sizeLine_eq]; omega, fun B hB => ?_⟩
      dsimp only [tNil]
      have pa7 := pa5.same s57
      have nB := purse_none pa7 hB
      have sx7 := (sx4.trans (SameX.of s5)).trans (SameX.of s57)
      have eI : IP ms (shTwos ms.length ++ shStar (ms.length - 1)) = IP ms (shTwos ms.length) ++ IP ms (shStar (ms.length - 1)) := List.map_append
      exact endS _ B (UN ++ Us) (IP ms (shTwos ms.length ++ shStar (ms.length - 1))) (sx7.updN (sx7.none hB nB)) (by rw [upd_same, List.map_append]) (by rw [eI, List.map_append]; exact (tuN.append tu7).keep fun T o _ e => by rw [upd_ne (ne_of_none e hB)]; exact e)
        ok.1 ok.2 ((pa7.upd nB).less (by omega))
    refine ⟨_, rfl, _, rfl, _, rfl, S, ms.map V.str, rfl, .inl (SqL.of hS4), p, _, c0, n + 99, rfl, pa4, by rw [List.length_map]; omega, by rw [List.length_map]; omega, fun H5 u u0 u1 sx5 pa5 => ?_⟩
    rw [List.length_map] at u1
    have hS5 := sx5 _ _ nSp hS4
    refine ⟨_, _, rfl, rfl, _, rfl, S, ms.map V.str, rfl, SqL.of hS5, fun B hB => ?_⟩
    have nB := purse_none pa5 hB
    obtain ⟨bs, eb, lb⟩ : ∃ bs : List Str, cutV (ms.map V.str) none (some (1 + u)) = bs.map V.str ∧ bs.length ≤ 9 := by
      obtain ⟨m, rfl⟩ : ∃ m : Nat, u = (m : Int) := ⟨u.toNat, by omega⟩
      refine ⟨ms.take (1 + m), ?_, ?_⟩
      · rw [show (1 + (m : Int)) = ((1 + m : Nat) : Int) by omega, cutV_lo, ← List.map_take]
      · rw [List.length_take]
        omega
    rw [eb]
    have nDp : D ≠ p := purse_ne pa4 hd fun b' c' t' z' e => by
      have l := congrArg (fun o : HO => match o with | .lst (.int i :: _) => true | _ => false) e
      cases Ts with
      | nil => simp at l
      | cons x r => simp at l
    have hd5 := sx5 _ _ nDp hd
    have tu5 : Tups H5 Ts ((prsS xs).map tv) := tuS.keep fun T o hT' e => by
      obtain ⟨y, _, ey⟩ := tuS.at hT'
      exact sx5 _ _ (purse_ne pa4 ey fun _ _ _ _ z => nomatch z) e
    have hd6 : upd H5 B (.lst (bs.map V.str)) D = some (.lst (Ts.map V.ref)) := by
      rw [upd_ne (ne_of_none hd5 hB)]
      exact hd5
    have tu6 : Tups (upd H5 B (.lst (bs.map V.str))) Ts ((prsS xs).map tv) := tu5.keep fun T o _ e => by
      rw [upd_ne (ne_of_none e hB)]
      exact e
    refine ⟨_, rfl, _, rfl, D, rfl, ⟨_, SqL.of hd6⟩, fun N hN => ?_⟩
    have pa6 := pa5.upd (o := .lst (bs.map V.str)) nB
    have nN := purse_none pa6 hN
    refine lc_list (xs := Ts.map V.ref) (fun i H7 => ∃ Us : List Addr, H7 N = some (.lst (Us.map V.ref)) ∧ Same (upd H5 B (.lst (bs.map V.str))) H7 ∧ Tups H7 Us ((((prsS xs).take i).filter (sideF bs)).map tv))
      ⟨[], upd_same, same_new hN, Tups.nil⟩ (fun i H7 _ ⟨Us, _, s7, _⟩ => SqL.of (s7 _ _ hd6)) ?_ ?_
    · rintro i v H7 hv ⟨Us, hu, s7, tu7⟩
      rw [List.getElem?_map] at hv
      obtain ⟨T1, hT, rfl⟩ := Option.map_eq_some_iff.mp hv
      have jl := (List.getElem?_eq_some_iff.mp hT).1
      obtain ⟨q, hq⟩ : ∃ q, (prsS xs)[i]? = some q := ⟨_, List.getElem?_eq_getElem (by rw [← lTs]; exact jl)⟩
      have e7 := s7 _ _ (tu6.2 i T1 (tv q) hT (by rw [List.getElem?_map, hq]; rfl))
      have hb7 : H7 B = some (.lst (bs.map V.str)) := s7 _ _ upd_same
      have lU : Us.length ≤ 36 := by
        rw [tu7.1, List.length_map]
        have h1 := List.length_filter_le (sideF bs) ((prsS xs).take i)
        rw [List.length_take] at h1
        omega
      refine ⟨rfl, _, rfl, T1, _, _, _, rfl, rfl, SqT.of e7, rfl, _, rfl, B, _, rfl, .inl (SqL.of hb7), rfl, flat_strs' bs, _, rfl, T1, _, _, _, rfl, rfl, SqT.of e7, rfl, _, rfl, B, _, rfl, .inl (SqL.of hb7), rfl, flat_strs' bs, rfl, _, rfl, ?_⟩
      rw [filter_next hq]
      refine ite2 (fun hb => ?_) (fun hb => ?_)
      · have hb : sideF bs q = true := hb
        have A := keep_tup hN s7 hu tu7 e7
        exact ⟨_, rfl, _, hu, by rw [List.length_map, sizeLine_eq]; omega, Us ++ [T1], A.1, A.2.1, by rw [if_pos hb, List.map_append]; exact A.2.2⟩
      · have hb : ¬ sideF bs q = true := hb
        exact ⟨Us, hu, s7, by rw [if_neg hb, List.append_nil]; exact tu7⟩
    rintro H7 ⟨Us, hu, s7, tu7⟩
    rw [List.length_map, lTs, List.take_length] at tu7
    refine ⟨by show 2 ≤ sizeLine; decide, fun Z hZ => ?_⟩
    have sx7 := (sx4.trans (sx5.updN (sx5.none hB nB))).trans (SameX.of s7)
    exact fin H7 N Z Us _ sx7 hu tu7 hZ List.filter_sublist ((pa6.same s7).less (by omega))
end
end Wd
end
section
set_option maxRecDepth 100000
set_option maxHeartbeats 4000000
namespace Wd
open PySem L2
def spWorld : Sp := fun vs H Q _ => ∃ (p : Addr) (many : Nat) (c0 : Int) (n : Nat), vs = [.ref p, .int many] ∧ PurseAt H p c0 (n + 420) ∧ 1 ≤ many ∧ many ≤ 9 ∧
  ∀ (H' : Hp) (D : Addr) (xs : List Str) (qs : List Pr), xs.length = many → Good xs qs → SameX p H H' → H D = none → WAt H' D xs qs → D ≠ p → PurseAt H' p c0 n → Q (.ref D) H'
theorem sameX_lst {H H' : Hp} {p a : Addr} {c : Int} {n : Nat} {xs : List V} (pa : PurseAt H p c n) (s : SameX p H H') (e : H a = some (.lst xs)) (h : ∀ x ∈ xs, ∀ i : Int, x ≠ .int i) : H' a = some (.lst xs) :=
  s _ _ (purse_ne pa e fun b _ _ _ z => by
    have z : xs = _ := HO.lst.inj z
    exact h (.int b) (by rw [z]; exact List.mem_cons_self) b rfl) e
theorem PwAt.sameX {H H' : Hp} {p a : Addr} {c : Int} {n : Nat} {ps : List Pr} (h : PwAt H a ps) (pa : PurseAt H p c n) (s : SameX p H H') : PwAt H' a ps := by
  obtain ⟨Ts, e, t⟩ := h
  refine ⟨Ts, sameX_lst pa s e (fun x hx i z => ?_), t.keep fun T o hT e => ?_⟩
  · obtain ⟨T, _, rfl⟩ := List.mem_map.mp hx
    cases z
  · obtain ⟨y, _, ey⟩ := t.at hT
    exact s _ _ (purse_ne pa ey fun _ _ _ _ z => nomatch z) e
theorem WAt.sameX {H H' : Hp} {p a : Addr} {c : Int} {n : Nat} {xs : List Str} {ps : List Pr} (h : WAt H a xs ps) (pa : PurseAt H p c n) (s : SameX p H H') : WAt H' a xs ps := by
  obtain ⟨c, l, e1, e2, e3⟩ := h
  refine ⟨c, l, sameX_lst pa s e1 (fun x hx i z => ?_), sameX_lst pa s e2 (fun x hx i z => ?_), e3.sameX pa s⟩
  · rw [z] at hx
    simp at hx
  · obtain ⟨T, _, rfl⟩ := List.mem_map.mp hx
    cases z
section
variable {P : Program} {w : World} {K : PySem.W.Frag} {mg : Str → Option Value} {base : Heap}
set_option maxHeartbeats 1000000 in
theorem ok_world {f : Addr} {fd : FuncData} (F : Fun K "_law_world" "_law_world" s_world f fd) (T : Bt mg) (CD : Has P w K mg base 2 "_law_draw" ["_law_purse_here", "_law_many"] spDraw)
    (CP : Has P w K mg base 1 "_law_pairs" ["_law_crowd"] spPairs) (CO : Has P w K mg base 3 "_law_one_of" ["_law_purse_here", "_law_some"] spOneOf) (CE : Has P w K mg base 5 "_law_people" ["_law_purse_here", "_law_many"] spPeople)
    (CL : Has P w K mg base 3 "_law_by_labels" ["_law_purse_here", "_law_crowd"] (spMade 110)) (CI : Has P w K mg base 3 "_law_by_density" ["_law_purse_here", "_law_crowd"] (spMade 110))
    (CS : Has P w K mg base 4 "_law_shaped" ["_law_purse_here", "_law_crowd"] (spMade 110)) (CX : Has P w K mg base 2 "_law_opposite" ["_law_world_here"] spOpp) (CB : Has P w K mg base 1 "_law_deed" ["_law_world_here", "_law_pair_here"] spDeed) :
    FnOk P w K mg base CX0 6 f fd ["_law_purse_here", "_law_many"] spWorld := by
  obtain ⟨fD, fdD, GD, mD, kD, bD⟩ := CD
  obtain ⟨fP, fdP, GP, mP, kP, bP⟩ := CP
  obtain ⟨fO, fdO, GO, mO, kO, bO⟩ := CO
  obtain ⟨fE, fdE, GE, mE, kE, bE⟩ := CE
  obtain ⟨fL, fdL, GL, mL, kL, bL⟩ := CL
  obtain ⟨fI, fdI, GI, mI, kI, bI⟩ := CI
  obtain ⟨fS, fdS, GS, mS, kS, bS⟩ := CS
  obtain ⟨fX, fdX, GX, mX, kX, bX⟩ := CX
  obtain ⟨fB, fdB, GB, mB, kB, bB⟩ := CB
  refine F.ok c_world (fun vs H Q E h => ?_) (fun cdv A outer s H vs Q E hr h => ?_)
  · obtain ⟨_, _, _, _, rfl, _⟩ := h
    rfl
  · obtain ⟨p, many, c0, n, rfl, pa, h1, h9, k⟩ := h
    have hr1 : Room 1 _ := hr.mono (by decide)
    have hr2 : Room 2 _ := hr.mono (by decide)
    have hr3 : Room 3 _ := hr.mono (by decide)
    have hr4 : Room 4 _ := hr.mono (by decide)
    have hr5 : Room 5 _ := hr.mono (by decide)
    refine ⟨_, pss_cons (ps_par (i := 2) (j := 3) rfl c_world.nd rfl rfl (by decide) rfl rfl (pa_cons (pe_call GE hr5 rfl mE kE bE .nil pass0 (pa_cons (pv 0) (pa_cons (pv 1) pa_nil))) (pa_cons (pe_call GD hr2 rfl mD kD bD .nil pass0 (pa_cons (pv 0) (pa_cons pe_int pa_nil))) pa_nil)) (by rfl))
      (pss_cons (ps_if (pt_cmpR op_eq (pv 3) pe_int (nomark _)) (pss_one (ps_ret (pe_call GL hr3 rfl mL kL bL .nil pass0 (pa_cons (pv 0) (pa_cons (pv 2) pa_nil))))) pss_nil)
      (pss_cons (ps_if (pt_cmpR op_eq (pv 3) pe_int (nomark _)) (pss_one (ps_ret (pe_call GX hr2 rfl mX kX bX .nil pass0 (pa_cons (pe_call GL hr3 rfl mL kL bL .nil pass0 (pa_cons (pv 0) (pa_cons (pv 2) pa_nil))) pa_nil)))) pss_nil)
      (pss_cons (ps_if (pt_cmpR op_eq (pv 3) pe_int (nomark _)) (pss_one (ps_ret (pe_call GS hr4 rfl mS kS bS .nil pass0 (pa_cons (pv 0) (pa_cons (pv 2) pa_nil))))) pss_nil)
      (pss_cons (ps_if (pt_cmpR op_eq (pv 3) pe_int (nomark _)) (pss_cons (ps_set (i := 4) c_world.nd rfl (Or.inl rfl) (pe_call GS hr4 rfl mS kS bS .nil pass0 (pa_cons (pv 0) (pa_cons (pv 2) pa_nil))))
        (pss_one (ps_ret (pe_ifExp (pt_cmpR op_gt (pv 1) pe_int (nomark _)) (pe_call GB hr1 rfl mB kB bB .nil pass0 (pa_cons (pv 4) (pa_cons (pe_call GO hr3 rfl mO kO bO .nil pass0 (pa_cons (pv 0) (pa_cons (pe_call GP hr1 rfl mP kP bP .nil pass0 (pa_cons (pv 2) pa_nil)) pa_nil))) pa_nil))) (pv 4))))) pss_nil)
      (pss_one (ps_ret (pe_call GI hr3 rfl mI kI bI .nil pass0 (pa_cons (pv 0) (pa_cons (pv 2) pa_nil))))))))), ?_⟩
    refine ⟨_, rfl, _, rfl, p, many, c0, n + 120, rfl, pa, h9, fun H1 c xs lx asc hw sx1 nc hc ncp pa1 => ?_⟩
    refine ⟨_, rfl, p, _, c0, n + 119, rfl, pa1, by decide, by decide, fun H2 r r0 r1 sx2 pa2 => ⟨_, _, rfl, ?_⟩⟩
    have hc2 := sx2 _ _ ncp hc
    have g0 : Good xs [] := ⟨asc, hw, by omega, List.nil_sublist _⟩
    have sxH : SameX p H H2 := sx1.trans sx2
    refine ⟨_, rfl, rfl, _, rfl, ?_⟩
    refine ite2 (fun _ => ?_) (fun _ => ?_)
    · refine ⟨_, rfl, _, rfl, p, c, xs, c0, n + 9, rfl, pa2, hc2, g0, fun H3 D qs sb sx3 nD hD nDp pa3 => ?_⟩
      exact k H3 D xs qs lx ⟨asc, hw, by omega, sb⟩ (sxH.trans sx3) (sxH.none nD nDp) hD nDp (pa3.less (by omega))
    refine ⟨_, rfl, rfl, _, rfl, ?_⟩
    refine ite2 (fun _ => ?_) (fun _ => ?_)
    · refine ⟨_, rfl, _, rfl, p, c, xs, c0, n + 9, rfl, pa2, hc2, g0, fun H3 D qs sb sx3 nD hD nDp pa3 => ?_⟩
      refine ⟨D, xs, qs, rfl, hD, ⟨asc, hw, by omega, sb⟩, fun H4 D2 s4 nD2 hD2 => ?_⟩
      have nD2p := purse_none pa3 nD2
      have sx4 : SameX p H H4 := (sxH.trans sx3).trans (SameX.of s4)
      exact k H4 D2 xs _ lx ⟨asc, hw, by omega, List.filter_sublist⟩ sx4 ((sxH.trans sx3).none nD2 nD2p) hD2 nD2p ((pa3.same s4).less (by omega))
    refine ⟨_, rfl, rfl, _, rfl, ?_⟩
    refine ite2 (fun _ => ?_) (fun _ => ?_)
    · refine ⟨_, rfl, _, rfl, p, c, xs, c0, n + 9, rfl, pa2, hc2, g0, fun H3 D qs sb sx3 nD hD nDp pa3 => ?_⟩
      exact k H3 D xs qs lx ⟨asc, hw, by omega, sb⟩ (sxH.trans sx3) (sxH.none nD nDp) hD nDp (pa3.less (by omega))
    refine ⟨_, rfl, rfl, _, rfl, ?_⟩
    refine ite2 (fun _ => ?_) (fun _ => ?_)
    · refine ⟨_, rfl, _, rfl, p, c, xs, c0, n + 9, rfl, pa2, hc2, g0, fun H3 D qs sb sx3 nD hD nDp pa3 => ?_⟩
      have sx3' := sxH.trans sx3
      have hc3 := sx3 _ _ ncp hc2
      have lxs : (xs.map V.str).length = xs.length := List.length_map _
      refine ⟨_, rfl, _, _, rfl, rfl, _, rfl, ?_⟩
      refine ite2 (fun hm => ?_) (fun _ => ?_)
      · have hm : 1 < many := by
          have : (1 : Int) < (many : Int) := of_decide_eq_true hm
          omega
        refine ⟨_, rfl, _, rfl, _, rfl, c, xs.map V.str, rfl, hc3, by omega, fun H4 D2 s4 nD2 ⟨Ts, hd, tu⟩ => ?_⟩
        have pa4 := pa3.same s4
        have nD2p := purse_none pa3 nD2
        rw [prs_strs] at tu
        have lT : Ts.length = (prsS xs).length := by rw [tu.1, List.length_map]
        have l36 := Good.len0 (xs := xs) (by omega)
        have l1 : 1 ≤ (prsS xs).length := by
          have h := prsS_len xs
          rw [lx] at h
          have : many + many ≤ many * many := by
            have := Nat.mul_le_mul_right many (show 2 ≤ many by omega)
            omega
          omega
        refine ⟨p, D2, Ts.map V.ref, c0, n + 8, rfl, pa4, hd, nD2p, by rw [List.length_map]; omega, by rw [List.length_map]; omega, fun H5 i x hx sx5 pa5 => ?_⟩
        rw [List.getElem?_map] at hx
        obtain ⟨T1, hT, rfl⟩ := Option.map_eq_some_iff.mp hx
        have il := (List.getElem?_eq_some_iff.mp hT).1
        obtain ⟨q, hq⟩ : ∃ q, (prsS xs)[i]? = some q := ⟨_, List.getElem?_eq_getElem (by rw [← lT]; exact il)⟩
        have eT := tu.2 i T1 (tv q) hT (by rw [List.getElem?_map, hq]; rfl)
        have eT5 := sx5 _ _ (purse_ne pa4 eT fun _ _ _ _ z => nomatch z) eT
        refine ⟨D, T1, xs, qs, q, rfl, (hD.same s4).sameX pa4 sx5, ⟨asc, hw, by omega, sb⟩, eT5, List.mem_of_getElem? hq, fun H6 D3 s6 nD3 hD3 => ?_⟩
        have nD3p := purse_none pa5 nD3
        have sx5' := (sx3'.trans (SameX.of s4)).trans sx5
        exact k H6 D3 xs _ lx ⟨asc, hw, by omega, List.filter_sublist⟩ (sx5'.trans (SameX.of s6)) (sx5'.none nD3 nD3p) hD3 nD3p ((pa5.same s6).less (by omega))
      · exact ⟨_, rfl, k H3 D xs qs lx ⟨asc, hw, by omega, sb⟩ sx3' (sxH.none nD nDp) hD nDp (pa3.less (by omega))⟩
    refine ⟨_, rfl, _, rfl, p, c, xs, c0, n + 9, rfl, pa2, hc2, g0, fun H3 D qs sb sx3 nD hD nDp pa3 => ?_⟩
    exact k H3 D xs qs lx ⟨asc, hw, by omega, sb⟩ (sxH.trans sx3) (sxH.none nD nDp) hD nDp (pa3.less (by omega))
end
end Wd
end
section
set_option maxRecDepth 100000
set_option maxHeartbeats 4000000
namespace Wd
open PySem L2
def spSized : Sp := fun vs H Q _ => ∃ (p : Addr) (c0 : Int) (n : Nat), vs = [.ref p] ∧ PurseAt H p c0 (n + 2) ∧
  ∀ (H' : Hp) (m : Nat), 1 ≤ m → m ≤ 9 → SameX p H H' → PurseAt H' p c0 n → Q (.int m) H'
section
variable {P : Program} {w : World} {K : PySem.W.Frag} {mg : Str → Option Value} {base : Heap}
end
end Wd
end
section
set_option maxRecDepth 100000
set_option maxHeartbeats 4000000
namespace Kc
open PySem PySem.Spec PyProof.Rows PySem.Builtin
abbrev TC : String := "itertools.combinations"
theorem mro_c : mroOf (.type TC) = pure [.type TC, .type "object"] := by
  rw [mroOf_type]
  kernel_rfl
theorem new_c : typeLookup (.type TC) "__new__" = pure (some (.builtin "itertools.combinations.__new__")) := by
  rw [typeLookup_type, builtinLookup_eq_fast]
  kernel_rfl
theorem slotI_c : Slot TC "__init__" "object.__init__" :=
  .of (owner := "object") (n := "__init__") (by rw [typeLookup_type, builtinLookup_eq_fast]; kernel_rfl) (by decide +kernel) (by decide +kernel) (by decide +kernel)
    (by first | exact .inl (by decide +kernel) | exact .inr (by decide +kernel)) (by rw [isSubtype_type]; kernel_rfl)
theorem sub_c : isSubtype (.type TC) (.type TC) = pure true := by
  rw [isSubtype_type]
  kernel_rfl
theorem called_c : TypeCalled TC "itertools.combinations.__new__" "object.__init__" :=
  ⟨by decide +kernel, by decide +kernel, ⟨_, _, mro_c⟩, madeBy_type mro_c new_c (by decide +kernel), by decide +kernel, sub_c, slotI_c⟩
theorem typeCall_c (a b : Value) : checkTypeCall TC ⟨[a, b], []⟩ = pure () := by kernel_rfl
theorem newCall_c (a b : Value) : checkBuiltinCall "itertools.combinations.__new__" ⟨[.type TC, a, b], []⟩ = pure () := by kernel_rfl
theorem entryN_c : entryFor table "itertools.combinations.__new__" = some Builtin.«itertools.combinations.__new__» := entryFor_of_tree (by kernel_rfl)
theorem slotIt_c : Slot TC "__iter__" "itertools.combinations.__iter__" :=
  .of (owner := TC) (n := "__iter__") (by rw [typeLookup_type, builtinLookup_eq_fast]; kernel_rfl) (by decide +kernel) (by decide +kernel) (by decide +kernel)
    (by first | exact .inl (by decide +kernel) | exact .inr (by decide +kernel)) sub_c
theorem slotNx_c : Slot TC "__next__" "itertools.combinations.__next__" :=
  .of (owner := TC) (n := "__next__") (by rw [typeLookup_type, builtinLookup_eq_fast]; kernel_rfl) (by decide +kernel) (by decide +kernel) (by decide +kernel)
    (by first | exact .inl (by decide +kernel) | exact .inr (by decide +kernel)) sub_c
theorem entryIt_c : entryFor table "itertools.combinations.__iter__" = some Builtin.«dict_keyiterator.__iter__» :=
  entryFor_alias (id' := "dict_keyiterator.__iter__") (by kernel_rfl) (by first | rfl | decide +kernel | (unfold String.splitOn; simp +decide [String.splitOnAux])) (by decide +kernel) (by kernel_rfl)
theorem entryNx_c : entryFor table "itertools.combinations.__next__" = some Builtin.«itertools.combinations.__next__» := entryFor_of_tree (by kernel_rfl)
def nameC : List Char := ['s', 'n', 'o', 'i', 't', 'a', 'n', 'i', 'b', 'm', 'o', 'c', '.', 's', 'l', 'o', 'o', 't', 'r', 'e', 't', 'i']
theorem owner_c : Manifest.owners.lookup (String.ofList nameC.reverse) = some Manifest.sig_itertools_combinations := by kernel_rfl
theorem argsIt_c (a : Value) : argsOk "itertools.combinations.__iter__" ⟨[a], []⟩ := by
  unfold argsOk
  rw [signature?_of (id := "itertools.combinations.__iter__") (n := ['_', '_', 'r', 'e', 't', 'i', '_', '_']) (o := nameC) (by kernel_rfl) owner_c]
  kernel_rfl
theorem argsNx_c (a : Value) : argsOk "itertools.combinations.__next__" ⟨[a], []⟩ := by
  unfold argsOk
  rw [signature?_of (id := "itertools.combinations.__next__") (n := ['_', '_', 't', 'x', 'e', 'n', '_', '_']) (o := nameC) (by kernel_rfl) owner_c]
  kernel_rfl
theorem noDict_c : typeHasDict (.type TC) = false := by decide +kernel
theorem noLen_c : typeLookup (.type TC) "__len__" = pure none := by
  rw [typeLookup_type, builtinLookup_eq_fast]
  kernel_rfl
theorem noHint_c : typeLookup (.type TC) "__length_hint__" = pure none := by
  rw [typeLookup_type, builtinLookup_eq_fast]
  kernel_rfl
theorem isType_c : isType (.type TC) = pure true := by first | rfl | kernel_rfl
end Kc
end
section
set_option maxRecDepth 100000
set_option maxHeartbeats 4000000
namespace Kc
open PySem PySem.Spec PyProof.Rows PySem.Builtin PySem.Builtin.Itertools
/-- the step of the model, in our own words -/
def nextC (n : Nat) (ix : List Nat) : Option (List Nat) :=
  match (List.range ix.length).reverse.find? fun i => ix.getD i 0 != i + n - ix.length with
  | none => none
  | some i => some (ix.take i ++ (List.range (ix.length - i)).map (ix.getD i 0 + 1 + ·))
def pickC (pool : Value) (ix : List Nat) : Sem Value := do
  let items ← itPoolItems pool
  newTuple (ix.map fun i => items.getD i .none)
def outC (self pool : Value) (ix : List Nat) : Sem PySem.Fin := do
  let result ← pickC pool ix
  let before ← field self 2
  setField self 2 result
  letGo [before] [result]
  ret result
theorem next_eq (self : Value) : Builtin.«itertools.combinations.__next__» ⟨[self], []⟩ = (do
    let (self, _) ← slotArgs "__next__" 0 ⟨[self], []⟩
    let pool ← field self 0
    let ix ← itNumbersFrom self 3
    match ← itIntField self 1 with
    | 0 => setField self 1 (rawInt 1); outC self pool ix
    | 1 =>
      match nextC (← itPoolItems pool).size ix with
      | some next => itSetNumbersFrom self 3 next; outC self pool next
      | none => setField self 1 (rawInt 2); itStop
    | _ => rule "itertools.combinations.ended"; itStop) := rfl
end Kc
end
section
set_option maxRecDepth 100000
set_option maxHeartbeats 4000000
namespace Kc
open PySem PySem.Spec PyProof.Rows PySem.Builtin PySem.Builtin.Itertools
def flds (pool : Addr) (st : Int) (res : Value) (ix : List Nat) : Array Value := ([.ref pool, rawInt st, res] ++ ix.map fun (i : Nat) => rawInt i).toArray
abbrev combO (pool : Addr) (st : Int) (res : Value) (ix : List Nat) : Obj := { cls := .type TC, dict := none, data := .fields (flds pool st res ix), slots := #[] }
section
variable {pool : Addr} {st : Int} {res : Value} {ix : List Nat}
theorem f0 : (flds pool st res ix)[0]? = some (.ref pool) := by simp [flds]
theorem f1 : (flds pool st res ix)[1]? = some (.int st 0) := by simp [flds, rawInt]
theorem f2 : (flds pool st res ix)[2]? = some res := by simp [flds]
theorem fsz : (flds pool st res ix).size = ix.length + 3 := by simp [flds]
theorem fset1 (v : Int) : (flds pool st res ix).setIfInBounds 1 (rawInt v) = flds pool v res ix := by simp [flds]
theorem fset2 (v : Value) : (flds pool st res ix).setIfInBounds 2 v = flds pool st v ix := by simp [flds]
theorem fnums : ((flds pool st res ix).toList.drop 3).map (fun | .int n _ => n.toNat | _ => 0) = ix := by
  have e : (flds pool st res ix).toList.drop 3 = ix.map fun (i : Nat) => rawInt i := by simp [flds]
  rw [e, List.map_map]
  conv => rhs; rw [← List.map_id ix]
  exact List.map_congr_left fun i _ => by simp [rawInt]
theorem fext (jx : List Nat) : (flds pool st res ix).extract 0 3 ++ (jx.map fun (i : Nat) => rawInt i).toArray = flds pool st res jx := by
  apply Array.toList_inj.mp
  simp [flds]
end
section
variable {prog : Program} {w : World} {A : Around} {E : Value → Shared → Prop} {s : Shared} {it pool : Addr} {st : Int} {res : Value} {ix : List Nat} {xs : Array Value}
/-- the pool -/
def Pool (h : Heap) (pool : Addr) (xs : Array Value) : Prop := ∃ o n, h.get? pool = some o ∧ o.data = .seq xs n
theorem upd_f {o' : Obj} (g : Array Value → Array Value) (hit : s.heap.get? it = some (combO pool st res ix)) (e : Obj.mapFields g (combO pool st res ix) = o') : (s.heap.update it (Obj.mapFields g)).get? it = some o' := by
  have h := Heap.get?_update_self (Obj.mapFields g) hit rfl
  rw [e] at h
  exact h
/-- a new tuple of the pool's items, held by the iterator -/
theorem out_item {Q : PySem.Fin → Shared → Prop} (hit : s.heap.get? it = some (combO pool st res ix)) (hp : Pool s.heap pool xs) (hn : ix.length ≤ 1000)
    (h : ∀ h', h'.get? s.heap.objs.size = some { cls := .type "tuple", data := .seq (ix.map fun i => xs.getD i .none).toArray } → h'.get? it = some (combO pool st (.ref s.heap.objs.size) ix) →
      (∀ b o, b ≠ it → s.heap.get? b = some o → h'.get? b = some o) → h'.objs.size = s.heap.objs.size + 1 → Q (.done (.ret (.ref s.heap.objs.size))) { s with heap := h' }) : wpAny (model prog w) A (outC (.ref it) (.ref pool) ix) Q E s := by
  obtain ⟨o, n, ho, hd⟩ := hp
  have lt : it < s.heap.objs.size := Heap.lt_size hit
  unfold outC pickC itPoolItems
  refine wpAny_bind (wpAny_bind (wpAny_bind (wpAny_seqItems ho hd (wpAny_pure ?_))))
  refine wpAny_newTuple ?_ (by rw [List.length_map, sizeLine_eq]; omega)
  generalize hT : s.heap.push { cls := .type "tuple", data := .seq (ix.map fun i => xs.getD i .none).toArray } = h1
  have g1 : h1.get? it = some (combO pool st res ix) := by
    rw [← hT]
    exact Heap.get?_push_of_some _ hit
  have g2 : h1.get? s.heap.objs.size = some { cls := .type "tuple", data := .seq (ix.map fun i => xs.getD i .none).toArray } := by
    rw [← hT]
    exact Heap.get?_push_size _ rfl
  refine wpAny_bind (wpAny_field g1 rfl f2 ?_)
  refine wpAny_bind (wpAny_setField g1 rfl (by rw [fsz]; omega) ?_)
  refine wpAny_bind (wpAny_letGo ?_)
  have ne : s.heap.objs.size ≠ it := Nat.ne_of_gt lt
  refine wpAny_pure (h _ ?_ ?_ (fun b o nb e => ?_) ?_)
  · rw [Heap.get?_update_ne _ _ _ _ ne]
    exact g2
  · exact upd_f (s := { s with heap := h1 }) _ g1 (by simp [Obj.mapFields, fset2])
  · rw [Heap.get?_update_ne _ _ _ _ nb, ← hT]
    exact Heap.get?_push_of_some _ e
  · rw [Heap.size_update, ← hT, size_push']
end
end Kc
end
section
set_option maxRecDepth 100000
set_option maxHeartbeats 4000000
namespace Kc
open PySem PySem.Spec PyProof.Rows PySem.Builtin PySem.Builtin.Itertools
/-- what stands ahead of a turn: fresh with the first places, or behind places whose next are told -/
def Ahead (n : Nat) (st : Int) (ix : List Nat) (nx : Option (List Nat)) : Prop := (st = 0 ∧ nx = some ix) ∨ (st = 1 ∧ nx = nextC n ix) ∨ (st = 2 ∧ nx = none)
section
variable {prog : Program} {w : World} {A : Around} {E : Value → Shared → Prop} {s : Shared} {it pool : Addr} {st : Int} {res : Value} {ix jx : List Nat} {xs : Array Value}
theorem pool_but {h h' : Heap} (hp : Pool h pool xs) (k : ∀ b o, b ≠ it → h.get? b = some o → h'.get? b = some o) (ne : pool ≠ it) : Pool h' pool xs := by
  obtain ⟨o, n, ho, hd⟩ := hp
  exact ⟨o, n, k _ _ ne ho, hd⟩
theorem wp_nums {Q : List Nat → Shared → Prop} (hit : s.heap.get? it = some (combO pool st res ix)) (h : Q ix s) : wpAny (model prog w) A (itNumbersFrom (.ref it) 3) Q E s := by
  unfold itNumbersFrom
  refine wpAny_bind (wpAny_load hit ?_)
  have e := congrArg (fun l => Q l s) (fnums (pool := pool) (st := st) (res := res) (ix := ix))
  exact wpAny_pure (e.mpr h)
theorem wp_setnums {Q : Unit → Shared → Prop} (hit : s.heap.get? it = some (combO pool st res ix)) (hn : jx.length ≤ 1000)
    (h : ∀ h', h'.get? it = some (combO pool st res jx) → (∀ b o, b ≠ it → s.heap.get? b = some o → h'.get? b = some o) → h'.objs.size = s.heap.objs.size → Q () { s with heap := h' }) : wpAny (model prog w) A (itSetNumbersFrom (.ref it) 3 jx) Q E s := by
  unfold itSetNumbersFrom
  refine wpAny_updateFields hit rfl (h _ (upd_f _ hit (by simp [Obj.mapFields, fext])) (fun b o nb e => ?_) (by rw [Heap.size_update])) ?_
  · rw [Heap.get?_update_ne _ _ _ _ nb]
    exact e
  · rw [fext, fsz, sizeLine_eq]
    omega
theorem wp_setst {Q : Unit → Shared → Prop} (v : Int) (hit : s.heap.get? it = some (combO pool st res ix))
    (h : ∀ h', h'.get? it = some (combO pool v res ix) → (∀ b o, b ≠ it → s.heap.get? b = some o → h'.get? b = some o) → h'.objs.size = s.heap.objs.size → Q () { s with heap := h' }) : wpAny (model prog w) A (setField (.ref it) 1 (rawInt v)) Q E s := by
  refine wpAny_setField hit rfl (by rw [fsz]; omega) (h _ (upd_f _ hit (by simp [Obj.mapFields, fset1])) (fun b o nb e => ?_) (by rw [Heap.size_update]))
  rw [Heap.get?_update_ne _ _ _ _ nb]
  exact e
/-- the next item -/
theorem comb_item {n : Nat} {Q : Option Value → Shared → Prop} (hit : s.heap.get? it = some (combO pool st res ix)) (hp : Pool s.heap pool xs) (ne : pool ≠ it) (hn : xs.size = n) (ah : Ahead n st ix (some jx)) (hj : jx.length ≤ 1000)
    (h : ∀ h', h'.get? s.heap.objs.size = some { cls := .type "tuple", data := .seq (jx.map fun i => xs.getD i .none).toArray } → h'.get? it = some (combO pool 1 (.ref s.heap.objs.size) jx) →
      (∀ b o, b ≠ it → s.heap.get? b = some o → h'.get? b = some o) → h'.objs.size = s.heap.objs.size + 1 → Q (some (.ref s.heap.objs.size)) { s with heap := h' }) : wpAny (model prog w) A (pyNext (.ref it)) Q E s := by
  have hT : s.TypeIs (.ref it) TC := ⟨_, hit, rfl⟩
  unfold pyNext
  refine wpAny_bind (wpAny_attempt (wpAny_callSpecial?_slot (name := Str.ofString "__next__") hT slotNx_c (wpAny_call_entry slotNx_c hT entryNx_c ?_ (argsNx_c _))))
  rw [next_eq]
  unfold slotArgs
  refine wpAny_bind (wpAny_pure ?_)
  refine wpAny_bind (wpAny_field hit rfl f0 ?_)
  refine wpAny_bind (wp_nums hit ?_)
  unfold itIntField
  refine wpAny_bind (wpAny_bind (wpAny_field hit rfl f1 (wpAny_pure ?_)))
  rcases ah with ⟨rfl, e⟩ | ⟨rfl, e⟩ | ⟨_, e⟩
  · obtain rfl : jx = ix := Option.some.inj e
    show wpAny _ _ (do setField (.ref it) 1 (rawInt 1); outC (.ref it) (.ref pool) jx) _ _ s
    refine wpAny_bind (wp_setst 1 hit fun h1 g1 k1 z1 => ?_)
    refine out_item (s := { s with heap := h1 }) g1 (pool_but hp k1 ne) hj fun h' a b c d => ⟨_, rfl, wpAny_pure ?_⟩
    dsimp only at a b c d
    rw [z1] at a b d ⊢
    exact h h' a b (fun b o nb e => c b o nb (k1 b o nb e)) d
  · obtain ⟨o, m, ho, hd⟩ := id hp
    show wpAny _ _ (do
      match nextC (← itPoolItems (.ref pool)).size ix with
      | some next => itSetNumbersFrom (.ref it) 3 next; outC (.ref it) (.ref pool) next
      | none => setField (.ref it) 1 (rawInt 2); itStop) _ _ s
    unfold itPoolItems
    refine wpAny_bind (wpAny_bind (wpAny_seqItems ho hd (wpAny_pure ?_)))
    rw [hn, ← e]
    dsimp only
    refine wpAny_bind (wp_setnums hit hj fun h1 g1 k1 z1 => ?_)
    refine out_item (s := { s with heap := h1 }) g1 (pool_but hp k1 ne) hj fun h' a b c d => ⟨_, rfl, wpAny_pure ?_⟩
    dsimp only at a b c d
    rw [z1] at a b d ⊢
    exact h h' a b (fun b o nb e => c b o nb (k1 b o nb e)) d
  · cases e
theorem wp_stop {Q : Option Value → Shared → Prop} {α : Type} {Q2 : α → Shared → Prop} (hh : A.handled = none) (h : ∀ h' e, (∃ o, h'.get? e = some o ∧ o.cls = .type "StopIteration") → (∀ b o, s.heap.get? b = some o → h'.get? b = some o) → E (.ref e) { s with heap := h' }) :
    wpAny (model prog w) A (itStop : Sem α) Q2 E s := by
  unfold itStop
  refine wpAny_bind ?_
  simp only [newExc, newTuple]
  refine wpAny_bind (wpAny_newObj_type ?_ (by size_fits))
  refine wpAny_bind (m := firstArgMember _ _) (wpAny_of_eq (a := Value.none) (by first | rfl | (simp only [firstArgMember]; rfl)) ?_)
  refine wpAny_newObj_type ?_ (by size_fits)
  simp only [raiseNew]
  refine wpAny_bind (wpAny_handled ?_)
  rw [hh]
  refine wpAny_bind (wpAny_pure (wpAny_throw ?_))
  exact h _ _ ⟨_, Heap.get?_push_size _ rfl, rfl⟩ fun b o e => Heap.get?_push_of_some _ (Heap.get?_push_of_some _ e)
/-- the end -/
theorem comb_end {n : Nat} {Q : Option Value → Shared → Prop} (hh : A.handled = none) (hit : s.heap.get? it = some (combO pool st res ix)) (hp : Pool s.heap pool xs) (hn : xs.size = n) (ah : Ahead n st ix none)
    (h : ∀ h', (∀ b o, b ≠ it → s.heap.get? b = some o → h'.get? b = some o) → Q none { s with heap := h' }) : wpAny (model prog w) A (pyNext (.ref it)) Q E s := by
  have hT : s.TypeIs (.ref it) TC := ⟨_, hit, rfl⟩
  unfold pyNext
  refine wpAny_bind (wpAny_attempt (wpAny_callSpecial?_slot (name := Str.ofString "__next__") hT slotNx_c (wpAny_call_entry slotNx_c hT entryNx_c ?_ (argsNx_c _))))
  rw [next_eq]
  unfold slotArgs
  refine wpAny_bind (wpAny_pure ?_)
  refine wpAny_bind (wpAny_field hit rfl f0 ?_)
  refine wpAny_bind (wp_nums hit ?_)
  unfold itIntField
  refine wpAny_bind (wpAny_bind (wpAny_field hit rfl f1 (wpAny_pure ?_)))
  have fin : ∀ (h' : Heap) (e : Addr), (∃ o, h'.get? e = some o ∧ o.cls = .type "StopIteration") → (∀ b o, b ≠ it → s.heap.get? b = some o → h'.get? b = some o) →
      wpAny (model prog w) A (do if ← isInstance (.ref e) (.type "StopIteration") then pure none else throw (.ref e)) Q E { s with heap := h' } := fun h' e ⟨o, ho, hc⟩ k => by
    refine wpAny_bind (wpAny_isInstance (T := "StopIteration") (b := true) ⟨o, ho, hc⟩ isSubtype_stop ?_)
    exact wpAny_pure (h h' k)
  rcases ah with ⟨rfl, e⟩ | ⟨rfl, e⟩ | ⟨rfl, e⟩
  · cases e
  · obtain ⟨o, m, ho, hd⟩ := id hp
    show wpAny _ _ (do
      match nextC (← itPoolItems (.ref pool)).size ix with
      | some next => itSetNumbersFrom (.ref it) 3 next; outC (.ref it) (.ref pool) next
      | none => setField (.ref it) 1 (rawInt 2); itStop) _ _ s
    unfold itPoolItems
    refine wpAny_bind (wpAny_bind (wpAny_seqItems ho hd (wpAny_pure ?_)))
    rw [hn, ← e]
    dsimp only
    refine wpAny_bind (wp_setst 2 hit fun h1 g1 k1 z1 => ?_)
    refine wp_stop (Q := Q) (s := { s with heap := h1 }) (by first | exact hh | simp [hh]) fun h' x hx k => ?_
    exact fin h' x hx fun b o nb e => k b o (k1 b o nb e)
  · show wpAny _ _ (do rule "itertools.combinations.ended"; itStop) _ _ s
    refine wpAny_bind (wpAny_rule ?_)
    refine wp_stop (Q := Q) (by first | exact hh | simp [hh]) fun h' x hx k => ?_
    exact fin h' x hx fun b o nb e => k b o e
theorem comb_self {Q : Value → Shared → Prop} (hit : s.heap.get? it = some (combO pool st res ix)) (h : Q (.ref it) s) : wpAny (model prog w) A (pyIter (.ref it)) Q E s := by
  have hT : s.TypeIs (.ref it) TC := ⟨_, hit, rfl⟩
  refine wpAny_pyIter_slot hT slotIt_c (wpAny_call_entry slotIt_c hT entryIt_c ?_ (argsIt_c _))
  show wpAny _ _ (ret (.ref it)) _ _ s
  exact wpAny_pure ⟨_, rfl, TC, _, hT, slotNx_c.lookup, h⟩
end
end Kc
end
section
set_option maxRecDepth 100000
set_option maxHeartbeats 4000000
namespace Kc
open PySem PySem.Spec PyProof.Rows PySem.Builtin PySem.Builtin.Itertools
def poolC (short : String) (args : Args) : Sem (Value × Value × Nat × Nat) := do
  let (cls, rest) ← itClassAndRest short args
  let [some iterable, some rV] ← itBindNamed short ["iterable", "r"] 2 2 rest args.kw | unsupported "internal:itertools.combinations.__new__"
  let r ← itSsizeArg rV
  let items ← collect iterable
  if r < 0 then rule "itertools.combinations.negative-r"; raiseError "ValueError" "r must be non-negative"
  if itTooMany r then unsupported s!"itertools.{short}.__new__:memory"
  return (cls, ← newTuple items, items.length, r.toNat)
theorem new_eq (args : Args) : Builtin.«itertools.combinations.__new__» args = (do
    let (cls, pool, n, r) ← poolC "combinations" args
    ret (← itNewRecord cls ([pool, rawInt (if r > n then 2 else 0), .none] ++ (List.range r).map fun (i : Nat) => rawInt i))) := rfl
theorem bind_c (a b : Value) : itBindNamed "combinations" ["iterable", "r"] 2 2 [a, b] [] = pure [some a, some b] := by rfl
theorem ix_c (r : Int) (t : Tok) : asIndex (.int r t) = pure r := by first | rfl | kernel_rfl
section
variable {prog : Program} {w : World} {A : Around} {E : Value → Shared → Prop} {s : Shared}
theorem wp_new {l : Addr} {vs : List Value} {r : Nat} {t : Tok} {Q : PySem.Fin → Shared → Prop} (hl : s.heap.IsList l vs.toArray) (hv : vs.length ≤ 1000) (hr : r ≤ 100)
    (h : ∀ h', h'.get? (s.heap.objs.size + 2) = some (combO (s.heap.objs.size + 1) (if r > vs.length then 2 else 0) .none (List.range r)) → h'.get? (s.heap.objs.size + 1) = some { cls := .type "tuple", data := .seq vs.toArray } →
      (∀ b o, s.heap.get? b = some o → h'.get? b = some o) → Q (.done (.ret (.ref (s.heap.objs.size + 2)))) { s with heap := h' }) :
    wpAny (model prog w) A (Builtin.«itertools.combinations.__new__» ⟨[.type TC, .ref l, .int r t], []⟩) Q E s := by
  rw [new_eq]
  unfold poolC
  refine wpAny_bind (wpAny_bind ?_)
  unfold itClassAndRest
  dsimp only
  refine wpAny_bind (wpAny_of_eq isType_c ?_)
  simp only [Bool.not_true, Bool.false_eq_true, if_false]
  refine wpAny_bind (wpAny_of_eq sub_c ?_)
  simp only [Bool.not_true, Bool.false_eq_true, if_false]
  refine wpAny_pure ?_
  dsimp only
  rw [bind_c]
  refine wpAny_bind (wpAny_pure ?_)
  dsimp only
  unfold itSsizeArg
  rw [ix_c]
  refine wpAny_bind (wpAny_bind (wpAny_pure ?_))
  have c1 : (decide ((r : Int) < -(2 ^ 63 : Int)) || decide ((r : Int) ≥ 2 ^ 63)) = false := by
    rw [Bool.or_eq_false_iff]
    exact ⟨decide_eq_false (by omega), decide_eq_false (by omega)⟩
  rw [c1]
  simp only [Bool.false_eq_true, if_false]
  refine wpAny_pure ?_
  refine wpAny_bind (collect_list hl ?_ (by rw [sizeLine_eq]; omega))
  refine wpAny_ite_split (fun z => absurd z (by omega)) (fun _ => ?_)
  try refine wpAny_bind (wpAny_pure ?_)
  have c2 : itTooMany (r : Int) = false := decide_eq_false (by omega)
  refine wpAny_ite_split (fun z => absurd z (by rw [c2]; decide)) (fun _ => ?_)
  try refine wpAny_bind (wpAny_pure ?_)
  have hsz : ((s.heap.push (seqObj "list" #[] 0)).update s.heap.objs.size (Obj.mapSeq (· ++ vs.toArray))).objs.size = s.heap.objs.size + 1 := by
    rw [Heap.size_update, size_push']
  refine wpAny_bind (wpAny_newTuple ?_ (by rw [sizeLine_eq]; omega))
  refine wpAny_pure ?_
  dsimp only
  generalize hT : ((s.heap.push (seqObj "list" #[] 0)).update s.heap.objs.size (Obj.mapSeq (· ++ vs.toArray))).push { cls := .type "tuple", data := .seq vs.toArray } = h1
  have z1 : h1.objs.size = s.heap.objs.size + 2 := by rw [← hT, size_push', hsz]
  have g1 : h1.get? (s.heap.objs.size + 1) = some { cls := .type "tuple", data := .seq vs.toArray } := by
    rw [← hT, ← hsz]
    exact Heap.get?_push_size _ rfl
  have k1 : ∀ b o, s.heap.get? b = some o → h1.get? b = some o := fun b o e => by
    have lt : b < s.heap.objs.size := Heap.lt_size e
    rw [← hT]
    refine Heap.get?_push_of_some _ ?_
    rw [Heap.get?_update_ne _ _ _ _ (Nat.ne_of_lt lt)]
    exact Heap.get?_push_of_some _ e
  unfold itNewRecord
  rw [noDict_c]
  simp only [Bool.not_false, if_true]
  rw [hsz]
  refine wpAny_bind ?_
  refine wpAny_newObj_type ?_ ?_
  · refine wpAny_pure ?_
    rw [z1]
    refine h _ ?_ (Heap.get?_push_of_some _ g1) fun b o e => Heap.get?_push_of_some _ (k1 b o e)
    rw [← z1]
    exact Heap.get?_push_size _ rfl
  · show (flds _ _ _ _).size ≤ _
    rw [fsz, List.length_range, sizeLine_eq]
    omega
def specC (l : Addr) (vs : List Value) (r : Nat) : PySem.Spec := fun _ R s => s.heap.IsList l vs.toArray ∧ vs.length ≤ 1000 ∧ r ≤ 100 ∧
  ∀ h' : Heap, h'.get? (s.heap.objs.size + 2) = some (combO (s.heap.objs.size + 1) (if r > vs.length then 2 else 0) .none (List.range r)) → h'.get? (s.heap.objs.size + 1) = some { cls := .type "tuple", data := .seq vs.toArray } →
    (∀ b o, s.heap.get? b = some o → h'.get? b = some o) → R (.ok (.ret (.ref (s.heap.objs.size + 2)))) { s with heap := h' }
theorem meets_c (l : Addr) (vs : List Value) (r : Nat) (t : Tok) : Meets (Builtin.«itertools.combinations.__new__» ⟨[.type TC, .ref l, .int r t], []⟩) (specC l vs r) :=
  .of_wp fun prog w A R s h => by
    obtain ⟨hl, hv, hr, q⟩ := h
    exact wp_new hl hv hr fun h' a b c => ⟨_, rfl, q h' a b c⟩
/-- combinations(xs, r) -/
theorem call_comb {l : Addr} {vs : List Value} {r : Nat} {t : Tok} {Q : Value → Shared → Prop} (hl : s.heap.IsList l vs.toArray) (hv : vs.length ≤ 1000) (hr : r ≤ 100)
    (h : ∀ h', h'.get? (s.heap.objs.size + 2) = some (combO (s.heap.objs.size + 1) (if r > vs.length then 2 else 0) .none (List.range r)) → h'.get? (s.heap.objs.size + 1) = some { cls := .type "tuple", data := .seq vs.toArray } →
      (∀ b o, s.heap.get? b = some o → h'.get? b = some o) → Q (.ref (s.heap.objs.size + 2)) { s with heap := h' }) : wpAny (model prog w) A (call (.type TC) [.ref l, .int r t]) Q E s := by
  refine callType_new called_c (by decide +kernel) (typeCall_c _ _) (newCall_c _ _) (fun obj => F.args_object_init_3 obj _ _) entryN_c (meets_c l vs r t) ?_
  exact ⟨hl, hv, hr, fun h' a b c => ⟨⟨_, a, rfl⟩, h h' a b c⟩⟩
end
end Kc
end
section
set_option maxRecDepth 100000
set_option maxHeartbeats 4000000
namespace Kc
open PySem PySem.Spec PyProof.Rows L2
/-! ### the places, in their order -/
def ixs2 (n : Nat) : List (List Nat) := (List.range n).flatMap fun i => ((List.range n).filter fun j => decide (i < j)).map fun j => [i, j]
def ixs3 (n : Nat) : List (List Nat) := (List.range n).flatMap fun i => ((List.range n).filter fun j => decide (i < j)).flatMap fun j => ((List.range n).filter fun k => decide (j < k)).map fun k => [i, j, k]
def ixsR (r n : Nat) : List (List Nat) := if r = 2 then ixs2 n else ixs3 n
/-- a list of places that the iterator goes through -/
structure Goes (n r : Nat) (L : List (List Nat)) : Prop where
  start : L[0]? = if r > n then none else some (List.range r)
  next : ∀ t a, L[t]? = some a → nextC n a = L[t + 1]?
  len : ∀ a ∈ L, a.length = r ∧ ∀ i ∈ a, i < n
def okGo (n r : Nat) (L : List (List Nat)) : Bool := (L[0]? == if r > n then none else some (List.range r)) && ((List.range L.length).all fun t => match L[t]? with
  | some a => (nextC n a == L[t + 1]?) && (a.length == r) && a.all fun i => decide (i < n)
  | none => true)
theorem goes_of {n r : Nat} {L : List (List Nat)} (h : okGo n r L = true) : Goes n r L := by
  unfold okGo at h
  rw [Bool.and_eq_true] at h
  obtain ⟨h1, h2⟩ := h
  have all : ∀ t a, L[t]? = some a → (nextC n a = L[t + 1]? ∧ a.length = r) ∧ ∀ i ∈ a, i < n := fun t a e => by
    have lt : t < L.length := (List.getElem?_eq_some_iff.mp e).1
    have q := List.all_eq_true.mp h2 t (List.mem_range.mpr lt)
    rw [e] at q
    simpa using q
  refine ⟨by simpa using h1, fun t a e => (all t a e).1.1, fun a ha => ?_⟩
  obtain ⟨t, ht, e⟩ := List.getElem_of_mem ha
  have q := all t a (by rw [List.getElem?_eq_getElem ht, e])
  exact ⟨q.1.2, q.2⟩
theorem all_go : ((List.range 13).all fun n => okGo n 2 (ixs2 n) && okGo n 3 (ixs3 n)) = true := by decide +kernel
theorem goes2 {n : Nat} (h : n ≤ 12) : Goes n 2 (ixs2 n) := by
  have q := List.all_eq_true.mp all_go n (List.mem_range.mpr (by omega))
  rw [Bool.and_eq_true] at q
  exact goes_of q.1
theorem goes3 {n : Nat} (h : n ≤ 12) : Goes n 3 (ixs3 n) := by
  have q := List.all_eq_true.mp all_go n (List.mem_range.mpr (by omega))
  rw [Bool.and_eq_true] at q
  exact goes_of q.2
/-! ### as a walk of the layer -/
/-- the values at some places -/
def atIx (xs : List V) (ix : List Nat) : List V := ix.map fun i => xs.getD i .non
/-- a new tuple a turn -/
def Itx (xs : List V) (L : List (List Nat)) : It :=
  ⟨fun t _ => t < L.length, fun t H v H' => ∃ T ix, v = .ref T ∧ H T = none ∧ L[t]? = some ix ∧ H' = upd H T (.tup (atIx xs ix)), fun t _ => L.length ≤ t⟩
theorem walk_comb {xs : List V} {L : List (List Nat)} : Walk (Itx xs L) L.length (fun _ => True) (fun t H v H' => ∃ T ix, v = .ref T ∧ H T = none ∧ L[t]? = some ix ∧ H' = upd H T (.tup (atIx xs ix))) :=
  ⟨fun _ _ hi _ => hi, fun _ _ => Nat.le_refl _, fun _ _ _ _ _ _ y => y⟩
def Stands (it pool : Addr) (its : List Value) (n : Nat) (L : List (List Nat)) (t : Nat) (h : Heap) : Prop :=
  (∃ st res ix, h.get? it = some (combO pool st res ix) ∧ Ahead n st ix (L[t]?)) ∧ h.get? pool = some { cls := .type "tuple", data := .seq its.toArray }
theorem vals_atIx {xs : List V} {its : List Value} (r : Vals xs its) : ∀ {ix : List Nat}, (∀ i ∈ ix, i < xs.length) → Vals (atIx xs ix) (ix.map fun i => its.toArray.getD i .none)
  | [], _ => .nil
  | i :: ix, h => by
    have lt := h i List.mem_cons_self
    obtain ⟨u, hu, ru⟩ := r.get (i := i) (x := xs[i]) (List.getElem?_eq_getElem lt)
    have e1 : xs.getD i .non = xs[i] := by simp [lt]
    have e2 : its.toArray.getD i .none = u := by
      rw [Array.getD_eq_getD_getElem?]
      have e3 : its.toArray[i]? = some u := by simpa using hu
      rw [e3]
      rfl
    refine .cons ?_ (vals_atIx r fun j hj => h j (List.mem_cons_of_mem _ hj))
    show RelV (xs.getD i .non) (its.toArray.getD i .none)
    rw [e1, e2]
    exact ru
theorem turn_comb {P : Program} {w : World} {K : PySem.W.Frag} {tg : Expr} {it pool : Addr} {xs : List V} {its : List Value} {r : Nat} {L : List (List Nat)} (rv : Vals xs its) (ne : pool ≠ it) (G : Goes xs.length r L) (hr : r ≤ 100) :
    Turn P w K tg (Itx xs L) [it, pool] it (Stands it pool its xs.length L) where
  mem := by simp
  obj := fun t h st c hc => by
    obtain ⟨⟨s, res, ix, hi, _⟩, hp⟩ := st
    have e' : c = it ∨ c = pool := by simpa using hc
    rcases e' with q | q
    · rw [q]
      exact ⟨_, hi, fun v z => nomatch z⟩
    · rw [q]
      exact ⟨_, hp, fun v z => nomatch z⟩
  keep := fun t h h' st k => by
    obtain ⟨⟨s, res, ix, hi, a⟩, hp⟩ := st
    exact ⟨⟨s, res, ix, k it (by simp) _ hi, a⟩, k pool (by simp) _ hp⟩
  item := by
    intro X hP hw hK hc t pins s σ H E I hf st hg
    subst hP hw hK
    obtain ⟨⟨st0, res, ix, hi, a⟩, hp⟩ := st
    have lt : t < L.length := hg
    have ej : L[t]? = some L[t] := List.getElem?_eq_getElem lt
    rw [ej] at a
    obtain ⟨len, bd⟩ := G.len _ (List.getElem_mem lt)
    generalize L[t] = jx at ej a len bd
    have hz : its.toArray.size = xs.length := by rw [List.size_toArray, ← rv.length]
    refine comb_item hi ⟨_, _, hp, rfl⟩ ne hz a (by omega) fun h' g1 g2 k z => ⟨_, rfl, ?_⟩
    refine go_of (s := { s with heap := h' }) g2 rfl rfl (by decide) ?_
    have new : ObjOk X.prog X.w (upd H s.heap.objs.size (.tup (atIx xs jx))) h' s.heap.objs.size (.tup (atIx xs jx)) := by
      refine ⟨?_, _, vals_atIx rv bd, ⟨_, g1, rfl, _, rfl⟩⟩
      show (atIx xs jx).length ≤ sizeLine
      unfold atIx
      rw [List.length_map, sizeLine_eq]
      omega
    have I1 : Inv X pins σ (upd H s.heap.objs.size (.tup (atIx xs jx))) { s with heap := h' } :=
      I.turnedNew (t' := s.toks) (ch := [it, pool]) (fun c o hb q => k c o (fun q' => hb (by simp [q'])) q) hf (Nat.le_refl _) new
    refine ⟨.ref s.heap.objs.size, _, I1, rfl, ⟨_, jx, rfl, I.hok.fresh (Nat.le_refl _), ej, rfl⟩, ⟨⟨1, _, jx, g2, .inr (.inl ⟨rfl, ?_⟩)⟩, k _ _ ne hp⟩, fun c hcm => ?_⟩
    · exact (G.next t jx ej).symm
    · have hcn := (hf c hcm).1
      have : c ≠ s.heap.objs.size := fun q => by
        have e' : c = it ∨ c = pool := by simpa using hcm
        rcases e' with y | y
        · rw [← y, q] at hi
          exact absurd (Heap.lt_size hi) (Nat.lt_irrefl _)
        · rw [← y, q] at hp
          exact absurd (Heap.lt_size hp) (Nat.lt_irrefl _)
      rw [upd_ne this]
      exact hcn
  done := by
    intro X hP hw hK hc t pins s σ H E I hf st hg
    subst hP hw hK
    obtain ⟨⟨st0, res, ix, hi, a⟩, hp⟩ := st
    have ge : L.length ≤ t := hg
    rw [List.getElem?_eq_none ge] at a
    have hz : its.toArray.size = xs.length := by rw [List.size_toArray, ← rv.length]
    refine comb_end (I.ok.hd hc) hi ⟨_, _, hp, rfl⟩ hz a fun h' k => ⟨rfl, ?_⟩
    obtain ⟨f0, f1, f2, f3, f4, f5⟩ := hf it (by simp)
    exact I.turned (t' := s.toks) k f0 f1 f3 f4 f5
  self := fun A t s Q E st h => by
    obtain ⟨⟨s0, res, ix, hi, _⟩, _⟩ := st
    exact comb_self hi h
end Kc
end
section
set_option maxRecDepth 100000
set_option maxHeartbeats 4000000
namespace Kc
open PySem PySem.Spec PyProof.Rows L2
/-- the tuples told so far -/
def Told (xs : List V) (L : List (List Nat)) (H0 H : Hp) (Ts : List Addr) : Prop := (∀ T ∈ Ts, H0 T = none) ∧ Ts.Nodup ∧ ∀ (j : Nat) T, Ts[j]? = some T → ∃ ix, L[j]? = some ix ∧ H T = some (.tup (atIx xs ix))
section
variable {X : Cx} {pins : List (Addr × Obj)} {σ : L2.St} {A1 : Around}
theorem comb_loop {it pool q : Addr} {xs : List V} {its : List Value} {r : Nat} {L : List (List Nat)} {H0 : Hp} {Rs : Result → Shared → Prop} (hh : A1.handled = none) (rv : Vals xs its) (ne : pool ≠ it) (nq : q ≠ it) (np : q ≠ pool) (G : Goes xs.length r L) (hr : r ≤ 100) (hL : L.length ≤ 4000) (n0 : H0 q = none)
    (done : ∀ Ts H s, Inv X pins σ H s → H q = some (.lst (Ts.map V.ref)) → Ts.length = L.length → Told xs L H0 H Ts → (∀ b o, H0 b = some o → H b = some o) → Rs (.ok (.ret .none)) s) :
    ∀ (m t : Nat) (Ts : List Addr) (H : Hp) (s : Shared), L.length - t = m → t ≤ L.length → Ts.length = t → Inv X pins σ H s → H q = some (.lst (Ts.map V.ref)) → Told xs L H0 H Ts → (∀ b o, H0 b = some o → H b = some o) →
      (∀ b ∈ [it, pool], FpOk X pins H b) → Stands it pool its xs.length L t s.heap → codeAny (model X.prog X.w) A1 (.builtin "list.extend.loop" ⟨[.ref q, .ref it, .none], []⟩) Rs s := by
  intro m
  induction m with
  | zero =>
    intro t Ts H s em ht el I hq td kp hf st
    obtain ⟨⟨st0, res, ix, hi, a⟩, hp⟩ := st
    rw [List.getElem?_eq_none (by omega)] at a
    have hz : its.toArray.size = xs.length := by rw [List.size_toArray, ← rv.length]
    refine codeAny_builtin PySem.F.entry_extend_loop ?_
    rw [Around.under_plainId PySem.F.plain_extend_loop _]
    show wpAny _ A1.in1 (pyNext (.ref it) >>= _) _ _ s
    refine wpAny_bind (comb_end (by simp [hh]) hi ⟨_, _, hp, rfl⟩ hz a fun h' k => ?_)
    obtain ⟨f0, f1, f2, f3, f4, f5⟩ := hf it (by simp)
    exact wpAny_pure (done Ts H _ (I.turned (t' := s.toks) k f0 f1 f3 f4 f5) hq (by omega) td kp)
  | succ m ih =>
    intro t Ts H s em ht el I hq td kp hf st
    obtain ⟨⟨st0, res, ix, hi, a⟩, hp⟩ := st
    have lt : t < L.length := by omega
    have ej : L[t]? = some L[t] := List.getElem?_eq_getElem lt
    rw [ej] at a
    obtain ⟨len, bd⟩ := G.len _ (List.getElem_mem lt)
    generalize L[t] = jx at ej a len bd
    have hz : its.toArray.size = xs.length := by rw [List.size_toArray, ← rv.length]
    refine codeAny_builtin PySem.F.entry_extend_loop ?_
    rw [Around.under_plainId PySem.F.plain_extend_loop _]
    show wpAny _ A1.in1 (pyNext (.ref it) >>= _) _ _ s
    refine wpAny_bind (comb_item hi ⟨_, _, hp, rfl⟩ ne hz a (by omega) fun h' g1 g2 k z => ?_)
    have itl : it < s.heap.objs.size := Heap.lt_size hi
    have pol : pool < s.heap.objs.size := Heap.lt_size hp
    have new : ObjOk X.prog X.w (upd H s.heap.objs.size (.tup (atIx xs jx))) h' s.heap.objs.size (.tup (atIx xs jx)) := by
      refine ⟨?_, _, vals_atIx rv bd, ⟨_, g1, rfl, _, rfl⟩⟩
      show (atIx xs jx).length ≤ sizeLine
      unfold atIx
      rw [List.length_map, sizeLine_eq]
      omega
    have fr : H s.heap.objs.size = none := I.hok.fresh (Nat.le_refl _)
    have I1 : Inv X pins σ (upd H s.heap.objs.size (.tup (atIx xs jx))) { s with heap := h' } :=
      I.turnedNew (t' := s.toks) (ch := [it, pool]) (fun c o hb q => k c o (fun q' => hb (by simp [q'])) q) hf (Nat.le_refl _) new
    have qn : q ≠ s.heap.objs.size := ne_of_none hq fr
    have hq1 : upd H s.heap.objs.size (.tup (atIx xs jx)) q = some (.lst (Ts.map V.ref)) := by rw [upd_ne qn]; exact hq
    show wpAny _ A1.in1 (updateSeq q (·.push (.ref s.heap.objs.size)) >>= _) _ _ _
    obtain ⟨zz, its1, kk, r2, hl, e⟩ := I1.lstM hq1
    have lts : its1.length = Ts.length := by rw [← r2.length, List.length_map]
    refine wpAny_bind (wpAny_updateSeq e rfl (wpAny_pure ⟨plainId_quiet PySem.F.plain_extend_loop _, ?_⟩) (by rw [List.size_toArray, sizeLine_eq]; omega) (by show (its1.toArray.push _).size ≤ sizeLine + 1; rw [Array.size_push, List.size_toArray, sizeLine_eq]; omega))
    have I2 := I1.lset (f := (·.push (Value.ref s.heap.objs.size))) (its' := its1 ++ [Value.ref s.heap.objs.size]) (ys := (Ts ++ [s.heap.objs.size]).map V.ref) (t' := s.toks) hq1 e (by simp) (by
      rw [List.map_append]
      exact r2.append (.cons rfl .nil)) (by rw [List.length_map, List.length_append, List.length_singleton, sizeLine_eq]; omega)
    refine ih (t + 1) (Ts ++ [s.heap.objs.size]) _ _ (by omega) lt (by rw [List.length_append, List.length_singleton]; omega) I2 upd_same ?_ ?_ ?_ ?_
    · have n0' : H0 s.heap.objs.size = none := by
        cases e0 : H0 s.heap.objs.size with
        | none => rfl
        | some o =>
          rw [kp _ _ e0] at fr
          cases fr
      obtain ⟨t1, t2, t3⟩ := td
      have nin : s.heap.objs.size ∉ Ts := fun hm => by
        obtain ⟨j, hj, ej'⟩ := List.getElem_of_mem hm
        obtain ⟨_, _, h3⟩ := t3 j _ (by rw [List.getElem?_eq_getElem hj, ej'])
        rw [fr] at h3
        cases h3
      refine ⟨fun T hT => ?_, ?_, fun j T hT => ?_⟩
      · rcases List.mem_append.mp hT with hT | hT
        · exact t1 T hT
        · rw [List.mem_singleton.mp hT]
          exact n0'
      · rw [List.nodup_append]
        exact ⟨t2, by simp, fun x hx y hy => by
          rw [List.mem_singleton.mp hy]
          rintro rfl
          exact nin hx⟩
      · by_cases c : j < Ts.length
        · rw [List.getElem?_append_left c] at hT
          obtain ⟨ix', a1, a2⟩ := t3 j T hT
          have Tq : T ≠ q := fun z => by
            rw [z, hq] at a2
            cases a2
          exact ⟨ix', a1, by rw [upd_ne Tq, upd_ne (ne_of_none a2 fr)]; exact a2⟩
        · rw [List.getElem?_append_right (by omega)] at hT
          have ej' : j = t := by
            have := (List.getElem?_eq_some_iff.mp hT).1
            rw [List.length_singleton] at this
            omega
          subst ej'
          rw [show Ts.length = j by omega] at hT
          have eT : T = s.heap.objs.size := by simpa using hT.symm
          rw [eT]
          exact ⟨jx, ej, by rw [upd_ne (Ne.symm qn), upd_same]⟩
    · intro b o e0
      have bq : b ≠ q := fun z => by
        rw [z, n0] at e0
        cases e0
      rw [upd_ne bq, upd_ne (ne_of_none (kp b o e0) fr)]
      exact kp b o e0
    · intro b hb
      obtain ⟨f0, f1⟩ := hf b hb
      have b1 : b ≠ q := fun z => by
        have e' : b = it ∨ b = pool := by simpa using hb
        rcases e' with y | y
        · exact nq (z.symm.trans y)
        · exact np (z.symm.trans y)
      have b2 : b ≠ s.heap.objs.size := fun z => by
        have e' : b = it ∨ b = pool := by simpa using hb
        rcases e' with y | y
        · exact Nat.ne_of_lt itl (y.symm.trans z)
        · exact Nat.ne_of_lt pol (y.symm.trans z)
      exact ⟨by rw [upd_ne b1, upd_ne b2]; exact f0, f1⟩
    · refine ⟨⟨1, .ref s.heap.objs.size, jx, ?_, .inr (.inl ⟨rfl, (G.next t jx ej).symm⟩)⟩, ?_⟩
      · exact (Heap.get?_update_other _ _ nq).trans g2
      · exact (Heap.get?_update_other _ _ np).trans (k _ _ ne hp)
end
end Kc
end
section
set_option maxRecDepth 100000
set_option maxHeartbeats 4000000
namespace Kc
open PySem PySem.Spec PyProof.Rows L2
section
variable {X : Cx} {pins : List (Addr × Obj)} {σ : L2.St} {H : Hp} {s : Shared}
theorem hint_c {M : Model} {A : Around} {E : Value → Shared → Prop} {it : Addr} {Q : Bool → Shared → Prop} (hT : s.TypeIs (.ref it) TC) (h : Q true s) : wpAny M A (Builtin.List.listLengthHint (.ref it)) Q E s := by
  unfold Builtin.List.listLengthHint
  refine wpAny_bind (wpAny_specialOf hT noLen_c ?_)
  refine PySem.W.KFB.if_not rfl ?_
  refine PySem.W.KFB.if_not rfl ?_
  refine wpAny_bind (wpAny_specialOf hT noHint_c ?_)
  exact wpAny_pure h
theorem list_comb {it pool : Addr} {xs : List V} {its : List Value} {r : Nat} {L : List (List Nat)} {Q : VK} (hc : X.calm = true) (I : Inv X pins σ H s) (rv : Vals xs its) (ne : pool ≠ it) (G : Goes xs.length r L) (hr : r ≤ 100) (hL : L.length ≤ 4000)
    (hf : ∀ b ∈ [it, pool], FpOk X pins H b) (st : Stands it pool its xs.length L 0 s.heap)
    (done : ∀ (H2 : Hp) (D : Addr) (Ts : List Addr), Same H H2 → H D = none → H2 D = some (.lst (Ts.map V.ref)) → Told xs L H H2 Ts → Ts.length = L.length → Q (.ref D) H2) :
    wpAny (model X.prog X.w) X.A (call (.type "list") [.ref it]) (EP X pins σ Q) X.xe s := by
  refine callType_codes (Q₁ := fun r1 s1 => r1 = .ref s.heap.objs.size ∧ s1 = { s with heap := s.heap.push { cls := .type "list", data := .seq #[] } }) PySem.F.called_list (PySem.F.typeCall_list_1 _) PySem.F.entry_list_init
    (code_list_new _ ⟨rfl, rfl⟩) fun r1 s1 h1 => ?_
  obtain ⟨rfl, rfl⟩ := h1
  have hS : (s.heap.push { cls := .type "list", data := .seq #[] }).get? s.heap.objs.size = some { cls := .type "list", data := .seq #[] } := Heap.get?_push_size _ rfl
  refine ⟨⟨_, hS, rfl⟩, PySem.F.args_list_init_2 _ _, ?_⟩
  have fr : H s.heap.objs.size = none := I.hok.fresh (Nat.le_refl _)
  have I1 : Inv X pins σ (upd H s.heap.objs.size (.lst [])) { s with heap := s.heap.push { cls := .type "list", data := .seq #[] } } := I.lnew (its := []) (t' := s.toks) .nil (Nat.zero_le _)
  obtain ⟨⟨st0, res, ix, hi, a⟩, hp⟩ := st
  have itl : it < s.heap.objs.size := Heap.lt_size hi
  have pol : pool < s.heap.objs.size := Heap.lt_size hp
  have nq : s.heap.objs.size ≠ it := Nat.ne_of_gt itl
  have np : s.heap.objs.size ≠ pool := Nat.ne_of_gt pol
  show wpAny _ _ (do let old ← Builtin.List.listItems (.ref s.heap.objs.size); Builtin.List.listUpdate (.ref s.heap.objs.size) (fun _ => #[]); letGo old.toList.reverse; Builtin.List.listExtendWith (.ref s.heap.objs.size) (.ref it) .none) _ _ _
  refine wpAny_bind ?_
  unfold Builtin.List.listItems
  refine wpAny_bind (wpAny_seqItems hS rfl (wpAny_pure ?_))
  show wpAny _ _ (updateSeq s.heap.objs.size (fun _ => #[]) >>= fun _ => letGo (#[] : Array Value).toList.reverse >>= fun _ => Builtin.List.listExtendWith (.ref s.heap.objs.size) (.ref it) .none) _ _ _
  refine wpAny_bind (wpAny_updateSeq hS rfl ?_)
  have I2 := I1.lset (f := fun _ => #[]) (its := []) (its' := []) (ys := []) (t' := s.toks) upd_same hS rfl .nil (Nat.zero_le _)
  rw [upd_upd] at I2
  refine wpAny_bind (wpAny_letGo ?_)
  have g1 : ((s.heap.push { cls := .type "list", data := .seq #[] }).update s.heap.objs.size (Obj.mapSeq fun _ => (#[] : Array Value))).get? it = some (combO pool st0 res ix) := (Heap.get?_update_other _ _ nq).trans (Heap.get?_push_of_some _ hi)
  have g2 : ((s.heap.push { cls := .type "list", data := .seq #[] }).update s.heap.objs.size (Obj.mapSeq fun _ => (#[] : Array Value))).get? pool = some { cls := .type "tuple", data := .seq its.toArray } := (Heap.get?_update_other _ _ np).trans (Heap.get?_push_of_some _ hp)
  generalize (s.heap.push { cls := .type "list", data := .seq #[] }).update s.heap.objs.size (Obj.mapSeq fun _ => (#[] : Array Value)) = h2 at I2 g1 g2 ⊢
  have hT : Shared.TypeIs { s with heap := h2, toks := s.toks } (.ref it) TC := ⟨_, g1, rfl⟩
  unfold Builtin.List.listExtendWith
  refine wpAny_bind (wpAny_typeOf hT ?_)
  have h1 : Builtin.List.listSameRef (.ref s.heap.objs.size) (.ref it) = false := by simp [Builtin.List.listSameRef, nq]
  have h3 : (Value.type TC == Value.type "list") = false := by decide
  have h4 : (Value.type TC == Value.type "tuple") = false := by decide
  simp only [h1, h3, h4, Bool.or_false, Bool.false_eq_true, if_false]
  refine wpAny_bind (comb_self g1 ?_)
  refine wpAny_bind (wpAny_holding (hint_c hT ?_))
  have fp2 : ∀ b ∈ [it, pool], FpOk X pins (upd H s.heap.objs.size (.lst [])) b := fun b hb => by
    obtain ⟨f0, f1⟩ := hf b hb
    have b1 : b ≠ s.heap.objs.size := fun z => by
      have e' : b = it ∨ b = pool := by simpa using hb
      rcases e' with y | y
      · exact nq (z.symm.trans y)
      · exact np (z.symm.trans y)
    exact ⟨by rw [upd_ne b1]; exact f0, f1⟩
  have kp0 : ∀ b o, H b = some o → upd H s.heap.objs.size (.lst []) b = some o := fun b o e => by
    rw [upd_ne (ne_of_none e fr)]
    exact e
  have fin : ∀ {h3 : Heap}, Inv X pins σ (upd H s.heap.objs.size (.lst [])) { s with heap := h3, toks := s.toks } → Stands it pool its xs.length L 0 h3 →
      codeAny (model X.prog X.w) X.A.in1 (.builtin "list.extend.loop" ⟨[.ref s.heap.objs.size, .ref it, .none], []⟩) (wants (fun r s₂ => r = .none ∧ EP X pins σ Q (.ref s.heap.objs.size) s₂) X.xe) { s with heap := h3, toks := s.toks } := fun {h3} I3 st3 => by
    refine comb_loop (q := s.heap.objs.size) (H0 := H) (by simp [I.ok.hd hc]) rv ne nq np G hr hL fr (fun Ts H2 s2 J hq lt td kp => ?_) (L.length - 0) 0 [] _ _ rfl (Nat.zero_le _) rfl I3 upd_same ⟨(fun T hT => nomatch hT), List.nodup_nil, (fun j T hT => by simp at hT)⟩ kp0 fp2 st3
    exact ⟨rfl, .ref s.heap.objs.size, H2, J, rfl, done H2 _ Ts kp fr hq td lt⟩
  refine wpAny_ite_split (fun _ => ?_) (fun z => absurd rfl z)
  refine wpAny_bind (wpAny_rule ?_)
  refine wpAny_bind ?_
  show wpAny _ _ (updateSeq s.heap.objs.size (·.push .none) >>= fun _ => updateSeq s.heap.objs.size (·.pop)) _ _ _
  obtain ⟨z, its3, k, r3, hl3, e3⟩ := I2.lstM upd_same
  cases r3
  refine wpAny_bind (wpAny_updateSeq e3 rfl ?_)
  have I3 := I2.lset (f := (·.push Value.none)) (its' := [Value.none]) (ys := [.non]) (t' := s.toks) upd_same e3 (by simp) (.cons rfl .nil) (by rw [List.length_singleton, sizeLine_eq]; decide)
  obtain ⟨z4, its4, k4, r4, hl4, e4⟩ := I3.lstM upd_same
  obtain ⟨u4, rfl, ru4⟩ := r4.one
  refine wpAny_updateSeq e4 rfl ?_ (by show 1 ≤ sizeLine; rw [sizeLine_eq]; decide) (by show 0 ≤ sizeLine + 1; exact Nat.zero_le _)
  have I4 := I3.lset (f := (·.pop)) (its := [u4]) (its' := []) (ys := []) (t' := s.toks) upd_same e4 (by rfl) .nil (Nat.zero_le _)
  rw [upd_upd, upd_upd] at I4
  refine wpAny_pure ⟨plainId_quiet PySem.F.plain_extend_loop _, fin I4 ⟨⟨st0, res, ix, ?_, a⟩, ?_⟩⟩
  · exact (Heap.get?_update_other _ _ nq).trans ((Heap.get?_update_other _ _ nq).trans g1)
  · exact (Heap.get?_update_other _ _ np).trans ((Heap.get?_update_other _ _ np).trans g2)
end
end Kc
end
section
set_option maxRecDepth 100000
set_option maxHeartbeats 4000000
namespace Kc
open PySem PySem.Spec PyProof.Rows L2
theorem goesR {r n : Nat} (hr : r = 2 ∨ r = 3) (h : n ≤ 12) : Goes n r (ixsR r n) := by
  rcases hr with rfl | rfl
  · exact goes2 h
  · exact goes3 h
theorem all_len : ((List.range 13).all fun n => decide ((ixs2 n).length ≤ 4000) && decide ((ixs3 n).length ≤ 4000)) = true := by decide +kernel
theorem lenR {r n : Nat} (hr : r = 2 ∨ r = 3) (h : n ≤ 12) : (ixsR r n).length ≤ 4000 := by
  have q := List.all_eq_true.mp all_len n (List.mem_range.mpr (by omega))
  rw [Bool.and_eq_true] at q
  rcases hr with rfl | rfl
  · exact of_decide_eq_true q.1
  · exact of_decide_eq_true q.2
/-- what combinations(xs, r) asks -/
def rComb (K : PySem.W.Frag) (vs : List V) (H : Hp) (F : List V → Nat → Prop) : Prop := ∃ (a : Addr) (xs : List V) (r : Nat), vs = [.ref a, .int r] ∧ SqL K H a xs ∧ xs.length ≤ 12 ∧ (r = 2 ∨ r = 3) ∧ F xs r
def iComb (K : PySem.W.Frag) (ta : TA) : TI := fun σ H R => ta σ H fun vs H1 => rComb K vs H1 fun xs r => R (Itx xs (ixsR r xs.length)) H1
def tListComb (K : PySem.W.Frag) (ta : TA) : TE := fun σ H Q => ta σ H fun vs H1 => rComb K vs H1 fun xs r => ∀ (H2 : Hp) (D : Addr) (Ts : List Addr), Same H1 H2 → H1 D = none → H2 D = some (.lst (Ts.map V.ref)) →
  Told xs (ixsR r xs.length) H1 H2 Ts → Ts.length = (ixsR r xs.length).length → Q (.ref D) H2
section
variable {X : Cx} {pins : List (Addr × Obj)} {σ : L2.St} {H : Hp} {s : Shared}
/-- the iterator is made -/
theorem made_comb {vs : List V} {us : List Value} {F : List V → Nat → Prop} {Q : Value → Shared → Prop} (I : Inv X pins σ H s) (rv : Vals vs us) (h : rComb X.K vs H F)
    (q : ∀ (it pool : Addr) (xs : List V) (its : List Value) (r : Nat) (h' : Heap), F xs r → xs.length ≤ 12 → (r = 2 ∨ r = 3) → Vals xs its → pool ≠ it → Inv X pins σ H { s with heap := h' } → (∀ b ∈ [it, pool], FpOk X pins H b) → Stands it pool its xs.length (ixsR r xs.length) 0 h' → Q (.ref it) { s with heap := h' }) :
    wpAny (model X.prog X.w) X.A (call (.type TC) us) Q X.xe s := by
  obtain ⟨a, xs, r, rfl, hs, few, hr, f⟩ := h
  obtain ⟨u1, u2, rfl, r1, r2⟩ := vals2 rv
  obtain rfl : u1 = Value.ref a := r1
  obtain ⟨t, rfl⟩ := r2
  obtain ⟨its, rx, pl, _⟩ := I.list hs
  have len := rx.length
  refine call_comb pl.isList (by omega) (by rcases hr with e | e <;> omega) fun h' g1 g2 k => ?_
  have G := goesR (n := xs.length) hr few
  have I2 : Inv X pins σ H { s with heap := h' } := I.kept (t' := s.toks) k
  refine q _ _ xs its r h' f few hr rx (Nat.ne_of_lt (Nat.lt_succ_self _)) I2 (fun b hb => ?_) ⟨⟨_, _, _, g1, ?_⟩, g2⟩
  · have e' : b = s.heap.objs.size + 2 ∨ b = s.heap.objs.size + 1 := by simpa using hb
    have le : s.heap.objs.size ≤ b := by
      rcases e' with z | z
      · rw [z]
        exact Nat.le_add_right _ _
      · rw [z]
        exact Nat.le_add_right _ _
    exact I.fpOk le (I.hok.fresh le)
  · by_cases c : r > its.length
    · refine .inr (.inr ⟨by simp [c], ?_⟩)
      rw [G.start, if_pos (by omega)]
    · refine .inl ⟨by simp [c], ?_⟩
      rw [G.start, if_neg (by omega)]
/-- for .. in combinations(xs, r) -/
theorem pi_comb {tg e e2 : Expr} {ta : TA} {p pos : Pos} (hg : Gl X "combinations") (hm : X.mg "combinations" = some (.type TC)) (ha : PA X [e, e2] ta) (hs : starEach [e, e2] X.env = (false, eval e X.env) :: starEach [e2] X.env := by rfl)
    (hpl : (backTo pos (starEach [e2] X.env)).any (·.1) = false := by rfl) : PI X tg (.Call (.Name "combinations" p) [e, e2] [] pos) (iComb X.K ta) := by
  refine ⟨fun pins s σ H R I h => ?_⟩
  refine Call_ (ld_glob I hg hm (PyProof.Rows.callWith_type1 (thn (ha.run pos pins s σ H _ I h) fun us s1 ⟨vs, H1, I1, r1, q1⟩ => ?_) hs hpl))
  refine made_comb I1 r1 q1 fun it pool xs its r h' f few hr rx ne I2 hf st => ?_
  obtain ⟨⟨st0, res, ix, hi, a⟩, hp⟩ := id st
  exact comb_self hi ⟨it, [it, pool], _, _, H1, rfl, I2, turn_comb rx ne (goesR hr few) (by rcases hr with e | e <;> omega), st, hf, f⟩
/-- list(combinations(xs, r)) -/
theorem pe_listComb {e e2 : Expr} {ta : TA} {p p2 pos pos2 : Pos} (hc : X.calm = true) (hg : Gl X "list") (hm : X.mg "list" = none) (hg2 : Gl X "combinations") (hm2 : X.mg "combinations" = some (.type TC)) (ha : PA X [e, e2] ta)
    (hs : starEach [e, e2] X.env = (false, eval e X.env) :: starEach [e2] X.env := by rfl) (hpl : (backTo pos2 (starEach [e2] X.env)).any (·.1) = false := by rfl) :
    PE X (.Call (.Name "list" p) [.Call (.Name "combinations" p2) [e, e2] [] pos2] [] pos) (tListComb X.K ta) := by
  refine ⟨fun pins s σ H Q I h => ?_⟩
  refine Call_ (ld_blt I hg hm PyProof.Rows.boot_list ?_)
  refine PyProof.Rows.callWith_type1 (PyProof.Rows.args_cons ?_ rfl) rfl rfl
  refine Call_ (ld_glob I hg2 hm2 (PyProof.Rows.callWith_type1 (thn (ha.run pos2 pins s σ H _ I h) fun us s1 ⟨vs, H1, I1, r1, q1⟩ => ?_) hs hpl))
  refine made_comb I1 r1 q1 fun it pool xs its r h' f few hr rx ne I2 hf st => PyProof.Rows.args_nil ?_
  exact list_comb hc I2 rx ne (goesR hr few) (by rcases hr with e | e <;> omega) (lenR hr few) hf st fun H2 D Ts a b c d e => f H2 D Ts a b c d e
end
end Kc
end
section
set_option maxRecDepth 100000
set_option maxHeartbeats 4000000
namespace Wd
open PySem L2
theorem ite_f {c : Bool} {A B : Prop} (hc : c = false) (h : B) : if c = true then A else B := by
  subst hc
  exact iteF h
theorem ite_t {c : Bool} {A B : Prop} (hc : c = true) (h : A) : if c = true then A else B := by
  subst hc
  exact iteT h
/-- isinstance of a thing of a built-in type -/
theorem isW_lt {x : Str} (h : IsW x) (i : Nat) (c : Nat) (hc : x.cps[i]? = some c) : 97 ≤ c ∧ c ≤ 122 := h.2.2 c (by
  rw [← Array.getElem?_toList] at hc
  exact List.mem_of_getElem? hc)
theorem le_sign {a b : Nat} (h : a ≤ b) : (!decide ((⟨#[b]⟩ : Str).cps.toList < (⟨#[a]⟩ : Str).cps.toList)) = true := by
  rw [Bool.not_eq_true', decide_eq_false_iff_not]
  show ¬ ([b] < [a])
  intro z
  rcases List.cons_lt_cons_iff.mp z with q | q
  · omega
  · exact absurd q.2 (by simp)
def spIsWord : Sp := fun vs H Q _ => ∃ x : Str, vs = [.str x] ∧ IsW x ∧ ∀ H', Same H H' → Q (.bl true) H'
/-- a list of texts, none twice; or of pairs -/
def spUnlike (K : PySem.W.Frag) : Sp := fun vs H Q _ => ∃ (l : Addr), vs = [.ref l] ∧ ((∃ xs : List Str, SqL K H l (xs.map V.str) ∧ xs.length < 4000 ∧ xs.Nodup) ∨
  ∃ (Ts : List Addr) (ps : List Pr), SqL K H l (Ts.map V.ref) ∧ Tups H Ts (ps.map tv) ∧ ps.length < 64 ∧ ps.Nodup) ∧ Q (.bl true) H
section
variable {P : Program} {w : World} {K : PySem.W.Frag} {mg : Str → Option Value} {base : Heap}
theorem ok_is_word {f : Addr} {fd : FuncData} (F : Fun K "is_word" "is_word" sp_is_word f fd) (T : Bt mg) (mL : ∃ t, mg "LONGEST_WORD" = some (.int 8 t)) : FnOk P w K mg base CX0 1 f fd ["value"] spIsWord := by
  obtain ⟨t8, mL⟩ := mL
  refine F.ok cp_is_word (fun vs H Q E h => ?_) (fun cdv A outer s H vs Q E hr h => ?_)
  · obtain ⟨_, rfl, _⟩ := h
    rfl
  · obtain ⟨x, rfl, hx, k⟩ := h
    refine ⟨_, pss_cons (ps_if (PW.pt (pw_or (pt_not (pt_val (pe_callB call_isi (by rfl) T.isi (by decide +kernel) (pa_cons (pv 0) (pa_cons (pe_bltn (v := .ty "str") (by rfl) T.str (by decide +kernel) rfl) pa_nil)))))
        (pw_or1 (pt_cmpR op_gt (pe_callB call_len_str (by rfl) T.len PySem.boot_len (pa_cons (pv 0) pa_nil)) (pe_glob (v := .int 8) rfl mL ⟨_, rfl⟩) (nomark _))))) (pss_one (ps_ret pe_bl)) pss_nil)
      (pss_one (ps_ret (pe_and (pe_cmpR op_gt (pe_callB call_len_str (by rfl) T.len PySem.boot_len (pa_cons (pv 0) pa_nil)) pe_int (nomark _))
        (pe_one (pe_callB (cr_all rfl) (by rfl) T.all (by decide +kernel) (pa_cons (pe_lc (own := [("letter", 1)]) (g := gName 1) (tt := tYes) rfl cp_is_word.nd (pi_str (pv 0))
          (blkOk_by (N := ["value", "letter"]) (sc := defScope sp_is_word) (by decide +kernel)) (fun _ _ _ _ _ => pg_name (i := 1) cp_is_word.nd rfl (Or.inl rfl)) (fun _ _ _ _ _ => pts_nil)
          (fun _ _ _ _ _ => pe_chain op_le_str op_le_str pe_str (pv 1) pe_str)) pa_nil)))))), ?_⟩
    have l8 : x.length ≤ 8 := hx.2.1
    have l1 : 1 ≤ x.length := hx.1
    refine ⟨_, rfl, _, _, _, _, _, rfl, .ty "str", .base (.str x), kit_ty (a := "str") (r := true) (by decide +kernel), _, rfl, ?_⟩
    refine iteF ?_
    refine ⟨_, rfl, _, rfl, by rw [sizeLine_eq]; omega, _, _, rfl, rfl, _, rfl, ?_⟩
    refine ite_f (decide_eq_false (by omega)) ?_
    refine ⟨_, rfl, _, rfl, by rw [sizeLine_eq]; omega, _, _, rfl, rfl, _, rfl, ?_⟩
    refine ite_t (decide_eq_true (by omega)) ?_
    refine ⟨_, rfl, _, rfl, fun D hD => ?_⟩
    refine lc_it walk_str (fun i H' => H' = upd H D (.lst ((List.replicate i true).map V.bl))) rfl (fun _ _ _ _ => True.intro) ?_ ?_
    · rintro i v H1 H' hi rfl ⟨rfl, c, hc, rfl⟩
      have hb := isW_lt hx i c hc
      refine ⟨rfl, _, rfl, _, _, rfl, rfl, _, rfl, ?_⟩
      refine ite_t (le_sign hb.1) ?_
      refine ⟨_, _, rfl, rfl, _, upd_same, by rw [List.length_map, List.length_replicate, sizeLine_eq]; have : x.cps.size = x.length := rfl; omega, ?_⟩
      rw [upd_upd]
      refine congrArg (fun l => upd H D (.lst l)) ?_
      rw [List.replicate_succ', List.map_append]
      refine congrArg (fun b => (List.replicate i true).map V.bl ++ [V.bl b]) ?_
      exact le_sign hb.2
    · rintro H' rfl
      refine ⟨D, _, rfl, SqL.of upd_same, ?_⟩
      have e : (List.replicate x.cps.size true).all id = true := by simp
      rw [e]
      exact k _ (same_new hD)
theorem ok_unlike {f : Addr} {fd : FuncData} (F : Fun K "are_unlike" "are_unlike" sp_are_unlike f fd) (T : Bt mg) : FnOk P w K mg base CX0 1 f fd ["things"] (spUnlike K) := by
  refine F.ok cp_are_unlike (fun vs H Q E h => ?_) (fun cdv A outer s H vs Q E hr h => ?_)
  · obtain ⟨_, rfl, _⟩ := h
    rfl
  · obtain ⟨l, rfl, hx, k⟩ := h
    refine ⟨_, pss_one (ps_ret (pe_cmpR op_eq (Kx.pe_lenU rfl hr.units (by rfl) T.len (by rfl) T.set (pv 0)) (pe_callB call_len_seq (by rfl) T.len PySem.boot_len (pa_cons (pv 0) pa_nil)) (nomark _))), ?_⟩
    rcases hx with ⟨xs, h1, h2, h3⟩ | ⟨Ts, ps, h1, h2, h3, h4⟩
    · refine ⟨_, rfl, _, .inl ⟨l, xs, rfl, h1, h2, rfl⟩, _, rfl, l, _, rfl, .inl h1, rfl, ?_⟩
      rw [List.length_map, (Kx.cnt_iff xs).mpr h3]
      rw [decide_eq_true rfl]
      exact k
    · have lT : Ts.length = ps.length := by rw [h2.1, List.length_map]
      have e1 : (Ts.zip ps).map (fun z => V.ref z.1) = Ts.map V.ref := by
        have : ((Ts.zip ps).map Prod.fst).map V.ref = Ts.map V.ref := by rw [List.map_fst_zip (by omega)]
        rw [← this, List.map_map]
        rfl
      refine ⟨_, rfl, _, .inr ⟨l, (Ts.zip ps).map fun z => (z.1, pk z.2), rfl, by rw [List.map_map]; exact e1 ▸ h1, fun z hz => ?_, by rw [List.length_map, List.length_zip]; omega, rfl⟩, _, rfl, l, _, rfl, .inl h1, rfl, ?_⟩
      · obtain ⟨y, hy, rfl⟩ := List.mem_map.mp hz
        obtain ⟨j, hj, e⟩ := List.getElem_of_mem hy
        have e' : (Ts.zip ps)[j]? = some y := by rw [List.getElem?_eq_getElem hj, e]
        obtain ⟨z1, z2⟩ := List.getElem?_zip_eq_some.mp e'
        exact SqT.of (h2.2 j y.1 (tv y.2) z1 (by rw [List.getElem?_map, z2]; rfl))
      · have e2 : ((Ts.zip ps).map fun z => (z.1, pk z.2)).map (fun q => q.2) = ps.map pk := by
          have : ((Ts.zip ps).map Prod.snd).map pk = ps.map pk := by rw [List.map_snd_zip (by omega)]
          rw [← this, List.map_map, List.map_map]
          rfl
        have e3 : ((Ts.zip ps).map fun z => (z.1, pk z.2)).length = (ps.map pk).length := by rw [List.length_map, List.length_map, List.length_zip]; omega
        have nd : (ps.map pk).Nodup := List.Pairwise.map pk (fun a b (h : a ≠ b) e => h (pk_inj e)) h4
        rw [e2, e3, (Kx.cnt_iff _).mpr nd, List.length_map, List.length_map, lT]
        rw [decide_eq_true rfl]
        exact k
end
end Wd
end
section
set_option maxRecDepth 100000
set_option maxHeartbeats 4000000
namespace Wd
open PySem L2
def trues (n : Nat) : List V := (List.replicate n true).map V.bl
theorem trues_len (n : Nat) : (trues n).length = n := by rw [trues, List.length_map, List.length_replicate]
theorem trues_next (n : Nat) : trues n ++ [.bl true] = trues (n + 1) := by
  rw [trues, trues, List.replicate_succ', List.map_append]
  rfl
theorem trues_all (n : Nat) : (List.replicate n true).all id = true := by simp
/-- pairs of these people -/
def Of (xs : List Str) (ps : List Pr) : Prop := ∀ p ∈ ps, p.1 ∈ xs ∧ p.2 ∈ xs ∧ Lt p.1 p.2
theorem Good.of {xs : List Str} {ps : List Pr} (g : Good xs ps) : Of xs ps := fun _ h => mem_prsS g.asc (g.sub.subset h)
def spIsPair : Sp := fun vs H Q _ => ∃ (t : Addr) (p : Pr), vs = [.ref t] ∧ H t = some (.tup [.str p.1, .str p.2]) ∧ IsW p.1 ∧ IsW p.2 ∧ Lt p.1 p.2 ∧ ∀ H', Same H H' → Q (.bl true) H'
def spArePpl : Sp := fun vs H Q _ => ∃ (l : Addr) (xs : List Str), vs = [.ref l] ∧ H l = some (.lst (xs.map V.str)) ∧ xs.Nodup ∧ (∀ x ∈ xs, IsW x) ∧ 1 ≤ xs.length ∧ xs.length ≤ 100 ∧ ∀ H', Same H H' → Q (.bl true) H'
def spPairOf : Sp := fun vs H Q _ => ∃ (l t : Addr) (xs : List Str) (p : Pr), vs = [.ref l, .ref t] ∧ H l = some (.lst (xs.map V.str)) ∧ H t = some (.tup [.str p.1, .str p.2]) ∧ p.1 ∈ xs ∧ p.2 ∈ xs ∧ Lt p.1 p.2 ∧ Q (.bl true) H
def spPairsOf : Sp := fun vs H Q _ => ∃ (l m : Addr) (xs : List Str) (ps : List Pr), vs = [.ref l, .ref m] ∧ H l = some (.lst (xs.map V.str)) ∧ PwAt H m ps ∧ ps.Nodup ∧ ps.length ≤ 60 ∧ Of xs ps ∧ ∀ H', Same H H' → Q (.bl true) H'
section
variable {P : Program} {w : World} {K : PySem.W.Frag} {mg : Str → Option Value} {base : Heap}
theorem ok_is_person {f : Addr} {fd : FuncData} (F : Fun K "is_person" "is_person" sp_is_person f fd) (CW : Has P w K mg base 1 "is_word" ["value"] spIsWord) : FnOk P w K mg base CX0 2 f fd ["value"] spIsWord := by
  obtain ⟨fW, fdW, GW, mW, kW, bW⟩ := CW
  refine F.ok cp_is_person (fun vs H Q E h => ?_) (fun cdv A outer s H vs Q E hr h => ?_)
  · obtain ⟨_, rfl, _⟩ := h
    rfl
  · obtain ⟨x, rfl, hx, k⟩ := h
    refine ⟨_, pss_one (ps_ret (pe_call GW hr rfl mW kW bW .nil pass0 (pa_cons (pv 0) pa_nil))), ?_⟩
    exact ⟨_, rfl, x, rfl, hx, k⟩
theorem ok_are_people {f : Addr} {fd : FuncData} (F : Fun K "are_people" "are_people" sp_are_people f fd) (T : Bt mg) (CW : Has P w K mg base 2 "is_person" ["value"] spIsWord) (CU : Has P w K mg base 1 "are_unlike" ["things"] (spUnlike K)) :
    FnOk P w K mg base CX0 3 f fd ["value"] spArePpl := by
  obtain ⟨fW, fdW, GW, mW, kW, bW⟩ := CW
  obtain ⟨fU, fdU, GU, mU, kU, bU⟩ := CU
  refine F.ok cp_are_people (fun vs H Q E h => ?_) (fun cdv A outer s H vs Q E hr h => ?_)
  · obtain ⟨_, _, rfl, _⟩ := h
    rfl
  · obtain ⟨l, xs, rfl, hl, nd, hw, l1, l2, k⟩ := h
    have hr1 : Room 1 _ := hr.mono (by decide)
    refine ⟨_, pss_cons (ps_if (PW.pt (pw_or (pt_not (pt_val (pe_callB call_isi (by rfl) T.isi (by decide +kernel) (pa_cons (pv 0) (pa_cons (pe_bltn (v := .ty "list") (by rfl) T.list (by decide +kernel) rfl) pa_nil)))))
        (pw_or1 (pt_cmpR op_eq (pe_callB call_len_seq (by rfl) T.len PySem.boot_len (pa_cons (pv 0) pa_nil)) pe_int (nomark _))))) (pss_one (ps_ret pe_bl)) pss_nil)
      (pss_one (ps_ret (pe_and (pe_callB (cr_all rfl) (by rfl) T.all (by decide +kernel) (pa_cons (pe_lc (own := [("person", 1)]) (g := gName 1) (tt := tYes) rfl cp_are_people.nd (pi_list (pv 0))
          (blkOk_by (N := ["value", "person"]) (sc := defScope sp_are_people) (by decide +kernel)) (fun _ _ _ _ _ => pg_name (i := 1) cp_are_people.nd rfl (Or.inl rfl)) (fun _ _ _ _ _ => pts_nil)
          (fun _ _ _ _ _ => pe_call GW hr rfl mW kW bW .nil pass0 (pa_cons (pv 1) pa_nil))) pa_nil))
        (pe_one (pe_call GU hr1 rfl mU kU bU .nil pass0 (pa_cons (pv 0) pa_nil)))))), ?_⟩
    refine ⟨_, rfl, _, _, _, _, _, rfl, .ty "list", .base (.lst hl), kit_ty (a := "list") (r := true) (by decide +kernel), _, rfl, ?_⟩
    refine iteF ?_
    refine ⟨_, rfl, l, _, rfl, .inl (SqL.of hl), rfl, _, rfl, ?_⟩
    refine ite_f (decide_eq_false (fun e => ?_)) ?_
    · have e := V.int.inj e
      rw [List.length_map] at e
      omega
    refine ⟨_, rfl, l, rfl, ⟨_, SqL.of hl⟩, fun D hD => ?_⟩
    refine lc_list (xs := xs.map V.str) (fun i H' => H' D = some (.lst (trues i)) ∧ Same H H') ⟨upd_same, same_new hD⟩ (fun i H' _ h => SqL.of (h.2 _ _ hl)) ?_ ?_
    · rintro i v H' hv ⟨hd, s1⟩
      rw [List.getElem?_map] at hv
      obtain ⟨x, hx, rfl⟩ := Option.map_eq_some_iff.mp hv
      have il := (List.getElem?_eq_some_iff.mp hx).1
      refine ⟨rfl, _, rfl, x, rfl, hw x (List.mem_of_getElem? hx), fun H2 s2 => ?_⟩
      refine ⟨_, s2 _ _ hd, by rw [trues_len, sizeLine_eq]; omega, ?_, same_upd2 (.inr (s1.trans s2)) hD⟩
      rw [upd_same, trues_next]
    · rintro H' ⟨hd, s1⟩
      refine ⟨D, _, rfl, SqL.of hd, ?_⟩
      rw [trues_all]
      refine ⟨_, rfl, iteT ?_⟩
      exact ⟨_, rfl, l, rfl, .inl ⟨xs, SqL.of (s1 _ _ hl), by omega, nd⟩, k _ s1⟩
theorem ok_is_pair_of {f : Addr} {fd : FuncData} (F : Fun K "is_pair_of" "is_pair_of" sp_is_pair_of f fd) (T : Bt mg) : FnOk P w K mg base CX0 1 f fd ["people", "value"] spPairOf := by
  refine F.ok cp_is_pair_of (fun vs H Q E h => ?_) (fun cdv A outer s H vs Q E hr h => ?_)
  · obtain ⟨_, _, _, _, rfl, _⟩ := h
    rfl
  · obtain ⟨l, t, xs, p, rfl, hl, ht, m1, m2, lt, k⟩ := h
    refine ⟨_, pss_cons (ps_if (PW.pt (pw_or (pt_not (pt_val (pe_callB call_isi (by rfl) T.isi (by decide +kernel) (pa_cons (pv 1) (pa_cons (pe_bltn (v := .ty "tuple") (by rfl) T.tuple (by decide +kernel) rfl) pa_nil)))))
        (pw_or1 (pt_cmpR op_ne (pe_callB call_len_seq (by rfl) T.len PySem.boot_len (pa_cons (pv 1) pa_nil)) pe_int (nomark _))))) (pss_one (ps_ret pe_bl)) pss_nil)
      (pss_one (ps_ret (pe_and (pe_cmpR op_in_seq (pe_ix ix_tup (pv 1) pe_int (fun _ _ => rfl)) (pv 0) rfl)
        (pe_and (pe_cmpR op_in_seq (pe_ix ix_tup (pv 1) pe_int (fun _ _ => rfl)) (pv 0) rfl)
        (pe_one (pe_cmpR op_lt_str (pe_ix ix_tup (pv 1) pe_int (fun _ _ => rfl)) (pe_ix ix_tup (pv 1) pe_int (fun _ _ => rfl)) (nomark _))))))), ?_⟩
    refine ⟨_, rfl, _, _, _, _, _, rfl, .ty "tuple", .base (.tup ht), kit_ty (a := "tuple") (r := true) (by decide +kernel), _, rfl, ?_⟩
    refine iteF ?_
    refine ⟨_, rfl, t, _, rfl, .inr (SqT.of ht), rfl, _, rfl, ?_⟩
    refine ite_f (by rfl) ?_
    refine ⟨_, rfl, t, _, _, .str p.1, rfl, rfl, SqT.of ht, rfl, _, rfl, l, _, rfl, .inl (SqL.of hl), rfl, flat_strs' xs, ?_⟩
    rw [in_strs, decide_eq_true m1]
    refine ⟨_, rfl, iteT ?_⟩
    refine ⟨_, rfl, t, _, _, .str p.2, rfl, rfl, SqT.of ht, rfl, _, rfl, l, _, rfl, .inl (SqL.of hl), rfl, flat_strs' xs, ?_⟩
    rw [in_strs, decide_eq_true m2]
    refine ⟨_, rfl, iteT ?_⟩
    refine ⟨_, rfl, t, _, _, .str p.1, rfl, rfl, SqT.of ht, rfl, _, rfl, t, _, _, .str p.2, rfl, rfl, SqT.of ht, rfl, _, _, rfl, rfl, ?_⟩
    have e : decide (p.1.cps.toList < p.2.cps.toList) = true := decide_eq_true lt
    rw [e]
    exact k
theorem ok_are_pairs_of {f : Addr} {fd : FuncData} (F : Fun K "are_pairs_of" "are_pairs_of" sp_are_pairs_of f fd) (T : Bt mg) (CP : Has P w K mg base 1 "is_pair_of" ["people", "value"] spPairOf) (CU : Has P w K mg base 1 "are_unlike" ["things"] (spUnlike K)) :
    FnOk P w K mg base CX0 2 f fd ["people", "value"] spPairsOf := by
  obtain ⟨fW, fdW, GW, mW, kW, bW⟩ := CP
  obtain ⟨fU, fdU, GU, mU, kU, bU⟩ := CU
  refine F.ok cp_are_pairs_of (fun vs H Q E h => ?_) (fun cdv A outer s H vs Q E hr h => ?_)
  · obtain ⟨_, _, _, _, rfl, _⟩ := h
    rfl
  · obtain ⟨l, m, xs, ps, rfl, hl, ⟨Ts, hm, tu⟩, nd, l2, of, k⟩ := h
    refine ⟨_, pss_cons (ps_if (pt_not (pt_val (pe_callB call_isi (by rfl) T.isi (by decide +kernel) (pa_cons (pv 1) (pa_cons (pe_bltn (v := .ty "list") (by rfl) T.list (by decide +kernel) rfl) pa_nil))))) (pss_one (ps_ret pe_bl)) pss_nil)
      (pss_one (ps_ret (pe_and (pe_callB (cr_all rfl) (by rfl) T.all (by decide +kernel) (pa_cons (pe_lc (own := [("pair", 2)]) (g := gName 2) (tt := tYes) rfl cp_are_pairs_of.nd (pi_list (pv 1))
          (blkOk_by (N := ["people", "value", "pair"]) (sc := defScope sp_are_pairs_of) (by decide +kernel)) (fun _ _ _ _ _ => pg_name (i := 2) cp_are_pairs_of.nd rfl (Or.inl rfl)) (fun _ _ _ _ _ => pts_nil)
          (fun _ _ _ _ _ => pe_call GW hr rfl mW kW bW .nil pass0 (pa_cons (pv 0) (pa_cons (pv 2) pa_nil)))) pa_nil))
        (pe_one (pe_call GU hr rfl mU kU bU .nil pass0 (pa_cons (pv 1) pa_nil)))))), ?_⟩
    have lT : Ts.length = ps.length := by rw [tu.1, List.length_map]
    refine ⟨_, rfl, _, _, _, _, _, rfl, .ty "list", .base (.lst hm), kit_ty (a := "list") (r := true) (by decide +kernel), _, rfl, ?_⟩
    refine iteF ?_
    refine ⟨_, rfl, m, rfl, ⟨_, SqL.of hm⟩, fun D hD => ?_⟩
    refine lc_list (xs := Ts.map V.ref) (fun i H' => H' D = some (.lst (trues i)) ∧ Same H H') ⟨upd_same, same_new hD⟩ (fun i H' _ h => SqL.of (h.2 _ _ hm)) ?_ ?_
    · rintro i v H' hv ⟨hd, s1⟩
      rw [List.getElem?_map] at hv
      obtain ⟨U, hU, rfl⟩ := Option.map_eq_some_iff.mp hv
      have il := (List.getElem?_eq_some_iff.mp hU).1
      have hp : ps[i]? = some ps[i] := List.getElem?_eq_getElem (by omega)
      have mp := of _ (List.mem_of_getElem? hp)
      generalize ps[i] = p at hp mp
      have e1 := s1 _ _ (tu.2 i U (tv p) hU (by rw [List.getElem?_map, hp]; rfl))
      refine ⟨rfl, _, rfl, _, rfl, l, U, xs, p, rfl, s1 _ _ hl, e1, mp.1, mp.2.1, mp.2.2, ?_⟩
      refine ⟨_, hd, by rw [trues_len, sizeLine_eq]; omega, ?_, same_upd2 (.inr s1) hD⟩
      rw [upd_same, trues_next]
    · rintro H' ⟨hd, s1⟩
      refine ⟨D, _, rfl, SqL.of hd, ?_⟩
      rw [trues_all]
      refine ⟨_, rfl, iteT ?_⟩
      exact ⟨_, rfl, m, rfl, .inr ⟨Ts, ps, SqL.of (s1 _ _ hm), tu.same s1, by omega, nd⟩, k _ s1⟩
end
end Wd
end
section
set_option maxRecDepth 100000
set_option maxHeartbeats 4000000
namespace Wd
open PySem L2
theorem ascS_uniq : ∀ {l m : List Str}, Asc l → Asc m → (∀ x, x ∈ l ↔ x ∈ m) → l = m
  | [], [], _, _, _ => rfl
  | [], y :: m, _, _, h => absurd ((h y).mpr List.mem_cons_self) (by simp)
  | x :: l, [], _, _, h => absurd ((h x).mp List.mem_cons_self) (by simp)
  | x :: l, y :: m, a, b, h => by
    obtain ⟨a1, a2⟩ := List.pairwise_cons.mp a
    obtain ⟨b1, b2⟩ := List.pairwise_cons.mp b
    have e : x = y := by
      rcases List.mem_cons.mp ((h x).mp List.mem_cons_self) with z | z
      · exact z
      · rcases List.mem_cons.mp ((h y).mpr List.mem_cons_self) with q | q
        · exact q.symm
        · exact absurd ((b1 x z).tr (a1 y q)) (Lt.irr _)
    subst e
    rw [ascS_uniq a2 b2 fun z => ?_]
    constructor
    · intro hz
      rcases List.mem_cons.mp ((h z).mp (List.mem_cons_of_mem _ hz)) with q | q
      · rw [q] at hz
        exact absurd (a1 x hz) (Lt.irr _)
      · exact q
    · intro hz
      rcases List.mem_cons.mp ((h z).mpr (List.mem_cons_of_mem _ hz)) with q | q
      · rw [q] at hz
        exact absurd (b1 x hz) (Lt.irr _)
      · exact q
/-- the attributes as __init__ stores them -/
def cF (a b : Addr) : List (Str × V) := putF "_friends" (.ref b) (putF "_people" (.ref a) [])
theorem cF_p (a b : Addr) : (cF a b).lookup ("_people" : Str) = some (.ref a) := by
  unfold cF
  rw [lookup_putF, if_neg (by decide +kernel), lookup_putF, if_pos rfl]
theorem cF_f (a b : Addr) : (cF a b).lookup ("_friends" : Str) = some (.ref b) := by
  unfold cF
  rw [lookup_putF, if_pos rfl]
theorem cF_no (a b : Addr) {m : Str} (h1 : ¬ m = "_friends") (h2 : ¬ m = "_people") : (cF a b).lookup m = none := by
  unfold cF
  rw [lookup_putF, if_neg h1, lookup_putF, if_neg h2]
  all_goals rfl
/-- a company of xs and ps stands at c -/
def CAt (C : Addr) (H : Hp) (c : Addr) (xs : List Str) (ps : List Pr) : Prop := ∃ dx a b, H c = some (.ins C dx (cF a b)) ∧ H a = some (.lst (xs.map V.str)) ∧ PwAt H b ps
theorem PwAt.same {H H' : Hp} {l : Addr} {ps : List Pr} (h : PwAt H l ps) (s : Same H H') : PwAt H' l ps := PrsAt.same h s
theorem CAt.same {C : Addr} {H H' : Hp} {c : Addr} {xs : List Str} {ps : List Pr} (h : CAt C H c xs ps) (s : Same H H') : CAt C H' c xs ps := by
  obtain ⟨dx, a, b, h1, h2, h3⟩ := h
  exact ⟨dx, a, b, s _ _ h1, s _ _ h2, h3.same s⟩
theorem CAt.sameX {C : Addr} {H H' : Hp} {q c : Addr} {c0 : Int} {n : Nat} {xs : List Str} {ps : List Pr} (h : CAt C H c xs ps) (pa : PurseAt H q c0 n) (s : SameX q H H') : CAt C H' c xs ps := by
  obtain ⟨dx, a, b, h1, h2, h3⟩ := h
  refine ⟨dx, a, b, s _ _ (purse_ne pa h1 fun _ _ _ _ z => nomatch z) h1, sameX_lst pa s h2 (fun x hx i z => ?_), h3.sameX pa s⟩
  obtain ⟨y, _, e⟩ := List.mem_map.mp hx
  rw [z] at e
  cases e
structure CT (K : PySem.W.Frag) (mg : Str → Option Value) (C : Addr) : Prop where
  nP : NoAttr K C "_people"
  nF : NoAttr K C "_friends"
  mC : mg "Company" = some (.ref C)
  is : C8.InsC K C
def sdL (xs : List Str) : PyData := .list (xs.map PyData.str)
def pdL (ps : List Pr) : PyData := .list (ps.map pd)
theorem dp_strs {K : PySem.W.Frag} {H : Hp} : ∀ xs : List Str, DpAll K H (xs.map V.str) (xs.map PyData.str)
  | [] => .nil
  | x :: xs => .cons (.str x) (dp_strs xs)
theorem dp_sdL {K : PySem.W.Frag} {H : Hp} {a : Addr} {xs : List Str} (h : SqL K H a (xs.map V.str)) : Dp K H (.ref a) (sdL xs) := .lst h (dp_strs xs)
theorem dp_prsL {K : PySem.W.Frag} {H : Hp} : ∀ (Ts : List Addr) (ps : List Pr), Tups H Ts (ps.map tv) → DpAll K H (Ts.map V.ref) (ps.map pd)
  | [], [], _ => .nil
  | [], p :: ps, t => by have := t.1; simp at this
  | T :: Ts, [], t => by have := t.1; simp at this
  | T :: Ts, p :: ps, t => .cons (dp_pair (SqT.of (t.2 0 T (tv p) rfl rfl))) (dp_prsL Ts ps ⟨by have := t.1; simpa using this, fun k U q h1 h2 => t.2 (k + 1) U q (by simpa using h1) (by simpa using h2)⟩)
theorem dp_pdL {K : PySem.W.Frag} {H : Hp} {a : Addr} {Ts : List Addr} {ps : List Pr} (h : SqL K H a (Ts.map V.ref)) (t : Tups H Ts (ps.map tv)) : Dp K H (.ref a) (pdL ps) := .lst h (dp_prsL Ts ps t)
theorem lay_sd : ∀ xs : List Str, (∀ x ∈ xs, IsW x) → PyData.canLayAll0 (xs.map PyData.str) = true ∧ PyData.depthAll (xs.map PyData.str) = 0
  | [], _ => by simp [PyData.canLayAll0, PyData.depthAll]
  | x :: xs, h => by
    obtain ⟨h1, h2⟩ := lay_sd xs fun y hy => h y (List.mem_cons_of_mem _ hy)
    simp [PyData.canLayAll0, PyData.depthAll, PyData.canLay0, PyData.depth, isW_ok (h x List.mem_cons_self), h1, h2]
theorem lay_pd : ∀ ps : List Pr, (∀ p ∈ ps, IsW p.1 ∧ IsW p.2) → PyData.canLayAll0 (ps.map pd) = true ∧ PyData.depthAll (ps.map pd) ≤ 1
  | [], _ => by simp [PyData.canLayAll0, PyData.depthAll]
  | p :: ps, h => by
    obtain ⟨h1, h2⟩ := lay_pd ps fun y hy => h y (List.mem_cons_of_mem _ hy)
    have hp := h p List.mem_cons_self
    have e1 : (pd p).canLay0 = true := by simp [pd, PyData.canLay0, PyData.canLayAll0, isW_ok hp.1, isW_ok hp.2]
    have e2 : (pd p).depth = 1 := by simp [pd, PyData.depth, PyData.depthAll]
    refine ⟨by simp [PyData.canLayAll0, e1, h1], ?_⟩
    simp only [List.map_cons, PyData.depthAll, e2]
    omega
theorem sdL_lay {xs : List Str} (h : ∀ x ∈ xs, IsW x) : PyData.canLay0 (sdL xs) = true := by
  unfold sdL
  simp only [PyData.canLay0]
  exact (lay_sd xs h).1
theorem pdL_lay {ps : List Pr} (h : ∀ p ∈ ps, IsW p.1 ∧ IsW p.2) : PyData.canLay0 (pdL ps) = true := by
  unfold pdL
  simp only [PyData.canLay0]
  exact (lay_pd ps h).1
theorem sdL_shaped {xs : List Str} (h : ∀ x ∈ xs, IsW x) : SeqAt.shaped (sdL xs) = true := by
  have d : PyData.depth (sdL xs) ≤ 64 := by
    unfold sdL
    simp only [PyData.depth]
    have := (lay_sd xs h).2
    omega
  show (PyData.canLay0 (sdL xs) && decide (PyData.depth (sdL xs) ≤ 64)) = true
  rw [sdL_lay h, decide_eq_true d]
  rfl
theorem pdL_shaped {ps : List Pr} (h : ∀ p ∈ ps, IsW p.1 ∧ IsW p.2) : SeqAt.shaped (pdL ps) = true := by
  have d : PyData.depth (pdL ps) ≤ 64 := by
    unfold pdL
    simp only [PyData.depth]
    have := (lay_pd ps h).2
    omega
  show (PyData.canLay0 (pdL ps) && decide (PyData.depth (pdL ps) ≤ 64)) = true
  rw [pdL_lay h, decide_eq_true d]
  rfl
theorem Good.wp {xs : List Str} {ps : List Pr} (g : Good xs ps) : ∀ p ∈ ps, IsW p.1 ∧ IsW p.2 := fun p hp => ⟨g.word _ (g.of p hp).1, g.word _ (g.of p hp).2.1⟩
abbrev cI : Stmt := inClass cl_Company 0
abbrev cP : Stmt := inClass cl_Company 1
abbrev cFr : Stmt := inClass cl_Company 2
abbrev cE : Stmt := inClass cl_Company 3
theorem sc_I : FnScope ["self", "people", "friends"] ["self", "people", "friends"] (defScope cI) := ⟨rfl, rfl, rfl, by decide +kernel, rfl, by decide +kernel, by decide +kernel⟩
theorem sc_P : FnScope ["self"] ["self"] (defScope cP) := ⟨rfl, rfl, rfl, by decide +kernel, rfl, by decide +kernel, by decide +kernel⟩
theorem sc_F : FnScope ["self"] ["self"] (defScope cFr) := ⟨rfl, rfl, rfl, by decide +kernel, rfl, by decide +kernel, by decide +kernel⟩
theorem sc_E : FnScope ["self", "other"] ["self", "other"] (defScope cE) := ⟨rfl, rfl, rfl, by decide +kernel, rfl, by decide +kernel, by decide +kernel⟩
def spInit (C : Addr) : Sp := fun vs H Q _ => ∃ (p dx l m : Addr) (ys xs : List Str) (qs ps : List Pr), vs = [.ref p, .ref l, .ref m] ∧ H p = some (.ins C dx []) ∧ H l = some (.lst (ys.map V.str)) ∧ PwAt H m qs ∧ ys.Perm xs ∧ qs.Perm ps ∧ Good xs ps ∧
  ∀ H', SameX p H H' → CAt C H' p xs ps → Q .non H'
def spPplM (C : Addr) : Sp := fun vs H Q _ => ∃ (c : Addr) (xs : List Str) (ps : List Pr), vs = [.ref c] ∧ CAt C H c xs ps ∧ xs.length ≤ 100 ∧ ∀ D, H D = none → Q (.ref D) (upd H D (.lst (xs.map V.str)))
def spFrM (C : Addr) : Sp := fun vs H Q _ => ∃ (c : Addr) (xs : List Str) (ps : List Pr), vs = [.ref c] ∧ CAt C H c xs ps ∧ ps.length ≤ 100 ∧ ∀ (D : Addr) (H' : Hp), H D = none → Same H H' → PwAt H' D ps → Q (.ref D) H'
/-- two companies that are equal -/
def CEq (C : Addr) (a b : Addr) (H : Hp) : Prop := ∃ xs ps, Good xs ps ∧ CAt C H a xs ps ∧ CAt C H b xs ps
section
variable {P : Program} {w : World} {K : PySem.W.Frag} {mg : Str → Option Value} {base : Heap}
theorem ok_init {f C : Addr} {fd : FuncData} (F : Fun K "__init__" "Company.__init__" cI f fd) (T : Bt mg) (TC : CT K mg C) (CA : Has P w K mg base 3 "are_people" ["value"] spArePpl) (CB : Has P w K mg base 2 "are_pairs_of" ["people", "value"] spPairsOf) :
    FnOk P w K mg base CX0 4 f fd ["self", "people", "friends"] (spInit C) := by
  obtain ⟨fA, fdA, GA, mA, kA, bA⟩ := CA
  obtain ⟨fB, fdB, GB, mB, kB, bB⟩ := CB
  refine F.ok sc_I (fun vs H Q E h => ?_) (fun cdv A outer s H vs Q E hr h => ?_)
  · obtain ⟨_, _, _, _, _, _, _, _, rfl, _⟩ := h
    rfl
  · obtain ⟨p, dx, l, m, ys, xs, qs, ps, rfl, hp, hl, hm, py, pq, g, k⟩ := h
    have hr2 : Room 2 _ := hr.mono (by decide)
    have few := g.len
    have l9 := g.few
    have ly := py.length_eq
    have lq := pq.length_eq
    refine ⟨_, pss_cons (ps_if (pt_not (pt_val (pe_call GA hr rfl mA kA bA .nil pass0 (pa_cons (pv 1) pa_nil)))) (pss_one ps_never) pss_nil)
      (pss_cons (ps_if (pt_not (pt_val (pe_call GB hr2 rfl mB kB bB .nil pass0 (pa_cons (pv 1) (pa_cons (pv 2) pa_nil))))) (pss_one ps_never) pss_nil)
      (pss_cons (ps_fld (pv 0) (pe_callB cr_sortedS (by rfl) T.sorted (by decide +kernel) (pa_cons (pv 1) pa_nil)) rfl)
      (pss_one (ps_fld (pv 0) (pe_callB (Kx.cr_sortedD hr.units) (by rfl) T.sorted (by decide +kernel) (pa_cons (pv 2) pa_nil)) rfl)))), ?_⟩
    refine ⟨_, rfl, l, ys, rfl, hl, py.nodup_iff.mpr g.asc.nd, fun x hx => g.word x (py.mem_iff.mp hx), by omega, by omega, fun H1 s1 => ?_⟩
    refine ⟨_, rfl, iteF ?_⟩
    refine ⟨_, rfl, _, rfl, l, m, ys, qs, rfl, s1 _ _ hl, hm.same s1, pq.nodup_iff.mpr g.nodup, by omega, fun q hq => ?_, fun H2 s2 => ?_⟩
    · have o := g.of q (pq.mem_iff.mp hq)
      exact ⟨py.mem_iff.mpr o.1, py.mem_iff.mpr o.2.1, o.2.2⟩
    refine ⟨_, rfl, iteF ?_⟩
    have s12 := s1.trans s2
    refine ⟨_, rfl, l, ys, rfl, SqL.of (s12 _ _ hl), by omega, fun zs a pz so hA => ?_⟩
    have ez : zs = xs := ascS_uniq (asc_of_sorted so (pz.nodup_iff.mpr (py.nodup_iff.mpr g.asc.nd))) g.asc fun x => by rw [pz.mem_iff, py.mem_iff]
    subst ez
    have hp2 := s12 _ _ hp
    have pa : p ≠ a := ne_of_none hp2 hA
    refine ⟨_, rfl, p, C, dx, [], rfl, by rw [upd_ne pa]; exact hp2, TC.is.cl, TC.nP, (by show 0 < 1000; decide), ?_⟩
    obtain ⟨Ts, hm1, tu⟩ := hm.same s12
    have mp : m ≠ p := fun z => by
      rw [z, hp2] at hm1
      cases hm1
    have ma : m ≠ a := ne_of_none hm1 hA
    have tne : ∀ {H' : Hp} {U : Addr} {o : HO}, H2 U = some o → U ≠ p → upd (upd H2 a (.lst (zs.map V.str))) p (.ins C dx (putF "_people" (.ref a) [])) U = some o := fun {H' U o} e n => by
      rw [upd_ne n, upd_ne (ne_of_none e hA)]
      exact e
    have sx3 : SameX p H (upd (upd H2 a (.lst (zs.map V.str))) p (.ins C dx (putF "_people" (.ref a) []))) := ((SameX.of s12).updN (same_none s12 hA)).trans SameX.upd
    have tu3 : Tups (upd (upd H2 a (.lst (zs.map V.str))) p (.ins C dx (putF "_people" (.ref a) []))) Ts (qs.map tv) := tu.keep fun U o hU e => tne (H' := H2) e fun z => by
      obtain ⟨y, _, ey⟩ := tu.at hU
      rw [z, hp2] at ey
      cases ey
    refine ⟨_, rfl, ?_⟩
    dsimp only [tNil]
    refine sorted_prs (tne (H' := H2) hm1 mp) tu3 (pq.nodup_iff.mpr g.nodup) fun D Us rs nD ar mr ur _ => ?_
    have er : rs = ps := asc_uniq ar g.ascP fun q => by rw [mr, pq.mem_iff]
    subst er
    have pD : p ≠ D := ne_of_none upd_same nD
    have aD : a ≠ D := ne_of_none (by rw [upd_ne (Ne.symm pa), upd_same]) nD
    refine ⟨_, rfl, p, C, dx, _, rfl, by rw [upd_ne pD, upd_same], TC.is.cl, TC.nF, (by show 1 < 1000; decide), ?_⟩
    refine k _ ((sx3.updN (sx3.none nD (Ne.symm pD))).trans SameX.upd) ⟨dx, a, D, upd_same, ?_, Us, ?_, ?_⟩
    · rw [upd_ne (Ne.symm pa), upd_ne aD, upd_ne (Ne.symm pa), upd_same]
    · rw [upd_ne (Ne.symm pD), upd_same]
    · refine ur.keep fun U o hU e => ?_
      obtain ⟨y, _, ey⟩ := ur.at hU
      have up : U ≠ p := fun z => by
        rw [z, upd_same] at ey
        cases ey
      rw [upd_ne up, upd_ne (ne_of_none e nD)]
      exact e
theorem ok_ppl {f C : Addr} {fd : FuncData} (F : Fun K "people" "Company.people" cP f fd) (T : Bt mg) (TC : CT K mg C) : FnOk P w K mg base CX0 1 f fd ["self"] (spPplM C) := by
  refine F.ok sc_P (fun vs H Q E h => ?_) (fun cdv A outer s H vs Q E hr h => ?_)
  · obtain ⟨_, _, _, rfl, _⟩ := h
    rfl
  · obtain ⟨c, xs, ps, rfl, ⟨dx, a, b, h1, h2, h3⟩, few, k⟩ := h
    refine ⟨_, pss_one (ps_ret (pe_callTy call_list_of (by rfl) T.list (by decide +kernel) (pa_cons (pe_fld (pv 0) rfl) pa_nil))), ?_⟩
    exact ⟨_, rfl, c, C, dx, _, _, rfl, h1, TC.is.cl, TC.nP, cF_p a b, a, _, rfl, .inl (SqL.of h2), fun D hD => k D hD⟩
theorem ok_frs {f C : Addr} {fd : FuncData} (F : Fun K "friends" "Company.friends" cFr f fd) (T : Bt mg) (TC : CT K mg C) : FnOk P w K mg base CX0 1 f fd ["self"] (spFrM C) := by
  refine F.ok sc_F (fun vs H Q E h => ?_) (fun cdv A outer s H vs Q E hr h => ?_)
  · obtain ⟨_, _, _, rfl, _⟩ := h
    rfl
  · obtain ⟨c, xs, ps, rfl, ⟨dx, a, b, h1, h2, Ts, h3, tu⟩, few, k⟩ := h
    refine ⟨_, pss_one (ps_ret (pe_callTy call_list_of (by rfl) T.list (by decide +kernel) (pa_cons (pe_fld (pv 0) rfl) pa_nil))), ?_⟩
    refine ⟨_, rfl, c, C, dx, _, _, rfl, h1, TC.is.cl, TC.nF, cF_f a b, b, _, rfl, .inl (SqL.of h3), fun D hD => k D _ hD (same_new hD) ⟨Ts, upd_same, tu.same (same_new hD)⟩⟩
theorem ok_eq {f C : Addr} {fd : FuncData} (F : Fun K "__eq__" "Company.__eq__" cE f fd) (T : Bt mg) (TC : CT K mg C) : FnOk P w K mg base CX0 1 f fd ["self", "other"] (spEq (CEq C)) := by
  refine F.ok sc_E (fun vs H Q E h => ?_) (fun cdv A outer s H vs Q E hr h => ?_)
  · obtain ⟨_, _, rfl, _⟩ := h
    rfl
  · obtain ⟨c, d, rfl, ⟨xs, ps, g, ⟨dx, a, b, h1, h2, Ts, h3, tu⟩, ⟨dy, a', b', g1, g2, Us, g3, uu⟩⟩, k⟩ := h
    refine ⟨_, pss_one (ps_ret (pe_and (pe_callB (C8.call_isC TC.is) (by rfl) T.isi (by decide +kernel) (pa_cons (pv 1) (pa_cons (C8.pe_gc (v := .ref C) rfl ⟨_, TC.mC, rfl⟩) pa_nil)))
      (pe_and (pe_cmpR (op_eqD hr.units) (pe_fld (pv 0) rfl) (pe_fld (pv 1) rfl) (nomark _))
      (pe_one (pe_cmpR (op_eqD hr.units) (pe_fld (pv 0) rfl) (pe_fld (pv 1) rfl) (nomark _)))))), ?_⟩
    refine ⟨_, rfl, d, dy, _, rfl, g1, _, rfl, iteT ?_⟩
    refine ⟨_, rfl, c, C, dx, _, _, rfl, h1, TC.is.cl, TC.nP, cF_p a b, _, rfl, d, C, dy, _, _, rfl, g1, TC.is.cl, TC.nP, cF_p a' b', ?_⟩
    refine ⟨sdL xs, sdL xs, dp_sdL (SqL.of h2), dp_sdL (SqL.of g2), sdL_shaped g.word, sdL_shaped g.word, _, rfl, ite_t (SeqAt.eqv_refl _ (sdL_lay g.word)) ?_⟩
    refine ⟨_, rfl, c, C, dx, _, _, rfl, h1, TC.is.cl, TC.nF, cF_f a b, _, rfl, d, C, dy, _, _, rfl, g1, TC.is.cl, TC.nF, cF_f a' b', ?_⟩
    refine ⟨pdL ps, pdL ps, dp_pdL (SqL.of h3) tu, dp_pdL (SqL.of g3) uu, pdL_shaped g.wp, pdL_shaped g.wp, ?_⟩
    rw [SeqAt.eqv_refl _ (pdL_lay g.wp)]
    exact k H Ext.rfl'
end
end Wd
end
section
set_option maxRecDepth 100000
set_option maxHeartbeats 0
namespace Wd
open PySem PySem.Spec PyProof.Rows L2
def d0 : He.DefD := ⟨("is_word", none), "is_word", "is_word", defArgs sp_is_word, defBody sp_is_word, defScope sp_is_word, [], []⟩
def d1 : He.DefD := ⟨("is_count", none), "is_count", "is_count", defArgs sp_is_count, defBody sp_is_count, defScope sp_is_count, [], []⟩
def d2 : He.DefD := ⟨("are_unlike", none), "are_unlike", "are_unlike", defArgs sp_are_unlike, defBody sp_are_unlike, defScope sp_are_unlike, [], []⟩
def d3 : He.DefD := ⟨("is_ascending", none), "is_ascending", "is_ascending", defArgs sp_is_ascending, defBody sp_is_ascending, defScope sp_is_ascending, [], []⟩
def d4 : He.DefD := ⟨("are_numbers_below", none), "are_numbers_below", "are_numbers_below", defArgs sp_are_numbers_below, defBody sp_are_numbers_below, defScope sp_are_numbers_below, [], []⟩
def d5 : He.DefD := ⟨("is_person", none), "is_person", "is_person", defArgs sp_is_person, defBody sp_is_person, defScope sp_is_person, [], []⟩
def d6 : He.DefD := ⟨("Company", some "__init__"), "__init__", "Company.__init__", defArgs cI, defBody cI, defScope cI, [], []⟩
def d7 : He.DefD := ⟨("Company", some "people"), "people", "Company.people", defArgs cP, defBody cP, defScope cP, [], []⟩
def d8 : He.DefD := ⟨("Company", some "friends"), "friends", "Company.friends", defArgs cFr, defBody cFr, defScope cFr, [], []⟩
def d9 : He.DefD := ⟨("Company", some "__eq__"), "__eq__", "Company.__eq__", defArgs cE, defBody cE, defScope cE, [], []⟩
def d10 : He.DefD := ⟨("are_people", none), "are_people", "are_people", defArgs sp_are_people, defBody sp_are_people, defScope sp_are_people, [], []⟩
def d11 : He.DefD := ⟨("is_pair_of", none), "is_pair_of", "is_pair_of", defArgs sp_is_pair_of, defBody sp_is_pair_of, defScope sp_is_pair_of, [], []⟩
def d12 : He.DefD := ⟨("are_pairs_of", none), "are_pairs_of", "are_pairs_of", defArgs sp_are_pairs_of, defBody sp_are_pairs_of, defScope sp_are_pairs_of, [], []⟩
def d13 : He.DefD := ⟨("check_company", none), "check_company", "check_company", defArgs sp_check_company, defBody sp_check_company, defScope sp_check_company, [], []⟩
def d14 : He.DefD := ⟨("check_pair_of", none), "check_pair_of", "check_pair_of", defArgs sp_check_pair_of, defBody sp_check_pair_of, defScope sp_check_pair_of, [], []⟩
def d15 : He.DefD := ⟨("pair_of", none), "pair_of", "pair_of", defArgs sp_pair_of, defBody sp_pair_of, defScope sp_pair_of, [], []⟩
def d16 : He.DefD := ⟨("rows_of", none), "rows_of", "rows_of", defArgs sp_rows_of, defBody sp_rows_of, defScope sp_rows_of, [], []⟩
def d17 : He.DefD := ⟨("pairs_in", none), "pairs_in", "pairs_in", defArgs sp_pairs_in, defBody sp_pairs_in, defScope sp_pairs_in, [], []⟩
def d18 : He.DefD := ⟨("ones", none), "ones", "ones", defArgs sp_ones, defBody sp_ones, defScope sp_ones, [], []⟩
def d19 : He.DefD := ⟨("members", none), "members", "members", defArgs sp_members, defBody sp_members, defScope sp_members, [], []⟩
def d20 : He.DefD := ⟨("counted_bits", none), "counted_bits", "counted_bits", defArgs sp_counted_bits, defBody sp_counted_bits, defScope sp_counted_bits, [], []⟩
def d21 : He.DefD := ⟨("lets", none), "lets", "lets", defArgs sp_lets, defBody sp_lets, defScope sp_lets, [], []⟩
def d22 : He.DefD := ⟨("let_in", none), "let_in", "let_in", defArgs sp_let_in, defBody sp_let_in, defScope sp_let_in, [], []⟩
def d23 : He.DefD := ⟨("turn", none), "turn", "turn", defArgs sp_turn, defBody sp_turn, defScope sp_turn, [], []⟩
def d24 : He.DefD := ⟨("road_of", none), "road_of", "road_of", defArgs sp_road_of, defBody sp_road_of, defScope sp_road_of, [], []⟩
def d25 : He.DefD := ⟨("deeds_of", none), "deeds_of", "deeds_of", defArgs sp_deeds_of, defBody sp_deeds_of, defScope sp_deeds_of, [], []⟩
def d26 : He.DefD := ⟨("is_manner", none), "is_manner", "is_manner", defArgs sp_is_manner, defBody sp_is_manner, defScope sp_is_manner, [], []⟩
def d27 : He.DefD := ⟨("check_manner", none), "check_manner", "check_manner", defArgs sp_check_manner, defBody sp_check_manner, defScope sp_check_manner, [], []⟩
def d28 : He.DefD := ⟨("subsets", none), "subsets", "subsets", defArgs sp_subsets, defBody sp_subsets, defScope sp_subsets, [], []⟩
def d29 : He.DefD := ⟨("all_manners", none), "all_manners", "all_manners", defArgs sp_all_manners, defBody sp_all_manners, defScope sp_all_manners, [], []⟩
def d30 : He.DefD := ⟨("pairs_let", none), "pairs_let", "pairs_let", defArgs sp_pairs_let, defBody sp_pairs_let, defScope sp_pairs_let, [], []⟩
def d31 : He.DefD := ⟨("is_pair_let", none), "is_pair_let", "is_pair_let", defArgs sp_is_pair_let, defBody sp_is_pair_let, defScope sp_is_pair_let, [], []⟩
def d32 : He.DefD := ⟨("counted_people", none), "counted_people", "counted_people", defArgs sp_counted_people, defBody sp_counted_people, defScope sp_counted_people, [], []⟩
def d33 : He.DefD := ⟨("is_let", none), "is_let", "is_let", defArgs sp_is_let, defBody sp_is_let, defScope sp_is_let, [], []⟩
def d34 : He.DefD := ⟨("let_pairs", none), "let_pairs", "let_pairs", defArgs sp_let_pairs, defBody sp_let_pairs, defScope sp_let_pairs, [], []⟩
def d35 : He.DefD := ⟨("are_ascending_pairs", none), "are_ascending_pairs", "are_ascending_pairs", defArgs sp_are_ascending_pairs, defBody sp_are_ascending_pairs, defScope sp_are_ascending_pairs, [], []⟩
def d36 : He.DefD := ⟨("manners_letting", none), "manners_letting", "manners_letting", defArgs sp_manners_letting, defBody sp_manners_letting, defScope sp_manners_letting, [], []⟩
def d37 : He.DefD := ⟨("let_number", none), "let_number", "let_number", defArgs sp_let_number, defBody sp_let_number, defScope sp_let_number, [], []⟩
def d38 : He.DefD := ⟨("_law_purse", none), "_law_purse", "_law_purse", defArgs s_purse, defBody s_purse, defScope s_purse, [], []⟩
def d39 : He.DefD := ⟨("_law_mixed", none), "_law_mixed", "_law_mixed", defArgs s_mixed, defBody s_mixed, defScope s_mixed, [], []⟩
def d40 : He.DefD := ⟨("_law_draw", none), "_law_draw", "_law_draw", defArgs s_draw, defBody s_draw, defScope s_draw, [], []⟩
def d41 : He.DefD := ⟨("_law_purses", none), "_law_purses", "_law_purses", defArgs s_purses, defBody s_purses, defScope s_purses, [], []⟩
def d42 : He.DefD := ⟨("_law_one_of", none), "_law_one_of", "_law_one_of", defArgs s_one_of, defBody s_one_of, defScope s_one_of, [], []⟩
def d43 : He.DefD := ⟨("_law_shuffled", none), "_law_shuffled", "_law_shuffled", defArgs s_shuffled, defBody s_shuffled, defScope s_shuffled, [], []⟩
def d44 : He.DefD := ⟨("_law_exact", none), "_law_exact", "_law_exact", defArgs s_exact, defBody s_exact, defScope s_exact, [], []⟩
def d45 : He.DefD := ⟨("_law_word", none), "_law_word", "_law_word", defArgs s_word, defBody s_word, defScope s_word, [], []⟩
def d46 : He.DefD := ⟨("_law_words", none), "_law_words", "_law_words", defArgs s_words, defBody s_words, defScope s_words, [], []⟩
def d47 : He.DefD := ⟨("_law_people", none), "_law_people", "_law_people", defArgs s_people, defBody s_people, defScope s_people, [], []⟩
def d48 : He.DefD := ⟨("_law_pair", none), "_law_pair", "_law_pair", defArgs s_pair, defBody s_pair, defScope s_pair, [], []⟩
def d49 : He.DefD := ⟨("_law_pairs", none), "_law_pairs", "_law_pairs", defArgs s_pairs, defBody s_pairs, defScope s_pairs, [], []⟩
def d50 : He.DefD := ⟨("_law_net", none), "_law_net", "_law_net", defArgs s_net, defBody s_net, defScope s_net, [], []⟩
def d51 : He.DefD := ⟨("_law_deed", none), "_law_deed", "_law_deed", defArgs s_deed, defBody s_deed, defScope s_deed, [], []⟩
def d52 : He.DefD := ⟨("_law_opposite", none), "_law_opposite", "_law_opposite", defArgs s_opposite, defBody s_opposite, defScope s_opposite, [], []⟩
def d53 : He.DefD := ⟨("_law_at", none), "_law_at", "_law_at", defArgs s_at, defBody s_at, defScope s_at, [], []⟩
def d54 : He.DefD := ⟨("_law_by_density", none), "_law_by_density", "_law_by_density", defArgs s_by_density, defBody s_by_density, defScope s_by_density, [], []⟩
def d55 : He.DefD := ⟨("_law_by_labels", none), "_law_by_labels", "_law_by_labels", defArgs s_by_labels, defBody s_by_labels, defScope s_by_labels, [], []⟩
def d56 : He.DefD := ⟨("_law_shaped", none), "_law_shaped", "_law_shaped", defArgs s_shaped, defBody s_shaped, defScope s_shaped, [], []⟩
def d57 : He.DefD := ⟨("_law_world", none), "_law_world", "_law_world", defArgs s_world, defBody s_world, defScope s_world, [], []⟩
def d58 : He.DefD := ⟨("_law_company", none), "_law_company", "_law_company", defArgs s_company, defBody s_company, defScope s_company, [], []⟩
def d59 : He.DefD := ⟨("_law_stays", none), "_law_stays", "_law_stays", defArgs s_stays, defBody s_stays, defScope s_stays, [], []⟩
def d60 : He.DefD := ⟨("_law_all_manners", none), "_law_all_manners", "_law_all_manners", defArgs s_all_manners, defBody s_all_manners, defScope s_all_manners, [], []⟩
def d61 : He.DefD := ⟨("_law_kind_lists", none), "_law_kind_lists", "_law_kind_lists", defArgs s_kind_lists, defBody s_kind_lists, defScope s_kind_lists, [], []⟩
def d62 : He.DefD := ⟨("_law_own_counted", none), "_law_own_counted", "_law_own_counted", defArgs s_own_counted, defBody s_own_counted, defScope s_own_counted, [], []⟩
def d63 : He.DefD := ⟨("_law_own_lets", none), "_law_own_lets", "_law_own_lets", defArgs s_own_lets, defBody s_own_lets, defScope s_own_lets, [], []⟩
def d64 : He.DefD := ⟨("_law_manner_right", none), "_law_manner_right", "_law_manner_right", defArgs s_manner_right, defBody s_manner_right, defScope s_manner_right, [], []⟩
def d65 : He.DefD := ⟨("_law_company_right", none), "_law_company_right", "_law_company_right", defArgs s_company_right, defBody s_company_right, defScope s_company_right, [], []⟩
def d66 : He.DefD := ⟨("_law_told_manners_right", none), "_law_told_manners_right", "_law_told_manners_right", defArgs s_told_manners_right, defBody s_told_manners_right, defScope s_told_manners_right, [], []⟩
def d67 : He.DefD := ⟨("law", none), "law", "law", defArgs s_law, defBody s_law, defScope s_law, [], []⟩
def fn0 : List He.DefD := [d0, d1, d2, d3, d4, d5, d6, d7, d8, d9, d10, d11, d12, d13, d14, d15, d16, d17, d18, d19]
def fn1 : List He.DefD := [d20, d21, d22, d23, d24, d25, d26, d27, d28, d29, d30, d31, d32, d33, d34, d35, d36, d37, d38, d39]
def fn2 : List He.DefD := [d40, d41, d42, d43, d44, d45, d46, d47, d48, d49, d50, d51, d52, d53, d54, d55, d56, d57, d58, d59]
def fn3 : List He.DefD := [d60, d61, d62, d63, d64, d65, d66, d67]
def fnA : List He.DefD := fn0 ++ fn1 ++ fn2 ++ fn3
def fa0 : List He.Fa := [.glo "is_word", .glo "is_count", .glo "are_unlike", .glo "is_ascending", .glo "are_numbers_below", .glo "is_person", .glo "are_people", .glo "is_pair_of", .glo "are_pairs_of", .glo "check_company", .glo "check_pair_of", .glo "pair_of", .glo "rows_of", .glo "pairs_in", .glo "ones", .glo "members", .glo "counted_bits", .glo "lets", .glo "let_in", .glo "turn"]
def fa1 : List He.Fa := [.glo "road_of", .glo "deeds_of", .glo "is_manner", .glo "check_manner", .glo "subsets", .glo "all_manners", .glo "pairs_let", .glo "is_pair_let", .glo "counted_people", .glo "is_let", .glo "let_pairs", .glo "are_ascending_pairs", .glo "manners_letting", .glo "let_number", .glo "_law_purse", .glo "_law_mixed", .glo "_law_draw", .glo "_law_purses", .glo "_law_one_of", .glo "_law_shuffled"]
def fa2 : List He.Fa := [.glo "_law_exact", .glo "_law_word", .glo "_law_words", .glo "_law_people", .glo "_law_pair", .glo "_law_pairs", .glo "_law_net", .glo "_law_deed", .glo "_law_opposite", .glo "_law_at", .glo "_law_by_density", .glo "_law_by_labels", .glo "_law_shaped", .glo "_law_world", .glo "_law_company", .glo "_law_stays", .glo "_law_all_manners", .glo "_law_kind_lists", .glo "_law_own_counted", .glo "_law_own_lets"]
def fa3 : List He.Fa := [.glo "_law_manner_right", .glo "_law_company_right", .glo "_law_told_manners_right", .glo "law", .glo "Company", .cls "Company", .noat "Company" "_people", .noat "Company" "_friends", .meth "Company" "people", .meth "Company" "friends", .meth "Company" "__eq__", .mkr "Company", .int "LONGEST_WORD" 8, .free "sum", .free "max", .free "min", .free "int", .free "range", .free "len", .free "sorted"]
def fa4 : List He.Fa := [.free "list", .free "dict", .free "set", .free "all", .free "zip", .free "isinstance", .free "str", .free "tuple", .free "bool", .free "enumerate"]
def faA : List He.Fa := fa0 ++ fa1 ++ fa2 ++ fa3 ++ fa4
def nm0 : List PySem.Str := ["combinations", "FriendError", "InvalidPeople", "InvalidPair", "InvalidPairs", "InvalidCompany", "InvalidManner", "LONGEST_WORD", "is_word", "is_count", "are_unlike", "is_ascending", "are_numbers_below", "is_person", "Company", "are_people", "is_pair_of", "are_pairs_of", "check_company", "check_pair_of"]
def nm1 : List PySem.Str := ["pair_of", "rows_of", "pairs_in", "ones", "members", "counted_bits", "lets", "let_in", "turn", "road_of", "deeds_of", "KINDS", "WORDS", "is_manner", "check_manner", "subsets", "all_manners", "pairs_let", "is_pair_let", "counted_people"]
def nm2 : List PySem.Str := ["is_let", "let_pairs", "are_ascending_pairs", "manners_letting", "let_number", "_law_purse", "_law_mixed", "_law_draw", "_law_purses", "_law_one_of", "_law_shuffled", "_law_exact", "_law_word", "_law_words", "_law_people", "_law_pair", "_law_pairs", "_law_net", "_law_deed", "_law_opposite"]
def nm3 : List PySem.Str := ["_law_at", "_law_by_density", "_law_by_labels", "_law_shaped", "_law_world", "_law_company", "_law_stays", "_law_all_manners", "_law_kind_lists", "_law_own_counted", "_law_own_lets", "_law_manner_right", "_law_company_right", "_law_told_manners_right"]
def nmA : List PySem.Str := nm0 ++ nm1 ++ nm2 ++ nm3
def lawAt : Nat := 80
/-- the tuple of kinds, as it stands at the top -/
def tupB (K : PySem.W.Frag) : Bool := match List.lookup (He.ga K "KINDS") K with
  | some o => (match o.cls with
    | .type s => s == "tuple"
    | _ => false) && (match o.data with
    | .seq its _ => (match its.toList with
      | [.int a _, .int b _, .int c _] => decide (a = 0) && (decide (b = 1) && decide (c = 2))
      | _ => false)
    | _ => false)
  | none => false
theorem tup_ok {K : PySem.W.Frag} (h : tupB K = true) : ∀ H : Hp, SqT K H (He.ga K "KINDS") [.int 0, .int 1, .int 2] := by
  intro H
  unfold tupB at h
  split at h
  · rename_i o ho
    obtain ⟨h1, h2⟩ := He.ba h
    split at h1
    · rename_i s hs
      have e := eq_of_beq h1
      subst e
      split at h2
      · rename_i its n hd
        split at h2
        · rename_i a ta b tb c tc hl
          obtain ⟨ea, h2⟩ := He.ba h2
          obtain ⟨eb, ec⟩ := He.ba h2
          have ea := of_decide_eq_true ea
          have eb := of_decide_eq_true eb
          have ec := of_decide_eq_true ec
          subst ea eb ec
          refine .inr ⟨o, its, n, ho, hs, hd, ?_, ?_⟩
          · rw [← Array.length_toList, hl]
            show 3 ≤ sizeLine
            decide
          · rw [hl]
            exact .cons ⟨_, rfl⟩ (.cons ⟨_, rfl⟩ (.cons ⟨_, rfl⟩ .nil))
        · cases h2
      · cases h2
    · cases h1
  · cases h
/-- the tuple of words, as it stands at the top -/
def wordB (K : PySem.W.Frag) : Bool := match List.lookup (He.ga K "WORDS") K with
  | some o => (match o.cls with
    | .type s => s == "tuple"
    | _ => false) && (match o.data with
    | .seq its _ => (match its.toList with
      | [.str a _, .str b _] => decide (a = ("even" : PySem.Str)) && decide (b = ("odd" : PySem.Str))
      | _ => false)
    | _ => false)
  | none => false
theorem word_ok {K : PySem.W.Frag} (h : wordB K = true) : ∀ H : Hp, SqT K H (He.ga K "WORDS") [.str ("even" : PySem.Str), .str ("odd" : PySem.Str)] := by
  intro H
  unfold wordB at h
  split at h
  · rename_i o ho
    obtain ⟨h1, h2⟩ := He.ba h
    split at h1
    · rename_i s hs
      have e := eq_of_beq h1
      subst e
      split at h2
      · rename_i its n hd
        split at h2
        · rename_i a ta b tb hl
          obtain ⟨ea, eb⟩ := He.ba h2
          have ea := of_decide_eq_true ea
          have eb := of_decide_eq_true eb
          subst ea eb
          refine .inr ⟨o, its, n, ho, hs, hd, ?_, ?_⟩
          · rw [← Array.length_toList, hl]
            show 2 ≤ sizeLine
            decide
          · rw [hl]
            exact .cons ⟨_, rfl⟩ (.cons ⟨_, rfl⟩ .nil)
        · cases h2
      · cases h2
    · cases h1
  · cases h
/-- the rest that the end asks: the import, what isinstance asks of the class -/
def exB (K : PySem.W.Frag) : Bool := wordB K && (He.eqO (PySem.W.nsIn K mainGlobals "WORDS") (some (some (.ref (He.ga K "WORDS")))) && (tupB K && (He.eqO (PySem.W.nsIn K mainGlobals "KINDS") (some (some (.ref (He.ga K "KINDS")))) && (He.eqO (PySem.W.nsIn K mainGlobals "combinations") (some (some (.type Kc.TC))) && (He.eqO (PySem.W.findIn K (.ref (He.ga K "Company")) "__class__") (some (some (.builtin "object.__class__"))) &&
  (He.eqO (PySem.W.specialIn K (.builtin "object.__class__") "__get__") (some (some (.builtin "getset_descriptor.__get__"))) && (decide (PySem.W.takesIn K (.builtin "object.__class__") = some true) &&
  (decide (PySem.W.mroIn K (He.ga K "Company") (.type "object") = some true) && decide (PySem.W.kitOne K (.ref (He.ga K "Company")) (.ref (He.ga K "Company")) = some true)))))))))
def obsM (n : Nat) (g : Addr → Option Obj) : He.AlD × Bool := (He.obsD faA fnA (He.frG g (He.asD g n)), exB (He.frG g (He.asD g n)))
def hookM (n : Nat) : PySem.W.Hook where
  α := He.AlD × Bool
  obs := fun s => obsM n s.heap.get?
  val := fun _ => (He.valD fnA, true)
  says := fun _ h => ∃ K : PySem.W.Frag, K.In h ∧ He.SaysD faA fnA K ∧ exB K = true
  of := fun _ _ e => ⟨_, He.frG_in, congrArg (fun z : He.AlD × Bool => z.1) e, congrArg (fun z : He.AlD × Bool => z.2) e⟩
  keeps := fun _ _ _ ⟨K, hK, c, d⟩ k => ⟨K, PySem.W.Frag.In.keeps hK k, c, d⟩
abbrev RR : PySem.W.OpenRow := PySem.W.OpenLaw.row PySem.Challenge.rw_evenfriends_k13_whole_pairs_that_are_let
abbrev hk : PySem.W.Hook := hookM 4
def ob (s : PySem.W.SharedT) : He.AlD × Bool := obsM 4 (HandSHeadRun.getT s)
theorem ob_eq (s : PySem.W.SharedT) : ob s = hk.obs s.abs := by
  have e : HandSHeadRun.getT s = s.abs.heap.get? := funext (HandSHeadRun.getT_eq s)
  show obsM 4 (HandSHeadRun.getT s) = obsM 4 s.abs.heap.get?
  rw [e]
end Wd
end
section
set_option maxRecDepth 100000
set_option maxHeartbeats 0
namespace Wd
open PySem PySem.Spec PySem.W PySem.Calls PyProof.Rows L2 HandSHeadRun
/-! the run of the top, looked at in parts: each part's check runs it anew, so that no check grows too large -/
noncomputable abbrev XX (w : World) : Option (Shared × SharedT) := wholeF (fun p => HandSHeadRun.stepQ (HandSHeadRun.denQ HandSHeadRun.tabQ) p w) HandSHeadRun.fenceQ 8000 RR.prog
abbrev qq : Program := PySem.W.view RR.prog [0, lawAt]
def KK (x : Shared × SharedT) : PySem.W.Frag := He.frG (HandSHeadRun.getT x.2) (He.asD (HandSHeadRun.getT x.2) 4)
theorem run4 (w : World) : (XX w).map (fun x => ((fn0 ++ fn1).all fun d => d.ok (KK x), (fn0 ++ fn1).map fun d => He.fnW (KK x) d.at_)) = some (true, (fn0 ++ fn1).map He.DefD.val) := by
  kernel_rfl
theorem run5 (w : World) : (XX w).map (fun x => ((fn2 ++ fn3).all fun d => d.ok (KK x), (fn2 ++ fn3).map fun d => He.fnW (KK x) d.at_)) = some (true, (fn2 ++ fn3).map He.DefD.val) := by
  kernel_rfl
theorem run3 (w : World) : (XX w).map (fun x => (fa3 ++ fa4).all fun f => f.ok (KK x)) = some true := by
  kernel_rfl
theorem run2 (w : World) : (XX w).map (fun x => ((fa0 ++ fa1 ++ fa2).all fun f => f.ok (KK x)) && exB (KK x)) = some true := by
  kernel_rfl
theorem run1 (w : World) : (XX w).map (fun x => (looksF RR.prog x.1.heap x.2.abs, HandSHeadRun.seenQ qq nmA (importedModules RR.prog.main.body) (fun s => xlAt qq [] s && recOk RR.toRowW.records s) x.2.abs)) = some (true, openGood qq nmA) := by
  kernel_rfl
theorem run (w : World) : HandSHeadRun.RunEqI RR qq hk ob 8000 nmA w := by
  have r1 := run1 w
  have r2 := run2 w
  have r3 := run3 w
  have r4 := run4 w
  have r5 := run5 w
  show (XX w).map (fun x => (looksF RR.prog x.1.heap x.2.abs, HandSHeadRun.seenQ qq nmA (importedModules RR.prog.main.body) (fun s => xlAt qq [] s && recOk RR.toRowW.records s) x.2.abs, ob x.2)) = some (true, openGood qq nmA, hk.val w)
  generalize XX w = X at r1 r2 r3 r4 r5 ⊢
  cases X with
  | none => cases r1
  | some x =>
    have r1 := Option.some.inj r1
    have r2 : (((fa0 ++ fa1 ++ fa2).all fun f => f.ok (KK x)) && exB (KK x)) = true := Option.some.inj r2
    have r3 : ((fa3 ++ fa4).all fun f => f.ok (KK x)) = true := Option.some.inj r3
    obtain ⟨r4a, r4b⟩ := Prod.mk.inj (Option.some.inj r4)
    obtain ⟨r5a, r5b⟩ := Prod.mk.inj (Option.some.inj r5)
    obtain ⟨r2a, r2b⟩ := Bool.and_eq_true_iff.mp r2
    obtain ⟨r1a, r1b⟩ := Prod.mk.inj r1
    have fa : (faA.all fun f => f.ok (KK x)) = true := by
      have e : faA = (fa0 ++ fa1 ++ fa2) ++ (fa3 ++ fa4) := by
        unfold faA
        simp only [List.append_assoc]
      rw [e, List.all_append, r2a, r3]
      rfl
    have en : fnA = (fn0 ++ fn1) ++ (fn2 ++ fn3) := by
      unfold fnA
      simp only [List.append_assoc]
    have eo : ob x.2 = (He.valD fnA, true) := by
      show (((faA.all fun f => f.ok (KK x)) && fnA.all fun d => d.ok (KK x), fnA.map fun d => He.fnW (KK x) d.at_), exB (KK x)) = ((true, fnA.map He.DefD.val), true)
      rw [fa, en, List.all_append, r4a, r5a, List.map_append, r4b, r5b, List.map_append, r2b]
      rfl
    show some (_, _, _) = some _
    rw [r1a, r1b, eo]
    rfl
end Wd
end
section
set_option maxRecDepth 100000
set_option maxHeartbeats 4000000
namespace Wd
open PySem PySem.Spec PyProof.Rows L2
/-- what stands at the value's address is locked from here on -/
def tFrz (td : TE) : TE := fun σ H Q => td σ H fun x H1 => ∃ d u, x = .ref d ∧ H1 d = some u ∧ Mut (some u) ∧ ∀ o, Q x (L2.upd H1 d (.frz o u))
section
variable {X : Cx}
theorem pe_frz {e : Expr} {td : TE} (he : PE X e td) : PE X e (tFrz td) := by
  refine ⟨fun pins s σ H Q I h => thn (he.run pins s σ H _ I h) ?_⟩
  rintro v s1 ⟨x, H1, I1, r1, d, u, rfl, hd, mu, q⟩
  obtain ⟨o, I2⟩ := I1.lock hd mu
  exact ⟨_, _, I2, r1, q o⟩
/-- name = {k: v for ..} on one line, a local -/
theorem ps_setDc {i : Nat} {y : Str} {py pos spos : Pos} {kx vx tg iter : Expr} {ifs : List Expr} {scope : Scope} {own : List (Str × Nat)} {wi : TI} {g : TG} {tt : TT} {tk tv : TE}
    (calm : X.calm = true) (nd : X.N.Nodup) (at_ : X.N[i]? = some y) (loc : X.env.scope.names.lookup y = some .local)
    (sw : swapsWith (.DictComp kx vx [⟨tg, iter, ifs, 0⟩] scope pos) (some (.Name y py)) spos.line X.env = pure true) (wk : PI X tg iter wi) (ok : BlkOk X.N X.env.scope scope own)
    (tgt : ∀ (s : Shared) (H : Hp) (C : Addr) (cl : List (Str × Addr)) (fp : List Addr), PG (X.blk s H scope (compEnvC scope cl C X.env) fp) tg g)
    (tst : ∀ (s : Shared) (H : Hp) (C : Addr) (cl : List (Str × Addr)) (fp : List Addr), PTs (X.blk s H scope (compEnvC scope cl C X.env) fp) ifs tt)
    (key : ∀ (s : Shared) (H : Hp) (C : Addr) (cl : List (Str × Addr)) (fp : List Addr), PE (X.blk s H scope (compEnvC scope cl C X.env) fp) kx tk)
    (val : ∀ (s : Shared) (H : Hp) (C : Addr) (cl : List (Str × Addr)) (fp : List Addr), PE (X.blk s H scope (compEnvC scope cl C X.env) fp) vx tv)
    (fold : ∀ x, foldedSetIterable iter X.env x = pure x := by intro _; rfl) : PS X (.Assign [.Name y py] (.DictComp kx vx [⟨tg, iter, ifs, 0⟩] scope pos) spos) (tAsg (tDc wi g tt tk tv (own.map (·.2))) (gName i)) := by
  refine ⟨fun pins s σ H D I h => ?_⟩
  rw [exec_Assign_Name_used _ _ _ _ sw]
  refine wpAny_bind (wpAny_standAt (wpAny_bind ?_))
  show wpAny _ X.A (do let _ ← comprehension (.DictComp kx vx [⟨tg, iter, ifs, 0⟩] scope pos) scope X.env (firstIterPos [⟨tg, iter, ifs, 0⟩] pos) newDict false (eval iter X.env) (some (assign (.Name y py) X.env))) _ _ s
  have go : tDc wi g tt tk tv (own.map (·.2)) σ H (fun x H1 => gName i x σ H1 D.nx) := h
  refine wpAny_bind (thn (dc_core (Qf := fun _ s' => SP X pins D .next s') calm nd I wk ok tgt tst key val fold go fun L C s2 m H2 I2 q hn f => ?_) fun _ _ z => wpAny_pure (wpAny_pure z))
  show wpAny _ _ (assign (.Name y py) X.env (.ref L)) _ _ _
  obtain ⟨a0, a1, a2, a3, a4, a5⟩ := f
  refine wpAny_assign_Name (store_ok2 (v := V.ref L) I2 nd at_ (.inl loc) rfl (fun s3 I3 ⟨a, b, c⟩ => ?_) (.inr loc))
  have ne : C ≠ a := c.elim (fun z => z ▸ a1) fun z e => a4 y a z e.symm
  exact ⟨m, hn.sameBut b ne, fun h3 k3 => ⟨_, H2, I3.turned (t' := s3.toks) (fun u o hb e => (k3.2 u hb).trans e) a0 a1 a3 a4 a5, q⟩⟩
theorem sw_dict {kx vx : Expr} {gs : List Comprehension} {scope : Scope} {pos py : Pos} {y : Str} {l : Nat} {env : Env} (fn : env.scope.kind = .function) (loc : env.scope.names.lookup y = some .local) (row : (py.line == pos.line) = true)
    (no : (scope.names.any fun (n, k) => n == y && (k == .local || k == .cell)) = false) : swapsWith (.DictComp kx vx gs scope pos) (some (.Name y py)) l env = pure true := by
  have k1 : env.kindOf y = some .local := loc
  have k2 : env.blockKind = .function := by
    unfold Env.blockKind
    rw [fn]
    rfl
  unfold swapsWith
  simp only [k1, k2, no, Expr.pos, row]
  rfl
end
/-- a dict comprehension over any walk: Pv by the turn and the heap -/
theorem dc_walk {J : It} {n : Nat} {G : Hp → Prop} {Y : Nat → Hp → V → Hp → Prop} (wk : Walk J n G Y) {g : TG} {tt : TT} {tk tv : TE} {vs : List Nat} {σ : L2.St} {H1 : Hp} {D : Addr} {Qd : Hp → Prop} (Pv : Nat → Hp → Prop)
    (start : Pv 0 (L2.upd H1 D (.dK []))) (stays : ∀ i H, i ≤ n → Pv i H → G H)
    (turn : ∀ i x H H', i < n → Pv i H → Y i H x H' → g x (wipe σ vs) H' fun σ2 H2 => wipe σ2 vs = wipe σ vs ∧ tt σ2 H2 fun b H3 => if b = true then tk σ2 H3 fun y H4 => tv σ2 H4 fun z H5 =>
      ∃ kvs k, y = kV k ∧ H5 D = some (.dK kvs) ∧ kvs.length < sizeLine ∧ Pv (i + 1) (L2.upd H5 D (.dK (putK kvs k z))) else Pv (i + 1) H3) (fin : ∀ H, Pv n H → Qd H) :
    ∃ W : Nat → Nat → Hp → Prop, (∃ m, W 0 m (L2.upd H1 D (.dK []))) ∧ ∀ i m H, W i m H → (J.stop i H ∧ Qd H) ∨ (J.go i H ∧ ∃ Nx : Hp → Prop, (∀ H', Nx H' → ∃ m', m' < m ∧ W (i + 1) m' H') ∧
      ∀ x H', J.yld i H x H' → g x (wipe σ vs) H' fun σ2 H2 => wipe σ2 vs = wipe σ vs ∧ tt σ2 H2 fun b H3 => if b = true then tk σ2 H3 fun y H4 => tv σ2 H4 fun z H5 =>
        ∃ kvs k, y = kV k ∧ H5 D = some (.dK kvs) ∧ kvs.length < sizeLine ∧ Nx (L2.upd H5 D (.dK (putK kvs k z))) else Nx H3) := by
  refine ⟨fun i m H => (m + i = n) ∧ Pv i H, ⟨n, rfl, start⟩, ?_⟩
  rintro i m H ⟨e, p⟩
  have gh := stays i H (by omega) p
  rcases Nat.eq_or_lt_of_le (show i ≤ n by omega) with z | z
  · subst z
    exact .inl ⟨wk.stops H gh, fin H p⟩
  · refine .inr ⟨wk.goes i H z gh, Pv (i + 1), fun H' q => ⟨m - 1, by omega, by omega, q⟩, fun x H' y => ?_⟩
    exact turn i x H H' z p (wk.yields i H x H' z gh y)
end Wd
end
section
set_option maxRecDepth 100000
set_option maxHeartbeats 4000000
namespace Wd
open PySem L2
/-- a method without arguments that keeps a promise -/
def HasM (P : Program) (w : World) (K : PySem.W.Frag) (mg : Str → Option Value) (base : Heap) (C : Addr) (k : Nat) (m : Str) (sp : Sp) : Prop :=
  ∃ (f : Addr) (fd : FuncData), FnOk P w K mg base CX0 k f fd ["self"] sp ∧ Meth K C m f ∧ Binds K fd ["self"] []
def spChk (C : Addr) : Sp := fun vs H Q _ => ∃ (c dx : Addr) (fs : List (Str × V)), vs = [.ref c] ∧ H c = some (.ins C dx fs) ∧ Q .non H
def spChkP (C : Addr) : Sp := fun vs H Q _ => ∃ (c : Addr) (x : Str) (xs : List Str) (ps : List Pr), vs = [.ref c, .str x] ∧ CAt C H c xs ps ∧ Good xs ps ∧ x ∈ xs ∧ ∀ H', Same H H' → Q .non H'
def spChkT (C : Addr) : Sp := fun vs H Q _ => ∃ (c t : Addr) (p : Pr) (xs : List Str) (ps : List Pr), vs = [.ref c, .ref t] ∧ CAt C H c xs ps ∧ Good xs ps ∧ H t = some (.tup [.str p.1, .str p.2]) ∧ p ∈ prsS xs ∧ ∀ H', Same H H' → Q .non H'
def spAllP : Sp := fun vs H Q _ => ∃ (l : Addr) (ys xs : List Str), vs = [.ref l] ∧ H l = some (.lst (ys.map V.str)) ∧ ys.Perm xs ∧ Asc xs ∧ xs.length ≤ 12 ∧ ∀ (H' : Hp) (D : Addr), Same H H' → H D = none → PwAt H' D (prsS xs) → Q (.ref D) H'
/-! combinations of two are the pairs -/
theorem range_cons (n : Nat) : List.range (n + 1) = 0 :: (List.range n).map Nat.succ := List.range_succ_eq_map
theorem ixs2_prs : ∀ xs : List V, (Kc.ixs2 xs.length).map (Kc.atIx xs) = (prs xs).map fun q => [q.1, q.2]
  | [] => rfl
  | x :: r => by
    have ih := ixs2_prs r
    have e1 : ((List.range (r.length + 1)).filter fun j => decide (0 < j)) = (List.range r.length).map Nat.succ := by
      rw [range_cons, List.filter_cons_of_neg (by simp), List.filter_eq_self.mpr]
      intro a ha
      obtain ⟨b, _, rfl⟩ := List.mem_map.mp ha
      simp
    have e2 : ∀ i, ((List.range (r.length + 1)).filter fun j => decide (i.succ < j)) = ((List.range r.length).filter fun j => decide (i < j)).map Nat.succ := fun i => by
      rw [range_cons, List.filter_cons_of_neg (by simp), List.filter_map]
      congr 1
      refine List.filter_congr fun a _ => ?_
      show decide (i.succ < a.succ) = decide (i < a)
      exact decide_eq_decide.mpr ⟨fun h => by omega, fun h => by omega⟩
    have e3 : Kc.ixs2 (r.length + 1) = (List.range r.length).map (fun j => [0, j.succ]) ++ (Kc.ixs2 r.length).map (fun l => l.map Nat.succ) := by
      unfold Kc.ixs2
      conv => lhs; rw [range_cons]
      rw [List.flatMap_cons]
      congr 1
      · rw [← range_cons, e1, List.map_map]
        rfl
      · rw [← range_cons, List.flatMap_map, List.map_flatMap]
        congr 1
        funext i
        rw [e2, List.map_map, List.map_map]
        rfl
    show (Kc.ixs2 (r.length + 1)).map (Kc.atIx (x :: r)) = (r.map (fun y => (x, y)) ++ prs r).map fun q => [q.1, q.2]
    rw [e3, List.map_append, List.map_append, List.map_map, List.map_map, List.map_map]
    congr 1
    · have : r = (List.range r.length).map fun j => r.getD j V.non := by
        apply List.ext_getElem (by simp)
        intro i h1 h2
        simp [List.getD_eq_getElem?_getD, List.getElem?_eq_getElem h1]
      conv => rhs; rw [this]
      rw [List.map_map]
      refine List.map_congr_left fun j _ => ?_
      rfl
    · rw [← ih]
      refine List.map_congr_left fun l _ => ?_
      show (l.map Nat.succ).map (fun i => (x :: r).getD i V.non) = l.map fun i => r.getD i V.non
      rw [List.map_map]
      rfl
section
variable {P : Program} {w : World} {K : PySem.W.Frag} {mg : Str → Option Value} {base : Heap}
theorem ok_check {f C : Addr} {fd : FuncData} (F : Fun K "check_company" "check_company" sp_check_company f fd) (T : Bt mg) (TC : CT K mg C) : FnOk P w K mg base CX0 1 f fd ["company"] (spChk C) := by
  refine F.ok cp_check_company (fun vs H Q E h => ?_) (fun cdv A outer s H vs Q E hr h => ?_)
  · obtain ⟨_, _, _, rfl, _⟩ := h
    rfl
  · obtain ⟨c, dx, fs, rfl, hc, k⟩ := h
    refine ⟨_, pss_one (ps_if (pt_not (pt_val (pe_callB (C8.call_isC TC.is) (by rfl) T.isi (by decide +kernel) (pa_cons (pv 0) (pa_cons (C8.pe_gc (v := .ref C) rfl ⟨_, TC.mC, rfl⟩) pa_nil))))) (pss_one ps_never) pss_nil), ?_⟩
    exact ⟨_, rfl, c, dx, fs, rfl, hc, _, rfl, iteF k⟩
theorem ok_checkT {f C : Addr} {fd : FuncData} (F : Fun K "check_pair_of" "check_pair_of" sp_check_pair_of f fd) (T : Bt mg) (TC : CT K mg C) (MP : HasM P w K mg base C 1 "people" (spPplM C)) (CP : Has P w K mg base 1 "is_pair_of" ["people", "value"] spPairOf) :
    FnOk P w K mg base CX0 2 f fd ["company", "pair"] (spChkT C) := by
  obtain ⟨fP, fdP, GP, mP, bP⟩ := MP
  obtain ⟨fW, fdW, GW, mW, kW, bW⟩ := CP
  refine F.ok cp_check_pair_of (fun vs H Q E h => ?_) (fun cdv A outer s H vs Q E hr h => ?_)
  · obtain ⟨_, _, _, _, _, rfl, _⟩ := h
    rfl
  · obtain ⟨c, t, p, xs, ps, rfl, hc, g, ht, hp, k⟩ := h
    refine ⟨_, pss_one (ps_if (pt_not (pt_val (pe_call GW hr rfl mW kW bW .nil pass0 (pa_cons (pe_meth0 (pv 0) TC.is.cl mP GP hr bP .nil pass0) (pa_cons (pv 1) pa_nil))))) (pss_one ps_never) pss_nil), ?_⟩
    obtain ⟨dx, a, b, h1, h2, h3⟩ := id hc
    have l9 := g.few
    obtain ⟨m1, m2, lt⟩ := mem_prsS g.asc hp
    refine ⟨_, rfl, c, dx, _, rfl, h1, cF_no a b (by decide +kernel) (by decide +kernel), c, xs, ps, rfl, hc, by omega, fun D hD => ?_⟩
    exact ⟨_, rfl, D, t, xs, p, rfl, upd_same, same_new hD _ _ ht, m1, m2, lt, _, rfl, iteF (k _ (same_new hD))⟩
end
end Wd
end
section
set_option maxRecDepth 100000
set_option maxHeartbeats 4000000
namespace Wd
open PySem L2
theorem nd_inj {α : Type} {l : List α} {i j : Nat} {a : α} (nd : l.Nodup) (h1 : l[i]? = some a) (h2 : l[j]? = some a) : i = j :=
  (List.getElem?_inj (List.getElem?_eq_some_iff.mp h1).1 nd).mp (h1.trans h2.symm)
/-- a dictionary from people -/
def dkv (xs : List Str) (vs : List V) : List (Key × V) := (xs.zip vs).map fun z => (Sum.inr z.1, z.2)
theorem dkv_len {xs : List Str} {vs : List V} (h : vs.length = xs.length) : (dkv xs vs).length = xs.length := by
  unfold dkv
  rw [List.length_map, List.length_zip]
  omega
theorem dkv_get : ∀ {xs : List Str} {vs : List V} {i : Nat} {x : Str} {v : V}, xs.Nodup → xs[i]? = some x → vs[i]? = some v → valV (dkv xs vs) (Sum.inr x : Key) = some v
  | [], vs, i, x, v, _, h, _ => by simp at h
  | y :: xs, [], i, x, v, _, _, h => by simp at h
  | y :: xs, u :: vs, 0, x, v, _, h1, h2 => by
    simp at h1 h2
    subst h1 h2
    exact valV_pos (p := ((Sum.inr y : Key), u)) rfl
  | y :: xs, u :: vs, i + 1, x, v, nd, h1, h2 => by
    simp at h1 h2
    obtain ⟨n1, n2⟩ := List.nodup_cons.mp nd
    have ne : ¬ (Sum.inr y : Key) = Sum.inr x := fun e => n1 (by
      have := Sum.inr.inj e
      rw [this]
      exact List.mem_of_getElem? h1)
    show valV (((Sum.inr y : Key), u) :: dkv xs vs) _ = _
    rw [valV_neg ne]
    exact dkv_get n2 h1 h2
theorem dkv_none : ∀ {xs : List Str} {vs : List V} {x : Str}, x ∉ xs → valV (dkv xs vs) (Sum.inr x : Key) = none
  | [], vs, x, _ => rfl
  | y :: xs, [], x, _ => rfl
  | y :: xs, u :: vs, x, h => by
    have ne : ¬ (Sum.inr y : Key) = Sum.inr x := fun e => h (by
      have := Sum.inr.inj e
      rw [this]
      exact List.mem_cons_self)
    show valV (((Sum.inr y : Key), u) :: dkv xs vs) _ = _
    rw [valV_neg ne]
    exact dkv_none fun z => h (List.mem_cons_of_mem _ z)
theorem dkv_snoc {xs : List Str} {vs : List V} {x : Str} {v : V} (h : x ∉ xs) (l : vs.length = xs.length) : putK (dkv xs vs) (Sum.inr x : Key) v = dkv (xs ++ [x]) (vs ++ [v]) := by
  rw [putK_new v (dkv_none h)]
  unfold dkv
  rw [List.zip_append l.symm, List.map_append]
  rfl
theorem dkv_set : ∀ {xs : List Str} {vs : List V} {i : Nat} {x : Str} {v : V}, xs.Nodup → xs[i]? = some x → i < vs.length → putK (dkv xs vs) (Sum.inr x : Key) v = dkv xs (vs.set i v) := by
  have go : ∀ {xs : List Str} {vs : List V} {i : Nat} {x : Str} {v : V}, xs.Nodup → xs[i]? = some x → (dkv xs vs).map (fun kv => if kv.1 = (Sum.inr x : Key) then (kv.1, v) else kv) = dkv xs (vs.set i v) := by
    intro xs
    induction xs with
    | nil => intro vs i x v _ h; simp at h
    | cons y xs ih =>
      intro vs i x v nd h1
      obtain ⟨n1, n2⟩ := List.nodup_cons.mp nd
      cases vs with
      | nil => rfl
      | cons u vs =>
        have stay : ∀ {x : Str} (vs : List V), x ∉ xs → (dkv xs vs).map (fun kv => if kv.1 = (Sum.inr x : Key) then (kv.1, v) else kv) = dkv xs vs := fun {x} vs hn => by
          conv => rhs; rw [← List.map_id (dkv xs vs)]
          refine List.map_congr_left fun kv hk => ?_
          obtain ⟨z, hz, rfl⟩ := List.mem_map.mp hk
          have : ¬ (Sum.inr z.1 : Key) = Sum.inr x := fun e => hn (by
            rw [← Sum.inr.inj e]
            exact (List.of_mem_zip (show (z.1, z.2) ∈ xs.zip vs from hz)).1)
          rw [if_neg this]
          rfl
        cases i with
        | zero =>
          simp at h1
          subst h1
          show (if (Sum.inr y : Key) = Sum.inr y then ((Sum.inr y : Key), v) else _) :: (dkv xs vs).map _ = ((Sum.inr y : Key), v) :: dkv xs vs
          rw [if_pos rfl, stay vs n1]
        | succ i =>
          simp at h1
          have ne : ¬ (Sum.inr y : Key) = Sum.inr x := fun e => n1 (by
            rw [Sum.inr.inj e]
            exact List.mem_of_getElem? h1)
          show (if (Sum.inr y : Key) = Sum.inr x then _ else ((Sum.inr y : Key), u)) :: (dkv xs vs).map _ = ((Sum.inr y : Key), u) :: dkv xs (vs.set i v)
          rw [if_neg ne, ih n2 h1]
  intro xs vs i x v nd h1 h2
  have hv := dkv_get nd h1 (List.getElem?_eq_getElem h2)
  unfold putK
  rw [valV_any, hv]
  exact go nd h1
/-- the friends of x among ps, as they come -/
def frs (ps : List Pr) (x : Str) : List Str := ps.filterMap fun p => if p.1 = x then some p.2 else if p.2 = x then some p.1 else none
theorem frs_len (ps : List Pr) (x : Str) : (frs ps x).length ≤ ps.length := List.length_filterMap_le _ _
theorem frs_snoc (ps : List Pr) (p : Pr) (x : Str) : frs (ps ++ [p]) x = frs ps x ++ (if p.1 = x then [p.2] else if p.2 = x then [p.1] else []) := by
  unfold frs
  rw [List.filterMap_append]
  congr 1
  by_cases h1 : p.1 = x
  · simp [h1]
  · by_cases h2 : p.2 = x <;> simp [h1, h2]
/-- a dictionary from the people to lists: fs x for each -/
def CirAt (H : Hp) (D : Addr) (xs : List Str) (Ls : List Addr) (fs : Str → List Str) : Prop := H D = some (.dK (dkv xs (Ls.map V.ref))) ∧ Ls.length = xs.length ∧ Ls.Nodup ∧ ∀ (i : Nat) x L, xs[i]? = some x → Ls[i]? = some L → H L = some (.lst ((fs x).map V.str))
def spCirc (C : Addr) : Sp := fun vs H Q _ => ∃ (c : Addr) (xs : List Str) (ps : List Pr), vs = [.ref c] ∧ CAt C H c xs ps ∧ Good xs ps ∧
  ∀ (H' : Hp) (D : Addr) (Ls : List Addr), Same H H' → H D = none → (∀ L ∈ Ls, H L = none) → CirAt H' D xs Ls (frs ps) → Q (.ref D) H'
section
variable {P : Program} {w : World} {K : PySem.W.Frag} {mg : Str → Option Value} {base : Heap}
end
end Wd
end
section
set_option maxRecDepth 100000
set_option maxHeartbeats 4000000
namespace Wd
open PySem L2
theorem room65 {k : Nat} {A : Around} (r : Room k A) : A.units + 65 < cLine := by
  have := r.un
  omega
theorem any_pd (ps : List Pr) (p : Pr) : (ps.map pd).any (fun z => PyData.eqv z (pd p)) = decide (p ∈ ps) := by
  rw [List.any_map]
  induction ps with
  | nil => simp
  | cons q ps ih =>
    rw [List.any_cons, ih]
    show (PyData.eqv (pd q) (pd p) || decide (p ∈ ps)) = decide (p ∈ q :: ps)
    rw [pd_eqv]
    by_cases h : q = p
    · subst h
      simp
    · rw [decide_eq_false h, Bool.false_or]
      exact decide_eq_decide.mpr ⟨fun z => List.mem_cons_of_mem _ z, fun z => by
        rcases List.mem_cons.mp z with e | z
        · exact absurd e.symm h
        · exact z⟩
theorem mem_frs {ps : List Pr} {x y : Str} (h : ∀ p ∈ ps, Lt p.1 p.2) : y ∈ frs ps x ↔ y ≠ x ∧ mk x y ∈ ps := by
  unfold frs
  rw [List.mem_filterMap]
  constructor
  · rintro ⟨p, hp, e⟩
    have lt := h p hp
    by_cases h1 : p.1 = x
    · rw [if_pos h1] at e
      have e := Option.some.inj e
      subst h1 e
      refine ⟨fun z => Lt.irr p.1 (by rw [z] at lt; exact lt), ?_⟩
      unfold mk
      rw [if_pos lt]
      exact hp
    · rw [if_neg h1] at e
      by_cases h2 : p.2 = x
      · rw [if_pos h2] at e
        have e := Option.some.inj e
        subst h2 e
        refine ⟨h1, ?_⟩
        unfold mk
        rw [if_neg fun z => Lt.irr _ (z.tr lt)]
        exact hp
      · rw [if_neg h2] at e
        cases e
  · rintro ⟨ne, hm⟩
    refine ⟨_, hm, ?_⟩
    unfold mk
    by_cases c : Lt x y
    · rw [if_pos c, if_pos rfl]
    · rw [if_neg c, if_neg ne, if_pos rfl]
theorem frs_asc {xs : List Str} {ps : List Pr} (g : Good xs ps) (x : Str) : Asc (frs ps x) := by
  show ((frs ps x)).Pairwise Lt
  unfold frs
  rw [List.pairwise_filterMap]
  have hp : ps.Pairwise fun p q => LtP p q ∧ Lt p.1 p.2 ∧ Lt q.1 q.2 := by
    have a := g.ascP
    have b := g.of
    clear g
    induction ps with
    | nil => exact List.Pairwise.nil
    | cons p ps ih =>
      obtain ⟨a1, a2⟩ := List.pairwise_cons.mp a
      exact List.pairwise_cons.mpr ⟨fun q hq => ⟨a1 q hq, (b p List.mem_cons_self).2.2, (b q (List.mem_cons_of_mem _ hq)).2.2⟩, ih a2 fun q hq => b q (List.mem_cons_of_mem _ hq)⟩
  refine List.Pairwise.imp (fun {p q} h => ?_) hp
  obtain ⟨l, lp, lq⟩ := h
  intro b hb b' hb'
  by_cases p1 : p.1 = x
  · rw [if_pos p1] at hb
    have hb := Option.some.inj hb
    subst hb
    by_cases q1 : q.1 = x
    · rw [if_pos q1] at hb'
      have hb' := Option.some.inj hb'
      subst hb'
      rcases l with z | z
      · rw [p1, q1] at z
        exact absurd z (Lt.irr _)
      · exact z.2
    · rw [if_neg q1] at hb'
      by_cases q2 : q.2 = x
      · exfalso
        rcases l with z | z
        · rw [p1, ← q2] at z
          exact Lt.irr _ (z.tr lq)
        · exact q1 (z.1.symm.trans p1)
      · rw [if_neg q2] at hb'
        cases hb'
  · rw [if_neg p1] at hb
    by_cases p2 : p.2 = x
    · rw [if_pos p2] at hb
      have hb := Option.some.inj hb
      subst hb
      by_cases q1 : q.1 = x
      · rw [if_pos q1] at hb'
        have hb' := Option.some.inj hb'
        subst hb'
        rw [p2, ← q1] at lp
        exact lp.tr lq
      · rw [if_neg q1] at hb'
        by_cases q2 : q.2 = x
        · rw [if_pos q2] at hb'
          have hb' := Option.some.inj hb'
          subst hb'
          rcases l with z | z
          · exact z
          · rw [p2, q2] at z
            exact absurd z.2 (Lt.irr _)
        · rw [if_neg q2] at hb'
          cases hb'
    · rw [if_neg p2] at hb
      cases hb
/-- the friends are those of the people whose pair is one -/
theorem frs_eq {xs : List Str} {ps : List Pr} (g : Good xs ps) (x : Str) : frs ps x = xs.filter fun y => decide (y ≠ x ∧ mk x y ∈ ps) :=
  ascS_uniq (frs_asc g x) (List.Pairwise.filter _ g.asc) fun y => by
    rw [mem_frs fun p hp => (g.of p hp).2.2, List.mem_filter]
    constructor
    · rintro ⟨h1, h2⟩
      refine ⟨?_, decide_eq_true ⟨h1, h2⟩⟩
      have o := g.of _ h2
      rcases has_mk y x with z | z
      · have : mk x y = mk y x := by
          unfold mk
          by_cases c : Lt x y
          · rw [if_pos c, if_neg fun q => Lt.irr _ (c.tr q)]
          · by_cases d : Lt y x
            · rw [if_neg c, if_pos d]
            · rcases Lt.tri x y with q | q | q
              · exact absurd q c
              · exact absurd q.symm h1
              · exact absurd q d
        rw [z, ← this]
        exact o.1
      · have : mk x y = mk y x := by
          unfold mk
          by_cases c : Lt x y
          · rw [if_pos c, if_neg fun q => Lt.irr _ (c.tr q)]
          · by_cases d : Lt y x
            · rw [if_neg c, if_pos d]
            · rcases Lt.tri x y with q | q | q
              · exact absurd q c
              · exact absurd q.symm h1
              · exact absurd q d
        rw [z, ← this]
        exact o.2.1
    · rintro ⟨_, h⟩
      exact of_decide_eq_true h
theorem frs_le {xs : List Str} {ps : List Pr} (g : Good xs ps) (x : Str) : (frs ps x).length ≤ 9 := by
  rw [frs_eq g]
  exact Nat.le_trans (List.length_filter_le _ _) g.few.2
theorem same_over {H H' : Hp} {a : Addr} {o : HO} (s : Same H H') (h : H a = none) : Same H (upd H' a o) := same_upd2 (.inr s) h
theorem dkv_at {xs : List Str} {vs : List V} {i : Nat} {x : Str} {v : V} (h1 : xs[i]? = some x) (h2 : vs[i]? = some v) : (dkv xs vs)[i]? = some ((Sum.inr x : Key), v) := by
  unfold dkv
  rw [List.getElem?_map, List.getElem?_zip_eq_some (z := (x, v)) |>.mpr ⟨h1, h2⟩]
  rfl
def rLen (K : PySem.W.Frag) : List V → Hp → VK → Prop := fun xs H Q => ∃ p ys, xs = [.ref p] ∧ (SqL K H p ys ∨ SqT K H p ys) ∧ Q (.int ys.length) H
def spStr (C : Addr) : Sp := fun vs H Q _ => ∃ (c : Addr) (xs : List Str) (ps : List Pr), vs = [.ref c] ∧ CAt C H c xs ps ∧ Good xs ps ∧ ∀ (H' : Hp) (D : Addr), Same H H' → H D = none → PwAt H' D ((prsS xs).filter fun p => decide (p ∉ ps)) → Q (.ref D) H'
def spFrOf (C : Addr) : Sp := fun vs H Q _ => ∃ (c : Addr) (x : Str) (xs : List Str) (ps : List Pr), vs = [.ref c, .str x] ∧ CAt C H c xs ps ∧ Good xs ps ∧ x ∈ xs ∧ ∀ (H' : Hp) (L : Addr), Same H H' → H L = none → H' L = some (.lst ((frs ps x).map V.str)) → Q (.ref L) H'
def spAreF (C : Addr) : Sp := fun vs H Q _ => ∃ (c t : Addr) (p : Pr) (xs : List Str) (ps : List Pr), vs = [.ref c, .ref t] ∧ CAt C H c xs ps ∧ Good xs ps ∧ H t = some (.tup [.str p.1, .str p.2]) ∧ p ∈ prsS xs ∧ ∀ H', Same H H' → Q (.bl (decide (p ∈ ps))) H'
def degs (xs : List Str) (ps : List Pr) : List V := xs.map fun x => V.int ((frs ps x).length : Nat)
def spNums (C : Addr) : Sp := fun vs H Q _ => ∃ (c : Addr) (xs : List Str) (ps : List Pr), vs = [.ref c] ∧ CAt C H c xs ps ∧ Good xs ps ∧ ∀ (H' : Hp) (D : Addr), Same H H' → H D = none → H' D = some (.dK (dkv xs (degs xs ps))) → Q (.ref D) H'
section
variable {P : Program} {w : World} {K : PySem.W.Frag} {mg : Str → Option Value} {base : Heap}
end
end Wd
end
section
set_option maxRecDepth 100000
set_option maxHeartbeats 4000000
namespace Wd
open PySem L2
def spForks (C : Addr) : Sp := fun vs H Q _ => ∃ (c : Addr) (x : Str) (xs : List Str) (ps : List Pr), vs = [.ref c, .str x] ∧ CAt C H c xs ps ∧ Good xs ps ∧ x ∈ xs ∧ ∀ (H' : Hp) (D : Addr), Same H H' → H D = none → PwAt H' D (prsS (frs ps x)) → Q (.ref D) H'
def forkL (xs : List Str) (ps : List Pr) : List Int := xs.map fun x => ((prsS (frs ps x)).length : Int)
def spForkN (C : Addr) : Sp := fun vs H Q _ => ∃ (c : Addr) (xs : List Str) (ps : List Pr), vs = [.ref c] ∧ CAt C H c xs ps ∧ Good xs ps ∧ ∀ H', Same H H' → Q (.int (forkL xs ps).sum) H'
def oddF (ps : List Pr) (x : Str) : Bool := decide (V.int (((frs ps x).length : Nat) % 2 : Int) = V.int 1)
def spOddP (C : Addr) : Sp := fun vs H Q _ => ∃ (c : Addr) (xs : List Str) (ps : List Pr), vs = [.ref c] ∧ CAt C H c xs ps ∧ Good xs ps ∧ ∀ (H' : Hp) (D : Addr), Same H H' → H D = none → H' D = some (.lst ((xs.filter (oddF ps)).map V.str)) → Q (.ref D) H'
def pow (b : Bool) : Str := if b = true then "part" else "befriend"
def spIsChg : Sp := fun vs H Q _ => ∃ (t u : Addr) (b : Bool) (p : Pr), vs = [.ref t] ∧ H t = some (.tup [.str (pow b), .ref u]) ∧ H u = some (.tup [.str p.1, .str p.2]) ∧ IsW p.1 ∧ IsW p.2 ∧ Lt p.1 p.2 ∧ ∀ H', Same H H' → Q (.bl true) H'
def spFit (C : Addr) : Sp := fun vs H Q _ => ∃ (c t u : Addr) (p : Pr) (xs : List Str) (ps : List Pr), vs = [.ref c, .ref t] ∧ CAt C H c xs ps ∧ Good xs ps ∧ H t = some (.tup [.str (pow (decide (p ∈ ps))), .ref u]) ∧ H u = some (.tup [.str p.1, .str p.2]) ∧ p ∈ prsS xs ∧ ∀ H', Same H H' → Q (.bl true) H'
def spTurn (C : Addr) : Sp := fun vs H Q _ => ∃ (c u : Addr) (p : Pr) (xs : List Str) (ps : List Pr), vs = [.ref c, .ref u] ∧ CAt C H c xs ps ∧ Good xs ps ∧ H u = some (.tup [.str p.1, .str p.2]) ∧ p ∈ prsS xs ∧ ∀ (H' : Hp) (D : Addr), Same H H' → H D = none → CAt C H' D xs (flip xs ps p) → Q (.ref D) H'
def spChgd (C : Addr) : Sp := fun vs H Q _ => ∃ (c t u : Addr) (p : Pr) (xs : List Str) (ps : List Pr), vs = [.ref c, .ref t] ∧ CAt C H c xs ps ∧ Good xs ps ∧ H t = some (.tup [.str (pow (decide (p ∈ ps))), .ref u]) ∧ H u = some (.tup [.str p.1, .str p.2]) ∧ p ∈ prsS xs ∧
  ∀ (H' : Hp) (D : Addr), Same H H' → H D = none → CAt C H' D xs (flip xs ps p) → Q (.ref D) H'
theorem Good.flip {xs : List Str} {ps : List Pr} (g : Good xs ps) (p : Pr) : Good xs (Wd.flip xs ps p) := ⟨g.asc, g.word, g.few, List.filter_sublist⟩
section
variable {P : Program} {w : World} {K : PySem.W.Frag} {mg : Str → Option Value} {base : Heap}
end
end Wd
end
section
set_option maxRecDepth 100000
set_option maxHeartbeats 4000000
namespace Wd
open PySem L2
theorem flip_out {xs : List Str} {ps : List Pr} {p : Pr} (g : Good xs ps) (hp : p ∈ prsS xs) (n : p ∉ ps) : (ps ++ [p]).Perm (flip xs ps p) := by
  refine (List.perm_ext_iff_of_nodup ?_ ((g.flip p).nodup)).mpr fun q => ?_
  · rw [List.nodup_append]
    refine ⟨g.nodup, by simp, fun a ha b hb => ?_⟩
    rw [List.mem_singleton.mp hb]
    rintro rfl
    exact n ha
  · rw [List.mem_append, List.mem_singleton, mem_flip]
    constructor
    · rintro (h | h)
      · have z : q ≠ p := fun e => n (e ▸ h)
        exact ⟨g.sub.subset h, by simp [h, z]⟩
      · subst h
        exact ⟨hp, by simp [n]⟩
    · rintro ⟨h1, h2⟩
      by_cases z : q = p
      · exact .inr z
      · simp only [decide_eq_false z, Bool.bne_false] at h2
        exact .inl (of_decide_eq_true h2)
theorem flip_in {xs : List Str} {ps : List Pr} {p : Pr} (g : Good xs ps) (n : p ∈ ps) : ps.filter (fun q => decide (q ≠ p)) = flip xs ps p :=
  asc_uniq (g.ascP.filter _) ((prsS_asc g.asc).filter _) fun q => by
    rw [List.mem_filter, mem_flip]
    constructor
    · rintro ⟨h1, h2⟩
      have h3 := of_decide_eq_true h2
      exact ⟨g.sub.subset h1, by simp [h1, h3]⟩
    · rintro ⟨h1, h2⟩
      by_cases z : q = p
      · subst z
        simp [n] at h2
      · simp only [decide_eq_false z, Bool.bne_false] at h2
        exact ⟨of_decide_eq_true h2, decide_eq_true z⟩
/-- how a company is made -/
structure Maker (P : Program) (w : World) (K : PySem.W.Frag) (mg : Str → Option Value) (base : Heap) (C : Addr) : Prop where
  ex : ∃ (f : Addr) (fd : FuncData), Mk K C f ∧ FnOk P w K mg base CX0 4 f fd ["self", "people", "friends"] (spInit C) ∧ Binds K fd ["self", "people", "friends"] []
section
variable {P : Program} {w : World} {K : PySem.W.Frag} {mg : Str → Option Value} {base : Heap}
end
end Wd
end
section
set_option maxRecDepth 100000
set_option maxHeartbeats 4000000
namespace Wd
open PySem PySem.Spec PyProof.Rows L2
theorem pick_whole (items : Array Value) : slicePick items none none (some 1) = items := by
  have e : slicePick items none none (some 1) = slicePick items none none none := rfl
  have h := slicePick_cut items.toList none none
  rw [e, show items = items.toList.toArray from rfl, h]
  have z0 : HT.sIx items.toList.length 0 none = 0 := rfl
  have z1 : HT.sIx items.toList.length items.toList.length none = items.toList.length := rfl
  rw [z0, z1, List.drop_zero, Nat.sub_zero, List.take_length]
/-- xs[::step], step a name that is 1 or -1 -/
def tStepL (K : PySem.W.Frag) (te : TE) (i : Nat) : TE := fun σ H Q => te σ H fun x H1 => ∃ (a : Addr) (xs : List V) (b : Bool), x = .ref a ∧ σ[i]? = some (some (.int (if b = true then 1 else -1))) ∧ SqL K H1 a xs ∧ ∀ p, H1 p = none → Q (.ref p) (L2.upd H1 p (.lst (if b = true then xs else xs.reverse)))
theorem pe_stepL {X : Cx} {e : Expr} {te : TE} {i : Nat} {y : Str} {p1 p3 pos : Pos} (he : PE X e te) (hs : PE X (.Name y p1) (tVar i)) : PE X (.Subscript e (.Slice none none (some (.Name y p1)) p3) pos) (tStepL X.K te i) := by
  refine ⟨fun pins s σ H Q I h => Subscript_ (thn (he.run pins s σ H _ I h) ?_)⟩
  rintro v s1 ⟨x, H1, I1, r1, a, xs, b, rfl, hv, hx, k⟩
  cases r1
  have part : PO X (some (.Name y p1)) (tPart (tVar i)) := po_some hs
  refine wpAny_Slice (thn (po_none.run pins s1 σ H1 (fun o H2 => o = none ∧ H2 = H1) I1 ⟨rfl, rfl⟩) ?_)
  rintro vl s2 ⟨l, H2, I2, pl, rfl, rfl⟩
  refine thn (po_none.run pins s2 σ H2 (fun o H3 => o = none ∧ H3 = H2) I2 ⟨rfl, rfl⟩) ?_
  rintro vu s3 ⟨u, H3, I3, pu, rfl, rfl⟩
  refine thn (part.run pins s3 σ H3 (fun o H4 => o = some (if b = true then 1 else -1) ∧ H4 = H3) I3 ⟨_, hv, _, rfl, rfl, rfl⟩) ?_
  rintro vs s4 ⟨o, H4, I4, pt, rfl, rfl⟩
  have I5 : Inv X pins σ H4 { s4 with heap := s4.heap.push { cls := .type "slice", data := .fields #[vl, vu, vs] } } := I4.kept (t' := s4.toks) fun _ _ z => Heap.get?_push_of_some _ z
  obtain ⟨its, r, ht, hz⟩ := I5.list hx
  have hlen := r.length
  show wpAny (model X.prog X.w) X.A (subscriptTail e (.Slice none none (some (.Name y p1)) p3) (.ref a) (.ref s4.heap.objs.size)) (EP X pins σ Q) X.xe { s4 with heap := s4.heap.push { cls := .type "slice", data := .fields #[vl, vu, vs] } }
  refine tail_any (ops := [.ref a, .ref s4.heap.objs.size]) ht.isList.typeIs (PySem.slot_list_getitem.lookup) ?_ (by with_unfolding_all rfl)
  refine wpAny_getItem_list_slice ht.isList (Heap.IsSliceOf.new _ vl vu vs) pl pu pt (by cases b <;> decide) ?_ (by rw [List.size_toArray]; omega)
  cases b with
  | true =>
    have e1 : slicePick its.toArray none none (some (if true = true then 1 else -1)) = its.toArray := pick_whole _
    rw [e1]
    refine ⟨.ref _, _, I5.laid (t' := s4.toks) (o := .lst xs) (fun _ _ z => Heap.get?_push_of_some _ z) (Nat.le_refl _) ⟨hz, _, 0, r, Heap.get?_push_size _ rfl⟩, rfl, k _ (I5.hok.fresh (Nat.le_refl _))⟩
  | false =>
    have e1 : slicePick its.toArray none none (some (if false = true then 1 else -1)) = its.toArray.toList.reverse.toArray := PySem.W.krv_pick _
    rw [e1]
    refine ⟨.ref _, _, I5.laid (t' := s4.toks) (o := .lst xs.reverse) (fun _ _ z => Heap.get?_push_of_some _ z) (Nat.le_refl _) ⟨by rw [List.length_reverse]; exact hz, _, 0, r.reverse, Heap.get?_push_size _ rfl⟩, rfl, k _ (I5.hok.fresh (Nat.le_refl _))⟩
end Wd
end
section
set_option maxRecDepth 100000
set_option maxHeartbeats 4000000
namespace Wd
open PySem L2
theorem Tups.rev {H : Hp} {Ts : List Addr} {ps : List (V × V)} (t : Tups H Ts ps) : Tups H Ts.reverse ps.reverse := by
  refine ⟨by rw [List.length_reverse, List.length_reverse, t.1], fun k T p h1 h2 => ?_⟩
  have l1 : k < Ts.reverse.length := (List.getElem?_eq_some_iff.mp h1).1
  rw [List.length_reverse] at l1
  rw [List.getElem?_reverse l1] at h1
  rw [List.getElem?_reverse (by rw [← t.1]; exact l1), ← t.1] at h2
  exact t.2 _ T p h1 h2
theorem map_set {α β : Type} [DecidableEq α] {xs : List α} {f : α → β} {i : Nat} {x : α} {v : β} (nd : xs.Nodup) (h : xs[i]? = some x) : (xs.map f).set i v = xs.map fun y => if y = x then v else f y := by
  apply List.ext_getElem?
  intro j
  rw [List.getElem?_set, List.getElem?_map, List.getElem?_map]
  by_cases e : i = j
  · subst e
    have := (List.getElem?_eq_some_iff.mp h).1
    rw [if_pos rfl, if_pos (by rw [List.length_map]; exact this), h]
    simp
  · rw [if_neg e]
    cases hj : xs[j]? with
    | none => rfl
    | some y =>
      have : y ≠ x := fun z => e (nd_inj nd h (by rw [hj, z]))
      simp [this]
theorem merge_dkv : ∀ (more acc : List Str) (f : Str → V), (acc ++ more).Nodup → mergeK (dkv acc (acc.map f)) (dkv more (more.map f)) = dkv (acc ++ more) ((acc ++ more).map f)
  | [], acc, f, _ => by
    rw [List.append_nil]
    rfl
  | x :: more, acc, f, nd => by
    have nin : x ∉ acc := fun z => (List.nodup_append.mp nd).2.2 x z x List.mem_cons_self rfl
    have e : acc ++ x :: more = (acc ++ [x]) ++ more := by rw [List.append_assoc]; rfl
    show mergeK (putK (dkv acc (acc.map f)) (Sum.inr x) (f x)) (dkv more (more.map f)) = _
    rw [dkv_snoc nin (List.length_map _), e]
    have h := merge_dkv more (acc ++ [x]) f (by rw [← e]; exact nd)
    rw [List.map_append] at h
    exact h
theorem dkv_mem {xs : List Str} {vs : List V} {i : Nat} {kv : Key × V} (h : (dkv xs vs)[i]? = some kv) : ∃ x v, xs[i]? = some x ∧ vs[i]? = some v ∧ kv = (Sum.inr x, v) := by
  unfold dkv at h
  rw [List.getElem?_map] at h
  obtain ⟨z, hz, rfl⟩ := Option.map_eq_some_iff.mp h
  obtain ⟨z1, z2⟩ := List.getElem?_zip_eq_some.mp hz
  exact ⟨_, _, z1, z2, rfl⟩
theorem paired_of {α β : Type} {R : α → β → Prop} : ∀ {as : List α} {bs : List β}, as.length = bs.length → (∀ (i : Nat) a b, as[i]? = some a → bs[i]? = some b → R a b) → Paired R as bs
  | [], [], _, _ => .nil
  | [], b :: bs, h, _ => by simp at h
  | a :: as, [], h, _ => by simp at h
  | a :: as, b :: bs, h, r => .cons (r 0 a b rfl rfl) (paired_of (by simpa using h) fun i x y h1 h2 => r (i + 1) x y (by simpa using h1) (by simpa using h2))
def spComp (C : Addr) : Sp := fun vs H Q _ => ∃ (a : Addr) (xs : List Str) (ps : List Pr), vs = [.ref a] ∧ WAt H a xs ps ∧ Good xs ps ∧ ∀ (H' : Hp) (D : Addr), Same H H' → H D = none → CAt C H' D xs ps → Q (.ref D) H'
def spNumL : Sp := fun vs H Q _ => ∃ (a : Addr) (xs : List Str) (ps : List Pr), vs = [.ref a] ∧ WAt H a xs ps ∧ Good xs ps ∧ ∀ (H' : Hp) (D : Addr), Same H H' → H D = none → H' D = some (.dK (dkv xs (degs xs ps))) → Q (.ref D) H'
def spOddL : Sp := fun vs H Q _ => ∃ (a : Addr) (xs : List Str) (ps : List Pr), vs = [.ref a] ∧ WAt H a xs ps ∧ Good xs ps ∧ ∀ (H' : Hp) (D : Addr), Same H H' → H D = none → H' D = some (.lst ((xs.filter (oddF ps)).map V.str)) → Q (.ref D) H'
def spFrL : Sp := fun vs H Q _ => ∃ (a : Addr) (x : Str) (xs : List Str) (ps : List Pr), vs = [.ref a, .str x] ∧ WAt H a xs ps ∧ Good xs ps ∧ ∀ (H' : Hp) (D : Addr), Same H H' → H D = none → H' D = some (.lst ((frs ps x).map V.str)) → Q (.ref D) H'
def spFksL : Sp := fun vs H Q _ => ∃ (a : Addr) (xs : List Str) (ps : List Pr), vs = [.ref a] ∧ WAt H a xs ps ∧ Good xs ps ∧ ∀ H', Same H H' → Q (.int (forkL xs ps).sum) H'
section
variable {P : Program} {w : World} {K : PySem.W.Frag} {mg : Str → Option Value} {base : Heap}
theorem ok_company {f C : Addr} {fd : FuncData} (F : Fun K "_law_company" "_law_company" s_company f fd) (T : Bt mg) (TC : CT K mg C) (M : Maker P w K mg base C) : FnOk P w K mg base CX0 6 f fd ["_law_world_here"] (spComp C) := by
  obtain ⟨fI, fdI, MI, GI, bI⟩ := M.ex
  refine F.ok c_company (fun vs H Q E h => ?_) (fun cdv A outer s H vs Q E hr h => ?_)
  · obtain ⟨_, _, _, rfl, _⟩ := h
    rfl
  · obtain ⟨a, xs, ps, rfl, ⟨c, l, ha, hc, Ts, hl, tu⟩, g, k⟩ := h
    refine ⟨_, pss_cons (ps_set (i := 1) c_company.nd rfl (Or.inl rfl) (pe_op op_sub pe_int (pe_op op_mul pe_int (pe_op op_mod (pe_callTy call_int1 (by rfl) T.int (by decide +kernel) (pa_cons (pe_callB call_len_seq (by rfl) T.len PySem.boot_len (pa_cons (pe_ix ix_list (pv 0) pe_int (fun _ _ => rfl)) pa_nil)) pa_nil)) pe_int))))
      (pss_one (ps_ret (pe_make MI GI hr rfl TC.mC bI .nil pass0 (pa_cons (pe_stepL (i := 1) (pe_ix ix_list (pv 0) pe_int (fun _ _ => rfl)) (pv 1)) (pa_cons (pe_stepL (i := 1) (pe_ix ix_list (pv 0) pe_int (fun _ _ => rfl)) (pv 1)) pa_nil))))), ?_⟩
    have few := g.len
    have lT : Ts.length = ps.length := by rw [tu.1, List.length_map]
    refine ⟨_, rfl, a, _, _, .ref l, rfl, rfl, SqL.of ha, rfl, l, _, rfl, .inl (SqL.of hl), .inl ⟨_, rfl, ?_⟩⟩
    refine ⟨_, _, rfl, rfl, (by show (0 : Int) < 2; decide), _, _, rfl, rfl, .inl ⟨by decide, by decide⟩, _, _, rfl, rfl, ?_⟩
    have eb : ∃ b : Bool, (1 - 2 * (((Ts.map V.ref).length : Nat) % 2 : Int)) = if b = true then 1 else -1 := by
      rcases (show ((Ts.map V.ref).length : Int) % 2 = 0 ∨ ((Ts.map V.ref).length : Int) % 2 = 1 by omega) with z | z
      · exact ⟨true, by rw [z]; rfl⟩
      · exact ⟨false, by rw [z]; rfl⟩
    obtain ⟨b, eb⟩ := eb
    refine ⟨_, rfl, a, _, _, .ref c, rfl, rfl, SqL.of ha, rfl, c, xs.map V.str, b, rfl, congrArg (fun i => some (some (V.int i))) eb, SqL.of hc, fun L hL => ?_⟩
    have s1 := same_new (o := .lst (if b = true then xs.map V.str else (xs.map V.str).reverse)) hL
    refine ⟨_, rfl, a, _, _, .ref l, rfl, rfl, SqL.of (s1 _ _ ha), rfl, l, Ts.map V.ref, b, rfl, congrArg (fun i => some (some (V.int i))) eb, SqL.of (s1 _ _ hl), fun N hN => ?_⟩
    have s2 := same_updN (o := .lst (if b = true then Ts.map V.ref else (Ts.map V.ref).reverse)) s1 hN
    intro x dx nx ndx nex
    have nx' : upd (upd (upd H L (.lst (if b = true then xs.map V.str else (xs.map V.str).reverse))) N (.lst (if b = true then Ts.map V.ref else (Ts.map V.ref).reverse))) dx (.own x) x = none := by rw [upd_ne (Ne.symm nex)]; exact nx
    have s3 := same_updN (o := .ins C dx []) (same_new (o := .own x) ndx) nx'
    have nH : H x = none := same_none s2 nx
    have LN : L ≠ N := ne_of_none upd_same hN
    refine ⟨x, dx, L, N, if b = true then xs else xs.reverse, xs, if b = true then ps else ps.reverse, ps, rfl, upd_same, s3 _ _ ?_, ⟨if b = true then Ts else Ts.reverse, s3 _ _ ?_, ?_⟩, ?_, ?_, g, fun H4 sx ca => ⟨rfl, ?_⟩⟩
    · rw [upd_ne LN, upd_same]
      cases b <;> simp
    · rw [upd_same]
      cases b <;> simp
    · have t3 := tu.same (s2.trans s3)
      cases b with
      | true => exact t3
      | false =>
        have := t3.rev
        rw [← List.map_reverse (f := tv)] at this
        exact this
    · cases b with
      | true => exact List.Perm.refl _
      | false => exact List.reverse_perm _
    · cases b with
      | true => exact List.Perm.refl _
      | false => exact List.reverse_perm _
    · exact k H4 x (fun q o e => sx q o (ne_of_none e nH) ((s2.trans s3) _ _ e)) nH ca
end
end Wd
end
section
set_option maxRecDepth 100000
set_option maxHeartbeats 4000000
namespace Wd
open PySem L2
/-- 1 if the two are one of the pairs -/
def ev (ps : List Pr) (a b : Str) : Nat := if (a, b) ∈ ps then 1 else 0
/-- what a triple with so many friendships is worth -/
def gg (t : Nat) : Int := if t = 2 then 1 else if t = 3 then 3 else 0
def inn (ps : List Pr) (x y : Str) : List Str → Int
  | [] => 0
  | z :: s => gg (ev ps x y + ev ps x z + ev ps y z) + inn ps x y s
def row (ps : List Pr) (x : Str) : List Str → Int
  | [] => 0
  | y :: s => inn ps x y s + row ps x s
def tri (ps : List Pr) : List Str → Int
  | [] => 0
  | x :: r => row ps x r + tri ps r
def four (a b c d : Int) : List V := [.int a, .int b, .int c, .int d]
theorem slot4 (a b c d : Int) {t : Nat} (h : t ≤ 3) : ∃ v : Int, atI (four a b c d) (t : Int) = some (.int v) ∧ ixN (four a b c d).length (t : Int) = some t ∧ ∃ a' b' c' d' : Int, (four a b c d).set t (.int (v + 1)) = four a' b' c' d' ∧ c' + 3 * d' = c + 3 * d + gg t := by
  rcases (show t = 0 ∨ t = 1 ∨ t = 2 ∨ t = 3 by omega) with rfl | rfl | rfl | rfl
  · exact ⟨a, rfl, rfl, a + 1, b, c, d, rfl, by show _ = c + 3 * d + 0; omega⟩
  · exact ⟨b, rfl, rfl, a, b + 1, c, d, rfl, by show _ = c + 3 * d + 0; omega⟩
  · exact ⟨c, rfl, rfl, a, b, c + 1, d, rfl, by show _ = c + 3 * d + 1; omega⟩
  · exact ⟨d, rfl, rfl, a, b, c, d + 1, rfl, by show _ = c + 3 * d + 3; omega⟩
theorem drop_next {α : Type} {l : List α} {i : Nat} {x : α} (h : l[i]? = some x) : l.drop i = x :: l.drop (i + 1) := by
  obtain ⟨h1, h2⟩ := List.getElem?_eq_some_iff.mp h
  rw [List.drop_eq_getElem_cons h1, h2]
def spTri : Sp := fun vs H Q _ => ∃ (a : Addr) (xs : List Str) (ps : List Pr), vs = [.ref a] ∧ WAt H a xs ps ∧ Good xs ps ∧ ∀ (H' : Hp) (D : Addr) (a b c d : Int), Same H H' → H D = none → H' D = some (.lst (four a b c d)) → c + 3 * d = tri ps xs → Q (.ref D) H'
section
variable {P : Program} {w : World} {K : PySem.W.Frag} {mg : Str → Option Value} {base : Heap}
end
end Wd
end
section
set_option maxRecDepth 100000
set_option maxHeartbeats 4000000
namespace Wd
open PySem L2
def Atom (v : V) : Prop := (∃ i, v = .int i) ∨ (∃ x, v = .str x) ∨ ∃ b, v = .bl b
/-- the same data, at most n deep -/
inductive Sm (H : Hp) : Nat → V → V → Prop
  | atom {v : V} (n : Nat) (h : Atom v) : Sm H n v v
  | lst {n : Nat} {a b : Addr} {xs ys : List V} (ha : H a = some (.lst xs)) (hb : H b = some (.lst ys)) (l : xs.length = ys.length) (few : xs.length ≤ 100) (h : ∀ (i : Nat) x y, xs[i]? = some x → ys[i]? = some y → Sm H n x y) : Sm H (n + 1) (.ref a) (.ref b)
  | tup {n : Nat} {a b : Addr} {xs ys : List V} (ha : H a = some (.tup xs)) (hb : H b = some (.tup ys)) (l : xs.length = ys.length) (few : xs.length ≤ 100) (h : ∀ (i : Nat) x y, xs[i]? = some x → ys[i]? = some y → Sm H n x y) : Sm H (n + 1) (.ref a) (.ref b)
  | dct {n : Nat} {a b : Addr} {xs : List Str} {vs : List V} (ha : H a = some (.dK (dkv xs vs))) (hb : H b = some (.dK (dkv xs vs))) (ne : a ≠ b) (l : vs.length = xs.length) (few : xs.length ≤ 100) (nd : xs.Nodup) (h : ∀ v ∈ vs, Atom v) : Sm H (n + 2) (.ref a) (.ref b)
theorem Sm.same {H H' : Hp} (s : Same H H') : ∀ {n : Nat} {x y : V}, Sm H n x y → Sm H' n x y := by
  intro n x y h
  induction h with
  | atom n h => exact .atom n h
  | lst ha hb l few _ ih => exact .lst (s _ _ ha) (s _ _ hb) l few ih
  | tup ha hb l few _ ih => exact .tup (s _ _ ha) (s _ _ hb) l few ih
  | dct ha hb ne l few nd h => exact .dct (s _ _ ha) (s _ _ hb) ne l few nd h
theorem Sm.up {H : Hp} {n : Nat} {x y : V} (h : Sm H n x y) : Sm H (n + 1) x y := by
  induction h with
  | atom n h => exact .atom _ h
  | lst ha hb l few _ ih => exact .lst ha hb l few ih
  | tup ha hb l few _ ih => exact .tup ha hb l few ih
  | dct ha hb ne l few nd h => exact .dct ha hb ne l few nd h
theorem Sm.le {H : Hp} {n m : Nat} {x y : V} (h : Sm H n x y) (l : n ≤ m) : Sm H m x y := by
  induction l with
  | refl => exact h
  | step _ ih => exact ih.up
def spExact (n : Nat) : Sp := fun vs H Q _ => ∃ x y : V, vs = [x, y] ∧ Sm H n x y ∧ ∀ H', Same H H' → Q (.bl true) H'
theorem kit2 {K : PySem.W.Frag} {a : String} {b c : Bool} (h1 : kitB a "list" = some b) (h2 : kitB a "tuple" = some c) : PySem.W.kitAny K (.type a) [.type "list", .type "tuple"] = some (b || c) := by
  cases b with
  | true => exact kitAny_cons (kit_ty h1) (fun z => nomatch z) fun _ => rfl
  | false =>
    refine kitAny_cons (kit_ty h1) (fun _ => ?_) (fun z => nomatch z)
    cases c with
    | true => exact kitAny_cons (kit_ty h2) (fun z => nomatch z) fun _ => rfl
    | false => exact kitAny_cons (kit_ty h2) (fun _ => rfl) (fun z => nomatch z)
/-- the class of a plain thing, and what isinstance says of it -/
structure Cl (K : PySem.W.Frag) (H : Hp) (v : V) (t : String) (l u d i b : Bool) : Prop where
  ty : TyX K H v (.type t)
  l : kitB t "list" = some l
  u : kitB t "tuple" = some u
  d : kitB t "dict" = some d
  i : kitB t "int" = some i
  b : kitB t "bool" = some b
theorem atom_cl {K : PySem.W.Frag} {H : Hp} {v : V} (h : Atom v) : ∃ t i b, Cl K H v t false false false i b := by
  rcases h with ⟨z, rfl⟩ | ⟨z, rfl⟩ | ⟨z, rfl⟩
  · exact ⟨"int", true, false, .base (.int z), by decide +kernel, by decide +kernel, by decide +kernel, by decide +kernel, by decide +kernel⟩
  · exact ⟨"str", false, false, .base (.str z), by decide +kernel, by decide +kernel, by decide +kernel, by decide +kernel, by decide +kernel⟩
  · exact ⟨"bool", true, true, .base (.bl z), by decide +kernel, by decide +kernel, by decide +kernel, by decide +kernel, by decide +kernel⟩
theorem atom_flat {v : V} (h : Atom v) : scal v v = true := by
  rcases h with ⟨z, rfl⟩ | ⟨z, rfl⟩ | ⟨z, rfl⟩ <;> rfl
section
variable {P : Program} {w : World} {K : PySem.W.Frag} {mg : Str → Option Value} {base : Heap}
theorem ok_exact0 {f : Addr} {fd : FuncData} (F : Fun K "_law_exact" "_law_exact" s_exact f fd) (T : Bt mg) : FnOk P w K mg base CX0 1 f fd ["_law_mine", "_law_theirs"] (spExact 0) := by
  refine F.ok c_exact (fun vs H Q E h => ?_) (fun cdv A outer s H vs Q E hr h => ?_)
  · obtain ⟨_, _, rfl, _⟩ := h
    rfl
  · obtain ⟨x, y, rfl, sm, k⟩ := h
    refine ⟨_, pss_cons (ps_if (pt_val (pe_callB call_isiT (by rfl) T.isi (by decide +kernel) (pa_cons (pv 0) (pa_cons (pe_tup (pa_cons (pe_bltn (v := .ty "list") (by rfl) T.list (by decide +kernel) rfl) (pa_cons (pe_bltn (v := .ty "tuple") (by rfl) T.tuple (by decide +kernel) rfl) pa_nil))) pa_nil)))) pss_never pss_nil)
      (pss_cons (ps_if (pt_val (pe_callB call_isi (by rfl) T.isi (by decide +kernel) (pa_cons (pv 0) (pa_cons (pe_bltn (v := .ty "dict") (by rfl) T.dict (by decide +kernel) rfl) pa_nil)))) pss_never pss_nil)
      (pss_cons (ps_set (i := 2) c_exact.nd rfl (Or.inl rfl) (pe_cmpR op_eq (pe_callB call_isi (by rfl) T.isi (by decide +kernel) (pa_cons (pv 0) (pa_cons (pe_bltn (v := .ty "int") (by rfl) T.int (by decide +kernel) rfl) pa_nil))) (pe_callB call_isi (by rfl) T.isi (by decide +kernel) (pa_cons (pv 1) (pa_cons (pe_bltn (v := .ty "int") (by rfl) T.int (by decide +kernel) rfl) pa_nil))) (nomark _)))
      (pss_one (ps_ret (pe_and (pv 2) (pe_and (pe_cmpR op_eq (pe_callB call_isi (by rfl) T.isi (by decide +kernel) (pa_cons (pv 0) (pa_cons (pe_bltn (v := .ty "bool") (by rfl) T.bool (by decide +kernel) rfl) pa_nil))) (pe_callB call_isi (by rfl) T.isi (by decide +kernel) (pa_cons (pv 1) (pa_cons (pe_bltn (v := .ty "bool") (by rfl) T.bool (by decide +kernel) rfl) pa_nil))) (nomark _))
        (pe_one (pe_cmpR op_eq (pv 0) (pv 1) (nomark _))))))))), ?_⟩
    cases sm with
    | atom _ ha =>
      obtain ⟨t, i, b, C⟩ := atom_cl (K := K) (H := H) ha
      refine ⟨_, rfl, by show 2 ≤ sizeLine; decide, fun T1 hT1 => ?_⟩
      obtain ⟨t', i', b', C'⟩ := atom_cl (K := K) (H := upd H T1 (.tup [.ty "list", .ty "tuple"])) ha
      refine ⟨_, T1, _, _, _, _, rfl, upd_same, .cons (.ty "list") (.cons (.ty "tuple") .nil), C'.ty, kit2 C'.l C'.u, _, rfl, iteF ?_⟩
      refine ⟨_, rfl, _, _, _, _, _, rfl, .ty "dict", C'.ty, kit_ty C'.d, _, rfl, iteF ?_⟩
      refine ⟨_, rfl, _, _, _, _, _, rfl, .ty "int", C'.ty, kit_ty C'.i, _, rfl, _, _, _, _, _, rfl, .ty "int", C'.ty, kit_ty C'.i, rfl, ?_⟩
      refine ⟨_, rfl, _, rfl, ite_t (decide_eq_true rfl) ?_⟩
      refine ⟨_, rfl, _, _, _, _, _, rfl, .ty "bool", C'.ty, kit_ty C'.b, _, rfl, _, _, _, _, _, rfl, .ty "bool", C'.ty, kit_ty C'.b, rfl, _, rfl, ite_t (decide_eq_true rfl) ?_⟩
      refine ⟨_, rfl, _, rfl, atom_flat ha, ?_⟩
      rw [decide_eq_true rfl]
      exact k _ (same_new hT1)
theorem walk_zipT {a b : Addr} {xs ys : List V} {n : Nat} (h1 : xs.length = n) (h2 : ys.length = n) : Walk (RZ.ItzT K a b) n (fun H => SqT K H a xs ∧ SqT K H b ys) (YPair (fun i => xs[i]?) (fun i => ys[i]?)) := by
  refine ⟨fun i H hi q => ⟨xs, ys, xs[i]'(by omega), ys[i]'(by omega), q.1, q.2, List.getElem?_eq_getElem _, List.getElem?_eq_getElem _⟩, fun H q => ⟨xs, ys, q.1, q.2, .inl (by omega)⟩, ?_⟩
  rintro i H v H' hi q ⟨T0, x, y, e1, e2, e3, e4, e5⟩
  exact ⟨T0, x, y, e1, e2, e3, e4 xs q.1, e5 ys q.2⟩
theorem ok_exactS {f : Addr} {fd : FuncData} {m : Nat} (F : Fun K "_law_exact" "_law_exact" s_exact f fd) (T : Bt mg) (mE : mg "_law_exact" = some (.ref f)) (bE : Binds K fd ["_law_mine", "_law_theirs"] []) (GE : FnOk P w K mg base CX0 (m + 1) f fd ["_law_mine", "_law_theirs"] (spExact m)) :
    FnOk P w K mg base CX0 (m + 2) f fd ["_law_mine", "_law_theirs"] (spExact (m + 1)) := by
  refine F.ok c_exact (fun vs H Q E h => ?_) (fun cdv A outer s H vs Q E hr h => ?_)
  · obtain ⟨_, _, rfl, _⟩ := h
    rfl
  · obtain ⟨x, y, rfl, sm, k⟩ := h
    have hu := hu_of hr
    refine ⟨_, pss_cons (ps_if (pt_val (pe_callB call_isiT (by rfl) T.isi (by decide +kernel) (pa_cons (pv 0) (pa_cons (pe_tup (pa_cons (pe_bltn (v := .ty "list") (by rfl) T.list (by decide +kernel) rfl) (pa_cons (pe_bltn (v := .ty "tuple") (by rfl) T.tuple (by decide +kernel) rfl) pa_nil))) pa_nil))))
        (pss_cons (ps_set (i := 2) c_exact.nd rfl (Or.inl rfl) (pe_and (pe_cmpR op_eq (pe_callB call_isi (by rfl) T.isi (by decide +kernel) (pa_cons (pv 1) (pa_cons (pe_bltn (v := .ty "list") (by rfl) T.list (by decide +kernel) rfl) pa_nil))) (pe_callB call_isi (by rfl) T.isi (by decide +kernel) (pa_cons (pv 0) (pa_cons (pe_bltn (v := .ty "list") (by rfl) T.list (by decide +kernel) rfl) pa_nil))) (nomark _)) (pe_one (pe_cmpR op_eq (pe_callB call_isi (by rfl) T.isi (by decide +kernel) (pa_cons (pv 1) (pa_cons (pe_bltn (v := .ty "tuple") (by rfl) T.tuple (by decide +kernel) rfl) pa_nil))) (pe_callB call_isi (by rfl) T.isi (by decide +kernel) (pa_cons (pv 0) (pa_cons (pe_bltn (v := .ty "tuple") (by rfl) T.tuple (by decide +kernel) rfl) pa_nil))) (nomark _)))))
        (pss_one (ps_ret (pe_and (pv 2) (pe_and (pe_cmpR op_eq (pe_callB call_len_seq (by rfl) T.len PySem.boot_len (pa_cons (pv 0) pa_nil)) (pe_callB call_len_seq (by rfl) T.len PySem.boot_len (pa_cons (pv 1) pa_nil)) (nomark _)) (pe_one (pe_callB (cr_all rfl) (by rfl) T.all (by decide +kernel) (pa_cons (pe_lc (own := [("_law_a", 3), ("_law_b", 4)]) (g := gTup K 2 (gCons (gName 3) (gCons (gName 4) gNil))) (tt := tYes) rfl c_exact.nd (RZ.pi_zipA (by rfl) T.zip (pa_cons (pv 0) (pa_cons (pv 1) pa_nil)))
          (blkOk_by (N := ["_law_mine", "_law_theirs", "_law_alike", "_law_a", "_law_b", "_law_key"]) (sc := defScope s_exact) (by decide +kernel)) (fun _ _ _ _ _ => pg_tup rfl (pgs_cons (pg_name (i := 3) c_exact.nd rfl (Or.inl rfl)) (pgs_cons (pg_name (i := 4) c_exact.nd rfl (Or.inl rfl)) pgs_nil))) (fun _ _ _ _ _ => pts_nil)
          (fun _ _ _ _ _ => pe_call GE hr rfl mE F.kp bE .nil pass0 (pa_cons (pv 3) (pa_cons (pv 4) pa_nil)))) pa_nil)))))))) pss_nil)
      (pss_cons (ps_if (pt_val (pe_callB call_isi (by rfl) T.isi (by decide +kernel) (pa_cons (pv 0) (pa_cons (pe_bltn (v := .ty "dict") (by rfl) T.dict (by decide +kernel) rfl) pa_nil))))
        (pss_cons (ps_set (i := 2) c_exact.nd rfl (Or.inl rfl) (pe_and (pe_callB call_isi (by rfl) T.isi (by decide +kernel) (pa_cons (pv 1) (pa_cons (pe_bltn (v := .ty "dict") (by rfl) T.dict (by decide +kernel) rfl) pa_nil))) (pe_one (pe_call GE hr rfl mE F.kp bE .nil pass0 (pa_cons (pe_callTy (call_listD rfl) (by rfl) T.list (by decide +kernel) (pa_cons (pv 0) pa_nil)) (pa_cons (pe_callTy (call_listD rfl) (by rfl) T.list (by decide +kernel) (pa_cons (pv 1) pa_nil)) pa_nil))))))
        (pss_one (ps_lock (ps_ret (pe_and (pv 2) (pe_one (pe_callB (cr_all rfl) (by rfl) T.all (by decide +kernel) (pa_cons (pe_lc (own := [("_law_key", 5)]) (g := gName 5) (tt := tYes) rfl c_exact.nd (pi_keys (pv 0))
          (blkOk_by (N := ["_law_mine", "_law_theirs", "_law_alike", "_law_a", "_law_b", "_law_key"]) (sc := defScope s_exact) (by decide +kernel)) (fun _ _ _ _ _ => pg_name (i := 5) c_exact.nd rfl (Or.inl rfl)) (fun _ _ _ _ _ => pts_nil)
          (fun _ _ _ _ _ => pe_call GE hr rfl mE F.kp bE .nil pass0 (pa_cons (pe_dget hu (pv 0) (pv 5) (fun _ _ => rfl)) (pa_cons (pe_dget hu (pv 1) (pv 5) (fun _ _ => rfl)) pa_nil)))) pa_nil)))))))) pss_nil)
      (pss_cons (ps_set (i := 2) c_exact.nd rfl (Or.inl rfl) (pe_cmpR op_eq (pe_callB call_isi (by rfl) T.isi (by decide +kernel) (pa_cons (pv 0) (pa_cons (pe_bltn (v := .ty "int") (by rfl) T.int (by decide +kernel) rfl) pa_nil))) (pe_callB call_isi (by rfl) T.isi (by decide +kernel) (pa_cons (pv 1) (pa_cons (pe_bltn (v := .ty "int") (by rfl) T.int (by decide +kernel) rfl) pa_nil))) (nomark _)))
      (pss_one (ps_ret (pe_and (pv 2) (pe_and (pe_cmpR op_eq (pe_callB call_isi (by rfl) T.isi (by decide +kernel) (pa_cons (pv 0) (pa_cons (pe_bltn (v := .ty "bool") (by rfl) T.bool (by decide +kernel) rfl) pa_nil))) (pe_callB call_isi (by rfl) T.isi (by decide +kernel) (pa_cons (pv 1) (pa_cons (pe_bltn (v := .ty "bool") (by rfl) T.bool (by decide +kernel) rfl) pa_nil))) (nomark _))
        (pe_one (pe_cmpR op_eq (pv 0) (pv 1) (nomark _))))))))), ?_⟩
    refine ⟨_, rfl, by show 2 ≤ sizeLine; decide, fun T1 hT1 => ?_⟩
    have s1 := same_new (o := .tup [.ty "list", .ty "tuple"]) hT1
    have sm1 := sm.same s1
    have hT := (upd_same : upd H T1 (.tup [.ty "list", .ty "tuple"]) T1 = some (.tup [.ty "list", .ty "tuple"]))
    generalize upd H T1 (.tup [.ty "list", .ty "tuple"]) = H1 at s1 sm1 hT ⊢
    clear sm
    cases sm1 with
    | atom _ ha =>
      obtain ⟨t', i', b', C'⟩ := atom_cl (K := K) (H := H1) ha
      refine ⟨_, T1, _, _, _, _, rfl, hT, .cons (.ty "list") (.cons (.ty "tuple") .nil), C'.ty, kit2 C'.l C'.u, _, rfl, iteF ?_⟩
      refine ⟨_, rfl, _, _, _, _, _, rfl, .ty "dict", C'.ty, kit_ty C'.d, _, rfl, iteF ?_⟩
      refine ⟨_, rfl, _, _, _, _, _, rfl, .ty "int", C'.ty, kit_ty C'.i, _, rfl, _, _, _, _, _, rfl, .ty "int", C'.ty, kit_ty C'.i, rfl, ?_⟩
      refine ⟨_, rfl, _, rfl, ite_t (decide_eq_true rfl) ?_⟩
      refine ⟨_, rfl, _, _, _, _, _, rfl, .ty "bool", C'.ty, kit_ty C'.b, _, rfl, _, _, _, _, _, rfl, .ty "bool", C'.ty, kit_ty C'.b, rfl, _, rfl, ite_t (decide_eq_true rfl) ?_⟩
      refine ⟨_, rfl, _, rfl, atom_flat ha, ?_⟩
      rw [decide_eq_true rfl]
      exact k _ s1
    | @lst _ a b xs ys ha hb l few h =>
      have c1 : Cl K H1 (.ref a) "list" true false false false false := ⟨.base (.lst ha), by decide +kernel, by decide +kernel, by decide +kernel, by decide +kernel, by decide +kernel⟩
      have c2 : Cl K H1 (.ref b) "list" true false false false false := ⟨.base (.lst hb), by decide +kernel, by decide +kernel, by decide +kernel, by decide +kernel, by decide +kernel⟩
      refine ⟨_, T1, _, _, _, _, rfl, hT, .cons (.ty "list") (.cons (.ty "tuple") .nil), c1.ty, kit2 c1.l c1.u, _, rfl, iteT ?_⟩
      refine ⟨_, rfl, _, _, _, _, _, rfl, .ty "list", c2.ty, kit_ty c2.l, _, rfl, _, _, _, _, _, rfl, .ty "list", c1.ty, kit_ty c1.l, rfl, _, rfl, ite_t (decide_eq_true rfl) ?_⟩
      refine ⟨_, rfl, _, _, _, _, _, rfl, .ty "tuple", c2.ty, kit_ty c2.u, _, rfl, _, _, _, _, _, rfl, .ty "tuple", c1.ty, kit_ty c1.u, rfl, ?_⟩
      refine ⟨_, rfl, _, rfl, ite_t (decide_eq_true rfl) ?_⟩
      refine ⟨_, rfl, a, _, rfl, .inl (SqL.of ha), _, rfl, b, _, rfl, .inl (SqL.of hb), rfl, _, rfl, ite_t (decide_eq_true (by rw [l])) ?_⟩
      refine ⟨_, rfl, _, rfl, a, b, xs, ys, rfl, .inl ⟨SqL.of ha, SqL.of hb, fun D hD => ?_⟩⟩
      refine lc_it (walk_zip (K := K) (a := a) (b := b) (xs := xs) (ys := ys) (n := xs.length) (by omega)) (fun i H' => Same H1 H' ∧ H' D = some (.lst (trues i))) ⟨same_new hD, upd_same⟩ (fun i H' _ z => ⟨SqL.of (z.1 _ _ ha), SqL.of (z.1 _ _ hb)⟩) ?_ ?_
      · rintro i v H2 H3 hi ⟨s2, hd⟩ ⟨T0, p, q, rfl, nT, rfl, ep, eq⟩
        refine ⟨T0, _, rfl, SqT.of upd_same, rfl, _, _, rfl, _, _, rfl, rfl, rfl, ?_⟩
        have s3 := same_updN (o := .tup [p, q]) s2 nT
        refine ⟨_, rfl, _, rfl, p, q, rfl, (h i p q ep eq).same s3, fun H4 s4 => ?_⟩
        have hd4 := s4 _ _ (show upd H2 T0 (.tup [p, q]) D = some (.lst (trues i)) by rw [upd_ne (ne_of_none hd nT)]; exact hd)
        refine ⟨_, hd4, by rw [trues_len, sizeLine_eq]; omega, same_over (s3.trans s4) hD, ?_⟩
        rw [upd_same, trues_next]
      · rintro H2 ⟨s2, hd⟩
        refine ⟨D, _, rfl, SqL.of hd, ?_⟩
        rw [trues_all]
        exact k H2 (s1.trans s2)
    | @tup _ a b xs ys ha hb l few h =>
      have c1 : Cl K H1 (.ref a) "tuple" false true false false false := ⟨.base (.tup ha), by decide +kernel, by decide +kernel, by decide +kernel, by decide +kernel, by decide +kernel⟩
      have c2 : Cl K H1 (.ref b) "tuple" false true false false false := ⟨.base (.tup hb), by decide +kernel, by decide +kernel, by decide +kernel, by decide +kernel, by decide +kernel⟩
      refine ⟨_, T1, _, _, _, _, rfl, hT, .cons (.ty "list") (.cons (.ty "tuple") .nil), c1.ty, kit2 c1.l c1.u, _, rfl, iteT ?_⟩
      refine ⟨_, rfl, _, _, _, _, _, rfl, .ty "list", c2.ty, kit_ty c2.l, _, rfl, _, _, _, _, _, rfl, .ty "list", c1.ty, kit_ty c1.l, rfl, _, rfl, ite_t (decide_eq_true rfl) ?_⟩
      refine ⟨_, rfl, _, _, _, _, _, rfl, .ty "tuple", c2.ty, kit_ty c2.u, _, rfl, _, _, _, _, _, rfl, .ty "tuple", c1.ty, kit_ty c1.u, rfl, ?_⟩
      refine ⟨_, rfl, _, rfl, ite_t (decide_eq_true rfl) ?_⟩
      refine ⟨_, rfl, a, _, rfl, .inr (SqT.of ha), _, rfl, b, _, rfl, .inr (SqT.of hb), rfl, _, rfl, ite_t (decide_eq_true (by rw [l])) ?_⟩
      refine ⟨_, rfl, _, rfl, a, b, xs, ys, rfl, .inr ⟨SqT.of ha, SqT.of hb, fun D hD => ?_⟩⟩
      refine lc_it (walk_zipT (K := K) (a := a) (b := b) (xs := xs) (ys := ys) (n := xs.length) rfl l.symm) (fun i H' => Same H1 H' ∧ H' D = some (.lst (trues i))) ⟨same_new hD, upd_same⟩ (fun i H' _ z => ⟨SqT.of (z.1 _ _ ha), SqT.of (z.1 _ _ hb)⟩) ?_ ?_
      · rintro i v H2 H3 hi ⟨s2, hd⟩ ⟨T0, p, q, rfl, nT, rfl, ep, eq⟩
        refine ⟨T0, _, rfl, SqT.of upd_same, rfl, _, _, rfl, _, _, rfl, rfl, rfl, ?_⟩
        have s3 := same_updN (o := .tup [p, q]) s2 nT
        refine ⟨_, rfl, _, rfl, p, q, rfl, (h i p q ep eq).same s3, fun H4 s4 => ?_⟩
        have hd4 := s4 _ _ (show upd H2 T0 (.tup [p, q]) D = some (.lst (trues i)) by rw [upd_ne (ne_of_none hd nT)]; exact hd)
        refine ⟨_, hd4, by rw [trues_len, sizeLine_eq]; omega, same_over (s3.trans s4) hD, ?_⟩
        rw [upd_same, trues_next]
      · rintro H2 ⟨s2, hd⟩
        refine ⟨D, _, rfl, SqL.of hd, ?_⟩
        rw [trues_all]
        exact k H2 (s1.trans s2)
    | @dct n a b xs vs ha hb ne l few nd h =>
      have c1 : Cl K H1 (.ref a) "dict" false false true false false := ⟨.base (.dK ha), by decide +kernel, by decide +kernel, by decide +kernel, by decide +kernel, by decide +kernel⟩
      have c2 : Cl K H1 (.ref b) "dict" false false true false false := ⟨.base (.dK hb), by decide +kernel, by decide +kernel, by decide +kernel, by decide +kernel, by decide +kernel⟩
      refine ⟨_, T1, _, _, _, _, rfl, hT, .cons (.ty "list") (.cons (.ty "tuple") .nil), c1.ty, kit2 c1.l c1.u, _, rfl, iteF ?_⟩
      refine ⟨_, rfl, _, _, _, _, _, rfl, .ty "dict", c1.ty, kit_ty c1.d, _, rfl, iteT ?_⟩
      refine ⟨_, rfl, _, _, _, _, _, rfl, .ty "dict", c2.ty, kit_ty c2.d, _, rfl, iteT ?_⟩
      have ekeys : (dkv xs vs).map (fun kv => kV kv.1) = xs.map V.str := by
        unfold dkv
        rw [List.map_map]
        have : ((xs.zip vs).map Prod.fst).map V.str = xs.map V.str := by rw [List.map_fst_zip (by omega)]
        rw [← this, List.map_map]
        rfl
      refine ⟨_, rfl, a, _, rfl, .inl ha, fun L hL => ?_⟩
      rw [ekeys]
      have s2 := same_new (o := .lst (xs.map V.str)) hL
      refine ⟨_, rfl, b, _, rfl, .inl (s2 _ _ hb), fun M hM => ?_⟩
      rw [ekeys]
      have s3 := same_updN (o := .lst (xs.map V.str)) s2 hM
      refine ⟨_, _, rfl, .lst (n := n) (xs := xs.map V.str) (ys := xs.map V.str) (by rw [upd_ne (ne_of_none upd_same hM), upd_same]) upd_same rfl (by rw [List.length_map]; exact few) (fun i p q hp hq => ?_), fun H4 s4 => ?_⟩
      · have : p = q := Option.some.inj (hp.symm.trans hq)
        subst this
        rw [List.getElem?_map] at hp
        obtain ⟨z, _, rfl⟩ := Option.map_eq_some_iff.mp hp
        exact .atom _ (.inr (.inl ⟨z, rfl⟩))
      have s14 := s3.trans s4
      have ha4 := s14 _ _ ha
      have hb4 := s14 _ _ hb
      refine ⟨a, _, ha4, True.intro, fun od => ?_⟩
      have hbl : upd H4 a (.frz od (.dK (dkv xs vs))) b = some (.dK (dkv xs vs)) := by rw [upd_ne (Ne.symm ne)]; exact hb4
      refine ⟨_, rfl, _, rfl, iteT ?_⟩
      refine ⟨_, rfl, a, od, rfl, .inl ⟨_, upd_same, fun D hD => ?_⟩⟩
      have Da : D ≠ a := fun z => by
        rw [z, upd_same] at hD
        cases hD
      refine lc_it (walk_keys (d := a) (o := od) (kvs := dkv xs vs)) (fun i H' => Same (upd H4 a (.frz od (.dK (dkv xs vs)))) H' ∧ H' D = some (.lst (trues i))) ⟨same_new hD, upd_same⟩ (fun i H' _ z => z.1 _ _ upd_same) ?_ ?_
      · rintro i v H5 _ hi ⟨s5, hd⟩ ⟨rfl, ky, vv, ek, rfl⟩
        rw [dkv_len l] at hi
        obtain ⟨x, v', hx, hv, e⟩ := dkv_mem ek
        obtain ⟨rfl, rfl⟩ := Prod.mk.inj e
        have g1 := dkv_get nd hx hv
        refine ⟨rfl, _, rfl, _, rfl, a, vv, rfl, .inl ⟨_, Sum.inr x, .inr ⟨od, s5 _ _ upd_same⟩, rfl, g1.symm⟩, _, rfl, _, rfl, b, vv, rfl, .inl ⟨_, Sum.inr x, .inl (s5 _ _ hbl), rfl, g1.symm⟩, ?_⟩
        refine ⟨_, _, rfl, .atom _ (h vv (List.mem_of_getElem? hv)), fun H6 s6 => ?_⟩
        refine ⟨_, s6 _ _ hd, by rw [trues_len, sizeLine_eq]; omega, same_over (s5.trans s6) hD, ?_⟩
        rw [upd_same, trues_next]
      · rintro H5 ⟨s5, hd⟩
        refine ⟨D, _, rfl, SqL.of hd, s5 _ _ upd_same, ?_⟩
        rw [trues_all]
        refine k _ fun q o e => ?_
        have e4 := s14 _ _ (s1 _ _ e)
        by_cases z : q = a
        · subst z
          rw [upd_same]
          exact ha4.symm.trans e4
        · rw [upd_ne z]
          exact s5 _ _ (by rw [upd_ne z]; exact e4)
theorem ok_exact {f : Addr} {fd : FuncData} (F : Fun K "_law_exact" "_law_exact" s_exact f fd) (T : Bt mg) (mE : mg "_law_exact" = some (.ref f)) (bE : Binds K fd ["_law_mine", "_law_theirs"] []) : ∀ n, FnOk P w K mg base CX0 (n + 1) f fd ["_law_mine", "_law_theirs"] (spExact n)
  | 0 => ok_exact0 F T
  | n + 1 => ok_exactS F T mE bE (ok_exact F T mE bE n)
end
end Wd
end
section
set_option maxRecDepth 100000
set_option maxHeartbeats 4000000
namespace Wd
open PySem L2
theorem sm_strs {H : Hp} {a b : Addr} {xs : List Str} (n : Nat) (ha : H a = some (.lst (xs.map V.str))) (hb : H b = some (.lst (xs.map V.str))) (few : xs.length ≤ 100) : Sm H (n + 1) (.ref a) (.ref b) :=
  .lst ha hb rfl (by rw [List.length_map]; exact few) fun i p q hp hq => by
    have e : p = q := Option.some.inj (hp.symm.trans hq)
    subst e
    rw [List.getElem?_map] at hp
    obtain ⟨z, _, rfl⟩ := Option.map_eq_some_iff.mp hp
    exact .atom _ (.inr (.inl ⟨z, rfl⟩))
theorem sm_pair {H : Hp} {a b : Addr} {p : Pr} (n : Nat) (ha : H a = some (.tup [.str p.1, .str p.2])) (hb : H b = some (.tup [.str p.1, .str p.2])) : Sm H (n + 1) (.ref a) (.ref b) :=
  .tup ha hb rfl (by show 2 ≤ 100; decide) fun i u v hp hq => by
    have e : u = v := Option.some.inj (hp.symm.trans hq)
    subst e
    have m := List.mem_of_getElem? hp
    rcases List.mem_cons.mp m with rfl | m
    · exact .atom _ (.inr (.inl ⟨_, rfl⟩))
    · rw [List.mem_singleton.mp m]
      exact .atom _ (.inr (.inl ⟨_, rfl⟩))
theorem sm_prs {H : Hp} {a b : Addr} {ps : List Pr} (n : Nat) (ha : PwAt H a ps) (hb : PwAt H b ps) (few : ps.length ≤ 100) : Sm H (n + 2) (.ref a) (.ref b) := by
  obtain ⟨Ts, h1, t1⟩ := ha
  obtain ⟨Us, h2, t2⟩ := hb
  have l1 := t1.1
  have l2 := t2.1
  rw [List.length_map] at l1 l2
  refine .lst h1 h2 (by rw [List.length_map, List.length_map, l1, l2]) (by rw [List.length_map, l1]; exact few) fun i u v hu hv => ?_
  rw [List.getElem?_map] at hu hv
  obtain ⟨T, hT, rfl⟩ := Option.map_eq_some_iff.mp hu
  obtain ⟨U, hU, rfl⟩ := Option.map_eq_some_iff.mp hv
  have il := (List.getElem?_eq_some_iff.mp hT).1
  obtain ⟨p, hp⟩ : ∃ p, ps[i]? = some p := ⟨_, List.getElem?_eq_getElem (by omega)⟩
  exact sm_pair n (t1.2 i T (tv p) hT (by rw [List.getElem?_map, hp]; rfl)) (t2.2 i U (tv p) hU (by rw [List.getElem?_map, hp]; rfl))
theorem sm_two {H : Hp} {a b : Addr} {x1 x2 y1 y2 : V} {n : Nat} (ha : H a = some (.lst [x1, x2])) (hb : H b = some (.lst [y1, y2])) (h1 : Sm H n x1 y1) (h2 : Sm H n x2 y2) : Sm H (n + 1) (.ref a) (.ref b) :=
  .lst ha hb rfl (by show 2 ≤ 100; decide) fun i u v hu hv => by
    rcases i with _ | _ | i
    · simp at hu hv
      subst hu hv
      exact h1
    · simp at hu hv
      subst hu hv
      exact h2
    · simp at hu
theorem sm_three {H : Hp} {a b : Addr} {x1 x2 x3 y1 y2 y3 : V} {n : Nat} (ha : H a = some (.lst [x1, x2, x3])) (hb : H b = some (.lst [y1, y2, y3])) (h1 : Sm H n x1 y1) (h2 : Sm H n x2 y2) (h3 : Sm H n x3 y3) : Sm H (n + 1) (.ref a) (.ref b) :=
  .lst ha hb rfl (by show 3 ≤ 100; decide) fun i u v hu hv => by
    rcases i with _ | _ | _ | i
    · simp at hu hv
      subst hu hv
      exact h1
    · simp at hu hv
      subst hu hv
      exact h2
    · simp at hu hv
      subst hu hv
      exact h3
    · simp at hu
theorem sm_bools {H : Hp} {a b : Addr} {bs : List Bool} (n : Nat) (ha : H a = some (.lst (bs.map V.bl))) (hb : H b = some (.lst (bs.map V.bl))) (few : bs.length ≤ 100) : Sm H (n + 1) (.ref a) (.ref b) :=
  .lst ha hb rfl (by rw [List.length_map]; exact few) fun i p q hp hq => by
    have e : p = q := Option.some.inj (hp.symm.trans hq)
    subst e
    rw [List.getElem?_map] at hp
    obtain ⟨z, _, rfl⟩ := Option.map_eq_some_iff.mp hp
    exact .atom _ (.inr (.inr ⟨z, rfl⟩))
/-- a list of things at R, one for each of xs, each as G says -/
def Each (H : Hp) (R : Addr) (xs : List Str) (G : Str → Addr → Hp → Prop) : Prop := ∃ Ls : List Addr, H R = some (.lst (Ls.map V.ref)) ∧ Ls.length = xs.length ∧ ∀ (i : Nat) x L, xs[i]? = some x → Ls[i]? = some L → G x L H
theorem Each.same {H H' : Hp} {R : Addr} {xs : List Str} {G : Str → Addr → Hp → Prop} (h : Each H R xs G) (s : Same H H') (mono : ∀ x L, G x L H → G x L H') : Each H' R xs G := by
  obtain ⟨Ls, h1, h2, h3⟩ := h
  exact ⟨Ls, s _ _ h1, h2, fun i x L e1 e2 => mono x L (h3 i x L e1 e2)⟩
theorem sm_each {H : Hp} {R S : Addr} {xs : List Str} {G G' : Str → Addr → Hp → Prop} {n : Nat} (h1 : Each H R xs G) (h2 : Each H S xs G') (few : xs.length ≤ 100) (h : ∀ x L M, x ∈ xs → G x L H → G' x M H → Sm H n (.ref L) (.ref M)) : Sm H (n + 1) (.ref R) (.ref S) := by
  obtain ⟨Ls, a1, a2, a3⟩ := h1
  obtain ⟨Ms, b1, b2, b3⟩ := h2
  refine .lst a1 b1 (by rw [List.length_map, List.length_map, a2, b2]) (by rw [List.length_map, a2]; exact few) fun i u v hu hv => ?_
  rw [List.getElem?_map] at hu hv
  obtain ⟨L, hL, rfl⟩ := Option.map_eq_some_iff.mp hu
  obtain ⟨M, hM, rfl⟩ := Option.map_eq_some_iff.mp hv
  have il := (List.getElem?_eq_some_iff.mp hL).1
  obtain ⟨x, hx⟩ : ∃ x, xs[i]? = some x := ⟨_, List.getElem?_eq_getElem (by omega)⟩
  exact h x L M (List.mem_of_getElem? hx) (a3 i x L hx hL) (b3 i x M hx hM)
/-- one more of them -/
theorem each_next {H0 H1 H2 : Hp} {R L : Addr} {xs : List Str} {i : Nat} {x : Str} {G : Str → Addr → Hp → Prop} {Ls : List Addr} (hR : H0 R = none) (s : Same H0 H1) (hr : H1 R = some (.lst (Ls.map V.ref))) (hx : xs[i]? = some x) (hl : Ls.length = (xs.take i).length) (ok : ∀ (j : Nat) y M, (xs.take i)[j]? = some y → Ls[j]? = some M → G y M H1)
    (s2 : Same H1 H2) (mono : ∀ y M, G y M H1 → G y M H2) (now : G x L H2) (keep : ∀ y M o, G y M H2 → G y M (upd H2 R o)) :
    ∃ Ms : List Addr, (Ls.map V.ref ++ [V.ref L]) = Ms.map V.ref ∧ Ms.length = (xs.take (i + 1)).length ∧ ∀ (j : Nat) y M, (xs.take (i + 1))[j]? = some y → Ms[j]? = some M → G y M (upd H2 R (.lst (Ms.map V.ref))) := by
  refine ⟨Ls ++ [L], by rw [List.map_append]; rfl, by rw [List.length_append, hl, take_next hx, List.length_append]; rfl, fun j y M hy hM => ?_⟩
  rw [take_next hx] at hy
  by_cases hj : j < Ls.length
  · rw [List.getElem?_append_left hj] at hM
    rw [List.getElem?_append_left (by rw [← hl]; exact hj)] at hy
    exact keep _ _ _ (mono _ _ (ok j y M hy hM))
  · rw [List.getElem?_append_right (by omega)] at hM
    rw [List.getElem?_append_right (by rw [← hl]; omega)] at hy
    rw [hl] at hM
    cases hq : j - (xs.take i).length with
    | zero =>
      rw [hq] at hM hy
      simp at hM hy
      subst hM hy
      exact keep _ _ _ now
    | succ q =>
      rw [hq] at hM
      simp at hM
/-- a list of the friends of x -/
def FrG (ps : List Pr) (D : Addr) : Str → Addr → Hp → Prop := fun x L H => L ≠ D ∧ H L = some (.lst ((frs ps x).map V.str))
def spStays (C : Addr) : Sp := fun vs H Q _ => ∃ (a c : Addr) (xs : List Str) (ps : List Pr), vs = [.ref a, .ref c] ∧ WAt H a xs ps ∧ CAt C H c xs ps ∧ Good xs ps ∧ ∀ H', Same H H' → Q (.bl true) H'
/-- the own ==, as a method -/
def HasEq (P : Program) (w : World) (K : PySem.W.Frag) (mg : Str → Option Value) (base : Heap) (C : Addr) : Prop :=
  ∃ (f : Addr) (fd : FuncData), FnOk P w K mg base CX0 1 f fd ["self", "other"] (spEq (CEq C)) ∧ PySem.W.findIn K (.ref C) "__eq__" = some (some (.ref f)) ∧ PySem.W.isFn K (.ref f) = true ∧ Binds K fd ["self", "other"] []
section
variable {P : Program} {w : World} {K : PySem.W.Frag} {mg : Str → Option Value} {base : Heap}
theorem ok_stays {f C : Addr} {fd : FuncData} (F : Fun K "_law_stays" "_law_stays" s_stays f fd) (T : Bt mg) (TC : CT K mg C) (MP : HasM P w K mg base C 1 "people" (spPplM C)) (MF : HasM P w K mg base C 1 "friends" (spFrM C)) (ME : HasEq P w K mg base C)
    (CE : Has P w K mg base 4 "_law_exact" ["_law_mine", "_law_theirs"] (spExact 3)) (CC : Has P w K mg base 6 "_law_company" ["_law_world_here"] (spComp C)) : FnOk P w K mg base CX0 7 f fd ["_law_world_here", "_law_company_here"] (spStays C) := by
  obtain ⟨fP, fdP, GP, mP, bP⟩ := MP
  obtain ⟨fF, fdF, GF, mF, bF⟩ := MF
  obtain ⟨fQ, fdQ, GQ, aQ, nQ, bQ⟩ := ME
  obtain ⟨fE, fdE, GE, mE, kE, bE⟩ := CE
  obtain ⟨fC, fdC, GC, mC, kC, bC⟩ := CC
  refine F.ok c_stays (fun vs H Q E h => ?_) (fun cdv A outer s H vs Q E hr h => ?_)
  · obtain ⟨_, _, _, _, rfl, _⟩ := h
    rfl
  · obtain ⟨a, c, xs, ps, rfl, W0, hc, g, k⟩ := h
    have hr1 : Room 1 _ := hr.mono (by decide)
    have hr4 : Room 4 _ := hr.mono (by decide)
    refine ⟨_, pss_one (ps_ret (pe_and (pe_call GE hr4 rfl mE kE bE .nil pass0 (pa_cons (pe_lst (pa_cons (pe_meth0 (pv 1) TC.is.cl mP GP hr1 bP .nil pass0) (pa_cons (pe_meth0 (pv 1) TC.is.cl mF GF hr1 bF .nil pass0) pa_nil)))
        (pa_cons (pv 0) pa_nil)))
      (pe_one (pe_cmpR (op_eqG (rcG_ins GQ aQ nQ bQ pass0) hr1) (pv 1) (pe_call GC hr rfl mC kC bC .nil pass0 (pa_cons (pv 0) pa_nil)) (nomark _))))), ?_⟩
    obtain ⟨dx, pa, pb, h1, h2, h3⟩ := id hc
    obtain ⟨wc, wl, ha, hwc, Ts, hwl, tu⟩ := id W0
    have l9 := g.few
    have few := g.len
    refine ⟨_, rfl, c, dx, _, rfl, h1, cF_no pa pb (by decide +kernel) (by decide +kernel), c, xs, ps, rfl, hc, by omega, fun L hL => ?_⟩
    have s1 := same_new (o := .lst (xs.map V.str)) hL
    have eL : upd H L (.lst (xs.map V.str)) L = some (.lst (xs.map V.str)) := upd_same
    generalize upd H L (.lst (xs.map V.str)) = H1 at s1 eL ⊢
    refine ⟨_, rfl, c, dx, _, rfl, s1 _ _ h1, cF_no pa pb (by decide +kernel) (by decide +kernel), c, xs, ps, rfl, hc.same s1, by omega, fun M H2 nM s2 hM => ?_⟩
    refine ⟨by show 2 ≤ sizeLine; decide, fun N1 hN1 => ?_⟩
    have s3 := same_updN (o := .lst [.ref L, .ref M]) (s1.trans s2) hN1
    have e3 : Same H2 (upd H2 N1 (.lst [.ref L, .ref M])) := same_new hN1
    have eN1 : upd H2 N1 (.lst [.ref L, .ref M]) N1 = some (.lst [.ref L, .ref M]) := upd_same
    generalize upd H2 N1 (.lst [.ref L, .ref M]) = H3 at s3 e3 eN1 ⊢
    have s6 := s3
    refine ⟨_, rfl, _, _, rfl, sm_two (n := 2) eN1 (s3 _ _ ha) (sm_strs 1 ((s2.trans e3) _ _ eL) (s3 _ _ hwc) (by omega)) (sm_prs 0 (hM.same e3) ⟨Ts, s3 _ _ hwl, tu.same s3⟩ (by omega)), fun H7 s7 => ?_⟩
    refine ⟨_, rfl, iteT ?_⟩
    have s67 := s6.trans s7
    refine ⟨_, rfl, _, rfl, a, xs, ps, rfl, W0.same s67, g, fun H8 Z s8 nZ cz => ?_⟩
    obtain ⟨dy, qa, qb, g1, g2, g3⟩ := id cz
    have c8 := (hc.same s67).same s8
    obtain ⟨dz, ra, rb, k1, k2, k3⟩ := id c8
    exact ⟨⟨c, Z, dz, dy, _, _, rfl, rfl, k1, g1, xs, ps, g, c8, cz⟩, fun H9 e9 => k H9 ((s67.trans s8).trans e9)⟩
end
end Wd
end
section
set_option maxRecDepth 100000
set_option maxHeartbeats 4000000
namespace Wd
open PySem L2
theorem frG_keep {ps : List Pr} {D : Addr} {H : Hp} (y : Str) (M : Addr) (o : HO) (h : FrG ps D y M H) : FrG ps D y M (upd H D o) := ⟨h.1, by rw [upd_ne h.1]; exact h.2⟩
theorem frG_same {ps : List Pr} {D : Addr} {H H' : Hp} (s : Same H H') (y : Str) (M : Addr) (h : FrG ps D y M H) : FrG ps D y M H' := ⟨h.1, s _ _ h.2⟩
theorem frG_sm {ps : List Pr} {D D' : Addr} {H : Hp} {x : Str} {L M : Addr} (g : (frs ps x).length ≤ 9) (h1 : FrG ps D x L H) (h2 : FrG ps D' x M H) : Sm H 1 (.ref L) (.ref M) := sm_strs 0 h1.2 h2.2 (by omega)
/-- which of the pairs are friends -/
def inB (xs : List Str) (ps : List Pr) : List Bool := (prsS xs).map fun p => decide (p ∈ ps)
def spStands (C : Addr) : Sp := spStays C
section
variable {P : Program} {w : World} {K : PySem.W.Frag} {mg : Str → Option Value} {base : Heap}
end
end Wd
end
section
set_option maxRecDepth 100000
set_option maxHeartbeats 4000000
namespace Wd
open PySem L2
def psum (h : Str → Str → Int) : List Str → Int
  | [] => 0
  | y :: s => (s.map (h y)).sum + psum h s
theorem sum_zero {α : Type} {f : α → Int} : ∀ {l : List α}, (∀ x ∈ l, f x = 0) → (l.map f).sum = 0
  | [], _ => rfl
  | x :: l, h => by
    rw [List.map_cons, List.sum_cons, h x List.mem_cons_self, sum_zero fun y hy => h y (List.mem_cons_of_mem _ hy)]
    rfl
theorem sum_add {α : Type} (f g : α → Int) : ∀ l : List α, (l.map fun x => f x + g x).sum = (l.map f).sum + (l.map g).sum
  | [] => rfl
  | x :: l => by
    rw [List.map_cons, List.sum_cons, sum_add f g l, List.map_cons, List.sum_cons, List.map_cons, List.sum_cons]
    omega
theorem psum_add (f g : Str → Str → Int) : ∀ l : List Str, psum (fun y z => f y z + g y z) l = psum f l + psum g l
  | [] => rfl
  | y :: l => by
    show (l.map fun z => f y z + g y z).sum + psum (fun y z => f y z + g y z) l = ((l.map (f y)).sum + psum f l) + ((l.map (g y)).sum + psum g l)
    rw [psum_add f g l, sum_add]
    omega
theorem sum_congr {α : Type} {f g : α → Int} {l : List α} (h : ∀ x ∈ l, f x = g x) : (l.map f).sum = (l.map g).sum := by
  rw [List.map_congr_left h]
theorem psum_congr {f g : Str → Str → Int} : ∀ {l : List Str}, l.Pairwise (fun y z => f y z = g y z) → psum f l = psum g l
  | [], _ => rfl
  | y :: l, h => by
    obtain ⟨h1, h2⟩ := List.pairwise_cons.mp h
    show (l.map (f y)).sum + psum f l = (l.map (g y)).sum + psum g l
    rw [psum_congr h2, sum_congr h1]
/-- all twos in both orders are the pairs both ways, and each with itself -/
theorem twice (k : Str → Str → Int) (h0 : ∀ u, k u u = 0) : ∀ r : List Str, (r.map fun u => (r.map (k u)).sum).sum = psum (fun y z => k y z + k z y) r
  | [] => rfl
  | x :: r => by
    have ih := twice k h0 r
    show (k x x + (r.map (k x)).sum) + (r.map fun u => (k u x + (r.map (k u)).sum)).sum = (r.map fun z => k x z + k z x).sum + psum (fun y z => k y z + k z y) r
    rw [sum_add, sum_add, h0, ih]
    omega
/-- what a triple is worth: its paths of two, by their middle -/
def GG (F : Str → Str → Int) (x y z : Str) : Int := F x y * F x z + (F y x * F y z + F z x * F z y)
def TT (F : Str → Str → Int) : List Str → Int
  | [] => 0
  | x :: r => psum (GG F x) r + TT F r
theorem centre (F : Str → Str → Int) (h0 : ∀ u, F u u = 0) : ∀ xs : List Str, (xs.map fun x => psum (fun y z => F x y * F x z) xs).sum = TT F xs
  | [] => rfl
  | x :: r => by
    have ih := centre F h0 r
    have e1 : psum (fun y z => F x y * F x z) (x :: r) = psum (fun y z => F x y * F x z) r := by
      show (r.map fun z => F x x * F x z).sum + psum (fun y z => F x y * F x z) r = _
      rw [sum_zero fun z _ => by rw [h0, Int.zero_mul]]
      omega
    have e2 : (r.map fun u => psum (fun y z => F u y * F u z) (x :: r)).sum = psum (fun y z => F y x * F y z + F z x * F z y) r + TT F r := by
      show (r.map fun u => ((r.map fun z => F u x * F u z).sum + psum (fun y z => F u y * F u z) r)).sum = _
      rw [sum_add, ih, twice (fun u z => F u x * F u z) (fun u => by show F u x * F u u = 0; rw [h0, Int.mul_zero]) r]
    show psum (fun y z => F x y * F x z) (x :: r) + (r.map fun u => psum (fun y z => F u y * F u z) (x :: r)).sum = psum (GG F x) r + TT F r
    rw [e1, e2]
    have e3 : psum (GG F x) r = psum (fun y z => F x y * F x z) r + psum (fun y z => F y x * F y z + F z x * F z y) r := psum_add _ _ r
    rw [e3]
    omega
def bq (q : Str → Bool) (y : Str) : Int := if q y = true then 1 else 0
theorem len_filter (q : Str → Bool) : ∀ r : List Str, ((r.filter q).length : Int) = (r.map (bq q)).sum
  | [] => rfl
  | y :: r => by
    rw [List.map_cons, List.sum_cons, ← len_filter q r]
    by_cases h : q y = true
    · rw [List.filter_cons_of_pos h, List.length_cons]
      unfold bq
      rw [if_pos h]
      omega
    · rw [List.filter_cons_of_neg h]
      unfold bq
      rw [if_neg h]
      omega
theorem len_pairs (q : Str → Bool) : ∀ xs : List Str, ((prsS (xs.filter q)).length : Int) = psum (fun y z => bq q y * bq q z) xs
  | [] => rfl
  | x :: r => by
    have ih := len_pairs q r
    show _ = (r.map fun z => bq q x * bq q z).sum + psum (fun y z => bq q y * bq q z) r
    rw [← ih]
    by_cases h : q x = true
    · rw [List.filter_cons_of_pos h]
      show (((r.filter q).map (fun y => (x, y)) ++ prsS (r.filter q)).length : Int) = _
      rw [List.length_append, List.length_map]
      have e : (r.map fun z => bq q x * bq q z) = r.map (bq q) := List.map_congr_left fun z _ => by
        have : bq q x = 1 := if_pos h
        rw [this, Int.one_mul]
      rw [e, ← len_filter]
      omega
    · rw [List.filter_cons_of_neg h, sum_zero fun z _ => by
        have : bq q x = 0 := if_neg h
        rw [this, Int.zero_mul]]
      omega
/-- 1 if x and y are friends -/
def FF (ps : List Pr) (x y : Str) : Int := bq (fun y => decide (y ≠ x ∧ mk x y ∈ ps)) y
theorem ff_self (ps : List Pr) (u : Str) : FF ps u u = 0 := by
  unfold FF bq
  rw [if_neg (by simp)]
theorem mk_comm (x y : Str) : mk x y = mk y x := by
  unfold mk
  by_cases c : Lt x y
  · rw [if_pos c, if_neg fun q => Lt.irr _ (c.tr q)]
  · by_cases d : Lt y x
    · rw [if_neg c, if_pos d]
    · rcases Lt.tri x y with q | q | q
      · exact absurd q c
      · subst q
        rfl
      · exact absurd q d
theorem ff_pos {ps : List Pr} {x y : Str} (h : y ≠ x ∧ mk x y ∈ ps) : FF ps x y = 1 := if_pos (decide_eq_true h)
theorem ff_neg {ps : List Pr} {x y : Str} (h : ¬ (y ≠ x ∧ mk x y ∈ ps)) : FF ps x y = 0 := if_neg fun z => h (of_decide_eq_true z)
theorem ff_comm (ps : List Pr) (x y : Str) : FF ps x y = FF ps y x := by
  by_cases c : y ≠ x ∧ mk x y ∈ ps
  · rw [ff_pos c, ff_pos ⟨Ne.symm c.1, by rw [mk_comm]; exact c.2⟩]
  · rw [ff_neg c, ff_neg fun z => c ⟨Ne.symm z.1, by rw [mk_comm]; exact z.2⟩]
theorem ff_ev {ps : List Pr} {x y : Str} (h : Lt x y) : FF ps x y = (ev ps x y : Nat) := by
  have e : mk x y = (x, y) := if_pos h
  have ne : y ≠ x := fun e => Lt.irr x (by rw [e] at h; exact h)
  unfold ev
  by_cases d : (x, y) ∈ ps
  · rw [ff_pos ⟨ne, by rw [e]; exact d⟩, if_pos d]
    rfl
  · rw [ff_neg fun z => d (by rw [← e]; exact z.2), if_neg d]
    rfl
theorem ev_le (ps : List Pr) (a b : Str) : ev ps a b = 0 ∨ ev ps a b = 1 := by
  unfold ev
  split
  · exact .inr rfl
  · exact .inl rfl
theorem gg_eq {ps : List Pr} {x y z : Str} (h1 : Lt x y) (h2 : Lt y z) : gg (ev ps x y + ev ps x z + ev ps y z) = GG (FF ps) x y z := by
  unfold GG
  rw [ff_comm ps y x, ff_comm ps z x, ff_comm ps z y, ff_ev h1, ff_ev (h1.tr h2), ff_ev h2]
  rcases ev_le ps x y with a | a <;> rcases ev_le ps x z with b | b <;> rcases ev_le ps y z with c | c <;> rw [a, b, c] <;> rfl
theorem inn_eq {ps : List Pr} {x y : Str} (h : Lt x y) : ∀ {s : List Str}, (∀ z ∈ s, Lt y z) → inn ps x y s = (s.map (GG (FF ps) x y)).sum
  | [], _ => rfl
  | z :: s, q => by
    show gg _ + inn ps x y s = GG (FF ps) x y z + (s.map (GG (FF ps) x y)).sum
    rw [inn_eq h fun u hu => q u (List.mem_cons_of_mem _ hu), gg_eq h (q z List.mem_cons_self)]
theorem row_eq {ps : List Pr} {x : Str} : ∀ {r : List Str}, Asc r → (∀ y ∈ r, Lt x y) → row ps x r = psum (GG (FF ps) x) r
  | [], _, _ => rfl
  | y :: r, a, h => by
    obtain ⟨a1, a2⟩ := List.pairwise_cons.mp a
    show inn ps x y r + row ps x r = (r.map (GG (FF ps) x y)).sum + psum (GG (FF ps) x) r
    rw [inn_eq (h y List.mem_cons_self) a1, row_eq a2 fun z hz => h z (List.mem_cons_of_mem _ hz)]
theorem tri_eq {ps : List Pr} : ∀ {xs : List Str}, Asc xs → tri ps xs = TT (FF ps) xs
  | [], _ => rfl
  | x :: r, a => by
    obtain ⟨a1, a2⟩ := List.pairwise_cons.mp a
    show row ps x r + tri ps r = psum (GG (FF ps) x) r + TT (FF ps) r
    rw [row_eq a2 a1, tri_eq a2]
/-- the forks are the triples with two friendships and three times the triangles -/
theorem forks_tri {xs : List Str} {ps : List Pr} (g : Good xs ps) : (forkL xs ps).sum = tri ps xs := by
  rw [tri_eq g.asc, ← centre (FF ps) (ff_self ps) xs]
  unfold forkL
  refine sum_congr fun x _ => ?_
  rw [frs_eq g, len_pairs]
  rfl
theorem perm_sum {l m : List Int} (h : l.Perm m) : l.sum = m.sum := by
  induction h with
  | nil => rfl
  | cons x _ ih => rw [List.sum_cons, List.sum_cons, ih]
  | swap x y l =>
    simp only [List.sum_cons]
    omega
  | trans _ _ h1 h2 => exact h1.trans h2
/-! the odd people are an even number -/
theorem one_of {a : Str} : ∀ {xs : List Str}, xs.Nodup → a ∈ xs → (xs.map fun x => if a = x then 1 else 0).sum = 1
  | [], _, h => nomatch h
  | x :: xs, nd, h => by
    obtain ⟨n1, n2⟩ := List.nodup_cons.mp nd
    rw [List.map_cons, List.sum_cons]
    by_cases e : a = x
    · subst e
      have z : (xs.map fun x => if a = x then 1 else 0).sum = 0 := by
        have : (xs.map fun x => if a = x then 1 else 0) = xs.map fun _ => 0 := List.map_congr_left fun y hy => if_neg (show ¬ a = y from fun q => n1 (by rw [q]; exact hy))
        rw [this]
        clear nd h n1 n2 this
        induction xs with
        | nil => rfl
        | cons _ _ ih => rw [List.map_cons, List.sum_cons, ih]
      rw [if_pos rfl, z]
    · rw [if_neg e, one_of n2 ((List.mem_cons.mp h).resolve_left e)]
theorem nsum_add {α : Type} (f g : α → Nat) : ∀ l : List α, (l.map fun x => f x + g x).sum = (l.map f).sum + (l.map g).sum
  | [] => rfl
  | x :: l => by
    rw [List.map_cons, List.sum_cons, nsum_add f g l, List.map_cons, List.sum_cons, List.map_cons, List.sum_cons]
    omega
theorem deg_sum {xs : List Str} (nd : xs.Nodup) : ∀ {ps : List Pr}, Of xs ps → (xs.map fun x => (frs ps x).length).sum = 2 * ps.length
  | [], ofs => by
    clear ofs
    have : (xs.map fun x => (frs [] x).length) = xs.map fun _ => 0 := rfl
    rw [this]
    clear nd this
    induction xs with
    | nil => rfl
    | cons _ _ ih =>
      rw [List.map_cons, List.sum_cons, ih]
      rfl
  | p :: ps, of => by
    have ih := deg_sum nd (ps := ps) fun q hq => of q (List.mem_cons_of_mem _ hq)
    obtain ⟨h1, h2, h3⟩ := of p List.mem_cons_self
    have ne : p.1 ≠ p.2 := fun e => Lt.irr p.2 (by rw [e] at h3; exact h3)
    have e : (xs.map fun x => (frs (p :: ps) x).length) = xs.map fun x => ((if p.1 = x then 1 else 0) + (if p.2 = x then 1 else 0)) + (frs ps x).length := List.map_congr_left fun x _ => by
      unfold frs
      rw [List.filterMap_cons]
      by_cases z1 : p.1 = x
      · have z2 : ¬ p.2 = x := fun q => ne (z1.trans q.symm)
        simp [z1, z2]
        omega
      · by_cases z2 : p.2 = x
        · simp [z1, z2]
          omega
        · simp [z1, z2]
    rw [e, nsum_add, nsum_add, one_of nd h1, one_of nd h2, ih, List.length_cons]
    omega
theorem odd_len (f : Str → Nat) (o : Str → Bool) (h : ∀ x, o x = decide (f x % 2 = 1)) : ∀ xs : List Str, (xs.filter o).length % 2 = (xs.map f).sum % 2
  | [] => rfl
  | x :: xs => by
    have ih := odd_len f o h xs
    rw [List.map_cons, List.sum_cons]
    by_cases c : o x = true
    · rw [List.filter_cons_of_pos c, List.length_cons]
      have : f x % 2 = 1 := by
        rw [h] at c
        exact of_decide_eq_true c
      omega
    · rw [List.filter_cons_of_neg c]
      have : ¬ f x % 2 = 1 := fun z => c (by rw [h]; exact decide_eq_true z)
      omega
theorem odd_even {xs : List Str} {ps : List Pr} (g : Good xs ps) : (xs.filter (oddF ps)).length % 2 = 0 := by
  rw [odd_len (fun x => (frs ps x).length) (oddF ps) (fun x => ?_) xs, deg_sum g.asc.nd g.of]
  · omega
  · unfold oddF
    refine decide_eq_decide.mpr ⟨fun e => ?_, fun e => ?_⟩
    · have := V.int.inj e
      omega
    · refine congrArg V.int ?_
      omega
end Wd
end
section
set_option maxRecDepth 100000
set_option maxHeartbeats 4000000
namespace Wd
open PySem L2
/-- a tuple of the numbers of kinds, written at the top -/
def KT (K : PySem.W.Frag) (t : Addr) : Prop := ∀ H : Hp, SqT K H t [.int 0, .int 1, .int 2]
def outF (p : Pr) (r : Str) : Bool := !decide (r ∈ [p.1, p.2])
/-- how many of a pair are friends of r -/
def kf (ps : List Pr) (p : Pr) (r : Str) : Nat := ([p.1, p.2].filter fun y => decide (y ∈ frs ps r)).length
def kfs (xs : List Str) (ps : List Pr) (p : Pr) : List Int := (xs.filter (outF p)).map fun r => ((kf ps p r : Nat) : Int)
def nmk (xs : List Str) (ps : List Pr) (p : Pr) (k : Int) : Int := ((kfs xs ps p).count k : Nat)
/-- a locked dictionary from the people to lists -/
def CirF (H : Hp) (D : Addr) (xs : List Str) (Ls : List Addr) (fs : Str → List Str) : Prop := (∃ o, H D = some (.frz o (.dK (dkv xs (Ls.map V.ref))))) ∧ Ls.length = xs.length ∧ ∀ (i : Nat) x L, xs[i]? = some x → Ls[i]? = some L → H L = some (.lst ((fs x).map V.str))
theorem CirF.same {H H' : Hp} {D : Addr} {xs : List Str} {Ls : List Addr} {fs : Str → List Str} (h : CirF H D xs Ls fs) (s : Same H H') : CirF H' D xs Ls fs := by
  obtain ⟨⟨o, a⟩, b, c⟩ := h
  exact ⟨⟨o, s _ _ a⟩, b, fun i x L e1 e2 => s _ _ (c i x L e1 e2)⟩
theorem CirF.of {H : Hp} {D : Addr} {xs : List Str} {Ls : List Addr} {fs : Str → List Str} (h : CirAt H D xs Ls fs) (o : _) : CirF (upd H D (.frz o (.dK (dkv xs (Ls.map V.ref))))) D xs Ls fs := by
  refine ⟨⟨o, upd_same⟩, h.2.1, fun i x L e1 e2 => ?_⟩
  have e := h.2.2.2 i x L e1 e2
  have n : L ≠ D := fun z => by
    rw [z, h.1] at e
    cases e
  rw [upd_ne n]
  exact e
def spIsCnt : Sp := fun vs H Q _ => ∃ i : Int, vs = [.int i] ∧ 0 ≤ i ∧ Q (.bl true) H
def spAmong (K : PySem.W.Frag) : Sp := fun vs H Q _ => ∃ (i : Int) (t : Addr), vs = [.int i, .ref t] ∧ SqT K H t [.int 0, .int 1, .int 2] ∧ (i = 0 ∨ i = 1 ∨ i = 2) ∧ Q .non H
def spKind : Sp := fun vs H Q _ => ∃ (D t : Addr) (r : Str) (p : Pr) (xs : List Str) (ps : List Pr) (Ls : List Addr), vs = [.ref D, .ref t, .str r] ∧ CirF H D xs Ls (frs ps) ∧ Good xs ps ∧ H t = some (.tup [.str p.1, .str p.2]) ∧ r ∈ xs ∧ ∀ H', Same H H' → Q (.int (kf ps p r : Nat)) H'
def spNumOf : Sp := fun vs H Q _ => ∃ (D t : Addr) (p : Pr) (xs : List Str) (ps : List Pr) (Ls : List Addr), vs = [.ref D, .ref t] ∧ CirF H D xs Ls (frs ps) ∧ Good xs ps ∧ H t = some (.tup [.str p.1, .str p.2]) ∧
  ∀ (H' : Hp) (L : Addr), Same H H' → H L = none → H' L = some (.lst [.int (nmk xs ps p 0), .int (nmk xs ps p 1), .int (nmk xs ps p 2)]) → Q (.ref L) H'
section
variable {P : Program} {w : World} {K : PySem.W.Frag} {mg : Str → Option Value} {base : Heap}
theorem ok_is_count {f : Addr} {fd : FuncData} (F : Fun K "is_count" "is_count" sp_is_count f fd) (T : Bt mg) : FnOk P w K mg base CX0 1 f fd ["value"] spIsCnt := by
  refine F.ok cp_is_count (fun vs H Q E h => ?_) (fun cdv A outer s H vs Q E hr h => ?_)
  · obtain ⟨_, rfl, _⟩ := h
    rfl
  · obtain ⟨i, rfl, h0, k⟩ := h
    refine ⟨_, pss_one (ps_ret (pe_and (pe_callB call_isi (by rfl) T.isi (by decide +kernel) (pa_cons (pv 0) (pa_cons (pe_bltn (v := .ty "int") (by rfl) T.int (by decide +kernel) rfl) pa_nil)))
      (pe_and (pe_not (pe_callB call_isi (by rfl) T.isi (by decide +kernel) (pa_cons (pv 0) (pa_cons (pe_bltn (v := .ty "bool") (by rfl) T.bool (by decide +kernel) rfl) pa_nil))))
      (pe_one (pe_cmpR op_ge (pv 0) pe_int (nomark _)))))), ?_⟩
    refine ⟨_, rfl, _, _, _, _, _, rfl, .ty "int", .base (.int i), kit_ty (a := "int") (r := true) (by decide +kernel), _, rfl, iteT ?_⟩
    refine ⟨_, rfl, _, _, _, _, _, rfl, .ty "bool", .base (.int i), kit_ty (a := "int") (r := false) (by decide +kernel), _, rfl, _, rfl, iteT ?_⟩
    refine ⟨_, rfl, _, _, rfl, rfl, ?_⟩
    show Q (.bl (decide (0 ≤ i))) H
    rw [decide_eq_true h0]
    exact k
end
end Wd
end
section
set_option maxRecDepth 100000
set_option maxHeartbeats 4000000
namespace Wd
open PySem L2
theorem nin_pair (r : Str) (p : Pr) : (!inV (.str r) [.str p.1, .str p.2]) = outF p r := by
  have e := in_strs r [p.1, p.2]
  unfold outF
  rw [← e]
  rfl
def oddK (xs : List Str) (ps : List Pr) (k : Int) (p : Pr) : Bool := decide (nmk xs ps p k % 2 = 1)
def thL (xs : List Str) (ps : List Pr) (p : Pr) (k : Int) : List Str := xs.filter fun r => outF p r && decide (((kf ps p r : Nat) : Int) = k)
def spOddPr : Sp := fun vs H Q _ => ∃ (D t : Addr) (k : Int) (p : Pr) (xs : List Str) (ps : List Pr) (Ls : List Addr), vs = [.ref D, .ref t, .int k] ∧ CirF H D xs Ls (frs ps) ∧ Good xs ps ∧ H t = some (.tup [.str p.1, .str p.2]) ∧ (k = 0 ∨ k = 1 ∨ k = 2) ∧ ∀ H', Same H H' → Q (.bl (oddK xs ps k p)) H'
def spThird (C : Addr) : Sp := fun vs H Q _ => ∃ (c t : Addr) (k : Int) (p : Pr) (xs : List Str) (ps : List Pr), vs = [.ref c, .ref t, .int k] ∧ CAt C H c xs ps ∧ Good xs ps ∧ H t = some (.tup [.str p.1, .str p.2]) ∧ p ∈ prsS xs ∧ (k = 0 ∨ k = 1 ∨ k = 2) ∧
  ∀ (H' : Hp) (L : Addr), Same H H' → H L = none → H' L = some (.lst ((thL xs ps p k).map V.str)) → Q (.ref L) H'
def numL (xs : List Str) (ps : List Pr) (p : Pr) : List V := [.int (nmk xs ps p 0), .int (nmk xs ps p 1), .int (nmk xs ps p 2)]
def spKN (C : Addr) : Sp := fun vs H Q _ => ∃ (c t : Addr) (p : Pr) (xs : List Str) (ps : List Pr), vs = [.ref c, .ref t] ∧ CAt C H c xs ps ∧ Good xs ps ∧ H t = some (.tup [.str p.1, .str p.2]) ∧ p ∈ prsS xs ∧
  ∀ (H' : Hp) (L : Addr), Same H H' → H L = none → H' L = some (.lst (numL xs ps p)) → Q (.ref L) H'
section
variable {P : Program} {w : World} {K : PySem.W.Frag} {mg : Str → Option Value} {base : Heap}
end
end Wd
end
section
set_option maxRecDepth 100000
set_option maxHeartbeats 4000000
namespace Wd
open PySem L2
def spOddPs (C : Addr) : Sp := fun vs H Q _ => ∃ (c : Addr) (k : Int) (xs : List Str) (ps : List Pr), vs = [.ref c, .int k] ∧ CAt C H c xs ps ∧ Good xs ps ∧ (k = 0 ∨ k = 1 ∨ k = 2) ∧
  ∀ (H' : Hp) (L : Addr), Same H H' → H L = none → PwAt H' L ((prsS xs).filter (oddK xs ps k)) → Q (.ref L) H'
def oddN (xs : List Str) (ps : List Pr) (k : Int) (x : Str) : List Str := xs.filter fun y => decide (y ≠ x) && oddK xs ps k (mk x y)
def spOddFs (C : Addr) : Sp := fun vs H Q _ => ∃ (c : Addr) (x : Str) (k : Int) (xs : List Str) (ps : List Pr), vs = [.ref c, .str x, .int k] ∧ CAt C H c xs ps ∧ Good xs ps ∧ x ∈ xs ∧ (k = 0 ∨ k = 1 ∨ k = 2) ∧
  ∀ (H' : Hp) (L : Addr), Same H H' → H L = none → H' L = some (.lst ((oddN xs ps k x).map V.str)) → Q (.ref L) H'
section
variable {P : Program} {w : World} {K : PySem.W.Frag} {mg : Str → Option Value} {base : Heap}
theorem ok_ppair_of {f : Addr} {fd : FuncData} (F : Fun K "pair_of" "pair_of" sp_pair_of f fd) : FnOk P w K mg base CX0 1 f fd ["one", "other"] spPair := by
  refine F.ok cp_pair_of (fun vs H Q E h => ?_) (fun cdv A outer s H vs Q E hr h => ?_)
  · obtain ⟨_, _, rfl, _⟩ := h
    rfl
  · obtain ⟨a, b, rfl, k⟩ := h
    refine ⟨_, pss_one (ps_ret (pe_ifExp (pt_cmpR op_lt_str (pv 0) (pv 1) (nomark _)) (pe_tup (pa_cons (pv 0) (pa_cons (pv 1) pa_nil))) (pe_tup (pa_cons (pv 1) (pa_cons (pv 0) pa_nil))))), ?_⟩
    refine ⟨_, rfl, _, rfl, _, _, rfl, rfl, _, rfl, ?_⟩
    refine ite2 (fun hb => ?_) (fun hb => ?_)
    · have c : Lt a b := of_decide_eq_true hb
      refine ⟨_, rfl, _, rfl, by show 2 ≤ sizeLine; decide, fun T hT => ?_⟩
      have q := k T hT
      unfold mk at q
      rw [if_pos c] at q
      exact q
    · have c : ¬ Lt a b := fun z => hb (decide_eq_true z)
      refine ⟨_, rfl, _, rfl, by show 2 ≤ sizeLine; decide, fun T hT => ?_⟩
      have q := k T hT
      unfold mk at q
      rw [if_neg c] at q
      exact q
end
end Wd
end
section
set_option maxRecDepth 100000
set_option maxHeartbeats 4000000
namespace Wd
open PySem L2
/-! data, and where it stands: lists only at addresses that A allows -/
inductive Dt
  | atm (v : V)
  | ls (l : List Dt)
  | tp (l : List Dt)
inductive Is (A : Addr → Prop) (H : Hp) : Nat → Dt → V → Prop
  | atm {v : V} (n : Nat) (h : Atom v) : Is A H n (.atm v) v
  | ls {n : Nat} {a : Addr} {vs : List V} {ds : List Dt} (ha : H a = some (.lst vs)) (hA : A a) (l : vs.length = ds.length) (few : ds.length ≤ 100) (h : ∀ (i : Nat) v d, vs[i]? = some v → ds[i]? = some d → Is A H n d v) : Is A H (n + 1) (.ls ds) (.ref a)
  | tp {n : Nat} {a : Addr} {vs : List V} {ds : List Dt} (ha : H a = some (.tup vs)) (l : vs.length = ds.length) (few : ds.length ≤ 100) (h : ∀ (i : Nat) v d, vs[i]? = some v → ds[i]? = some d → Is A H n d v) : Is A H (n + 1) (.tp ds) (.ref a)
theorem Is.same {A : Addr → Prop} {H H' : Hp} (s : Same H H') {n : Nat} {d : Dt} {v : V} (h : Is A H n d v) : Is A H' n d v := by
  induction h with
  | atm n h => exact .atm n h
  | ls ha hA l few _ ih => exact .ls (s _ _ ha) hA l few ih
  | tp ha l few _ ih => exact .tp (s _ _ ha) l few ih
theorem Is.weak {A B : Addr → Prop} {H : Hp} (s : ∀ a, A a → B a) {n : Nat} {d : Dt} {v : V} (h : Is A H n d v) : Is B H n d v := by
  induction h with
  | atm n h => exact .atm n h
  | ls ha hA l few _ ih => exact .ls ha (s _ hA) l few ih
  | tp ha l few _ ih => exact .tp ha l few ih
theorem Is.up {A : Addr → Prop} {H : Hp} {n : Nat} {d : Dt} {v : V} (h : Is A H n d v) : Is A H (n + 1) d v := by
  induction h with
  | atm n h => exact .atm _ h
  | ls ha hA l few _ ih => exact .ls ha hA l few ih
  | tp ha l few _ ih => exact .tp ha l few ih
theorem Is.keep {A : Addr → Prop} {H : Hp} {R : Addr} {xs ys : List V} (hR : H R = some (.lst xs)) (nA : ¬ A R) {n : Nat} {d : Dt} {v : V} (h : Is A H n d v) : Is A (upd H R (.lst ys)) n d v := by
  induction h with
  | atm n h => exact .atm _ h
  | ls ha hA l few _ ih => exact .ls (by rw [upd_ne fun z => nA (by rw [← z]; exact hA)]; exact ha) hA l few ih
  | tp ha l few _ ih =>
    refine .tp ?_ l few ih
    rw [upd_ne fun z => ?_]
    · exact ha
    · rw [z, hR] at ha
      cases ha
theorem Is.sm {A B : Addr → Prop} {H : Hp} {n : Nat} {d : Dt} {v : V} (h : Is A H n d v) : ∀ {u : V}, Is B H n d u → Sm H n v u := by
  induction h with
  | atm n h =>
    intro u g
    cases g with
    | atm _ _ => exact .atom _ h
  | @ls n a vs ds ha hA l few hh ih =>
    intro u g
    cases g with
    | ls hb hB l2 _ h2 =>
      refine .lst ha hb (l.trans l2.symm) (by rw [l]; exact few) fun i x y hx hy => ?_
      obtain ⟨d, hd⟩ : ∃ d, ds[i]? = some d := ⟨_, List.getElem?_eq_getElem (Nat.lt_of_lt_of_eq (List.getElem?_eq_some_iff.mp hx).1 l)⟩
      exact ih i x d hx hd (h2 i y d hy hd)
  | @tp n a vs ds ha l few hh ih =>
    intro u g
    cases g with
    | tp hb l2 _ h2 =>
      refine .tup ha hb (l.trans l2.symm) (by rw [l]; exact few) fun i x y hx hy => ?_
      obtain ⟨d, hd⟩ : ∃ d, ds[i]? = some d := ⟨_, List.getElem?_eq_getElem (Nat.lt_of_lt_of_eq (List.getElem?_eq_some_iff.mp hx).1 l)⟩
      exact ih i x d hx hd (h2 i y d hy hd)
/-- the list R under way, its items fresh since H0 -/
def Bld (H0 : Hp) (R : Addr) (H : Hp) (n : Nat) (ds : List Dt) : Prop := ∃ vs : List V, H R = some (.lst vs) ∧ vs.length = ds.length ∧ ∀ (i : Nat) v d, vs[i]? = some v → ds[i]? = some d → Is (fun a => H0 a = none) H n d v
theorem bld_nil {H0 : Hp} {R : Addr} {H : Hp} {n : Nat} (h : H R = some (.lst [])) : Bld H0 R H n [] := ⟨[], h, rfl, fun i v d e _ => by simp at e⟩
theorem bld_snoc {H0 H1 H2 : Hp} {R : Addr} {n : Nat} {ds : List Dt} {d : Dt} {v : V} (b : Bld H0 R H1 n ds) (s : Same H1 H2) (hv : Is (fun a => H0 a = none) H2 n d v) (hR : H0 R ≠ none) :
    ∃ vs : List V, H2 R = some (.lst vs) ∧ vs.length = ds.length ∧ Bld H0 R (upd H2 R (.lst (vs ++ [v]))) n (ds ++ [d]) := by
  obtain ⟨vs, h, l, at_⟩ := b
  refine ⟨vs, s _ _ h, l, vs ++ [v], upd_same, by rw [List.length_append, List.length_append, l]; rfl, fun i u e h1 h2 => ?_⟩
  refine Is.keep (s _ _ h) hR ?_
  by_cases c : i < vs.length
  · rw [List.getElem?_append_left c] at h1
    rw [List.getElem?_append_left (by rw [← l]; exact c)] at h2
    exact (at_ i u e h1 h2).same s
  · rw [List.getElem?_append_right (by omega)] at h1
    rw [List.getElem?_append_right (by omega), ← l] at h2
    cases hq : i - vs.length with
    | zero =>
      rw [hq] at h1 h2
      simp at h1 h2
      subst h1 h2
      exact hv
    | succ q =>
      rw [hq] at h1
      simp at h1
theorem bld_done {H0 : Hp} {R : Addr} {H : Hp} {n : Nat} {ds : List Dt} {B : Addr → Prop} (b : Bld H0 R H n ds) (hR : B R) (sub : ∀ a, H0 a = none → B a) (few : ds.length ≤ 100) : Is B H (n + 1) (.ls ds) (.ref R) := by
  obtain ⟨vs, h, l, at_⟩ := b
  exact .ls h hR l few fun i v d h1 h2 => (at_ i v d h1 h2).weak sub
theorem Bld.len {H0 : Hp} {R : Addr} {H : Hp} {n : Nat} {ds : List Dt} (b : Bld H0 R H n ds) : ∃ vs : List V, H R = some (.lst vs) ∧ vs.length = ds.length := by
  obtain ⟨vs, h, l, _⟩ := b
  exact ⟨vs, h, l⟩
/-- data that is atoms -/
def dS (xs : List Str) : Dt := .ls (xs.map fun x => .atm (.str x))
def dI (ns : List Int) : Dt := .ls (ns.map fun x => .atm (.int x))
def dP (p : Pr) : Dt := .tp [.atm (.str p.1), .atm (.str p.2)]
def dPs (ps : List Pr) : Dt := .ls (ps.map dP)
theorem is_map {α : Type} {A : Addr → Prop} {H : Hp} {a : Addr} {xs : List α} {f : α → V} (n : Nat) (hf : ∀ x, Atom (f x)) (ha : H a = some (.lst (xs.map f))) (hA : A a) (few : xs.length ≤ 100) : Is A H (n + 1) (.ls (xs.map fun x => .atm (f x))) (.ref a) :=
  .ls ha hA (by rw [List.length_map, List.length_map]) (by rw [List.length_map]; exact few) fun i v d h1 h2 => by
    rw [List.getElem?_map] at h1 h2
    cases hx : xs[i]? with
    | none =>
      rw [hx] at h1
      cases h1
    | some x =>
      rw [hx] at h1 h2
      cases h1
      cases h2
      exact .atm n (hf x)
theorem is_strs {A : Addr → Prop} {H : Hp} {a : Addr} {xs : List Str} (n : Nat) (ha : H a = some (.lst (xs.map V.str))) (hA : A a) (few : xs.length ≤ 100) : Is A H (n + 1) (dS xs) (.ref a) := is_map n (fun x => .inr (.inl ⟨x, rfl⟩)) ha hA few
theorem is_ints {A : Addr → Prop} {H : Hp} {a : Addr} {xs : List Int} (n : Nat) (ha : H a = some (.lst (xs.map V.int))) (hA : A a) (few : xs.length ≤ 100) : Is A H (n + 1) (dI xs) (.ref a) := is_map n (fun x => .inl ⟨x, rfl⟩) ha hA few
theorem is_prs {A : Addr → Prop} {H : Hp} {a : Addr} {ps : List Pr} (n : Nat) (ha : PwAt H a ps) (hA : A a) (few : ps.length ≤ 100) : Is A H (n + 2) (dPs ps) (.ref a) := by
  obtain ⟨Ts, h, t⟩ := ha
  have lT : Ts.length = ps.length := by rw [t.1, List.length_map]
  refine .ls h hA (by rw [List.length_map, List.length_map, lT]) (by rw [List.length_map]; exact few) fun i v d h1 h2 => ?_
  rw [List.getElem?_map] at h1 h2
  obtain ⟨T, hT, rfl⟩ := Option.map_eq_some_iff.mp h1
  obtain ⟨p, hp, rfl⟩ := Option.map_eq_some_iff.mp h2
  refine .tp (t.2 i T (tv p) hT (by rw [List.getElem?_map, hp]; rfl)) rfl (by show 2 ≤ 100; decide) fun j u e g1 g2 => ?_
  rcases j with _ | _ | j
  · simp [tv] at g1 g2
    subst g1 g2
    exact .atm n (.inr (.inl ⟨_, rfl⟩))
  · simp [tv] at g1 g2
    subst g1 g2
    exact .atm n (.inr (.inl ⟨_, rfl⟩))
  · simp at g1
/-! the law's kinds -/
theorem kf_two (ps : List Pr) (p : Pr) (r : Str) : kf ps p r = (if p.1 ∈ frs ps r then 1 else 0) + (if p.2 ∈ frs ps r then 1 else 0) := by
  unfold kf
  by_cases a : p.1 ∈ frs ps r <;> by_cases b : p.2 ∈ frs ps r <;> simp [a, b]
theorem kf_net {xs : List Str} {ps : List Pr} (g : Good xs ps) {p : Pr} {r : Str} (h : outF p r = true) : kf ps p r = (if mk r p.1 ∈ ps then 1 else 0) + (if mk r p.2 ∈ ps then 1 else 0) := by
  have lt : ∀ q ∈ ps, Lt q.1 q.2 := fun q hq => (g.of q hq).2.2
  have h : r ∉ [p.1, p.2] := of_decide_eq_true (by unfold outF at h; rw [← decide_not] at h; exact h)
  have n1 : p.1 ≠ r := fun z => h (by rw [z]; exact List.mem_cons_self)
  have n2 : p.2 ≠ r := fun z => h (by rw [z]; exact List.mem_cons_of_mem _ List.mem_cons_self)
  rw [kf_two]
  simp only [mem_frs lt, n1, n2, ne_eq, not_false_eq_true, true_and]
theorem frs_sym {xs : List Str} {ps : List Pr} (g : Good xs ps) {x y : Str} : x ∈ frs ps y ↔ y ∈ frs ps x := by
  have lt : ∀ q ∈ ps, Lt q.1 q.2 := fun q hq => (g.of q hq).2.2
  rw [mem_frs lt, mem_frs lt, mk_comm]
  exact ⟨fun h => ⟨Ne.symm h.1, h.2⟩, fun h => ⟨Ne.symm h.1, h.2⟩⟩
theorem nmk_snoc (xs : List Str) (ps : List Pr) (p : Pr) (x : Str) (k : Int) : nmk (xs ++ [x]) ps p k = nmk xs ps p k + if outF p x = true ∧ ((kf ps p x : Nat) : Int) = k then 1 else 0 := by
  unfold nmk kfs
  rw [List.filter_append, List.map_append, List.count_append]
  by_cases h : outF p x = true
  · have e : [x].filter (outF p) = [x] := by rw [List.filter_cons_of_pos h]; rfl
    rw [e]
    by_cases c : ((kf ps p x : Nat) : Int) = k
    · rw [if_pos ⟨h, c⟩]
      show ((_ + List.count k [((kf ps p x : Nat) : Int)] : Nat) : Int) = _
      rw [c, List.count_singleton_self]
      omega
    · rw [if_neg fun z => c z.2]
      show ((_ + List.count k [((kf ps p x : Nat) : Int)] : Nat) : Int) = _
      have : List.count k [((kf ps p x : Nat) : Int)] = 0 := List.count_eq_zero.mpr fun z => c (List.mem_singleton.mp z).symm
      rw [this]
      omega
  · have e : [x].filter (outF p) = [] := by rw [List.filter_cons_of_neg h]; rfl
    rw [e, if_neg fun z => h z.1]
    show ((_ + 0 : Nat) : Int) = _
    omega
theorem slot3 (xs : List Str) (ps : List Pr) (p : Pr) (x : Str) (h : outF p x = true) : ∃ v : Int, atI (numL xs ps p) ((kf ps p x : Nat) : Int) = some (.int v) ∧ ixN (numL xs ps p).length ((kf ps p x : Nat) : Int) = some (kf ps p x) ∧ (numL xs ps p).set (kf ps p x) (.int (v + 1)) = numL (xs ++ [x]) ps p := by
  have t : kf ps p x = 0 ∨ kf ps p x = 1 ∨ kf ps p x = 2 := by
    rw [kf_two]
    split <;> split <;> simp
  have e : ∀ k, nmk (xs ++ [x]) ps p k = nmk xs ps p k + if ((kf ps p x : Nat) : Int) = k then 1 else 0 := fun k => by
    rw [nmk_snoc]
    simp [h]
  unfold numL
  rw [e 0, e 1, e 2]
  rcases t with t | t | t <;> rw [t]
  · refine ⟨nmk xs ps p 0, rfl, rfl, ?_⟩
    simp
  · refine ⟨nmk xs ps p 1, rfl, rfl, ?_⟩
    simp
  · refine ⟨nmk xs ps p 2, rfl, rfl, ?_⟩
    simp
def spKindsL : Sp := fun vs H Q _ => ∃ (a t : Addr) (p : Pr) (xs : List Str) (ps : List Pr), vs = [.ref a, .ref t] ∧ WAt H a xs ps ∧ Good xs ps ∧ H t = some (.tup [.str p.1, .str p.2]) ∧
  ∀ (H' : Hp) (L : Addr), Same H H' → H L = none → H' L = some (.lst (numL xs ps p)) → Q (.ref L) H'
def spThirdL : Sp := fun vs H Q _ => ∃ (a t : Addr) (k : Int) (p : Pr) (xs : List Str) (ps : List Pr), vs = [.ref a, .ref t, .int k] ∧ WAt H a xs ps ∧ Good xs ps ∧ H t = some (.tup [.str p.1, .str p.2]) ∧
  ∀ (H' : Hp) (L : Addr), Same H H' → H L = none → H' L = some (.lst ((thL xs ps p k).map V.str)) → Q (.ref L) H'
section
variable {P : Program} {w : World} {K : PySem.W.Frag} {mg : Str → Option Value} {base : Heap}
end
end Wd
end
section
set_option maxRecDepth 100000
set_option maxHeartbeats 4000000
namespace Kb
open PySem PySem.Spec PyProof.Rows L2
/-! bits of whole numbers, of any sign -/
theorem sub_and_bit : ∀ (j x m : Nat), (x - (x &&& m)).testBit j = (x.testBit j && !m.testBit j) := by
  intro j
  induction j with
  | zero =>
    intro x m
    have a1 := @Nat.and_mod_two_eq_one x m
    have a2 := @Nat.and_le_left x m
    rw [Nat.testBit_zero, Nat.testBit_zero, Nat.testBit_zero]
    by_cases h1 : x % 2 = 1 <;> by_cases h2 : m % 2 = 1
    · have h3 := a1.mpr ⟨h1, h2⟩
      rw [decide_eq_true h1, decide_eq_true h2, decide_eq_false (by omega)]
      rfl
    · have h3 : ¬ (x &&& m) % 2 = 1 := fun z => h2 (a1.mp z).2
      rw [decide_eq_true h1, decide_eq_false h2, decide_eq_true (by omega)]
      rfl
    · have h3 : ¬ (x &&& m) % 2 = 1 := fun z => h1 (a1.mp z).1
      rw [decide_eq_false h1, decide_eq_false (by omega)]
      rfl
    · have h3 : ¬ (x &&& m) % 2 = 1 := fun z => h1 (a1.mp z).1
      rw [decide_eq_false h1, decide_eq_false (by omega)]
      rfl
  | succ j ih =>
    intro x m
    have a1 := @Nat.and_mod_two_eq_one x m
    have a2 := @Nat.and_le_left (x / 2) (m / 2)
    have a3 := @Nat.and_div_two x m
    rw [Nat.testBit_succ, Nat.testBit_succ, Nat.testBit_succ, ← ih]
    congr 1
    rw [← a3] at a2 ⊢
    by_cases h1 : x % 2 = 1
    · omega
    · have h3 : ¬ (x &&& m) % 2 = 1 := fun z => h1 (a1.mp z).1
      omega
def tb (x : Int) (j : Nat) : Bool := if 0 ≤ x then x.toNat.testBit j else !(Builtin.bitNot x).toNat.testBit j
theorem tb_nat (n j : Nat) : tb (n : Int) j = n.testBit j := by
  unfold tb
  rw [if_pos (by omega)]
  rfl
theorem tb_not (x : Int) (j : Nat) : tb (Builtin.bitNot x) j = !tb x j := by
  unfold tb
  by_cases h : 0 ≤ x
  · rw [if_pos h, if_neg (fun z => (bitNot_nonneg.mp z) h), bitNot_bitNot]
  · rw [if_neg h, if_pos (bitNot_nonneg.mpr h), Bool.not_not]
theorem tb_and (x y : Int) (j : Nat) : tb (Builtin.bitAnd x y) j = (tb x j && tb y j) := by
  by_cases hx : 0 ≤ x <;> by_cases hy : 0 ≤ y
  · rw [bitAnd_pp hx hy, tb_nat, Nat.testBit_and]
    unfold tb
    rw [if_pos hx, if_pos hy]
  · rw [bitAnd_pn hx hy]
    have le := @Nat.and_le_left x.toNat (Builtin.bitNot y).toNat
    have e : x - ((x.toNat &&& (Builtin.bitNot y).toNat : Nat) : Int) = ((x.toNat - (x.toNat &&& (Builtin.bitNot y).toNat) : Nat) : Int) := by omega
    rw [e, tb_nat, sub_and_bit]
    unfold tb
    rw [if_pos hx, if_neg hy]
  · rw [bitAnd_np hx hy]
    have le := @Nat.and_le_left y.toNat (Builtin.bitNot x).toNat
    have e : y - ((y.toNat &&& (Builtin.bitNot x).toNat : Nat) : Int) = ((y.toNat - (y.toNat &&& (Builtin.bitNot x).toNat) : Nat) : Int) := by omega
    rw [e, tb_nat, sub_and_bit, Bool.and_comm]
    unfold tb
    rw [if_neg hx, if_pos hy]
  · rw [bitAnd_nn hx hy, tb_not, tb_nat, Nat.testBit_or]
    unfold tb
    rw [if_neg hx, if_neg hy, Bool.not_or]
theorem tb_or (x y : Int) (j : Nat) : tb (Builtin.bitOr x y) j = (tb x j || tb y j) := by
  show tb (Builtin.bitNot (Builtin.bitAnd (Builtin.bitNot x) (Builtin.bitNot y))) j = _
  rw [tb_not, tb_and, tb_not, tb_not, Bool.not_and, Bool.not_not, Bool.not_not]
theorem and_nat (a b : Nat) : Builtin.bitAnd (a : Int) (b : Int) = ((a &&& b : Nat) : Int) := bitAnd_pp (by omega) (by omega)
theorem or_nat (a b : Nat) : Builtin.bitOr (a : Int) (b : Int) = ((a ||| b : Nat) : Int) := by
  rw [bitOr_and, and_nat]
  have := nat_or_add_and a b
  omega
theorem xor_nat (a b : Nat) : Builtin.bitXor (a : Int) (b : Int) = ((a ^^^ b : Nat) : Int) := by
  show Builtin.bitOr (a : Int) (b : Int) - Builtin.bitAnd (a : Int) (b : Int) = _
  rw [or_nat, and_nat]
  have le : (a &&& b) ≤ (a ||| b) := by
    have := nat_or_add_and a b
    have h1 := @Nat.and_le_left a b
    have h2 := @Nat.and_le_right a b
    omega
  have e : (a ||| b) &&& (a &&& b) = a &&& b := by
    apply Nat.eq_of_testBit_eq
    intro j
    rw [Nat.testBit_and, Nat.testBit_or, Nat.testBit_and]
    cases a.testBit j <;> cases b.testBit j <;> rfl
  have e2 : (a ||| b) - (a &&& b) = a ^^^ b := by
    apply Nat.eq_of_testBit_eq
    intro j
    have h := sub_and_bit j (a ||| b) (a &&& b)
    rw [e] at h
    rw [h, Nat.testBit_or, Nat.testBit_and, Nat.testBit_xor]
    cases a.testBit j <;> cases b.testBit j <;> rfl
  rw [← e2]
  omega
/-- a whole number that is not below 0 has these bits -/
theorem nat_of_tb {x : Int} (h : 0 ≤ x) (j : Nat) : x.toNat.testBit j = tb x j := by
  unfold tb
  rw [if_pos h]
theorem and_nonneg {x y : Int} (h : 0 ≤ y) : 0 ≤ Builtin.bitAnd x y := by
  by_cases hx : 0 ≤ x
  · rw [bitAnd_pp hx h]
    omega
  · rw [bitAnd_np hx h]
    have le := @Nat.and_le_left y.toNat (Builtin.bitNot x).toNat
    omega
/-! how many bits are 1 -/
def popc (n : Nat) : Nat := (List.range 9).countP fun i => n.testBit i
def binS (n : Nat) : Str := ⟨((Nat.toDigits 2 n).map Char.toNat).toArray⟩
theorem binS_count : ∀ n, n < 512 → (Builtin.Str.occurrences (binS n) ("1" : Str) 0 (binS n).length ((binS n).length + 1)).length = popc n ∧ (binS n).length ≤ 20 := by
  have h : ((List.range 512).all fun n => decide ((Builtin.Str.occurrences (binS n) ("1" : Str) 0 (binS n).length ((binS n).length + 1)).length = popc n) && decide ((binS n).length ≤ 20)) = true := by decide +kernel
  intro n hn
  have := List.all_eq_true.mp h n (List.mem_range.mpr hn)
  rw [Bool.and_eq_true] at this
  exact ⟨of_decide_eq_true this.1, of_decide_eq_true this.2⟩
theorem mt_scount {X : Cx} : MtR X "str.count" (fun x xs H Q => ∃ a b, x = .str a ∧ xs = [.str b] ∧ Q (.int ((Builtin.Str.occurrences a b 0 a.length (a.length + 1)).length : Nat)) H) :=
  mt1 (g := fun a b => .int ((Builtin.Str.occurrences a b 0 a.length (a.length + 1)).length : Nat)) fun a b t u s _ h =>
    call_gives PySem.F.slot_str_count (typeIs_str _ _ _) PySem.F.entry_str_count (PySem.F.args_str_count_2 _ _) (gives_str_count a b t u) (h _ (s.toks + 1) ⟨_, rfl⟩)
end Kb
end
section
set_option maxRecDepth 100000
set_option maxHeartbeats 4000000
namespace Kb
open PySem PySem.Spec PyProof.Rows L2 Builtin Builtin.Str Builtin.Int Builtin.Float PySem.Calls
def bB : PySem.Str := ("b" : PySem.Str)
def bF : FormatSpec := { align := 62, type := some 98 }
theorem parse_b : parseFormatSpec bB.cps.toList "int" 62 = .ok bF := by kernel_rfl
section
variable {prog : Program} {w : World} {A : Around} {E : Value → Shared → Prop} {s : Shared}
theorem fmt_bF {n : Nat} {t : Tok} (hn : n < 512) {f : FormatSpec} (hp : parseFormatSpec bB.cps.toList "int" 62 = .ok f) (hty : f.type.getD (if bB.cps.back? == some 0 then 0 else 100) = 98) (hpr : f.precision = none) (hz : f.noNeg0 = false) (hal : f.alt = false)
    (hw : f.width = none) (hgr : f.grouping = none) (hsg : f.sign = none) (hF : f = bF) {Q : Value → Shared → Prop} (h : ∀ t' k, Q (.str (binS n) t') { s with toks := k }) : wpAny (model prog w) A (formatField (.int (n : Int) t) bB) Q E s := by
  refine PySem.W.KXf.field_int (y := binS n) rfl (by decide) (by decide) (fun u => ?_) h
  intro prog w A R s hR
  have hlen := (binS_count n hn).2
  unfold Builtin.«int.__format__»
  have hne : (bB.length == 0) = false := by decide
  have hasc : ((bB.cps.toList.drop 1).any (· ≥ 128) || (bB.cps.getD 0 0 ≥ 128 && !([60, 62, 61, 94] : List Nat).contains (bB.cps.getD 1 0))) = false := by decide
  simp only [selfAndOne, noKeywords, Int.intOfSelf, asInt?, asStr?, List.isEmpty_nil, if_true, pure_bind, bind_pure, bind_assoc, hne, hasc, Bool.false_eq_true, if_false,
    show (Value.str bB u == Value.none) = false from rfl]
  refine wpAny_bind (wpAny_typeNameOf (T := "str") (typeIs_str _ _ _) (by decide) fun _ => ?_)
  first | refine wpAny_bind (wpAny_typeNameOfCut_int ?_) | refine wpAny_bind (wpAny_typeNameOf_int ?_)
  simp only [hp, hty]
  rw [if_pos (by decide)]
  show wpAny _ _ (if _ then _ else _) _ _ _
  rw [if_neg (by simp [hpr])]
  show wpAny _ _ (if _ then _ else _) _ _ _
  rw [if_neg (by simp [hz])]
  show wpAny _ _ (if _ then _ else _) _ _ _
  rw [if_neg (by decide)]
  show wpAny _ _ (if _ then _ else _) _ _ _
  rw [if_neg (by decide)]
  show wpAny _ _ (if _ then _ else _) _ _ _
  rw [if_neg (by simp [hw])]
  show wpAny _ _ (retStr _) _ _ _
  refine (fun e => PySem.W.KXf.ret_text (T := binS n) e (by rw [e, sizeLine_eq]; omega) fun t k => hR t k) ?_
  subst hF
  clear hR h hlen hp hty hpr hz hal hw hgr hsg hne hasc
  clear s R A w prog
  revert n
  decide +kernel
theorem fmt_b {n : Nat} {t : Tok} (hn : n < 512) {Q : Value → Shared → Prop} (h : ∀ t' k, Q (.str (binS n) t') { s with toks := k }) : wpAny (model prog w) A (formatField (.int (n : Int) t) bB) Q E s :=
  fmt_bF hn parse_b rfl rfl rfl rfl rfl rfl rfl rfl h
end
section
variable {X : Cx}
/-- {x:b}: a whole number from 0 on, below 512 -/
def tFmtB (te : TE) : TE := fun σ H Q => te σ H fun x H1 => ∃ n : Nat, x = .int (n : Int) ∧ n < 512 ∧ Q (.str (binS n)) H1
theorem pe_fmtB {e spec : Expr} {te : TE} {pos : Pos} (he : PE X e te) (hs : PE X spec (tC (.str bB))) : PE X (.FormattedValue e (-1) (some spec) pos) (tFmtB te) := by
  refine ⟨fun pins s σ H Q I h => ?_⟩
  refine wpAny_FormattedValue_spec (thn (he.run pins s σ H _ I h) fun v s1 hv => ?_)
  obtain ⟨x, H1, I1, r1, n, rfl, hn, q⟩ := hv
  obtain ⟨t, rfl⟩ := r1
  refine thn (hs.run pins s1 σ H1 (fun y H2 => y = .str bB ∧ H2 = H1) I1 ⟨rfl, rfl⟩) fun v2 s2 hv2 => ?_
  obtain ⟨y, H2, I2, r2, rfl, rfl⟩ := hv2
  obtain ⟨u, rfl⟩ := r2
  refine ⟨bB, u, rfl, fmt_b hn fun t' k => ⟨.str (binS n), H2, I2.tok k, ⟨t', rfl⟩, q⟩⟩
end
end Kb
end
section
set_option maxRecDepth 100000
set_option maxHeartbeats 4000000
namespace Kc
open PySem PySem.Spec PyProof.Rows PySem.Builtin PySem.Builtin.Itertools
section
variable {prog : Program} {w : World} {A : Around} {E : Value → Shared → Prop} {s : Shared}
theorem wp_newR {l : Addr} {a b : Int} {n r : Nat} {t tt tu tv : Tok} {Q : PySem.Fin → Shared → Prop} (hh : A.handled = none) (hl : IsRange s.heap l a b 1 tt tu tv) (hsmall : Builtin.Range.small a b 1 = true) (hn : Builtin.Range.rangeSize a b 1 = n) (hv : n ≤ 1000) (hr : r ≤ 100)
    (h : ∀ (hp h' : Heap) (tk : Nat) (acc : Array Value), (∀ b o, s.heap.get? b = some o → hp.get? b = some o) → ItemsOf (fun i v => ∃ t, v = .int (a + i * 1) t) acc n → h'.get? (hp.objs.size + 1) = some (combO hp.objs.size (if r > n then 2 else 0) .none (List.range r)) →
      h'.get? hp.objs.size = some { cls := .type "tuple", data := .seq acc } →
      (∀ b o, hp.get? b = some o → h'.get? b = some o) → Q (.done (.ret (.ref (hp.objs.size + 1)))) { s with heap := h', toks := tk }) :
    wpAny (model prog w) A (Builtin.«itertools.combinations.__new__» ⟨[.type TC, .ref l, .int r t], []⟩) Q E s := by
  rw [new_eq]
  unfold poolC
  refine wpAny_bind (wpAny_bind ?_)
  unfold itClassAndRest
  dsimp only
  refine wpAny_bind (wpAny_of_eq isType_c ?_)
  simp only [Bool.not_true, Bool.false_eq_true, if_false]
  refine wpAny_bind (wpAny_of_eq sub_c ?_)
  simp only [Bool.not_true, Bool.false_eq_true, if_false]
  refine wpAny_pure ?_
  dsimp only
  rw [bind_c]
  refine wpAny_bind (wpAny_pure ?_)
  dsimp only
  unfold itSsizeArg
  rw [ix_c]
  refine wpAny_bind (wpAny_bind (wpAny_pure ?_))
  have c1 : (decide ((r : Int) < -(2 ^ 63 : Int)) || decide ((r : Int) ≥ 2 ^ 63)) = false := by
    rw [Bool.or_eq_false_iff]
    exact ⟨decide_eq_false (by omega), decide_eq_false (by omega)⟩
  rw [c1]
  simp only [Bool.false_eq_true, if_false]
  refine wpAny_pure ?_
  refine wpAny_bind (L2.collect_range (A := A) hh hl hsmall hn (by omega) fun hp tk acc hk hacc => ?_)
  have sz : acc.size = n := hacc.1
  have lz : acc.toList.length = n := by rw [Array.length_toList]; exact sz
  refine wpAny_ite_split (fun z => absurd z (by omega)) (fun _ => ?_)
  try refine wpAny_bind (wpAny_pure ?_)
  have c2 : itTooMany (r : Int) = false := decide_eq_false (by omega)
  refine wpAny_ite_split (fun z => absurd z (by rw [c2]; decide)) (fun _ => ?_)
  try refine wpAny_bind (wpAny_pure ?_)
  refine wpAny_bind (wpAny_newTuple ?_ (by rw [lz, sizeLine_eq]; omega))
  refine wpAny_pure ?_
  dsimp only
  generalize hT : hp.push { cls := .type "tuple", data := .seq acc.toList.toArray } = h1
  have z1 : h1.objs.size = hp.objs.size + 1 := by rw [← hT, size_push']
  have g1 : h1.get? hp.objs.size = some { cls := .type "tuple", data := .seq acc } := by
    rw [← hT]
    have e : acc.toList.toArray = acc := by simp
    rw [e]
    exact Heap.get?_push_size _ rfl
  have k1 : ∀ b o, hp.get? b = some o → h1.get? b = some o := fun b o e => by
    rw [← hT]
    exact Heap.get?_push_of_some _ e
  unfold itNewRecord
  rw [noDict_c]
  simp only [Bool.not_false, if_true]
  refine wpAny_bind ?_
  refine wpAny_newObj_type ?_ ?_
  · refine wpAny_pure ?_
    rw [z1, lz]
    refine h hp _ tk acc hk hacc ?_ (Heap.get?_push_of_some _ g1) fun b o e => Heap.get?_push_of_some _ (k1 b o e)
    rw [← z1]
    exact Heap.get?_push_size _ rfl
  · show (flds _ _ _ _).size ≤ _
    rw [fsz, List.length_range, sizeLine_eq]
    omega
def specR (l : Addr) (a b : Int) (n r : Nat) : PySem.Spec := fun A R s => A.handled = none ∧ (∃ tt tu tv, IsRange s.heap l a b 1 tt tu tv) ∧ Builtin.Range.small a b 1 = true ∧ Builtin.Range.rangeSize a b 1 = n ∧ n ≤ 1000 ∧ r ≤ 100 ∧
  ∀ (hp h' : Heap) (tk : Nat) (acc : Array Value), (∀ b o, s.heap.get? b = some o → hp.get? b = some o) → ItemsOf (fun i v => ∃ t, v = .int (a + i * 1) t) acc n → h'.get? (hp.objs.size + 1) = some (combO hp.objs.size (if r > n then 2 else 0) .none (List.range r)) →
    h'.get? hp.objs.size = some { cls := .type "tuple", data := .seq acc } → (∀ b o, hp.get? b = some o → h'.get? b = some o) → R (.ok (.ret (.ref (hp.objs.size + 1)))) { s with heap := h', toks := tk }
theorem meets_cR (l : Addr) (a b : Int) (n r : Nat) (t : Tok) : Meets (Builtin.«itertools.combinations.__new__» ⟨[.type TC, .ref l, .int r t], []⟩) (specR l a b n r) :=
  .of_wp fun prog w A R s h => by
    obtain ⟨hh, ⟨tt, tu, tv, hl⟩, hs, hn, hv, hr, q⟩ := h
    exact wp_newR (A := A.in1) hh hl hs hn hv hr fun hp h' tk acc a b c d e => ⟨_, rfl, q hp h' tk acc a b c d e⟩
theorem call_combR {l : Addr} {a b : Int} {n r : Nat} {t tt tu tv : Tok} {Q : Value → Shared → Prop} (hh : A.handled = none) (hl : IsRange s.heap l a b 1 tt tu tv) (hsmall : Builtin.Range.small a b 1 = true) (hn : Builtin.Range.rangeSize a b 1 = n) (hv : n ≤ 1000) (hr : r ≤ 100)
    (h : ∀ (hp h' : Heap) (tk : Nat) (acc : Array Value), (∀ b o, s.heap.get? b = some o → hp.get? b = some o) → ItemsOf (fun i v => ∃ t, v = .int (a + i * 1) t) acc n → h'.get? (hp.objs.size + 1) = some (combO hp.objs.size (if r > n then 2 else 0) .none (List.range r)) →
      h'.get? hp.objs.size = some { cls := .type "tuple", data := .seq acc } → (∀ b o, hp.get? b = some o → h'.get? b = some o) → Q (.ref (hp.objs.size + 1)) { s with heap := h', toks := tk }) : wpAny (model prog w) A (call (.type TC) [.ref l, .int r t]) Q E s := by
  refine callType_new called_c (by decide +kernel) (typeCall_c _ _) (newCall_c _ _) (fun obj => F.args_object_init_3 obj _ _) entryN_c (meets_cR l a b n r t) ?_
  exact ⟨hh, ⟨tt, tu, tv, hl⟩, hsmall, hn, hv, hr, fun hp h' tk acc a b c d e => ⟨⟨_, c, rfl⟩, h hp h' tk acc a b c d e⟩⟩
end
end Kc
namespace Kc
open PySem PySem.Spec PyProof.Rows L2
def iota (n : Nat) : List V := (List.range n).map fun i => V.int (i : Nat)
def tListCombR (te : L2.St → Hp → (Int → Int → Hp → Prop) → Prop) : TE := fun σ H Q => te σ H fun a b H1 => ∃ n : Nat, a = 0 ∧ b = (n : Int) ∧ n ≤ 12 ∧ ∀ (H2 : Hp) (D : Addr) (Ts : List Addr), Same H1 H2 → H1 D = none → H2 D = some (.lst (Ts.map V.ref)) →
  Told (iota n) (ixsR 2 n) H1 H2 Ts → Ts.length = (ixsR 2 n).length → Q (.ref D) H2
section
variable {X : Cx}
/-- list(combinations(range(n), 2)) -/
theorem pe_listCombR {e : Expr} {kc : Nat} {pc : Pos} {te : L2.St → Hp → (Int → Int → Hp → Prop) → Prop} {p p2 pos pos2 : Pos} (hc : X.calm = true) (hg : Gl X "list") (hm : X.mg "list" = none) (hg2 : Gl X "combinations") (hm2 : X.mg "combinations" = some (.type TC)) (he : PRg X e te)
    (hs : starEach [e, .Constant (.int 2) kc pc] X.env = (false, eval e X.env) :: starEach [.Constant (.int 2) kc pc] X.env := by rfl) (hs2 : starEach [.Constant (.int 2) kc pc] X.env = (false, eval (.Constant (.int 2) kc pc) X.env) :: starEach [] X.env := by rfl) (hpl : (backTo pos2 (starEach [.Constant (.int 2) kc pc] X.env)).any (·.1) = false := by rfl) :
    PE X (.Call (.Name "list" p) [.Call (.Name "combinations" p2) [e, .Constant (.int 2) kc pc] [] pos2] [] pos) (tListCombR te) := by
  refine ⟨fun pins s σ H Q I h => ?_⟩
  refine Call_ (ld_blt I hg hm PyProof.Rows.boot_list ?_)
  refine PyProof.Rows.callWith_type1 (PyProof.Rows.args_cons ?_ rfl) rfl rfl
  refine Call_ (ld_glob I hg2 hm2 (PyProof.Rows.callWith_type1 (args_cons (thn (he pins s σ H _ I h) fun x s1 hx => ?_) hs) hs hpl))
  obtain ⟨rg, a, b, t, u, v, H1, rfl, hr, I1, n, rfl, rfl, few, q⟩ := hx
  refine args_cons (wpAny_Constant_int (args_nil ?_)) hs2
  have I2 : L2.Inv X pins σ H1 { s1 with toks := s1.toks + 1 } := I1.tok _
  refine call_combR (s := { s1 with toks := s1.toks + 1 }) (n := n) (r := 2) (I1.ok.hd hc) hr (small_one (by omega) (by omega) (by omega) (by omega)) (by have := rangeSize_nat 0 (n : Int); simpa using this) (by omega) (by omega) fun hp h' tk acc hk hi g1 g2 k2 => PyProof.Rows.args_nil ?_
  have G := goesR (r := 2) (n := n) (.inl rfl) few
  have I3 : L2.Inv X pins σ H1 { s1 with heap := hp, toks := tk } := I1.kept hk
  have I4 : L2.Inv X pins σ H1 { s1 with heap := h', toks := tk } := I3.kept k2
  have rx : Vals (iota n) acc.toList := by
    have z := vals_rg (a := 0) (b := (n : Int)) (acc := acc) (by simpa using hi)
    have e : rgV 0 (n : Int) = iota n := by
      unfold rgV iota
      rw [show ((n : Int) - 0).toNat = n by omega]
      exact List.map_congr_left fun i _ => by rw [Int.zero_add]
    rw [e] at z
    exact z
  have li : (iota n).length = n := by unfold iota; rw [List.length_map, List.length_range]
  have hf : ∀ b ∈ [hp.objs.size + 1, hp.objs.size], FpOk X pins H1 b := fun b hb => by
    have e' : b = hp.objs.size + 1 ∨ b = hp.objs.size := by simpa using hb
    have le : hp.objs.size ≤ b := by
      rcases e' with z | z
      · rw [z]
        exact Nat.le_add_right _ _
      · rw [z]
        exact Nat.le_refl _
    exact I3.fpOk le (I3.hok.fresh le)
  have st : Stands (hp.objs.size + 1) hp.objs.size acc.toList (iota n).length (ixsR 2 (iota n).length) 0 h' := by
    rw [li]
    refine ⟨⟨_, _, _, g1, ?_⟩, by rw [Array.toArray_toList]; exact g2⟩
    by_cases c : 2 > n
    · refine .inr (.inr ⟨by simp [c], ?_⟩)
      rw [G.start, if_pos (by omega)]
    · refine .inl ⟨by simp [c], ?_⟩
      rw [G.start, if_neg (by omega)]
  rw [← li] at G
  refine list_comb hc I4 rx (Nat.ne_of_lt (Nat.lt_succ_self _)) G (by omega) (lenR (.inl rfl) (by omega)) hf st fun H2 D Ts a b c d e => ?_
  rw [li] at d e
  exact q H2 D Ts a b c d e
end
end Kc
end
section
set_option maxRecDepth 100000
set_option maxHeartbeats 4000000
namespace Wd
open PySem PySem.Spec PyProof.Rows L2
theorem pget_list {X : Cx} : PGet X (rIxL X.K) := by
  intro pins s σ H x y v u Q I rx ry h
  obtain ⟨p, xs, i, z, rfl, rfl, hq, he, q⟩ := h
  cases rx
  obtain ⟨t, rfl⟩ := ry
  obtain ⟨its, r, pl, hz⟩ := I.list hq
  obtain ⟨j, h1, h2, h3, h4, h5⟩ := atI_get he
  obtain ⟨w, ew, rw'⟩ := r.get h2
  have hl := r.length
  have hn := line63
  have fin : EP X pins σ Q w s := ⟨z, H, I, rw', q⟩
  by_cases h0 : 0 ≤ i
  · have hj : i.toNat = j := by
      rw [seqIndex_of h0 h5] at h1
      exact Option.some.inj h1
    exact wpAny_getItem_list pl.isList h0 (by omega) (by rw [hj]; simpa using ew) fin
  · have hj : (i + (its.toArray.size : Int)).toNat = j := by
      rw [seqIndex_neg (by omega) h4] at h1
      rw [List.size_toArray, ← hl]
      exact Option.some.inj h1
    exact wpAny_getItem_list_neg pl.isList (by omega) (by rw [List.size_toArray] <;> omega) (by omega) (by rw [hj]; simpa using ew) fin
theorem pip_xor {X : Cx} : PIp X .BitXor (rI0 fun i j => .int (Builtin.bitXor i j)) := fun pins s σ H x y v u Q I r1 r2 h => iop_xor pins s σ H x y v u Q I r1 r2 h
theorem pip_or {X : Cx} : PIp X .BitOr (rI0 fun i j => .int (Builtin.bitOr i j)) := fun pins s σ H x y v u Q I r1 r2 h => iop_or pins s σ H x y v u Q I r1 r2 h
end Wd
namespace Wd
open PySem L2
def intsN (R : List Nat) : List V := R.map fun (r : Nat) => V.int (r : Int)
/-- the rows of friends, bit by bit -/
def RowsOk (xs : List Str) (ps : List Pr) (R : List Nat) : Prop := R.length = xs.length ∧ ∀ (i : Nat) r x, R[i]? = some r → xs[i]? = some x → r < 2 ^ xs.length ∧ ∀ (j : Nat) y, xs[j]? = some y → r.testBit j = decide (y ∈ frs ps x)
def spOnes : Sp := fun vs H Q _ => ∃ n : Nat, vs = [.int (n : Int)] ∧ n < 512 ∧ Q (.int (Kb.popc n : Nat)) H
def spTurn' : Sp := fun vs H Q _ => ∃ (l t : Addr) (i j : Nat) (R : List Nat) (r r' : Nat), vs = [.ref l, .ref t] ∧ H l = some (.lst (intsN R)) ∧ H t = some (.tup [.int (i : Int), .int (j : Int)]) ∧ i ≠ j ∧ R[i]? = some r ∧ R[j]? = some r' ∧ i < 64 ∧ j < 64 ∧
  Q .non (upd H l (.lst (intsN ((R.set i (r ^^^ 2 ^ j)).set j (r' ^^^ 2 ^ i)))))
theorem shl_one (j : Nat) : (1 : Int) * 2 ^ ((j : Int)).toNat = ((2 ^ j : Nat) : Int) := by
  rw [Int.one_mul, Int.toNat_natCast]
  exact (Int.natCast_pow 2 j).symm
theorem intsN_at {R : List Nat} {i r : Nat} (h : R[i]? = some r) : (intsN R)[i]? = some (.int (r : Int)) := by
  unfold intsN
  rw [List.getElem?_map, h]
  rfl
theorem intsN_set (R : List Nat) (i r : Nat) : (intsN R).set i (.int (r : Int)) = intsN (R.set i r) := by
  unfold intsN
  rw [List.map_set]
section
variable {P : Program} {w : World} {K : PySem.W.Frag} {mg : Str → Option Value} {base : Heap}
theorem ok_ones {f : Addr} {fd : FuncData} (F : Fun K "ones" "ones" sp_ones f fd) : FnOk P w K mg base CX0 1 f fd ["bits"] spOnes := by
  refine F.ok cp_ones (fun vs H Q E h => ?_) (fun cdv A outer s H vs Q E hr h => ?_)
  · obtain ⟨_, rfl, _⟩ := h
    rfl
  · obtain ⟨n, rfl, hn, k⟩ := h
    refine ⟨_, pss_cons (ps_set (i := 1) cp_ones.nd rfl (Or.inl rfl) (pe_joined1 (Kb.pe_fmtB (pv 0) (pe_joined1 pe_str))))
      (pss_one (ps_ret (pe_bm PySem.F.plainAttrs_str PySem.F.slot_str_count PySem.F.type_str_count Kb.mt_scount (pv 1) (pa_cons pe_str pa_nil)))), ?_⟩
    obtain ⟨e1, e2⟩ := Kb.binS_count n hn
    refine ⟨_, rfl, n, rfl, hn, ?_⟩
    refine ⟨_, rfl, rfl, _, _, rfl, rfl, ?_⟩
    show Q (.int ((Builtin.Str.occurrences (Kb.binS n) ("1" : Str) 0 (Kb.binS n).length ((Kb.binS n).length + 1)).length : Nat)) H
    rw [e1]
    exact k
theorem ok_turnR {f : Addr} {fd : FuncData} (F : Fun K "turn" "turn" sp_turn f fd) : FnOk P w K mg base CX0 1 f fd ["rows", "deed"] spTurn' := by
  refine F.ok cp_turn (fun vs H Q E h => ?_) (fun cdv A outer s H vs Q E hr h => ?_)
  · obtain ⟨_, _, _, _, _, _, _, rfl, _⟩ := h
    rfl
  · obtain ⟨l, t, i, j, R, r, r', rfl, hl, ht, ne, hi, hj, i64, j64, k⟩ := h
    refine ⟨_, pss_cons (ps_asg (pv 1) (pg_tup rfl (pgs_cons (pg_name (i := 2) cp_turn.nd rfl (Or.inl rfl)) (pgs_cons (pg_name (i := 3) cp_turn.nd rfl (Or.inl rfl)) pgs_nil))))
      (pss_cons (ps_augS (pv 0) (pv 2) pget_list (pe_op op_shl pe_int (pv 3)) pip_xor set_list)
      (pss_one (ps_augS (pv 0) (pv 3) pget_list (pe_op op_shl pe_int (pv 2)) pip_xor set_list))), ?_⟩
    refine ⟨_, rfl, t, _, rfl, SqT.of ht, rfl, _, _, rfl, _, _, rfl, rfl, ?_⟩
    refine ⟨_, rfl, _, rfl, l, _, _, _, rfl, rfl, SqL.of hl, atI_nat (intsN_at hi), _, rfl, _, _, rfl, rfl, ⟨by omega, by omega, by decide⟩, ?_⟩
    have ex : ∀ r j : Nat, Builtin.bitXor (r : Int) (1 * 2 ^ ((j : Int)).toNat) = ((r ^^^ 2 ^ j : Nat) : Int) := fun r j => by rw [shl_one, Kb.xor_nat]
    have li : ∀ (R : List Nat) {i r : Nat}, R[i]? = some r → ixN (intsN R).length (i : Int) = some i := fun R {i r} h => by
      have h1 := (List.getElem?_eq_some_iff.mp h).1
      have h2 : (intsN R).length = R.length := by unfold intsN; rw [List.length_map]
      unfold ixN
      rw [h2]
      simp
      omega
    refine ⟨_, _, rfl, rfl, l, _, _, i, rfl, rfl, hl, li R hi, ?_⟩
    dsimp only
    rw [ex, intsN_set]
    have hj2 : (R.set i (r ^^^ 2 ^ j))[j]? = some r' := by rw [List.getElem?_set_ne ne]; exact hj
    have hl2 : upd H l (.lst (intsN (R.set i (r ^^^ 2 ^ j)))) l = some (.lst (intsN (R.set i (r ^^^ 2 ^ j)))) := upd_same
    refine ⟨_, rfl, _, rfl, l, _, _, _, rfl, rfl, SqL.of hl2, atI_nat (intsN_at hj2), _, rfl, _, _, rfl, rfl, ⟨by omega, by omega, by decide⟩, ?_⟩
    refine ⟨_, _, rfl, rfl, l, _, _, j, rfl, rfl, hl2, li _ hj2, ?_⟩
    dsimp only
    rw [ex, intsN_set, upd_upd]
    exact k
end
end Wd
end
section
set_option maxRecDepth 100000
set_option maxHeartbeats 4000000
namespace Wd
open PySem L2
theorem mem_snoc {ps : List Pr} {p : Pr} {x y : Str} (lt : Lt p.1 p.2) : y ∈ frs (ps ++ [p]) x ↔ y ∈ frs ps x ∨ (x = p.1 ∧ y = p.2) ∨ (x = p.2 ∧ y = p.1) := by
  rw [frs_snoc, List.mem_append]
  refine or_congr Iff.rfl ?_
  by_cases c : p.1 = x
  · have d : x ≠ p.2 := fun z => by
      rw [← c] at z
      rw [z] at lt
      exact Lt.irr _ lt
    rw [if_pos c, List.mem_singleton]
    exact ⟨fun z => .inl ⟨c.symm, z⟩, fun z => z.elim (fun q => q.2) fun q => absurd q.1 d⟩
  · rw [if_neg c]
    by_cases d : p.2 = x
    · rw [if_pos d, List.mem_singleton]
      exact ⟨fun z => .inr ⟨d.symm, z⟩, fun z => z.elim (fun q => absurd q.1.symm c) fun q => q.2⟩
    · rw [if_neg d]
      exact ⟨fun z => (nomatch z), fun z => z.elim (fun q => absurd q.1.symm c) fun q => absurd q.1.symm d⟩
theorem xor_bit {b c d : Bool} (h : c = true → b = false) (e : d = (b || c)) : (b ^^ c) = d := by
  subst e
  cases b <;> cases c <;> first | rfl | (simp at h)
theorem rows_step {xs : List Str} {ps : List Pr} {R : List Nat} (nd : xs.Nodup) (hp : ∀ p ∈ ps, Lt p.1 p.2) (h : RowsOk xs ps R) {i j : Nat} {p : Pr} (hi : xs[i]? = some p.1) (hj : xs[j]? = some p.2) (lt : Lt p.1 p.2) (nin : p ∉ ps) {r r' : Nat} (gi : R[i]? = some r) (gj : R[j]? = some r') :
    RowsOk xs (ps ++ [p]) ((R.set i (r ^^^ 2 ^ j)).set j (r' ^^^ 2 ^ i)) := by
  obtain ⟨h1, h2⟩ := h
  have ne : i ≠ j := fun z => by
    rw [z, hj] at hi
    rw [Option.some.inj hi] at lt
    exact Lt.irr _ lt
  have li := (List.getElem?_eq_some_iff.mp gi).1
  have lj := (List.getElem?_eq_some_iff.mp gj).1
  have p2 : ∀ k, k < R.length → (2 : Nat) ^ k < 2 ^ xs.length := fun k hk => Nat.pow_lt_pow_right (by decide) (by omega)
  have ab : p.1 ≠ p.2 := fun z => by
    rw [z] at lt
    exact Lt.irr _ lt
  have n12 : p.2 ∉ frs ps p.1 := fun z => by
    have := ((mem_frs hp).mp z).2
    rw [show mk p.1 p.2 = (p.1, p.2) from if_pos lt] at this
    exact nin this
  have n21 : p.1 ∉ frs ps p.2 := fun z => by
    have := ((mem_frs hp).mp z).2
    rw [show mk p.2 p.1 = (p.1, p.2) from if_neg fun q => Lt.irr _ (q.tr lt)] at this
    exact nin this
  have at_ : ∀ {k y}, xs[k]? = some y → ∀ {l z}, xs[l]? = some z → (k = l ↔ y = z) := fun {k y} hk {l z} hl => ⟨fun e => by rw [e, hl] at hk; exact (Option.some.inj hk).symm, fun e => nd_inj nd hk (by rw [hl, e])⟩
  refine ⟨by rw [List.length_set, List.length_set]; exact h1, fun m s x hm hx => ?_⟩
  by_cases c : m = j
  · subst c
    have ex : x = p.2 := by
      rw [hj] at hx
      exact (Option.some.inj hx).symm
    subst ex
    rw [List.getElem?_set_self (by rw [List.length_set]; exact lj)] at hm
    obtain rfl := Option.some.inj hm
    obtain ⟨b1, b2⟩ := h2 m r' p.2 gj hj
    refine ⟨Nat.xor_lt_two_pow b1 (p2 i li), fun k y hy => ?_⟩
    rw [Nat.testBit_xor, Nat.testBit_two_pow, b2 k y hy]
    refine xor_bit (fun z => ?_) ?_
    · have e := (at_ hi hy).mp (of_decide_eq_true z)
      rw [← e]
      exact decide_eq_false n21
    · rw [← Bool.decide_or]
      refine decide_eq_decide.mpr ?_
      rw [mem_snoc lt, at_ hi hy]
      exact ⟨fun z => z.elim .inl fun z => z.elim (fun q => absurd q.1.symm ab) fun q => .inr q.2.symm, fun z => z.elim .inl fun q => .inr (.inr ⟨rfl, q.symm⟩)⟩
  · rw [List.getElem?_set_ne (fun z => c z.symm)] at hm
    by_cases d : m = i
    · subst d
      have ex : x = p.1 := by
        rw [hi] at hx
        exact (Option.some.inj hx).symm
      subst ex
      rw [List.getElem?_set_self li] at hm
      obtain rfl := Option.some.inj hm
      obtain ⟨b1, b2⟩ := h2 m r p.1 gi hi
      refine ⟨Nat.xor_lt_two_pow b1 (p2 j lj), fun k y hy => ?_⟩
      rw [Nat.testBit_xor, Nat.testBit_two_pow, b2 k y hy]
      refine xor_bit (fun z => ?_) ?_
      · have e := (at_ hj hy).mp (of_decide_eq_true z)
        rw [← e]
        exact decide_eq_false n12
      · rw [← Bool.decide_or]
        refine decide_eq_decide.mpr ?_
        rw [mem_snoc lt, at_ hj hy]
        exact ⟨fun z => z.elim .inl fun z => z.elim (fun q => .inr q.2.symm) fun q => absurd q.1 ab, fun z => z.elim .inl fun q => .inr (.inl ⟨rfl, q.symm⟩)⟩
    · rw [List.getElem?_set_ne (fun z => d z.symm)] at hm
      obtain ⟨b1, b2⟩ := h2 m s x hm hx
      refine ⟨b1, fun k y hy => ?_⟩
      rw [b2 k y hy]
      refine decide_eq_decide.mpr ?_
      rw [mem_snoc lt]
      refine ⟨.inl, fun z => z.elim id fun z => z.elim (fun q => absurd ((at_ hx hi).mpr q.1) d) fun q => absurd ((at_ hx hj).mpr q.1) c⟩
theorem rows_zero (xs : List Str) : RowsOk xs [] (List.replicate xs.length 0) := by
  refine ⟨List.length_replicate, fun i r x h _ => ?_⟩
  rw [List.getElem?_replicate] at h
  split at h
  · obtain rfl := Option.some.inj h
    refine ⟨Nat.pow_pos (by decide), fun j y _ => ?_⟩
    rw [Nat.zero_testBit]
    exact (decide_eq_false fun z => nomatch z).symm
  · cases h
def spRows (C : Addr) : Sp := fun vs H Q _ => ∃ (c : Addr) (xs : List Str) (ps : List Pr), vs = [.ref c] ∧ CAt C H c xs ps ∧ Good xs ps ∧ ∀ (H' : Hp) (L : Addr) (R : List Nat), Same H H' → H L = none → H' L = some (.lst (intsN R)) → RowsOk xs ps R → Q (.ref L) H'
section
variable {P : Program} {w : World} {K : PySem.W.Frag} {mg : Str → Option Value} {base : Heap}
theorem ok_rows_of {f C : Addr} {fd : FuncData} (F : Fun K "rows_of" "rows_of" sp_rows_of f fd) (T : Bt mg) (mEn : mg "enumerate" = none) (TC : CT K mg C) (MP : HasM P w K mg base C 1 "people" (spPplM C)) (MF : HasM P w K mg base C 1 "friends" (spFrM C)) (CT' : Has P w K mg base 1 "turn" ["rows", "deed"] spTurn') :
    FnOk P w K mg base CX0 2 f fd ["company"] (spRows C) := by
  obtain ⟨fP, fdP, GP, mP, bP⟩ := MP
  obtain ⟨fF, fdF, GF, mF, bF⟩ := MF
  obtain ⟨f1, d1, G1, m1, k1, b1⟩ := CT'
  refine F.ok cp_rows_of (fun vs H Q E h => ?_) (fun cdv A outer s H vs Q E hr h => ?_)
  · obtain ⟨_, _, _, rfl, _⟩ := h
    rfl
  · obtain ⟨c, xs, ps, rfl, hc, g, k⟩ := h
    have hu := hu_of hr
    refine ⟨_, pss_cons (ps_setDc (i := 3) (own := [("at", 1), ("person", 2)]) (g := gTup K 2 (gCons (gName 1) (gCons (gName 2) gNil))) (tt := tYes) rfl cp_rows_of.nd rfl rfl (sw_dict rfl rfl rfl (by decide +kernel)) (pi_enum rfl mEn (pa_cons (pe_meth0 (pv 0) TC.is.cl mP GP hr bP .nil pass0) pa_nil))
        (blkOk_by (N := ["company", "at", "person", "places", "rows", "one", "other"]) (sc := defScope sp_rows_of) (by decide +kernel)) (fun _ _ _ _ _ => pg_tup rfl (pgs_cons (pg_name (i := 1) cp_rows_of.nd rfl (Or.inl rfl)) (pgs_cons (pg_name (i := 2) cp_rows_of.nd rfl (Or.inl rfl)) pgs_nil))) (fun _ _ _ _ _ => pts_nil) (fun _ _ _ _ _ => pv 2) (fun _ _ _ _ _ => pv 1))
      (pss_cons (ps_set (i := 4) cp_rows_of.nd rfl (Or.inl rfl) (pe_op op_rep (pe_lst (pa_cons pe_int pa_nil)) (pe_callB call_lenD (by rfl) T.len PySem.boot_len (pa_cons (pv 3) pa_nil))))
      (pss_cons (ps_for PassesOwn.never rfl (pi_list (pe_meth0 (pv 0) TC.is.cl mF GF hr bF .nil pass0)) (pg_tup rfl (pgs_cons (pg_name (i := 5) cp_rows_of.nd rfl (Or.inl rfl)) (pgs_cons (pg_name (i := 6) cp_rows_of.nd rfl (Or.inl rfl)) pgs_nil)))
        (pss_one (ps_expr (pe_call G1 hr rfl m1 k1 b1 .nil pass0 (pa_cons (pv 4) (pa_cons (pe_tup (pa_cons (pe_dget hu (pv 3) (pv 5) (fun _ _ => rfl)) (pa_cons (pe_dget hu (pv 3) (pv 6) (fun _ _ => rfl)) pa_nil))) pa_nil))))))
      (pss_one (ps_ret (pv 4))))), ?_⟩
    obtain ⟨dx, a, b, h1, h2, h3⟩ := id hc
    have l9 := g.few
    have few := g.len
    have nx := g.asc.nd
    refine ⟨_, rfl, c, dx, _, rfl, h1, cF_no a b (by decide +kernel) (by decide +kernel), c, xs, ps, rfl, hc, by omega, fun L0 hL0 => ?_⟩
    refine ⟨L0, _, rfl, SqL.of upd_same, fun D hD => ?_⟩
    have s0 := same_new (o := .lst (xs.map V.str)) hL0
    have h0 : upd H L0 (.lst (xs.map V.str)) L0 = some (.lst (xs.map V.str)) := upd_same
    generalize upd H L0 (.lst (xs.map V.str)) = H0 at s0 h0 hD ⊢
    have nD : H D = none := same_none s0 hD
    refine dc_walk (walk_enum (K := K) (a := L0) (xs := xs.map V.str)) (fun i H' => Same H0 H' ∧ H' D = some (.dK (dkv (xs.take i) ((List.range i).map fun (j : Nat) => V.int (j : Int))))) ⟨same_new hD, upd_same⟩ (fun i H' _ z => SqL.of (z.1 _ _ h0)) ?_ ?_
    · rintro i v H1 _ hi ⟨s1, hd⟩ ⟨T0, x1, x2, rfl, nT, rfl, ep, eq⟩
      have ep := Option.some.inj ep
      subst ep
      have eq : (xs.map V.str)[i]? = some x2 := eq
      rw [List.getElem?_map] at eq
      obtain ⟨x, hx, rfl⟩ := Option.map_eq_some_iff.mp eq
      have i9 : i < xs.length := (List.getElem?_eq_some_iff.mp hx).1
      have e2 : Same H1 (upd H1 T0 (.tup [.int (i : Nat), .str x])) := same_new nT
      refine ⟨T0, _, rfl, SqT.of upd_same, rfl, _, _, rfl, _, _, rfl, rfl, rfl, ?_⟩
      have ll : ((List.range i).map fun (j : Nat) => V.int (j : Int)).length = (xs.take i).length := by rw [List.length_map, List.length_range, List.length_take]; omega
      refine ⟨_, rfl, _, rfl, _, Sum.inr x, rfl, e2 _ _ hd, ?_, same_over (s1.trans e2) hD, ?_⟩
      · rw [dkv_len ll, List.length_take, sizeLine_eq]
        omega
      · have nin : x ∉ xs.take i := fun z => by
          obtain ⟨j, hj, e⟩ := List.getElem_of_mem z
          rw [List.length_take] at hj
          rw [List.getElem_take] at e
          have := nd_inj nx (List.getElem?_eq_some_iff.mpr ⟨by omega, e⟩) hx
          omega
        rw [upd_same, take_next hx, dkv_snoc nin ll, List.range_succ, List.map_append]
        rfl
    · rintro H1 ⟨s1, hd⟩
      rw [List.length_map, List.take_length] at hd
      have lv : ((List.range xs.length).map fun (j : Nat) => V.int (j : Int)).length = xs.length := by rw [List.length_map, List.length_range]
      refine ⟨by decide, fun L1 hL1 => ?_⟩
      have e2 : Same H1 (upd H1 L1 (.lst [.int 0])) := same_new hL1
      have hL2 : upd H1 L1 (.lst [.int 0]) L1 = some (.lst [.int 0]) := upd_same
      generalize upd H1 L1 (.lst [.int 0]) = H2 at e2 hL2 ⊢
      refine ⟨_, rfl, D, _, rfl, e2 _ _ hd, L1, _, _, rfl, rfl, hL2, by omega, ?_, ?_, fun L hL => ?_⟩
      · rw [dkv_len lv]
        omega
      · rw [dkv_len lv, Int.toNat_natCast, sizeLine_eq]
        show 1 * xs.length ≤ _
        omega
      have er : (List.replicate ((dkv xs ((List.range xs.length).map fun (j : Nat) => V.int (j : Int))).length : Int).toNat [V.int 0]).flatten = intsN (List.replicate xs.length 0) := by
        rw [dkv_len lv, Int.toNat_natCast]
        unfold intsN
        rw [List.map_replicate]
        simp
      rw [er]
      have e3 : Same H2 (upd H2 L (.lst (intsN (List.replicate xs.length 0)))) := same_new hL
      have hL3 : upd H2 L (.lst (intsN (List.replicate xs.length 0))) L = some (.lst (intsN (List.replicate xs.length 0))) := upd_same
      generalize upd H2 L (.lst (intsN (List.replicate xs.length 0))) = H3 at e3 hL3 ⊢
      have s03 := ((s0.trans s1).trans e2).trans e3
      have nL : H L = none := same_none ((s0.trans s1).trans e2) hL
      refine ⟨_, rfl, c, dx, _, rfl, s03 _ _ h1, cF_no a b (by decide +kernel) (by decide +kernel), c, xs, ps, rfl, hc.same s03, by omega, fun L4 H4 nL4 s4 ⟨Us, hL4, uu⟩ => ?_⟩
      have lU : Us.length = ps.length := by rw [uu.1, List.length_map]
      refine ⟨L4, rfl, ⟨_, SqL.of hL4⟩, ?_⟩
      have hL4' := s4 _ _ hL3
      have hd4 := ((e2.trans e3).trans s4) _ _ hd
      have nDL : D ≠ L := ne_of_none (e2 _ _ hd) hL
      have nLL : L4 ≠ L := fun z => by
        rw [z, hL3] at nL4
        cases nL4
      have ltp : ∀ q ∈ ps, Lt q.1 q.2 := fun q hq => (g.of q hq).2.2
      refine for_list (xs := Us.map V.ref) (fun i σ H' => ∃ v5 v6 : Option V, ∃ R : List Nat, σ = [some (.ref c), none, none, some (.ref D), some (.ref L), v5, v6] ∧ SameX L H4 H' ∧ H' L = some (.lst (intsN R)) ∧ RowsOk xs (ps.take i) R)
        ⟨none, none, _, rfl, SameX.refl _ _, hL4', rows_zero xs⟩ (fun i σ H' _ ⟨_, _, _, _, z, _⟩ => SqL.of (z _ _ nLL hL4)) ?_ ?_
      · rintro i v σ H5 hv ⟨v5, v6, R, rfl, sx, hR, ro⟩
        rw [List.getElem?_map] at hv
        obtain ⟨U, hU, rfl⟩ := Option.map_eq_some_iff.mp hv
        have il := (List.getElem?_eq_some_iff.mp hU).1
        obtain ⟨p, hp⟩ : ∃ p, ps[i]? = some p := ⟨_, List.getElem?_eq_getElem (by omega)⟩
        have eU4 := uu.2 i U (tv p) hU (by rw [List.getElem?_map, hp]; rfl)
        have nUL : U ≠ L := fun z => by
          rw [z, hL4'] at eU4
          cases eU4
        have eU := sx _ _ nUL eU4
        have mp := List.mem_of_getElem? hp
        obtain ⟨m1, m2, lt⟩ := g.of p mp
        obtain ⟨j1, hj1, x1⟩ := List.getElem_of_mem m1
        obtain ⟨j2, hj2, x2⟩ := List.getElem_of_mem m2
        have x1 : xs[j1]? = some p.1 := by rw [List.getElem?_eq_getElem hj1, x1]
        have x2 : xs[j2]? = some p.2 := by rw [List.getElem?_eq_getElem hj2, x2]
        have g1 := dkv_get (vs := (List.range xs.length).map fun (j : Nat) => V.int (j : Int)) nx x1 (by rw [List.getElem?_map, List.getElem?_range hj1]; rfl)
        have g2 := dkv_get (vs := (List.range xs.length).map fun (j : Nat) => V.int (j : Int)) nx x2 (by rw [List.getElem?_map, List.getElem?_range hj2]; rfl)
        obtain ⟨r, gi⟩ : ∃ r, R[j1]? = some r := ⟨_, List.getElem?_eq_getElem (by rw [ro.1]; exact hj1)⟩
        obtain ⟨r', gj⟩ : ∃ r, R[j2]? = some r := ⟨_, List.getElem?_eq_getElem (by rw [ro.1]; exact hj2)⟩
        have ne12 : j1 ≠ j2 := fun z => by
          rw [z, x2] at x1
          rw [Option.some.inj x1] at lt
          exact Lt.irr _ lt
        have nin : p ∉ ps.take i := fun z => by
          obtain ⟨j, hj, e⟩ := List.getElem_of_mem z
          rw [List.length_take] at hj
          rw [List.getElem_take] at e
          have := nd_inj g.nodup (List.getElem?_eq_some_iff.mpr ⟨by omega, e⟩) hp
          omega
        refine ⟨U, _, rfl, SqT.of eU, rfl, _, _, rfl, _, _, rfl, rfl, ?_⟩
        refine ⟨_, rfl, _, rfl, _, rfl, D, .int (j1 : Int), rfl, .inl ⟨_, Sum.inr p.1, .inl (sx _ _ nDL hd4), rfl, g1.symm⟩, _, rfl, _, rfl, D, .int (j2 : Int), rfl, .inl ⟨_, Sum.inr p.2, .inl (sx _ _ nDL hd4), rfl, g2.symm⟩, by show 2 ≤ sizeLine; decide, fun T5 hT5 => ?_⟩
        have e6 : Same H5 (upd H5 T5 (.tup [.int (j1 : Int), .int (j2 : Int)])) := same_new hT5
        refine ⟨L, T5, j1, j2, R, r, r', rfl, e6 _ _ hR, upd_same, ne12, gi, gj, by omega, by omega, ?_⟩
        refine ⟨_, _, _, rfl, ?_, upd_same, ?_⟩
        · intro b o nb e
          rw [upd_ne nb]
          exact e6 _ _ (sx _ _ nb e)
        · rw [take_next hp]
          exact rows_step nx (fun q hq => ltp q (List.mem_of_mem_take hq)) ro x1 x2 lt nin gi gj
      · rintro σ H5 ⟨v5, v6, R, rfl, sx, hR, ro⟩
        rw [List.length_map, lU, List.take_length] at ro
        exact ⟨_, rfl, k H5 L R (fun b o e => sx _ _ (ne_of_none e nL) (s4 _ _ (s03 _ _ e))) nL hR ro⟩
end
end Wd
end
section
set_option maxRecDepth 100000
set_option maxHeartbeats 4000000
namespace Wd
open PySem L2
theorem in_ints (x : Int) (xs : List Int) : inV (.int x) (xs.map V.int) = decide (x ∈ xs) := by
  unfold inV
  rw [List.any_map]
  induction xs with
  | nil => simp
  | cons y ys ih =>
    rw [List.any_cons, ih]
    show ((y == x) || decide (x ∈ ys)) = decide (x ∈ y :: ys)
    by_cases h : x = y
    · subst h
      simp
    · have h' : (y == x) = false := beq_eq_false_iff_ne.mpr (Ne.symm h)
      rw [h', Bool.false_or]
      exact decide_eq_decide.mpr ⟨fun z => List.mem_cons_of_mem _ z, fun z => by
        rcases List.mem_cons.mp z with e | z
        · exact absurd e h
        · exact z⟩
theorem flat_ints' (xs : List Int) : (xs.map V.int).all flatV = true := by
  rw [List.all_map]
  exact List.all_eq_true.mpr fun _ _ => rfl
/-- the kinds that a manner may count -/
def allK : List (List Int) := [[], [0], [1], [2], [0, 1], [0, 2], [1, 2], [0, 1, 2]]
def BitsOk (xs : List Str) (ps : List Pr) (ks : List Int) (p : Pr) (n : Nat) : Prop := n < 2 ^ xs.length ∧ ∀ (k : Nat) y, xs[k]? = some y → n.testBit k = (outF p y && decide (((kf ps p y : Nat) : Int) ∈ ks))
def spCB : Sp := fun vs H Q _ => ∃ (l u t : Addr) (xs : List Str) (ps : List Pr) (R : List Nat) (ks : List Int) (i j : Nat) (p : Pr), vs = [.ref l, .ref u, .ref t] ∧ H l = some (.lst (intsN R)) ∧ RowsOk xs ps R ∧ Good xs ps ∧ H u = some (.tup (ks.map V.int)) ∧ H t = some (.tup [.int (i : Int), .int (j : Int)]) ∧
  xs[i]? = some p.1 ∧ xs[j]? = some p.2 ∧ Lt p.1 p.2 ∧ ∀ n : Nat, BitsOk xs ps ks p n → Q (.int (n : Int)) H
theorem found_bit (ks : List Int) (a b : Bool) : decide ((((if a = true then 1 else 0) + (if b = true then 1 else 0) : Nat) : Int) ∈ ks) = ((decide ((0 : Int) ∈ ks) && !(a || b)) || ((decide ((1 : Int) ∈ ks) && (a ^^ b)) || (decide ((2 : Int) ∈ ks) && (a && b)))) := by
  cases a <;> cases b <;> simp
theorem kf_bits {xs : List Str} {ps : List Pr} (g : Good xs ps) (p : Pr) (y : Str) : kf ps p y = (if decide (y ∈ frs ps p.1) = true then 1 else 0) + (if decide (y ∈ frs ps p.2) = true then 1 else 0) := by
  rw [kf_two]
  simp only [frs_sym g (x := p.1) (y := y), frs_sym g (x := p.2) (y := y), decide_eq_true_eq]
theorem third_bit (n i j k : Nat) : Kb.tb (Builtin.bitAnd (((1 : Int) * 2 ^ ((n : Int)).toNat) - 1) (Builtin.bitNot (Builtin.bitOr ((1 : Int) * 2 ^ ((i : Int)).toNat) ((1 : Int) * 2 ^ ((j : Int)).toNat)))) k = (decide (k < n) && (!decide (k = i) && !decide (k = j))) := by
  have e : ((1 : Int) * 2 ^ ((n : Int)).toNat) - 1 = ((2 ^ n - 1 : Nat) : Int) := by
    rw [shl_one]
    have : 1 ≤ 2 ^ n := Nat.one_le_two_pow
    omega
  rw [e, Kb.tb_and, Kb.tb_not, Kb.tb_or, shl_one, shl_one, Kb.tb_nat, Kb.tb_nat, Kb.tb_nat, Nat.testBit_two_pow_sub_one, Nat.testBit_two_pow, Nat.testBit_two_pow, Bool.not_or]
  congr 1
  congr 1 <;> (congr 1; exact decide_eq_decide.mpr eq_comm)
theorem third_pos (n : Nat) (y : Int) : 0 ≤ Builtin.bitAnd (((1 : Int) * 2 ^ ((n : Int)).toNat) - 1) y := by
  have e : ((1 : Int) * 2 ^ ((n : Int)).toNat) - 1 = ((2 ^ n - 1 : Nat) : Int) := by
    rw [shl_one]
    have : 1 ≤ 2 ^ n := Nat.one_le_two_pow
    omega
  rw [PyProof.Rows.bitAnd_comm, e]
  exact Kb.and_nonneg (by omega)
theorem bits_end {xs : List Str} {ps : List Pr} {R : List Nat} {ks : List Int} {i j : Nat} {p : Pr} (g : Good xs ps) (ro : RowsOk xs ps R) (hi : xs[i]? = some p.1) (hj : xs[j]? = some p.2) {r r' : Nat} (gi : R[i]? = some r) (gj : R[j]? = some r') {v : Int}
    (hv : ∀ k, Kb.tb v k = ((decide ((0 : Int) ∈ ks) && !(r.testBit k || r'.testBit k)) || ((decide ((1 : Int) ∈ ks) && (r.testBit k ^^ r'.testBit k)) || (decide ((2 : Int) ∈ ks) && (r.testBit k && r'.testBit k))))) :
    ∃ n : Nat, BitsOk xs ps ks p n ∧ Builtin.bitAnd v (Builtin.bitAnd (((1 : Int) * 2 ^ ((xs.length : Int)).toNat) - 1) (Builtin.bitNot (Builtin.bitOr ((1 : Int) * 2 ^ ((i : Int)).toNat) ((1 : Int) * 2 ^ ((j : Int)).toNat)))) = (n : Int) := by
  have t := third_bit xs.length i j
  have pos := third_pos xs.length (Builtin.bitNot (Builtin.bitOr ((1 : Int) * 2 ^ ((i : Int)).toNat) ((1 : Int) * 2 ^ ((j : Int)).toNat)))
  generalize Builtin.bitAnd (((1 : Int) * 2 ^ ((xs.length : Int)).toNat) - 1) (Builtin.bitNot (Builtin.bitOr ((1 : Int) * 2 ^ ((i : Int)).toNat) ((1 : Int) * 2 ^ ((j : Int)).toNat))) = th at t pos ⊢
  have nn : 0 ≤ Builtin.bitAnd v th := Kb.and_nonneg pos
  have tbn : ∀ k, (Builtin.bitAnd v th).toNat.testBit k = (Kb.tb v k && (decide (k < xs.length) && (!decide (k = i) && !decide (k = j)))) := fun k => by
    rw [Kb.nat_of_tb nn, Kb.tb_and, t]
  refine ⟨(Builtin.bitAnd v th).toNat, ⟨?_, fun k y hy => ?_⟩, (Int.toNat_of_nonneg nn).symm⟩
  · refine Nat.lt_pow_two_of_testBit _ fun k hk => ?_
    rw [tbn, decide_eq_false (by omega), Bool.false_and, Bool.and_false]
  · have hk := (List.getElem?_eq_some_iff.mp hy).1
    have at_ : ∀ {l z}, xs[l]? = some z → (k = l ↔ y = z) := fun {l z} hl => ⟨fun e => by rw [e, hl] at hy; exact (Option.some.inj hy).symm, fun e => nd_inj g.asc.nd hy (by rw [hl, e])⟩
    have o : outF p y = (!decide (k = i) && !decide (k = j)) := by
      have e1 : decide (k = i) = decide (y = p.1) := decide_eq_decide.mpr (at_ hi)
      have e2 : decide (k = j) = decide (y = p.2) := decide_eq_decide.mpr (at_ hj)
      rw [e1, e2]
      unfold outF
      by_cases c : y = p.1 <;> by_cases d : y = p.2 <;> simp [c, d]
    rw [tbn, hv, decide_eq_true hk, Bool.true_and, o, Bool.and_comm, (ro.2 i r p.1 gi hi).2 k y hy, (ro.2 j r' p.2 gj hj).2 k y hy, kf_bits g, found_bit]
section
variable {P : Program} {w : World} {K : PySem.W.Frag} {mg : Str → Option Value} {base : Heap}
theorem ok_counted_bits {f : Addr} {fd : FuncData} (F : Fun K "counted_bits" "counted_bits" sp_counted_bits f fd) (T : Bt mg) : FnOk P w K mg base CX0 1 f fd ["rows", "kinds", "pair"] spCB := by
  refine F.ok cp_counted_bits (fun vs H Q E h => ?_) (fun cdv A outer s H vs Q E hr h => ?_)
  · obtain ⟨_, _, _, _, _, _, _, _, _, _, rfl, _⟩ := h
    rfl
  · obtain ⟨l, u, t, xs, ps, R, ks, i, j, p, rfl, hl, ro, g, hu, ht, hi, hj, lt, k⟩ := h
    refine ⟨_, pss_cons (ps_asg (pv 2) (pg_tup rfl (pgs_cons (pg_name (i := 3) cp_counted_bits.nd rfl (Or.inl rfl)) (pgs_cons (pg_name (i := 4) cp_counted_bits.nd rfl (Or.inl rfl)) pgs_nil))))
      (pss_cons (ps_par (i := 5) (j := 6) rfl cp_counted_bits.nd rfl rfl (by decide) rfl rfl (pa_cons (pe_ix ix_list (pv 0) (pv 3) (fun _ _ => rfl)) (pa_cons (pe_ix ix_list (pv 0) (pv 4) (fun _ _ => rfl)) pa_nil)) (by rfl))
      (pss_cons (ps_set (i := 7) cp_counted_bits.nd rfl (Or.inl rfl) pe_int)
      (pss_cons (ps_if (pt_cmpR op_in_seq pe_int (pv 1) rfl) (pss_one (ps_aug (i := 7) cp_counted_bits.nd rfl (Or.inl rfl) (pe_un un_inv (pe_op op_or (pv 5) (pv 6))) pip_or)) pss_nil)
      (pss_cons (ps_if (pt_cmpR op_in_seq pe_int (pv 1) rfl) (pss_one (ps_aug (i := 7) cp_counted_bits.nd rfl (Or.inl rfl) (pe_op op_xor (pv 5) (pv 6)) pip_or)) pss_nil)
      (pss_cons (ps_if (pt_cmpR op_in_seq pe_int (pv 1) rfl) (pss_one (ps_aug (i := 7) cp_counted_bits.nd rfl (Or.inl rfl) (pe_op op_and (pv 5) (pv 6)) pip_or)) pss_nil)
      (pss_cons (ps_set (i := 8) cp_counted_bits.nd rfl (Or.inl rfl) (pe_op op_and (pe_op op_sub (pe_op op_shl pe_int (pe_callB call_len_seq (by rfl) T.len PySem.boot_len (pa_cons (pv 0) pa_nil))) pe_int) (pe_un un_inv (pe_op op_or (pe_op op_shl pe_int (pv 3)) (pe_op op_shl pe_int (pv 4))))))
      (pss_one (ps_ret (pe_op op_and (pv 7) (pv 8)))))))))), ?_⟩
    have l9 := g.few
    have il := (List.getElem?_eq_some_iff.mp hi).1
    have jl := (List.getElem?_eq_some_iff.mp hj).1
    obtain ⟨r, gi⟩ : ∃ r, R[i]? = some r := ⟨_, List.getElem?_eq_getElem (by rw [ro.1]; exact il)⟩
    obtain ⟨r', gj⟩ : ∃ r, R[j]? = some r := ⟨_, List.getElem?_eq_getElem (by rw [ro.1]; exact jl)⟩
    have lR : (intsN R).length = xs.length := by unfold intsN; rw [List.length_map]; exact ro.1
    refine ⟨_, rfl, t, _, rfl, SqT.of ht, rfl, _, _, rfl, _, _, rfl, rfl, ?_⟩
    refine ⟨_, rfl, _, rfl, l, _, _, _, rfl, rfl, SqL.of hl, atI_nat (intsN_at gi), _, rfl, _, rfl, l, _, _, _, rfl, rfl, SqL.of hl, atI_nat (intsN_at gj), _, _, rfl, ?_⟩
    refine ⟨_, rfl, u, _, rfl, .inr (SqT.of hu), rfl, flat_ints' _, _, rfl, ?_⟩
    rw [in_ints]
    have key : ∀ v : Int, (∀ k, Kb.tb v k = ((decide ((0 : Int) ∈ ks) && !(r.testBit k || r'.testBit k)) || ((decide ((1 : Int) ∈ ks) && (r.testBit k ^^ r'.testBit k)) || (decide ((2 : Int) ∈ ks) && (r.testBit k && r'.testBit k))))) →
        Q (.int (Builtin.bitAnd v (Builtin.bitAnd (((1 : Int) * 2 ^ ((xs.length : Int)).toNat) - 1) (Builtin.bitNot (Builtin.bitOr ((1 : Int) * 2 ^ ((i : Int)).toNat) ((1 : Int) * 2 ^ ((j : Int)).toNat)))))) H := fun v hv => by
      obtain ⟨n, bo, e⟩ := bits_end g ro hi hj gi gj hv
      rw [e]
      exact k n bo
    have z0 : ∀ k, Kb.tb 0 k = false := fun k => by
      have := Kb.tb_nat 0 k
      rw [Nat.zero_testBit] at this
      exact this
    refine ite2 (fun h0 => ⟨_, rfl, _, rfl, _, rfl, _, _, rfl, rfl, _, rfl, _, _, rfl, rfl, ?_⟩) (fun h0 => ?_)
    all_goals
      refine ⟨_, rfl, u, _, rfl, .inr (SqT.of hu), rfl, flat_ints' _, _, rfl, ?_⟩
      rw [in_ints]
      refine ite2 (fun h1 => ⟨_, rfl, _, rfl, _, rfl, _, _, rfl, rfl, _, _, rfl, rfl, ?_⟩) (fun h1 => ?_)
    all_goals
      refine ⟨_, rfl, u, _, rfl, .inr (SqT.of hu), rfl, flat_ints' _, _, rfl, ?_⟩
      rw [in_ints]
      refine ite2 (fun h2 => ⟨_, rfl, _, rfl, _, rfl, _, _, rfl, rfl, _, _, rfl, rfl, ?_⟩) (fun h2 => ?_)
    all_goals
      refine ⟨_, rfl, l, _, rfl, .inl (SqL.of hl), _, _, rfl, rfl, ⟨by omega, by rw [lR]; omega, by decide⟩, _, _, rfl, rfl, _, rfl, _, _, rfl, rfl, ⟨by omega, by omega, by decide⟩, _, rfl, _, _, rfl, rfl, ⟨by omega, by omega, by decide⟩, _, _, rfl, rfl, _, rfl, _, _, rfl, rfl, ?_⟩
      refine ⟨_, rfl, _, rfl, _, _, rfl, rfl, ?_⟩
      rw [lR]
      refine key _ fun k => ?_
      first | (replace h0 : decide ((0 : Int) ∈ ks) = true := h0) | (replace h0 : decide ((0 : Int) ∈ ks) = false := Bool.eq_false_iff.mpr h0)
      first | (replace h1 : decide ((1 : Int) ∈ ks) = true := h1) | (replace h1 : decide ((1 : Int) ∈ ks) = false := Bool.eq_false_iff.mpr h1)
      first | (replace h2 : decide ((2 : Int) ∈ ks) = true := h2) | (replace h2 : decide ((2 : Int) ∈ ks) = false := Bool.eq_false_iff.mpr h2)
      simp only [h0, h1, h2, Kb.tb_or, Kb.tb_not, Kb.or_nat, Kb.xor_nat, Kb.and_nat, Kb.tb_nat, Nat.testBit_or, Nat.testBit_xor, Nat.testBit_and, z0, Bool.true_and, Bool.false_and, Bool.or_false, Bool.false_or, Bool.or_assoc]
end
end Wd
end
section
set_option maxRecDepth 100000
set_option maxHeartbeats 4000000
namespace Wd
open PySem L2
/-- a manner: its kinds, whether their number has to be odd -/
abbrev Mn := List Int × Bool
def wordS (b : Bool) : Str := if b = true then "odd" else "even"
def MnAt (H : Hp) (t : Addr) (m : Mn) : Prop := ∃ u, H t = some (.tup [.ref u, .str (wordS m.2)]) ∧ H u = some (.tup (m.1.map V.int))
theorem MnAt.same {H H' : Hp} {t : Addr} {m : Mn} (h : MnAt H t m) (s : Same H H') : MnAt H' t m := by
  obtain ⟨u, a, b⟩ := h
  exact ⟨u, s _ _ a, s _ _ b⟩
def ctP (ps : List Pr) (ks : List Int) (p : Pr) (y : Str) : Bool := outF p y && decide (((kf ps p y : Nat) : Int) ∈ ks)
def cntK (xs : List Str) (ps : List Pr) (ks : List Int) (p : Pr) : Nat := (xs.filter (ctP ps ks p)).length
def letB (xs : List Str) (ps : List Pr) (m : Mn) (p : Pr) : Bool := decide (cntK xs ps m.1 p % 2 = 1) == m.2
def letL (xs : List Str) (ps : List Pr) (m : Mn) : List Pr := (prsS xs).filter (letB xs ps m)
theorem count_bits {n : Nat} {f : Str → Bool} {xs : List Str} (lt : n < 2 ^ xs.length) (few : xs.length ≤ 9) (h : ∀ (k : Nat) y, xs[k]? = some y → n.testBit k = f y) : Kb.popc n = (xs.filter f).length := by
  unfold Kb.popc
  rw [← List.countP_eq_length_filter]
  have e9 : List.range 9 = List.range xs.length ++ (List.range (9 - xs.length)).map fun i => xs.length + i := by
    rw [← List.range_add]
    congr 1
    omega
  rw [e9, List.countP_append]
  have z : ((List.range (9 - xs.length)).map fun i => xs.length + i).countP (fun i => n.testBit i) = 0 := by
    rw [List.countP_eq_zero]
    intro k hk
    obtain ⟨i, _, rfl⟩ := List.mem_map.mp hk
    rw [Nat.testBit_lt_two_pow (Nat.lt_of_lt_of_le lt (Nat.pow_le_pow_right (by decide) (by omega)))]
    decide
  have e : xs = (List.range xs.length).map fun k => xs.getD k Str.empty := by
    apply List.ext_getElem (by simp)
    intro i h1 h2
    simp [List.getD_eq_getElem?_getD, List.getElem?_eq_getElem h1]
  rw [z, Nat.add_zero]
  conv => rhs; rw [e, List.countP_map]
  refine List.countP_congr fun k hk => ?_
  have hk := List.mem_range.mp hk
  have := h k xs[k] (List.getElem?_eq_getElem hk)
  rw [this]
  simp [List.getD_eq_getElem?_getD, List.getElem?_eq_getElem hk]
theorem bits_pop {xs : List Str} {ps : List Pr} {ks : List Int} {p : Pr} {n : Nat} (few : xs.length ≤ 9) (h : BitsOk xs ps ks p n) : n < 512 ∧ Kb.popc n = cntK xs ps ks p :=
  ⟨Nat.lt_of_lt_of_le h.1 (Nat.pow_le_pow_right (n := 2) (by decide) few), count_bits h.1 few h.2⟩
/-- tuples of places of pairs -/
def PlAt (H : Hp) (D : Addr) (xs : List Str) (zs : List Pr) : Prop := ∃ Ts : List Addr, H D = some (.lst (Ts.map V.ref)) ∧ Ts.length = zs.length ∧ ∀ (k : Nat) T p, Ts[k]? = some T → zs[k]? = some p → ∃ i j : Nat, H T = some (.tup [.int (i : Int), .int (j : Int)]) ∧ xs[i]? = some p.1 ∧ xs[j]? = some p.2
theorem PlAt.same {H H' : Hp} {D : Addr} {xs : List Str} {zs : List Pr} (h : PlAt H D xs zs) (s : Same H H') : PlAt H' D xs zs := by
  obtain ⟨Ts, a, b, c⟩ := h
  exact ⟨Ts, s _ _ a, b, fun k T p e1 e2 => let ⟨i, j, x, y, z⟩ := c k T p e1 e2; ⟨i, j, s _ _ x, y, z⟩⟩
theorem ix_at {xs : List Str} {k : Nat} {ix : List Nat} {p : Pr} (h : (Kc.ixs2 xs.length)[k]? = some ix) (hp : (prsS xs)[k]? = some p) : ∃ i j, ix = [i, j] ∧ xs[i]? = some p.1 ∧ xs[j]? = some p.2 := by
  have e := congrArg (fun l => l[k]?) (ixs2_prs (xs.map V.str))
  have h' : (Kc.ixs2 (xs.map V.str).length)[k]? = some ix := by rw [List.length_map]; exact h
  simp only [List.getElem?_map, h', prs_strs, Option.map_some] at e
  rw [hp] at e
  have e := Option.some.inj e
  have e : ix.map (fun i => (xs.map V.str).getD i V.non) = [V.str p.1, V.str p.2] := e
  match ix, e with
  | [i, j], e =>
    have e1 := (List.cons.inj e).1
    have e2 := (List.cons.inj (List.cons.inj e).2).1
    have at_ : ∀ {i : Nat} {x : Str}, (xs.map V.str).getD i V.non = V.str x → xs[i]? = some x := fun {i x} e => by
      rw [List.getD_eq_getElem?_getD, List.getElem?_map] at e
      cases hx : xs[i]? with
      | none =>
        rw [hx] at e
        cases e
      | some y =>
        rw [hx] at e
        exact congrArg some (V.str.inj e)
    exact ⟨i, j, rfl, at_ e1, at_ e2⟩
  | [], e => simp at e
  | [_], e => simp at e
  | _ :: _ :: _ :: _, e => simp at e
theorem len_ixs (xs : List Str) : (Kc.ixs2 xs.length).length = (prsS xs).length := by
  have e := congrArg List.length (ixs2_prs (xs.map V.str))
  rw [List.length_map, List.length_map, prs_strs, List.length_map, List.length_map] at e
  exact e
def spPin : Sp := fun vs H Q _ => ∃ (l : Addr) (xs : List Str) (R : List Nat), vs = [.ref l] ∧ H l = some (.lst (intsN R)) ∧ R.length = xs.length ∧ xs.length ≤ 12 ∧ ∀ (H' : Hp) (D : Addr), Same H H' → H D = none → PlAt H' D xs (prsS xs) → Q (.ref D) H'
def spLets : Sp := fun vs H Q _ => ∃ (l t u : Addr) (xs : List Str) (ps : List Pr) (R : List Nat) (m : Mn) (i j : Nat) (p : Pr), vs = [.ref l, .ref t, .ref u] ∧ H l = some (.lst (intsN R)) ∧ RowsOk xs ps R ∧ Good xs ps ∧ MnAt H t m ∧ H u = some (.tup [.int (i : Int), .int (j : Int)]) ∧
  xs[i]? = some p.1 ∧ xs[j]? = some p.2 ∧ Lt p.1 p.2 ∧ ∀ H', Same H H' → Q (.bl (letB xs ps m p)) H'
def spLetIn : Sp := fun vs H Q _ => ∃ (l t : Addr) (xs : List Str) (ps : List Pr) (R : List Nat) (m : Mn), vs = [.ref l, .ref t] ∧ H l = some (.lst (intsN R)) ∧ RowsOk xs ps R ∧ Good xs ps ∧ MnAt H t m ∧ ∀ (H' : Hp) (D : Addr), Same H H' → H D = none → PlAt H' D xs (letL xs ps m) → Q (.ref D) H'
def spRoad : Sp := fun vs H Q _ => ∃ (l d : Addr) (xs : List Str) (zs : List Pr), vs = [.ref l, .ref d] ∧ H l = some (.lst (xs.map V.str)) ∧ PlAt H d xs zs ∧ (∀ p ∈ zs, Lt p.1 p.2) ∧ zs.length ≤ 100 ∧ ∀ (H' : Hp) (D : Addr), Same H H' → H D = none → PwAt H' D zs → Q (.ref D) H'
def spPLet (C : Addr) : Sp := fun vs H Q _ => ∃ (c t : Addr) (xs : List Str) (ps : List Pr) (m : Mn), vs = [.ref c, .ref t] ∧ CAt C H c xs ps ∧ Good xs ps ∧ MnAt H t m ∧ ∀ (H' : Hp) (D : Addr), Same H H' → H D = none → PwAt H' D (letL xs ps m) → Q (.ref D) H'
section
variable {P : Program} {w : World} {K : PySem.W.Frag} {mg : Str → Option Value} {base : Heap}
theorem ok_pairs_in {f : Addr} {fd : FuncData} (F : Fun K "pairs_in" "pairs_in" sp_pairs_in f fd) (T : Bt mg) (mC : mg "combinations" = some (.type Kc.TC)) : FnOk P w K mg base CX0 1 f fd ["rows"] spPin := by
  refine F.ok cp_pairs_in (fun vs H Q E h => ?_) (fun cdv A outer s H vs Q E hr h => ?_)
  · obtain ⟨_, _, _, rfl, _⟩ := h
    rfl
  · obtain ⟨l, xs, R, rfl, hl, lR, few, k⟩ := h
    refine ⟨_, pss_one (ps_ret (Kc.pe_listCombR rfl (by rfl) T.list (by rfl) mC (prg_1 (by rfl) T.range (pe_callB call_len_seq (by rfl) T.len PySem.boot_len (pa_cons (pv 0) pa_nil))))), ?_⟩
    have li : (intsN R).length = xs.length := by unfold intsN; rw [List.length_map]; exact lR
    refine ⟨_, rfl, l, _, rfl, .inl (SqL.of hl), _, rfl, xs.length, rfl, by rw [li], few, fun H2 D Ts s2 nD hd told lt => ?_⟩
    refine k H2 D s2 nD ⟨Ts, hd, by rw [lt]; exact len_ixs xs, fun a T p ha hp => ?_⟩
    obtain ⟨ix, hx, e⟩ := told.2.2 a T ha
    obtain ⟨i, j, rfl, hi, hj⟩ := ix_at hx hp
    have io : ∀ {i : Nat} {x : Str}, xs[i]? = some x → (Kc.iota xs.length).getD i V.non = .int (i : Int) := fun {i x} hi => by
      have il := (List.getElem?_eq_some_iff.mp hi).1
      unfold Kc.iota
      rw [List.getD_eq_getElem?_getD, List.getElem?_map, List.getElem?_range il]
      rfl
    refine ⟨i, j, ?_, hi, hj⟩
    rw [e]
    show some (HO.tup [(Kc.iota xs.length).getD i V.non, (Kc.iota xs.length).getD j V.non]) = _
    rw [io hi, io hj]
theorem ok_lets {f : Addr} {fd : FuncData} (F : Fun K "lets" "lets" sp_lets f fd) (T : Bt mg) (CO : Has P w K mg base 1 "ones" ["bits"] spOnes) (CC : Has P w K mg base 1 "counted_bits" ["rows", "kinds", "pair"] spCB) : FnOk P w K mg base CX0 2 f fd ["rows", "manner", "pair"] spLets := by
  obtain ⟨f1, d1, G1, m1, k1, b1⟩ := CO
  obtain ⟨f2, d2, G2, m2, k2, b2⟩ := CC
  refine F.ok cp_lets (fun vs H Q E h => ?_) (fun cdv A outer s H vs Q E hr h => ?_)
  · obtain ⟨_, _, _, _, _, _, _, _, _, _, rfl, _⟩ := h
    rfl
  · obtain ⟨l, t, u, xs, ps, R, m, i, j, p, rfl, hl, ro, g, ⟨v, ht, hv⟩, hu, hi, hj, lt, k⟩ := h
    refine ⟨_, pss_cons (ps_asg (pv 1) (pg_tup rfl (pgs_cons (pg_name (i := 3) cp_lets.nd rfl (Or.inl rfl)) (pgs_cons (pg_name (i := 4) cp_lets.nd rfl (Or.inl rfl)) pgs_nil))))
      (pss_one (ps_ret (pe_cmpR op_eq (pe_cmpR op_eq (pe_op op_mod (pe_call G1 hr rfl m1 k1 b1 .nil pass0 (pa_cons (pe_call G2 hr rfl m2 k2 b2 .nil pass0 (pa_cons (pv 0) (pa_cons (pv 3) (pa_cons (pv 2) pa_nil)))) pa_nil)) pe_int) pe_int (nomark _)) (pe_cmpR op_eq (pv 4) pe_str (nomark _)) (nomark _)))), ?_⟩
    refine ⟨_, rfl, t, _, rfl, SqT.of ht, rfl, _, _, rfl, _, _, rfl, rfl, ?_⟩
    refine ⟨_, rfl, _, rfl, _, rfl, l, v, u, xs, ps, R, m.1, i, j, p, rfl, hl, ro, g, hv, hu, hi, hj, lt, fun n bo => ?_⟩
    obtain ⟨n5, pc⟩ := bits_pop g.few.2 bo
    refine ⟨n, rfl, n5, ?_⟩
    refine ⟨_, _, rfl, rfl, (by show (0 : Int) < 2; decide), rfl, _, rfl, rfl, rfl, ?_⟩
    have e1 : decide (V.int (((Kb.popc n : Nat) : Int) % 2) = V.int 1) = decide (cntK xs ps m.1 p % 2 = 1) := decide_eq_decide.mpr ⟨fun z => by have := V.int.inj z; rw [← pc]; omega, fun z => congrArg V.int (by rw [← pc] at z; omega)⟩
    have e2 : decide (V.str (wordS m.2) = V.str ("odd" : Str)) = m.2 := by
      cases m.2
      · exact decide_eq_false fun z => by have := V.str.inj z; revert this; decide
      · exact decide_eq_true rfl
    have e3 : decide (V.bl (decide (V.int (((Kb.popc n : Nat) : Int) % 2) = V.int 1)) = V.bl (decide (V.str (wordS m.2) = V.str ("odd" : Str)))) = letB xs ps m p := by
      rw [e1, e2]
      unfold letB
      cases decide (cntK xs ps m.1 p % 2 = 1) <;> cases m.2 <;> rfl
    show Q (.bl (decide (V.bl (decide (V.int (((Kb.popc n : Nat) : Int) % 2) = V.int 1)) = V.bl (decide (V.str (wordS m.2) = V.str ("odd" : Str)))))) H
    rw [e3]
    exact k H (Same.refl _)
theorem ok_let_in {f : Addr} {fd : FuncData} (F : Fun K "let_in" "let_in" sp_let_in f fd) (T : Bt mg) (CP : Has P w K mg base 1 "pairs_in" ["rows"] spPin) (CL : Has P w K mg base 2 "lets" ["rows", "manner", "pair"] spLets) : FnOk P w K mg base CX0 3 f fd ["rows", "manner"] spLetIn := by
  obtain ⟨f1, d1, G1, m1, k1, b1⟩ := CP
  obtain ⟨f2, d2, G2, m2, k2, b2⟩ := CL
  refine F.ok cp_let_in (fun vs H Q E h => ?_) (fun cdv A outer s H vs Q E hr h => ?_)
  · obtain ⟨_, _, _, _, _, _, rfl, _⟩ := h
    rfl
  · obtain ⟨l, t, xs, ps, R, m, rfl, hl, ro, g, hm, k⟩ := h
    have hr1 : Room 1 _ := hr.mono (by decide)
    refine ⟨_, pss_one (ps_ret (pe_lc (own := [("pair", 2)]) (g := gName 2) rfl cp_let_in.nd (pi_list (pe_call G1 hr1 rfl m1 k1 b1 .nil pass0 (pa_cons (pv 0) pa_nil)))
      (blkOk_by (N := ["rows", "manner", "pair"]) (sc := defScope sp_let_in) (by decide +kernel)) (fun _ _ _ _ _ => pg_name (i := 2) cp_let_in.nd rfl (Or.inl rfl))
      (fun _ _ _ _ _ => pts_one (pt_val (pe_call G2 hr rfl m2 k2 b2 .nil pass0 (pa_cons (pv 0) (pa_cons (pv 1) (pa_cons (pv 2) pa_nil)))))) (fun _ _ _ _ _ => pv 2))), ?_⟩
    have l9 := g.few
    have l36 := Good.len0 (xs := xs) l9.2
    refine ⟨_, rfl, l, xs, R, rfl, hl, ro.1, by omega, fun H1 B s1 nB ⟨Us, hB, lU, at_⟩ => ⟨B, rfl, ⟨_, SqL.of hB⟩, fun D hD => ?_⟩⟩
    have nD : H D = none := same_none s1 hD
    refine lc_list (xs := Us.map V.ref) (fun i H' => Same H1 H' ∧ PlAt H' D xs (((prsS xs).take i).filter (letB xs ps m))) ⟨same_new hD, [], upd_same, rfl, fun k T p e => by simp at e⟩ (fun i H' _ z => SqL.of (z.1 _ _ hB)) ?_ ?_
    · rintro i v H2 hv ⟨s2, Vs, hd, lV, atV⟩
      rw [List.getElem?_map] at hv
      obtain ⟨U, hU, rfl⟩ := Option.map_eq_some_iff.mp hv
      have il := (List.getElem?_eq_some_iff.mp hU).1
      obtain ⟨p, hp⟩ : ∃ p, (prsS xs)[i]? = some p := ⟨_, List.getElem?_eq_getElem (by omega)⟩
      obtain ⟨a, b, eU, ha, hb⟩ := at_ i U p hU hp
      have s12 := s1.trans s2
      have lt := (mem_prsS g.asc (List.mem_of_getElem? hp)).2.2
      have nx : ((prsS xs).take (i + 1)).filter (letB xs ps m) = ((prsS xs).take i).filter (letB xs ps m) ++ (if letB xs ps m p = true then [p] else []) := filter_next hp
      refine ⟨rfl, _, rfl, _, rfl, _, rfl, l, t, U, xs, ps, R, m, a, b, p, rfl, s12 _ _ hl, ro, g, hm.same s12, s2 _ _ eU, ha, hb, lt, fun H3 s3 => ?_⟩
      have hd3 := s3 _ _ hd
      refine ⟨_, rfl, ?_⟩
      refine ite2 (fun hc => ?_) (fun hc => ?_)
      · have lv : Vs.length ≤ 36 := by
          rw [lV]
          have h1 := List.length_filter_le (letB xs ps m) ((prsS xs).take i)
          rw [List.length_take] at h1
          omega
        have hc : letB xs ps m p = true := hc
        refine ⟨_, rfl, _, hd3, by rw [List.length_map, sizeLine_eq]; omega, same_over (s2.trans s3) hD, Vs ++ [U], by rw [upd_same, List.map_append]; rfl, by rw [nx, if_pos hc, List.length_append, List.length_append, lV]; rfl, fun q T z h1 h2 => ?_⟩
        rw [nx, if_pos hc] at h2
        have keep : ∀ {T : Addr} {x y : V}, H3 T = some (.tup [x, y]) → upd H3 D (.lst (Vs.map V.ref ++ [V.ref U])) T = some (.tup [x, y]) := fun {T x y} e => by
          rw [upd_ne fun z => by
            rw [z, hd3] at e
            cases e]
          exact e
        by_cases c : q < Vs.length
        · rw [List.getElem?_append_left c] at h1
          rw [List.getElem?_append_left (by rw [← lV]; exact c)] at h2
          obtain ⟨x, y, e1, e2, e3⟩ := atV q T z h1 h2
          exact ⟨x, y, keep (s3 _ _ e1), e2, e3⟩
        · rw [List.getElem?_append_right (by omega)] at h1
          rw [List.getElem?_append_right (by omega), ← lV] at h2
          cases hq : q - Vs.length with
          | zero =>
            rw [hq] at h1 h2
            simp at h1 h2
            subst h1 h2
            exact ⟨a, b, keep (s3 _ _ (s2 _ _ eU)), ha, hb⟩
          | succ q =>
            rw [hq] at h1
            simp at h1
      · have hc : ¬ letB xs ps m p = true := hc
        refine ⟨s2.trans s3, ?_⟩
        rw [nx, if_neg hc, List.append_nil]
        exact PlAt.same ⟨Vs, hd, lV, atV⟩ s3
    · rintro H2 ⟨s2, pl⟩
      rw [List.length_map, lU, List.take_length] at pl
      exact k H2 D (s1.trans s2) nD pl
theorem ok_road_of {f : Addr} {fd : FuncData} (F : Fun K "road_of" "road_of" sp_road_of f fd) (CQ : Has P w K mg base 1 "pair_of" ["one", "other"] spPair) : FnOk P w K mg base CX0 2 f fd ["people", "deeds"] spRoad := by
  obtain ⟨f1, d1, G1, m1, k1, b1⟩ := CQ
  refine F.ok cp_road_of (fun vs H Q E h => ?_) (fun cdv A outer s H vs Q E hr h => ?_)
  · obtain ⟨_, _, _, _, rfl, _⟩ := h
    rfl
  · obtain ⟨l, d, xs, zs, rfl, hl, ⟨Us, hd, lU, at_⟩, lts, few, k⟩ := h
    refine ⟨_, pss_one (ps_ret (pe_lc (own := [("one", 2), ("other", 3)]) (g := gTup K 2 (gCons (gName 2) (gCons (gName 3) gNil))) (tt := tYes) rfl cp_road_of.nd (pi_list (pv 1))
      (blkOk_by (N := ["people", "deeds", "one", "other"]) (sc := defScope sp_road_of) (by decide +kernel)) (fun _ _ _ _ _ => pg_tup rfl (pgs_cons (pg_name (i := 2) cp_road_of.nd rfl (Or.inl rfl)) (pgs_cons (pg_name (i := 3) cp_road_of.nd rfl (Or.inl rfl)) pgs_nil))) (fun _ _ _ _ _ => pts_nil)
      (fun _ _ _ _ _ => pe_call G1 hr rfl m1 k1 b1 .nil pass0 (pa_cons (pe_ix (r := rIxL K) ix_list (pv 0) (pv 2) (fun _ _ => rfl)) (pa_cons (pe_ix (r := rIxL K) ix_list (pv 0) (pv 3) (fun _ _ => rfl)) pa_nil))))), ?_⟩
    refine ⟨_, rfl, d, rfl, ⟨_, SqL.of hd⟩, fun D hD => ?_⟩
    refine lc_list (xs := Us.map V.ref) (fun i H' => ∃ Vs : List Addr, Same H H' ∧ H' D = some (.lst (Vs.map V.ref)) ∧ Tups H' Vs ((zs.take i).map tv)) ⟨[], same_new hD, upd_same, Tups.nil⟩ (fun i H' _ ⟨_, z, _⟩ => SqL.of (z _ _ hd)) ?_ ?_
    · rintro i v H2 hv ⟨Vs, s2, hd2, tv2⟩
      rw [List.getElem?_map] at hv
      obtain ⟨U, hU, rfl⟩ := Option.map_eq_some_iff.mp hv
      have il := (List.getElem?_eq_some_iff.mp hU).1
      obtain ⟨p, hp⟩ : ∃ p, zs[i]? = some p := ⟨_, List.getElem?_eq_getElem (by omega)⟩
      obtain ⟨a, b, eU, ha, hb⟩ := at_ i U p hU hp
      have lt := lts p (List.mem_of_getElem? hp)
      have em : mk p.1 p.2 = p := if_pos lt
      have sa : ∀ {i : Nat} {x : Str}, xs[i]? = some x → (xs.map V.str)[i]? = some (.str x) := fun h => by rw [List.getElem?_map, h]; rfl
      refine ⟨U, _, rfl, SqT.of (s2 _ _ eU), rfl, _, _, rfl, _, _, rfl, rfl, rfl, ?_⟩
      refine ⟨_, rfl, _, rfl, l, _, _, _, rfl, rfl, SqL.of (s2 _ _ hl), atI_nat (sa ha), _, rfl, _, rfl, l, _, _, _, rfl, rfl, SqL.of (s2 _ _ hl), atI_nat (sa hb), p.1, p.2, rfl, fun T0 nT => ?_⟩
      rw [em]
      have e3 : Same H2 (upd H2 T0 (.tup [.str p.1, .str p.2])) := same_new nT
      have hT0 : upd H2 T0 (.tup [.str p.1, .str p.2]) T0 = some (.tup [.str p.1, .str p.2]) := upd_same
      generalize upd H2 T0 (.tup [.str p.1, .str p.2]) = H3 at e3 hT0 ⊢
      obtain ⟨k1, k2, k3⟩ := keep_tup (q := tv p) hD (s2.trans e3) (e3 _ _ hd2) (tv2.same e3) hT0
      refine ⟨_, e3 _ _ hd2, ?_, Vs ++ [T0], k2, k1, ?_⟩
      · rw [List.length_map, tv2.1, List.length_map, List.length_take, sizeLine_eq]
        omega
      · rw [take_next hp, List.map_append]
        exact k3
    · rintro H2 ⟨Vs, s2, hd2, tv2⟩
      rw [List.length_map, lU, List.take_length] at tv2
      exact k H2 D s2 hD ⟨Vs, hd2, tv2⟩
theorem ok_pairs_let {f C : Addr} {fd : FuncData} (F : Fun K "pairs_let" "pairs_let" sp_pairs_let f fd) (TC : CT K mg C) (MP : HasM P w K mg base C 1 "people" (spPplM C)) (CR : Has P w K mg base 2 "rows_of" ["company"] (spRows C)) (CL : Has P w K mg base 3 "let_in" ["rows", "manner"] spLetIn)
    (CO : Has P w K mg base 2 "road_of" ["people", "deeds"] spRoad) : FnOk P w K mg base CX0 4 f fd ["company", "manner"] (spPLet C) := by
  obtain ⟨fP, fdP, GP, mP, bP⟩ := MP
  obtain ⟨f1, d1, G1, m1, k1, b1⟩ := CR
  obtain ⟨f2, d2, G2, m2, k2, b2⟩ := CL
  obtain ⟨f3, d3, G3, m3, k3, b3⟩ := CO
  refine F.ok cp_pairs_let (fun vs H Q E h => ?_) (fun cdv A outer s H vs Q E hr h => ?_)
  · obtain ⟨_, _, _, _, _, rfl, _⟩ := h
    rfl
  · obtain ⟨c, t, xs, ps, m, rfl, hc, g, hm, k⟩ := h
    have hr1 : Room 1 _ := hr.mono (by decide)
    have hr2 : Room 2 _ := hr.mono (by decide)
    refine ⟨_, pss_one (ps_ret (pe_call G3 hr2 rfl m3 k3 b3 .nil pass0 (pa_cons (pe_meth0 (pv 0) TC.is.cl mP GP hr1 bP .nil pass0) (pa_cons (pe_call G2 hr rfl m2 k2 b2 .nil pass0 (pa_cons (pe_call G1 hr2 rfl m1 k1 b1 .nil pass0 (pa_cons (pv 0) pa_nil)) (pa_cons (pv 1) pa_nil))) pa_nil)))), ?_⟩
    obtain ⟨dx, a, b, h1, h2, h3⟩ := id hc
    have l9 := g.few
    have l36 := Good.len0 (xs := xs) l9.2
    refine ⟨_, rfl, c, dx, _, rfl, h1, cF_no a b (by decide +kernel) (by decide +kernel), c, xs, ps, rfl, hc, by omega, fun L hL => ?_⟩
    have s1 : Same H (upd H L (.lst (xs.map V.str))) := same_new hL
    have hL1 : upd H L (.lst (xs.map V.str)) L = some (.lst (xs.map V.str)) := upd_same
    generalize upd H L (.lst (xs.map V.str)) = H1 at s1 hL1 ⊢
    refine ⟨_, rfl, c, xs, ps, rfl, hc.same s1, g, fun H2 l R s2 nl hl ro => ?_⟩
    refine ⟨_, rfl, l, t, xs, ps, R, m, rfl, hl, ro, g, hm.same (s1.trans s2), fun H3 D s3 nD pl => ?_⟩
    have s13 := s2.trans s3
    refine ⟨L, D, xs, letL xs ps m, rfl, s13 _ _ hL1, pl, fun p hp => (mem_prsS g.asc (List.mem_filter.mp hp).1).2.2, ?_, fun H4 E4 s4 nE hE => k H4 E4 ((s1.trans s13).trans s4) (same_none (s1.trans s13) nE) hE⟩
    have h1 := List.length_filter_le (letB xs ps m) (prsS xs)
    unfold letL
    omega
end
end Wd
end
section
set_option maxRecDepth 100000
set_option maxHeartbeats 4000000
namespace Wd
open PySem L2
theorem walk_zipM {K : PySem.W.Frag} {a b : Addr} {xs ys : List V} {n : Nat} (h : n = min xs.length ys.length) : Walk (RZ.ItzT K a b) n (fun H => SqT K H a xs ∧ SqT K H b ys) (YPair (fun i => xs[i]?) (fun i => ys[i]?)) := by
  refine ⟨fun i H hi q => ⟨xs, ys, xs[i]'(by omega), ys[i]'(by omega), q.1, q.2, List.getElem?_eq_getElem _, List.getElem?_eq_getElem _⟩, fun H q => ⟨xs, ys, q.1, q.2, by omega⟩, ?_⟩
  rintro i H v H' hi q ⟨T0, x, y, e1, e2, e3, e4, e5⟩
  exact ⟨T0, x, y, e1, e2, e3, e4 xs q.1, e5 ys q.2⟩
def spAscI : Sp := fun vs H Q _ => ∃ (u : Addr) (ks : List Int), vs = [.ref u] ∧ H u = some (.tup (ks.map V.int)) ∧ ks.Pairwise (· < ·) ∧ ks.length ≤ 100 ∧ ∀ H', Same H H' → Q (.bl true) H'
def spBelow : Sp := fun vs H Q _ => ∃ (u : Addr) (e : Int) (ks : List Int), vs = [.ref u, .int e] ∧ H u = some (.tup (ks.map V.int)) ∧ ks.Pairwise (· < ·) ∧ ks.length ≤ 100 ∧ (∀ k ∈ ks, 0 ≤ k ∧ k < e) ∧ ∀ H', Same H H' → Q (.bl true) H'
def spIsMn : Sp := fun vs H Q _ => ∃ (t : Addr) (m : Mn), vs = [.ref t] ∧ MnAt H t m ∧ m.1 ∈ allK ∧ ∀ H', Same H H' → Q (.bl true) H'
def spChkM : Sp := fun vs H Q _ => ∃ (t : Addr) (m : Mn), vs = [.ref t] ∧ MnAt H t m ∧ m.1 ∈ allK ∧ ∀ H', Same H H' → Q .non H'
def spMany : Sp := fun vs H Q _ => ∃ n : Int, vs = [.int n] ∧ 1 ≤ n ∧ Q .non H
def spLetP (C : Addr) : Sp := fun vs H Q _ => ∃ (c t : Addr) (xs : List Str) (ps : List Pr) (m : Mn), vs = [.ref c, .ref t] ∧ CAt C H c xs ps ∧ Good xs ps ∧ MnAt H t m ∧ m.1 ∈ allK ∧ ∀ (H' : Hp) (D : Addr), Same H H' → H D = none → PwAt H' D (letL xs ps m) → Q (.ref D) H'
def WT (K : PySem.W.Frag) (t : Addr) : Prop := ∀ H : Hp, SqT K H t [.str ("even" : Str), .str ("odd" : Str)]
theorem allK_good {ks : List Int} (h : ks ∈ allK) : ks.Pairwise (· < ·) ∧ ks.length ≤ 3 ∧ ∀ k ∈ ks, 0 ≤ k ∧ k < 3 := by
  have a : (allK.all fun ks => decide (ks.Pairwise (· < ·)) && (decide (ks.length ≤ 3) && ks.all fun k => decide (0 ≤ k) && decide (k < 3))) = true := by decide +kernel
  have q := List.all_eq_true.mp a ks h
  rw [Bool.and_eq_true, Bool.and_eq_true] at q
  refine ⟨of_decide_eq_true q.1, of_decide_eq_true q.2.1, fun k hk => ?_⟩
  have z := List.all_eq_true.mp q.2.2 k hk
  rw [Bool.and_eq_true] at z
  exact ⟨of_decide_eq_true z.1, of_decide_eq_true z.2⟩
section
variable {P : Program} {w : World} {K : PySem.W.Frag} {mg : Str → Option Value} {base : Heap}
theorem ok_is_ascI {f : Addr} {fd : FuncData} (F : Fun K "is_ascending" "is_ascending" sp_is_ascending f fd) (T : Bt mg) : FnOk P w K mg base CX0 1 f fd ["things"] spAscI := by
  refine F.ok cp_is_ascending (fun vs H Q E h => ?_) (fun cdv A outer s H vs Q E hr h => ?_)
  · obtain ⟨_, _, rfl, _⟩ := h
    rfl
  · obtain ⟨u, ks, rfl, hu, asc, few, k⟩ := h
    refine ⟨_, pss_one (ps_ret (pe_callB (cr_all rfl) (by rfl) T.all (by decide +kernel) (pa_cons (pe_lc (own := [("one", 1), ("other", 2)]) (g := gTup K 2 (gCons (gName 1) (gCons (gName 2) gNil))) (tt := tYes) rfl cp_is_ascending.nd (RZ.pi_zipA (by rfl) T.zip (pa_cons (pv 0) (pa_cons (pe_slice sl_tupA (pv 0) (po_some pe_int) po_none) pa_nil)))
      (blkOk_by (N := ["things", "one", "other"]) (sc := defScope sp_is_ascending) (by decide +kernel)) (fun _ _ _ _ _ => pg_tup rfl (pgs_cons (pg_name (i := 1) cp_is_ascending.nd rfl (Or.inl rfl)) (pgs_cons (pg_name (i := 2) cp_is_ascending.nd rfl (Or.inl rfl)) pgs_nil))) (fun _ _ _ _ _ => pts_nil)
      (fun _ _ _ _ _ => pe_cmpR op_lt (pv 1) (pv 2) (nomark _))) pa_nil))), ?_⟩
    have cut : cutV (ks.map V.int) (some 1) none = (ks.drop 1).map V.int := by
      rw [List.map_drop]
      exact cutV_hi (ks.map V.int) 1
    refine ⟨_, rfl, _, rfl, 1, rfl, u, _, rfl, SqT.of hu, fun hw => ?_, fun hw Y hY => ?_⟩
    have e0 : ks.drop 1 = ks := by
      have h1 := hw.1
      rw [show (1 : Int) = ((1 : Nat) : Int) from rfl, sIx_n, List.length_map] at h1
      have : ks.length = 0 := by omega
      rw [List.eq_nil_of_length_eq_zero this]
      rfl
    have s1 : Same H H := Same.refl _
    have hY1 : H u = some (.tup ((ks.drop 1).map V.int)) := by rw [e0]; exact hu
    rotate_left
    have s1 : Same H (upd H Y (.tup (cutV (ks.map V.int) (some 1) none))) := same_new hY
    have hY1 : upd H Y (.tup (cutV (ks.map V.int) (some 1) none)) Y = some (.tup ((ks.drop 1).map V.int)) := by rw [upd_same, cut]
    all_goals
      refine ⟨u, _, _, _, rfl, .inr ⟨SqT.of (s1 _ _ hu), SqT.of hY1, fun R hR => ?_⟩⟩
      have nR := same_none s1 hR
      refine lc_it (walk_zipM (K := K) (xs := ks.map V.int) (ys := (ks.drop 1).map V.int) (n := (ks.drop 1).length) (by rw [List.length_map, List.length_map, List.length_drop]; omega)) (fun i H' => Same H H' ∧ H' R = some (.lst (trues i)) ∧ H' _ = some (.tup ((ks.drop 1).map V.int))) ⟨same_updN s1 hR, upd_same, by rw [upd_ne (ne_of_none hY1 hR)]; exact hY1⟩ (fun i H' _ z => ⟨SqT.of (z.1 _ _ hu), SqT.of z.2.2⟩) ?_ ?_
      · rintro i v H1 H2 hi ⟨s2, hr2, hy2⟩ ⟨T0, x1, x2, rfl, nT, rfl, ep, eq⟩
        have ep : (ks.map V.int)[i]? = some x1 := ep
        have eq : ((ks.drop 1).map V.int)[i]? = some x2 := eq
        rw [List.getElem?_map] at ep eq
        obtain ⟨a, ha, rfl⟩ := Option.map_eq_some_iff.mp ep
        obtain ⟨b, hb, rfl⟩ := Option.map_eq_some_iff.mp eq
        rw [List.getElem?_drop] at hb
        have lt : a < b := by
          obtain ⟨ia, ea⟩ := List.getElem?_eq_some_iff.mp ha
          obtain ⟨ib, eb⟩ := List.getElem?_eq_some_iff.mp hb
          rw [← ea, ← eb]
          exact List.pairwise_iff_getElem.mp asc i (1 + i) ia ib (by omega)
        have e3 : Same H1 (upd H1 T0 (.tup [.int a, .int b])) := same_new nT
        refine ⟨T0, _, rfl, SqT.of upd_same, rfl, _, _, rfl, _, _, rfl, rfl, rfl, ?_⟩
        refine ⟨_, rfl, _, rfl, _, _, rfl, rfl, _, e3 _ _ hr2, ?_, same_over (s2.trans e3) nR, ?_, ?_⟩
        · rw [trues_len, sizeLine_eq]
          rw [List.length_drop] at hi
          omega
        · rw [upd_same]
          show some (HO.lst (trues i ++ [V.bl (decide (a < b))])) = _
          rw [decide_eq_true lt, trues_next]
        · rw [upd_ne fun z => by
            rw [z, hr2] at hy2
            cases hy2]
          exact e3 _ _ hy2
      · rintro H1 ⟨s2, hr2, _⟩
        refine ⟨R, _, rfl, SqL.of hr2, ?_⟩
        rw [trues_all]
        exact k H1 s2
theorem ok_below {f : Addr} {fd : FuncData} (F : Fun K "are_numbers_below" "are_numbers_below" sp_are_numbers_below f fd) (T : Bt mg) (CC : Has P w K mg base 1 "is_count" ["value"] spIsCnt) (CA : Has P w K mg base 1 "is_ascending" ["things"] spAscI) : FnOk P w K mg base CX0 2 f fd ["value", "end"] spBelow := by
  obtain ⟨f1, d1, G1, m1, k1, b1⟩ := CC
  obtain ⟨f2, d2, G2, m2, k2, b2⟩ := CA
  refine F.ok cp_are_numbers_below (fun vs H Q E h => ?_) (fun cdv A outer s H vs Q E hr h => ?_)
  · obtain ⟨_, _, _, rfl, _⟩ := h
    rfl
  · obtain ⟨u, e, ks, rfl, hu, asc, few, bd, k⟩ := h
    refine ⟨_, pss_cons (ps_if (PW.pt (pw_or (pt_not (pt_val (pe_callB call_isi (by rfl) T.isi (by decide +kernel) (pa_cons (pv 0) (pa_cons (pe_bltn (v := .ty "tuple") (by rfl) T.tuple (by decide +kernel) rfl) pa_nil)))))
        (pw_or1 (pt_not (pt_val (pe_callB (cr_all rfl) (by rfl) T.all (by decide +kernel) (pa_cons (pe_lc (own := [("number", 2)]) (g := gName 2) (tt := tYes) rfl cp_are_numbers_below.nd (pi_tup (pv 0))
          (blkOk_by (N := ["value", "end", "number"]) (sc := defScope sp_are_numbers_below) (by decide +kernel)) (fun _ _ _ _ _ => pg_name (i := 2) cp_are_numbers_below.nd rfl (Or.inl rfl)) (fun _ _ _ _ _ => pts_nil)
          (fun _ _ _ _ _ => pe_and (pe_call G1 hr rfl m1 k1 b1 .nil pass0 (pa_cons (pv 2) pa_nil)) (pe_one (pe_cmpR op_lt (pv 2) (pv 1) (nomark _))))) pa_nil))))))) (pss_one (ps_ret pe_bl)) pss_nil)
      (pss_one (ps_ret (pe_call G2 hr rfl m2 k2 b2 .nil pass0 (pa_cons (pv 0) pa_nil)))), ?_⟩
    refine ⟨_, rfl, _, _, _, _, _, rfl, .ty "tuple", .base (.tup hu), kit_ty (a := "tuple") (r := true) (by decide +kernel), _, rfl, iteF ?_⟩
    refine ⟨_, rfl, u, rfl, ⟨_, SqT.of hu⟩, fun R hR => ?_⟩
    refine lc_it (walk_tup (K := K) (a := u) (xs := ks.map V.int)) (fun i H' => Same H H' ∧ H' R = some (.lst (trues i))) ⟨same_new hR, upd_same⟩ (fun i H' _ z => SqT.of (z.1 _ _ hu)) ?_ ?_
    · rintro i v _ H1 hi ⟨s1, hr1⟩ ⟨rfl, hv⟩
      rw [List.getElem?_map] at hv
      obtain ⟨x, hx, rfl⟩ := Option.map_eq_some_iff.mp hv
      have b := bd x (List.mem_of_getElem? hx)
      rw [List.length_map] at hi
      refine ⟨rfl, _, rfl, x, rfl, b.1, _, rfl, iteT ?_⟩
      refine ⟨_, rfl, _, rfl, _, _, rfl, rfl, _, hr1, by rw [trues_len, sizeLine_eq]; omega, same_over s1 hR, ?_⟩
      rw [upd_same]
      show some (HO.lst (trues i ++ [V.bl (decide (x < e))])) = _
      rw [decide_eq_true b.2, trues_next]
    · rintro H1 ⟨s1, hr1⟩
      refine ⟨R, _, rfl, SqL.of hr1, ?_⟩
      rw [trues_all]
      refine ⟨_, rfl, iteF ?_⟩
      exact ⟨_, rfl, u, ks, rfl, s1 _ _ hu, asc, few, fun H2 s2 => k H2 (s1.trans s2)⟩
theorem ok_is_manner {f kd wd : Addr} {fd : FuncData} (F : Fun K "is_manner" "is_manner" sp_is_manner f fd) (T : Bt mg) (mK : mg "KINDS" = some (.ref kd)) (hK : KT K kd) (mW : mg "WORDS" = some (.ref wd)) (hW : WT K wd) (CB : Has P w K mg base 2 "are_numbers_below" ["value", "end"] spBelow) : FnOk P w K mg base CX0 3 f fd ["value"] spIsMn := by
  obtain ⟨f1, d1, G1, m1, k1, b1⟩ := CB
  refine F.ok cp_is_manner (fun vs H Q E h => ?_) (fun cdv A outer s H vs Q E hr h => ?_)
  · obtain ⟨_, _, rfl, _⟩ := h
    rfl
  · obtain ⟨t, m, rfl, ⟨u, ht, hu⟩, hm, k⟩ := h
    refine ⟨_, pss_cons (ps_if (PW.pt (pw_or (pt_not (pt_val (pe_callB call_isi (by rfl) T.isi (by decide +kernel) (pa_cons (pv 0) (pa_cons (pe_bltn (v := .ty "tuple") (by rfl) T.tuple (by decide +kernel) rfl) pa_nil)))))
        (pw_or1 (pt_cmpR op_ne (pe_callB call_len_seq (by rfl) T.len PySem.boot_len (pa_cons (pv 0) pa_nil)) pe_int (nomark _))))) (pss_one (ps_ret pe_bl)) pss_nil)
      (pss_one (ps_ret (pe_and (pe_call G1 hr rfl m1 k1 b1 .nil pass0 (pa_cons (pe_ix ix_tup (pv 0) pe_int (fun _ _ => rfl)) (pa_cons (pe_callB call_len_seq (by rfl) T.len PySem.boot_len (pa_cons (C8.pe_gc (v := .ref kd) rfl ⟨_, mK, rfl⟩) pa_nil)) pa_nil)))
        (pe_one (pe_cmpR op_in_seq (pe_ix ix_tup (pv 0) pe_int (fun _ _ => rfl)) (C8.pe_gc (v := .ref wd) rfl ⟨_, mW, rfl⟩) rfl))))), ?_⟩
    obtain ⟨a1, a2, a3⟩ := allK_good hm
    refine ⟨_, rfl, _, _, _, _, _, rfl, .ty "tuple", .base (.tup ht), kit_ty (a := "tuple") (r := true) (by decide +kernel), _, rfl, iteF ?_⟩
    refine ⟨_, rfl, t, _, rfl, .inr (SqT.of ht), rfl, _, rfl, ite_f (by rfl) ?_⟩
    refine ⟨_, rfl, t, _, _, .ref u, rfl, rfl, SqT.of ht, rfl, kd, _, rfl, .inr (hK _), u, 3, m.1, rfl, hu, a1, by omega, a3, fun H1 s1 => ⟨_, rfl, iteT ?_⟩⟩
    refine ⟨_, rfl, t, _, _, .str (wordS m.2), rfl, rfl, SqT.of (s1 _ _ ht), rfl, wd, _, rfl, .inr (hW _), rfl, rfl, ?_⟩
    have e := in_strs (wordS m.2) [("even" : Str), ("odd" : Str)]
    have e : inV (.str (wordS m.2)) [.str ("even" : Str), .str ("odd" : Str)] = true := by
      rw [show [V.str ("even" : Str), V.str ("odd" : Str)] = [("even" : Str), ("odd" : Str)].map V.str from rfl, e]
      cases m.2 <;> decide
    show Q (.bl (inV (.str (wordS m.2)) [.str ("even" : Str), .str ("odd" : Str)])) H1
    rw [e]
    exact k H1 s1
theorem ok_check_manner {f : Addr} {fd : FuncData} (F : Fun K "check_manner" "check_manner" sp_check_manner f fd) (CI : Has P w K mg base 3 "is_manner" ["value"] spIsMn) : FnOk P w K mg base CX0 4 f fd ["manner"] spChkM := by
  obtain ⟨f1, d1, G1, m1, k1, b1⟩ := CI
  refine F.ok cp_check_manner (fun vs H Q E h => ?_) (fun cdv A outer s H vs Q E hr h => ?_)
  · obtain ⟨_, _, rfl, _⟩ := h
    rfl
  · obtain ⟨t, m, rfl, ht, hm, k⟩ := h
    refine ⟨_, pss_one (ps_if (pt_not (pt_val (pe_call G1 hr rfl m1 k1 b1 .nil pass0 (pa_cons (pv 0) pa_nil)))) (pss_one ps_never) pss_nil), ?_⟩
    exact ⟨_, rfl, t, m, rfl, ht, hm, fun H1 s1 => ⟨_, rfl, iteF (k H1 s1)⟩⟩
theorem ok_let_pairs {f C : Addr} {fd : FuncData} (F : Fun K "let_pairs" "let_pairs" sp_let_pairs f fd) (CC : Has P w K mg base 1 "check_company" ["company"] (spChk C)) (CM : Has P w K mg base 4 "check_manner" ["manner"] spChkM) (CL : Has P w K mg base 4 "pairs_let" ["company", "manner"] (spPLet C)) : FnOk P w K mg base CX0 5 f fd ["company", "manner"] (spLetP C) := by
  obtain ⟨f1, d1, G1, m1, k1, b1⟩ := CC
  obtain ⟨f2, d2, G2, m2, k2, b2⟩ := CM
  obtain ⟨f3, d3, G3, m3, k3, b3⟩ := CL
  refine F.ok cp_let_pairs (fun vs H Q E h => ?_) (fun cdv A outer s H vs Q E hr h => ?_)
  · obtain ⟨_, _, _, _, _, rfl, _⟩ := h
    rfl
  · obtain ⟨c, t, xs, ps, m, rfl, hc, g, ht, hm, k⟩ := h
    have hr1 : Room 1 _ := hr.mono (by decide)
    refine ⟨_, pss_cons (ps_expr (pe_call G1 hr1 rfl m1 k1 b1 .nil pass0 (pa_cons (pv 0) pa_nil)))
      (pss_cons (ps_expr (pe_call G2 hr rfl m2 k2 b2 .nil pass0 (pa_cons (pv 1) pa_nil)))
      (pss_one (ps_ret (pe_call G3 hr rfl m3 k3 b3 .nil pass0 (pa_cons (pv 0) (pa_cons (pv 1) pa_nil)))))), ?_⟩
    obtain ⟨dx, a, b, h1, h2, h3⟩ := id hc
    refine ⟨_, rfl, c, dx, _, rfl, h1, ?_⟩
    refine ⟨_, rfl, t, m, rfl, ht, hm, fun H1 s1 => ?_⟩
    exact ⟨_, rfl, _, rfl, c, t, xs, ps, m, rfl, hc.same s1, g, ht.same s1, fun H2 D s2 nD hD => k H2 D (s1.trans s2) (same_none s1 nD) hD⟩
end
end Wd
end
section
set_option maxRecDepth 100000
set_option maxHeartbeats 4000000
namespace Kb
open PySem PySem.Spec PyProof.Rows L2
theorem mt_bitlen {X : Cx} : MtR X "int.bit_length" (fun x xs H Q => ∃ a : Int, x = .int a ∧ xs = [] ∧ Q (.int ((Builtin.Int.intBits a : Nat) : Int)) H) := by
  intro pins s σ H x xs v us Q I rx rs h
  obtain ⟨a, rfl, rfl, q⟩ := h
  obtain ⟨t, rfl⟩ := rx
  cases rs
  exact call_gives PySem.F.slot_int_bit_length (typeIs_int _ _ _) PySem.F.entry_int_bit_length (PySem.F.args_int_bit_length_1 _) (PySem.AutoIntG2.int_bit_length_int_0 a t) ⟨.int ((Builtin.Int.intBits a : Nat) : Int), H, I.tok _, ⟨_, rfl⟩, q⟩
theorem bits_len {n k : Nat} (h : n.testBit k = true) : k < Builtin.Int.intBits (n : Int) := by
  have n0 : n ≠ 0 := fun z => by rw [z, Nat.zero_testBit] at h; cases h
  have e : Builtin.Int.intBits (n : Int) = n.log2 + 1 := by
    unfold Builtin.Int.intBits
    rw [if_neg (by simp; omega)]
    rfl
  rw [e]
  have := Nat.ge_two_pow_of_testBit h
  have l := (Nat.le_log2 n0).mpr this
  omega
theorem bits_le {n k : Nat} (h : n < 2 ^ k) : Builtin.Int.intBits (n : Int) ≤ k := by
  unfold Builtin.Int.intBits
  by_cases c : (n : Int) = 0
  · rw [if_pos (by simp; omega)]
    omega
  · rw [if_neg (by simp; omega)]
    have := (Nat.log2_lt (n := n) (k := k) (by omega)).mpr h
    show n.log2 + 1 ≤ k
    omega
end Kb
end
section
set_option maxRecDepth 100000
set_option maxHeartbeats 4000000
namespace Wd
open PySem L2
/-- the places of the ones -/
def onesL (n m : Nat) : List Nat := (List.range m).filter fun k => n.testBit k
theorem onesL_next (n m : Nat) : onesL n (m + 1) = onesL n m ++ if n.testBit m = true then [m] else [] := by
  unfold onesL
  rw [List.range_succ, List.filter_append]
  congr 1
  by_cases h : n.testBit m = true
  · rw [if_pos h, List.filter_cons_of_pos h, List.filter_nil]
  · rw [if_neg h, List.filter_cons_of_neg h, List.filter_nil]
theorem onesL_all {n m : Nat} (h : n < 2 ^ m) : onesL n (Builtin.Int.intBits (n : Int)) = onesL n m := by
  have le := Kb.bits_le h
  obtain ⟨d, rfl⟩ : ∃ d, m = Builtin.Int.intBits (n : Int) + d := ⟨m - Builtin.Int.intBits (n : Int), by omega⟩
  have z : ∀ d, onesL n (Builtin.Int.intBits (n : Int) + d) = onesL n (Builtin.Int.intBits (n : Int)) := fun d => by
    induction d with
    | zero => rfl
    | succ d ih =>
      rw [show Builtin.Int.intBits (n : Int) + (d + 1) = (Builtin.Int.intBits (n : Int) + d) + 1 from rfl, onesL_next, ih, if_neg, List.append_nil]
      intro t
      have := Kb.bits_len t
      omega
  exact (z d).symm
theorem bit_test (n k : Nat) : decide (V.int (Builtin.bitAnd ((n : Int) / 2 ^ ((k : Int)).toNat) 1) = V.int 1) = n.testBit k := by
  have e1 : (n : Int) / 2 ^ ((k : Int)).toNat = ((n / 2 ^ k : Nat) : Int) := by
    rw [Int.toNat_natCast]
    simp
  rw [e1, show (1 : Int) = ((1 : Nat) : Int) from rfl, Kb.and_nat, Nat.testBit_eq_decide_div_mod_eq]
  refine decide_eq_decide.mpr ?_
  rw [Nat.and_one_is_mod]
  constructor
  · intro h
    have := V.int.inj h
    omega
  · intro h
    rw [h]
/-- the people at the places of the ones -/
theorem ones_people {xs : List Str} {n : Nat} {f : Str → Bool} (h : ∀ (k : Nat) y, xs[k]? = some y → n.testBit k = f y) : (onesL n xs.length).map (fun k => xs.getD k Str.empty) = xs.filter f := by
  have e : xs = (List.range xs.length).map fun k => xs.getD k Str.empty := by
    apply List.ext_getElem (by simp)
    intro i h1 h2
    simp [List.getD_eq_getElem?_getD, List.getElem?_eq_getElem h1]
  conv => rhs; rw [e, List.filter_map]
  unfold onesL
  congr 1
  refine List.filter_congr fun k hk => ?_
  have hk := List.mem_range.mp hk
  rw [h k xs[k] (List.getElem?_eq_getElem hk)]
  simp [List.getD_eq_getElem?_getD, List.getElem?_eq_getElem hk]
def spMembers : Sp := fun vs H Q _ => ∃ n m : Nat, vs = [.int (n : Int)] ∧ n < 2 ^ m ∧ m ≤ 60 ∧ ∀ (H' : Hp) (D : Addr), Same H H' → H D = none → H' D = some (.lst (intsN (onesL n m))) → Q (.ref D) H'
def spDeeds : Sp := fun vs H Q _ => ∃ (l d : Addr) (xs : List Str) (zs : List Pr), vs = [.ref l, .ref d] ∧ H l = some (.lst (xs.map V.str)) ∧ PwAt H d zs ∧ xs.Nodup ∧ xs.length ≤ 9 ∧ zs.length ≤ 100 ∧ (∀ p ∈ zs, p.1 ∈ xs ∧ p.2 ∈ xs) ∧
  ∀ (H' : Hp) (D : Addr), Same H H' → H D = none → PlAt H' D xs zs → Q (.ref D) H'
section
variable {P : Program} {w : World} {K : PySem.W.Frag} {mg : Str → Option Value} {base : Heap}
theorem ok_members {f : Addr} {fd : FuncData} (F : Fun K "members" "members" sp_members f fd) (T : Bt mg) : FnOk P w K mg base CX0 1 f fd ["bits"] spMembers := by
  refine F.ok cp_members (fun vs H Q E h => ?_) (fun cdv A outer s H vs Q E hr h => ?_)
  · obtain ⟨_, _, rfl, _⟩ := h
    rfl
  · obtain ⟨n, m, rfl, hn, hm, k⟩ := h
    refine ⟨_, pss_one (ps_ret (pe_lc (own := [("at", 1)]) (g := gName 1) rfl cp_members.nd (pi_range1 rfl T.range (pa_cons (pe_bm0 PySem.F.plainAttrs_int PySem.F.slot_int_bit_length PySem.F.type_int_bit_length Kb.mt_bitlen (pv 0)) pa_nil))
      (blkOk_by (N := ["bits", "at"]) (sc := defScope sp_members) (by decide +kernel)) (fun _ _ _ _ _ => pg_name (i := 1) cp_members.nd rfl (Or.inl rfl))
      (fun _ _ _ _ _ => pts_one (pt_cmpR op_eq (pe_op op_and (pe_op op_shr (pv 0) (pv 1)) pe_int) pe_int (nomark _))) (fun _ _ _ _ _ => pv 1))), ?_⟩
    have le := Kb.bits_le hn
    refine ⟨_, rfl, rfl, _, rfl, rfl, ((Builtin.Int.intBits (n : Int) : Nat) : Int), rfl, by omega, by omega, fun R hR => ?_⟩
    refine lc_range (lo := 0) (n := Builtin.Int.intBits (n : Int)) (fun i H' => Same H H' ∧ H' R = some (.lst (intsN (onesL n i)))) ⟨same_new hR, upd_same⟩ ?_ ?_
    · rintro i H1 hi ⟨s1, hr1⟩
      rw [Int.zero_add]
      refine ⟨rfl, _, rfl, _, rfl, _, _, rfl, rfl, by omega, _, _, rfl, rfl, rfl, _, rfl, ?_⟩
      have e := bit_test n i
      refine ite2 (fun hb => ?_) (fun hb => ?_)
      · have hb : n.testBit i = true := by rw [← e]; exact hb
        refine ⟨_, rfl, _, hr1, ?_, same_over s1 hR, ?_⟩
        · have h1 : (onesL n i).length ≤ i := by
            have := List.length_filter_le (fun k => n.testBit k) (List.range i)
            rw [List.length_range] at this
            exact this
          unfold intsN
          rw [List.length_map, sizeLine_eq]
          omega
        · rw [upd_same, onesL_next, if_pos hb]
          unfold intsN
          rw [List.map_append]
          rfl
      · have hb : ¬ n.testBit i = true := by rw [← e]; exact hb
        refine ⟨s1, ?_⟩
        rw [onesL_next, if_neg hb, List.append_nil]
        exact hr1
    · rintro H1 ⟨s1, hr1⟩
      rw [onesL_all hn] at hr1
      exact k H1 R s1 hR hr1
theorem ok_deeds_of {f : Addr} {fd : FuncData} (F : Fun K "deeds_of" "deeds_of" sp_deeds_of f fd) (T : Bt mg) (mEn : mg "enumerate" = none) : FnOk P w K mg base CX0 1 f fd ["people", "road"] spDeeds := by
  refine F.ok cp_deeds_of (fun vs H Q E h => ?_) (fun cdv A outer s H vs Q E hr h => ?_)
  · obtain ⟨_, _, _, _, rfl, _⟩ := h
    rfl
  · obtain ⟨l, d, xs, zs, rfl, hl, ⟨Zs, hz, zu⟩, nx, l9, z100, zin, k⟩ := h
    have hu := hu_of hr
    refine ⟨_, pss_cons (ps_set (i := 4) cp_deeds_of.nd rfl (Or.inr rfl) (pe_dc (own := [("at", 2), ("person", 3)]) (g := gTup K 2 (gCons (gName 2) (gCons (gName 3) gNil))) (tt := tYes) rfl cp_deeds_of.nd (pi_enum rfl mEn (pa_cons (pv 0) pa_nil))
        (blkOk_by (N := ["people", "road", "at", "person", "places", "one", "other"]) (sc := defScope sp_deeds_of) (by decide +kernel)) (fun _ _ _ _ _ => pg_tup rfl (pgs_cons (pg_name (i := 2) cp_deeds_of.nd rfl (Or.inl rfl)) (pgs_cons (pg_name (i := 3) cp_deeds_of.nd rfl (Or.inl rfl)) pgs_nil))) (fun _ _ _ _ _ => pts_nil) (fun _ _ _ _ _ => pv 3) (fun _ _ _ _ _ => pv 2)))
      (pss_one (ps_ret (pe_lc (own := [("one", 5), ("other", 6)]) (g := gTup K 2 (gCons (gName 5) (gCons (gName 6) gNil))) (tt := tYes) rfl cp_deeds_of.nd (pi_list (pv 1))
        (blkOk_by (N := ["people", "road", "at", "person", "places", "one", "other"]) (sc := defScope sp_deeds_of) (by decide +kernel)) (fun _ _ _ _ _ => pg_tup rfl (pgs_cons (pg_name (i := 5) cp_deeds_of.nd rfl (Or.inl rfl)) (pgs_cons (pg_name (i := 6) cp_deeds_of.nd rfl (Or.inl rfl)) pgs_nil))) (fun _ _ _ _ _ => pts_nil)
        (fun _ _ _ _ _ => pe_tup (pa_cons (pe_dget hu (pv 4) (pv 5) (fun _ _ => rfl)) (pa_cons (pe_dget hu (pv 4) (pv 6) (fun _ _ => rfl)) pa_nil)))))), ?_⟩
    refine ⟨_, rfl, l, _, rfl, SqL.of hl, fun D hD => ?_⟩
    refine dc_walk (walk_enum (K := K) (a := l) (xs := xs.map V.str)) (fun i H' => Same H H' ∧ H' D = some (.dK (dkv (xs.take i) ((List.range i).map fun (j : Nat) => V.int (j : Int))))) ⟨same_new hD, upd_same⟩ (fun i H' _ z => SqL.of (z.1 _ _ hl)) ?_ ?_
    · rintro i v H1 _ hi ⟨s1, hd⟩ ⟨T0, x1, x2, rfl, nT, rfl, ep, eq⟩
      have ep := Option.some.inj ep
      subst ep
      have eq : (xs.map V.str)[i]? = some x2 := eq
      rw [List.getElem?_map] at eq
      obtain ⟨x, hx, rfl⟩ := Option.map_eq_some_iff.mp eq
      have i9 : i < xs.length := (List.getElem?_eq_some_iff.mp hx).1
      have e2 : Same H1 (upd H1 T0 (.tup [.int (i : Nat), .str x])) := same_new nT
      refine ⟨T0, _, rfl, SqT.of upd_same, rfl, _, _, rfl, _, _, rfl, rfl, rfl, ?_⟩
      have ll : ((List.range i).map fun (j : Nat) => V.int (j : Int)).length = (xs.take i).length := by rw [List.length_map, List.length_range, List.length_take]; omega
      refine ⟨_, rfl, _, rfl, _, Sum.inr x, rfl, e2 _ _ hd, ?_, same_over (s1.trans e2) hD, ?_⟩
      · rw [dkv_len ll, List.length_take, sizeLine_eq]
        omega
      · have nin : x ∉ xs.take i := fun z => by
          obtain ⟨j, hj, e⟩ := List.getElem_of_mem z
          rw [List.length_take] at hj
          rw [List.getElem_take] at e
          have := nd_inj nx (List.getElem?_eq_some_iff.mpr ⟨by omega, e⟩) hx
          omega
        rw [upd_same, take_next hx, dkv_snoc nin ll, List.range_succ, List.map_append]
        rfl
    · rintro H1 ⟨s1, hd⟩
      rw [List.length_map, List.take_length] at hd
      have lZ : Zs.length = zs.length := by rw [zu.1, List.length_map]
      refine ⟨_, rfl, d, rfl, ⟨_, SqL.of (s1 _ _ hz)⟩, fun R hR => ?_⟩
      have nR : H R = none := same_none s1 hR
      refine lc_list (xs := Zs.map V.ref) (fun i H' => Same H1 H' ∧ PlAt H' R xs (zs.take i)) ⟨same_new hR, [], upd_same, rfl, fun k T p e => by simp at e⟩ (fun i H' _ z => SqL.of (z.1 _ _ (s1 _ _ hz))) ?_ ?_
      · rintro i v H2 hv ⟨s2, Vs, hr2, lV, atV⟩
        rw [List.getElem?_map] at hv
        obtain ⟨U, hU, rfl⟩ := Option.map_eq_some_iff.mp hv
        have il := (List.getElem?_eq_some_iff.mp hU).1
        obtain ⟨p, hp⟩ : ∃ p, zs[i]? = some p := ⟨_, List.getElem?_eq_getElem (by omega)⟩
        have eU := (s1.trans s2) _ _ (zu.2 i U (tv p) hU (by rw [List.getElem?_map, hp]; rfl))
        obtain ⟨q1, q2⟩ := zin p (List.mem_of_getElem? hp)
        obtain ⟨j1, hj1, x1⟩ := List.getElem_of_mem q1
        obtain ⟨j2, hj2, x2⟩ := List.getElem_of_mem q2
        have x1 : xs[j1]? = some p.1 := by rw [List.getElem?_eq_getElem hj1, x1]
        have x2 : xs[j2]? = some p.2 := by rw [List.getElem?_eq_getElem hj2, x2]
        have g1 := dkv_get (vs := (List.range xs.length).map fun (j : Nat) => V.int (j : Int)) nx x1 (by rw [List.getElem?_map, List.getElem?_range hj1]; rfl)
        have g2 := dkv_get (vs := (List.range xs.length).map fun (j : Nat) => V.int (j : Int)) nx x2 (by rw [List.getElem?_map, List.getElem?_range hj2]; rfl)
        have hd2 := s2 _ _ hd
        refine ⟨U, _, rfl, SqT.of eU, rfl, _, _, rfl, _, _, rfl, rfl, rfl, ?_⟩
        refine ⟨_, rfl, _, rfl, D, .int (j1 : Int), rfl, .inl ⟨_, Sum.inr p.1, .inl hd2, rfl, g1.symm⟩, _, rfl, _, rfl, D, .int (j2 : Int), rfl, .inl ⟨_, Sum.inr p.2, .inl hd2, rfl, g2.symm⟩, by show 2 ≤ sizeLine; decide, fun T5 hT5 => ?_⟩
        have e6 : Same H2 (upd H2 T5 (.tup [.int (j1 : Int), .int (j2 : Int)])) := same_new hT5
        have hT6 : upd H2 T5 (.tup [.int (j1 : Int), .int (j2 : Int)]) T5 = some (.tup [.int (j1 : Int), .int (j2 : Int)]) := upd_same
        generalize upd H2 T5 (.tup [.int (j1 : Int), .int (j2 : Int)]) = H3 at e6 hT6 ⊢
        have hr3 := e6 _ _ hr2
        have lz : (zs.take i).length = i := by rw [List.length_take]; omega
        refine ⟨_, hr3, by rw [List.length_map, lV, lz, sizeLine_eq]; omega, same_over (s2.trans e6) hR, Vs ++ [T5], by rw [upd_same, List.map_append]; rfl, by rw [take_next hp, List.length_append, List.length_append, lV]; rfl, fun q T z h1 h2 => ?_⟩
        rw [take_next hp] at h2
        have keep : ∀ {T : Addr} {x y : V}, H3 T = some (.tup [x, y]) → upd H3 R (.lst (Vs.map V.ref ++ [V.ref T5])) T = some (.tup [x, y]) := fun {T x y} e => by
          rw [upd_ne fun z => by
            rw [z, hr3] at e
            cases e]
          exact e
        by_cases c : q < Vs.length
        · rw [List.getElem?_append_left c] at h1
          rw [List.getElem?_append_left (by rw [← lV]; exact c)] at h2
          obtain ⟨x, y, e1, e2, e3⟩ := atV q T z h1 h2
          exact ⟨x, y, keep (e6 _ _ e1), e2, e3⟩
        · rw [List.getElem?_append_right (by omega)] at h1
          rw [List.getElem?_append_right (by omega), ← lV] at h2
          cases hq : q - Vs.length with
          | zero =>
            rw [hq] at h1 h2
            simp at h1 h2
            subst h1 h2
            exact ⟨j1, j2, keep hT6, x1, x2⟩
          | succ q =>
            rw [hq] at h1
            simp at h1
      · rintro H2 ⟨s2, pl⟩
        rw [List.length_map, lZ, List.take_length] at pl
        exact k H2 R (s1.trans s2) nR pl
end
end Wd
end
section
set_option maxRecDepth 100000
set_option maxHeartbeats 4000000
namespace Wd
open PySem L2
def spPL (C : Addr) : Sp := fun vs H Q _ => ∃ (c t u : Addr) (xs : List Str) (ps : List Pr) (m : Mn) (p : Pr), vs = [.ref c, .ref t, .ref u] ∧ CAt C H c xs ps ∧ Good xs ps ∧ MnAt H t m ∧ H u = some (.tup [.str p.1, .str p.2]) ∧ p ∈ prsS xs ∧ ∀ H', Same H H' → Q (.bl (letB xs ps m p)) H'
def spIsLet (C : Addr) : Sp := fun vs H Q _ => ∃ (c t u : Addr) (xs : List Str) (ps : List Pr) (m : Mn) (p : Pr), vs = [.ref c, .ref t, .ref u] ∧ CAt C H c xs ps ∧ Good xs ps ∧ MnAt H t m ∧ m.1 ∈ allK ∧ H u = some (.tup [.str p.1, .str p.2]) ∧ p ∈ prsS xs ∧ ∀ H', Same H H' → Q (.bl (letB xs ps m p)) H'
def spCntP (C : Addr) : Sp := fun vs H Q _ => ∃ (c t u : Addr) (xs : List Str) (ps : List Pr) (m : Mn) (p : Pr), vs = [.ref c, .ref t, .ref u] ∧ CAt C H c xs ps ∧ Good xs ps ∧ MnAt H t m ∧ m.1 ∈ allK ∧ H u = some (.tup [.str p.1, .str p.2]) ∧ p ∈ prsS xs ∧
  ∀ (H' : Hp) (D : Addr), Same H H' → H D = none → H' D = some (.lst ((xs.filter (ctP ps m.1 p)).map V.str)) → Q (.ref D) H'
def spLetN (C : Addr) : Sp := fun vs H Q _ => ∃ (c t : Addr) (xs : List Str) (ps : List Pr) (m : Mn), vs = [.ref c, .ref t] ∧ CAt C H c xs ps ∧ Good xs ps ∧ MnAt H t m ∧ m.1 ∈ allK ∧ ∀ H', Same H H' → Q (.int ((letL xs ps m).length : Nat)) H'
theorem pl_one {H : Hp} {D : Addr} {xs : List Str} {p : Pr} (h : PlAt H D xs [p]) : ∃ (T : Addr) (i j : Nat), H D = some (.lst [.ref T]) ∧ H T = some (.tup [.int (i : Int), .int (j : Int)]) ∧ xs[i]? = some p.1 ∧ xs[j]? = some p.2 := by
  obtain ⟨Ts, h1, h2, h3⟩ := h
  match Ts, h1, h2, h3 with
  | [T], h1, _, h3 =>
    obtain ⟨i, j, a, b, c⟩ := h3 0 T p rfl rfl
    exact ⟨T, i, j, h1, a, b, c⟩
theorem pw_one {H : Hp} {M u : Addr} {p : Pr} (h : H M = some (.lst [.ref u])) (e : H u = some (.tup [.str p.1, .str p.2])) : PwAt H M [p] := ⟨[u], h, rfl, fun k T q h1 h2 => by
  rcases k with _ | k
  · obtain rfl := Option.some.inj h1
    obtain rfl := Option.some.inj h2
    exact e
  · cases h1⟩
section
variable {P : Program} {w : World} {K : PySem.W.Frag} {mg : Str → Option Value} {base : Heap}
theorem ok_is_pair_let {f C : Addr} {fd : FuncData} (F : Fun K "is_pair_let" "is_pair_let" sp_is_pair_let f fd) (TC : CT K mg C) (MP : HasM P w K mg base C 1 "people" (spPplM C)) (C1 : Has P w K mg base 1 "deeds_of" ["people", "road"] spDeeds)
    (C2 : Has P w K mg base 2 "rows_of" ["company"] (spRows C)) (C3 : Has P w K mg base 2 "lets" ["rows", "manner", "pair"] spLets) : FnOk P w K mg base CX0 3 f fd ["company", "manner", "pair"] (spPL C) := by
  obtain ⟨fP, fdP, GP, mP, bP⟩ := MP
  obtain ⟨f1, d1, G1, m1, k1, b1⟩ := C1
  obtain ⟨f2, d2, G2, m2, k2, b2⟩ := C2
  obtain ⟨f3, d3, G3, m3, k3, b3⟩ := C3
  refine F.ok cp_is_pair_let (fun vs H Q E h => ?_) (fun cdv A outer s H vs Q E hr h => ?_)
  · obtain ⟨_, _, _, _, _, _, _, rfl, _⟩ := h
    rfl
  · obtain ⟨c, t, u, xs, ps, m, p, rfl, hc, g, hm, hu, hp, k⟩ := h
    have hr1 : Room 1 _ := hr.mono (by decide)
    refine ⟨_, pss_cons (ps_set (i := 3) cp_is_pair_let.nd rfl (Or.inl rfl) (pe_call G1 hr1 rfl m1 k1 b1 .nil pass0 (pa_cons (pe_meth0 (pv 0) TC.is.cl mP GP hr1 bP .nil pass0) (pa_cons (pe_lst (pa_cons (pv 2) pa_nil)) pa_nil))))
      (pss_one (ps_ret (pe_call G3 hr rfl m3 k3 b3 .nil pass0 (pa_cons (pe_call G2 hr rfl m2 k2 b2 .nil pass0 (pa_cons (pv 0) pa_nil)) (pa_cons (pv 1) (pa_cons (pe_ix ix_list (pv 3) pe_int (fun _ _ => rfl)) pa_nil)))))), ?_⟩
    obtain ⟨dx, a, b, h1, h2, h3⟩ := id hc
    have l9 := g.few
    obtain ⟨q1, q2, lt⟩ := mem_prsS g.asc hp
    refine ⟨_, rfl, c, dx, _, rfl, h1, cF_no a b (by decide +kernel) (by decide +kernel), c, xs, ps, rfl, hc, by omega, fun L hL => ?_⟩
    have s1 : Same H (upd H L (.lst (xs.map V.str))) := same_new hL
    have hL1 : upd H L (.lst (xs.map V.str)) L = some (.lst (xs.map V.str)) := upd_same
    generalize upd H L (.lst (xs.map V.str)) = H1 at s1 hL1 ⊢
    refine ⟨_, rfl, by show 1 ≤ sizeLine; decide, fun M hM => ?_⟩
    have e2 : Same H1 (upd H1 M (.lst [.ref u])) := same_new hM
    have hM2 : upd H1 M (.lst [.ref u]) M = some (.lst [.ref u]) := upd_same
    generalize upd H1 M (.lst [.ref u]) = H2 at e2 hM2 ⊢
    have s2 := s1.trans e2
    refine ⟨L, M, xs, [p], rfl, e2 _ _ hL1, pw_one hM2 (s2 _ _ hu), g.asc.nd, l9.2, by show 1 ≤ 100; decide, fun q hq => by rw [List.mem_singleton.mp hq]; exact ⟨q1, q2⟩, fun H3 D s3 nD hD => ?_⟩
    obtain ⟨T, i, j, hD, hT, hi, hj⟩ := pl_one hD
    have s13 := s2.trans s3
    refine ⟨_, rfl, c, xs, ps, rfl, hc.same s13, g, fun H4 R0 R s4 nR hR ro => ?_⟩
    have s14 := s13.trans s4
    refine ⟨_, rfl, _, rfl, D, _, _, .ref T, rfl, rfl, SqL.of (s4 _ _ hD), rfl, R0, t, T, xs, ps, R, m, i, j, p, rfl, hR, ro, g, hm.same s14, s4 _ _ hT, hi, hj, lt, fun H5 s5 => k H5 (s14.trans s5)⟩
theorem ok_is_let {f C : Addr} {fd : FuncData} (F : Fun K "is_let" "is_let" sp_is_let f fd) (CC : Has P w K mg base 1 "check_company" ["company"] (spChk C)) (CM : Has P w K mg base 4 "check_manner" ["manner"] spChkM) (CP : Has P w K mg base 2 "check_pair_of" ["company", "pair"] (spChkT C))
    (CL : Has P w K mg base 3 "is_pair_let" ["company", "manner", "pair"] (spPL C)) : FnOk P w K mg base CX0 5 f fd ["company", "manner", "pair"] (spIsLet C) := by
  obtain ⟨f1, d1, G1, m1, k1, b1⟩ := CC
  obtain ⟨f2, d2, G2, m2, k2, b2⟩ := CM
  obtain ⟨f3, d3, G3, m3, k3, b3⟩ := CP
  obtain ⟨f4, d4, G4, m4, k4, b4⟩ := CL
  refine F.ok cp_is_let (fun vs H Q E h => ?_) (fun cdv A outer s H vs Q E hr h => ?_)
  · obtain ⟨_, _, _, _, _, _, _, rfl, _⟩ := h
    rfl
  · obtain ⟨c, t, u, xs, ps, m, p, rfl, hc, g, hm, mk, hu, hp, k⟩ := h
    have hr1 : Room 1 _ := hr.mono (by decide)
    have hr2 : Room 2 _ := hr.mono (by decide)
    have hr3 : Room 3 _ := hr.mono (by decide)
    refine ⟨_, pss_cons (ps_expr (pe_call G1 hr1 rfl m1 k1 b1 .nil pass0 (pa_cons (pv 0) pa_nil)))
      (pss_cons (ps_expr (pe_call G2 hr rfl m2 k2 b2 .nil pass0 (pa_cons (pv 1) pa_nil)))
      (pss_cons (ps_expr (pe_call G3 hr2 rfl m3 k3 b3 .nil pass0 (pa_cons (pv 0) (pa_cons (pv 2) pa_nil))))
      (pss_one (ps_ret (pe_call G4 hr3 rfl m4 k4 b4 .nil pass0 (pa_cons (pv 0) (pa_cons (pv 1) (pa_cons (pv 2) pa_nil)))))))), ?_⟩
    obtain ⟨dx, a, b, h1, h2, h3⟩ := id hc
    refine ⟨_, rfl, c, dx, _, rfl, h1, ?_⟩
    refine ⟨_, rfl, t, m, rfl, hm, mk, fun H1 s1 => ?_⟩
    refine ⟨_, rfl, _, rfl, c, u, p, xs, ps, rfl, hc.same s1, g, s1 _ _ hu, hp, fun H2 s2 => ?_⟩
    have s12 := s1.trans s2
    exact ⟨_, rfl, _, rfl, _, rfl, c, t, u, xs, ps, m, p, rfl, hc.same s12, g, hm.same s12, s12 _ _ hu, hp, fun H3 s3 => k H3 (s12.trans s3)⟩
theorem ok_let_number {f C : Addr} {fd : FuncData} (F : Fun K "let_number" "let_number" sp_let_number f fd) (T : Bt mg) (CC : Has P w K mg base 1 "check_company" ["company"] (spChk C)) (CM : Has P w K mg base 4 "check_manner" ["manner"] spChkM) (CL : Has P w K mg base 4 "pairs_let" ["company", "manner"] (spPLet C)) :
    FnOk P w K mg base CX0 5 f fd ["company", "manner"] (spLetN C) := by
  obtain ⟨f1, d1, G1, m1, k1, b1⟩ := CC
  obtain ⟨f2, d2, G2, m2, k2, b2⟩ := CM
  obtain ⟨f3, d3, G3, m3, k3, b3⟩ := CL
  refine F.ok cp_let_number (fun vs H Q E h => ?_) (fun cdv A outer s H vs Q E hr h => ?_)
  · obtain ⟨_, _, _, _, _, rfl, _⟩ := h
    rfl
  · obtain ⟨c, t, xs, ps, m, rfl, hc, g, ht, hm, k⟩ := h
    have hr1 : Room 1 _ := hr.mono (by decide)
    refine ⟨_, pss_cons (ps_expr (pe_call G1 hr1 rfl m1 k1 b1 .nil pass0 (pa_cons (pv 0) pa_nil)))
      (pss_cons (ps_expr (pe_call G2 hr rfl m2 k2 b2 .nil pass0 (pa_cons (pv 1) pa_nil)))
      (pss_one (ps_ret (pe_callB call_len_seq (by rfl) T.len PySem.boot_len (pa_cons (pe_call G3 hr rfl m3 k3 b3 .nil pass0 (pa_cons (pv 0) (pa_cons (pv 1) pa_nil))) pa_nil))))), ?_⟩
    obtain ⟨dx, a, b, h1, h2, h3⟩ := id hc
    refine ⟨_, rfl, c, dx, _, rfl, h1, ?_⟩
    refine ⟨_, rfl, t, m, rfl, ht, hm, fun H1 s1 => ?_⟩
    refine ⟨_, rfl, _, rfl, c, t, xs, ps, m, rfl, hc.same s1, g, ht.same s1, fun H2 D s2 nD ⟨Ts, hD, tu⟩ => ?_⟩
    refine ⟨D, _, rfl, .inl (SqL.of hD), ?_⟩
    have e : (Ts.map V.ref).length = (letL xs ps m).length := by rw [List.length_map, tu.1, List.length_map]
    rw [e]
    exact k H2 (s1.trans s2)
theorem ok_counted_people {f C : Addr} {fd : FuncData} (F : Fun K "counted_people" "counted_people" sp_counted_people f fd) (TC : CT K mg C) (MP : HasM P w K mg base C 1 "people" (spPplM C)) (CC : Has P w K mg base 1 "check_company" ["company"] (spChk C)) (CM : Has P w K mg base 4 "check_manner" ["manner"] spChkM)
    (CP : Has P w K mg base 2 "check_pair_of" ["company", "pair"] (spChkT C)) (C4 : Has P w K mg base 1 "deeds_of" ["people", "road"] spDeeds) (C5 : Has P w K mg base 2 "rows_of" ["company"] (spRows C)) (C6 : Has P w K mg base 1 "counted_bits" ["rows", "kinds", "pair"] spCB)
    (C7 : Has P w K mg base 1 "members" ["bits"] spMembers) : FnOk P w K mg base CX0 5 f fd ["company", "manner", "pair"] (spCntP C) := by
  obtain ⟨fP, fdP, GP, mP, bP⟩ := MP
  obtain ⟨f1, d1, G1, m1, k1, b1⟩ := CC
  obtain ⟨f2, d2, G2, m2, k2, b2⟩ := CM
  obtain ⟨f3, d3, G3, m3, k3, b3⟩ := CP
  obtain ⟨f4, d4, G4, m4, k4, b4⟩ := C4
  obtain ⟨f5, d5, G5, m5, k5, b5⟩ := C5
  obtain ⟨f6, d6, G6, m6, k6, b6⟩ := C6
  obtain ⟨f7, d7, G7, m7, k7, b7⟩ := C7
  refine F.ok cp_counted_people (fun vs H Q E h => ?_) (fun cdv A outer s H vs Q E hr h => ?_)
  · obtain ⟨_, _, _, _, _, _, _, rfl, _⟩ := h
    rfl
  · obtain ⟨c, t, u, xs, ps, m, p, rfl, hc, g, hm, mk, hu, hp, k⟩ := h
    have hr1 : Room 1 _ := hr.mono (by decide)
    have hr2 : Room 2 _ := hr.mono (by decide)
    refine ⟨_, pss_cons (ps_expr (pe_call G1 hr1 rfl m1 k1 b1 .nil pass0 (pa_cons (pv 0) pa_nil)))
      (pss_cons (ps_expr (pe_call G2 hr rfl m2 k2 b2 .nil pass0 (pa_cons (pv 1) pa_nil)))
      (pss_cons (ps_expr (pe_call G3 hr2 rfl m3 k3 b3 .nil pass0 (pa_cons (pv 0) (pa_cons (pv 2) pa_nil))))
      (pss_cons (ps_set (i := 3) cp_counted_people.nd rfl (Or.inr rfl) (pe_meth0 (pv 0) TC.is.cl mP GP hr1 bP .nil pass0))
      (pss_cons (ps_set (i := 4) cp_counted_people.nd rfl (Or.inl rfl) (pe_call G4 hr1 rfl m4 k4 b4 .nil pass0 (pa_cons (pv 3) (pa_cons (pe_lst (pa_cons (pv 2) pa_nil)) pa_nil))))
      (pss_one (ps_ret (pe_lc (own := [("at", 5)]) (g := gName 5) (tt := tYes) rfl cp_counted_people.nd (pi_list (pe_call G7 hr1 rfl m7 k7 b7 .nil pass0 (pa_cons (pe_call G6 hr1 rfl m6 k6 b6 .nil pass0 (pa_cons (pe_call G5 hr2 rfl m5 k5 b5 .nil pass0 (pa_cons (pv 0) pa_nil)) (pa_cons (pe_ix ix_tup (pv 1) pe_int (fun _ _ => rfl)) (pa_cons (pe_ix ix_list (pv 4) pe_int (fun _ _ => rfl)) pa_nil)))) pa_nil)))
        (blkOk_by (N := ["company", "manner", "pair", "people", "deeds", "at"]) (sc := defScope sp_counted_people) (by decide +kernel)) (fun _ _ _ _ _ => pg_name (i := 5) cp_counted_people.nd rfl (Or.inl rfl)) (fun _ _ _ _ _ => pts_nil) (fun _ _ _ _ _ => pe_ix (r := rIxL K) ix_list (pv 3) (pv 5) (fun _ _ => rfl))))))))), ?_⟩
    obtain ⟨dx, a, b, h1, h2, h3⟩ := id hc
    have l9 := g.few
    obtain ⟨q1, q2, lt⟩ := mem_prsS g.asc hp
    refine ⟨_, rfl, c, dx, _, rfl, h1, ?_⟩
    refine ⟨_, rfl, t, m, rfl, hm, mk, fun H1 s1 => ?_⟩
    refine ⟨_, rfl, _, rfl, c, u, p, xs, ps, rfl, hc.same s1, g, s1 _ _ hu, hp, fun H2 s2 => ?_⟩
    have s02 := s1.trans s2
    refine ⟨_, rfl, c, dx, _, rfl, s02 _ _ h1, cF_no a b (by decide +kernel) (by decide +kernel), c, xs, ps, rfl, hc.same s02, by omega, fun L hL => ?_⟩
    have e3 : Same H2 (upd H2 L (.lst (xs.map V.str))) := same_new hL
    have hL3 : upd H2 L (.lst (xs.map V.str)) L = some (.lst (xs.map V.str)) := upd_same
    generalize upd H2 L (.lst (xs.map V.str)) = H3 at e3 hL3 ⊢
    refine ⟨_, rfl, _, rfl, by show 1 ≤ sizeLine; decide, fun M hM => ?_⟩
    have e4 : Same H3 (upd H3 M (.lst [.ref u])) := same_new hM
    have hM4 : upd H3 M (.lst [.ref u]) M = some (.lst [.ref u]) := upd_same
    generalize upd H3 M (.lst [.ref u]) = H4 at e4 hM4 ⊢
    have s04 := s02.trans (e3.trans e4)
    refine ⟨L, M, xs, [p], rfl, e4 _ _ hL3, pw_one hM4 (s04 _ _ hu), g.asc.nd, l9.2, by show 1 ≤ 100; decide, fun q hq => by rw [List.mem_singleton.mp hq]; exact ⟨q1, q2⟩, fun H5 D s5 nD hD => ?_⟩
    obtain ⟨T, i, j, hD, hT, hi, hj⟩ := pl_one hD
    have s05 := s04.trans s5
    refine ⟨_, rfl, c, xs, ps, rfl, hc.same s05, g, fun H6 R0 R s6 nR hR ro => ?_⟩
    have s06 := s05.trans s6
    obtain ⟨v, tv1, tv2⟩ := hm.same s06
    refine ⟨_, rfl, t, _, _, .ref v, rfl, rfl, SqT.of tv1, rfl, _, rfl, D, _, _, .ref T, rfl, rfl, SqL.of (s6 _ _ hD), rfl, R0, v, T, xs, ps, R, m.1, i, j, p, rfl, hR, ro, g, tv2, s6 _ _ hT, hi, hj, lt, fun n bo => ?_⟩
    refine ⟨n, xs.length, rfl, bo.1, by omega, fun H7 Z s7 nZ hZ => ?_⟩
    refine ⟨Z, rfl, ⟨_, SqL.of hZ⟩, fun W hW => ?_⟩
    have hL7 := ((e4.trans s5).trans (s6.trans s7)) _ _ hL3
    have s07 := s06.trans s7
    have nW : H W = none := same_none s07 hW
    refine lc_list (xs := intsN (onesL n xs.length)) (fun i H' => Same H7 H' ∧ H' W = some (.lst ((((onesL n xs.length).take i).map fun k => xs.getD k Str.empty).map V.str))) ⟨same_new hW, upd_same⟩ (fun i H' _ z => SqL.of (z.1 _ _ hZ)) ?_ ?_
    · rintro i' v' H8 hv ⟨s8, hw⟩
      unfold intsN at hv
      rw [List.getElem?_map] at hv
      obtain ⟨y, hy, rfl⟩ := Option.map_eq_some_iff.mp hv
      have yin : y < xs.length := by
        have := (List.mem_filter.mp (List.mem_of_getElem? hy)).1
        exact List.mem_range.mp this
      have hx : xs[y]? = some xs[y] := List.getElem?_eq_getElem yin
      have ey : xs.getD y Str.empty = xs[y] := by rw [List.getD_eq_getElem?_getD, hx]; rfl
      refine ⟨rfl, _, rfl, _, rfl, L, _, _, .str xs[y], rfl, rfl, SqL.of (s8 _ _ hL7), atI_nat (by rw [List.getElem?_map, hx]; rfl), _, hw, ?_, same_over s8 hW, ?_⟩
      · have h1 := List.length_filter_le (fun k => n.testBit k) (List.range xs.length)
        rw [List.length_range] at h1
        have h2 : (onesL n xs.length).length ≤ xs.length := h1
        rw [List.length_map, List.length_map, List.length_take, sizeLine_eq]
        omega
      · rw [upd_same, take_next hy, List.map_append, List.map_append]
        show some (HO.lst _) = some (HO.lst (_ ++ [V.str (xs.getD y Str.empty)]))
        rw [ey]
    · rintro H8 ⟨s8, hw⟩
      have li : (intsN (onesL n xs.length)).length = (onesL n xs.length).length := by unfold intsN; rw [List.length_map]
      rw [li, List.take_length, ones_people (f := ctP ps m.1 p) bo.2] at hw
      exact k H8 W (s07.trans s8) nW hw
end
end Wd
end
section
set_option maxRecDepth 100000
set_option maxHeartbeats 4000000
namespace Wd
open PySem L2
def spMan : Sp := fun vs H Q _ => ∃ (p : Addr) (c : Int) (n : Nat), vs = [.ref p] ∧ PurseAt H p c (n + 2) ∧ ∀ (H' : Hp) (T : Addr) (m : Mn), m.1 ∈ allK → SameX p H H' → MnAt H' T m → PurseAt H' p c n → Q (.ref T) H'
/-- literals: the values of a tuple, and tuples of them in a row -/
def tCs : List V → TA
  | [] => tNil
  | v :: r => tCons (tC v) (tCs r)
def tCss : List (List V) → TA
  | [] => tNil
  | vs :: r => tCons (tTup (tCs vs)) (tCss r)
theorem rd_cs {vs : List V} {σ : St} {H : Hp} {Q : List V → Hp → Prop} (k : Q vs H) : tCs vs σ H Q := by
  induction vs generalizing Q with
  | nil => exact k
  | cons v r ih => exact ih (Q := fun xs H' => Q (v :: xs) H') k
/-- tuples in a row -/
def RowT (H : Hp) (Ts : List Addr) (vss : List (List V)) : Prop := Ts.length = vss.length ∧ ∀ (i : Nat) T vs, Ts[i]? = some T → vss[i]? = some vs → H T = some (.tup vs)
theorem RowT.same {H H' : Hp} {Ts : List Addr} {vss : List (List V)} (h : RowT H Ts vss) (s : Same H H') : RowT H' Ts vss := ⟨h.1, fun i T vs a b => s _ _ (h.2 i T vs a b)⟩
theorem rd_css {vss : List (List V)} {σ : St} {H : Hp} {Q : List V → Hp → Prop} (few : ∀ vs ∈ vss, vs.length ≤ sizeLine)
    (k : ∀ (Ts : List Addr) (H' : Hp), Same H H' → RowT H' Ts vss → Q (Ts.map V.ref) H') : tCss vss σ H Q := by
  induction vss generalizing H Q with
  | nil => exact k [] H (Same.refl _) ⟨rfl, fun i T vs a _ => by cases a⟩
  | cons vs r ih =>
    show tTup (tCs vs) σ H fun x H1 => tCss r σ H1 fun xs H2 => Q (x :: xs) H2
    show tCs vs σ H fun xs H1 => xs.length ≤ sizeLine ∧ ∀ p, H1 p = none → _
    refine rd_cs ⟨few _ (List.mem_cons_self ..), fun T hT => ?_⟩
    have s1 := same_new (o := .tup vs) hT
    refine ih (fun vs' h' => few _ (List.mem_cons_of_mem _ h')) fun Ts H' s2 rt => k (T :: Ts) H' (s1.trans s2) ⟨by rw [List.length_cons, List.length_cons, rt.1], fun i T' vs' a b => ?_⟩
    cases i with
    | zero =>
      obtain rfl := Option.some.inj a
      obtain rfl := Option.some.inj b
      exact s2 _ _ upd_same
    | succ i => exact rt.2 i T' vs' a b
def eightV : List (List V) := [[], [.int 0], [.int 1], [.int 2], [.int 0, .int 1], [.int 0, .int 2], [.int 1, .int 2], [.int 0, .int 1, .int 2]]
theorem eightE : tCons (tTup (tNil)) (tCons (tTup (tCons (tC (.int 0)) (tNil))) (tCons (tTup (tCons (tC (.int 1)) (tNil))) (tCons (tTup (tCons (tC (.int 2)) (tNil))) (tCons (tTup (tCons (tC (.int 0)) (tCons (tC (.int 1)) (tNil)))) (tCons (tTup (tCons (tC (.int 0)) (tCons (tC (.int 2)) (tNil)))) (tCons (tTup (tCons (tC (.int 1)) (tCons (tC (.int 2)) (tNil)))) (tCons (tTup (tCons (tC (.int 0)) (tCons (tC (.int 1)) (tCons (tC (.int 2)) (tNil))))) (tNil)))))))) = tCss eightV := rfl
theorem eightK : eightV = allK.map fun ks => ks.map V.int := rfl
section
variable {P : Program} {w : World} {K : PySem.W.Frag} {mg : Str → Option Value} {base : Heap}
end
end Wd
end
section
set_option maxRecDepth 100000
set_option maxHeartbeats 4000000
namespace Wd
open PySem L2
/-- some manners -/
def MnsAt (H : Hp) (D : Addr) (n : Nat) : Prop := ∃ Ts : List Addr, H D = some (.lst (Ts.map V.ref)) ∧ Ts.length = n ∧ ∀ T ∈ Ts, ∃ m : Mn, m.1 ∈ allK ∧ MnAt H T m
theorem MnsAt.same {H H' : Hp} {D : Addr} {n : Nat} (h : MnsAt H D n) (s : Same H H') : MnsAt H' D n := by
  obtain ⟨Ts, a, b, c⟩ := h
  exact ⟨Ts, s _ _ a, b, fun T hT => let ⟨m, x, y⟩ := c T hT; ⟨m, x, y.same s⟩⟩
theorem MnAt.sameX {H H' : Hp} {R t : Addr} {m : Mn} {xs : List V} (h : MnAt H t m) (s : SameX R H H') (hR : H R = some (.lst xs)) : MnAt H' t m := by
  obtain ⟨u, a, b⟩ := h
  refine ⟨u, s _ _ (fun z => ?_) a, s _ _ (fun z => ?_) b⟩
  · rw [z, hR] at a
    cases a
  · rw [z, hR] at b
    cases b
def spAllM : Sp := fun vs H Q _ => vs = [] ∧ ∀ (H' : Hp) (D : Addr), Same H H' → MnsAt H' D 16 → Q (.ref D) H'
def eightW : List (List V) := [[], [.int 0], [.int 0, .int 1], [.int 0, .int 1, .int 2], [.int 0, .int 2], [.int 1], [.int 1, .int 2], [.int 2]]
theorem eightWE : tCons (tTup (tNil)) (tCons (tTup (tCons (tC (.int 0)) (tNil))) (tCons (tTup (tCons (tC (.int 0)) (tCons (tC (.int 1)) (tNil)))) (tCons (tTup (tCons (tC (.int 0)) (tCons (tC (.int 1)) (tCons (tC (.int 2)) (tNil))))) (tCons (tTup (tCons (tC (.int 0)) (tCons (tC (.int 2)) (tNil)))) (tCons (tTup (tCons (tC (.int 1)) (tNil))) (tCons (tTup (tCons (tC (.int 1)) (tCons (tC (.int 2)) (tNil)))) (tCons (tTup (tCons (tC (.int 2)) (tNil))) (tNil)))))))) = tCss eightW := rfl
theorem eightWK : ∀ vs ∈ eightW, ∃ ks ∈ allK, vs = ks.map V.int := by
  intro vs h
  simp only [eightW, List.mem_cons, List.not_mem_nil, or_false] at h
  rcases h with rfl | rfl | rfl | rfl | rfl | rfl | rfl | rfl
  · exact ⟨[], by decide, rfl⟩
  · exact ⟨[0], by decide, rfl⟩
  · exact ⟨[0, 1], by decide, rfl⟩
  · exact ⟨[0, 1, 2], by decide, rfl⟩
  · exact ⟨[0, 2], by decide, rfl⟩
  · exact ⟨[1], by decide, rfl⟩
  · exact ⟨[1, 2], by decide, rfl⟩
  · exact ⟨[2], by decide, rfl⟩
section
variable {P : Program} {w : World} {K : PySem.W.Frag} {mg : Str → Option Value} {base : Heap}
theorem ok_allM {f : Addr} {fd : FuncData} (F : Fun K "_law_all_manners" "_law_all_manners" s_all_manners f fd) : FnOk P w K mg base CX0 1 f fd [] spAllM := by
  refine F.ok c_all_manners (fun vs H Q E h => ?_) (fun cdv A outer s H vs Q E hr h => ?_)
  · obtain ⟨rfl, _⟩ := h
    rfl
  · obtain ⟨rfl, k⟩ := h
    refine ⟨_, pss_cons (ps_set (i := 0) c_all_manners.nd rfl (Or.inl rfl) (pe_lst pa_nil))
      (pss_cons (ps_for PassesOwn.never rfl (pi_list (pe_lst (pa_cons (pe_tup pa_nil) (pa_cons (pe_tup (pa_cons pe_int pa_nil)) (pa_cons (pe_tup (pa_cons pe_int (pa_cons pe_int pa_nil))) (pa_cons (pe_tup (pa_cons pe_int (pa_cons pe_int (pa_cons pe_int pa_nil)))) (pa_cons (pe_tup (pa_cons pe_int (pa_cons pe_int pa_nil))) (pa_cons (pe_tup (pa_cons pe_int pa_nil)) (pa_cons (pe_tup (pa_cons pe_int (pa_cons pe_int pa_nil))) (pa_cons (pe_tup (pa_cons pe_int pa_nil)) pa_nil)))))))))) (pg_name (i := 1) c_all_manners.nd rfl (Or.inr rfl))
        (pss_one (ps_set (i := 0) c_all_manners.nd rfl (Or.inl rfl) (pe_op op_cat (pv 0) (pe_lc (own := [("_law_word_here", 2)]) (g := gName 2) (tt := tYes) rfl c_all_manners.nd (pi_list (pe_lst (pa_cons pe_str (pa_cons pe_str pa_nil))))
          (blkOk_by (N := ["_law_found", "_law_kinds", "_law_word_here"]) (sc := defScope s_all_manners) (by decide +kernel)) (fun _ _ _ _ _ => pg_name (i := 2) c_all_manners.nd rfl (Or.inl rfl)) (fun _ _ _ _ _ => pts_nil) (fun _ _ _ _ _ => pe_tup (pa_cons (pv 1) (pa_cons (pv 2) pa_nil))))))))
      (pss_one (ps_ret (pv 0)))), ?_⟩
    rw [eightWE]
    refine ⟨by decide, fun F0 hF0 => ?_⟩
    have s0 := same_new (o := .lst []) hF0
    have f0 : upd H F0 (.lst []) F0 = some (.lst []) := upd_same
    generalize upd H F0 (.lst []) = H0 at s0 f0 ⊢
    refine rd_css (by decide) fun Ks H1 s1 rt => ?_
    have ln : Ks.length = 8 := rt.1
    refine ⟨by rw [List.length_map, ln]; decide, fun L hL => ?_⟩
    have s2 := same_new (o := .lst (Ks.map V.ref)) hL
    have hL2 : upd H1 L (.lst (Ks.map V.ref)) L = some (.lst (Ks.map V.ref)) := upd_same
    generalize upd H1 L (.lst (Ks.map V.ref)) = H2 at s2 hL2 ⊢
    have rt2 := rt.same s2
    have s02 := (s0.trans s1).trans s2
    refine ⟨L, rfl, ⟨_, SqL.of hL2⟩, ?_⟩
    refine for_list (xs := Ks.map V.ref) (fun i σ H' => ∃ (D : Addr) (v1 : Option V), σ = [some (.ref D), v1, none] ∧ Same H2 H' ∧ MnsAt H' D (2 * i))
      ⟨F0, none, rfl, Same.refl _, [], (s1.trans s2) _ _ f0, rfl, fun T hT => by cases hT⟩ (fun i σ H' _ ⟨_, _, _, z, _⟩ => SqL.of (z _ _ hL2)) ?_ ?_
    · rintro i v σ H3 hv ⟨D, v1, rfl, s3, mn⟩
      rw [List.getElem?_map] at hv
      obtain ⟨u, hu, rfl⟩ := Option.map_eq_some_iff.mp hv
      have i8 := (List.getElem?_eq_some_iff.mp hu).1
      obtain ⟨ks, mk, e⟩ := eightWK _ (List.mem_of_getElem? (List.getElem?_eq_getElem (show i < eightW.length by rw [← rt.1]; exact i8)))
      have eu := rt2.2 i u _ hu (List.getElem?_eq_getElem (show i < eightW.length by rw [← rt.1]; exact i8))
      rw [e] at eu
      refine ⟨_, rfl, by decide, fun W hW => ?_⟩
      have s4 := same_new (o := .lst [V.str ("even" : Str), .str ("odd" : Str)]) hW
      have hW2 : upd H3 W (.lst [V.str ("even" : Str), .str ("odd" : Str)]) W = some (.lst [V.str ("even" : Str), .str ("odd" : Str)]) := upd_same
      generalize upd H3 W (.lst [V.str ("even" : Str), .str ("odd" : Str)]) = H4 at s4 hW2 ⊢
      refine ⟨W, rfl, ⟨_, SqL.of hW2⟩, fun R hR => ?_⟩
      refine lc_it (walk_list (K := K) (a := W) (xs := [V.str ("even" : Str), .str ("odd" : Str)])) (fun i H' => Same H4 H' ∧ ∃ Ts : List Addr, H' R = some (.lst (Ts.map V.ref)) ∧ Ts.length = i ∧ ∀ T ∈ Ts, ∃ m : Mn, m.1 ∈ allK ∧ MnAt H' T m)
        ⟨same_new hR, [], upd_same, rfl, fun T hT => by cases hT⟩ (fun i H' _ z => SqL.of (z.1 _ _ hW2)) ?_ ?_
      · rintro j x _ H5 hj ⟨s5, Ts, hT, lT, gT⟩ ⟨rfl, hx⟩
        have hw : ∃ b, x = .str (wordS b) := by
          match j, hx with
          | 0, hx => exact ⟨false, (Option.some.inj hx).symm⟩
          | 1, hx => exact ⟨true, (Option.some.inj hx).symm⟩
          | j + 2, hx => cases hx
        obtain ⟨b, rfl⟩ := hw
        have j2 : j < 2 := hj
        refine ⟨rfl, _, rfl, _, rfl, by show 2 ≤ sizeLine; decide, fun U hU => ?_⟩
        have s6 := same_new (o := .tup [V.ref u, .str (wordS b)]) hU
        have hU2 : upd H5 U (.tup [V.ref u, .str (wordS b)]) U = some (.tup [V.ref u, .str (wordS b)]) := upd_same
        generalize upd H5 U (.tup [V.ref u, .str (wordS b)]) = H6 at s6 hU2 ⊢
        have s7 := same_over (o := .lst ((Ts ++ [U]).map V.ref)) (s5.trans s6) hR
        refine ⟨_, s6 _ _ hT, ?_, ?_⟩
        · rw [List.length_map, lT, sizeLine_eq]
          omega
        have sx : SameX R H5 (upd H6 R (.lst ((Ts ++ [U]).map V.ref))) := (SameX.of s6).trans SameX.upd
        have uR : H6 R = some (.lst (Ts.map V.ref)) := s6 _ _ hT
        rw [show Ts.map V.ref ++ [V.ref U] = (Ts ++ [U]).map V.ref by rw [List.map_append]; rfl]
        refine ⟨s7, Ts ++ [U], upd_same, by rw [List.length_append, lT]; rfl, fun T hT' => ?_⟩
        rcases List.mem_append.mp hT' with z | z
        · obtain ⟨m, a, b⟩ := gT T z
          exact ⟨m, a, b.sameX sx hT⟩
        · obtain rfl := List.mem_singleton.mp z
          exact ⟨(ks, b), mk, MnAt.sameX ⟨u, hU2, (((s3.trans s4).trans s5).trans s6) _ _ eu⟩ SameX.upd uR⟩
      · rintro H5 ⟨s5, Ts, hT, lT, gT⟩
        obtain ⟨Ts0, h0, l0, g0⟩ := mn.same (s4.trans s5)
        refine ⟨D, R, _, _, rfl, rfl, h0, hT, by rw [List.length_map, List.length_map, l0, lT, sizeLine_eq]; show 2 * i + 2 ≤ _; omega, fun E hE => ?_⟩
        have s6 := same_new (o := .lst (Ts0.map V.ref ++ Ts.map V.ref)) hE
        refine ⟨E, _, rfl, ((s3.trans s4).trans s5).trans s6, Ts0 ++ Ts, by rw [List.map_append]; exact upd_same, by rw [List.length_append, l0, lT]; show 2 * i + 2 = _; omega, fun T hT' => ?_⟩
        rcases List.mem_append.mp hT' with z | z
        · obtain ⟨m, a, b⟩ := g0 T z
          exact ⟨m, a, b.same s6⟩
        · obtain ⟨m, a, b⟩ := gT T z
          exact ⟨m, a, b.same s6⟩
    · rintro σ H3 ⟨D, v1, rfl, s3, mn⟩
      rw [List.length_map, ln] at mn
      exact ⟨_, rfl, k H3 D (s02.trans s3) mn⟩
end
end Wd
end
section
set_option maxRecDepth 100000
set_option maxHeartbeats 4000000
namespace Wd
open PySem L2
/-- manners written out -/
def tMn (m : Mn) : TE := tTup (tCons (tTup (tCs (m.1.map V.int))) (tCons (tC (.str (wordS m.2))) tNil))
def tMns : List Mn → TA
  | [] => tNil
  | m :: r => tCons (tMn m) (tMns r)
def MnsR (H : Hp) (Ts : List Addr) (ms : List Mn) : Prop := Ts.length = ms.length ∧ ∀ (i : Nat) T m, Ts[i]? = some T → ms[i]? = some m → MnAt H T m
theorem MnsR.same {H H' : Hp} {Ts : List Addr} {ms : List Mn} (h : MnsR H Ts ms) (s : Same H H') : MnsR H' Ts ms := ⟨h.1, fun i T m a b => (h.2 i T m a b).same s⟩
theorem rd_mn {m : Mn} {σ : St} {H : Hp} {Q : VK} (few : m.1.length ≤ sizeLine) (k : ∀ (T : Addr) (H' : Hp), Same H H' → MnAt H' T m → Q (.ref T) H') : tMn m σ H Q := by
  show tCs (m.1.map V.int) σ H fun xs H1 => xs.length ≤ sizeLine ∧ ∀ p, H1 p = none → _
  refine rd_cs ⟨by rw [List.length_map]; exact few, fun u hu => ?_⟩
  have s1 := same_new (o := .tup (m.1.map V.int)) hu
  show 2 ≤ sizeLine ∧ ∀ p, (upd H u (.tup (m.1.map V.int))) p = none → Q (.ref p) (upd (upd H u (.tup (m.1.map V.int))) p (.tup [.ref u, .str (wordS m.2)]))
  refine ⟨by decide, fun T hT => k T _ (s1.trans (same_new hT)) ⟨u, upd_same, same_new hT _ _ upd_same⟩⟩
theorem rd_mns {ms : List Mn} {σ : St} {H : Hp} {Q : List V → Hp → Prop} (few : ∀ m ∈ ms, m.1.length ≤ sizeLine)
    (k : ∀ (Ts : List Addr) (H' : Hp), Same H H' → MnsR H' Ts ms → Q (Ts.map V.ref) H') : tMns ms σ H Q := by
  induction ms generalizing H Q with
  | nil => exact k [] H (Same.refl _) ⟨rfl, fun i T vs a _ => by cases a⟩
  | cons m r ih =>
    show tMn m σ H fun x H1 => tMns r σ H1 fun xs H2 => Q (x :: xs) H2
    refine rd_mn (few _ (List.mem_cons_self ..)) fun T H1 s1 hT => ih (fun m' h' => few _ (List.mem_cons_of_mem _ h')) fun Ts H' s2 rt => k (T :: Ts) H' (s1.trans s2) ⟨by rw [List.length_cons, List.length_cons, rt.1], fun i T' m' a b => ?_⟩
    cases i with
    | zero =>
      obtain rfl := Option.some.inj a
      obtain rfl := Option.some.inj b
      exact hT.same s2
    | succ i => exact rt.2 i T' m' a b
theorem dp_intsL {K : PySem.W.Frag} {H : Hp} : ∀ ns : List Int, DpAll K H (ns.map V.int) (ns.map PyData.int)
  | [] => .nil
  | n :: ns => .cons (.int n) (dp_intsL ns)
theorem dp_tupI {K : PySem.W.Frag} {H : Hp} {a : Addr} {ns : List Int} (h : H a = some (.tup (ns.map V.int))) : Dp K H (.ref a) (.tuple (ns.map PyData.int)) := .tup (SqT.of h) (dp_intsL ns)
def mnD (m : Mn) : PyData := .tuple [.tuple (m.1.map PyData.int), .str (wordS m.2)]
theorem dp_mn {K : PySem.W.Frag} {H : Hp} {t : Addr} {m : Mn} (h : MnAt H t m) : Dp K H (.ref t) (mnD m) := by
  obtain ⟨u, a, b⟩ := h
  exact .tup (SqT.of a) (.cons (dp_tupI b) (.cons (.str _) .nil))
theorem dp_mns {K : PySem.W.Frag} {H : Hp} {Ts : List Addr} {ms : List Mn} (h : MnsR H Ts ms) : DpAll K H (Ts.map V.ref) (ms.map mnD) := by
  induction ms generalizing Ts with
  | nil =>
    cases Ts with
    | nil => exact .nil
    | cons a b => cases h.1
  | cons m r ih =>
    cases Ts with
    | nil => cases h.1
    | cons T Ts => exact .cons (dp_mn (h.2 0 T m rfl rfl)) (ih ⟨Nat.succ.inj h.1, fun i T' m' a b => h.2 (i + 1) T' m' a b⟩)
theorem sm_ints {H : Hp} {a b : Addr} {ns : List Int} (n : Nat) (few : ns.length ≤ 100) (ha : H a = some (.tup (ns.map V.int))) (hb : H b = some (.tup (ns.map V.int))) : Sm H (n + 1) (.ref a) (.ref b) :=
  .tup ha hb rfl (by rw [List.length_map]; exact few) fun i x y hx hy => by
    rw [hx] at hy
    obtain rfl := Option.some.inj hy
    rw [List.getElem?_map] at hx
    obtain ⟨k, _, rfl⟩ := Option.map_eq_some_iff.mp hx
    exact .atom _ (.inl ⟨k, rfl⟩)
theorem sm_mn {H : Hp} {a b : Addr} {m : Mn} (few : m.1.length ≤ 100) (ha : MnAt H a m) (hb : MnAt H b m) : Sm H 2 (.ref a) (.ref b) := by
  obtain ⟨u, a1, a2⟩ := ha
  obtain ⟨v, b1, b2⟩ := hb
  refine .tup a1 b1 rfl (by show 2 ≤ 100; decide) fun i x y hx hy => ?_
  match i, hx, hy with
  | 0, hx, hy =>
    obtain rfl := Option.some.inj hx
    obtain rfl := Option.some.inj hy
    exact sm_ints 0 few a2 b2
  | 1, hx, hy =>
    obtain rfl := Option.some.inj hx
    obtain rfl := Option.some.inj hy
    exact .atom _ (.inr (.inl ⟨_, rfl⟩))
  | i + 2, hx, hy => cases hx
end Wd
end
section
set_option maxRecDepth 100000
set_option maxHeartbeats 4000000
namespace Kx
open PySem PySem.SeqAt PySem.W PyProof.Rows
/-! sorted of tuples the first of which is empty -/
section
variable {prog : Program} {w : World} {A : Around} {E : Value → Shared → Prop} {s : Shared}
theorem call_tup_lt {Q : Value → Shared → Prop} {l b : Addr} {items items2 : Array Value} {e r : Nat → Bool} (hl : s.heap.IsTuple l items) (hb : s.heap.IsTuple b items2)
    (he : ∀ j (h1 : j < items.size) (h2 : j < items2.size), EqAt A.in1 s items[j] items2[j] (e j)) (hr : ∀ j (h1 : j < items.size) (h2 : j < items2.size), e j = false → RcLt A.in1 s items[j] items2[j] (r j))
    (h : Q (.bool (firstLt e r (decide (items.size < items2.size)) (List.range (min items.size items2.size)))) s) : wpAny (model prog w) A (call (.builtin "tuple.__lt__") [.ref l, .ref b]) Q E s := by
  obtain ⟨⟨cls, dd, data, sl⟩, ho, hc, n, hd⟩ := id hl
  obtain ⟨⟨cls2, dd2, data2, sl2⟩, ho2, hc2, n2, hd2⟩ := id hb
  simp only at hc hd hc2 hd2
  subst hc hd hc2 hd2
  exact call_meets F.slot_tuple_lt ⟨_, ho, rfl⟩ F.entry_tuple_lt (F.args_tuple_lt_2 _ _) (tuple_ltAt l b items items2 n n2 dd dd2 sl sl2 e r) ⟨ho, ho2, he, hr, h⟩
theorem oneLt_tup {xs ys : List PyData} {a b : Value} {as bs : List Addr} {Q : Bool → Shared → Prop} (ra : Reads s.heap a (.tuple xs) as) (rb : Reads s.heap b (.tuple ys) bs) (h : alike (.tuple xs) (.tuple ys) = true)
    (hu : A.units + min (PyData.tuple xs).depth (PyData.tuple ys).depth < cLine) (hq : Q (dataLt (.tuple xs) (.tuple ys)) s) : wpAny (model prog w) A (oneLt' true a b) Q E s := by
  have hal : alikeAll xs ys = true := by simpa [alike] using h
  cases ra with
  | @tuple l o vs n _ as₁ h1 h2 h3 h4 =>
    cases rb with
    | @tuple l' o' vs' n' _ bs₁ k1 k2 k3 k4 =>
      have n1 : vs.size = xs.length := by simpa using ReadsAll.length _ _ _ h4
      have n2 : vs'.size = ys.length := by simpa using ReadsAll.length _ _ _ k4
      rw [dataLt_tuple, ← firstLt_toks xs ys hal, ← n1, ← n2] at hq
      rw [oneLt'_eq]
      simp only [if_true]
      refine wpAny_bind (wpAny_cRoomFor (room_here hu) ?_)
      refine wpAny_bind (wpAny_callSpecialIfBound?_slot (T := "tuple") ⟨_, h1, h2⟩ F.slot_tuple_lt (call_tup_lt (e := pairEq xs ys) (r := fun j => dataLt (xs.getD j .none) (ys.getD j .none)) ⟨_, h1, h2, _, h3⟩ ⟨_, k1, k2, _, k3⟩ (fun j j1 j2 => ?_) (fun j j1 j2 hj => ?_) ?_))
      · have := eqAt_alikeAll xs ys A.in1 s vs.toList vs'.toList _ _ h4 k4 hal (room_in hu) j (by simpa using j1) (by simpa using j2)
        simpa using this
      · have := rcLt_alikeAll xs ys A.in1 s vs.toList vs'.toList _ _ h4 k4 hal (room_in hu) j (by simpa using j1) (by simpa using j2) hj
        simpa using this
      · exact wpAny_truthy_bool hq
end
section
variable {M : Model} {A : Around} {E : Value → Shared → Prop} {s : Shared}
theorem first_of {v : Value} {xs : List PyData} {as : List Addr} {Q : Option Value → Shared → Prop} (r : Reads s.heap v (.tuple xs) as) (h : ∀ u, (xs = [] → u = none) → Q u s) : wpAny M A (firstOfTuple' v) Q E s := by
  cases r with
  | @tuple a o vs n _ as₁ h1 h2 h3 h4 =>
    rw [kas_first_eq]
    refine wpAny_bind (Looks.here (show Looks M s.heap (typeOf (.ref a)) o.cls from (Looks.ld h1).andThen .now) ?_)
    rw [h2, if_neg (by first | decide | simp)]
    refine wpAny_bind (listItems_at h1 h3 (wpAny_pure (h _ fun e => ?_)))
    have n1 : vs.size = xs.length := by simpa using ReadsAll.length _ _ _ h4
    rw [e] at n1
    exact Array.getElem?_eq_none (by rw [n1]; exact Nat.le_refl _)
theorem firsts_any : ∀ (vs : List Value) (ds : List PyData) {Q : List (Option Value) → Shared → Prop}, EachIs (fun v d => ∃ as, Reads s.heap v d as) vs ds → (∀ d ∈ ds, ∃ xs, d = .tuple xs) → (∀ fs, Q fs s) → wpAny M A (vs.mapM firstOfTuple') Q E s
  | _, _, _, .nil, _, h => by rw [List.mapM_nil]; exact wpAny_pure (h _)
  | v :: vs, d :: ds, Q, .cons ⟨as, r⟩ t, ht, h => by
    obtain ⟨xs, rfl⟩ := ht d (List.mem_cons_self ..)
    rw [List.mapM_cons]
    exact wpAny_bind (first_of r fun u _ => wpAny_bind (firsts_any vs ds (Q := fun bs s' => wpAny M A (pure (u :: bs)) Q E s') t (fun d hd => ht d (List.mem_cons_of_mem _ hd)) fun fs => wpAny_pure (h _)))
theorem kind_mixed {vs : List Value} {ds : List PyData} {Q : SortKind → Shared → Prop} (e : EachIs (fun v d => ∃ as, Reads s.heap v d as) vs (.tuple [] :: ds)) (ht : ∀ d ∈ ds, ∃ xs, d = .tuple xs) (h : Q oneType' s) : wpAny M A (keyKind' vs.toArray) Q E s := by
  have ty : ∀ v ∈ vs, Looks M s.heap (typeOf v) (.type "tuple") := fun v hv => by
    obtain ⟨d, hd, as, r⟩ := e.left v hv
    have : ∃ xs, d = .tuple xs := by
      rcases List.mem_cons.mp hd with rfl | hd
      · exact ⟨_, rfl⟩
      · exact ht d hd
    obtain ⟨xs, rfl⟩ := this
    exact looks_reads r
  cases e with
  | @cons v₁ _ vs _ r t =>
    obtain ⟨as, r⟩ := r
    rw [kat_kind_eq, List.mapM_toArray, map_eq_pure_bind]
    refine wpAny_bind (wpAny_bind ?_)
    rw [List.mapM_cons]
    refine wpAny_bind (first_of r fun u hu => ?_)
    obtain rfl := hu rfl
    refine wpAny_bind (firsts_any vs ds t ht fun fs => wpAny_pure (wpAny_pure ?_))
    rw [if_neg (by simp), if_neg (by simp)]
    rw [oneTypeOnly'_eq, List.mapM_toArray, map_eq_pure_bind]
    refine wpAny_bind (wpAny_bind (wpAny_bind (kas_mapM (r := Value.type "tuple") _ (fun v hv Q' hq => (ty v hv).here hq) (wpAny_pure ?_))))
    have hall : ((List.map (fun _ => Value.type "tuple") (v₁ :: vs)).toArray.all fun x => x == Value.type "tuple") = true := by
      simp only [List.all_toArray, List.all_map, List.all_eq_true]
      intro _ _
      exact beq_self_eq_true _
    have h0 : (List.map (fun _ => Value.type "tuple") (v₁ :: vs)).toArray[0]? = some (Value.type "tuple") := by simp
    rw [h0]
    simp only [hall, if_true]
    exact wpAny_pure (wpAny_pure h)
end
section
variable {prog : Program} {w : World} {A : Around} {s : Shared}
theorem sorts_mixed {vs : List Value} {ds : List PyData} (e : EachIs (fun v d => ∃ as, Reads s.heap v d as) vs (.tuple [] :: ds)) (ht : ∀ d ∈ ds, ∃ xs, d = .tuple xs) (hal : AllAlike (.tuple [] :: ds)) (hu : ∀ d, d ∈ .tuple [] :: ds → A.units + d.depth < cLine) :
    SortsAt prog w A s (dataKind s.heap (.tuple [] :: ds)) vs := by
  have room : ∀ {d d' : PyData}, d ∈ .tuple [] :: ds → A.units + min d.depth d'.depth < cLine := fun {d d'} hd => Nat.lt_of_le_of_lt (Nat.add_le_add_left (Nat.min_le_left _ _) _) (hu d hd)
  have tup : ∀ d ∈ PyData.tuple [] :: ds, ∃ xs, d = .tuple xs := fun d hd => by
    rcases List.mem_cons.mp hd with rfl | hd
    · exact ⟨_, rfl⟩
    · exact ht d hd
  refine ⟨fun v hv => ?_, oneType', ?_, fun h2 E Q hq => kind_mixed e ht hq⟩
  · obtain ⟨d, hd, as, r⟩ := e.left v hv
    exact ⟨_, dataKind_some hal hd r⟩
  · intro E x y a b Q ha hb hq
    obtain ⟨d, as, hd, ra, rfl⟩ := dataKind_inv ha
    obtain ⟨d', as', hd', rb, rfl⟩ := dataKind_inv hb
    have al := hal d hd d' hd'
    have rm := room (d' := d') hd
    obtain ⟨xs, rfl⟩ := tup d hd
    obtain ⟨ys, rfl⟩ := tup d' hd'
    rw [keyLt'_oneType]
    exact oneLt_tup ra rb al rm hq
end
end Kx
namespace Kx
open PySem PySem.Spec PyProof.Rows L2
/-- sorted(xs), xs a list of tuples, alike data, the first of them empty -/
def rSortedE (K : PySem.W.Frag) : List V → Hp → VK → Prop := fun vs H Q => ∃ (a : Addr) (b0 : DV) (bs : List DV), vs = [V.ref a] ∧ SqL K H a ((b0 :: bs).map fun b => b.1) ∧ (∀ b ∈ b0 :: bs, Dp K H b.1 b.2 ∧ b.2.depth ≤ 40) ∧ b0.2 = .tuple [] ∧ (∀ b ∈ bs, ∃ xs, b.2 = .tuple xs) ∧
  PySem.W.AllAlike ((b0 :: bs).map fun b => b.2) ∧ ∀ p, H p = none → Q (.ref p) (upd H p (.lst ((sortedD (b0 :: bs)).map fun b => b.1)))
theorem cr_sortedE {X : Cx} (hu : X.A.units + 64 < cLine) : CallR X (.builtin "sorted") (rSortedE X.K) := by
  intro pins s σ H vs us Q I r h
  obtain ⟨a, b0, bs0, rfl, hs, hd, hb0, hbs, al, q⟩ := h
  obtain ⟨its, rv, hl, hz⟩ := I.list hs
  rw [Vals.ref1 r]
  obtain ⟨bs, ebs⟩ : ∃ bs, bs = b0 :: bs0 := ⟨_, rfl⟩
  rw [← ebs] at hs hd al q rv hz
  have e := each_of_vals (us := []) rv
  have er := each_reads I e fun b hb => (hd b hb).1
  rw [List.length_map] at hz
  have er' : PySem.W.EachIs (fun v b => ∃ as, Reads (PySem.W.sortingHeap (PySem.W.copyHeap s.heap its) (s.heap.objs.size + 1) its) v ((fun b : DV => b.2) b) as) its bs := er.mono fun _ _ ⟨as, r⟩ => ⟨as, PyProof.Rows.Reads.keeps (fun _ _ => PySem.W.sorting_copy_old) r⟩
  have em : bs.map (fun b : DV => b.2) = .tuple [] :: bs0.map (fun b : DV => b.2) := by rw [ebs, List.map_cons, hb0]
  have S : PySem.W.SortsAt X.prog X.w X.A.in1.in1 { s with heap := PySem.W.sortingHeap (PySem.W.copyHeap s.heap its) (s.heap.objs.size + 1) its } (PySem.W.dataKind (PySem.W.sortingHeap (PySem.W.copyHeap s.heap its) (s.heap.objs.size + 1) its) (bs.map fun b : DV => b.2)) its := by
    have e1 := PySem.W.each_map (R := fun v d => ∃ as, Reads (PySem.W.sortingHeap (PySem.W.copyHeap s.heap its) (s.heap.objs.size + 1) its) v d as) (fun b : DV => b.2) er'
    have u1 : ∀ d, d ∈ bs.map (fun b : DV => b.2) → X.A.in1.in1.units + d.depth < cLine := fun d hd' => by
      obtain ⟨b, hb, rfl⟩ := List.mem_map.mp hd'
      have := (hd b hb).2
      show X.A.units + 1 + 1 + _ < _
      omega
    rw [em] at e1 u1 al ⊢
    exact sorts_mixed (s := { s with heap := PySem.W.sortingHeap (PySem.W.copyHeap s.heap its) (s.heap.objs.size + 1) its }) e1 (fun d hd' => by
      obtain ⟨b, hb, rfl⟩ := List.mem_map.mp hd'
      exact hbs b hb) al u1
  refine PySem.W.sorted_vals hl.isList S (by rw [e.length]; exact hz) ?_
  have lo : (PySem.W.sortVals (PySem.W.dataKind (PySem.W.sortingHeap (PySem.W.copyHeap s.heap its) (s.heap.objs.size + 1) its) (bs.map fun b : DV => b.2)) false its its).length = its.length := PySem.W.sortVals_length false rfl
  have eo := PySem.W.sortVals_data false e er' al
  obtain ⟨ep, he⟩ := PyProof.Rows.sortedAll_at s.heap its (List.toArray (PySem.W.sortVals (PySem.W.dataKind (PySem.W.sortingHeap (PySem.W.copyHeap s.heap its) (s.heap.objs.size + 1) its) (bs.map fun b : DV => b.2)) false its its))
  have ro : Vals ((sortedD bs).map fun b => b.1) (PySem.W.sortVals (PySem.W.dataKind (PySem.W.sortingHeap (PySem.W.copyHeap s.heap its) (s.heap.objs.size + 1) its) (bs.map fun b : DV => b.2)) false its its) := vals_of_each eo
  have hlen : ((sortedD bs).map fun b => b.1).length ≤ sizeLine := by
    rw [ro.length, lo, e.length]
    exact hz
  exact ⟨.ref _, upd H (s.heap.objs.size + 1) (.lst ((sortedD bs).map fun b => b.1)), I.laid (t' := s.toks) (fun _ _ => PyProof.Rows.sortedAll_old) (Nat.le_succ _) ⟨hlen, _, ep, ro, he⟩, rfl, q _ (I.hok.fresh (Nat.le_succ _))⟩
end Kx
end
section
set_option maxRecDepth 100000
set_option maxHeartbeats 4000000
namespace Kc
open PySem PySem.Spec PyProof.Rows L2
def subs : List Nat → List (List Nat)
  | [] => [[]]
  | x :: xs => (subs xs).map (fun l => x :: l) ++ subs xs
/-- the places that combinations(range(n), r) goes through, of few -/
def ixsG (r n : Nat) : List (List Nat) := (subs (List.range n)).filter fun l => l.length == r
theorem all_goG : ((List.range 5).all fun n => (List.range 5).all fun r => okGo n r (ixsG r n)) = true := by decide +kernel
theorem goesG {n r : Nat} (hn : n ≤ 4) (hr : r ≤ 4) : Goes n r (ixsG r n) :=
  goes_of (List.all_eq_true.mp (List.all_eq_true.mp all_goG n (List.mem_range.mpr (by omega))) r (List.mem_range.mpr (by omega)))
section
variable {X : Cx} {pins : List (Addr × Obj)} {σ : L2.St} {H : Hp} {s : Shared}
theorem ld_var {E : Value → Shared → Prop} {i : Nat} {x : Str} {v : V} {pos : Pos} {Q : Value → Shared → Prop} (I : L2.Inv X pins σ H s) (hN : X.N[i]? = some x) (hv : Vis X.env.scope x) (e : σ[i]? = some (some v)) (h : ∀ u, RelV v u → Q u s)
    (hd : (x == ("__debug__" : Str)) = false := by decide) (hcd : (x == ("__classdict__" : Str)) = false := by decide) : wpAny (model X.prog X.w) X.A (eval (.Name x pos) X.env) Q E s := by
  obtain ⟨m, hn, hl⟩ := I.loc
  obtain ⟨u, r, l⟩ := hl i x v hN e hv
  rcases l with ⟨hk, hm⟩ | ⟨hk, c, hc, hcell⟩
  · exact wpAny_Name (wpAny_loadName_local I.ok.kind hk hn hm (h u r)) hd
  · rcases hk with hk | hk
    · exact wpAny_Name (wpAny_loadName_cell I.ok.kind hk hc hcell (h u r)) hd
    · exact wpAny_Name (wpAny_loadName_free I.ok.kind hk hc hcell (h u r) hcd) hd
def iCombG (te : L2.St → Hp → (Int → Int → Hp → Prop) → Prop) (i : Nat) : TI := fun σ H R => te σ H fun a b H1 => ∃ n r : Nat, a = 0 ∧ b = (n : Int) ∧ n ≤ 4 ∧ r ≤ 4 ∧ σ[i]? = some (some (.int (r : Int))) ∧ R (Itx (iota n) (ixsG r n)) H1
/-- for .. in combinations(range(n), r), r a name -/
theorem pi_combG (hc : X.calm = true) {tg e : Expr} {te : L2.St → Hp → (Int → Int → Hp → Prop) → Prop} {i : Nat} {x : Str} {p px pos : Pos} (hg : Gl X "combinations") (hm : X.mg "combinations" = some (.type TC)) (he : PRg X e te) (hN : X.N[i]? = some x := by rfl)
    (hv : Vis X.env.scope x := by first | exact Or.inl rfl | exact Or.inr (Or.inl rfl) | exact Or.inr (Or.inr rfl)) (hd : (x == ("__debug__" : Str)) = false := by decide) (hcd : (x == ("__classdict__" : Str)) = false := by decide)
    (hs : starEach [e, .Name x px] X.env = (false, eval e X.env) :: starEach [.Name x px] X.env := by rfl) (hs2 : starEach [.Name x px] X.env = (false, eval (.Name x px) X.env) :: starEach [] X.env := by rfl)
    (hpl : (backTo pos (starEach [.Name x px] X.env)).any (·.1) = false := by rfl) : PI X tg (.Call (.Name "combinations" p) [e, .Name x px] [] pos) (iCombG te i) := by
  refine ⟨fun pins s σ H R I h => ?_⟩
  refine Call_ (ld_glob I hg hm (PyProof.Rows.callWith_type1 (args_cons (thn (he pins s σ H _ I h) fun y s1 hx => ?_) hs) hs hpl))
  obtain ⟨rg, a, b, t, u, v, H1, rfl, hr, I1, n, r, rfl, rfl, few, r4, hi, q⟩ := hx
  refine args_cons (ld_var I1 hN hv hi (fun w rw_ => ?_) hd hcd) hs2
  obtain ⟨tk0, rfl⟩ := rw_
  refine args_nil ?_
  refine call_combR (s := s1) (n := n) (r := r) (I1.ok.hd hc) hr (small_one (by omega) (by omega) (by omega) (by omega)) (by have := rangeSize_nat 0 (n : Int); simpa using this) (by omega) (by omega) fun hp h' tk acc hk hi g1 g2 k2 => ?_
  have G := goesG few r4
  have I3 : L2.Inv X pins σ H1 { s1 with heap := hp, toks := tk } := I1.kept hk
  have I4 : L2.Inv X pins σ H1 { s1 with heap := h', toks := tk } := I3.kept k2
  have rx : Vals (iota n) acc.toList := by
    have z := vals_rg (a := 0) (b := (n : Int)) (acc := acc) (by simpa using hi)
    have e : rgV 0 (n : Int) = iota n := by
      unfold rgV iota
      rw [show ((n : Int) - 0).toNat = n by omega]
      exact List.map_congr_left fun i _ => by rw [Int.zero_add]
    rw [e] at z
    exact z
  have li : (iota n).length = n := by unfold iota; rw [List.length_map, List.length_range]
  have hf : ∀ b ∈ [hp.objs.size + 1, hp.objs.size], FpOk X pins H1 b := fun b hb => by
    have e' : b = hp.objs.size + 1 ∨ b = hp.objs.size := by simpa using hb
    have le : hp.objs.size ≤ b := by
      rcases e' with z | z
      · rw [z]
        exact Nat.le_add_right _ _
      · rw [z]
        exact Nat.le_refl _
    exact I3.fpOk le (I3.hok.fresh le)
  have st : Stands (hp.objs.size + 1) hp.objs.size acc.toList (iota n).length (ixsG r n) 0 h' := by
    rw [li]
    refine ⟨⟨_, _, _, g1, ?_⟩, by rw [Array.toArray_toList]; exact g2⟩
    by_cases c : r > n
    · refine .inr (.inr ⟨by simp [c], ?_⟩)
      rw [G.start, if_pos (by omega)]
    · refine .inl ⟨by simp [c], ?_⟩
      rw [G.start, if_neg (by omega)]
  have G' : Goes (iota n).length r (ixsG r n) := by rw [li]; exact G
  obtain ⟨⟨st0, res, ix, hi0, a⟩, hp0⟩ := id st
  exact comb_self hi0 ⟨hp.objs.size + 1, [hp.objs.size + 1, hp.objs.size], _, _, H1, rfl, I4, turn_comb rx (Nat.ne_of_lt (Nat.lt_succ_self _)) G' (by omega), st, hf, q⟩
end
end Kc
end
section
set_option maxRecDepth 100000
set_option maxHeartbeats 4000000
namespace Wd
open PySem L2
abbrev Tr := Str × Str × Str
def trv (t : Tr) : List V := [.str t.1, .str t.2.1, .str t.2.2]
/-- all triples of some texts, in their order -/
def trs : List Str → List Tr
  | [] => []
  | x :: r => (prsS r).map (fun p => (x, p.1, p.2)) ++ trs r
def trsV : List V → List (List V)
  | [] => []
  | x :: r => (prs r).map (fun q => [x, q.1, q.2]) ++ trsV r
theorem trs_strs : ∀ xs : List Str, trsV (xs.map V.str) = (trs xs).map trv
  | [] => rfl
  | x :: r => by
    show (prs (r.map V.str)).map (fun q => [V.str x, q.1, q.2]) ++ trsV (r.map V.str) = ((prsS r).map (fun p => (x, p.1, p.2)) ++ trs r).map trv
    rw [trs_strs r, prs_strs, List.map_append, List.map_map, List.map_map]
    rfl
theorem ixs3_trs : ∀ xs : List V, (Kc.ixs3 xs.length).map (Kc.atIx xs) = trsV xs
  | [] => rfl
  | x :: r => by
    have ih := ixs3_trs r
    have e1 : ∀ n, ((List.range (n + 1)).filter fun j => decide (0 < j)) = (List.range n).map Nat.succ := fun n => by
      rw [range_cons, List.filter_cons_of_neg (by simp), List.filter_eq_self.mpr]
      intro a ha
      obtain ⟨b, _, rfl⟩ := List.mem_map.mp ha
      simp
    have e2 : ∀ n i, ((List.range (n + 1)).filter fun j => decide (i.succ < j)) = ((List.range n).filter fun j => decide (i < j)).map Nat.succ := fun n i => by
      rw [range_cons, List.filter_cons_of_neg (by simp), List.filter_map]
      congr 1
      refine List.filter_congr fun a _ => ?_
      show decide (i.succ < a.succ) = decide (i < a)
      exact decide_eq_decide.mpr ⟨fun h => by omega, fun h => by omega⟩
    have e3 : Kc.ixs3 (r.length + 1) = (Kc.ixs2 r.length).map (fun l => 0 :: l.map Nat.succ) ++ (Kc.ixs3 r.length).map (fun l => l.map Nat.succ) := by
      unfold Kc.ixs3 Kc.ixs2
      conv => lhs; rw [range_cons]
      rw [List.flatMap_cons]
      congr 1
      · rw [← range_cons, e1, List.flatMap_map, List.map_flatMap]
        congr 1
        funext j
        rw [e2, List.map_map, List.map_map]
        rfl
      · rw [← range_cons, List.flatMap_map, List.map_flatMap]
        congr 1
        funext i
        rw [e2, List.flatMap_map, List.map_flatMap]
        congr 1
        funext j
        rw [e2, List.map_map, List.map_map]
        rfl
    show (Kc.ixs3 (r.length + 1)).map (Kc.atIx (x :: r)) = (prs r).map (fun q => [x, q.1, q.2]) ++ trsV r
    rw [e3, List.map_append, List.map_map, List.map_map]
    have sh : ∀ l : List Nat, Kc.atIx (x :: r) (l.map Nat.succ) = Kc.atIx r l := fun l => by
      show (l.map Nat.succ).map (fun i => (x :: r).getD i V.non) = l.map fun i => r.getD i V.non
      rw [List.map_map]
      rfl
    congr 1
    · have q := congrArg (List.map fun l => x :: l) (ixs2_prs r)
      rw [List.map_map, List.map_map] at q
      refine Eq.trans (List.map_congr_left fun l _ => ?_) q
      show x :: Kc.atIx (x :: r) (l.map Nat.succ) = x :: Kc.atIx r l
      rw [sh]
    · rw [← ih]
      exact List.map_congr_left fun l _ => sh l
/-- what stands in a triple -/
theorem mem_trs {xs : List Str} (a : Asc xs) {t : Tr} (h : t ∈ trs xs) : t.1 ∈ xs ∧ t.2.1 ∈ xs ∧ t.2.2 ∈ xs ∧ Lt t.1 t.2.1 ∧ Lt t.2.1 t.2.2 := by
  induction xs with
  | nil => cases h
  | cons x r ih =>
    obtain ⟨a1, a2⟩ := List.pairwise_cons.mp a
    rcases List.mem_append.mp h with h | h
    · obtain ⟨p, hp, rfl⟩ := List.mem_map.mp h
      obtain ⟨m1, m2, lt⟩ := mem_prsS a2 hp
      exact ⟨List.mem_cons_self, List.mem_cons_of_mem _ m1, List.mem_cons_of_mem _ m2, a1 _ m1, lt⟩
    · obtain ⟨m1, m2, m3, l1, l2⟩ := ih a2 h
      exact ⟨List.mem_cons_of_mem _ m1, List.mem_cons_of_mem _ m2, List.mem_cons_of_mem _ m3, l1, l2⟩
/-- how many of a triple's pairs are friends -/
def tn (ps : List Pr) (t : Tr) : Nat := ev ps t.1 t.2.1 + ev ps t.1 t.2.2 + ev ps t.2.1 t.2.2
theorem ev_frs {xs : List Str} {ps : List Pr} (g : Good xs ps) {x y : Str} (h : Lt x y) : ev ps x y = if y ∈ frs ps x then 1 else 0 := by
  have lt : ∀ q ∈ ps, Lt q.1 q.2 := fun q hq => (g.of q hq).2.2
  have e : mk x y = (x, y) := if_pos h
  have ne : y ≠ x := fun e => Lt.irr x (by rw [e] at h; exact h)
  unfold ev
  by_cases c : (x, y) ∈ ps
  · rw [if_pos c, if_pos ((mem_frs lt).mpr ⟨ne, by rw [e]; exact c⟩)]
  · rw [if_neg c, if_neg fun z => c (by rw [← e]; exact ((mem_frs lt).mp z).2)]
theorem frs_symT {xs : List Str} {ps : List Pr} (g : Good xs ps) {x y : Str} : x ∈ frs ps y ↔ y ∈ frs ps x := by
  have lt : ∀ q ∈ ps, Lt q.1 q.2 := fun q hq => (g.of q hq).2.2
  rw [mem_frs lt, mem_frs lt, mk_comm]
  exact ⟨fun h => ⟨Ne.symm h.1, h.2⟩, fun h => ⟨Ne.symm h.1, h.2⟩⟩
def tl (t : Tr) : List Str := [t.1, t.2.1, t.2.2]
/-- those of a triple who are friends of p -/
def tin (ps : List Pr) (t : Tr) (p : Str) : List Str := (frs ps p).filter fun y => decide (y ∈ tl t)
theorem tin_len {xs : List Str} {ps : List Pr} (g : Good xs ps) {t : Tr} (h1 : Lt t.1 t.2.1) (h2 : Lt t.2.1 t.2.2) (p : Str) : (tin ps t p).length = (if t.1 ∈ frs ps p then 1 else 0) + (if t.2.1 ∈ frs ps p then 1 else 0) + (if t.2.2 ∈ frs ps p then 1 else 0) := by
  have n1 : t.1 ≠ t.2.1 := fun e => Lt.irr _ (by rw [e] at h1; exact h1)
  have n2 : t.2.1 ≠ t.2.2 := fun e => Lt.irr _ (by rw [e] at h2; exact h2)
  have n3 : t.1 ≠ t.2.2 := fun e => Lt.irr _ (by have := h1.tr h2; rw [e] at this; exact this)
  have nd : (tl t).Nodup := by
    unfold tl
    simp [n1, n2, n3]
  have pm : (tin ps t p).Perm ((tl t).filter fun y => decide (y ∈ frs ps p)) := by
    refine (List.perm_ext_iff_of_nodup ((frs_asc g p).nd.filter _) (nd.filter _)).mpr fun y => ?_
    rw [List.mem_filter, List.mem_filter]
    simp [and_comm]
  rw [pm.length_eq]
  unfold tl
  by_cases a : t.1 ∈ frs ps p <;> by_cases b : t.2.1 ∈ frs ps p <;> by_cases c : t.2.2 ∈ frs ps p <;> simp [a, b, c]
theorem tin_all {xs : List Str} {ps : List Pr} (g : Good xs ps) {t : Tr} (h1 : Lt t.1 t.2.1) (h2 : Lt t.2.1 t.2.2) : ((tl t).flatMap (tin ps t)).length = 2 * tn ps t := by
  have lt : ∀ q ∈ ps, Lt q.1 q.2 := fun q hq => (g.of q hq).2.2
  have self : ∀ x, x ∉ frs ps x := fun x z => ((mem_frs lt).mp z).1 rfl
  unfold tn
  rw [ev_frs g h1, ev_frs g (h1.tr h2), ev_frs g h2]
  show ([t.1, t.2.1, t.2.2].flatMap (tin ps t)).length = _
  simp only [List.flatMap_cons, List.flatMap_nil, List.length_append, List.length_nil, tin_len g h1 h2]
  have s1 : t.1 ∈ frs ps t.2.1 ↔ t.2.1 ∈ frs ps t.1 := frs_symT g
  have s2 : t.1 ∈ frs ps t.2.2 ↔ t.2.2 ∈ frs ps t.1 := frs_symT g
  have s3 : t.2.1 ∈ frs ps t.2.2 ↔ t.2.2 ∈ frs ps t.2.1 := frs_symT g
  by_cases a : t.2.1 ∈ frs ps t.1 <;> by_cases b : t.2.2 ∈ frs ps t.1 <;> by_cases c : t.2.2 ∈ frs ps t.2.1 <;> simp [a, b, c, s1, s2, s3, self]
end Wd
end
section
set_option maxRecDepth 100000
set_option maxHeartbeats 4000000
namespace Wd
open PySem L2
/-- a walk, whatever is done at each turn -/
theorem loop_of {J : It} {n : Nat} {ok : Hp → Prop} {yl : Nat → Hp → V → Hp → Prop} (wk : Walk J n ok yl) {H0 : Hp} {Fin : Hp → Prop} {Body : V → Hp → (Hp → Prop) → Prop} (Pv : Nat → Hp → Prop) (h0 : Pv 0 H0) (hok : ∀ i H, i ≤ n → Pv i H → ok H)
    (step : ∀ i x H H', i < n → Pv i H → yl i H x H' → Body x H' (Pv (i + 1))) (done : ∀ H, Pv n H → Fin H) :
    ∃ W : Nat → Nat → Hp → Prop, (∃ m, W 0 m H0) ∧ ∀ (i m : Nat) (H : Hp), W i m H → J.stop i H ∧ Fin H ∨ J.go i H ∧ ∃ Nx : Hp → Prop, (∀ H', Nx H' → ∃ m', m' < m ∧ W (i + 1) m' H') ∧ ∀ (x : V) (H' : Hp), J.yld i H x H' → Body x H' Nx := by
  obtain ⟨w1, w2, w3⟩ := wk
  refine ⟨fun i m H => i + m = n ∧ Pv i H, ⟨n, by omega, h0⟩, fun i m H ⟨e, pv⟩ => ?_⟩
  by_cases z : m = 0
  · have e : i = n := by omega
    subst e
    exact .inl ⟨w2 H (hok i H (Nat.le_refl _) pv), done H pv⟩
  · refine .inr ⟨w1 i H (by omega) (hok i H (by omega) pv), Pv (i + 1), fun H' p => ⟨m - 1, by omega, by omega, p⟩, fun x H' y => step i x H H' (by omega) pv (w3 i H x H' (by omega) (hok i H (by omega) pv) y)⟩
def spFsh : Sp := fun vs H Q _ => ∃ (D u : Addr) (t : Tr) (xs : List Str) (ps : List Pr) (Ls : List Addr), vs = [.ref D, .ref u] ∧ CirF H D xs Ls (frs ps) ∧ Good xs ps ∧ H u = some (.tup (trv t)) ∧ t ∈ trs xs ∧ ∀ H', Same H H' → Q (.int (tn ps t : Nat)) H'
section
variable {P : Program} {w : World} {K : PySem.W.Frag} {mg : Str → Option Value} {base : Heap}
end
end Wd
end
section
set_option maxRecDepth 100000
set_option maxHeartbeats 4000000
namespace Wd
open PySem L2
/-! tuples of whole numbers, sorted -/
theorem depth_ints : ∀ ks : List Int, (PyData.tuple (ks.map PyData.int)).depth ≤ 40 := fun ks => by
  have h : ∀ ks : List Int, PyData.depthAll (ks.map PyData.int) ≤ 1 := fun ks => by
    induction ks with
    | nil => simp [PyData.depthAll]
    | cons a r ih =>
      rw [List.map_cons, PyData.depthAll]
      have : (PyData.int a).depth ≤ 1 := by simp [PyData.depth]
      omega
  have := h ks
  simp only [PyData.depth]
  omega
theorem RowT.snoc {H : Hp} {Ts : List Addr} {vss : List (List V)} {T : Addr} {vs : List V} (h : RowT H Ts vss) (e : H T = some (.tup vs)) : RowT H (Ts ++ [T]) (vss ++ [vs]) := by
  refine ⟨by rw [List.length_append, List.length_append, h.1]; rfl, fun i T' vs' a b => ?_⟩
  by_cases c : i < Ts.length
  · rw [List.getElem?_append_left c] at a
    rw [List.getElem?_append_left (by rw [← h.1]; exact c)] at b
    exact h.2 i T' vs' a b
  · rw [List.getElem?_append_right (by omega)] at a
    rw [List.getElem?_append_right (by rw [← h.1]; omega), ← h.1] at b
    cases hq : i - Ts.length with
    | zero =>
      rw [hq] at a b
      obtain rfl := Option.some.inj a
      obtain rfl := Option.some.inj b
      exact e
    | succ q =>
      rw [hq] at a
      cases a
theorem RowT.keep {H : Hp} {Ts : List Addr} {vss : List (List V)} {R : Addr} {xs ys : List V} (h : RowT H Ts vss) (hR : H R = some (.lst xs)) : RowT (upd H R (.lst ys)) Ts vss :=
  ⟨h.1, fun i T vs a b => by
    have e := h.2 i T vs a b
    rw [upd_ne fun z => by
      rw [z, hR] at e
      cases e]
    exact e⟩
def ksV (kss : List (List Int)) : List (List V) := kss.map fun ks => ks.map V.int
theorem srt_ints {K : PySem.W.Frag} {H : Hp} {a : Addr} {Ts : List Addr} {rest ss : List (List Int)} {Q : VK} (ha : H a = some (.lst (Ts.map V.ref))) (hR : RowT H Ts (ksV ([] :: rest))) (pm : ([] :: rest).Perm ss) (asc : ss.Pairwise (· ≤ ·))
    (q : ∀ (D : Addr) (Us : List Addr), H D = none → RowT H Us (ksV ss) → Q (.ref D) (upd H D (.lst (Us.map V.ref)))) : Kx.rSortedE K [.ref a] H Q := by
  let zt : Addr × List Int → Kx.DV := fun q => (.ref q.1, .tuple (q.2.map PyData.int))
  obtain ⟨kss, ek⟩ : ∃ kss, kss = [] :: rest := ⟨_, rfl⟩
  rw [← ek] at hR pm
  have lT : Ts.length = kss.length := by rw [hR.1]; unfold ksV; rw [List.length_map]
  have e1 : ((Ts.zip kss).map zt).map (fun b => b.1) = Ts.map V.ref := by
    rw [List.map_map]
    have : ((fun b : Kx.DV => b.1) ∘ zt) = V.ref ∘ Prod.fst := rfl
    rw [this, ← List.map_map, List.map_fst_zip (by omega)]
  have snd : (Ts.zip kss).map Prod.snd = kss := List.map_snd_zip (by omega)
  have at_ : ∀ z ∈ Ts.zip kss, H z.1 = some (.tup (z.2.map V.int)) := fun z hz => by
    obtain ⟨j, hj, e⟩ := List.getElem_of_mem hz
    obtain ⟨z1, z2⟩ := List.getElem?_zip_eq_some.mp (show (Ts.zip kss)[j]? = some z by rw [List.getElem?_eq_getElem hj, e])
    exact hR.2 j z.1 _ z1 (by unfold ksV; rw [List.getElem?_map, z2]; rfl)
  have le_ : ∀ x ∈ Ts.zip kss, ∀ y ∈ Ts.zip kss, (decide (x.2 ≤ y.2)) = PySem.W.dataLe false (fun b : Kx.DV => b.2) (zt x) (zt y) := fun x hx y hy => by
    rw [PySem.W.dataLe_eq]
    show _ = !PySem.W.dataLt (.tuple (y.2.map PyData.int)) (.tuple (x.2.map PyData.int))
    rw [PySem.W.dataLt_tuple]
    have e := PySem.W.dataLt_ints y.2 x.2
    unfold PySem.W.rowLt at e
    rw [e, ← decide_not]
    exact decide_eq_decide.mpr Iff.rfl
  let zs := (Ts.zip kss).mergeSort fun x y => decide (x.2 ≤ y.2)
  have e2 : Kx.sortedD ((Ts.zip kss).map zt) = zs.map zt := (List.map_mergeSort le_).symm
  have pz : zs.Perm (Ts.zip kss) := List.mergeSort_perm _ _
  have ps : (zs.map Prod.snd).Perm kss := by
    have := pz.map Prod.snd
    rw [snd] at this
    exact this
  have pw := List.pairwise_mergeSort (le := fun x y : Addr × List Int => decide (x.2 ≤ y.2)) (fun a b c h1 h2 => by
      rw [decide_eq_true_eq] at h1 h2 ⊢
      exact List.le_trans h1 h2) (fun a b => by
      rw [Bool.or_eq_true, decide_eq_true_eq, decide_eq_true_eq]
      exact List.le_total a.2 b.2) (Ts.zip kss)
  have es : zs.map Prod.snd = ss := (ps.trans pm).eq_of_pairwise (le := fun a b => a ≤ b) (fun a b _ _ x y => List.le_antisymm x y) (List.pairwise_map.mpr (List.Pairwise.imp (fun {a b} h => of_decide_eq_true h) pw)) asc
  have e3 : (zs.map zt).map (fun b => b.1) = (zs.map Prod.fst).map V.ref := by
    rw [List.map_map, List.map_map]
    rfl
  have row : RowT H (zs.map Prod.fst) (ksV ss) := by
    refine ⟨by unfold ksV; rw [← es]; simp only [List.length_map], fun i T vs a b => ?_⟩
    rw [← es] at b
    unfold ksV at b
    rw [List.getElem?_map] at a
    rw [List.getElem?_map, List.getElem?_map] at b
    obtain ⟨z, hz, rfl⟩ := Option.map_eq_some_iff.mp a
    rw [hz] at b
    obtain rfl := Option.some.inj b
    exact at_ z (pz.mem_iff.mp (List.mem_of_getElem? hz))
  cases hT : Ts with
  | nil =>
    rw [hT, ek] at lT
    cases lT
  | cons T0 Tr =>
    have ez : (Ts.zip kss).map zt = (V.ref T0, PyData.tuple []) :: (Tr.zip rest).map zt := by rw [hT, ek]; rfl
    refine ⟨a, (V.ref T0, .tuple []), (Tr.zip rest).map zt, rfl, ?_, fun b hb => ?_, rfl, fun b hb => ?_, ?_, fun D hD => ?_⟩
    · rw [← ez, e1]
      exact SqL.of ha
    · rw [← ez] at hb
      obtain ⟨z, hz, rfl⟩ := List.mem_map.mp hb
      exact ⟨dp_tupI (at_ z hz), depth_ints z.2⟩
    · obtain ⟨z, hz, rfl⟩ := List.mem_map.mp hb
      exact ⟨_, rfl⟩
    · rw [← ez, List.map_map]
      refine PySem.W.AllAlike.of fun b b' => ?_
      show PySem.W.alike (.tuple (b.2.map PyData.int)) (.tuple (b'.2.map PyData.int)) = true
      rw [PySem.W.alike]
      exact PySem.W.alike_ints _ _
    · rw [← ez, e2, e3]
      exact q D _ hD row
/-- the subsets of the numbers below n, sorted -/
def lexS : List Int → List (List Int)
  | [] => [[]]
  | x :: xs => [] :: ((lexS xs).map (fun l => x :: l) ++ (lexS xs).tail)
def subsI (n : Nat) : List (List Int) := lexS ((List.range n).map fun (i : Nat) => (i : Int))
def rawI (n i : Nat) : List (List Int) := (List.range i).flatMap fun r => (Kc.ixsG r n).map fun ix => ix.map fun (i : Nat) => (i : Int)
theorem raw_next (n i : Nat) : rawI n (i + 1) = rawI n i ++ (Kc.ixsG i n).map fun ix => ix.map fun (i : Nat) => (i : Int) := by
  unfold rawI
  rw [List.range_succ, List.flatMap_append]
  simp
theorem subs_facts {n : Nat} (h : n = 3 ∨ n = 4) : (∃ rest, rawI n (n + 1) = [] :: rest) ∧ (rawI n (n + 1)).Perm (subsI n) ∧ (subsI n).Pairwise (· ≤ ·) ∧ ∀ i, i ≤ n + 1 → (rawI n i).length ≤ 16 := by
  rcases h with rfl | rfl
  · refine ⟨⟨_, rfl⟩, ?_, ?_, ?_⟩
    · exact List.isPerm_iff.mp (by decide +kernel)
    · decide +kernel
    · decide +kernel
  · refine ⟨⟨_, rfl⟩, ?_, ?_, ?_⟩
    · exact List.isPerm_iff.mp (by decide +kernel)
    · decide +kernel
    · decide +kernel
theorem at_iota {n : Nat} {ix : List Nat} (h : ∀ i ∈ ix, i < n) : Kc.atIx (Kc.iota n) ix = (ix.map fun (i : Nat) => (i : Int)).map V.int := by
  unfold Kc.atIx
  rw [List.map_map]
  refine List.map_congr_left fun i hi => ?_
  have := h i hi
  unfold Kc.iota
  rw [List.getD_eq_getElem?_getD, List.getElem?_map, List.getElem?_range this]
  rfl
def spSubs : Sp := fun vs H Q _ => ∃ n : Nat, vs = [.int (n : Int)] ∧ (n = 3 ∨ n = 4) ∧ ∀ (H' : Hp) (D : Addr) (Ts : List Addr), Same H H' → H D = none → H' D = some (.lst (Ts.map V.ref)) → RowT H' Ts (ksV (subsI n)) → Q (.ref D) H'
section
variable {P : Program} {w : World} {K : PySem.W.Frag} {mg : Str → Option Value} {base : Heap}
theorem ok_subsets {f : Addr} {fd : FuncData} (F : Fun K "subsets" "subsets" sp_subsets f fd) (T : Bt mg) (mC : mg "combinations" = some (.type Kc.TC)) : FnOk P w K mg base CX0 1 f fd ["end"] spSubs := by
  refine F.ok cp_subsets (fun vs H Q E h => ?_) (fun cdv A outer s H vs Q E hr h => ?_)
  · obtain ⟨_, rfl, _⟩ := h
    rfl
  · obtain ⟨n, rfl, hn, k⟩ := h
    refine ⟨_, pss_one (ps_ret (pe_callB (Kx.cr_sortedE hr.units) (by rfl) T.sorted (by decide +kernel) (pa_cons (pe_lc2 (own := [("size", 1), ("lot", 2)]) (vs1 := [2]) (g := gName 1) (tt := tYes) (g1 := gName 2) (tt1 := tYes) (wi1 := Kc.iCombG (tRg1 (tVar 0)) 1) rfl cp_subsets.nd
      (pi_range1 rfl T.range (pa_cons (pe_op op_add (pv 0) pe_int) pa_nil)) (blkOk_by (N := ["end", "size", "lot"]) (sc := defScope sp_subsets) (by decide +kernel)) (by decide) (fun _ _ _ _ _ => pg_name (i := 1) cp_subsets.nd rfl (Or.inl rfl)) (fun _ _ _ _ _ => pts_nil)
      (fun _ _ _ _ _ => Kc.pi_combG (i := 1) rfl (by rfl) mC (prg_1 (by rfl) T.range (pv 0))) (fun _ _ _ _ _ => pg_name (i := 2) cp_subsets.nd rfl (Or.inl rfl)) (fun _ _ _ _ _ => pts_nil) (fun _ _ _ _ _ => pv 2)) pa_nil))), ?_⟩
    obtain ⟨⟨rest, e0⟩, pm, asc, few⟩ := subs_facts hn
    have n4 : n ≤ 4 := by omega
    refine ⟨_, rfl, _, _, rfl, rfl, ((n + 1 : Nat) : Int), rfl, by omega, by omega, fun R hR => ?_⟩
    refine loop_of (walk_range (lo := 0) (n := n + 1)) (fun i H' => Same H H' ∧ ∃ Ts : List Addr, H' R = some (.lst (Ts.map V.ref)) ∧ RowT H' Ts (ksV (rawI n i))) ⟨same_new hR, [], upd_same, rfl, fun i T vs a _ => by cases a⟩ (fun _ _ _ _ => trivial) ?_ ?_
    · rintro i v H1 _ hi ⟨s1, Ts, hT, row⟩ ⟨rfl, rfl⟩
      show gName 1 (V.int (0 + (i : Int))) _ _ _
      rw [Int.zero_add]
      have G := Kc.goesG n4 (show i ≤ 4 by omega)
      refine ⟨rfl, ?_⟩
      refine ⟨_, rfl, _, rfl, n, i, rfl, rfl, n4, by omega, rfl, ?_⟩
      refine loop_of (Kc.walk_comb (xs := Kc.iota n) (L := Kc.ixsG i n)) (fun j H' => Same H H' ∧ ∃ Ts : List Addr, H' R = some (.lst (Ts.map V.ref)) ∧ RowT H' Ts (ksV (rawI n i ++ ((Kc.ixsG i n).take j).map fun ix => ix.map fun (i : Nat) => (i : Int))))
        ⟨s1, Ts, hT, by rw [List.take_zero, List.map_nil, List.append_nil]; exact row⟩ (fun _ _ _ _ => trivial) ?_ ?_
      · rintro j v H2 _ hj ⟨s2, Us, hU, row2⟩ ⟨T0, ix, rfl, nT, hix, rfl⟩
        have lt := (G.len ix (List.mem_of_getElem? hix)).2
        rw [at_iota lt]
        have e3 : Same H2 (upd H2 T0 (.tup ((ix.map fun (i : Nat) => (i : Int)).map V.int))) := same_new nT
        have hT3 : upd H2 T0 (.tup ((ix.map fun (i : Nat) => (i : Int)).map V.int)) T0 = some (.tup ((ix.map fun (i : Nat) => (i : Int)).map V.int)) := upd_same
        generalize upd H2 T0 (.tup ((ix.map fun (i : Nat) => (i : Int)).map V.int)) = H3 at e3 hT3 ⊢
        have hU3 := e3 _ _ hU
        have row3 := (row2.same e3).snoc hT3
        have lU : Us.length ≤ 16 := by
          have h1 := row2.1
          have h2 := few (i + 1) (by omega)
          rw [raw_next, List.length_append, List.length_map] at h2
          unfold ksV at h1
          rw [List.length_map, List.length_append, List.length_map, List.length_take] at h1
          omega
        refine ⟨rfl, _, rfl, _, hU3, by rw [List.length_map, sizeLine_eq]; omega, same_over (s2.trans e3) hR, Us ++ [T0], by rw [upd_same, List.map_append]; rfl, ?_⟩
        have e : ksV (rawI n i ++ ((Kc.ixsG i n).take (j + 1)).map fun ix => ix.map fun (i : Nat) => (i : Int)) = ksV (rawI n i ++ ((Kc.ixsG i n).take j).map fun ix => ix.map fun (i : Nat) => (i : Int)) ++ [(ix.map fun (i : Nat) => (i : Int)).map V.int] := by
          unfold ksV
          rw [take_next hix]
          simp
        rw [e]
        exact row3.keep hU3
      · rintro H2 ⟨s2, Us, hU, row2⟩
        rw [List.take_length, ← raw_next] at row2
        exact ⟨s2, Us, hU, row2⟩
    · rintro H1 ⟨s1, Ts, hT, row⟩
      rw [e0] at row pm
      refine srt_ints hT row pm asc fun D Us nD row2 => ?_
      exact k _ D Us (s1.trans (same_new nD)) (same_none s1 nD) upd_same (row2.same (same_new nD))
end
end Wd
end
section
set_option maxRecDepth 100000
set_option maxHeartbeats 4000000
namespace Kx
open PySem PySem.Spec PyProof.Rows L2
/-- x < y, both alike data -/
def rLtD (K : PySem.W.Frag) : R2 := fun x y H Q => ∃ d e, Dp K H x d ∧ Dp K H y e ∧ PySem.W.alike d e = true ∧ d ≠ .none ∧ d.depth ≤ 60 ∧ Q (.bl (PySem.W.dataLt d e)) H
theorem op_ltD {X : Cx} (hu : X.A.units + 64 < cLine) : OpR X (compareOp .Lt) (rLtD X.K) := by
  intro pins s σ H x y v u Q I rx ry h
  obtain ⟨d, e, hd, he, al, nn, dp, q⟩ := h
  obtain ⟨as, r1⟩ := Dp.reads I d x v hd rx
  obtain ⟨bs, r2⟩ := Dp.reads I e y u he ry
  exact PySem.W.lt_data r1 r2 al nn (by omega) ⟨.bl _, H, I, rfl, q⟩
end Kx
end
section
set_option maxRecDepth 100000
set_option maxHeartbeats 4000000
namespace Wd
open PySem L2
theorem eqv_pd (p q : Pr) : PyData.eqv (pd p) (pd q) = decide (p = q) := by
  unfold pd
  rw [PyData.eqv, PyData.eqvAll, PyData.eqvAll, PyData.eqvAll, PyData.eqv, PyData.eqv]
  by_cases h : p.1 = q.1
  · by_cases h' : p.2 = q.2
    · rw [decide_eq_true (Prod.ext h h')]
      simp [h, h']
    · rw [decide_eq_false fun z => h' (by rw [z])]
      simp [h']
  · rw [decide_eq_false fun z => h (by rw [z])]
    simp [h]
theorem eqv_all {α : Type} [DecidableEq α] {d : α → PyData} (h : ∀ x y, PyData.eqv (d x) (d y) = decide (x = y)) : ∀ ps qs : List α, PyData.eqvAll (ps.map d) (qs.map d) = decide (ps = qs)
  | [], [] => rfl
  | [], y :: ys => rfl
  | x :: xs, [] => rfl
  | x :: xs, y :: ys => by
    rw [List.map_cons, List.map_cons, PyData.eqvAll, eqv_all h xs ys, h]
    by_cases h : x = y
    · subst h
      by_cases h' : xs = ys <;> simp [h']
    · simp [h]
theorem eqv_pdL (ps qs : List Pr) : PyData.eqv (pdL ps) (pdL qs) = decide (ps = qs) := by
  unfold pdL
  rw [PyData.eqv, eqv_all eqv_pd]
theorem eqv_mn (m n : Mn) : PyData.eqv (mnD m) (mnD n) = decide (m = n) := by
  have e : PyData.eqv (mnD m) (mnD n) = (PyData.eqvAll (m.1.map PyData.int) (n.1.map PyData.int) && (PyData.eqv (.str (wordS m.2)) (.str (wordS n.2)) && true)) := by simp only [mnD, PyData.eqv, PyData.eqvAll]
  rw [e, eqv_all (d := PyData.int) (fun x y => by simp only [PyData.eqv]; exact Bool.eq_iff_iff.mpr (by simp)), str_eqv]
  have wi : wordS m.2 = wordS n.2 → m.2 = n.2 := by
    cases m.2 <;> cases n.2 <;> first | (intro _; rfl) | (intro z; revert z; decide)
  refine Bool.eq_iff_iff.mpr ?_
  simp only [Bool.and_eq_true, decide_eq_true_eq, and_true]
  exact ⟨fun z => Prod.ext z.1 (wi z.2), fun z => by rw [z]; exact ⟨rfl, rfl⟩⟩
def mnsD (ms : List Mn) : PyData := .list (ms.map mnD)
theorem eqv_mns (ms ns : List Mn) : PyData.eqv (mnsD ms) (mnsD ns) = decide (ms = ns) := by
  unfold mnsD
  rw [PyData.eqv, eqv_all eqv_mn]
theorem lay_mn {m : Mn} (h : m.1 ∈ allK) : PyData.canLay0 (mnD m) = true ∧ PyData.depth (mnD m) ≤ 2 := by
  have a : (allK.all fun ks => [false, true].all fun b => PyData.canLay0 (mnD (ks, b)) && decide (PyData.depth (mnD (ks, b)) ≤ 2)) = true := by decide +kernel
  have q := List.all_eq_true.mp (List.all_eq_true.mp a m.1 h) m.2 (by cases m.2 <;> decide)
  rw [Bool.and_eq_true] at q
  exact ⟨q.1, of_decide_eq_true q.2⟩
theorem lay_mns : ∀ ms : List Mn, (∀ m ∈ ms, m.1 ∈ allK) → PyData.canLayAll0 (ms.map mnD) = true ∧ PyData.depthAll (ms.map mnD) ≤ 2
  | [], _ => by simp [PyData.canLayAll0, PyData.depthAll]
  | m :: ms, h => by
    obtain ⟨h1, h2⟩ := lay_mns ms fun y hy => h y (List.mem_cons_of_mem _ hy)
    obtain ⟨e1, e2⟩ := lay_mn (h m List.mem_cons_self)
    refine ⟨by simp [PyData.canLayAll0, e1, h1], ?_⟩
    simp only [List.map_cons, PyData.depthAll]
    omega
theorem mns_shaped {ms : List Mn} (h : ∀ m ∈ ms, m.1 ∈ allK) : SeqAt.shaped (mnsD ms) = true := by
  obtain ⟨h1, h2⟩ := lay_mns ms h
  have d : PyData.depth (mnsD ms) ≤ 64 := by
    unfold mnsD
    simp only [PyData.depth]
    omega
  have l : PyData.canLay0 (mnsD ms) = true := by
    unfold mnsD
    simp only [PyData.canLay0]
    exact h1
  show (PyData.canLay0 (mnsD ms) && decide (PyData.depth (mnsD ms) ≤ 64)) = true
  rw [l, decide_eq_true d]
  rfl
/-- all the manners, ascending -/
def mn2 (ks : List Int) : List Mn := [(ks, false), (ks, true)]
def allMn : List Mn := (subsI 3).flatMap mn2
theorem allMn_mem {m : Mn} (h : m ∈ allMn) : m.1 ∈ allK := by
  have a : (allMn.all fun m => decide (m.1 ∈ allK)) = true := by decide +kernel
  exact of_decide_eq_true (List.all_eq_true.mp a m h)
theorem mn2_next (i : Nat) {ks : List Int} (h : (subsI 3)[i]? = some ks) : ((subsI 3).take (i + 1)).flatMap mn2 = ((subsI 3).take i).flatMap mn2 ++ mn2 ks := by
  rw [take_next h, List.flatMap_append]
  simp
theorem mn2_len (i : Nat) : (((subsI 3).take i).flatMap mn2).length ≤ 16 := by
  have h : ∀ l : List (List Int), (l.flatMap mn2).length = 2 * l.length := fun l => by
    induction l with
    | nil => rfl
    | cons a r ih =>
      rw [List.flatMap_cons, List.length_append, ih]
      show 2 + _ = _
      simp only [List.length_cons]
      omega
  rw [h, List.length_take]
  have : (subsI 3).length = 8 := rfl
  omega
theorem MnsR.snoc {H : Hp} {Ts : List Addr} {ms : List Mn} {T : Addr} {m : Mn} (h : MnsR H Ts ms) (e : MnAt H T m) : MnsR H (Ts ++ [T]) (ms ++ [m]) := by
  refine ⟨by rw [List.length_append, List.length_append, h.1]; rfl, fun i T' m' a b => ?_⟩
  by_cases c : i < Ts.length
  · rw [List.getElem?_append_left c] at a
    rw [List.getElem?_append_left (by rw [← h.1]; exact c)] at b
    exact h.2 i T' m' a b
  · rw [List.getElem?_append_right (by omega)] at a
    rw [List.getElem?_append_right (by rw [← h.1]; omega), ← h.1] at b
    cases hq : i - Ts.length with
    | zero =>
      rw [hq] at a b
      obtain rfl := Option.some.inj a
      obtain rfl := Option.some.inj b
      exact e
    | succ q =>
      rw [hq] at a
      cases a
theorem MnsR.nil {H : Hp} : MnsR H [] [] := ⟨rfl, fun i T m a _ => by cases a⟩
theorem MnsR.keep {H : Hp} {Ts : List Addr} {ms : List Mn} {R : Addr} {xs ys : List V} (h : MnsR H Ts ms) (hR : H R = some (.lst xs)) : MnsR (upd H R (.lst ys)) Ts ms :=
  ⟨h.1, fun i T m a b => (h.2 i T m a b).sameX SameX.upd hR⟩
/-- manners in a list -/
def MnsL (H : Hp) (D : Addr) (ms : List Mn) : Prop := ∃ Ts : List Addr, H D = some (.lst (Ts.map V.ref)) ∧ MnsR H Ts ms
theorem MnsL.same {H H' : Hp} {D : Addr} {ms : List Mn} (h : MnsL H D ms) (s : Same H H') : MnsL H' D ms := by
  obtain ⟨Ts, a, b⟩ := h
  exact ⟨Ts, s _ _ a, b.same s⟩
def spAllMn : Sp := fun vs H Q _ => vs = [] ∧ ∀ (H' : Hp) (D : Addr), Same H H' → H D = none → MnsL H' D allMn → Q (.ref D) H'
def spAscP : Sp := fun vs H Q _ => ∃ (d : Addr) (zs : List Pr), vs = [.ref d] ∧ PwAt H d zs ∧ zs.Pairwise LtP ∧ zs.length ≤ 60 ∧ ∀ H', Same H H' → Q (.bl true) H'
def spArePs (C : Addr) : Sp := fun vs H Q _ => ∃ (c d : Addr) (xs : List Str) (ps zs : List Pr), vs = [.ref c, .ref d] ∧ CAt C H c xs ps ∧ Good xs ps ∧ PwAt H d zs ∧ Good xs zs ∧ ∀ H', Same H H' → Q (.bl true) H'
def mnsL (xs : List Str) (ps zs : List Pr) : List Mn := allMn.filter fun m => decide (letL xs ps m = zs)
def spMnL (C : Addr) : Sp := fun vs H Q _ => ∃ (c d : Addr) (xs : List Str) (ps zs : List Pr), vs = [.ref c, .ref d] ∧ CAt C H c xs ps ∧ Good xs ps ∧ PwAt H d zs ∧ Good xs zs ∧ ∀ (H' : Hp) (D : Addr), Same H H' → H D = none → MnsL H' D (mnsL xs ps zs) → Q (.ref D) H'
section
variable {P : Program} {w : World} {K : PySem.W.Frag} {mg : Str → Option Value} {base : Heap}
theorem ok_is_ascP {f : Addr} {fd : FuncData} (F : Fun K "is_ascending" "is_ascending" sp_is_ascending f fd) (T : Bt mg) : FnOk P w K mg base CX0 1 f fd ["things"] spAscP := by
  refine F.ok cp_is_ascending (fun vs H Q E h => ?_) (fun cdv A outer s H vs Q E hr h => ?_)
  · obtain ⟨_, _, rfl, _⟩ := h
    rfl
  · obtain ⟨d, zs, rfl, ⟨Ts, hd, tu⟩, asc, few, k⟩ := h
    refine ⟨_, pss_one (ps_ret (pe_callB (cr_all rfl) (by rfl) T.all (by decide +kernel) (pa_cons (pe_lc (own := [("one", 1), ("other", 2)]) (g := gTup K 2 (gCons (gName 1) (gCons (gName 2) gNil))) (tt := tYes) rfl cp_is_ascending.nd (RZ.pi_zipA (by rfl) T.zip (pa_cons (pv 0) (pa_cons (pe_slice sl_list (pv 0) (po_some pe_int) po_none) pa_nil)))
      (blkOk_by (N := ["things", "one", "other"]) (sc := defScope sp_is_ascending) (by decide +kernel)) (fun _ _ _ _ _ => pg_tup rfl (pgs_cons (pg_name (i := 1) cp_is_ascending.nd rfl (Or.inl rfl)) (pgs_cons (pg_name (i := 2) cp_is_ascending.nd rfl (Or.inl rfl)) pgs_nil))) (fun _ _ _ _ _ => pts_nil)
      (fun _ _ _ _ _ => pe_cmpR (r := Kx.rLtD K) (Kx.op_ltD hr.units) (pv 1) (pv 2) (nomark _))) pa_nil))), ?_⟩
    have lT : Ts.length = zs.length := by rw [tu.1, List.length_map]
    have cut : cutV (Ts.map V.ref) (some 1) none = (Ts.drop 1).map V.ref := by
      rw [List.map_drop]
      exact cutV_hi (Ts.map V.ref) 1
    refine ⟨_, rfl, _, rfl, 1, rfl, d, _, rfl, SqL.of hd, fun Y hY => ?_⟩
    rw [cut]
    have s1 := same_new (o := .lst ((Ts.drop 1).map V.ref)) hY
    have hY1 : upd H Y (.lst ((Ts.drop 1).map V.ref)) Y = some (.lst ((Ts.drop 1).map V.ref)) := upd_same
    generalize upd H Y (.lst ((Ts.drop 1).map V.ref)) = H1 at s1 hY1 ⊢
    have hd1 := s1 _ _ hd
    have tu1 := tu.same s1
    refine ⟨d, Y, _, _, rfl, .inl ⟨SqL.of hd1, SqL.of hY1, fun R hR => ?_⟩⟩
    refine lc_it (walk_zip (K := K) (xs := Ts.map V.ref) (ys := (Ts.drop 1).map V.ref) (n := (Ts.drop 1).length) (by rw [List.length_map, List.length_map, List.length_drop]; omega)) (fun i H' => Same H1 H' ∧ H' R = some (.lst (trues i))) ⟨same_new hR, upd_same⟩ (fun i H' _ z => ⟨SqL.of (z.1 _ _ hd1), SqL.of (z.1 _ _ hY1)⟩) ?_ ?_
    · rintro i v H2 H3 hi ⟨s2, hr2⟩ ⟨T0, x1, x2, rfl, nT, rfl, ep, eq⟩
      have ep : (Ts.map V.ref)[i]? = some x1 := ep
      have eq : ((Ts.drop 1).map V.ref)[i]? = some x2 := eq
      rw [List.getElem?_map] at ep eq
      obtain ⟨a, ha, rfl⟩ := Option.map_eq_some_iff.mp ep
      obtain ⟨b, hb, rfl⟩ := Option.map_eq_some_iff.mp eq
      rw [List.getElem?_drop] at hb
      have ia := (List.getElem?_eq_some_iff.mp ha).1
      have ib := (List.getElem?_eq_some_iff.mp hb).1
      obtain ⟨p, hp⟩ : ∃ p, zs[i]? = some p := ⟨_, List.getElem?_eq_getElem (by omega)⟩
      obtain ⟨q, hq⟩ : ∃ q, zs[1 + i]? = some q := ⟨_, List.getElem?_eq_getElem (by omega)⟩
      have lt : LtP p q := by
        obtain ⟨ja, ea⟩ := List.getElem?_eq_some_iff.mp hp
        obtain ⟨jb, eb⟩ := List.getElem?_eq_some_iff.mp hq
        rw [← ea, ← eb]
        exact List.pairwise_iff_getElem.mp asc i (1 + i) ja jb (by omega)
      have e3 : Same H2 (upd H2 T0 (.tup [.ref a, .ref b])) := same_new nT
      have ta := (s2.trans e3) _ _ (tu1.2 i a (tv p) ha (by rw [List.getElem?_map, hp]; rfl))
      have tb := (s2.trans e3) _ _ (tu1.2 (1 + i) b (tv q) hb (by rw [List.getElem?_map, hq]; rfl))
      refine ⟨T0, _, rfl, SqT.of upd_same, rfl, _, _, rfl, _, _, rfl, rfl, rfl, ?_⟩
      refine ⟨_, rfl, _, rfl, pd p, pd q, dp_pair (SqT.of ta), dp_pair (SqT.of tb), pd_alike p q, (fun z => nomatch z), by simp [pd, PyData.depth, PyData.depthAll], _, e3 _ _ hr2, ?_, same_over (s2.trans e3) hR, ?_⟩
      · rw [trues_len, sizeLine_eq]
        rw [List.length_drop] at hi
        omega
      · rw [upd_same, pd_lt, decide_eq_true lt, trues_next]
    · rintro H2 ⟨s2, hr2⟩
      refine ⟨R, _, rfl, SqL.of hr2, ?_⟩
      rw [trues_all]
      exact k H2 (s1.trans s2)
theorem ok_are_asc_pairs {f C : Addr} {fd : FuncData} (F : Fun K "are_ascending_pairs" "are_ascending_pairs" sp_are_ascending_pairs f fd) (T : Bt mg) (TC : CT K mg C) (MP : HasM P w K mg base C 1 "people" (spPplM C)) (CP : Has P w K mg base 1 "is_pair_of" ["people", "value"] spPairOf)
    (CA : Has P w K mg base 1 "is_ascending" ["things"] spAscP) : FnOk P w K mg base CX0 2 f fd ["company", "value"] (spArePs C) := by
  obtain ⟨fP, fdP, GP, mP, bP⟩ := MP
  obtain ⟨f1, d1, G1, m1, k1, b1⟩ := CP
  obtain ⟨f2, d2, G2, m2, k2, b2⟩ := CA
  refine F.ok cp_are_ascending_pairs (fun vs H Q E h => ?_) (fun cdv A outer s H vs Q E hr h => ?_)
  · obtain ⟨_, _, _, _, _, rfl, _⟩ := h
    rfl
  · obtain ⟨c, d, xs, ps, zs, rfl, hc, g, ⟨Ts, hd, tu⟩, gz, k⟩ := h
    refine ⟨_, pss_cons (ps_if (pt_not (pt_val (pe_callB call_isi (by rfl) T.isi (by decide +kernel) (pa_cons (pv 1) (pa_cons (pe_bltn (v := .ty "list") (by rfl) T.list (by decide +kernel) rfl) pa_nil))))) (pss_one (ps_ret pe_bl)) pss_nil)
      (pss_cons (ps_set (i := 2) cp_are_ascending_pairs.nd rfl (Or.inr rfl) (pe_meth0 (pv 0) TC.is.cl mP GP hr bP .nil pass0))
      (pss_one (ps_ret (pe_and (pe_callB (cr_all rfl) (by rfl) T.all (by decide +kernel) (pa_cons (pe_lc (own := [("pair", 3)]) (g := gName 3) (tt := tYes) rfl cp_are_ascending_pairs.nd (pi_list (pv 1))
          (blkOk_by (N := ["company", "value", "people", "pair"]) (sc := defScope sp_are_ascending_pairs) (by decide +kernel)) (fun _ _ _ _ _ => pg_name (i := 3) cp_are_ascending_pairs.nd rfl (Or.inl rfl)) (fun _ _ _ _ _ => pts_nil)
          (fun _ _ _ _ _ => pe_call G1 hr rfl m1 k1 b1 .nil pass0 (pa_cons (pv 2) (pa_cons (pv 3) pa_nil)))) pa_nil))
        (pe_one (pe_call G2 hr rfl m2 k2 b2 .nil pass0 (pa_cons (pv 1) pa_nil))))))), ?_⟩
    obtain ⟨dx, a, b, h1, h2, h3⟩ := id hc
    have l9 := g.few
    have lz := gz.len
    have lT : Ts.length = zs.length := by rw [tu.1, List.length_map]
    refine ⟨_, rfl, _, _, _, _, _, rfl, .ty "list", .base (.lst hd), kit_ty (a := "list") (r := true) (by decide +kernel), _, rfl, ?_⟩
    refine iteF ?_
    refine ⟨_, rfl, c, dx, _, rfl, h1, cF_no a b (by decide +kernel) (by decide +kernel), c, xs, ps, rfl, hc, by omega, fun L hL => ?_⟩
    have s1 : Same H (upd H L (.lst (xs.map V.str))) := same_new hL
    have hL1 : upd H L (.lst (xs.map V.str)) L = some (.lst (xs.map V.str)) := upd_same
    generalize upd H L (.lst (xs.map V.str)) = H1 at s1 hL1 ⊢
    have hd1 := s1 _ _ hd
    have tu1 := tu.same s1
    refine ⟨_, rfl, d, rfl, ⟨_, SqL.of hd1⟩, fun D hD => ?_⟩
    refine lc_list (xs := Ts.map V.ref) (fun i H' => H' D = some (.lst (trues i)) ∧ Same H1 H') ⟨upd_same, same_new hD⟩ (fun i H' _ h => SqL.of (h.2 _ _ hd1)) ?_ ?_
    · rintro i v H' hv ⟨hd', s2⟩
      rw [List.getElem?_map] at hv
      obtain ⟨U, hU, rfl⟩ := Option.map_eq_some_iff.mp hv
      have il := (List.getElem?_eq_some_iff.mp hU).1
      obtain ⟨p, hp⟩ : ∃ p, zs[i]? = some p := ⟨_, List.getElem?_eq_getElem (by omega)⟩
      have mp := gz.of _ (List.mem_of_getElem? hp)
      have e1 := s2 _ _ (tu1.2 i U (tv p) hU (by rw [List.getElem?_map, hp]; rfl))
      refine ⟨rfl, _, rfl, _, rfl, L, U, xs, p, rfl, s2 _ _ hL1, e1, mp.1, mp.2.1, mp.2.2, ?_⟩
      refine ⟨_, hd', by rw [trues_len, sizeLine_eq]; omega, ?_, same_over s2 hD⟩
      rw [upd_same, trues_next]
    · rintro H' ⟨hd', s2⟩
      refine ⟨D, _, rfl, SqL.of hd', ?_⟩
      rw [trues_all]
      refine ⟨_, rfl, iteT ?_⟩
      exact ⟨_, rfl, d, zs, rfl, ⟨Ts, s2 _ _ hd1, tu1.same s2⟩, gz.ascP, by omega, fun H2 s3 => k H2 ((s1.trans s2).trans s3)⟩
theorem ok_all_manners {f kd wd : Addr} {fd : FuncData} (F : Fun K "all_manners" "all_manners" sp_all_manners f fd) (T : Bt mg) (mK : mg "KINDS" = some (.ref kd)) (hK : KT K kd) (mW : mg "WORDS" = some (.ref wd)) (hW : WT K wd) (CS : Has P w K mg base 1 "subsets" ["end"] spSubs) :
    FnOk P w K mg base CX0 2 f fd [] spAllMn := by
  obtain ⟨f1, d1, G1, m1, k1, b1⟩ := CS
  refine F.ok cp_all_manners (fun vs H Q E h => ?_) (fun cdv A outer s H vs Q E hr h => ?_)
  · obtain ⟨rfl, _⟩ := h
    rfl
  · obtain ⟨rfl, k⟩ := h
    refine ⟨_, pss_one (ps_ret (pe_lc2 (own := [("kinds", 0), ("word", 1)]) (vs1 := [1]) (g := gName 0) (tt := tYes) (g1 := gName 1) (tt1 := tYes) (wi1 := iTup K (tC (.ref wd))) rfl cp_all_manners.nd
      (pi_list (pe_call G1 hr rfl m1 k1 b1 .nil pass0 (pa_cons (pe_callB call_len_seq (by rfl) T.len PySem.boot_len (pa_cons (C8.pe_gc (v := .ref kd) rfl ⟨_, mK, rfl⟩) pa_nil)) pa_nil))) (blkOk_by (N := ["kinds", "word"]) (sc := defScope sp_all_manners) (by decide +kernel)) (by decide)
      (fun _ _ _ _ _ => pg_name (i := 0) cp_all_manners.nd rfl (Or.inl rfl)) (fun _ _ _ _ _ => pts_nil) (fun _ _ _ _ _ => pi_tup (C8.pe_gc (v := .ref wd) rfl ⟨_, mW, rfl⟩)) (fun _ _ _ _ _ => pg_name (i := 1) cp_all_manners.nd rfl (Or.inl rfl)) (fun _ _ _ _ _ => pts_nil)
      (fun _ _ _ _ _ => pe_tup (pa_cons (pv 0) (pa_cons (pv 1) pa_nil))))), ?_⟩
    refine ⟨kd, _, rfl, .inr (hK _), 3, rfl, .inl rfl, fun H1 S Ts s1 nS hS row => ?_⟩
    have l8 : Ts.length = 8 := row.1
    refine ⟨S, rfl, ⟨_, SqL.of hS⟩, fun R hR => ?_⟩
    refine loop_of (walk_list (K := K) (a := S) (xs := Ts.map V.ref)) (fun i H' => Same H1 H' ∧ MnsL H' R (((subsI 3).take i).flatMap mn2)) ⟨same_new hR, [], upd_same, MnsR.nil⟩ (fun i H' _ z => SqL.of (z.1 _ _ hS)) ?_ ?_
    · rintro i v H2 _ hi ⟨s2, mn⟩ ⟨rfl, hv⟩
      rw [List.getElem?_map] at hv
      obtain ⟨u, hu, rfl⟩ := Option.map_eq_some_iff.mp hv
      rw [List.length_map] at hi
      obtain ⟨ks, hk⟩ : ∃ ks, (subsI 3)[i]? = some ks := ⟨_, List.getElem?_eq_getElem (by rw [show (subsI 3).length = 8 from rfl]; omega)⟩
      have eu := row.2 i u _ hu (by unfold ksV; rw [List.getElem?_map, hk]; rfl)
      refine ⟨rfl, wd, rfl, ⟨_, hW _⟩, ?_⟩
      refine loop_of (walk_tup (K := K) (a := wd) (xs := [V.str ("even" : Str), .str ("odd" : Str)])) (fun j H' => Same H1 H' ∧ MnsL H' R (((subsI 3).take i).flatMap mn2 ++ (mn2 ks).take j)) ⟨s2, by rw [List.take_zero, List.append_nil]; exact mn⟩ (fun j H' _ z => hW _) ?_ ?_
      · rintro j x _ H3 hj ⟨s3, Us, hU, ur⟩ ⟨rfl, hx⟩
        have hw : ∃ b, x = .str (wordS b) ∧ (mn2 ks)[j]? = some (ks, b) := by
          match j, hx with
          | 0, hx => exact ⟨false, (Option.some.inj hx).symm, rfl⟩
          | 1, hx => exact ⟨true, (Option.some.inj hx).symm, rfl⟩
          | j + 2, hx => cases hx
        obtain ⟨b, rfl, hb⟩ := hw
        refine ⟨rfl, _, rfl, _, rfl, by show 2 ≤ sizeLine; decide, fun Z hZ => ?_⟩
        have e4 := same_new (o := .tup [V.ref u, .str (wordS b)]) hZ
        have hZ4 : upd H3 Z (.tup [V.ref u, .str (wordS b)]) Z = some (.tup [V.ref u, .str (wordS b)]) := upd_same
        generalize upd H3 Z (.tup [V.ref u, .str (wordS b)]) = H4 at e4 hZ4 ⊢
        have hU4 := e4 _ _ hU
        have r4 := (ur.same e4).snoc (T := Z) (m := (ks, b)) ⟨u, hZ4, (s3.trans e4) _ _ eu⟩
        refine ⟨_, hU4, ?_, same_over (s3.trans e4) hR, Us ++ [Z], by rw [upd_same, List.map_append]; rfl, ?_⟩
        · have h1 := ur.1
          have h2 := mn2_len i
          rw [List.length_append, List.length_take] at h1
          have h3 : (mn2 ks).length = 2 := rfl
          rw [List.length_map, sizeLine_eq]
          omega
        · rw [take_next hb, ← List.append_assoc]
          exact r4.keep hU4
      · rintro H3 ⟨s3, mn3⟩
        rw [show (mn2 ks).take [V.str ("even" : Str), .str ("odd" : Str)].length = mn2 ks from rfl, ← mn2_next i hk] at mn3
        exact ⟨s3, mn3⟩
    · rintro H2 ⟨s2, mn⟩
      rw [List.length_map, l8] at mn
      exact k H2 R (s1.trans s2) (same_none s1 hR) mn
theorem ok_manners_letting {f C : Addr} {fd : FuncData} (F : Fun K "manners_letting" "manners_letting" sp_manners_letting f fd) (CC : Has P w K mg base 1 "check_company" ["company"] (spChk C)) (CA : Has P w K mg base 2 "are_ascending_pairs" ["company", "value"] (spArePs C))
    (CM : Has P w K mg base 2 "all_manners" [] spAllMn) (CL : Has P w K mg base 4 "pairs_let" ["company", "manner"] (spPLet C)) : FnOk P w K mg base CX0 5 f fd ["company", "pairs"] (spMnL C) := by
  obtain ⟨f1, d1, G1, m1, k1, b1⟩ := CC
  obtain ⟨f2, d2, G2, m2, k2, b2⟩ := CA
  obtain ⟨f3, d3, G3, m3, k3, b3⟩ := CM
  obtain ⟨f4, d4, G4, m4, k4, b4⟩ := CL
  refine F.ok cp_manners_letting (fun vs H Q E h => ?_) (fun cdv A outer s H vs Q E hr h => ?_)
  · obtain ⟨_, _, _, _, _, rfl, _⟩ := h
    rfl
  · obtain ⟨c, d, xs, ps, zs, rfl, hc, g, hd, gz, k⟩ := h
    have hr1 : Room 1 _ := hr.mono (by decide)
    have hr2 : Room 2 _ := hr.mono (by decide)
    refine ⟨_, pss_cons (ps_expr (pe_call G1 hr1 rfl m1 k1 b1 .nil pass0 (pa_cons (pv 0) pa_nil)))
      (pss_cons (ps_if (pt_not (pt_val (pe_call G2 hr2 rfl m2 k2 b2 .nil pass0 (pa_cons (pv 0) (pa_cons (pv 1) pa_nil))))) (pss_one ps_never) pss_nil)
      (pss_one (ps_ret (pe_lc (own := [("manner", 2)]) (g := gName 2) rfl cp_manners_letting.nd (pi_list (pe_call0 G3 hr2 rfl m3 k3 b3 .nil pass0))
        (blkOk_by (N := ["company", "pairs", "manner"]) (sc := defScope sp_manners_letting) (by decide +kernel)) (fun _ _ _ _ _ => pg_name (i := 2) cp_manners_letting.nd rfl (Or.inl rfl))
        (fun _ _ _ _ _ => pts_one (pt_cmpR (r := rEqD K) (op_eqD hr.units) (pe_call G4 hr rfl m4 k4 b4 .nil pass0 (pa_cons (pv 0) (pa_cons (pv 2) pa_nil))) (pv 1) (nomark _))) (fun _ _ _ _ _ => pv 2))))), ?_⟩
    obtain ⟨dx, a, b, h1, h2, h3⟩ := id hc
    refine ⟨_, rfl, c, dx, _, rfl, h1, ?_⟩
    refine ⟨_, rfl, _, rfl, c, d, xs, ps, zs, rfl, hc, g, hd, gz, fun H1 s1 => ⟨_, rfl, iteF ?_⟩⟩
    refine ⟨rfl, fun H2 S s2 nS ⟨Ts, hS, row⟩ => ?_⟩
    have s02 := s1.trans s2
    refine ⟨S, rfl, ⟨_, SqL.of hS⟩, fun R hR => ?_⟩
    refine lc_list (xs := Ts.map V.ref) (fun i H' => Same H2 H' ∧ MnsL H' R ((allMn.take i).filter fun m => decide (letL xs ps m = zs))) ⟨same_new hR, [], upd_same, MnsR.nil⟩ (fun i H' _ z => SqL.of (z.1 _ _ hS)) ?_ ?_
    · rintro i v H3 hv ⟨s3, Us, hU, ur⟩
      rw [List.getElem?_map] at hv
      obtain ⟨u, hu, rfl⟩ := Option.map_eq_some_iff.mp hv
      have il := (List.getElem?_eq_some_iff.mp hu).1
      have l16 : allMn.length = 16 := rfl
      have lr := row.1
      obtain ⟨m, hm⟩ : ∃ m, allMn[i]? = some m := ⟨_, List.getElem?_eq_getElem (by omega)⟩
      have mt := row.2 i u m hu hm
      have s03 := s02.trans s3
      refine ⟨rfl, _, rfl, _, rfl, c, u, xs, ps, m, rfl, hc.same s03, g, mt.same s3, fun H4 E s4 nE ⟨Es, hE, te⟩ => ?_⟩
      obtain ⟨Zs, hz, tz⟩ := hd.same (s03.trans s4)
      have gl : Good xs (letL xs ps m) := ⟨g.asc, g.word, g.few, List.filter_sublist⟩
      refine ⟨_, rfl, pdL (letL xs ps m), pdL zs, dp_pdL (SqL.of hE) te, dp_pdL (SqL.of hz) tz, pdL_shaped gl.wp, pdL_shaped gz.wp, _, rfl, ?_⟩
      rw [eqv_pdL]
      have nx : (allMn.take (i + 1)).filter (fun m => decide (letL xs ps m = zs)) = (allMn.take i).filter (fun m => decide (letL xs ps m = zs)) ++ (if decide (letL xs ps m = zs) = true then [m] else []) := filter_next hm
      have hU4 := s4 _ _ hU
      have u4 := ur.same s4
      refine ite2 (fun hb => ?_) (fun hb => ?_)
      · refine ⟨_, rfl, _, hU4, ?_, same_over (s3.trans s4) hR, Us ++ [u], by rw [upd_same, List.map_append]; rfl, ?_⟩
        · have h1 := ur.1
          have h2 := List.length_filter_le (fun m => decide (letL xs ps m = zs)) (allMn.take i)
          rw [List.length_take] at h2
          rw [List.length_map, sizeLine_eq]
          omega
        · rw [nx, if_pos hb]
          exact (u4.snoc (mt.same (s3.trans s4))).keep hU4
      · refine ⟨s3.trans s4, Us, hU4, ?_⟩
        rw [nx, if_neg hb, List.append_nil]
        exact u4
    · rintro H3 ⟨s3, mn⟩
      rw [List.length_map, row.1, List.take_length] at mn
      exact k H3 R (s02.trans s3) (same_none s02 hR) mn
end
end Wd
end
section
set_option maxRecDepth 100000
set_option maxHeartbeats 4000000
namespace Wd
open PySem L2
/-! the law's lists of third people by kinds -/
def klK (ps : List Pr) (Ls : List Addr) : List (List Key × V) := (ps.zip Ls).map fun q => (pk q.1, V.ref q.2)
theorem klK_get : ∀ {ps : List Pr} {Ls : List Addr} {i : Nat} {p : Pr} {L : Addr}, ps.Nodup → ps[i]? = some p → Ls[i]? = some L → valV (klK ps Ls) (pk p) = some (.ref L)
  | [], _, _, _, _, _, h, _ => by cases h
  | _ :: _, [], _, _, _, _, _, h => by cases h
  | q :: ps, M :: Ls, 0, p, L, _, h1, h2 => by
    obtain rfl := Option.some.inj h1
    obtain rfl := Option.some.inj h2
    exact valV_pos (p := (pk q, V.ref M)) rfl
  | q :: ps, M :: Ls, i + 1, p, L, nd, h1, h2 => by
    obtain ⟨n1, n2⟩ := List.nodup_cons.mp nd
    have ne : ¬ (pk q, V.ref M).1 = pk p := fun e => n1 (by rw [show q = p from pk_inj e]; exact List.mem_of_getElem? h1)
    exact (valV_neg (p := (pk q, V.ref M)) (r := klK ps Ls) ne).trans (klK_get (ps := ps) (Ls := Ls) (i := i) n2 h1 h2)
theorem klK_none : ∀ {ps : List Pr} {Ls : List Addr} {p : Pr}, p ∉ ps → valV (klK ps Ls) (pk p) = none
  | [], _, _, _ => rfl
  | _ :: _, [], _, _ => rfl
  | q :: ps, M :: Ls, p, h => by
    have ne : ¬ (pk q, V.ref M).1 = pk p := fun e => h (by rw [show q = p from pk_inj e]; exact List.mem_cons_self)
    exact (valV_neg (p := (pk q, V.ref M)) (r := klK ps Ls) ne).trans (klK_none (ps := ps) (Ls := Ls) fun z => h (List.mem_cons_of_mem _ z))
theorem klK_snoc {ps : List Pr} {Ls : List Addr} {p : Pr} {L : Addr} (h : p ∉ ps) (l : Ls.length = ps.length) : putK (klK ps Ls) (pk p) (.ref L) = klK (ps ++ [p]) (Ls ++ [L]) := by
  rw [putK_new _ (klK_none h)]
  unfold klK
  rw [List.zip_append l.symm, List.map_append]
  rfl
theorem klK_len {ps : List Pr} {Ls : List Addr} (l : Ls.length = ps.length) : (klK ps Ls).length = ps.length := by
  unfold klK
  rw [List.length_map, List.length_zip, l, Nat.min_self]
def K3 (xs : List Str) (ps : List Pr) (H : Hp) (L : Addr) (p : Pr) : Prop := ∃ a0 a1 a2 : Addr, H L = some (.lst [.ref a0, .ref a1, .ref a2]) ∧ H a0 = some (.lst ((thL xs ps p 0).map V.str)) ∧ H a1 = some (.lst ((thL xs ps p 1).map V.str)) ∧ H a2 = some (.lst ((thL xs ps p 2).map V.str))
theorem K3.same {xs : List Str} {ps : List Pr} {H H' : Hp} {L : Addr} {p : Pr} (h : K3 xs ps H L p) (s : Same H H') : K3 xs ps H' L p := by
  obtain ⟨a, b, c, h1, h2, h3, h4⟩ := h
  exact ⟨a, b, c, s _ _ h1, s _ _ h2, s _ _ h3, s _ _ h4⟩
theorem K3.keep {xs : List Str} {ps : List Pr} {H : Hp} {L D : Addr} {p : Pr} {kvs : List (List Key × V)} {o : HO} (h : K3 xs ps H L p) (hD : H D = some (.dT kvs)) : K3 xs ps (upd H D o) L p := by
  obtain ⟨a, b, c, h1, h2, h3, h4⟩ := h
  have k : ∀ {x vs}, H x = some (.lst vs) → upd H D o x = some (.lst vs) := fun {x vs} e => by
    rw [upd_ne fun z => by
      rw [z, hD] at e
      cases e]
    exact e
  exact ⟨a, b, c, k h1, k h2, k h3, k h4⟩
def KlAt (H : Hp) (D : Addr) (xs : List Str) (ps : List Pr) (n : Nat) : Prop := ∃ Ls : List Addr, H D = some (.dT (klK ((prsS xs).take n) Ls)) ∧ Ls.length = ((prsS xs).take n).length ∧ ∀ (i : Nat) p L, ((prsS xs).take n)[i]? = some p → Ls[i]? = some L → K3 xs ps H L p
theorem KlAt.same {H H' : Hp} {D : Addr} {xs : List Str} {ps : List Pr} {n : Nat} (h : KlAt H D xs ps n) (s : Same H H') : KlAt H' D xs ps n := by
  obtain ⟨Ls, a, b, c⟩ := h
  exact ⟨Ls, s _ _ a, b, fun i p L e1 e2 => (c i p L e1 e2).same s⟩
def F3 (ps : List Pr) (p : Pr) (l : List Str) (k : Int) : List Str := l.filter fun r => decide (((kf ps p r : Nat) : Int) = k)
theorem F3_snoc (ps : List Pr) (p : Pr) (l : List Str) (x : Str) (k : Int) : F3 ps p (l ++ [x]) k = F3 ps p l k ++ if ((kf ps p x : Nat) : Int) = k then [x] else [] := by
  unfold F3
  rw [List.filter_append]
  congr 1
  by_cases h : ((kf ps p x : Nat) : Int) = k
  · rw [if_pos h]
    simp [h]
  · rw [if_neg h]
    simp [h]
theorem F3_all (xs : List Str) (ps : List Pr) (p : Pr) (k : Int) : F3 ps p (xs.filter (outF p)) k = thL xs ps p k := by
  unfold F3 thL
  rw [List.filter_filter]
  exact List.filter_congr fun r _ => Bool.and_comm _ _
theorem F3_len (ps : List Pr) (p : Pr) (l : List Str) (k : Int) : (F3 ps p l k).length ≤ l.length := List.length_filter_le _ _
def spKl : Sp := fun vs H Q _ => ∃ (a : Addr) (xs : List Str) (ps : List Pr), vs = [.ref a] ∧ WAt H a xs ps ∧ Good xs ps ∧ ∀ (H' : Hp) (D : Addr), Same H H' → H D = none → KlAt H' D xs ps (prsS xs).length → Q (.ref D) H'
section
variable {P : Program} {w : World} {K : PySem.W.Frag} {mg : Str → Option Value} {base : Heap}
theorem ok_kind_lists {f : Addr} {fd : FuncData} (F : Fun K "_law_kind_lists" "_law_kind_lists" s_kind_lists f fd) (T : Bt mg) (C1 : Has P w K mg base 1 "_law_net" ["_law_world_here"] spNet) (C2 : Has P w K mg base 1 "_law_pairs" ["_law_crowd"] spPairs)
    (C3 : Has P w K mg base 1 "_law_pair" ["_law_first", "_law_second"] spPair) : FnOk P w K mg base CX0 2 f fd ["_law_world_here"] spKl := by
  obtain ⟨f1, d1, G1, m1, k1, b1⟩ := C1
  obtain ⟨f2, d2, G2, m2, k2, b2⟩ := C2
  obtain ⟨f3, d3, G3, m3, k3, b3⟩ := C3
  refine F.ok c_kind_lists (fun vs H Q E h => ?_) (fun cdv A outer s H vs Q E hr h => ?_)
  · obtain ⟨_, _, _, rfl, _⟩ := h
    rfl
  · obtain ⟨a, xs, ps, rfl, W0, g, k⟩ := h
    have hu := hu_of hr
    refine ⟨_, pss_cons (ps_par (i := 1) (j := 2) rfl c_kind_lists.nd rfl rfl (by decide) rfl rfl (pa_cons (pe_call G1 hr rfl m1 k1 b1 .nil pass0 (pa_cons (pv 0) pa_nil)) (pa_cons pe_dnewT pa_nil)) (by rfl))
      (pss_cons (ps_for PassesOwn.never rfl (pi_list (pe_call G2 hr rfl m2 k2 b2 .nil pass0 (pa_cons (pe_ix ix_list (pv 0) pe_int (fun _ _ => rfl)) pa_nil))) (pg_name (i := 3) c_kind_lists.nd rfl (Or.inr rfl))
        (pss_cons (ps_set (i := 4) c_kind_lists.nd rfl (Or.inl rfl) (pe_lst (pa_cons (pe_lst pa_nil) (pa_cons (pe_lst pa_nil) (pa_cons (pe_lst pa_nil) pa_nil)))))
        (pss_cons (ps_for PassesOwn.never rfl (pi_list (pe_lc (own := [("_law_person", 5)]) (g := gName 5) rfl c_kind_lists.nd (pi_list (pe_ix ix_list (pv 0) pe_int (fun _ _ => rfl)))
            (blkOk_by (N := ["_law_world_here", "_law_net_here", "_law_found", "_law_pair_here", "_law_lists", "_law_person"]) (sc := defScope s_kind_lists) (by decide +kernel)) (fun _ _ _ _ _ => pg_name (i := 5) c_kind_lists.nd rfl (Or.inl rfl))
            (fun _ _ _ _ _ => pts_one (pt_cmpR (r := rIn K true) op_notIn_seq (pv 5) (pv 3) rfl)) (fun _ _ _ _ _ => pv 5))) (pg_name (i := 5) c_kind_lists.nd rfl (Or.inl rfl))
          (pss_one (ps_expr (pe_bm PySem.F.plainAttrs_list PySem.F.slot_list_append PySem.F.type_list_append mt_append (pe_ix ix_list (pv 4) (pe_op op_add
              (pe_callTy call_int1 (by rfl) T.int (by decide +kernel) (pa_cons (pe_cmp (pc_din hu (pe_call G3 hr rfl m3 k3 b3 .nil pass0 (pa_cons (pv 5) (pa_cons (pe_ix ix_tup (pv 3) pe_int (fun _ _ => rfl)) pa_nil))) (pv 1)) rfl) pa_nil))
              (pe_callTy call_int1 (by rfl) T.int (by decide +kernel) (pa_cons (pe_cmp (pc_din hu (pe_call G3 hr rfl m3 k3 b3 .nil pass0 (pa_cons (pv 5) (pa_cons (pe_ix ix_tup (pv 3) pe_int (fun _ _ => rfl)) pa_nil))) (pv 1)) rfl) pa_nil))) (fun _ _ => rfl)) (pa_cons (pv 5) pa_nil)))))
        (pss_one (ps_asg (pv 4) (pg_sub (pv 2) (pv 3) (set_dict hu)))))))
      (pss_one (ps_ret (pv 2)))), ?_⟩
    obtain ⟨c, l, ha, hc, hps⟩ := id W0
    have l9 := g.few
    have few := g.len
    have l36 := Good.len0 (xs := xs) l9.2
    have lxs : (xs.map V.str).length = xs.length := List.length_map _
    refine ⟨_, rfl, a, xs, ps, rfl, W0, g.nodup, by omega, fun H1 N s1 nN hN => fun D hD => ⟨_, _, rfl, ?_⟩⟩
    have nD : H D = none := same_none s1 hD
    have e2 := same_new (o := .dT []) hD
    have hD2 : upd H1 D (.dT []) D = some (.dT []) := upd_same
    generalize upd H1 D (.dT []) = H2 at e2 hD2 ⊢
    have s2 := s1.trans e2
    refine ⟨_, rfl, a, _, _, .ref c, rfl, rfl, SqL.of (s2 _ _ ha), rfl, c, xs.map V.str, rfl, s2 _ _ hc, by omega, fun H3 B s3 nB ⟨Us, hB, uu⟩ => ⟨B, rfl, ⟨_, SqL.of hB⟩, ?_⟩⟩
    rw [prs_strs] at uu
    have lU : Us.length = (prsS xs).length := by rw [uu.1, List.length_map]
    have s13 : Same H H3 := s2.trans s3
    have hN3 := (e2.trans s3) _ _ hN
    have hD3 := s3 _ _ hD2
    have nBD : B ≠ D := fun z => by
      rw [z, hD2] at nB
      cases nB
    refine for_list (xs := Us.map V.ref) (fun i σ H' => ∃ v3 v4 v5 : Option V, σ = [some (.ref a), some (.ref N), some (.ref D), v3, v4, v5] ∧ SameX D H3 H' ∧ KlAt H' D xs ps i)
      ⟨none, none, none, rfl, SameX.refl _ _, [], hD3, rfl, fun i p L e _ => by simp at e⟩ (fun i σ H' _ ⟨_, _, _, _, z, _⟩ => SqL.of (z _ _ nBD hB)) ?_ ?_
    · rintro i v σ H4 hv ⟨v3, v4, v5, rfl, sx, Ls, hD4, lL, at_⟩
      rw [List.getElem?_map] at hv
      obtain ⟨U, hU, rfl⟩ := Option.map_eq_some_iff.mp hv
      have il := (List.getElem?_eq_some_iff.mp hU).1
      obtain ⟨p, hp⟩ : ∃ p, (prsS xs)[i]? = some p := ⟨_, List.getElem?_eq_getElem (by omega)⟩
      have nX : ∀ {q : Addr} {o : HO}, H q = some o → q ≠ D := fun {q o} e => ne_of_none e nD
      have st : ∀ {q : Addr} {o : HO}, H q = some o → H4 q = some o := fun {q o} e => sx _ _ (nX e) (s13 _ _ e)
      have ha4 := st ha
      have hc4 := st hc
      have hN4 := sx _ _ (ne_of_none hN hD) hN3
      have eU3 := uu.2 i U (tv p) hU (by rw [List.getElem?_map, hp]; rfl)
      have eU := sx _ _ (fun z => by rw [z, hD3] at eU3; cases eU3) eU3
      -- the three lists
      refine ⟨by decide, fun A0 hA0 => ?_⟩
      have t1 := same_new (o := .lst []) hA0
      have q0 : upd H4 A0 (.lst []) A0 = some (.lst []) := upd_same
      generalize upd H4 A0 (.lst []) = H5 at t1 q0 ⊢
      refine ⟨by decide, fun A1 hA1 => ?_⟩
      have t2 := same_new (o := .lst []) hA1
      have q1 : upd H5 A1 (.lst []) A1 = some (.lst []) := upd_same
      have n01 : A0 ≠ A1 := ne_of_none q0 hA1
      replace q0 := t2 _ _ q0
      generalize upd H5 A1 (.lst []) = H6 at t2 q0 q1 ⊢
      refine ⟨by decide, fun A2 hA2 => ?_⟩
      have t3 := same_new (o := .lst []) hA2
      have q2 : upd H6 A2 (.lst []) A2 = some (.lst []) := upd_same
      have n02 : A0 ≠ A2 := ne_of_none q0 hA2
      have n12 : A1 ≠ A2 := ne_of_none q1 hA2
      replace q0 := t3 _ _ q0
      replace q1 := t3 _ _ q1
      generalize upd H6 A2 (.lst []) = H7 at t3 q0 q1 q2 ⊢
      refine ⟨by show 3 ≤ sizeLine; decide, fun L hL => ?_⟩
      have t4 := same_new (o := .lst [.ref A0, .ref A1, .ref A2]) hL
      have qL : upd H7 L (.lst [.ref A0, .ref A1, .ref A2]) L = some (.lst [.ref A0, .ref A1, .ref A2]) := upd_same
      have n0L : A0 ≠ L := ne_of_none q0 hL
      have n1L : A1 ≠ L := ne_of_none q1 hL
      have n2L : A2 ≠ L := ne_of_none q2 hL
      replace q0 := t4 _ _ q0
      replace q1 := t4 _ _ q1
      replace q2 := t4 _ _ q2
      generalize upd H7 L (.lst [.ref A0, .ref A1, .ref A2]) = H8 at t4 q0 q1 q2 qL ⊢
      have s48 := (t1.trans t2).trans (t3.trans t4)
      have nA0 : H4 A0 = none := hA0
      have nA1 : H4 A1 = none := same_none t1 hA1
      have nA2 : H4 A2 = none := same_none (t1.trans t2) hA2
      have nL4 : H4 L = none := same_none ((t1.trans t2).trans t3) hL
      -- the others
      refine ⟨_, rfl, a, _, _, .ref c, rfl, rfl, SqL.of (s48 _ _ ha4), rfl, c, rfl, ⟨_, SqL.of (s48 _ _ hc4)⟩, fun R hR => ?_⟩
      refine lc_list (xs := xs.map V.str) (fun j H' => Same H8 H' ∧ H' R = some (.lst (((xs.take j).filter (outF p)).map V.str))) ⟨same_new hR, upd_same⟩ (fun j H' _ z => SqL.of (z.1 _ _ (s48 _ _ hc4))) ?_ ?_
      · rintro j v H9 hv ⟨s9, hr9⟩
        rw [List.getElem?_map] at hv
        obtain ⟨x, hx, rfl⟩ := Option.map_eq_some_iff.mp hv
        have nx : ((xs.take (j + 1)).filter (outF p)) = ((xs.take j).filter (outF p)) ++ if outF p x = true then [x] else [] := filter_next hx
        refine ⟨rfl, _, rfl, _, rfl, U, _, rfl, .inr (SqT.of ((s48.trans s9) _ _ eU)), rfl, rfl, _, rfl, ?_⟩
        refine ite2 (fun hb => ?_) (fun hb => ?_)
        · have hb : (!inV (.str x) [.str p.1, .str p.2]) = true := hb
          rw [nin_pair] at hb
          refine ⟨_, rfl, _, hr9, ?_, same_over s9 hR, ?_⟩
          · have h1 := List.length_filter_le (outF p) (xs.take j)
            rw [List.length_take] at h1
            rw [List.length_map, sizeLine_eq]
            omega
          · rw [upd_same, nx, if_pos hb, List.map_append]
            rfl
        · have hb : ¬ (!inV (.str x) [.str p.1, .str p.2]) = true := hb
          rw [nin_pair] at hb
          refine ⟨s9, ?_⟩
          rw [nx, if_neg hb, List.append_nil]
          exact hr9
      rintro H9 ⟨s9, hr9⟩
      rw [lxs, List.take_length] at hr9
      have nR : H4 R = none := same_none s48 hR
      have n0R : A0 ≠ R := fun z => by rw [← z, q0] at hR; cases hR
      have n1R : A1 ≠ R := fun z => by rw [← z, q1] at hR; cases hR
      have n2R : A2 ≠ R := fun z => by rw [← z, q2] at hR; cases hR
      replace q0 := s9 _ _ q0
      replace q1 := s9 _ _ q1
      replace q2 := s9 _ _ q2
      replace qL := s9 _ _ qL
      have s49 := s48.trans s9
      obtain ⟨ys, ey⟩ : ∃ ys, ys = xs.filter (outF p) := ⟨_, rfl⟩
      rw [← ey] at hr9
      have ly : ys.length ≤ 9 := by
        rw [ey]
        exact Nat.le_trans (List.length_filter_le _ _) l9.2
      refine ⟨R, rfl, ⟨_, SqL.of hr9⟩, ?_⟩
      refine for_list (xs := ys.map V.str) (fun j σ H' => ∃ v5 : Option V, σ = [some (.ref a), some (.ref N), some (.ref D), some (.ref U), some (.ref L), v5] ∧ Same H4 H' ∧ H' L = some (.lst [.ref A0, .ref A1, .ref A2]) ∧ H' R = some (.lst (ys.map V.str)) ∧
          H' A0 = some (.lst ((F3 ps p (ys.take j) 0).map V.str)) ∧ H' A1 = some (.lst ((F3 ps p (ys.take j) 1).map V.str)) ∧ H' A2 = some (.lst ((F3 ps p (ys.take j) 2).map V.str)))
        ⟨_, rfl, s49, qL, hr9, q0, q1, q2⟩ (fun j σ H' _ ⟨_, _, _, _, z, _⟩ => SqL.of z) ?_ ?_
      · rintro j v σ H10 hv ⟨v5', rfl, s10, pL, pR, p0, p1, p2⟩
        rw [List.getElem?_map] at hv
        obtain ⟨x, hx, rfl⟩ := Option.map_eq_some_iff.mp hv
        have jl := (List.getElem?_eq_some_iff.mp hx).1
        have hb : outF p x = true := by
          have := List.mem_of_getElem? hx
          rw [ey] at this
          exact (List.mem_filter.mp this).2
        have ht := s10 _ _ eU
        refine ⟨_, rfl, _, rfl, _, rfl, U, _, _, .str p.1, rfl, rfl, SqT.of ht, rfl, x, p.1, rfl, fun T1 nT1 => ?_⟩
        have e3 := same_new (o := .tup [.str (mk x p.1).1, .str (mk x p.1).2]) nT1
        have h31 : upd H10 T1 (.tup [.str (mk x p.1).1, .str (mk x p.1).2]) T1 = some (.tup [.str (mk x p.1).1, .str (mk x p.1).2]) := upd_same
        generalize upd H10 T1 (.tup [.str (mk x p.1).1, .str (mk x p.1).2]) = H11 at e3 h31 ⊢
        have s11 := s10.trans e3
        refine ⟨_, rfl, N, _, rfl, DGet.t (k := pk (mk x p.1)) (s11 _ _ hN4) h31, .inr ⟨_, rfl, ?_⟩⟩
        rw [net_get]
        refine ⟨_, rfl, _, rfl, U, _, _, .str p.2, rfl, rfl, SqT.of (s11 _ _ eU), rfl, x, p.2, rfl, fun T2 nT2 => ?_⟩
        have e4 := same_new (o := .tup [.str (mk x p.2).1, .str (mk x p.2).2]) nT2
        have h41 : upd H11 T2 (.tup [.str (mk x p.2).1, .str (mk x p.2).2]) T2 = some (.tup [.str (mk x p.2).1, .str (mk x p.2).2]) := upd_same
        generalize upd H11 T2 (.tup [.str (mk x p.2).1, .str (mk x p.2).2]) = H12 at e4 h41 ⊢
        have s12 := s11.trans e4
        refine ⟨_, rfl, N, _, rfl, DGet.t (k := pk (mk x p.2)) (s12 _ _ hN4) h41, .inr ⟨_, rfl, ?_⟩⟩
        rw [net_get]
        have eb : ∀ q, (if decide (q ∈ ps) = true then (1 : Int) else 0) = ((if q ∈ ps then 1 else 0 : Nat) : Int) := fun q => by
          by_cases z : q ∈ ps <;> simp [z]
        rw [eb, eb]
        refine ⟨_, _, rfl, rfl, ?_⟩
        have ek : (((if mk x p.1 ∈ ps then 1 else 0 : Nat) : Int) + ((if mk x p.2 ∈ ps then 1 else 0 : Nat) : Int)) = ((kf ps p x : Nat) : Int) := by
          rw [kf_net g hb]
          omega
        have e34 := e3.trans e4
        replace pL := e34 _ _ pL
        replace pR := e34 _ _ pR
        replace p0 := e34 _ _ p0
        replace p1 := e34 _ _ p1
        replace p2 := e34 _ _ p2
        have sn := F3_snoc ps p (ys.take j) x
        have lt : ∀ k, (F3 ps p (ys.take j) k).length ≤ 9 := fun k => by
          have h1 := F3_len ps p (ys.take j) k
          rw [List.length_take] at h1
          omega
        have t : kf ps p x = 0 ∨ kf ps p x = 1 ∨ kf ps p x = 2 := by
          rw [kf_two]
          split <;> split <;> simp
        rw [show ys.take (j + 1) = ys.take j ++ [x] from take_next hx, sn 0, sn 1, sn 2]
        rcases t with t | t | t
        · refine ⟨L, _, ((kf ps p x : Nat) : Int), .ref A0, rfl, congrArg V.int ek, SqL.of pL, by rw [t]; rfl, .inl ⟨rfl, _, SqL.of p0⟩, _, rfl, A0, _, _, rfl, rfl, p0, by rw [List.length_map, sizeLine_eq]; have := lt 0; omega, ?_⟩
          refine ⟨_, rfl, same_over s12 nA0, by rw [upd_ne n0L.symm]; exact pL, by rw [upd_ne n0R.symm]; exact pR, ?_, ?_, ?_⟩
          · rw [upd_same, t]
            simp
          · rw [upd_ne n01.symm, t]
            simp [p1]
          · rw [upd_ne n02.symm, t]
            simp [p2]
        · refine ⟨L, _, ((kf ps p x : Nat) : Int), .ref A1, rfl, congrArg V.int ek, SqL.of pL, by rw [t]; rfl, .inl ⟨rfl, _, SqL.of p1⟩, _, rfl, A1, _, _, rfl, rfl, p1, by rw [List.length_map, sizeLine_eq]; have := lt 1; omega, ?_⟩
          refine ⟨_, rfl, same_over s12 nA1, by rw [upd_ne n1L.symm]; exact pL, by rw [upd_ne n1R.symm]; exact pR, ?_, ?_, ?_⟩
          · rw [upd_ne n01, t]
            simp [p0]
          · rw [upd_same, t]
            simp
          · rw [upd_ne n12.symm, t]
            simp [p2]
        · refine ⟨L, _, ((kf ps p x : Nat) : Int), .ref A2, rfl, congrArg V.int ek, SqL.of pL, by rw [t]; rfl, .inl ⟨rfl, _, SqL.of p2⟩, _, rfl, A2, _, _, rfl, rfl, p2, by rw [List.length_map, sizeLine_eq]; have := lt 2; omega, ?_⟩
          refine ⟨_, rfl, same_over s12 nA2, by rw [upd_ne n2L.symm]; exact pL, by rw [upd_ne n2R.symm]; exact pR, ?_, ?_, ?_⟩
          · rw [upd_ne n02, t]
            simp [p0]
          · rw [upd_ne n12, t]
            simp [p1]
          · rw [upd_same, t]
            simp
      · rintro σ H10 ⟨v5', rfl, s10, pL, pR, p0, p1, p2⟩
        rw [List.length_map, List.take_length, ey, F3_all] at p0 p1 p2
        have hD10 := s10 _ _ hD4
        have eU10 := s10 _ _ eU
        have lk : (klK ((prsS xs).take i) Ls).length < sizeLine := by
          rw [klK_len lL, List.length_take, sizeLine_eq]
          omega
        have nin : p ∉ (prsS xs).take i := fun z => by
          obtain ⟨j, hj, e⟩ := List.getElem_of_mem z
          rw [List.length_take] at hj
          rw [List.getElem_take] at e
          have := nd_inj (List.Pairwise.imp (fun {p q} (h : LtP p q) (e : p = q) => LtP.irr q (by rw [e] at h; exact h)) (prsS_asc g.asc)) (List.getElem?_eq_some_iff.mpr ⟨by omega, e⟩) hp
          omega
        refine ⟨_, rfl, _, rfl, _, rfl, D, _, rfl, DPut.t (k := pk p) hD10 eU10 lk, ?_⟩
        rw [klK_snoc nin lL, ← take_next hp]
        refine ⟨_, _, _, rfl, ?_, Ls ++ [L], upd_same, by rw [take_next hp, List.length_append, List.length_append, lL]; rfl, fun m q M h1 h2 => ?_⟩
        · exact fun b o nb e => by
            rw [upd_ne nb]
            exact s10 _ _ (sx _ _ nb e)
        · refine K3.keep ?_ hD10
          rw [take_next hp] at h1
          by_cases cc : m < Ls.length
          · rw [List.getElem?_append_left (by rw [← lL]; exact cc)] at h1
            rw [List.getElem?_append_left cc] at h2
            exact (at_ m q M h1 h2).same s10
          · rw [List.getElem?_append_right (by rw [← lL]; omega), ← lL] at h1
            rw [List.getElem?_append_right (by omega)] at h2
            cases hq : m - Ls.length with
            | zero =>
              rw [hq] at h1 h2
              obtain rfl := Option.some.inj h1
              obtain rfl := Option.some.inj h2
              exact ⟨A0, A1, A2, pL, p0, p1, p2⟩
            | succ z =>
              rw [hq] at h2
              cases h2
    · rintro σ H4 ⟨v3, v4, v5, rfl, sx, kl⟩
      rw [List.length_map, lU] at kl
      exact ⟨_, rfl, k H4 D (fun q o e => sx _ _ (ne_of_none e nD) (s13 _ _ e)) nD kl⟩
end
end Wd
end
section
set_option maxRecDepth 100000
set_option maxHeartbeats 4000000
namespace Wd
open PySem L2
theorem rd_nil {σ : St} {H : Hp} {Q : List V → Hp → Prop} (h : Q [] H) : tNil σ H Q := h
theorem sort_strs {K : PySem.W.Frag} {H : Hp} {a : Addr} {ys zs : List Str} {Q : VK} (ha : H a = some (.lst (ys.map V.str))) (pm : ys.Perm zs) (as : Asc zs) (few : ys.length < 64) (q : ∀ D : Addr, H D = none → Q (.ref D) (upd H D (.lst (zs.map V.str)))) : rSortedS K [.ref a] H Q :=
  ⟨a, ys, rfl, SqL.of ha, few, fun ws D pw so hD => by
    have nd : ws.Nodup := (pw.trans pm).nodup_iff.mpr as.nd
    have e : ws = zs := ascS_uniq (asc_of_sorted so nd) as fun x => (pw.trans pm).mem_iff
    rw [e]
    exact q D hD⟩
theorem sort_ps {K : PySem.W.Frag} {H : Hp} {a : Addr} {Ts : List Addr} {ps qs : List Pr} {Q : VK} (ha : H a = some (.lst (Ts.map V.ref))) (tu : Tups H Ts (ps.map tv)) (pm : ps.Perm qs) (as : qs.Pairwise LtP) (nd : qs.Nodup)
    (q : ∀ (D : Addr) (Us : List Addr), H D = none → Tups H Us (qs.map tv) → Q (.ref D) (upd H D (.lst (Us.map V.ref)))) : Kx.rSortedD K [.ref a] H Q :=
  sorted_prs ha tu (pm.nodup_iff.mpr nd) fun D Us rs nD ar mr ur _ => by
    have e : rs = qs := asc_uniq ar as fun p => (mr p).trans pm.mem_iff
    rw [e] at ur
    exact q D Us nD ur
theorem filter_split {α : Type} {p q r : α → Bool} : ∀ {l : List α}, (∀ x ∈ l, r x = (p x || q x)) → (∀ x ∈ l, p x = true → q x = false) → (l.filter p ++ l.filter q).Perm (l.filter r)
  | [], _, _ => List.Perm.refl _
  | x :: l, h, d => by
    have ih := filter_split (l := l) (fun y hy => h y (List.mem_cons_of_mem _ hy)) (fun y hy => d y (List.mem_cons_of_mem _ hy))
    have hx := h x List.mem_cons_self
    have dx := d x List.mem_cons_self
    cases ep : p x with
    | true =>
      rw [ep] at hx
      rw [List.filter_cons_of_pos ep, List.filter_cons_of_neg (by rw [dx ep]; decide), List.filter_cons_of_pos (by rw [hx]; rfl)]
      exact ih.cons x
    | false =>
      rw [ep, Bool.false_or] at hx
      rw [List.filter_cons_of_neg (by rw [ep]; decide)]
      cases eq : q x with
      | true =>
        rw [List.filter_cons_of_pos eq, List.filter_cons_of_pos (by rw [hx, eq])]
        exact List.perm_middle.trans (ih.cons x)
      | false =>
        rw [List.filter_cons_of_neg (by rw [eq]; decide), List.filter_cons_of_neg (by rw [hx, eq]; decide)]
        exact ih
theorem kinds_perm (xs : List Str) (ps : List Pr) (p : Pr) : ∀ {ks : List Int}, ks.Nodup → (ks.flatMap (thL xs ps p)).Perm (xs.filter (ctP ps ks p))
  | [], _ => by
    have : xs.filter (ctP ps [] p) = [] := by
      rw [List.filter_eq_nil_iff]
      intro x _
      unfold ctP
      simp
    rw [this]
    exact List.Perm.refl _
  | k :: ks, nd => by
    obtain ⟨n1, n2⟩ := List.nodup_cons.mp nd
    rw [List.flatMap_cons]
    refine ((kinds_perm xs ps p n2).append_left _).trans ?_
    unfold thL
    refine filter_split (fun x _ => ?_) (fun x _ h => ?_)
    · unfold ctP
      rw [← Bool.and_or_distrib_left, ← Bool.decide_or]
      congr 1
      exact decide_eq_decide.mpr List.mem_cons
    · rw [Bool.and_eq_true] at h
      have e := of_decide_eq_true h.2
      unfold ctP
      rw [h.1, Bool.true_and, e]
      exact decide_eq_false n1
theorem kinds_len (xs : List Str) (ps : List Pr) (p : Pr) {ks : List Int} (nd : ks.Nodup) : (ks.map fun k => (((thL xs ps p k).length : Nat) : Int)).sum = ((cntK xs ps ks p : Nat) : Int) := by
  have h := (kinds_perm xs ps p nd).length_eq
  unfold cntK
  rw [← h]
  clear h nd
  induction ks with
  | nil => rfl
  | cons k r ih => rw [List.map_cons, List.sum_cons, ih, List.flatMap_cons, List.length_append]; omega
theorem allK_nodup {ks : List Int} (h : ks ∈ allK) : ks.Nodup := by
  have a : (allK.all fun ks => decide ks.Nodup) = true := by decide +kernel
  exact of_decide_eq_true (List.all_eq_true.mp a ks h)
theorem let_word (xs : List Str) (ps : List Pr) (m : Mn) (p : Pr) : decide (V.int (((cntK xs ps m.1 p : Nat) : Int) % 2) = V.int ((if m.2 = true then 1 else 0 : Nat) : Int)) = letB xs ps m p := by
  have e : ∀ n : Int, (decide (V.int (((cntK xs ps m.1 p : Nat) : Int) % 2) = V.int n)) = decide (((cntK xs ps m.1 p : Nat) : Int) % 2 = n) := fun n => decide_eq_decide.mpr ⟨fun z => V.int.inj z, fun z => congrArg V.int z⟩
  rw [e]
  unfold letB
  cases m.2
  · by_cases c : cntK xs ps m.1 p % 2 = 1
    · rw [decide_eq_true c, decide_eq_false (by simp; omega)]
      rfl
    · rw [decide_eq_false c, decide_eq_true (by simp; omega)]
      rfl
  · by_cases c : cntK xs ps m.1 p % 2 = 1
    · rw [decide_eq_true c, decide_eq_true (by simp; omega)]
      rfl
    · rw [decide_eq_false c, decide_eq_false (by simp; omega)]
      rfl
theorem k3_at {xs : List Str} {ps : List Pr} {H : Hp} {L : Addr} {p : Pr} (h : K3 xs ps H L p) {k : Int} (hk : 0 ≤ k ∧ k < 3) : ∃ (vs : List V) (A : Addr), H L = some (.lst vs) ∧ atI vs k = some (.ref A) ∧ H A = some (.lst ((thL xs ps p k).map V.str)) := by
  obtain ⟨a, b, c, h1, h2, h3, h4⟩ := h
  have : k = 0 ∨ k = 1 ∨ k = 2 := by omega
  rcases this with rfl | rfl | rfl
  · exact ⟨_, a, h1, rfl, h2⟩
  · exact ⟨_, b, h1, rfl, h3⟩
  · exact ⟨_, c, h1, rfl, h4⟩
/-- the lists of a pair -/
theorem kl_at {H : Hp} {D : Addr} {xs : List Str} {ps : List Pr} (a : Asc xs) (h : KlAt H D xs ps (prsS xs).length) {p : Pr} (hp : p ∈ prsS xs) : ∃ (kvs : List (List Key × V)) (L : Addr), H D = some (.dT kvs) ∧ valV kvs (pk p) = some (.ref L) ∧ K3 xs ps H L p := by
  obtain ⟨Ls, h1, h2, h3⟩ := h
  rw [List.take_length] at h1 h2 h3
  obtain ⟨i, hi, e⟩ := List.getElem_of_mem hp
  have e1 : (prsS xs)[i]? = some p := by rw [List.getElem?_eq_getElem hi, e]
  obtain ⟨L, e2⟩ : ∃ L, Ls[i]? = some L := ⟨_, List.getElem?_eq_getElem (by omega)⟩
  exact ⟨_, L, h1, klK_get (prsS_nd a) e1 e2, h3 i p L e1 e2⟩
theorem sm_mns {H : Hp} {a b : Addr} {ms : List Mn} (few : ms.length ≤ 100) (hm : ∀ m ∈ ms, m.1 ∈ allK) (ha : MnsL H a ms) (hb : MnsL H b ms) : Sm H 3 (.ref a) (.ref b) := by
  obtain ⟨Ts, h1, t1⟩ := ha
  obtain ⟨Us, h2, t2⟩ := hb
  have l1 := t1.1
  have l2 := t2.1
  refine .lst h1 h2 (by rw [List.length_map, List.length_map, l1, l2]) (by rw [List.length_map, l1]; exact few) fun i u v hu hv => ?_
  rw [List.getElem?_map] at hu hv
  obtain ⟨T, hT, rfl⟩ := Option.map_eq_some_iff.mp hu
  obtain ⟨U, hU, rfl⟩ := Option.map_eq_some_iff.mp hv
  have il := (List.getElem?_eq_some_iff.mp hT).1
  obtain ⟨m, hm'⟩ : ∃ m, ms[i]? = some m := ⟨_, List.getElem?_eq_getElem (by omega)⟩
  have l3 := (allK_good (hm m (List.mem_of_getElem? hm'))).2.1
  exact sm_mn (by omega) (t1.2 i T m hT hm') (t2.2 i U m hU hm')
def spOwnC : Sp := fun vs H Q _ => ∃ (D t u : Addr) (xs : List Str) (ps : List Pr) (m : Mn) (p : Pr), vs = [.ref D, .ref t, .ref u] ∧ KlAt H D xs ps (prsS xs).length ∧ Good xs ps ∧ MnAt H t m ∧ m.1 ∈ allK ∧ H u = some (.tup [.str p.1, .str p.2]) ∧ p ∈ prsS xs ∧
  ∀ (H' : Hp) (L : Addr), Same H H' → H L = none → H' L = some (.lst ((xs.filter (ctP ps m.1 p)).map V.str)) → Q (.ref L) H'
def spOwnL : Sp := fun vs H Q _ => ∃ (D t u : Addr) (xs : List Str) (ps : List Pr) (m : Mn) (p : Pr), vs = [.ref D, .ref t, .ref u] ∧ KlAt H D xs ps (prsS xs).length ∧ Good xs ps ∧ MnAt H t m ∧ m.1 ∈ allK ∧ H u = some (.tup [.str p.1, .str p.2]) ∧ p ∈ prsS xs ∧ ∀ H', Same H H' → Q (.bl (letB xs ps m p)) H'
def spTold : Sp := fun vs H Q _ => vs = [] ∧ ∀ H', Same H H' → Q (.bl true) H'
def spAtW : Sp := fun vs H Q _ => ∃ (l : Addr) (n : Int) (xs : List Str), vs = [.ref l, .int n] ∧ H l = some (.lst (xs.map V.str)) ∧ Asc xs ∧ (∀ x ∈ xs, IsW x) ∧ 1 ≤ xs.length ∧ xs.length ≤ 9 ∧ ∀ (H' : Hp) (W : Addr) (qs : List Pr), Same H H' → H W = none → Good xs qs → WAt H' W xs qs → Q (.ref W) H'
section
variable {P : Program} {w : World} {K : PySem.W.Frag} {mg : Str → Option Value} {base : Heap}
theorem ok_own_counted {f : Addr} {fd : FuncData} (F : Fun K "_law_own_counted" "_law_own_counted" s_own_counted f fd) (T : Bt mg) : FnOk P w K mg base CX0 1 f fd ["_law_lists", "_law_manner", "_law_pair_here"] spOwnC := by
  refine F.ok c_own_counted (fun vs H Q E h => ?_) (fun cdv A outer s H vs Q E hr h => ?_)
  · obtain ⟨_, _, _, _, _, _, _, rfl, _⟩ := h
    rfl
  · obtain ⟨D, t, u, xs, ps, m, p, rfl, kl, g, hm, mk, hu', hp, k⟩ := h
    have hu := hu_of hr
    refine ⟨_, pss_cons (ps_set (i := 3) c_own_counted.nd rfl (Or.inl rfl) (pe_lst pa_nil))
      (pss_cons (ps_for PassesOwn.never rfl (pi_tup (pe_ix ix_tup (pv 1) pe_int (fun _ _ => rfl))) (pg_name (i := 4) c_own_counted.nd rfl (Or.inl rfl))
        (pss_one (ps_set (i := 3) c_own_counted.nd rfl (Or.inl rfl) (pe_op op_cat (pv 3) (pe_ix ix_list (pe_dget hu (pv 0) (pv 2) (fun _ _ => rfl)) (pv 4) (fun _ _ => rfl))))))
      (pss_one (ps_ret (pe_callB cr_sortedS (by rfl) T.sorted (by decide +kernel) (pa_cons (pv 3) pa_nil))))), ?_⟩
    obtain ⟨v, tv1, tv2⟩ := id hm
    obtain ⟨_, k3, bd⟩ := allK_good mk
    have l9 := g.few
    refine ⟨by decide, fun F0 hF0 => ?_⟩
    have s0 := same_new (o := .lst []) hF0
    have f0 : upd H F0 (.lst []) F0 = some (.lst []) := upd_same
    generalize upd H F0 (.lst []) = H0 at s0 f0 ⊢
    refine ⟨_, rfl, t, _, _, .ref v, rfl, rfl, SqT.of (s0 _ _ tv1), rfl, v, rfl, ⟨_, SqT.of (s0 _ _ tv2)⟩, ?_⟩
    have len : ∀ i, ((m.1.take i).flatMap (thL xs ps p)).length ≤ 27 := fun i => by
      have h0 : ∀ l : List Int, (l.flatMap (thL xs ps p)).length ≤ 9 * l.length := fun l => by
        induction l with
        | nil => exact Nat.le_refl _
        | cons a r ih =>
          rw [List.flatMap_cons, List.length_append, List.length_cons]
          have : (thL xs ps p a).length ≤ 9 := Nat.le_trans (List.length_filter_le _ _) l9.2
          omega
      have h1 := h0 (m.1.take i)
      rw [List.length_take] at h1
      omega
    refine for_tup (xs := m.1.map V.int) (fun i σ H' => ∃ (F1 : Addr) (v4 : Option V), σ = [some (.ref D), some (.ref t), some (.ref u), some (.ref F1), v4] ∧ Same H H' ∧ H' F1 = some (.lst (((m.1.take i).flatMap (thL xs ps p)).map V.str)))
      ⟨F0, none, rfl, s0, f0⟩ (fun i σ H' _ ⟨_, _, _, z, _⟩ => SqT.of (z _ _ tv2)) ?_ ?_
    · rintro i x σ H1 hx ⟨F1, v4, rfl, s1, f1⟩
      rw [List.getElem?_map] at hx
      obtain ⟨y, hy, rfl⟩ := Option.map_eq_some_iff.mp hx
      obtain ⟨kvs, L, hD, gv, q3⟩ := kl_at g.asc (kl.same s1) hp
      obtain ⟨vs, A1, e1, e2, e3⟩ := k3_at q3 (bd y (List.mem_of_getElem? hy))
      refine ⟨_, rfl, _, rfl, _, rfl, D, .ref L, rfl, ?_, _, rfl, L, vs, y, .ref A1, rfl, rfl, SqL.of e1, e2, ?_⟩
      · have dg := DGet.t (k := pk p) hD (s1 _ _ hu')
        rw [gv] at dg
        exact dg
      refine ⟨F1, A1, _, _, rfl, rfl, f1, e3, ?_, fun F2 hF2 => ?_⟩
      · have h1 := len i
        have h2 : (thL xs ps p y).length ≤ 9 := Nat.le_trans (List.length_filter_le _ _) l9.2
        rw [List.length_map, List.length_map, sizeLine_eq]
        omega
      · refine ⟨F2, _, rfl, s1.trans (same_new hF2), ?_⟩
        rw [upd_same, take_next hy, List.flatMap_append, List.map_append]
        simp
    · rintro σ H1 ⟨F1, v4, rfl, s1, f1⟩
      rw [List.length_map, List.take_length] at f1
      refine ⟨_, rfl, sort_strs f1 (kinds_perm xs ps p (allK_nodup mk)) (g.asc.sublist List.filter_sublist) ?_ fun R hR => k _ R (s1.trans (same_new hR)) (same_none s1 hR) upd_same⟩
      have := len 3
      rw [List.take_of_length_le k3] at this
      omega
theorem ok_own_lets {f : Addr} {fd : FuncData} (F : Fun K "_law_own_lets" "_law_own_lets" s_own_lets f fd) (T : Bt mg) : FnOk P w K mg base CX0 1 f fd ["_law_lists", "_law_manner", "_law_pair_here"] spOwnL := by
  refine F.ok c_own_lets (fun vs H Q E h => ?_) (fun cdv A outer s H vs Q E hr h => ?_)
  · obtain ⟨_, _, _, _, _, _, _, rfl, _⟩ := h
    rfl
  · obtain ⟨D, t, u, xs, ps, m, p, rfl, kl, g, hm, mk, hu', hp, k⟩ := h
    have hu := hu_of hr
    refine ⟨_, pss_one (ps_ret (pe_cmpR op_eq (pe_op op_mod (pe_callTy call_int1 (by rfl) T.int (by decide +kernel) (pa_cons (pe_callB (cr_sum rfl) (by rfl) T.sum (by decide +kernel) (pa_cons (pe_lc (own := [("_law_kind", 3)]) (g := gName 3) (tt := tYes) rfl c_own_lets.nd (pi_tup (pe_ix ix_tup (pv 1) pe_int (fun _ _ => rfl)))
        (blkOk_by (N := ["_law_lists", "_law_manner", "_law_pair_here", "_law_kind"]) (sc := defScope s_own_lets) (by decide +kernel)) (fun _ _ _ _ _ => pg_name (i := 3) c_own_lets.nd rfl (Or.inl rfl)) (fun _ _ _ _ _ => pts_nil)
        (fun _ _ _ _ _ => pe_callB (r := rLen K) call_len_seq (by rfl) T.len PySem.boot_len (pa_cons (pe_ix (r := rIxL K) ix_list (pe_dget hu (pv 0) (pv 2) (fun _ _ => rfl)) (pv 3) (fun _ _ => rfl)) pa_nil))) pa_nil)) pa_nil)) pe_int)
      (pe_bm PySem.F.plainAttrs_list PySem.F.slot_list_index PySem.F.type_list_index mt_index (pe_lst (pa_cons pe_str (pa_cons pe_str pa_nil))) (pa_cons (pe_ix ix_tup (pv 1) pe_int (fun _ _ => rfl)) pa_nil)) (nomark _))), ?_⟩
    obtain ⟨v, tv1, tv2⟩ := id hm
    obtain ⟨_, k3, bd⟩ := allK_good mk
    refine ⟨_, rfl, t, _, _, .ref v, rfl, rfl, SqT.of tv1, rfl, v, rfl, ⟨_, SqT.of tv2⟩, fun R hR => ?_⟩
    refine lc_it (walk_tup (K := K) (a := v) (xs := m.1.map V.int)) (fun i H' => Same H H' ∧ H' R = some (.lst (((m.1.take i).map fun k => (((thL xs ps p k).length : Nat) : Int)).map V.int))) ⟨same_new hR, upd_same⟩ (fun i H' _ z => SqT.of (z.1 _ _ tv2)) ?_ ?_
    · rintro i x _ H1 hi ⟨s1, hr1⟩ ⟨rfl, hx⟩
      rw [List.getElem?_map] at hx
      obtain ⟨y, hy, rfl⟩ := Option.map_eq_some_iff.mp hx
      obtain ⟨kvs, L, hD, gv, q3⟩ := kl_at g.asc (kl.same s1) hp
      obtain ⟨vs, A1, e1, e2, e3⟩ := k3_at q3 (bd y (List.mem_of_getElem? hy))
      refine ⟨rfl, _, rfl, _, rfl, D, .ref L, rfl, ?_, _, rfl, L, vs, y, .ref A1, rfl, rfl, SqL.of e1, e2, A1, _, rfl, .inl (SqL.of e3), _, hr1, ?_, same_over s1 hR, ?_⟩
      · have dg := DGet.t (k := pk p) hD (s1 _ _ hu')
        rw [gv] at dg
        exact dg
      · rw [List.length_map, List.length_map, List.length_take, sizeLine_eq]
        omega
      · rw [upd_same, take_next hy, List.map_append, List.map_append, List.length_map]
        rfl
    · rintro H1 ⟨s1, hr1⟩
      rw [List.length_map, List.take_length] at hr1
      refine ⟨R, _, rfl, SqL.of hr1, ?_⟩
      refine .inl ⟨_, rfl, _, _, rfl, rfl, (by show (0 : Int) < 2; decide), ?_⟩
      refine ⟨by decide, fun W hW => ?_⟩
      have e2 := same_new (o := .lst [V.str ("even" : Str), .str ("odd" : Str)]) hW
      have hW2 : upd H1 W (.lst [V.str ("even" : Str), .str ("odd" : Str)]) W = some (.lst [V.str ("even" : Str), .str ("odd" : Str)]) := upd_same
      generalize upd H1 W (.lst [V.str ("even" : Str), .str ("odd" : Str)]) = H2 at e2 hW2 ⊢
      have s2 := s1.trans e2
      refine ⟨.inl ⟨rfl, _, SqL.of hW2⟩, _, rfl, t, _, _, .str (wordS m.2), rfl, rfl, SqT.of (s2 _ _ tv1), rfl, ?_⟩
      have fin : Q (.bl (decide (V.int ((m.1.map fun k => (((thL xs ps p k).length : Nat) : Int)).sum % 2) = V.int ((if m.2 = true then 1 else 0 : Nat) : Int)))) H2 := by
        rw [kinds_len xs ps p (allK_nodup mk), let_word]
        exact k H2 s2
      cases hb : m.2 with
      | false =>
        rw [hb] at fin
        exact ⟨W, _, _, 0, .str ("even" : Str), rfl, rfl, SqL.of hW2, rfl, rfl, rfl, by decide, fun m z' h => by omega, rfl, fin⟩
      | true =>
        rw [hb] at fin
        exact ⟨W, _, _, 1, .str ("odd" : Str), rfl, rfl, SqL.of hW2, rfl, rfl, rfl, by decide, fun m z' h e => by
          have : m = 0 := by omega
          subst this
          obtain rfl := Option.some.inj e
          decide, rfl, fin⟩
end
end Wd
end
section
set_option maxRecDepth 100000
set_option maxHeartbeats 4000000
namespace Wd
open PySem L2
theorem eightW_subs : eightW = ksV (subsI 3) := rfl
theorem MnsR.append {H : Hp} {Ts Us : List Addr} {ms ns : List Mn} (h : MnsR H Ts ms) (k : MnsR H Us ns) : MnsR H (Ts ++ Us) (ms ++ ns) := by
  refine ⟨by rw [List.length_append, List.length_append, h.1, k.1], fun i T m a b => ?_⟩
  by_cases c : i < Ts.length
  · rw [List.getElem?_append_left c] at a
    rw [List.getElem?_append_left (by rw [← h.1]; exact c)] at b
    exact h.2 i T m a b
  · rw [List.getElem?_append_right (by omega)] at a
    rw [List.getElem?_append_right (by rw [← h.1]; omega), ← h.1] at b
    exact k.2 _ T m a b
section
variable {P : Program} {w : World} {K : PySem.W.Frag} {mg : Str → Option Value} {base : Heap}
theorem ok_allML {f : Addr} {fd : FuncData} (F : Fun K "_law_all_manners" "_law_all_manners" s_all_manners f fd) : FnOk P w K mg base CX0 1 f fd [] spAllMn := by
  refine F.ok c_all_manners (fun vs H Q E h => ?_) (fun cdv A outer s H vs Q E hr h => ?_)
  · obtain ⟨rfl, _⟩ := h
    rfl
  · obtain ⟨rfl, k⟩ := h
    refine ⟨_, pss_cons (ps_set (i := 0) c_all_manners.nd rfl (Or.inl rfl) (pe_lst pa_nil))
      (pss_cons (ps_for PassesOwn.never rfl (pi_list (pe_lst (pa_cons (pe_tup pa_nil) (pa_cons (pe_tup (pa_cons pe_int pa_nil)) (pa_cons (pe_tup (pa_cons pe_int (pa_cons pe_int pa_nil))) (pa_cons (pe_tup (pa_cons pe_int (pa_cons pe_int (pa_cons pe_int pa_nil)))) (pa_cons (pe_tup (pa_cons pe_int (pa_cons pe_int pa_nil))) (pa_cons (pe_tup (pa_cons pe_int pa_nil)) (pa_cons (pe_tup (pa_cons pe_int (pa_cons pe_int pa_nil))) (pa_cons (pe_tup (pa_cons pe_int pa_nil)) pa_nil)))))))))) (pg_name (i := 1) c_all_manners.nd rfl (Or.inr rfl))
        (pss_one (ps_set (i := 0) c_all_manners.nd rfl (Or.inl rfl) (pe_op op_cat (pv 0) (pe_lc (own := [("_law_word_here", 2)]) (g := gName 2) (tt := tYes) rfl c_all_manners.nd (pi_list (pe_lst (pa_cons pe_str (pa_cons pe_str pa_nil))))
          (blkOk_by (N := ["_law_found", "_law_kinds", "_law_word_here"]) (sc := defScope s_all_manners) (by decide +kernel)) (fun _ _ _ _ _ => pg_name (i := 2) c_all_manners.nd rfl (Or.inl rfl)) (fun _ _ _ _ _ => pts_nil) (fun _ _ _ _ _ => pe_tup (pa_cons (pv 1) (pa_cons (pv 2) pa_nil))))))))
      (pss_one (ps_ret (pv 0)))), ?_⟩
    rw [eightWE]
    refine ⟨by decide, fun F0 hF0 => ?_⟩
    have s0 := same_new (o := .lst []) hF0
    have f0 : upd H F0 (.lst []) F0 = some (.lst []) := upd_same
    generalize upd H F0 (.lst []) = H0 at s0 f0 ⊢
    refine rd_css (by decide) fun Ks H1 s1 rt => ?_
    have ln : Ks.length = 8 := rt.1
    refine ⟨by rw [List.length_map, ln]; decide, fun L hL => ?_⟩
    have s2 := same_new (o := .lst (Ks.map V.ref)) hL
    have hL2 : upd H1 L (.lst (Ks.map V.ref)) L = some (.lst (Ks.map V.ref)) := upd_same
    generalize upd H1 L (.lst (Ks.map V.ref)) = H2 at s2 hL2 ⊢
    have rt2 := rt.same s2
    rw [eightW_subs] at rt2
    have s02 := (s0.trans s1).trans s2
    refine ⟨L, rfl, ⟨_, SqL.of hL2⟩, ?_⟩
    refine for_list (xs := Ks.map V.ref) (fun i σ H' => ∃ (D : Addr) (v1 : Option V), σ = [some (.ref D), v1, none] ∧ Same H2 H' ∧ H D = none ∧ MnsL H' D (((subsI 3).take i).flatMap mn2))
      ⟨F0, none, rfl, Same.refl _, hF0, [], (s1.trans s2) _ _ f0, MnsR.nil⟩ (fun i σ H' _ ⟨_, _, _, z, _⟩ => SqL.of (z _ _ hL2)) ?_ ?_
    · rintro i v σ H3 hv ⟨D, v1, rfl, s3, nD, Ts0, h0, r0⟩
      rw [List.getElem?_map] at hv
      obtain ⟨u, hu, rfl⟩ := Option.map_eq_some_iff.mp hv
      have i8 := (List.getElem?_eq_some_iff.mp hu).1
      obtain ⟨ks, hk⟩ : ∃ ks, (subsI 3)[i]? = some ks := ⟨_, List.getElem?_eq_getElem (by rw [show (subsI 3).length = 8 from rfl]; omega)⟩
      have eu := rt2.2 i u _ hu (by unfold ksV; rw [List.getElem?_map, hk]; rfl)
      refine ⟨_, rfl, by decide, fun W hW => ?_⟩
      have s4 := same_new (o := .lst [V.str ("even" : Str), .str ("odd" : Str)]) hW
      have hW2 : upd H3 W (.lst [V.str ("even" : Str), .str ("odd" : Str)]) W = some (.lst [V.str ("even" : Str), .str ("odd" : Str)]) := upd_same
      generalize upd H3 W (.lst [V.str ("even" : Str), .str ("odd" : Str)]) = H4 at s4 hW2 ⊢
      refine ⟨W, rfl, ⟨_, SqL.of hW2⟩, fun R hR => ?_⟩
      refine lc_it (walk_list (K := K) (a := W) (xs := [V.str ("even" : Str), .str ("odd" : Str)])) (fun i H' => Same H4 H' ∧ MnsL H' R ((mn2 ks).take i))
        ⟨same_new hR, [], upd_same, MnsR.nil⟩ (fun i H' _ z => SqL.of (z.1 _ _ hW2)) ?_ ?_
      · rintro j x _ H5 hj ⟨s5, Us, hU, ur⟩ ⟨rfl, hx⟩
        have hw : ∃ b, x = .str (wordS b) ∧ (mn2 ks)[j]? = some (ks, b) := by
          match j, hx with
          | 0, hx => exact ⟨false, (Option.some.inj hx).symm, rfl⟩
          | 1, hx => exact ⟨true, (Option.some.inj hx).symm, rfl⟩
          | j + 2, hx => cases hx
        obtain ⟨b, rfl, hb⟩ := hw
        have j2 : j < 2 := hj
        refine ⟨rfl, _, rfl, _, rfl, by show 2 ≤ sizeLine; decide, fun Z hZ => ?_⟩
        have e6 := same_new (o := .tup [V.ref u, .str (wordS b)]) hZ
        have hZ6 : upd H5 Z (.tup [V.ref u, .str (wordS b)]) Z = some (.tup [V.ref u, .str (wordS b)]) := upd_same
        generalize upd H5 Z (.tup [V.ref u, .str (wordS b)]) = H6 at e6 hZ6 ⊢
        have hU6 := e6 _ _ hU
        have r6 := (ur.same e6).snoc (T := Z) (m := (ks, b)) ⟨u, hZ6, (((s3.trans s4).trans s5).trans e6) _ _ eu⟩
        refine ⟨_, hU6, ?_, same_over (s5.trans e6) hR, Us ++ [Z], by rw [upd_same, List.map_append]; rfl, ?_⟩
        · have h1 := ur.1
          rw [List.length_take] at h1
          rw [List.length_map, sizeLine_eq]
          omega
        · rw [take_next hb]
          exact r6.keep hU6
      · rintro H5 ⟨s5, Us, hU, ur⟩
        have ur : MnsR H5 Us (mn2 ks) := ur
        have s45 := s4.trans s5
        have l0 := r0.1
        have l1 := ur.1
        have l2 := mn2_len i
        have l3 : (mn2 ks).length = 2 := rfl
        refine ⟨D, R, _, _, rfl, rfl, s45 _ _ h0, hU, by rw [List.length_map, List.length_map, l0, l1, sizeLine_eq]; omega, fun E hE => ?_⟩
        have s6 := same_new (o := .lst (Ts0.map V.ref ++ Us.map V.ref)) hE
        have nE : H E = none := same_none ((s02.trans s3).trans s45) hE
        refine ⟨E, _, rfl, (s3.trans s45).trans s6, nE, Ts0 ++ Us, by rw [List.map_append]; exact upd_same, ?_⟩
        rw [mn2_next i hk]
        exact ((r0.same s45).append ur).same s6
    · rintro σ H3 ⟨D, v1, rfl, s3, nD, mn⟩
      rw [List.length_map, ln] at mn
      exact ⟨_, rfl, k H3 D (s02.trans s3) nD mn⟩
theorem ok_told {f : Addr} {fd : FuncData} (F : Fun K "_law_told_manners_right" "_law_told_manners_right" s_told_manners_right f fd) (T : Bt mg) (C1 : Has P w K mg base 2 "all_manners" [] spAllMn) (C2 : Has P w K mg base 1 "_law_all_manners" [] spAllMn) (C3 : Has P w K mg base 3 "is_manner" ["value"] spIsMn)
    (CE : Has P w K mg base 4 "_law_exact" ["_law_mine", "_law_theirs"] (spExact 3)) : FnOk P w K mg base CX0 5 f fd [] spTold := by
  obtain ⟨f1, d1, G1, m1, k1, b1⟩ := C1
  obtain ⟨f2, d2, G2, m2, k2, b2⟩ := C2
  obtain ⟨f3, d3, G3, m3, k3, b3⟩ := C3
  obtain ⟨fE, dE, GE, mE, kE, bE⟩ := CE
  refine F.ok c_told_manners_right (fun vs H Q E h => ?_) (fun cdv A outer s H vs Q E hr h => ?_)
  · obtain ⟨rfl, _⟩ := h
    rfl
  · obtain ⟨rfl, k⟩ := h
    have hr1 : Room 1 _ := hr.mono (by decide)
    have hr2 : Room 2 _ := hr.mono (by decide)
    have hr3 : Room 3 _ := hr.mono (by decide)
    have hr4 : Room 4 _ := hr.mono (by decide)
    refine ⟨_, pss_cons (ps_par (i := 0) (j := 1) rfl c_told_manners_right.nd rfl rfl (by decide) rfl rfl (pa_cons (pe_call0 G1 hr2 rfl m1 k1 b1 .nil pass0) (pa_cons (pe_call0 G2 hr1 rfl m2 k2 b2 .nil pass0) pa_nil)) (by rfl))
      (pss_cons (ps_if (PW.pt (pw_or (pt_not (pt_val (pe_call GE hr4 rfl mE kE bE .nil pass0 (pa_cons (pv 0) (pa_cons (pv 1) pa_nil))))) (pw_or1 (pt_not (pt_val (pe_callB (cr_all rfl) (by rfl) T.all (by decide +kernel) (pa_cons (pe_lc (own := [("_law_manner", 2)]) (g := gName 2) (tt := tYes) rfl c_told_manners_right.nd (pi_list (pv 1))
          (blkOk_by (N := ["_law_told", "_law_due", "_law_manner"]) (sc := defScope s_told_manners_right) (by decide +kernel)) (fun _ _ _ _ _ => pg_name (i := 2) c_told_manners_right.nd rfl (Or.inl rfl)) (fun _ _ _ _ _ => pts_nil)
          (fun _ _ _ _ _ => pe_cmpR (r := rIsB) op_isBl (pe_call G3 hr3 rfl m3 k3 b3 .nil pass0 (pa_cons (pv 2) pa_nil)) pe_bl (nomark _))) pa_nil))))))) (pss_one ps_never) pss_nil)
      (pss_cons (ps_expr (pe_bm PySem.F.plainAttrs_list PySem.F.slot_list_append PySem.F.type_list_append mt_append (pv 0) (pa_cons pe_non pa_nil)))
      (pss_one (ps_ret (pe_call GE hr4 rfl mE kE bE .nil pass0 (pa_cons (pe_call0 G1 hr2 rfl m1 k1 b1 .nil pass0) (pa_cons (pv 1) pa_nil))))))), ?_⟩
    refine ⟨rfl, fun H1 D s1 nD hD => ⟨rfl, fun H2 B s2 nB hB => ⟨_, _, rfl, ?_⟩⟩⟩
    have mem : ∀ m ∈ allMn, m.1 ∈ allK := fun m h => allMn_mem h
    have l16 : allMn.length ≤ 100 := by decide
    refine ⟨_, rfl, _, rfl, _, _, rfl, sm_mns l16 mem (hD.same s2) hB, fun H3 s3 => ⟨_, rfl, iteF ?_⟩⟩
    have hB3 := hB.same s3
    obtain ⟨Ts, hT, row⟩ := id hB3
    refine ⟨_, rfl, B, rfl, ⟨_, SqL.of hT⟩, fun R hR => ?_⟩
    refine lc_list (xs := Ts.map V.ref) (fun i H' => Same H3 H' ∧ H' R = some (.lst (trues i))) ⟨same_new hR, upd_same⟩ (fun i H' _ z => SqL.of (z.1 _ _ hT)) ?_ ?_
    · rintro i v H4 hv ⟨s4, hr4'⟩
      rw [List.getElem?_map] at hv
      obtain ⟨U, hU, rfl⟩ := Option.map_eq_some_iff.mp hv
      have il := (List.getElem?_eq_some_iff.mp hU).1
      have lr := row.1
      have l0 : allMn.length = 16 := rfl
      obtain ⟨m, hm⟩ : ∃ m, allMn[i]? = some m := ⟨_, List.getElem?_eq_getElem (by omega)⟩
      refine ⟨rfl, _, rfl, U, m, rfl, (row.2 i U m hU hm).same s4, mem m (List.mem_of_getElem? hm), fun H5 s5 => ?_⟩
      refine ⟨_, _, rfl, rfl, _, s5 _ _ hr4', by rw [trues_len, sizeLine_eq]; omega, same_over (s4.trans s5) hR, ?_⟩
      rw [upd_same]
      exact congrArg (fun l => some (HO.lst l)) (trues_next i)
    · rintro H4 ⟨s4, hr4'⟩
      refine ⟨R, _, rfl, SqL.of hr4', ?_⟩
      rw [trues_all]
      refine ⟨_, rfl, iteF ?_⟩
      have s04 := ((s1.trans s2).trans s3).trans s4
      obtain ⟨Ds, hD4, _⟩ := hD.same ((s2.trans s3).trans s4)
      have lD : Ds.length = 16 := by
        rename_i q
        exact q.1
      refine ⟨_, rfl, .inl ⟨rfl, _, SqL.of hD4⟩, D, _, _, rfl, rfl, hD4, by rw [List.length_map, lD, sizeLine_eq]; decide, ?_⟩
      have s5 : Same H (upd H4 D (.lst (Ds.map V.ref ++ [.non]))) := same_over s04 nD
      have nBD : B ≠ D := fun z => by
        obtain ⟨_, e, _⟩ := hD
        rw [z, e] at nB
        cases nB
      have hB5 : MnsL (upd H4 D (.lst (Ds.map V.ref ++ [.non]))) B allMn := ⟨Ts, by rw [upd_ne nBD]; exact s4 _ _ hT, (row.same s4).keep hD4⟩
      generalize upd H4 D (.lst (Ds.map V.ref ++ [.non])) = H5 at s5 hB5 ⊢
      refine ⟨rfl, fun H6 Z s6 nZ hZ => ⟨_, rfl, _, _, rfl, sm_mns l16 mem hZ (hB5.same s6), fun H7 s7 => k H7 ((s5.trans s6).trans s7)⟩⟩
theorem ok_at {f : Addr} {fd : FuncData} (F : Fun K "_law_at" "_law_at" s_at f fd) (T : Bt mg) (C1 : Has P w K mg base 1 "_law_pairs" ["_law_crowd"] spPairs) : FnOk P w K mg base CX0 2 f fd ["_law_crowd", "_law_number"] spAtW := by
  obtain ⟨f1, d1, G1, m1, k1, b1⟩ := C1
  refine F.ok c_at (fun vs H Q E h => ?_) (fun cdv A outer s H vs Q E hr h => ?_)
  · obtain ⟨_, _, _, rfl, _⟩ := h
    rfl
  · obtain ⟨l, n, xs, rfl, hl, as, ww, l1, l9, k⟩ := h
    refine ⟨_, pss_cons (ps_par (i := 2) (j := 3) rfl c_at.nd rfl rfl (by decide) rfl rfl (pa_cons (pe_lst pa_nil) (pa_cons (pv 1) pa_nil)) (by rfl))
      (pss_cons (ps_for PassesOwn.never rfl (pi_list (pe_call G1 hr rfl m1 k1 b1 .nil pass0 (pa_cons (pv 0) pa_nil))) (pg_name (i := 4) c_at.nd rfl (Or.inl rfl))
        (pss_cons (ps_if (pt_cmpR op_eq (pe_op op_mod (pe_callTy call_int1 (by rfl) T.int (by decide +kernel) (pa_cons (pv 3) pa_nil)) pe_int) pe_int (nomark _)) (pss_one (ps_expr (pe_bm PySem.F.plainAttrs_list PySem.F.slot_list_append PySem.F.type_list_append mt_append (pv 2) (pa_cons (pv 4) pa_nil)))) pss_nil)
        (pss_one (ps_set (i := 3) c_at.nd rfl (Or.inl rfl) (pe_op op_fdiv (pv 3) pe_int)))))
      (pss_one (ps_ret (pe_lst (pa_cons (pv 0) (pa_cons (pv 2) pa_nil)))))), ?_⟩
    have l36 := Good.len0 (xs := xs) l9
    have lxs : (xs.map V.str).length = xs.length := List.length_map _
    refine ⟨by decide, fun F0 hF0 => ⟨_, rfl, _, _, rfl, ?_⟩⟩
    have s0 := same_new (o := .lst []) hF0
    have f0 : upd H F0 (.lst []) F0 = some (.lst []) := upd_same
    generalize upd H F0 (.lst []) = H0 at s0 f0 ⊢
    refine ⟨_, rfl, l, xs.map V.str, rfl, s0 _ _ hl, by omega, fun H1 B s1 nB ⟨Us, hB, uu⟩ => ⟨B, rfl, ⟨_, SqL.of hB⟩, ?_⟩⟩
    rw [prs_strs] at uu
    have lU : Us.length = (prsS xs).length := by rw [uu.1, List.length_map]
    have s01 := s0.trans s1
    have nBF : B ≠ F0 := fun z => by
      rw [z, f0] at nB
      cases nB
    have f1' := s1 _ _ f0
    refine for_list (xs := Us.map V.ref) (fun i σ H' => ∃ (r : Int) (v4 : Option V) (Vs : List Addr) (qs : List Pr), σ = [some (.ref l), some (.int n), some (.ref F0), some (.int r), v4] ∧ SameX F0 H1 H' ∧ H' F0 = some (.lst (Vs.map V.ref)) ∧ Tups H' Vs (qs.map tv) ∧ qs.Sublist ((prsS xs).take i))
      ⟨n, none, [], [], rfl, SameX.refl _ _, f1', Tups.nil, List.Sublist.refl _⟩ (fun i σ H' _ ⟨_, _, _, _, _, z, _⟩ => SqL.of (z _ _ nBF hB)) ?_ ?_
    · rintro i v σ H2 hv ⟨r, v4, Vs, qs, rfl, sx, hF, tu, sub⟩
      rw [List.getElem?_map] at hv
      obtain ⟨U, hU, rfl⟩ := Option.map_eq_some_iff.mp hv
      have il := (List.getElem?_eq_some_iff.mp hU).1
      obtain ⟨p, hp⟩ : ∃ p, (prsS xs)[i]? = some p := ⟨_, List.getElem?_eq_getElem (by omega)⟩
      have eU1 := uu.2 i U (tv p) hU (by rw [List.getElem?_map, hp]; rfl)
      have nUF : U ≠ F0 := fun z => by
        rw [z, f1'] at eU1
        cases eU1
      have eU := sx _ _ nUF eU1
      have sub1 : (prsS xs).take (i + 1) = (prsS xs).take i ++ [p] := take_next hp
      have lV : Vs.length ≤ 36 := by
        have h1 := tu.1
        rw [List.length_map] at h1
        have h2 := sub.length_le
        rw [List.length_take] at h2
        omega
      refine ⟨_, rfl, .inl ⟨_, rfl, _, _, rfl, rfl, (by show (0 : Int) < 2; decide), rfl, _, rfl, ?_⟩⟩
      refine ite2 (fun hb => ?_) (fun hb => ?_)
      · refine ⟨_, rfl, .inl ⟨rfl, _, SqL.of hF⟩, _, rfl, F0, _, _, rfl, rfl, hF, by rw [List.length_map, sizeLine_eq]; omega, ?_⟩
        refine ⟨_, rfl, _, _, rfl, rfl, ⟨by decide, by decide⟩, ?_⟩
        refine ⟨_, _, Vs ++ [U], qs ++ [p], rfl, sx.trans SameX.upd, by rw [upd_same, List.map_append]; rfl, ?_, ?_⟩
        · rw [List.map_append]
          have t3 := tu.upd (a := F0) (o := .lst (Vs.map V.ref ++ [V.ref U])) fun x y e => by
            rw [hF] at e
            cases e
          exact t3.snoc (p := tv p) (by rw [upd_ne nUF]; exact eU)
        · rw [sub1]
          exact sub.append (List.Sublist.refl _)
      · refine ⟨_, rfl, _, _, rfl, rfl, ⟨by decide, by decide⟩, ?_⟩
        refine ⟨_, _, Vs, qs, rfl, sx, hF, tu, ?_⟩
        rw [sub1]
        exact sub.trans (List.sublist_append_left _ _)
    · rintro σ H2 ⟨r, v4, Vs, qs, rfl, sx, hF, tu, sub⟩
      rw [List.length_map, lU, List.take_length] at sub
      have s2 : Same H H2 := fun b o e => sx _ _ (ne_of_none e hF0) (s01 _ _ e)
      refine ⟨_, rfl, _, rfl, by show 2 ≤ sizeLine; decide, fun W hW => ?_⟩
      have e3 := same_new (o := .lst [.ref l, .ref F0]) hW
      exact k _ W qs (s2.trans e3) (same_none s2 hW) ⟨as, ww, ⟨l1, l9⟩, sub⟩ ⟨l, F0, upd_same, e3 _ _ (s2 _ _ hl), Vs, e3 _ _ hF, tu.same e3⟩
end
end Wd
end
section
set_option maxRecDepth 100000
set_option maxHeartbeats 8000000
namespace Wd
open PySem L2
theorem perm_refs {ys : List V} {Us : List Addr} (pm : ys.Perm (Us.map V.ref)) : ∃ Vs : List Addr, ys = Vs.map V.ref ∧ Vs.Perm Us := by
  obtain ⟨ws, pw, ew⟩ := perm_lift V.ref pm Us rfl
  exact ⟨ws, ew.symm, pw⟩
theorem strs_noint {xs : List Str} : ∀ x ∈ xs.map V.str, ∀ i : Int, x ≠ .int i := fun x hx i z => by
  obtain ⟨y, _, e⟩ := List.mem_map.mp hx
  rw [z] at e
  cases e
theorem refs_noint {xs : List Addr} : ∀ x ∈ xs.map V.ref, ∀ i : Int, x ≠ .int i := fun x hx i z => by
  obtain ⟨y, _, e⟩ := List.mem_map.mp hx
  rw [z] at e
  cases e
theorem lst_ne {H : Hp} {p a : Addr} {c : Int} {n : Nat} {xs : List V} (pa : PurseAt H p c n) (e : H a = some (.lst xs)) (h : ∀ x ∈ xs, ∀ i : Int, x ≠ .int i) : a ≠ p :=
  purse_ne pa e fun b c t z e => h (.int b) (by have e := HO.lst.inj e; rw [e]; exact List.mem_cons_self) b rfl
theorem pw_sameX {H H' : Hp} {p l : Addr} {c : Int} {n : Nat} {ps : List Pr} (h : PwAt H l ps) (pa : PurseAt H p c n) (sx : SameX p H H') : PwAt H' l ps := by
  obtain ⟨Ts, h1, t⟩ := h
  refine ⟨Ts, sx _ _ (lst_ne pa h1 refs_noint) h1, t.1, fun k T q e1 e2 => ?_⟩
  have e := t.2 k T q e1 e2
  exact sx _ _ (purse_ne pa e fun _ _ _ _ z => nomatch z) e
theorem MnAt.sameP {H H' : Hp} {p t : Addr} {c : Int} {n : Nat} {m : Mn} (h : MnAt H t m) (pa : PurseAt H p c n) (sx : SameX p H H') : MnAt H' t m := by
  obtain ⟨_, _, _, e, _⟩ := pa
  exact h.sameX sx e
theorem K3.sameX {xs : List Str} {ps : List Pr} {H H' : Hp} {L q : Addr} {c0 : Int} {n : Nat} {p : Pr} (h : K3 xs ps H L p) (pa : PurseAt H q c0 n) (sx : SameX q H H') : K3 xs ps H' L p := by
  obtain ⟨a, b, c, h1, h2, h3, h4⟩ := h
  refine ⟨a, b, c, sx _ _ (lst_ne pa h1 (refs_noint (xs := [a, b, c]))) h1, sx _ _ (lst_ne pa h2 strs_noint) h2, sx _ _ (lst_ne pa h3 strs_noint) h3, sx _ _ (lst_ne pa h4 strs_noint) h4⟩
theorem KlAt.sameX {H H' : Hp} {D q : Addr} {c0 : Int} {n : Nat} {xs : List Str} {ps : List Pr} {m : Nat} (h : KlAt H D xs ps m) (pa : PurseAt H q c0 n) (sx : SameX q H H') : KlAt H' D xs ps m := by
  obtain ⟨Ls, a, b, c⟩ := h
  exact ⟨Ls, sx _ _ (purse_ne pa a fun _ _ _ _ z => nomatch z) a, b, fun i p L e1 e2 => (c i p L e1 e2).sameX pa sx⟩
theorem paired_at {α β : Type} {R : α → β → Prop} : ∀ {as : List α} {bs : List β}, Paired R as bs → as.length = bs.length ∧ ∀ (i : Nat) a b, as[i]? = some a → bs[i]? = some b → R a b
  | _, _, .nil => ⟨rfl, fun i a b h _ => by cases h⟩
  | _, _, .cons h t => by
    obtain ⟨l, at_⟩ := paired_at t
    refine ⟨by rw [List.length_cons, List.length_cons, l], fun i a b h1 h2 => ?_⟩
    cases i with
    | zero =>
      obtain rfl := Option.some.inj h1
      obtain rfl := Option.some.inj h2
      exact h
    | succ i => exact at_ i a b h1 h2
theorem keys_tups {H : Hp} {ps : List Pr} {Ls bs : List Addr} (l : Ls.length = ps.length) (h : IsKeys H (klK ps Ls) bs) : Tups H bs (ps.map tv) := by
  obtain ⟨lk, at_⟩ := paired_at h
  rw [klK_len l] at lk
  refine ⟨by rw [List.length_map]; exact lk.symm, fun k T p e1 e2 => ?_⟩
  rw [List.getElem?_map] at e2
  obtain ⟨q, hq, rfl⟩ := Option.map_eq_some_iff.mp e2
  have il := (List.getElem?_eq_some_iff.mp hq).1
  obtain ⟨L, hL⟩ : ∃ L, Ls[k]? = some L := ⟨_, List.getElem?_eq_getElem (by omega)⟩
  exact at_ k (pk q, V.ref L) T (by unfold klK; rw [List.getElem?_map, (List.getElem?_zip_eq_some.mpr ⟨hq, hL⟩ : (ps.zip Ls)[k]? = some (q, L))]; rfl) e1
def spMR (C : Addr) : Sp := fun vs H Q _ => ∃ (q D c t : Addr) (c0 : Int) (n : Nat) (xs : List Str) (ps : List Pr) (m : Mn), vs = [.ref q, .ref D, .ref c, .ref t] ∧ PurseAt H q c0 (n + 36) ∧ KlAt H D xs ps (prsS xs).length ∧ CAt C H c xs ps ∧ Good xs ps ∧ MnAt H t m ∧ m.1 ∈ allK ∧
  ∀ (H' : Hp) (R L : Addr), SameX q H H' → PurseAt H' q c0 n → H' R = some (.lst [.ref L]) → PwAt H' L (letL xs ps m) → Q (.ref R) H'
abbrev nMR : List Str := ["_law_purse_here", "_law_lists", "_law_company_here", "_law_manner", "_law_pairs_here", "_law_pair_here", "_law_due", "_law_told", "_law_counted"]
section
variable {P : Program} {w : World} {K : PySem.W.Frag} {mg : Str → Option Value} {base : Heap}
theorem ok_mr {f C : Addr} {fd : FuncData} (F : Fun K "_law_manner_right" "_law_manner_right" s_manner_right f fd) (T : Bt mg) (C1 : Has P w K mg base 1 "_law_own_lets" ["_law_lists", "_law_manner", "_law_pair_here"] spOwnL) (C2 : Has P w K mg base 5 "let_pairs" ["company", "manner"] (spLetP C))
    (C3 : Has P w K mg base 5 "let_number" ["company", "manner"] (spLetN C)) (C4 : Has P w K mg base 3 "_law_shuffled" ["_law_purse_here", "_law_some"] spShuffled) (C5 : Has P w K mg base 5 "counted_people" ["company", "manner", "pair"] (spCntP C)) (C6 : Has P w K mg base 5 "is_let" ["company", "manner", "pair"] (spIsLet C))
    (C7 : Has P w K mg base 1 "_law_own_counted" ["_law_lists", "_law_manner", "_law_pair_here"] spOwnC) (CE : Has P w K mg base 4 "_law_exact" ["_law_mine", "_law_theirs"] (spExact 3)) : FnOk P w K mg base CX0 6 f fd ["_law_purse_here", "_law_lists", "_law_company_here", "_law_manner"] (spMR C) := by
  obtain ⟨f1, d1, G1, m1, k1, b1⟩ := C1
  obtain ⟨f2, d2, G2, m2, k2, b2⟩ := C2
  obtain ⟨f3, d3, G3, m3, k3, b3⟩ := C3
  obtain ⟨f4, d4, G4, m4, k4, b4⟩ := C4
  obtain ⟨f5, d5, G5, m5, k5, b5⟩ := C5
  obtain ⟨f6, d6, G6, m6, k6, b6⟩ := C6
  obtain ⟨f7, d7, G7, m7, k7, b7⟩ := C7
  obtain ⟨fE, dE, GE, mE, kE, bE⟩ := CE
  refine F.ok c_manner_right (fun vs H Q E h => ?_) (fun cdv A outer s H vs Q E hr h => ?_)
  · obtain ⟨_, _, _, _, _, _, _, _, _, rfl, _⟩ := h
    rfl
  · obtain ⟨q, D, c, t, c0, n, xs, ps, m, rfl, pa, kl, hc, g, hm, mk, k⟩ := h
    have hr1 : Room 1 _ := hr.mono (by decide)
    have hr3 : Room 3 _ := hr.mono (by decide)
    have hr4 : Room 4 _ := hr.mono (by decide)
    have hr5 : Room 5 _ := hr.mono (by decide)
    refine ⟨_, pss_cons (ps_set (i := 4) c_manner_right.nd rfl (Or.inl rfl) (pe_callTy (call_list_dT rfl) (by rfl) T.list (by decide +kernel) (pa_cons (pv 1) pa_nil)))
      (pss_cons (ps_setLc (i := 6) (own := [("_law_pair_here", 5)]) (g := gName 5) rfl c_manner_right.nd rfl rfl (sw_true rfl rfl rfl (by decide +kernel)) (pi_list (pv 4))
        (blkOk_by (N := nMR) (sc := defScope s_manner_right) (by decide +kernel)) (fun _ _ _ _ _ => pg_name (i := 5) c_manner_right.nd rfl (Or.inl rfl))
        (fun _ _ _ _ _ => pts_one (pt_val (pe_call G1 hr1 rfl m1 k1 b1 .nil pass0 (pa_cons (pv 1) (pa_cons (pv 3) (pa_cons (pv 5) pa_nil)))))) (fun _ _ _ _ _ => pv 5))
      (pss_cons (ps_set (i := 7) c_manner_right.nd rfl (Or.inl rfl) (pe_call G2 hr5 rfl m2 k2 b2 .nil pass0 (pa_cons (pv 2) (pa_cons (pv 3) pa_nil))))
      (pss_cons (ps_if (pt_not (pt_val (pe_call GE hr4 rfl mE kE bE .nil pass0 (pa_cons (pe_lst (pa_cons (pv 7) (pa_cons (pe_call G3 hr5 rfl m3 k3 b3 .nil pass0 (pa_cons (pv 2) (pa_cons (pv 3) pa_nil))) pa_nil)))
          (pa_cons (pe_lst (pa_cons (pv 6) (pa_cons (pe_callB call_len_seq (by rfl) T.len PySem.boot_len (pa_cons (pv 6) pa_nil)) pa_nil))) pa_nil))))) (pss_one ps_never) pss_nil)
      (pss_cons (ps_expr (pe_bm PySem.F.plainAttrs_list PySem.F.slot_list_append PySem.F.type_list_append mt_append (pv 7) (pa_cons pe_non pa_nil)))
      (pss_cons (ps_for PassesOwn.never rfl (pi_list (pe_slice sl_list (pe_call G4 hr3 rfl m4 k4 b4 .nil pass0 (pa_cons (pv 0) (pa_cons (pv 4) pa_nil))) po_none (po_some pe_int))) (pg_name (i := 5) c_manner_right.nd rfl (Or.inl rfl))
        (pss_cons (ps_set (i := 8) c_manner_right.nd rfl (Or.inl rfl) (pe_call G5 hr5 rfl m5 k5 b5 .nil pass0 (pa_cons (pv 2) (pa_cons (pv 3) (pa_cons (pv 5) pa_nil)))))
        (pss_cons (ps_if (pt_not (pt_val (pe_call GE hr4 rfl mE kE bE .nil pass0 (pa_cons (pe_lst (pa_cons (pv 8) (pa_cons (pe_call G6 hr5 rfl m6 k6 b6 .nil pass0 (pa_cons (pv 2) (pa_cons (pv 3) (pa_cons (pv 5) pa_nil)))) pa_nil)))
            (pa_cons (pe_lst (pa_cons (pe_call G7 hr1 rfl m7 k7 b7 .nil pass0 (pa_cons (pv 1) (pa_cons (pv 3) (pa_cons (pv 5) pa_nil)))) (pa_cons (pe_cmpR (op_inD (room65 hr)) (pv 5) (pv 6) rfl) pa_nil))) pa_nil))))) (pss_one ps_never) pss_nil)
        (pss_cons (ps_expr (pe_bm PySem.F.plainAttrs_list PySem.F.slot_list_append PySem.F.type_list_append mt_append (pv 8) (pa_cons pe_non pa_nil)))
        (pss_one (ps_if (pt_not (pt_val (pe_call GE hr4 rfl mE kE bE .nil pass0 (pa_cons (pe_call G5 hr5 rfl m5 k5 b5 .nil pass0 (pa_cons (pv 2) (pa_cons (pv 3) (pa_cons (pv 5) pa_nil))))
            (pa_cons (pe_call G7 hr1 rfl m7 k7 b7 .nil pass0 (pa_cons (pv 1) (pa_cons (pv 3) (pa_cons (pv 5) pa_nil)))) pa_nil))))) (pss_one ps_never) pss_nil))))))
      (pss_one (ps_ret (pe_ifExp (pt_val (pe_call GE hr4 rfl mE kE bE .nil pass0 (pa_cons (pe_call G2 hr5 rfl m2 k2 b2 .nil pass0 (pa_cons (pv 2) (pa_cons (pv 3) pa_nil))) (pa_cons (pv 6) pa_nil)))) (pe_lst (pa_cons (pv 6) pa_nil)) (pe_lst pa_nil))))))))), ?_⟩
    have l9 := g.few
    have l36 := Good.len0 (xs := xs) l9.2
    have ll : (letL xs ps m).length ≤ 36 := Nat.le_trans (List.length_filter_le _ _) l36
    obtain ⟨Ls, hD, lL, at_⟩ := id kl
    rw [List.take_length] at hD lL
    -- all pairs
    refine ⟨_, rfl, D, _, rfl, .inl hD, fun B bs hB ks => ?_⟩
    have tu := keys_tups lL ks
    have s1 := same_new (o := .lst (bs.map V.ref)) hB
    have hB1 : upd H B (.lst (bs.map V.ref)) B = some (.lst (bs.map V.ref)) := upd_same
    generalize upd H B (.lst (bs.map V.ref)) = H1 at s1 hB1 ⊢
    replace tu := tu.same s1
    have lB : bs.length = (prsS xs).length := by rw [tu.1, List.length_map]
    -- due
    refine ⟨_, rfl, B, rfl, ⟨_, SqL.of hB1⟩, fun I hI => ?_⟩
    refine lc_list (xs := bs.map V.ref) (fun j H4 => ∃ Vs : List Addr, H4 I = some (.lst (Vs.map V.ref)) ∧ Same H1 H4 ∧ Tups H4 Vs ((((prsS xs).take j).filter (letB xs ps m)).map tv))
      ⟨[], upd_same, same_new hI, Tups.nil⟩ (fun j H4 _ ⟨_, _, s6, _⟩ => SqL.of (s6 _ _ hB1)) ?_ ?_
    · rintro j v H4 hv ⟨Vs, hr4', s6, tv4⟩
      rw [List.getElem?_map] at hv
      obtain ⟨U, hU, rfl⟩ := Option.map_eq_some_iff.mp hv
      have jl := (List.getElem?_eq_some_iff.mp hU).1
      obtain ⟨p, hp⟩ : ∃ p, (prsS xs)[j]? = some p := ⟨_, List.getElem?_eq_getElem (by omega)⟩
      have e1 := s6 _ _ (tu.2 j U (tv p) hU (by rw [List.getElem?_map, hp]; rfl))
      have nx : ((prsS xs).take (j + 1)).filter (letB xs ps m) = ((prsS xs).take j).filter (letB xs ps m) ++ (if letB xs ps m p = true then [p] else []) := filter_next hp
      have s16 := s1.trans s6
      refine ⟨rfl, _, rfl, _, rfl, _, rfl, D, t, U, xs, ps, m, p, rfl, kl.same s16, g, hm.same s16, mk, e1, List.mem_of_getElem? hp, fun H6 s7 => ?_⟩
      have hr6 := s7 _ _ hr4'
      have tv6 := tv4.same s7
      have s67 := s6.trans s7
      have e6 := s7 _ _ e1
      refine ⟨_, rfl, ?_⟩
      refine ite2 (fun hb => ?_) (fun hb => ?_)
      · have lu : Vs.length ≤ 36 := by
          rw [tv4.1, List.length_map]
          have h1 := List.length_filter_le (letB xs ps m) ((prsS xs).take j)
          rw [List.length_take] at h1
          omega
        refine ⟨_, rfl, _, hr6, by rw [List.length_map, sizeLine_eq]; omega, Vs ++ [U], by rw [upd_same]; simp, same_over s67 hI, ?_⟩
        rw [nx, if_pos hb, List.map_append]
        have t3 := tv6.upd (a := I) (o := .lst (Vs.map V.ref ++ [V.ref U])) fun x y e => by
          rw [hr6] at e
          cases e
        exact t3.snoc (p := tv p) (by rw [upd_ne (ne_of hr6 e6 (fun z => nomatch z)).symm]; exact e6)
      · refine ⟨Vs, hr6, s67, ?_⟩
        rw [nx, if_neg hb, List.append_nil]
        exact tv6
    rintro H2 ⟨Vs, hr2, s2, tv2⟩
    have e0 : (prsS xs).take (bs.map V.ref).length = prsS xs := by rw [List.length_map, lB, List.take_length]
    rw [e0] at tv2
    have hI2 : PwAt H2 I (letL xs ps m) := ⟨Vs, hr2, tv2⟩
    have hB2 := s2 _ _ hB1
    have tu2 := tu.same s2
    have s02 := s1.trans s2
    clear tv2 hr2 e0 hI
    -- told
    refine ⟨_, rfl, _, rfl, c, t, xs, ps, m, rfl, hc.same s02, g, hm.same s02, mk, fun H3 Z s3 nZ hZ => ?_⟩
    have s03 := s02.trans s3
    refine ⟨_, rfl, _, rfl, _, rfl, c, t, xs, ps, m, rfl, hc.same s03, g, hm.same s03, mk, fun H4 s4 => ?_⟩
    have s04 := s03.trans s4
    refine ⟨by show 2 ≤ sizeLine; decide, fun N1 hN1 => ?_⟩
    obtain ⟨s05, hN5⟩ : Same H4 (upd H4 N1 (.lst [.ref Z, .int ((letL xs ps m).length : Nat)])) ∧ _ := ⟨same_new hN1, upd_same⟩
    generalize upd H4 N1 (.lst [.ref Z, .int ((letL xs ps m).length : Nat)]) = H5 at s05 hN5 ⊢
    obtain ⟨Is, hI5, tI5⟩ := id (hI2.same ((s3.trans s4).trans s05))
    have lI : (Is.map V.ref).length = (letL xs ps m).length := by rw [List.length_map, tI5.1, List.length_map]
    refine ⟨_, rfl, _, rfl, I, _, rfl, .inl (SqL.of hI5), by show 2 ≤ sizeLine; decide, fun N2 hN2 => ?_⟩
    rw [lI]
    obtain ⟨s06, hN6⟩ : Same H5 (upd H5 N2 (.lst [.ref I, .int ((letL xs ps m).length : Nat)])) ∧ _ := ⟨same_new hN2, upd_same⟩
    generalize upd H5 N2 (.lst [.ref I, .int ((letL xs ps m).length : Nat)]) = H6 at s06 hN6 ⊢
    have t36 := (s4.trans s05).trans s06
    refine ⟨_, _, rfl, sm_two (n := 2) (s06 _ _ hN5) hN6 (sm_prs 0 (hZ.same t36) (hI2.same (s3.trans t36)) (by omega)) (Sm.atom _ (.inl ⟨_, rfl⟩)), fun H7 s7 => ⟨_, rfl, iteF ?_⟩⟩
    obtain ⟨Zs, hZ7, uZ⟩ := hZ.same (t36.trans s7)
    have lZ : (Zs.map V.ref).length = (letL xs ps m).length := by rw [List.length_map, uZ.1, List.length_map]
    refine ⟨_, rfl, .inl ⟨rfl, _, SqL.of hZ7⟩, Z, _, _, rfl, rfl, hZ7, by rw [lZ, sizeLine_eq]; omega, ?_⟩
    have s28 : Same H2 (upd H7 Z (.lst (Zs.map V.ref ++ [.non]))) := same_over (s3.trans (t36.trans s7)) nZ
    generalize upd H7 Z (.lst (Zs.map V.ref ++ [.non])) = H8 at s28 ⊢
    have s08 := s02.trans s28
    have hB8 := s28 _ _ hB2
    have tu8 := tu2.same s28
    have hI8 := hI2.same s28
    have pa8 := pa.same s08
    have kl8 := kl.same s08
    have hc8 := hc.same s08
    have hm8 := hm.same s08
    clear hZ7 uZ lZ s7 t36 s06 hN6 hN2 lI tI5 hI5 s05 hN5 hN1 s04 s4 s03 hZ nZ s3 hI2 tu2 hB2 s02 s2 s1 tu hB1 hB ks
    -- shuffled
    refine ⟨_, rfl, _, rfl, q, B, bs.map V.ref, c0, n, rfl, pa8.less (by rw [List.length_map]; omega), hB8, lst_ne pa8 hB8 refs_noint, by rw [List.length_map]; omega, fun H9 Sh ys pm sx9 nSh hSh nShq pa9 => ?_⟩
    obtain ⟨Ys, rfl, pY⟩ := perm_refs pm
    have kl9 := kl8.sameX pa8 sx9
    have hc9 := hc8.sameX pa8 sx9
    have hm9 := hm8.sameP pa8 sx9
    have hI9 := pw_sameX hI8 pa8 sx9
    have tu9 : ∀ U ∈ bs, ∃ p, p ∈ prsS xs ∧ H9 U = some (.tup [.str p.1, .str p.2]) := fun U hU => by
      obtain ⟨pq, hp, e⟩ := tu8.at hU
      obtain ⟨p, hp', rfl⟩ := List.mem_map.mp hp
      exact ⟨p, hp', sx9 _ _ (purse_ne pa8 e fun _ _ _ _ z => nomatch z) e⟩
    refine ⟨2, rfl, Sh, _, rfl, SqL.of hSh, fun Z2 hZ2 => ⟨Z2, rfl, ⟨_, SqL.of upd_same⟩, ?_⟩⟩
    have ec : cutV (Ys.map V.ref) none (some 2) = (Ys.take 2).map V.ref := by
      rw [List.map_take]
      exact cutV_lo (Ys.map V.ref) 2
    rw [ec]
    have s10 := same_new (o := .lst ((Ys.take 2).map V.ref)) hZ2
    have hZ10 : upd H9 Z2 (.lst ((Ys.take 2).map V.ref)) Z2 = some (.lst ((Ys.take 2).map V.ref)) := upd_same
    generalize upd H9 Z2 (.lst ((Ys.take 2).map V.ref)) = H10 at s10 hZ10 ⊢
    have sx10 : SameX q H H10 := ((SameX.of s08).trans sx9).trans (SameX.of s10)
    have kl10 := kl9.same s10
    have hc10 := hc9.same s10
    have hm10 := hm9.same s10
    have hI10 := hI9.same s10
    have pa10 := pa9.same s10
    have gl : Good xs (letL xs ps m) := ⟨g.asc, g.word, g.few, List.filter_sublist⟩
    refine for_list (xs := (Ys.take 2).map V.ref) (fun i σ H' => ∃ v5 v8 : Option V, σ = [some (.ref q), some (.ref D), some (.ref c), some (.ref t), some (.ref B), v5, some (.ref I), some (.ref Z), v8] ∧ Same H10 H')
      ⟨_, none, rfl, Same.refl _⟩ (fun i σ H' _ ⟨_, _, _, z⟩ => SqL.of (z _ _ hZ10)) ?_ ?_
    · rintro i v σ H11 hv ⟨v5, v8, rfl, s11⟩
      rw [List.getElem?_map] at hv
      obtain ⟨U, hU, rfl⟩ := Option.map_eq_some_iff.mp hv
      have mU : U ∈ bs := pY.mem_iff.mp (List.mem_of_mem_take (List.mem_of_getElem? hU))
      obtain ⟨p, hp, eU9⟩ := tu9 U mU
      have eU := s10 _ _ eU9
      have lc : ∀ (p : Pr), (xs.filter (ctP ps m.1 p)).length ≤ 9 := fun p => Nat.le_trans (List.length_filter_le _ _) l9.2
      have lcp := lc p
      refine ⟨_, rfl, _, rfl, _, rfl, c, t, U, xs, ps, m, p, rfl, hc10.same s11, g, hm10.same s11, mk, s11 _ _ eU, hp, fun H12 X s12 nX hX => ?_⟩
      have s112 := s11.trans s12
      refine ⟨_, rfl, _, rfl, _, rfl, _, rfl, c, t, U, xs, ps, m, p, rfl, hc10.same s112, g, hm10.same s112, mk, s112 _ _ eU, hp, fun H13 s13 => ?_⟩
      have s113 := s112.trans s13
      refine ⟨by show 2 ≤ sizeLine; decide, fun N1 hN1 => ?_⟩
      obtain ⟨s14, hN14⟩ : Same H13 (upd H13 N1 (.lst [.ref X, .bl (letB xs ps m p)])) ∧ _ := ⟨same_new hN1, upd_same⟩
      generalize upd H13 N1 (.lst [.ref X, .bl (letB xs ps m p)]) = H14 at s14 hN14 ⊢
      have s114 := s113.trans s14
      refine ⟨_, rfl, _, rfl, _, rfl, D, t, U, xs, ps, m, p, rfl, kl10.same s114, g, hm10.same s114, mk, s114 _ _ eU, hp, fun H15 Y s15 nY hY => ?_⟩
      have s115 := s114.trans s15
      obtain ⟨Is, hI15, tI15⟩ := id (hI10.same s115)
      have mp := mem_prsS g.asc hp
      refine ⟨_, rfl, _, rfl, pd p, (letL xs ps m).map pd, dp_pair (SqT.of (s115 _ _ eU)), dp_pdL (SqL.of hI15) tI15, pd_shaped (g.word _ mp.1) (g.word _ mp.2.1), pdL_shaped gl.wp, ?_⟩
      rw [any_pd]
      have em : decide (p ∈ letL xs ps m) = letB xs ps m p := by
        have : p ∈ letL xs ps m ↔ letB xs ps m p = true := by
          show p ∈ (prsS xs).filter (letB xs ps m) ↔ _
          rw [List.mem_filter]
          exact ⟨fun z => z.2, fun z => ⟨hp, z⟩⟩
        by_cases hb : letB xs ps m p = true
        · rw [hb, decide_eq_true (this.mpr hb)]
        · rw [Bool.eq_false_iff.mpr hb, decide_eq_false fun z => hb (this.mp z)]
      rw [em]
      refine ⟨by show 2 ≤ sizeLine; decide, fun N2 hN2 => ?_⟩
      obtain ⟨s16, hN16⟩ : Same H15 (upd H15 N2 (.lst [.ref Y, .bl (letB xs ps m p)])) ∧ _ := ⟨same_new hN2, upd_same⟩
      generalize upd H15 N2 (.lst [.ref Y, .bl (letB xs ps m p)]) = H16 at s16 hN16 ⊢
      have t1316 := (s14.trans s15).trans s16
      refine ⟨_, _, rfl, sm_two (n := 2) ((s15.trans s16) _ _ hN14) hN16 (sm_strs 1 ((s13.trans t1316) _ _ hX) (s16 _ _ hY) (by omega)) (Sm.atom _ (.inr (.inr ⟨_, rfl⟩))), fun H17 s17 => ⟨_, rfl, iteF ?_⟩⟩
      have hX17 := ((s13.trans t1316).trans s17) _ _ hX
      refine ⟨_, rfl, .inl ⟨rfl, _, SqL.of hX17⟩, X, _, _, rfl, rfl, hX17, by rw [List.length_map, sizeLine_eq]; omega, ?_⟩
      have s18 : Same H11 (upd H17 X (.lst ((xs.filter (ctP ps m.1 p)).map V.str ++ [.non]))) := same_over (s12.trans ((s13.trans t1316).trans s17)) nX
      generalize upd H17 X (.lst ((xs.filter (ctP ps m.1 p)).map V.str ++ [.non])) = H18 at s18 ⊢
      have s118 := s11.trans s18
      refine ⟨_, rfl, _, rfl, _, rfl, c, t, U, xs, ps, m, p, rfl, hc10.same s118, g, hm10.same s118, mk, s118 _ _ eU, hp, fun H19 X2 s19 nX2 hX2 => ?_⟩
      have s119 := s118.trans s19
      refine ⟨_, rfl, _, rfl, _, rfl, D, t, U, xs, ps, m, p, rfl, kl10.same s119, g, hm10.same s119, mk, s119 _ _ eU, hp, fun H20 Y2 s20 nY2 hY2 => ?_⟩
      refine ⟨_, _, rfl, sm_strs 2 (s20 _ _ hX2) hY2 (by omega), fun H21 s21 => ⟨_, rfl, iteF ?_⟩⟩
      exact ⟨_, _, rfl, (s119.trans s20).trans s21⟩
    · rintro σ H11 ⟨v5, v8, rfl, s11⟩
      refine ⟨_, rfl, _, rfl, c, t, xs, ps, m, rfl, hc10.same s11, g, hm10.same s11, mk, fun H12 Z3 s12 nZ3 hZ3 => ?_⟩
      have s112 := s11.trans s12
      refine ⟨_, rfl, _, _, rfl, sm_prs 1 hZ3 (hI10.same s112) (by omega), fun H13 s13 => ⟨_, rfl, iteT ?_⟩⟩
      have s113 := s112.trans s13
      refine ⟨_, rfl, by show 1 ≤ sizeLine; decide, fun R hR => ?_⟩
      have s14 := same_new (o := .lst [.ref I]) hR
      exact k _ R I (sx10.trans (SameX.of (s113.trans s14))) (pa10.same (s113.trans s14)) upd_same (hI10.same (s113.trans s14))
end
end Wd
end
section
set_option maxRecDepth 100000
set_option maxHeartbeats 8000000
namespace Wd
open PySem L2
/-- lists of pairs, each as G says -/
def PwR (H : Hp) (Ls : List Addr) (zss : List (List Pr)) : Prop := Ls.length = zss.length ∧ ∀ (i : Nat) L zs, Ls[i]? = some L → zss[i]? = some zs → PwAt H L zs
theorem PwR.same {H H' : Hp} {Ls : List Addr} {zss : List (List Pr)} (h : PwR H Ls zss) (s : Same H H') : PwR H' Ls zss := ⟨h.1, fun i L zs a b => (h.2 i L zs a b).same s⟩
theorem PwR.sameX {H H' : Hp} {Ls : List Addr} {zss : List (List Pr)} {q : Addr} {c0 : Int} {n : Nat} (h : PwR H Ls zss) (pa : PurseAt H q c0 n) (sx : SameX q H H') : PwR H' Ls zss := ⟨h.1, fun i L zs a b => pw_sameX (h.2 i L zs a b) pa sx⟩
theorem PwR.nil {H : Hp} : PwR H [] [] := ⟨rfl, fun i T m a _ => by cases a⟩
theorem PwR.snoc {H : Hp} {Ls : List Addr} {zss : List (List Pr)} {L : Addr} {zs : List Pr} (h : PwR H Ls zss) (e : PwAt H L zs) : PwR H (Ls ++ [L]) (zss ++ [zs]) := by
  refine ⟨by rw [List.length_append, List.length_append, h.1]; rfl, fun i T' m' a b => ?_⟩
  by_cases c : i < Ls.length
  · rw [List.getElem?_append_left c] at a
    rw [List.getElem?_append_left (by rw [← h.1]; exact c)] at b
    exact h.2 i T' m' a b
  · rw [List.getElem?_append_right (by omega)] at a
    rw [List.getElem?_append_right (by rw [← h.1]; omega), ← h.1] at b
    cases hq : i - Ls.length with
    | zero =>
      rw [hq] at a b
      obtain rfl := Option.some.inj a
      obtain rfl := Option.some.inj b
      exact e
    | succ q =>
      rw [hq] at a
      cases a
theorem PwAt.keep {H : Hp} {L R : Addr} {zs : List Pr} {o : HO} (h : PwAt H L zs) (ne : L ≠ R) (nt : ∀ T x y, H T = some (.tup [x, y]) → T ≠ R) : PwAt (upd H R o) L zs := by
  obtain ⟨Ts, h1, t⟩ := h
  exact ⟨Ts, by rw [upd_ne ne]; exact h1, t.1, fun k T p e1 e2 => by
    have e := t.2 k T p e1 e2
    rw [upd_ne (nt T _ _ e)]
    exact e⟩
theorem sm_pws {H : Hp} {a b : Addr} {Ls Ms : List Addr} {zss : List (List Pr)} (few : zss.length ≤ 100) (hz : ∀ zs ∈ zss, zs.length ≤ 100) (ha : H a = some (.lst (Ls.map V.ref))) (hb : H b = some (.lst (Ms.map V.ref))) (hl : PwR H Ls zss) (hm : PwR H Ms zss) : Sm H 3 (.ref a) (.ref b) := by
  refine .lst ha hb (by rw [List.length_map, List.length_map, hl.1, hm.1]) (by rw [List.length_map, hl.1]; exact few) fun i u v hu hv => ?_
  rw [List.getElem?_map] at hu hv
  obtain ⟨L, hL, rfl⟩ := Option.map_eq_some_iff.mp hu
  obtain ⟨M, hM, rfl⟩ := Option.map_eq_some_iff.mp hv
  have il := (List.getElem?_eq_some_iff.mp hL).1
  have l1 := hl.1
  obtain ⟨zs, h⟩ : ∃ zs, zss[i]? = some zs := ⟨_, List.getElem?_eq_getElem (by omega)⟩
  exact sm_prs 0 (hl.2 i L zs hL h) (hm.2 i M zs hM h) (hz zs (List.mem_of_getElem? h))
/-- lists of texts -/
def StR (H : Hp) (Ls : List Addr) (yss : List (List Str)) : Prop := Ls.length = yss.length ∧ ∀ (i : Nat) L ys, Ls[i]? = some L → yss[i]? = some ys → H L = some (.lst (ys.map V.str))
theorem StR.same {H H' : Hp} {Ls : List Addr} {yss : List (List Str)} (h : StR H Ls yss) (s : Same H H') : StR H' Ls yss := ⟨h.1, fun i L zs a b => s _ _ (h.2 i L zs a b)⟩
theorem StR.nil {H : Hp} : StR H [] [] := ⟨rfl, fun i T m a _ => by cases a⟩
theorem StR.snoc {H : Hp} {Ls : List Addr} {yss : List (List Str)} {L : Addr} {ys : List Str} (h : StR H Ls yss) (e : H L = some (.lst (ys.map V.str))) : StR H (Ls ++ [L]) (yss ++ [ys]) := by
  refine ⟨by rw [List.length_append, List.length_append, h.1]; rfl, fun i T' m' a b => ?_⟩
  by_cases c : i < Ls.length
  · rw [List.getElem?_append_left c] at a
    rw [List.getElem?_append_left (by rw [← h.1]; exact c)] at b
    exact h.2 i T' m' a b
  · rw [List.getElem?_append_right (by omega)] at a
    rw [List.getElem?_append_right (by rw [← h.1]; omega), ← h.1] at b
    cases hq : i - Ls.length with
    | zero =>
      rw [hq] at a b
      obtain rfl := Option.some.inj a
      obtain rfl := Option.some.inj b
      exact e
    | succ q =>
      rw [hq] at a
      cases a
theorem sm_sts {H : Hp} {a b : Addr} {Ls Ms : List Addr} {yss : List (List Str)} (few : yss.length ≤ 100) (hz : ∀ ys ∈ yss, ys.length ≤ 100) (ha : H a = some (.lst (Ls.map V.ref))) (hb : H b = some (.lst (Ms.map V.ref))) (hl : StR H Ls yss) (hm : StR H Ms yss) : Sm H 3 (.ref a) (.ref b) := by
  refine .lst ha hb (by rw [List.length_map, List.length_map, hl.1, hm.1]) (by rw [List.length_map, hl.1]; exact few) fun i u v hu hv => ?_
  rw [List.getElem?_map] at hu hv
  obtain ⟨L, hL, rfl⟩ := Option.map_eq_some_iff.mp hu
  obtain ⟨M, hM, rfl⟩ := Option.map_eq_some_iff.mp hv
  have il := (List.getElem?_eq_some_iff.mp hL).1
  have l1 := hl.1
  obtain ⟨zs, h⟩ : ∃ zs, yss[i]? = some zs := ⟨_, List.getElem?_eq_getElem (by omega)⟩
  exact sm_strs 1 (hl.2 i L zs hL h) (hm.2 i M zs hM h) (hz zs (List.mem_of_getElem? h))
theorem MnsL.sameX {H H' : Hp} {D q : Addr} {c0 : Int} {n : Nat} {ms : List Mn} (h : MnsL H D ms) (pa : PurseAt H q c0 n) (sx : SameX q H H') : MnsL H' D ms := by
  obtain ⟨Ts, a, b⟩ := h
  exact ⟨Ts, sx _ _ (lst_ne pa a refs_noint) a, b.1, fun i T m e1 e2 => (b.2 i T m e1 e2).sameP pa sx⟩
/-- addresses of pairs in another order -/
theorem perm_tups {H : Hp} {Us Ys : List Addr} {ps : List Pr} (t : Tups H Us (ps.map tv)) (pm : Ys.Perm Us) : ∃ qs : List Pr, qs.Perm ps ∧ Tups H Ys (qs.map tv) := by
  have lU : Us.length = ps.length := by rw [t.1, List.length_map]
  have e1 : (Us.zip ps).map Prod.fst = Us := List.map_fst_zip (by omega)
  have e2 : (Us.zip ps).map Prod.snd = ps := List.map_snd_zip (by omega)
  rw [← e1] at pm
  obtain ⟨ws, pw, ew⟩ := perm_lift Prod.fst pm (Us.zip ps) rfl
  refine ⟨ws.map Prod.snd, by have := pw.map Prod.snd; rw [e2] at this; exact this, by rw [← ew]; simp only [List.length_map], fun k T p h1 h2 => ?_⟩
  rw [← ew] at h1
  rw [List.getElem?_map] at h1 h2
  rw [List.getElem?_map] at h2
  obtain ⟨z, hz, rfl⟩ := Option.map_eq_some_iff.mp h1
  rw [hz] at h2
  obtain rfl := Option.some.inj h2
  obtain ⟨j, hj, e⟩ := List.getElem_of_mem (pw.mem_iff.mp (List.mem_of_getElem? hz))
  obtain ⟨z1, z2⟩ := List.getElem?_zip_eq_some.mp (show (Us.zip ps)[j]? = some z by rw [List.getElem?_eq_getElem hj, e])
  exact t.2 j z.1 (tv z.2) z1 (by rw [List.getElem?_map, z2]; rfl)
theorem Tups.take {H : Hp} {Us : List Addr} {ps : List (V × V)} (t : Tups H Us ps) (k : Nat) : Tups H (Us.take k) (ps.take k) :=
  ⟨by rw [List.length_take, List.length_take, t.1], fun i T p a b => by
    rw [List.getElem?_take] at a b
    split at a
    · rename_i h
      rw [if_pos h] at b
      exact t.2 i T p a b
    · cases a⟩
theorem Tups.drop {H : Hp} {Us : List Addr} {ps : List (V × V)} (t : Tups H Us ps) (k : Nat) : Tups H (Us.drop k) (ps.drop k) :=
  ⟨by rw [List.length_drop, List.length_drop, t.1], fun i T p a b => by
    rw [List.getElem?_drop] at a b
    exact t.2 _ T p a b⟩
/-- some of the pairs, brought in order -/
theorem sub_good {xs : List Str} {ps qs : List Pr} (g : Good xs ps) (nd : qs.Nodup) (h : ∀ q ∈ qs, q ∈ prsS xs) : ∃ zs, Good xs zs ∧ qs.Perm zs := by
  refine ⟨(prsS xs).filter fun p => decide (p ∈ qs), ⟨g.asc, g.word, g.few, List.filter_sublist⟩, ?_⟩
  refine (List.perm_ext_iff_of_nodup nd (List.Nodup.sublist List.filter_sublist (prsS_nd g.asc))).mpr fun p => ?_
  rw [List.mem_filter, decide_eq_true_eq]
  exact ⟨fun z => ⟨h p z, z⟩, fun z => z.2⟩
theorem mnsL_mem {xs : List Str} {ps zs : List Pr} : ∀ m ∈ mnsL xs ps zs, m.1 ∈ allK := fun m h => allMn_mem (List.mem_filter.mp h).1
theorem mnsL_len (xs : List Str) (ps zs : List Pr) : (mnsL xs ps zs).length ≤ 16 := List.length_filter_le _ allMn
/-- where all manners of two lists are the same, the lists are -/
theorem mnsL_same {xs : List Str} {ps : List Pr} {m m' : Mn} (h : m' ∈ allMn) (e : mnsL xs ps (letL xs ps m') = mnsL xs ps (letL xs ps m)) : letL xs ps m = letL xs ps m' := by
  have : m' ∈ mnsL xs ps (letL xs ps m') := List.mem_filter.mpr ⟨h, decide_eq_true rfl⟩
  rw [e] at this
  exact (of_decide_eq_true (List.mem_filter.mp this).2).symm
def spCR : Sp := fun vs H Q _ => ∃ (q a : Addr) (c0 : Int) (n : Nat) (xs : List Str) (ps : List Pr), vs = [.ref q, .ref a] ∧ PurseAt H q c0 (n + 664) ∧ WAt H a xs ps ∧ Good xs ps ∧ ∀ H', SameX q H H' → PurseAt H' q c0 n → Q (.bl true) H'
abbrev nCR : List Str := ["_law_purse_here", "_law_world_here", "_law_company_here", "_law_manners", "_law_lets", "_law_lists", "_law_manner", "_law_kept", "_law_pairs_here", "_law_pair_here", "_law_counted", "_law_told", "_law_due", "_law_at_here", "_law_some", "_law_handed"]
end Wd
namespace Wd
open PySem L2
theorem PwR.keep {H : Hp} {Ls : List Addr} {zss : List (List Pr)} {R : Addr} {xs ys : List V} (h : PwR H Ls zss) (hR : H R = some (.lst xs)) (ne : ∀ L ∈ Ls, L ≠ R) : PwR (upd H R (.lst ys)) Ls zss :=
  ⟨h.1, fun i L zs a b => (h.2 i L zs a b).keep (ne L (List.mem_of_getElem? a)) fun T x y e z => by
    rw [z, hR] at e
    cases e⟩
theorem StR.keep {H : Hp} {Ls : List Addr} {yss : List (List Str)} {R : Addr} {o : HO} (h : StR H Ls yss) (ne : ∀ L ∈ Ls, L ≠ R) : StR (upd H R o) Ls yss :=
  ⟨h.1, fun i L zs a b => by
    rw [upd_ne (ne L (List.mem_of_getElem? a))]
    exact h.2 i L zs a b⟩
theorem Tups.sameX {H H' : Hp} {Ts : List Addr} {ps : List (V × V)} {q : Addr} {c0 : Int} {n : Nat} (t : Tups H Ts ps) (pa : PurseAt H q c0 n) (sx : SameX q H H') : Tups H' Ts ps :=
  t.keep fun T o hT e => by
    obtain ⟨p, _, e2⟩ := t.at hT
    exact sx _ _ (purse_ne pa e2 fun _ _ _ _ z => nomatch z) e
end Wd
end
section
set_option maxRecDepth 100000
set_option maxHeartbeats 16000000
namespace Wd
open PySem L2
section
variable {P : Program} {w : World} {K : PySem.W.Frag} {mg : Str → Option Value} {base : Heap}
theorem ok_cr {f C : Addr} {fd : FuncData} (F : Fun K "_law_company_right" "_law_company_right" s_company_right f fd) (T : Bt mg)
    (C1 : Has P w K mg base 6 "_law_company" ["_law_world_here"] (spComp C)) (C2 : Has P w K mg base 1 "_law_all_manners" [] spAllMn) (C3 : Has P w K mg base 2 "_law_kind_lists" ["_law_world_here"] spKl)
    (C4 : Has P w K mg base 6 "_law_manner_right" ["_law_purse_here", "_law_lists", "_law_company_here", "_law_manner"] (spMR C)) (C5 : Has P w K mg base 5 "let_pairs" ["company", "manner"] (spLetP C)) (C6 : Has P w K mg base 3 "_law_shuffled" ["_law_purse_here", "_law_some"] spShuffled)
    (C7 : Has P w K mg base 1 "_law_pairs" ["_law_crowd"] spPairs) (C8 : Has P w K mg base 5 "counted_people" ["company", "manner", "pair"] (spCntP C)) (C9 : Has P w K mg base 5 "manners_letting" ["company", "pairs"] (spMnL C)) (CO : Has P w K mg base 1 "_law_own_counted" ["_law_lists", "_law_manner", "_law_pair_here"] spOwnC)
    (CE : Has P w K mg base 5 "_law_exact" ["_law_mine", "_law_theirs"] (spExact 4)) (CS : Has P w K mg base 7 "_law_stays" ["_law_world_here", "_law_company_here"] (spStays C)) : FnOk P w K mg base CX0 8 f fd ["_law_purse_here", "_law_world_here"] spCR := by
  obtain ⟨f1, d1, G1, m1, k1, b1⟩ := C1
  obtain ⟨f2, d2, G2, m2, k2, b2⟩ := C2
  obtain ⟨f3, d3, G3, m3, k3, b3⟩ := C3
  obtain ⟨f4, d4, G4, m4, k4, b4⟩ := C4
  obtain ⟨f5, d5, G5, m5, k5, b5⟩ := C5
  obtain ⟨f6, d6, G6, m6, k6, b6⟩ := C6
  obtain ⟨f7, d7, G7, m7, k7, b7⟩ := C7
  obtain ⟨f8, d8, G8, m8, k8, b8⟩ := C8
  obtain ⟨f9, d9, G9, m9, k9, b9⟩ := C9
  obtain ⟨fO, dO, GO, mO, kO, bO⟩ := CO
  obtain ⟨fE, dE, GE, mE, kE, bE⟩ := CE
  obtain ⟨fS, dS, GS, mS, kS, bS⟩ := CS
  refine F.ok c_company_right (fun vs H Q E h => ?_) (fun cdv A outer s H vs Q E hr h => ?_)
  · obtain ⟨_, _, _, _, _, _, rfl, _⟩ := h
    rfl
  · obtain ⟨q, a, c0, n, xs, ps, rfl, pa, W0, g, k⟩ := h
    have hr1 : Room 1 _ := hr.mono (by decide)
    have hr2 : Room 2 _ := hr.mono (by decide)
    have hr3 : Room 3 _ := hr.mono (by decide)
    have hr5 : Room 5 _ := hr.mono (by decide)
    have hr6 : Room 6 _ := hr.mono (by decide)
    have hr7 : Room 7 _ := hr.mono (by decide)
    refine ⟨_, pss_cons (ps_asg (pe_tup (pa_cons (pe_call G1 hr6 rfl m1 k1 b1 .nil pass0 (pa_cons (pv 1) pa_nil)) (pa_cons (pe_call0 G2 hr1 rfl m2 k2 b2 .nil pass0) (pa_cons (pe_lst pa_nil) (pa_cons (pe_call G3 hr2 rfl m3 k3 b3 .nil pass0 (pa_cons (pv 1) pa_nil)) pa_nil)))))
        (pg_tup rfl (pgs_cons (pg_name (i := 2) c_company_right.nd rfl (Or.inr rfl)) (pgs_cons (pg_name (i := 3) c_company_right.nd rfl (Or.inr rfl)) (pgs_cons (pg_name (i := 4) c_company_right.nd rfl (Or.inr rfl)) (pgs_cons (pg_name (i := 5) c_company_right.nd rfl (Or.inr rfl)) pgs_nil))))))
      (pss_cons (ps_for PassesOwn.never rfl (pi_list (pv 3)) (pg_name (i := 6) c_company_right.nd rfl (Or.inl rfl))
        (pss_one (ps_set (i := 4) c_company_right.nd rfl (Or.inr rfl) (pe_op op_cat (pv 4) (pe_call G4 hr6 rfl m4 k4 b4 .nil pass0 (pa_cons (pv 0) (pa_cons (pv 5) (pa_cons (pv 2) (pa_cons (pv 6) pa_nil)))))))))
      (pss_cons (ps_if (pt_cmpR op_ne (pe_callB call_len_seq (by rfl) T.len PySem.boot_len (pa_cons (pv 4) pa_nil)) pe_int (nomark _)) (pss_one ps_never) pss_nil)
      (pss_cons (ps_setLc (i := 7) (own := [("_law_manner", 6)]) (g := gName 6) (tt := tYes) rfl c_company_right.nd rfl rfl (sw_true rfl rfl rfl (by decide +kernel)) (pi_list (pv 3))
        (blkOk_by (N := nCR) (sc := defScope s_company_right) (by decide +kernel)) (fun _ _ _ _ _ => pg_name (i := 6) c_company_right.nd rfl (Or.inl rfl)) (fun _ _ _ _ _ => pts_nil)
        (fun _ _ _ _ _ => pe_call G5 hr5 rfl m5 k5 b5 .nil pass0 (pa_cons (pv 2) (pa_cons (pv 6) pa_nil))))
      (pss_cons (ps_set (i := 8) c_company_right.nd rfl (Or.inr rfl) (pe_slice sl_list (pe_call G6 hr3 rfl m6 k6 b6 .nil pass0 (pa_cons (pv 0) (pa_cons (pe_call G7 hr1 rfl m7 k7 b7 .nil pass0 (pa_cons (pe_ix ix_list (pv 1) pe_int (fun _ _ => rfl)) pa_nil)) pa_nil))) po_none (po_some pe_int)))
      (pss_cons (ps_setLc (i := 10) (own := [("_law_pair_here", 9)]) (g := gName 9) (tt := tYes) rfl c_company_right.nd rfl rfl (sw_true rfl rfl rfl (by decide +kernel)) (pi_list (pv 8))
        (blkOk_by (N := nCR) (sc := defScope s_company_right) (by decide +kernel)) (fun _ _ _ _ _ => pg_name (i := 9) c_company_right.nd rfl (Or.inl rfl)) (fun _ _ _ _ _ => pts_nil)
        (fun _ _ _ _ _ => pe_call G8 hr5 rfl m8 k8 b8 .nil pass0 (pa_cons (pv 2) (pa_cons (pe_tup (pa_cons (pe_tup (pa_cons pe_int (pa_cons pe_int pa_nil))) (pa_cons pe_str pa_nil))) (pa_cons (pv 9) pa_nil)))))
      (pss_cons (ps_set (i := 11) c_company_right.nd rfl (Or.inl rfl) (pe_call G9 hr5 rfl m9 k9 b9 .nil pass0 (pa_cons (pv 2) (pa_cons (pe_ix ix_list (pv 4) pe_int (fun _ _ => rfl)) pa_nil))))
      (pss_cons (ps_if (PW.pt (pw_or (PW.pt (pw_and (pt_cmpR (op_eqD hr.units) (pe_call G9 hr5 rfl m9 k9 b9 .nil pass0 (pa_cons (pv 2) (pa_cons (pe_ix ix_list (pv 4) pe_int (fun _ _ => rfl)) pa_nil))) (pv 11) (nomark _))
            (pw_and1 (pt_cmpR (op_neD hr.units) (pe_ix ix_list (pv 4) pe_int (fun _ _ => rfl)) (pe_ix ix_list (pv 4) pe_int (fun _ _ => rfl)) (nomark _)))))
          (pw_or1 (pt_not (pt_val (pe_call GE hr5 rfl mE kE bE .nil pass0 (pa_cons (pv 7) (pa_cons (pv 4) pa_nil)))))))) (pss_one ps_never) pss_nil)
      (pss_cons (ps_setLc (i := 12) (own := [("_law_pair_here", 9)]) (g := gName 9) (tt := tYes) rfl c_company_right.nd rfl rfl (sw_true rfl rfl rfl (by decide +kernel)) (pi_list (pv 8))
        (blkOk_by (N := nCR) (sc := defScope s_company_right) (by decide +kernel)) (fun _ _ _ _ _ => pg_name (i := 9) c_company_right.nd rfl (Or.inl rfl)) (fun _ _ _ _ _ => pts_nil)
        (fun _ _ _ _ _ => pe_call GO hr1 rfl mO kO bO .nil pass0 (pa_cons (pv 5) (pa_cons (pe_tup (pa_cons (pe_tup (pa_cons pe_int (pa_cons pe_int pa_nil))) (pa_cons pe_str pa_nil))) (pa_cons (pv 9) pa_nil)))))
      (pss_cons (ps_if (pt_not (pt_val (pe_call GE hr5 rfl mE kE bE .nil pass0 (pa_cons (pe_lst (pa_cons (pv 10) (pa_cons (pv 11) pa_nil))) (pa_cons (pe_lst (pa_cons (pv 12) (pa_cons
          (pe_lc (own := [("_law_at_here", 13)]) (g := gName 13) rfl c_company_right.nd (pi_range1 rfl T.range (pa_cons pe_int pa_nil)) (blkOk_by (N := nCR) (sc := defScope s_company_right) (by decide +kernel)) (fun _ _ _ _ _ => pg_name (i := 13) c_company_right.nd rfl (Or.inl rfl))
            (fun _ _ _ _ _ => pts_one (pt_cmpR (r := rEqD K) (op_eqD hr.units) (pe_ix (r := rIxL K) ix_list (pv 4) (pv 13) (fun _ _ => rfl)) (pe_ix (r := rIxL K) ix_list (pv 4) pe_int (fun _ _ => rfl)) (nomark _))) (fun _ _ _ _ _ => pe_ix (r := rIxL K) ix_list (pv 3) (pv 13) (fun _ _ => rfl))) pa_nil))) pa_nil))))) (pss_one ps_never) pss_nil)
      (pss_cons (ps_set (i := 14) c_company_right.nd rfl (Or.inl rfl) (pe_call G6 hr3 rfl m6 k6 b6 .nil pass0 (pa_cons (pv 0) (pa_cons (pe_call G7 hr1 rfl m7 k7 b7 .nil pass0 (pa_cons (pe_ix ix_list (pv 1) pe_int (fun _ _ => rfl)) pa_nil)) pa_nil))))
      (pss_cons (ps_for PassesOwn.never rfl (pi_list (pe_op op_cat (pe_slice sl_list (pe_call G6 hr3 rfl m6 k6 b6 .nil pass0 (pa_cons (pv 0) (pa_cons (pv 4) pa_nil))) po_none (po_some pe_int))
          (pe_lst (pa_cons (pe_callB (Kx.cr_sortedD hr.units) (by rfl) T.sorted (by decide +kernel) (pa_cons (pe_slice sl_list (pv 14) po_none (po_some pe_int)) pa_nil)) (pa_cons (pe_callB (Kx.cr_sortedD hr.units) (by rfl) T.sorted (by decide +kernel) (pa_cons (pe_slice sl_list (pv 14) (po_some pe_int) po_none) pa_nil))
            (pa_cons (pe_slice sl_list (pe_ix ix_list (pv 4) pe_int (fun _ _ => rfl)) (po_some pe_int) po_none) (pa_cons (pe_lst pa_nil) pa_nil))))))) (pg_name (i := 8) c_company_right.nd rfl (Or.inr rfl))
        (pss_cons (ps_par (i := 12) (j := 15) rfl c_company_right.nd rfl rfl (by decide) rfl rfl (pa_cons
            (pe_lc (own := [("_law_at_here", 13)]) (g := gName 13) rfl c_company_right.nd (pi_range1 rfl T.range (pa_cons pe_int pa_nil)) (blkOk_by (N := nCR) (sc := defScope s_company_right) (by decide +kernel)) (fun _ _ _ _ _ => pg_name (i := 13) c_company_right.nd rfl (Or.inl rfl))
              (fun _ _ _ _ _ => pts_one (pt_cmpR (r := rEqD K) (op_eqD hr.units) (pe_ix (r := rIxL K) ix_list (pv 4) (pv 13) (fun _ _ => rfl)) (pv 8) (nomark _))) (fun _ _ _ _ _ => pe_ix (r := rIxL K) ix_list (pv 3) (pv 13) (fun _ _ => rfl)))
            (pa_cons (pe_callTy call_list_of (by rfl) T.list (by decide +kernel) (pa_cons (pv 8) pa_nil)) pa_nil)) (by rfl))
        (pss_cons (ps_set (i := 11) c_company_right.nd rfl (Or.inl rfl) (pe_call G9 hr5 rfl m9 k9 b9 .nil pass0 (pa_cons (pv 2) (pa_cons (pv 15) pa_nil))))
        (pss_cons (ps_if (pt_not (pt_val (pe_call GE hr5 rfl mE kE bE .nil pass0 (pa_cons (pe_lst (pa_cons (pv 11) (pa_cons (pv 15) pa_nil))) (pa_cons (pe_lst (pa_cons (pv 12) (pa_cons (pv 8) pa_nil))) pa_nil))))) (pss_one ps_never) pss_nil)
        (pss_cons (ps_expr (pe_bm PySem.F.plainAttrs_list PySem.F.slot_list_append PySem.F.type_list_append mt_append (pv 11) (pa_cons pe_non pa_nil)))
        (pss_one (ps_if (pt_not (pt_val (pe_call GE hr5 rfl mE kE bE .nil pass0 (pa_cons (pe_call G9 hr5 rfl m9 k9 b9 .nil pass0 (pa_cons (pe_call G1 hr6 rfl m1 k1 b1 .nil pass0 (pa_cons (pv 1) pa_nil)) (pa_cons (pv 8) pa_nil))) (pa_cons (pv 12) pa_nil))))) (pss_one ps_never) pss_nil)))))))
      (pss_one (ps_ret (pe_call GS hr7 rfl mS kS bS .nil pass0 (pa_cons (pv 1) (pa_cons (pv 2) pa_nil)))))))))))))))), ?_⟩
    have l9 := g.few
    have l36 := Good.len0 (xs := xs) l9.2
    have lxs : (xs.map V.str).length = xs.length := List.length_map _
    have gl : ∀ m, Good xs (letL xs ps m) := fun m => ⟨g.asc, g.word, g.few, List.filter_sublist⟩
    have l16 : allMn.length = 16 := rfl
    refine ⟨_, rfl, a, xs, ps, rfl, W0, g, fun H1 c s1 nc hc => ?_⟩
    refine ⟨rfl, fun H2 M s2 nM hM => ?_⟩
    refine ⟨by decide, fun F0 hF0 => ?_⟩
    have e3 := same_new (o := .lst []) hF0
    have f0 : upd H2 F0 (.lst []) F0 = some (.lst []) := upd_same
    generalize upd H2 F0 (.lst []) = H3 at e3 f0 ⊢
    have s3 := (s1.trans s2).trans e3
    refine ⟨_, rfl, a, xs, ps, rfl, W0.same s3, g, fun H4 KL s4 nKL kl => ?_⟩
    refine ⟨by show 4 ≤ sizeLine; decide, fun T1 hT1 => ?_⟩
    have e5 : Same H4 (upd H4 T1 (.tup [.ref c, .ref M, .ref F0, .ref KL])) := same_new hT1
    refine ⟨T1, _, rfl, SqT.of upd_same, rfl, _, _, rfl, _, _, rfl, _, _, rfl, _, _, rfl, rfl, ?_⟩
    generalize upd H4 T1 (.tup [.ref c, .ref M, .ref F0, .ref KL]) = H5 at e5 ⊢
    have s5 := (s3.trans s4).trans e5
    have W5 := W0.same s5
    have hc5 := hc.same (((s2.trans e3).trans s4).trans e5)
    have hM5 := hM.same ((e3.trans s4).trans e5)
    have kl5 := kl.same e5
    have f5 := (s4.trans e5) _ _ f0
    have pa5 := pa.same s5
    clear e5 kl f0 hM hc e3 s2 s1 s3 s4 hT1 hF0 nc nM nKL
    obtain ⟨Ms, hMs, rM⟩ := id hM5
    have lM : Ms.length = 16 := rM.1
    refine ⟨_, rfl, M, rfl, ⟨_, SqL.of hMs⟩, ?_⟩
    have mq : M ≠ q := lst_ne pa5 hMs refs_noint
    refine for_list (xs := Ms.map V.ref) (fun i σ H' => ∃ (F1 : Addr) (v6 : Option V) (Ls : List Addr), σ = [some (.ref q), some (.ref a), some (.ref c), some (.ref M), some (.ref F1), some (.ref KL), v6, none, none, none, none, none, none, none, none, none] ∧
        SameX q H5 H' ∧ PurseAt H' q c0 (n + 88 + (16 - i) * 36) ∧ H' F1 = some (.lst (Ls.map V.ref)) ∧ PwR H' Ls ((allMn.take i).map (letL xs ps)))
      ⟨F0, none, [], rfl, SameX.refl _ _, pa5, f5, PwR.nil⟩ (fun i σ H' _ ⟨_, _, _, _, z, _⟩ => SqL.of (z _ _ mq hMs)) ?_ ?_
    · rintro i v σ H6 hv ⟨F1, v6, Ls, rfl, sx6, pa6, hF, rL⟩
      rw [List.getElem?_map] at hv
      obtain ⟨t, ht, rfl⟩ := Option.map_eq_some_iff.mp hv
      have il := (List.getElem?_eq_some_iff.mp ht).1
      obtain ⟨m, hm⟩ : ∃ m, allMn[i]? = some m := ⟨_, List.getElem?_eq_getElem (by omega)⟩
      have mk := allMn_mem (List.mem_of_getElem? hm)
      have mt := (rM.2 i t m ht hm).sameP pa5 sx6
      have en : n + 88 + (16 - i) * 36 = n + 88 + (16 - (i + 1)) * 36 + 36 := by omega
      rw [en] at pa6
      refine ⟨_, rfl, _, rfl, _, rfl, _, rfl, _, rfl, q, KL, c, t, c0, _, xs, ps, m, rfl, pa6, kl5.sameX pa5 sx6, hc5.sameX pa5 sx6, g, mt, mk, fun H7 R L sx7 pa7 hR hL => ?_⟩
      have hF7 := sx7 _ _ (lst_ne pa6 hF refs_noint) hF
      have lL := rL.1
      rw [List.length_map, List.length_take] at lL
      refine ⟨F1, R, _, _, rfl, rfl, hF7, hR, by rw [List.length_map, sizeLine_eq]; show Ls.length + 1 ≤ _; omega, fun F2 hF2 => ?_⟩
      have e8 := same_new (o := .lst (Ls.map V.ref ++ [V.ref L])) hF2
      refine ⟨F2, _, Ls ++ [L], rfl, (sx6.trans sx7).trans (SameX.of e8), pa7.same e8, by rw [upd_same, List.map_append]; rfl, ?_⟩
      rw [take_next hm, List.map_append]
      exact ((rL.sameX pa6 sx7).snoc hL).same e8
    rintro σ H6 ⟨F1, v6, Ls, rfl, sx6, pa6, hF6, rL6⟩
    rw [List.length_map, lM, show allMn.take 16 = allMn from rfl] at rL6
    rw [List.length_map, lM] at pa6
    have lL : Ls.length = 16 := rL6.1
    refine ⟨_, rfl, F1, _, rfl, .inl (SqL.of hF6), rfl, _, rfl, ite_f (by rw [List.length_map, lL]; rfl) ?_⟩
    have W6 := W5.sameX pa5 sx6
    have hc6 := hc5.sameX pa5 sx6
    have hM6 := hM5.sameX pa5 sx6
    have kl6 := kl5.sameX pa5 sx6
    have sx06 : SameX q H H6 := (SameX.of s5).trans sx6
    clear sx6 pa5 f5 kl5 hM5 hc5 W5 s5 rM hMs mq
    -- kept
    obtain ⟨Ms, hMs, rM⟩ := id hM6
    have lM : Ms.length = 16 := rM.1
    refine ⟨_, rfl, M, rfl, ⟨_, SqL.of hMs⟩, fun R0 hR0 => ?_⟩
    refine lc_list (xs := Ms.map V.ref) (fun i H' => Same H6 H' ∧ ∃ Ks : List Addr, H' R0 = some (.lst (Ks.map V.ref)) ∧ PwR H' Ks ((allMn.take i).map (letL xs ps)) ∧ ∀ L ∈ Ks, L ≠ R0) ⟨same_new hR0, [], upd_same, PwR.nil, fun L h => by cases h⟩ (fun i H' _ z => SqL.of (z.1 _ _ hMs)) ?_ ?_
    · rintro i v H7 hv ⟨s7, Ks, hK, rK, nK⟩
      rw [List.getElem?_map] at hv
      obtain ⟨t, ht, rfl⟩ := Option.map_eq_some_iff.mp hv
      have il := (List.getElem?_eq_some_iff.mp ht).1
      obtain ⟨m, hm⟩ : ∃ m, allMn[i]? = some m := ⟨_, List.getElem?_eq_getElem (by omega)⟩
      have mk := allMn_mem (List.mem_of_getElem? hm)
      refine ⟨rfl, _, rfl, _, rfl, c, t, xs, ps, m, rfl, hc6.same s7, g, (rM.2 i t m ht hm).same s7, mk, fun H8 D s8 nD hD => ?_⟩
      have hK8 := s8 _ _ hK
      have nDR : D ≠ R0 := fun z => by
        rw [z, hK] at nD
        cases nD
      have lK := rK.1
      rw [List.length_map, List.length_take] at lK
      refine ⟨_, hK8, by rw [List.length_map, sizeLine_eq]; omega, same_over (s7.trans s8) hR0, Ks ++ [D], by rw [upd_same, List.map_append]; rfl, ?_, fun L h => ?_⟩
      · rw [take_next hm, List.map_append]
        exact ((rK.same s8).snoc hD).keep hK8 fun L h => by
          rcases List.mem_append.mp h with z | z
          · exact nK L z
          · rw [List.mem_singleton.mp z]
            exact nDR
      · rcases List.mem_append.mp h with z | z
        · exact nK L z
        · rw [List.mem_singleton.mp z]
          exact nDR
    rintro H7 ⟨s7, Ks, hK7, rK7, _⟩
    rw [List.length_map, lM, show allMn.take 16 = allMn from rfl] at rK7
    have W7 := W6.same s7
    have hc7 := hc6.same s7
    have hM7 := hM6.same s7
    have kl7 := kl6.same s7
    have hF7 := s7 _ _ hF6
    have rL7 := rL6.same s7
    have pa7 := pa6.same s7
    have sx07 : SameX q H H7 := sx06.trans (SameX.of s7)
    clear hR0 s7 pa6 rL6 hF6 kl6 hM6 hc6 W6 rM hMs sx06
    -- some pairs
    obtain ⟨wc, wl, ha, hwc, _⟩ := id W7
    refine ⟨_, rfl, _, rfl, a, _, _, .ref wc, rfl, rfl, SqL.of ha, rfl, wc, xs.map V.str, rfl, hwc, by omega, fun H8 B s8 nB ⟨Us, hB, uu⟩ => ?_⟩
    rw [prs_strs] at uu
    have lU : Us.length = (prsS xs).length := by rw [uu.1, List.length_map]
    have pa8 := pa7.same s8
    refine ⟨q, B, Us.map V.ref, c0, n + 52, rfl, pa8.less (by rw [List.length_map]; omega), hB, lst_ne pa8 hB refs_noint, by rw [List.length_map]; omega, fun H9 Sh ys pm sx9 nSh hSh nShq pa9 => ?_⟩
    obtain ⟨Ys, rfl, pY⟩ := perm_refs pm
    obtain ⟨qs, pqs, tq8⟩ := perm_tups uu pY
    have tq9 := tq8.sameX pa8 sx9
    have sx79 : SameX q H7 H9 := (SameX.of s8).trans sx9
    refine ⟨3, rfl, Sh, _, rfl, SqL.of hSh, fun Z hZ => ?_⟩
    have ec : cutV (Ys.map V.ref) none (some 3) = (Ys.take 3).map V.ref := by
      rw [List.map_take]
      exact cutV_lo (Ys.map V.ref) 3
    rw [ec]
    have e10 := same_new (o := .lst ((Ys.take 3).map V.ref)) hZ
    have hZ10 : upd H9 Z (.lst ((Ys.take 3).map V.ref)) Z = some (.lst ((Ys.take 3).map V.ref)) := upd_same
    generalize upd H9 Z (.lst ((Ys.take 3).map V.ref)) = H10 at e10 hZ10 ⊢
    have tz : Tups H10 (Ys.take 3) ((qs.take 3).map tv) := by
      have := (tq9.same e10).take 3
      rw [← List.map_take] at this
      exact this
    have sx710 : SameX q H7 H10 := sx79.trans (SameX.of e10)
    have W10 := W7.sameX pa7 sx710
    have hc10 := hc7.sameX pa7 sx710
    have hM10 := hM7.sameX pa7 sx710
    have kl10 := kl7.sameX pa7 sx710
    have hF10 := sx710 _ _ (lst_ne pa7 hF7 refs_noint) hF7
    have hK10 := sx710 _ _ (lst_ne pa7 hK7 refs_noint) hK7
    have rL10 := rL7.sameX pa7 sx710
    have rK10 := rK7.sameX pa7 sx710
    have pa10 := pa9.same e10
    have sx010 : SameX q H H10 := sx07.trans sx710
    have lq3 : (qs.take 3).length ≤ 3 := by rw [List.length_take]; omega
    have qin : ∀ p ∈ qs.take 3, p ∈ prsS xs := fun p hp => pqs.mem_iff.mp (List.mem_of_mem_take hp)
    clear pqs tq8 tq9 e10 hZ sx79 pa9 nShq hSh nSh sx9 pY pm pa8 uu hB nB s8 lU ha hwc sx710 pa7 rK7 rL7 hK7 hF7 kl7 hM7 hc7 W7 sx07
    obtain ⟨zq, ezq⟩ : ∃ zq, zq = qs.take 3 := ⟨_, rfl⟩
    obtain ⟨Zs, eZs⟩ : ∃ Zs, Zs = Ys.take 3 := ⟨_, rfl⟩
    rw [← ezq] at tz lq3 qin
    rw [← eZs] at tz hZ10
    clear ezq eZs
    have lZ : Zs.length = zq.length := by rw [tz.1, List.length_map]
    have lcp : ∀ (ks : List Int) (p : Pr), (xs.filter (ctP ps ks p)).length ≤ 9 := fun ks p => Nat.le_trans (List.length_filter_le _ _) l9.2
    -- counted
    refine ⟨_, rfl, Z, rfl, ⟨_, SqL.of hZ10⟩, fun R1 hR1 => ?_⟩
    refine lc_list (xs := Zs.map V.ref) (fun i H' => Same H10 H' ∧ ∃ Ks : List Addr, H' R1 = some (.lst (Ks.map V.ref)) ∧ StR H' Ks ((zq.take i).map fun p => xs.filter (ctP ps [1, 2] p)) ∧ ∀ L ∈ Ks, L ≠ R1) ⟨same_new hR1, [], upd_same, StR.nil, fun L h => by cases h⟩ (fun i H' _ z => SqL.of (z.1 _ _ hZ10)) ?_ ?_
    · rintro i v H11 hv ⟨s11, Qs, hQ, rQ, nQ⟩
      rw [List.getElem?_map] at hv
      obtain ⟨U, hU, rfl⟩ := Option.map_eq_some_iff.mp hv
      have il := (List.getElem?_eq_some_iff.mp hU).1
      obtain ⟨p, hp⟩ : ∃ p, zq[i]? = some p := ⟨_, List.getElem?_eq_getElem (by omega)⟩
      have eU := s11 _ _ (tz.2 i U (tv p) hU (by rw [List.getElem?_map, hp]; rfl))
      refine ⟨rfl, _, rfl, by show 2 ≤ sizeLine; decide, fun A1 hA1 => ?_⟩
      have e12 := same_new (o := .tup [.int 1, .int 2]) hA1
      have hA12 : upd H11 A1 (.tup [.int 1, .int 2]) A1 = some (.tup [.int 1, .int 2]) := upd_same
      generalize upd H11 A1 (.tup [.int 1, .int 2]) = H12 at e12 hA12 ⊢
      refine ⟨by show 2 ≤ sizeLine; decide, fun A2 hA2 => ?_⟩
      have e13 := same_new (o := .tup [.ref A1, .str ("even" : Str)]) hA2
      have hA22 : upd H12 A2 (.tup [.ref A1, .str ("even" : Str)]) A2 = some (.tup [.ref A1, .str ("even" : Str)]) := upd_same
      generalize upd H12 A2 (.tup [.ref A1, .str ("even" : Str)]) = H13 at e13 hA22 ⊢
      have e113 := e12.trans e13
      have s13 := s11.trans e113
      refine ⟨_, rfl, c, A2, U, xs, ps, ([1, 2], false), p, rfl, hc10.same s13, g, ⟨A1, hA22, e13 _ _ hA12⟩, by decide, e113 _ _ eU, qin p (List.mem_of_getElem? hp), fun H14 D s14 nD hD => ?_⟩
      have e114 := e113.trans s14
      have hQ14 := e114 _ _ hQ
      have nDR : D ≠ R1 := fun z => by
        rw [z, e113 _ _ hQ] at nD
        cases nD
      have lQ := rQ.1
      rw [List.length_map, List.length_take] at lQ
      refine ⟨_, hQ14, by rw [List.length_map, sizeLine_eq]; omega, same_over (s11.trans e114) hR1, Qs ++ [D], by rw [upd_same, List.map_append]; rfl, ?_, fun L h => ?_⟩
      · rw [take_next hp, List.map_append]
        exact ((rQ.same e114).snoc hD).keep fun L h => by
          rcases List.mem_append.mp h with z | z
          · exact nQ L z
          · rw [List.mem_singleton.mp z]
            exact nDR
      · rcases List.mem_append.mp h with z | z
        · exact nQ L z
        · rw [List.mem_singleton.mp z]
          exact nDR
    rintro H11 ⟨s11, Qs, hQ11, rQ11, _⟩
    rw [List.length_map, lZ, List.take_length] at rQ11
    have hZ11 := s11 _ _ hZ10
    have tz11 := tz.same s11
    have W11 := W10.same s11
    have hc11 := hc10.same s11
    have hM11 := hM10.same s11
    have kl11 := kl10.same s11
    have hF11 := s11 _ _ hF10
    have hK11 := s11 _ _ hK10
    have rL11 := rL10.same s11
    have rK11 := rK10.same s11
    have pa11 := pa10.same s11
    have sx011 : SameX q H H11 := sx010.trans (SameX.of s11)
    clear hR1 s11 hZ10 tz sx010 pa10 rK10 rL10 hK10 hF10 kl10 hM10 hc10 W10
    -- the manners that let what the first two let
    obtain ⟨L0, h0⟩ : ∃ L, Ls[0]? = some L := ⟨_, List.getElem?_eq_getElem (by omega)⟩
    obtain ⟨L1, h1⟩ : ∃ L, Ls[1]? = some L := ⟨_, List.getElem?_eq_getElem (by omega)⟩
    obtain ⟨L9, h9⟩ : ∃ L, Ls[9]? = some L := ⟨_, List.getElem?_eq_getElem (by omega)⟩
    have q0 := rL11.2 0 L0 (letL xs ps ([], false)) h0 rfl
    have q1 := rL11.2 1 L1 (letL xs ps ([], true)) h1 rfl
    refine ⟨_, rfl, _, rfl, F1, _, _, .ref L0, rfl, rfl, SqL.of hF11, atI_nat (j := 0) (by rw [List.getElem?_map, h0]; rfl), c, L0, xs, ps, letL xs ps ([], false), rfl, hc11, g, q0, gl _, fun H12 Dt s12 nDt hDt => ?_⟩
    refine ⟨_, rfl, _, rfl, F1, _, _, .ref L1, rfl, rfl, SqL.of (s12 _ _ hF11), atI_nat (j := 1) (by rw [List.getElem?_map, h1]; rfl), c, L1, xs, ps, letL xs ps ([], true), rfl, hc11.same s12, g, q1.same s12, gl _, fun H13 Dt1 s13 nDt1 hDt1 => ?_⟩
    have dpm : ∀ {H' : Hp} {D : Addr} {ms : List Mn}, MnsL H' D ms → Dp K H' (.ref D) (mnsD ms) := fun {H' D ms} h => by
      obtain ⟨Ts, e1, e2⟩ := h
      exact .lst (SqL.of e1) (dp_mns e2)
    have dpp : ∀ {H' : Hp} {D : Addr} {zs : List Pr}, PwAt H' D zs → Dp K H' (.ref D) (pdL zs) := fun {H' D zs} h => by
      obtain ⟨Ts, e1, e2⟩ := h
      exact dp_pdL (SqL.of e1) e2
    refine ⟨_, rfl, mnsD (mnsL xs ps (letL xs ps ([], true))), mnsD (mnsL xs ps (letL xs ps ([], false))), dpm hDt1, dpm (hDt.same s13), mns_shaped mnsL_mem, mns_shaped mnsL_mem, _, rfl, ?_⟩
    have s1113 := s12.trans s13
    have hF13 := s1113 _ _ hF11
    refine ite_join (fun h => ⟨_, rfl, F1, _, _, .ref L0, rfl, rfl, SqL.of hF13, atI_nat (j := 0) (by rw [List.getElem?_map, h0]; rfl), _, rfl, F1, _, _, .ref L1, rfl, rfl, SqL.of hF13, atI_nat (j := 1) (by rw [List.getElem?_map, h1]; rfl),
      pdL (letL xs ps ([], false)), pdL (letL xs ps ([], true)), dpp (q0.same s1113), dpp (q1.same s1113), pdL_shaped (gl _).wp, pdL_shaped (gl _).wp, _, rfl, h⟩) (ite_f ?_ ?_)
    · rw [eqv_mns, eqv_pdL]
      by_cases e : mnsL xs ps (letL xs ps ([], true)) = mnsL xs ps (letL xs ps ([], false))
      · rw [decide_eq_true (mnsL_same (m := ([], false)) (m' := ([], true)) (by decide) e), Bool.not_true, Bool.and_false]
      · rw [decide_eq_false e, Bool.false_and]
    have lz : ∀ zs ∈ allMn.map (letL xs ps), zs.length ≤ 100 := fun zs h => by
      obtain ⟨m, _, rfl⟩ := List.mem_map.mp h
      have := (gl m).len
      omega
    refine ⟨_, rfl, _, rfl, _, _, rfl, (sm_pws (zss := allMn.map (letL xs ps)) (by rw [List.length_map]; decide) lz (s1113 _ _ hK11) hF13 (rK11.same s1113) (rL11.same s1113)).up, fun H14 s14 => ⟨_, rfl, iteF ?_⟩⟩
    have s1114 := s1113.trans s14
    have hZ14 := s1114 _ _ hZ11
    have tz14 := tz11.same s1114
    have W14 := W11.same s1114
    have hc14 := hc11.same s1114
    have hM14 := hM11.same s1114
    have kl14 := kl11.same s1114
    have hF14 := s1114 _ _ hF11
    have rL14 := rL11.same s1114
    have pa14 := pa11.same s1114
    have hQ14 := s1114 _ _ hQ11
    have rQ14 := rQ11.same s1114
    have hDt14 := hDt.same (s13.trans s14)
    have sx014 : SameX q H H14 := sx011.trans (SameX.of s1114)
    clear s1114 s14 hF13 s1113 hDt1 nDt1 s13 hDt nDt s12 q0 q1 sx011 rQ11 hQ11 pa11 rK11 rL11 hK11 hF11 kl11 hM11 hc11 W11 tz11 hZ11
    -- due
    refine ⟨_, rfl, Z, rfl, ⟨_, SqL.of hZ14⟩, fun R2 hR2 => ?_⟩
    refine lc_list (xs := Zs.map V.ref) (fun i H' => Same H14 H' ∧ ∃ Ks : List Addr, H' R2 = some (.lst (Ks.map V.ref)) ∧ StR H' Ks ((zq.take i).map fun p => xs.filter (ctP ps [1, 2] p)) ∧ ∀ L ∈ Ks, L ≠ R2) ⟨same_new hR2, [], upd_same, StR.nil, fun L h => by cases h⟩ (fun i H' _ z => SqL.of (z.1 _ _ hZ14)) ?_ ?_
    · rintro i v H15 hv ⟨s15, Qs2, hQ, rQ, nQ⟩
      rw [List.getElem?_map] at hv
      obtain ⟨U, hU, rfl⟩ := Option.map_eq_some_iff.mp hv
      have il := (List.getElem?_eq_some_iff.mp hU).1
      obtain ⟨p, hp⟩ : ∃ p, zq[i]? = some p := ⟨_, List.getElem?_eq_getElem (by omega)⟩
      have eU := s15 _ _ (tz14.2 i U (tv p) hU (by rw [List.getElem?_map, hp]; rfl))
      refine ⟨rfl, _, rfl, by show 2 ≤ sizeLine; decide, fun A1 hA1 => ?_⟩
      have e12 := same_new (o := .tup [.int 1, .int 2]) hA1
      have hA12 : upd H15 A1 (.tup [.int 1, .int 2]) A1 = some (.tup [.int 1, .int 2]) := upd_same
      generalize upd H15 A1 (.tup [.int 1, .int 2]) = H16 at e12 hA12 ⊢
      refine ⟨by show 2 ≤ sizeLine; decide, fun A2 hA2 => ?_⟩
      have e13 := same_new (o := .tup [.ref A1, .str ("even" : Str)]) hA2
      have hA22 : upd H16 A2 (.tup [.ref A1, .str ("even" : Str)]) A2 = some (.tup [.ref A1, .str ("even" : Str)]) := upd_same
      generalize upd H16 A2 (.tup [.ref A1, .str ("even" : Str)]) = H17 at e13 hA22 ⊢
      have e113 := e12.trans e13
      have s17 := s15.trans e113
      refine ⟨_, rfl, KL, A2, U, xs, ps, ([1, 2], false), p, rfl, kl14.same s17, g, ⟨A1, hA22, e13 _ _ hA12⟩, by decide, e113 _ _ eU, qin p (List.mem_of_getElem? hp), fun H18 D s18 nD hD => ?_⟩
      have e118 := e113.trans s18
      have hQ18 := e118 _ _ hQ
      have nDR : D ≠ R2 := fun z => by
        rw [z, e113 _ _ hQ] at nD
        cases nD
      have lQ := rQ.1
      rw [List.length_map, List.length_take] at lQ
      refine ⟨_, hQ18, by rw [List.length_map, sizeLine_eq]; omega, same_over (s15.trans e118) hR2, Qs2 ++ [D], by rw [upd_same, List.map_append]; rfl, ?_, fun L h => ?_⟩
      · rw [take_next hp, List.map_append]
        exact ((rQ.same e118).snoc hD).keep fun L h => by
          rcases List.mem_append.mp h with z | z
          · exact nQ L z
          · rw [List.mem_singleton.mp z]
            exact nDR
      · rcases List.mem_append.mp h with z | z
        · exact nQ L z
        · rw [List.mem_singleton.mp z]
          exact nDR
    rintro H15 ⟨s15, Qs2, hP15, rP15, _⟩
    rw [List.length_map, lZ, List.take_length] at rP15
    have hc15 := hc14.same s15
    have hM15 := hM14.same s15
    have hF15 := s15 _ _ hF14
    have rL15 := rL14.same s15
    -- what the law tells
    refine ⟨_, rfl, _, rfl, by show 2 ≤ sizeLine; decide, fun N1 hN1 => ?_⟩
    have e16 := same_new (o := .lst [.ref R1, .ref Dt]) hN1
    have hN16 : upd H15 N1 (.lst [.ref R1, .ref Dt]) N1 = some (.lst [.ref R1, .ref Dt]) := upd_same
    generalize upd H15 N1 (.lst [.ref R1, .ref Dt]) = H16 at e16 hN16 ⊢
    have rL16 := rL15.same e16
    have hF16 := e16 _ _ hF15
    obtain ⟨Ms, hMs, rM⟩ := id (hM15.same e16)
    have lM : Ms.length = 16 := rM.1
    have q0 := rL16.2 0 L0 (letL xs ps ([], false)) h0 rfl
    refine ⟨_, rfl, 16, rfl, by decide, by decide, fun R5 hR5 => ?_⟩
    refine lc_range (lo := 0) (n := 16) (fun i H' => Same H16 H' ∧ MnsL H' R5 ((allMn.take i).filter fun m => decide (letL xs ps m = letL xs ps ([], false)))) ⟨same_new hR5, [], upd_same, MnsR.nil⟩ ?_ ?_
    · rintro i H17 hi ⟨s17, Os, hO, rO⟩
      show gName 13 (V.int (0 + (i : Int))) _ _ _
      rw [Int.zero_add]
      obtain ⟨m, hm⟩ : ∃ m, allMn[i]? = some m := ⟨_, List.getElem?_eq_getElem (by omega)⟩
      obtain ⟨L, hL⟩ : ∃ L, Ls[i]? = some L := ⟨_, List.getElem?_eq_getElem (by omega)⟩
      obtain ⟨t, ht⟩ : ∃ t, Ms[i]? = some t := ⟨_, List.getElem?_eq_getElem (by omega)⟩
      have qL := rL16.2 i L (letL xs ps m) hL (by rw [List.getElem?_map, hm]; rfl)
      refine ⟨rfl, _, rfl, _, rfl, F1, _, _, .ref L, rfl, rfl, SqL.of (s17 _ _ hF16), atI_nat (by rw [List.getElem?_map, hL]; rfl), _, rfl, F1, _, _, .ref L0, rfl, rfl, SqL.of (s17 _ _ hF16), atI_nat (j := 0) (by rw [List.getElem?_map, h0]; rfl),
        pdL (letL xs ps m), pdL (letL xs ps ([], false)), dpp (qL.same s17), dpp (q0.same s17), pdL_shaped (gl _).wp, pdL_shaped (gl _).wp, _, rfl, ?_⟩
      rw [eqv_pdL]
      have nx : (allMn.take (i + 1)).filter (fun m => decide (letL xs ps m = letL xs ps ([], false))) = (allMn.take i).filter (fun m => decide (letL xs ps m = letL xs ps ([], false))) ++ (if decide (letL xs ps m = letL xs ps ([], false)) = true then [m] else []) := filter_next hm
      refine ite2 (fun hb => ?_) (fun hb => ?_)
      · refine ⟨_, rfl, _, rfl, M, _, _, .ref t, rfl, rfl, SqL.of (s17 _ _ hMs), atI_nat (by rw [List.getElem?_map, ht]; rfl), _, hO, ?_, same_over s17 hR5, Os ++ [t], by rw [upd_same, List.map_append]; rfl, ?_⟩
        · have h1 := rO.1
          have h2 := List.length_filter_le (fun m => decide (letL xs ps m = letL xs ps ([], false))) (allMn.take i)
          rw [List.length_take] at h2
          rw [List.length_map, sizeLine_eq]
          omega
        · rw [nx, if_pos hb]
          exact (rO.snoc ((rM.2 i t m ht hm).same s17)).keep hO
      · refine ⟨s17, Os, hO, ?_⟩
        rw [nx, if_neg hb, List.append_nil]
        exact rO
    rintro H17 ⟨s17, mO⟩
    have mO : MnsL H17 R5 (mnsL xs ps (letL xs ps ([], false))) := mO
    refine ⟨by show 2 ≤ sizeLine; decide, fun N2 hN2 => ?_⟩
    have e18 := same_new (o := .lst [.ref R2, .ref R5]) hN2
    have hN18 : upd H17 N2 (.lst [.ref R2, .ref R5]) N2 = some (.lst [.ref R2, .ref R5]) := upd_same
    generalize upd H17 N2 (.lst [.ref R2, .ref R5]) = H18 at e18 hN18 ⊢
    have e1518 := (e16.trans s17).trans e18
    have lq : ∀ ys ∈ zq.map (fun p => xs.filter (ctP ps [1, 2] p)), ys.length ≤ 100 := fun ys h => by
      obtain ⟨p, _, rfl⟩ := List.mem_map.mp h
      have := lcp [1, 2] p
      omega
    have l100 := mnsL_len xs ps (letL xs ps ([], false))
    refine ⟨_, _, rfl, sm_two (n := 3) ((s17.trans e18) _ _ hN16) hN18 (sm_sts (yss := zq.map fun p => xs.filter (ctP ps [1, 2] p)) (by rw [List.length_map]; omega) lq ((s15.trans e1518) _ _ hQ14) (e1518 _ _ hP15) (rQ14.same (s15.trans e1518)) (rP15.same e1518))
      (sm_mns (by omega) mnsL_mem (hDt14.same (s15.trans e1518)) (mO.same e18)), fun H19 s19 => ⟨_, rfl, iteF ?_⟩⟩
    have s1419 := (s15.trans e1518).trans s19
    have W19 := W14.same s1419
    have hc19 := hc14.same s1419
    have hM19 := hM14.same s1419
    have hF19 := s1419 _ _ hF14
    have rL19 := rL14.same s1419
    have pa19 := pa14.same s1419
    have sx019 : SameX q H H19 := sx014.trans (SameX.of s1419)
    clear s1419 s19 e1518 hN18 e18 hN2 mO s17 hR5 q0 rM hMs hF16 rL16 hN16 e16 hN1 rL15 hF15 hM15 hc15 rP15 hP15 s15 hR2 sx014 hDt14 rQ14 hQ14 pa14 rL14 hF14 kl14 hM14 hc14 W14 tz14 hZ14 lq l100
    -- some pairs
    obtain ⟨wc, wl, ha, hwc, _⟩ := id W19
    refine ⟨_, rfl, _, rfl, a, _, _, .ref wc, rfl, rfl, SqL.of ha, rfl, wc, xs.map V.str, rfl, hwc, by omega, fun H20 B s20 nB ⟨Us, hB, uu⟩ => ?_⟩
    rw [prs_strs] at uu
    have lU : Us.length = (prsS xs).length := by rw [uu.1, List.length_map]
    have pa20 := pa19.same s20
    refine ⟨q, B, Us.map V.ref, c0, n + 16, rfl, pa20.less (by rw [List.length_map]; omega), hB, lst_ne pa20 hB refs_noint, by rw [List.length_map]; omega, fun H21 So ys pm sx21 nSo hSo nSoq pa21 => ?_⟩
    obtain ⟨Ys2, rfl, pY⟩ := perm_refs pm
    obtain ⟨qs2, pqs, tq20⟩ := perm_tups uu pY
    have tq21 := tq20.sameX pa20 sx21
    have sx1921 : SameX q H19 H21 := (SameX.of s20).trans sx21
    have hF21 := sx1921 _ _ (lst_ne pa19 hF19 refs_noint) hF19
    have rL21 := rL19.sameX pa19 sx1921
    -- the lists, shuffled
    refine ⟨_, rfl, _, rfl, q, F1, Ls.map V.ref, c0, n, rfl, pa21.less (by rw [List.length_map]; omega), hF21, lst_ne pa21 hF21 refs_noint, by rw [List.length_map]; omega, fun H22 Sh ys2 pm2 sx22 nSh hSh nShq pa22 => ?_⟩
    obtain ⟨Ys3, rfl, pY3⟩ := perm_refs pm2
    have sx1922 : SameX q H19 H22 := sx1921.trans sx22
    have W22 := W19.sameX pa19 sx1922
    have hc22 := hc19.sameX pa19 sx1922
    have hM22 := hM19.sameX pa19 sx1922
    have hF22 := sx1922 _ _ (lst_ne pa19 hF19 refs_noint) hF19
    have rL22 := rL19.sameX pa19 sx1922
    have tq22 := tq21.sameX pa21 sx22
    have hSo22 := sx22 _ _ (lst_ne pa21 hSo refs_noint) hSo
    have sx022 : SameX q H H22 := sx019.trans sx1922
    have nq2 : qs2.Nodup := pqs.nodup_iff.mpr (prsS_nd g.asc)
    have qin2 : ∀ p ∈ qs2, p ∈ prsS xs := fun p hp => pqs.mem_iff.mp hp
    have inL : ∀ E ∈ Ys3, ∃ zs, Good xs zs ∧ PwAt H22 E zs := fun E hE => by
      obtain ⟨j, hj, e⟩ := List.getElem_of_mem (pY3.mem_iff.mp hE)
      obtain ⟨m, hm⟩ : ∃ m, allMn[j]? = some m := ⟨_, List.getElem?_eq_getElem (by omega)⟩
      exact ⟨letL xs ps m, gl m, rL22.2 j E _ (by rw [List.getElem?_eq_getElem hj, e]) (by rw [List.getElem?_map, hm]; rfl)⟩
    clear sx1922 nShq nSh sx22 pY3 pm2 rL21 hF21 sx1921 tq21 tq20 pa21 nSoq hSo nSo sx21 pY pm pa20 uu hB nB s20 lU ha hwc sx019 pa19 rL19 hF19 hM19 hc19 W19
    refine ⟨3, rfl, Sh, _, rfl, SqL.of hSh, fun Z1 hZ1 => ?_⟩
    have ec1 : cutV (Ys3.map V.ref) none (some 3) = (Ys3.take 3).map V.ref := by
      rw [List.map_take]
      exact cutV_lo (Ys3.map V.ref) 3
    rw [ec1]
    have e23 := same_new (o := .lst ((Ys3.take 3).map V.ref)) hZ1
    have hZ23 : upd H22 Z1 (.lst ((Ys3.take 3).map V.ref)) Z1 = some (.lst ((Ys3.take 3).map V.ref)) := upd_same
    generalize upd H22 Z1 (.lst ((Ys3.take 3).map V.ref)) = H23 at e23 hZ23 ⊢
    -- two bunches in order
    obtain ⟨z2, g2, p2⟩ := sub_good g (List.Nodup.sublist (List.take_sublist 2 qs2) nq2) fun p hp => qin2 p (List.mem_of_mem_take hp)
    obtain ⟨z3, g3, p3⟩ := sub_good g (List.Nodup.sublist (List.drop_sublist 1 qs2) nq2) fun p hp => qin2 p (List.mem_of_mem_drop hp)
    have ec2 : cutV (Ys2.map V.ref) none (some 2) = (Ys2.take 2).map V.ref := by
      rw [List.map_take]
      exact cutV_lo (Ys2.map V.ref) 2
    have ec3 : cutV (Ys2.map V.ref) (some 1) none = (Ys2.drop 1).map V.ref := by
      rw [List.map_drop]
      exact cutV_hi (Ys2.map V.ref) 1
    refine ⟨_, rfl, 2, rfl, So, _, rfl, SqL.of (e23 _ _ hSo22), fun X1 hX1 => ?_⟩
    rw [ec2]
    have e24 := same_new (o := .lst ((Ys2.take 2).map V.ref)) hX1
    have hX24 : upd H23 X1 (.lst ((Ys2.take 2).map V.ref)) X1 = some (.lst ((Ys2.take 2).map V.ref)) := upd_same
    generalize upd H23 X1 (.lst ((Ys2.take 2).map V.ref)) = H24 at e24 hX24 ⊢
    have t224 := e23.trans e24
    refine rd_nil ?_
    refine sort_ps (ps := qs2.take 2) hX24 (by have := (tq22.same t224).take 2; rw [← List.map_take] at this; exact this) p2 g2.ascP g2.nodup fun D2 Us2 nD2 tD2 => ?_
    have e25 := same_new (o := .lst (Us2.map V.ref)) nD2
    have hD25 : PwAt (upd H24 D2 (.lst (Us2.map V.ref))) D2 z2 := ⟨Us2, upd_same, tD2.same e25⟩
    generalize upd H24 D2 (.lst (Us2.map V.ref)) = H25 at e25 hD25 ⊢
    have t225 := t224.trans e25
    refine ⟨_, rfl, 1, rfl, So, _, rfl, SqL.of (t225 _ _ hSo22), fun X2 hX2 => ?_⟩
    rw [ec3]
    have e26 := same_new (o := .lst ((Ys2.drop 1).map V.ref)) hX2
    have hX26 : upd H25 X2 (.lst ((Ys2.drop 1).map V.ref)) X2 = some (.lst ((Ys2.drop 1).map V.ref)) := upd_same
    generalize upd H25 X2 (.lst ((Ys2.drop 1).map V.ref)) = H26 at e26 hX26 ⊢
    have t226 := t225.trans e26
    refine rd_nil ?_
    refine sort_ps (ps := qs2.drop 1) hX26 (by have := (tq22.same t226).drop 1; rw [← List.map_drop] at this; exact this) p3 g3.ascP g3.nodup fun D3 Us3 nD3 tD3 => ?_
    have e27 := same_new (o := .lst (Us3.map V.ref)) nD3
    have hD27 : PwAt (upd H26 D3 (.lst (Us3.map V.ref))) D3 z3 := ⟨Us3, upd_same, tD3.same e27⟩
    generalize upd H26 D3 (.lst (Us3.map V.ref)) = H27 at e27 hD27 ⊢
    have t227 := t226.trans e27
    -- all but the first of one
    obtain ⟨Ns, hN22, tN22⟩ := id (rL22.2 9 L9 _ h9 (by rw [List.getElem?_map]; rfl))
    refine ⟨_, rfl, F1, _, _, .ref L9, rfl, rfl, SqL.of (t227 _ _ hF22), atI_nat (j := 9) (by rw [List.getElem?_map, h9]; rfl), 1, rfl, L9, _, rfl, SqL.of (t227 _ _ hN22), fun X3 hX3 => ?_⟩
    have ec4 : cutV (Ns.map V.ref) (some 1) none = (Ns.drop 1).map V.ref := by
      rw [List.map_drop]
      exact cutV_hi (Ns.map V.ref) 1
    rw [ec4]
    have e28 := same_new (o := .lst ((Ns.drop 1).map V.ref)) hX3
    have hX28 : upd H27 X3 (.lst ((Ns.drop 1).map V.ref)) X3 = some (.lst ((Ns.drop 1).map V.ref)) := upd_same
    generalize upd H27 X3 (.lst ((Ns.drop 1).map V.ref)) = H28 at e28 hX28 ⊢
    have t228 := t227.trans e28
    refine ⟨by decide, fun X4 hX4 => ?_⟩
    have e29 := same_new (o := .lst []) hX4
    have hX29 : upd H28 X4 (.lst []) X4 = some (.lst []) := upd_same
    generalize upd H28 X4 (.lst []) = H29 at e29 hX29 ⊢
    have t229 := t228.trans e29
    refine ⟨by show 4 ≤ sizeLine; decide, fun Y hY => ?_⟩
    have e30 := same_new (o := .lst [.ref D2, .ref D3, .ref X3, .ref X4]) hY
    have hY30 : upd H29 Y (.lst [.ref D2, .ref D3, .ref X3, .ref X4]) Y = some (.lst [.ref D2, .ref D3, .ref X3, .ref X4]) := upd_same
    generalize upd H29 Y (.lst [.ref D2, .ref D3, .ref X3, .ref X4]) = H30 at e30 hY30 ⊢
    have t230 := t229.trans e30
    have hZ30 := ((((((e24.trans e25).trans e26).trans e27).trans e28).trans e29).trans e30) _ _ hZ23
    refine ⟨Z1, Y, _, _, rfl, rfl, hZ30, hY30, by rw [List.length_map, List.length_take, sizeLine_eq]; show _ + 4 ≤ _; omega, fun W hW => ?_⟩
    have e31 := same_new (o := .lst ((Ys3.take 3).map V.ref ++ [.ref D2, .ref D3, .ref X3, .ref X4])) hW
    obtain ⟨Es, eEs⟩ : ∃ Es : List Addr, Es = Ys3.take 3 ++ [D2, D3, X3, X4] := ⟨_, rfl⟩
    have eV : (Ys3.take 3).map V.ref ++ [V.ref D2, .ref D3, .ref X3, .ref X4] = Es.map V.ref := by rw [eEs, List.map_append]; rfl
    rw [eV] at e31 ⊢
    have hW31 : upd H30 W (.lst (Es.map V.ref)) W = some (.lst (Es.map V.ref)) := upd_same
    generalize upd H30 W (.lst (Es.map V.ref)) = H31 at e31 hW31 ⊢
    have t231 := t230.trans e31
    have good : ∀ E ∈ Es, ∃ zs, Good xs zs ∧ PwAt H31 E zs := fun E hE => by
      rw [eEs] at hE
      rcases List.mem_append.mp hE with z | z
      · obtain ⟨zs, g1, p1⟩ := inL E (List.mem_of_mem_take z)
        exact ⟨zs, g1, p1.same t231⟩
      · simp only [List.mem_cons, List.not_mem_nil, or_false] at z
        rcases z with rfl | rfl | rfl | rfl
        · exact ⟨z2, g2, hD25.same (((((e26.trans e27).trans e28).trans e29).trans e30).trans e31)⟩
        · exact ⟨z3, g3, hD27.same (((e28.trans e29).trans e30).trans e31)⟩
        · refine ⟨(letL xs ps allMn[9]).drop 1, ⟨g.asc, g.word, g.few, (List.drop_sublist 1 _).trans (gl _).sub⟩, Ns.drop 1, ((e29.trans e30).trans e31) _ _ hX28, ?_⟩
          have := (tN22.same t231).drop 1
          rw [← List.map_drop] at this
          exact this
        · exact ⟨[], ⟨g.asc, g.word, g.few, List.nil_sublist _⟩, [], (e30.trans e31) _ _ hX29, Tups.nil⟩
    have W31 := W22.same t231
    have hc31 := hc22.same t231
    have hM31 := hM22.same t231
    have hF31 := t231 _ _ hF22
    have rL31 := rL22.same t231
    have pa31 := pa22.same t231
    have sx031 : SameX q H H31 := sx022.trans (SameX.of t231)
    clear t231 e31 hZ30 t230 hY30 e30 hY t229 hX29 e29 hX4 t228 hX28 e28 hX3 tN22 hN22 t227 hD27 e27 tD3 nD3 t226 hX26 e26 hX2 t225 hD25 e25 tD2 nD2 t224 hX24 e24 hX1 hZ23 e23 hZ1 sx022 pa22 rL22 hF22 hM22 hc22 W22 hW
    refine ⟨W, rfl, ⟨_, SqL.of hW31⟩, ?_⟩
    refine for_list (xs := Es.map V.ref) (fun i σ H' => ∃ v6 v7 v8 v10 v11 v12 v14 v15 : Option V, σ = [some (.ref q), some (.ref a), some (.ref c), some (.ref M), some (.ref F1), some (.ref KL), v6, v7, v8, none, v10, v11, v12, none, v14, v15] ∧ Same H31 H')
      ⟨_, _, _, _, _, _, _, _, rfl, Same.refl _⟩ (fun i σ H' _ ⟨_, _, _, _, _, _, _, _, _, z⟩ => SqL.of (z _ _ hW31)) ?_ ?_
    · rintro i v σ H32 hv ⟨v6, v7, v8, v10, v11, v12, v14, v15, rfl, s32⟩
      rw [List.getElem?_map] at hv
      obtain ⟨E, hE, rfl⟩ := Option.map_eq_some_iff.mp hv
      obtain ⟨zs, gz, pz31⟩ := good E (List.mem_of_getElem? hE)
      have pz := pz31.same s32
      have hF32 := s32 _ _ hF31
      have rL32 := rL31.same s32
      obtain ⟨Ms, hMs, rM⟩ := id (hM31.same s32)
      have lM : Ms.length = 16 := rM.1
      refine ⟨16, rfl, by decide, by decide, fun R5 hR5 => ?_⟩
      refine lc_range (lo := 0) (n := 16) (fun i H' => Same H32 H' ∧ MnsL H' R5 ((allMn.take i).filter fun m => decide (letL xs ps m = zs))) ⟨same_new hR5, [], upd_same, MnsR.nil⟩ ?_ ?_
      · rintro i H33 hi ⟨s33, Os, hO, rO⟩
        show gName 13 (V.int (0 + (i : Int))) _ _ _
        rw [Int.zero_add]
        obtain ⟨m, hm⟩ : ∃ m, allMn[i]? = some m := ⟨_, List.getElem?_eq_getElem (by omega)⟩
        obtain ⟨L, hL⟩ : ∃ L, Ls[i]? = some L := ⟨_, List.getElem?_eq_getElem (by omega)⟩
        obtain ⟨t, ht⟩ : ∃ t, Ms[i]? = some t := ⟨_, List.getElem?_eq_getElem (by omega)⟩
        have qL := rL32.2 i L (letL xs ps m) hL (by rw [List.getElem?_map, hm]; rfl)
        refine ⟨rfl, _, rfl, _, rfl, F1, _, _, .ref L, rfl, rfl, SqL.of (s33 _ _ hF32), atI_nat (by rw [List.getElem?_map, hL]; rfl), _, rfl,
          pdL (letL xs ps m), pdL zs, dpp (qL.same s33), dpp (pz.same s33), pdL_shaped (gl _).wp, pdL_shaped gz.wp, _, rfl, ?_⟩
        rw [eqv_pdL]
        have nx : (allMn.take (i + 1)).filter (fun m => decide (letL xs ps m = zs)) = (allMn.take i).filter (fun m => decide (letL xs ps m = zs)) ++ (if decide (letL xs ps m = zs) = true then [m] else []) := filter_next hm
        refine ite2 (fun hb => ?_) (fun hb => ?_)
        · refine ⟨_, rfl, _, rfl, M, _, _, .ref t, rfl, rfl, SqL.of (s33 _ _ hMs), atI_nat (by rw [List.getElem?_map, ht]; rfl), _, hO, ?_, same_over s33 hR5, Os ++ [t], by rw [upd_same, List.map_append]; rfl, ?_⟩
          · have h1 := rO.1
            have h2 := List.length_filter_le (fun m => decide (letL xs ps m = zs)) (allMn.take i)
            rw [List.length_take] at h2
            rw [List.length_map, sizeLine_eq]
            omega
          · rw [nx, if_pos hb]
            exact (rO.snoc ((rM.2 i t m ht hm).same s33)).keep hO
        · refine ⟨s33, Os, hO, ?_⟩
          rw [nx, if_neg hb, List.append_nil]
          exact rO
      rintro H33 ⟨s33, mO⟩
      have mO : MnsL H33 R5 (mnsL xs ps zs) := mO
      obtain ⟨Xs, hX33, tX33⟩ := id (pz.same s33)
      refine ⟨_, rfl, E, _, rfl, .inl (SqL.of hX33), fun Hd hHd => ⟨_, _, rfl, ?_⟩⟩
      have e34 := same_new (o := .lst (Xs.map V.ref)) hHd
      have hd34 : PwAt (upd H33 Hd (.lst (Xs.map V.ref))) Hd zs := ⟨Xs, upd_same, tX33.same e34⟩
      generalize upd H33 Hd (.lst (Xs.map V.ref)) = H34 at e34 hd34 ⊢
      have s34 := s32.trans (s33.trans e34)
      refine ⟨_, rfl, _, rfl, c, Hd, xs, ps, zs, rfl, hc31.same s34, g, hd34, gz, fun H35 D s35 nD hD => ?_⟩
      refine ⟨_, rfl, _, rfl, by show 2 ≤ sizeLine; decide, fun N1 hN1 => ?_⟩
      have e36 := same_new (o := .lst [.ref D, .ref Hd]) hN1
      have hN36 : upd H35 N1 (.lst [.ref D, .ref Hd]) N1 = some (.lst [.ref D, .ref Hd]) := upd_same
      generalize upd H35 N1 (.lst [.ref D, .ref Hd]) = H36 at e36 hN36 ⊢
      refine ⟨_, rfl, _, rfl, by show 2 ≤ sizeLine; decide, fun N2 hN2 => ?_⟩
      have e37 := same_new (o := .lst [.ref R5, .ref E]) hN2
      have hN37 : upd H36 N2 (.lst [.ref R5, .ref E]) N2 = some (.lst [.ref R5, .ref E]) := upd_same
      generalize upd H36 N2 (.lst [.ref R5, .ref E]) = H37 at e37 hN37 ⊢
      have e3537 := e36.trans e37
      have lz := gz.len
      have lmn := mnsL_len xs ps zs
      have mO37 := mO.same ((e34.trans s35).trans e3537)
      refine ⟨_, _, rfl, sm_two (n := 3) (e37 _ _ hN36) hN37 (sm_mns (by omega) mnsL_mem (hD.same e3537) mO37) (sm_prs 1 (hd34.same (s35.trans e3537)) (pz31.same ((s34.trans s35).trans e3537)) (by omega)), fun H38 s38 => ⟨_, rfl, iteF ?_⟩⟩
      obtain ⟨Ds, hD38, rD⟩ := hD.same (e3537.trans s38)
      have lD := rD.1
      refine ⟨_, rfl, .inl ⟨rfl, _, SqL.of hD38⟩, D, _, _, rfl, rfl, hD38, by rw [List.length_map, sizeLine_eq]; omega, ?_⟩
      have s39 : Same H34 (upd H38 D (.lst (Ds.map V.ref ++ [.non]))) := same_over (s35.trans (e3537.trans s38)) nD
      generalize upd H38 D (.lst (Ds.map V.ref ++ [.non])) = H39 at s39 ⊢
      have s3139 := s34.trans s39
      refine ⟨_, rfl, a, xs, ps, rfl, W31.same s3139, g, fun H40 c2 s40 nc2 hc2 => ?_⟩
      refine ⟨_, rfl, c2, E, xs, ps, zs, rfl, hc2, g, pz31.same (s3139.trans s40), gz, fun H41 D2' s41 nD2' hD2' => ?_⟩
      refine ⟨_, rfl, _, _, rfl, (sm_mns (by omega) mnsL_mem hD2' (mO.same (((e34.trans s39).trans s40).trans s41))).up, fun H42 s42 => ⟨_, rfl, iteF ?_⟩⟩
      exact ⟨_, _, _, _, _, _, _, _, rfl, ((s3139.trans s40).trans s41).trans s42⟩
    · rintro σ H32 ⟨v6, v7, v8, v10, v11, v12, v14, v15, rfl, s32⟩
      refine ⟨_, rfl, _, rfl, a, c, xs, ps, rfl, W31.same s32, hc31.same s32, g, fun H33 s33 => ?_⟩
      have s3133 := s32.trans s33
      exact k H33 (sx031.trans (SameX.of s3133)) (pa31.same s3133)
end
end Wd
end
section
set_option maxRecDepth 100000
set_option maxHeartbeats 8000000
namespace Wd
open PySem L2
def spLaw (K : PySem.W.Frag) : Sp := fun vs H Q _ => ∃ (a : Addr) (ns : List Int), vs = [.ref a] ∧ SqL K H a (ns.map V.int) ∧ ns.length ≤ 63 ∧ ∀ H', Q (.bl true) H'
section
variable {P : Program} {w : World} {K : PySem.W.Frag} {mg : Str → Option Value} {base : Heap}
theorem ok_law {f : Addr} {fd : FuncData} (F : Fun K "law" "law" s_law f fd) (T : Bt mg) (C1 : Has P w K mg base 2 "_law_purses" ["_law_script", "_law_few"] (spPurses K))
    (C2 : Has P w K mg base 8 "_law_company_right" ["_law_purse_here", "_law_world_here"] spCR)
    (C3 : Has P w K mg base 6 "_law_world" ["_law_purse_here", "_law_many"] spWorld)
    (C4 : Has P w K mg base 2 "_law_draw" ["_law_purse_here", "_law_many"] spDraw)
    (C5 : Has P w K mg base 5 "_law_people" ["_law_purse_here", "_law_many"] spPeople)
    (C6 : Has P w K mg base 2 "_law_at" ["_law_crowd", "_law_number"] spAtW)
    (C7 : Has P w K mg base 5 "_law_told_manners_right" [] spTold) : FnOk P w K mg base CX0 9 f fd ["_law_script"] (spLaw K) := by
  obtain ⟨f1, d1, G1, m1, k1, b1⟩ := C1
  obtain ⟨f2, d2, G2, m2, k2, b2⟩ := C2
  obtain ⟨f3, d3, G3, m3, k3, b3⟩ := C3
  obtain ⟨f4, d4, G4, m4, k4, b4⟩ := C4
  obtain ⟨f5, d5, G5, m5, k5, b5⟩ := C5
  obtain ⟨f6, d6, G6, m6, k6, b6⟩ := C6
  obtain ⟨f7, d7, G7, m7, k7, b7⟩ := C7
  refine F.ok c_law (fun vs H Q E h => ?_) (fun cdv A outer s H vs Q E hr h => ?_)
  · obtain ⟨_, _, rfl, _⟩ := h
    rfl
  · obtain ⟨a, ns, rfl, hS, l63, k⟩ := h
    have hr1 : Room 2 _ := hr.mono (by decide)
    have hr2 : Room 8 _ := hr.mono (by decide)
    have hr3 : Room 6 _ := hr.mono (by decide)
    have hr5 : Room 5 _ := hr.mono (by decide)
    refine ⟨_, pss_cons (ps_for PassesOwn.never rfl (pi_list (pe_call G1 hr1 rfl m1 k1 b1 .nil pass0 (pa_cons (pv 0) (pa_cons pe_int pa_nil)))) (pg_name (i := 1) c_law.nd rfl (Or.inl rfl))
        (pss_cons (ps_set (i := 2) c_law.nd rfl (Or.inl rfl) (pe_op op_add pe_int (pe_call G4 hr1 rfl m4 k4 b4 .nil pass0 (pa_cons (pv 1) (pa_cons (pe_ifExp (pt_cmpR op_eq (pe_call G4 hr1 rfl m4 k4 b4 .nil pass0 (pa_cons (pv 1) (pa_cons pe_int pa_nil))) pe_int (nomark _)) pe_int pe_int) pa_nil)))))
        (pss_one (ps_if (pt_not (pt_val (pe_call G2 hr2 rfl m2 k2 b2 .nil pass0 (pa_cons (pv 1) (pa_cons (pe_call G3 hr3 rfl m3 k3 b3 .nil pass0 (pa_cons (pv 1) (pa_cons (pv 2) pa_nil))) pa_nil))))) (pss_one ps_never) pss_nil))))
      (pss_cons (ps_if (pt_cmpR op_eq (pe_call G4 hr1 rfl m4 k4 b4 .nil pass0 (pa_cons (pv 1) (pa_cons pe_int pa_nil))) pe_int (nomark _))
        (pss_cons (ps_set (i := 3) c_law.nd rfl (Or.inl rfl) (pe_call G5 hr5 rfl m5 k5 b5 .nil pass0 (pa_cons (pv 1) (pa_cons (pe_op op_add pe_int (pe_call G4 hr1 rfl m4 k4 b4 .nil pass0 (pa_cons (pv 1) (pa_cons pe_int pa_nil)))) pa_nil))))
        (pss_cons (ps_set (i := 4) c_law.nd rfl (Or.inl rfl) (pe_ix ix_list (pe_lst (pa_cons pe_int (pa_cons pe_int (pa_cons pe_int (pa_cons pe_int pa_nil))))) (pe_op op_sub (pe_callB call_len_seq (by rfl) T.len PySem.boot_len (pa_cons (pv 3) pa_nil)) pe_int) (fun _ _ => rfl)))
        (pss_cons (ps_set (i := 5) c_law.nd rfl (Or.inl rfl) (pe_call G4 hr1 rfl m4 k4 b4 .nil pass0 (pa_cons (pv 1) (pa_cons (pv 4) pa_nil))))
        (pss_one (ps_for PassesOwn.never rfl (pi_range1 rfl T.range (pa_cons pe_int pa_nil)) (pg_name (i := 6) c_law.nd rfl (Or.inl rfl))
          (pss_one (ps_if (pt_not (pt_val (pe_call G2 hr2 rfl m2 k2 b2 .nil pass0 (pa_cons (pv 1) (pa_cons (pe_call G6 hr1 rfl m6 k6 b6 .nil pass0 (pa_cons (pv 3) (pa_cons (pe_op op_mod (pe_callTy call_int1 (by rfl) T.int (by decide +kernel) (pa_cons (pe_op op_add (pv 5) (pe_op op_mul pe_int (pv 6))) pa_nil)) (pv 4)) pa_nil))) pa_nil))))) (pss_one ps_never) pss_nil))))))) pss_nil)
      (pss_one (ps_ret (pe_call0 G7 hr5 rfl m7 k7 b7 .nil pass0)))), ?_⟩
    refine ⟨_, rfl, a, ns, 2, rfl, hS, by decide, fun H1 D ps s1 nD hD nd l1 hp => ?_⟩
    refine ⟨D, rfl, ⟨_, SqL.of hD⟩, ?_⟩
    refine for_list (xs := ps.map V.ref) (fun i σ H' => ∃ v1 v2 : Option V, σ = [some (.ref a), v1, v2, none, none, none, none] ∧ H' D = some (.lst (ps.map V.ref)) ∧ (∀ (j : Nat) q, i ≤ j → ps[j]? = some q → ∃ c, PurseAt H' q c 1000000) ∧
        (i = 0 ∨ ∃ q c, v1 = some (.ref q) ∧ PurseAt H' q c 900000))
      ⟨none, none, rfl, hD, fun j q _ hq => (hp q (List.mem_of_getElem? hq)).2, .inl rfl⟩ (fun i σ H' _ ⟨_, _, _, z, _⟩ => SqL.of z) ?_ ?_
    · rintro i v σ H2 hv ⟨v1, v2, rfl, hd, hp2, _⟩
      rw [List.getElem?_map] at hv
      obtain ⟨q, hq, rfl⟩ := Option.map_eq_some_iff.mp hv
      obtain ⟨c0, pa⟩ := hp2 i q (Nat.le_refl _) hq
      have refs : ∀ x ∈ ps.map V.ref, ∀ i : Int, x ≠ .int i := refs_noint
      refine ⟨_, rfl, _, rfl, q, _, c0, 999999, rfl, pa, by decide, by decide, fun H4 r r0 r1 sx4 pa4 => ⟨rfl, _, rfl, ite2 (fun hb => ?_) (fun hb => ?_)⟩⟩
      have e0 : ∃ b : Int, b = 9 ∧ 1 ≤ b ∧ b ≤ 9 := ⟨9, rfl, by decide, by decide⟩
      rotate_left
      have e0 : ∃ b : Int, b = 6 ∧ 1 ≤ b ∧ b ≤ 9 := ⟨6, rfl, by decide, by decide⟩
      all_goals
        obtain ⟨b, eb, b1, b9⟩ := e0
        rw [← eb]
        refine ⟨q, b, c0, 999998, rfl, pa4, b1, by omega, fun H5 u u0 u1 sx5 pa5 => ⟨_, _, rfl, rfl, ?_⟩⟩
        obtain ⟨mm, em, mm1, mm9⟩ : ∃ mm : Nat, (1 + u : Int) = (mm : Int) ∧ 1 ≤ mm ∧ mm ≤ 9 := ⟨(1 + u).toNat, by omega, by omega, by omega⟩
        show gName 2 (V.int (1 + u)) _ _ _
        rw [em]
        refine ⟨_, rfl, _, rfl, _, rfl, q, mm, c0, 900664, rfl, pa5.less (by omega), mm1, mm9, fun H6 W xs qs lx g sx6 nW hW nWq pa6 => ?_⟩
        refine ⟨q, W, c0, 900000, xs, qs, rfl, pa6, hW, g, fun H7 sx7 pa7 => ⟨_, rfl, iteF ?_⟩⟩
        have sx : SameX q H2 H7 := ((sx4.trans sx5).trans sx6).trans sx7
        refine ⟨_, _, rfl, sameX_lst pa sx hd refs, fun j q' hj hq' => ?_, .inr ⟨q, c0, rfl, pa7⟩⟩
        obtain ⟨c', b, t, z, e, r⟩ := hp2 j q' (by omega) hq'
        have ne : q' ≠ q := fun z => by
          have := nd_inj nd hq (by rw [hq', z])
          omega
        exact ⟨c', b, t, z, sx q' _ ne e, r⟩
    · rintro σ H2 ⟨v1, v2, rfl, hd, _, lst⟩
      obtain ⟨q, c0, rfl, pa⟩ : ∃ q c, v1 = some (.ref q) ∧ PurseAt H2 q c 900000 := by
        rcases lst with z | z
        · rw [List.length_map] at z
          omega
        · exact z
      refine ⟨_, rfl, q, 6, c0, 899999, rfl, pa, by decide, by decide, fun H3 r r0 r1 sx3 pa3 => ⟨rfl, _, rfl, ite2 (fun hb => ?_) (fun hb => ?_)⟩⟩
      · refine ⟨_, rfl, _, rfl, q, 4, c0, 899998, rfl, pa3, by decide, by decide, fun H4 u u0 u1 sx4 pa4 => ⟨_, _, rfl, rfl, ?_⟩⟩
        obtain ⟨mm, em, mm1, mm4⟩ : ∃ mm : Nat, (1 + u : Int) = (mm : Int) ∧ 1 ≤ mm ∧ mm ≤ 4 := ⟨(1 + u).toNat, by omega, by omega, by omega⟩
        refine ⟨q, mm, c0, 800000, by show [V.ref q, V.int (1 + u)] = _; rw [em], pa4.less (by omega), by omega, fun H5 Cr xs lx as ww sx5 nC hC nCq pa5 => ?_⟩
        refine ⟨by show 4 ≤ sizeLine; decide, fun Tt hTt => ?_⟩
        have e6 := same_new (o := .lst [.int 1, .int 2, .int 8, .int 64]) hTt
        have hT6 : upd H5 Tt (.lst [.int 1, .int 2, .int 8, .int 64]) Tt = some (.lst [.int 1, .int 2, .int 8, .int 64]) := upd_same
        generalize upd H5 Tt (.lst [.int 1, .int 2, .int 8, .int 64]) = H6 at e6 hT6 ⊢
        obtain ⟨tt, ht, t1, t64⟩ : ∃ tt : Int, atI [V.int 1, .int 2, .int 8, .int 64] ((xs.length : Int) - 1) = some (.int tt) ∧ 1 ≤ tt ∧ tt ≤ 64 := by
          rw [lx]
          have : mm = 1 ∨ mm = 2 ∨ mm = 3 ∨ mm = 4 := by omega
          rcases this with z | z | z | z <;> subst z
          · exact ⟨1, rfl, by decide, by decide⟩
          · exact ⟨2, rfl, by decide, by decide⟩
          · exact ⟨8, rfl, by decide, by decide⟩
          · exact ⟨64, rfl, by decide, by decide⟩
        have hC6 := e6 _ _ hC
        refine ⟨_, rfl, Cr, _, rfl, .inl (SqL.of hC6), _, _, rfl, rfl, ?_⟩
        rw [List.length_map]
        refine ⟨Tt, _, _, .int tt, rfl, rfl, SqL.of hT6, ht, ?_⟩
        refine ⟨_, rfl, _, rfl, q, tt, c0, 799999, rfl, pa5.same e6, t1, by omega, fun H7 nn n0 n1 sx7 pa7 => ?_⟩
        have hC7 := sx7 _ _ nCq hC6
        refine ⟨2, rfl, by decide, by decide, ?_⟩
        refine for_range (lo := 0) (n := 2) (fun j σ H' => ∃ v2 v6 : Option V, σ = [some (.ref a), some (.ref q), v2, some (.ref Cr), some (.int tt), some (.int nn), v6] ∧ H' Cr = some (.lst (xs.map V.str)) ∧ PurseAt H' q c0 (700000 + (2 - j) * 664))
          ⟨_, none, rfl, hC7, pa7.less (by omega)⟩ ?_ ?_
        · rintro j σ H8 hj ⟨v2', v6', rfl, hC8, pa8⟩
          have en : 700000 + (2 - j) * 664 = 700000 + (2 - (j + 1)) * 664 + 664 := by omega
          rw [en] at pa8
          refine ⟨_, rfl, _, rfl, _, rfl, _, rfl, _, _, rfl, rfl, .inl ⟨by decide, by decide⟩, _, _, rfl, rfl, .inl ⟨_, rfl, _, rfl, _, _, rfl, rfl, by omega, ?_⟩⟩
          refine ⟨Cr, _, xs, rfl, hC8, as, ww, by omega, by omega, fun H9 W qs s9 nW g hW => ?_⟩
          have pa9 := pa8.same s9
          have nCq9 : Cr ≠ q := nCq
          refine ⟨q, W, c0, _, xs, qs, rfl, pa9, hW, g, fun H10 sx10 pa10 => ⟨_, rfl, iteF ?_⟩⟩
          exact ⟨_, _, rfl, sx10 _ _ nCq (s9 _ _ hC8), pa10⟩
        · rintro σ H8 ⟨v2', v6', rfl, hC8, pa8⟩
          exact ⟨rfl, fun H9 s9 => k H9⟩
      · exact ⟨rfl, fun H9 s9 => k H9⟩
end
end Wd
end
section
set_option maxRecDepth 100000
set_option maxHeartbeats 4000000
namespace Wd
open PySem PySem.Spec PyProof.Rows L2
theorem fun_of {K : PySem.W.Frag} {x q : PySem.Str} {st : Stmt} {f : Addr} {fd : FuncData} (F : FunD K x q (defArgs st) (defBody st) (defScope st) [] [] f fd) : Fun K x q st f fd := by
  obtain ⟨oc, od, dV, kV, doc, pm, an, cdv, ct, osl, e, lk, hcd, hd, _⟩ := F.ex
  rcases hd with ⟨_, rfl⟩ | ⟨z, _⟩
  · exact ⟨⟨oc, od, kV, doc, pm, an, cdv, ct, osl, e, lk, hcd⟩, F.kp⟩
  · exact absurd rfl z
theorem facts {P : Program} {w : World} {K : PySem.W.Frag} {h : Heap} {mg : PySem.Str → Option Value} {fa : Addr} (X : K.In h) (G : h.Ns mainGlobals mg) (hfa : mg ("law" : PySem.Str) = some (.ref fa)) (c : He.SaysD faA fnA K) (ce : exB K = true) :
    ∃ fd : FuncData, (∀ (s : Shared) (v : Value), BindsTo s fd ⟨[v], []⟩ [("_law_script", v)]) ∧ ∀ base : Heap, K.In base → base.Ns mainGlobals mg → FnOk P w K mg base CX0 9 fa fd ["_law_script"] (spLaw K) := by
  obtain ⟨d_is_word, D_is_word⟩ := c.def_ 0 (d := d0) rfl
  have F_is_word : Fun K "is_word" "is_word" sp_is_word (He.ga K "is_word") d_is_word := fun_of D_is_word
  have b_is_word : Binds K d_is_word ["value"] [] := D_is_word.bindsN fun _ _ _ _ _ _ us hl => match us, hl with | [_], _ => rfl
  have g_is_word : mg "is_word" = some (.ref (He.ga K "is_word")) := He.glo_ok X G (c.fact 0 (f := .glo "is_word") rfl)
  obtain ⟨d_is_count, D_is_count⟩ := c.def_ 1 (d := d1) rfl
  have F_is_count : Fun K "is_count" "is_count" sp_is_count (He.ga K "is_count") d_is_count := fun_of D_is_count
  have b_is_count : Binds K d_is_count ["value"] [] := D_is_count.bindsN fun _ _ _ _ _ _ us hl => match us, hl with | [_], _ => rfl
  have g_is_count : mg "is_count" = some (.ref (He.ga K "is_count")) := He.glo_ok X G (c.fact 1 (f := .glo "is_count") rfl)
  obtain ⟨d_are_unlike, D_are_unlike⟩ := c.def_ 2 (d := d2) rfl
  have F_are_unlike : Fun K "are_unlike" "are_unlike" sp_are_unlike (He.ga K "are_unlike") d_are_unlike := fun_of D_are_unlike
  have b_are_unlike : Binds K d_are_unlike ["things"] [] := D_are_unlike.bindsN fun _ _ _ _ _ _ us hl => match us, hl with | [_], _ => rfl
  have g_are_unlike : mg "are_unlike" = some (.ref (He.ga K "are_unlike")) := He.glo_ok X G (c.fact 2 (f := .glo "are_unlike") rfl)
  obtain ⟨d_is_ascending, D_is_ascending⟩ := c.def_ 3 (d := d3) rfl
  have F_is_ascending : Fun K "is_ascending" "is_ascending" sp_is_ascending (He.ga K "is_ascending") d_is_ascending := fun_of D_is_ascending
  have b_is_ascending : Binds K d_is_ascending ["things"] [] := D_is_ascending.bindsN fun _ _ _ _ _ _ us hl => match us, hl with | [_], _ => rfl
  have g_is_ascending : mg "is_ascending" = some (.ref (He.ga K "is_ascending")) := He.glo_ok X G (c.fact 3 (f := .glo "is_ascending") rfl)
  obtain ⟨d_are_numbers_below, D_are_numbers_below⟩ := c.def_ 4 (d := d4) rfl
  have F_are_numbers_below : Fun K "are_numbers_below" "are_numbers_below" sp_are_numbers_below (He.ga K "are_numbers_below") d_are_numbers_below := fun_of D_are_numbers_below
  have b_are_numbers_below : Binds K d_are_numbers_below ["value", "end"] [] := D_are_numbers_below.bindsN fun _ _ _ _ _ _ us hl => match us, hl with | [_, _], _ => rfl
  have g_are_numbers_below : mg "are_numbers_below" = some (.ref (He.ga K "are_numbers_below")) := He.glo_ok X G (c.fact 4 (f := .glo "are_numbers_below") rfl)
  obtain ⟨d_is_person, D_is_person⟩ := c.def_ 5 (d := d5) rfl
  have F_is_person : Fun K "is_person" "is_person" sp_is_person (He.ga K "is_person") d_is_person := fun_of D_is_person
  have b_is_person : Binds K d_is_person ["value"] [] := D_is_person.bindsN fun _ _ _ _ _ _ us hl => match us, hl with | [_], _ => rfl
  have g_is_person : mg "is_person" = some (.ref (He.ga K "is_person")) := He.glo_ok X G (c.fact 5 (f := .glo "is_person") rfl)
  obtain ⟨d_are_people, D_are_people⟩ := c.def_ 10 (d := d10) rfl
  have F_are_people : Fun K "are_people" "are_people" sp_are_people (He.ga K "are_people") d_are_people := fun_of D_are_people
  have b_are_people : Binds K d_are_people ["value"] [] := D_are_people.bindsN fun _ _ _ _ _ _ us hl => match us, hl with | [_], _ => rfl
  have g_are_people : mg "are_people" = some (.ref (He.ga K "are_people")) := He.glo_ok X G (c.fact 6 (f := .glo "are_people") rfl)
  obtain ⟨d_is_pair_of, D_is_pair_of⟩ := c.def_ 11 (d := d11) rfl
  have F_is_pair_of : Fun K "is_pair_of" "is_pair_of" sp_is_pair_of (He.ga K "is_pair_of") d_is_pair_of := fun_of D_is_pair_of
  have b_is_pair_of : Binds K d_is_pair_of ["people", "value"] [] := D_is_pair_of.bindsN fun _ _ _ _ _ _ us hl => match us, hl with | [_, _], _ => rfl
  have g_is_pair_of : mg "is_pair_of" = some (.ref (He.ga K "is_pair_of")) := He.glo_ok X G (c.fact 7 (f := .glo "is_pair_of") rfl)
  obtain ⟨d_are_pairs_of, D_are_pairs_of⟩ := c.def_ 12 (d := d12) rfl
  have F_are_pairs_of : Fun K "are_pairs_of" "are_pairs_of" sp_are_pairs_of (He.ga K "are_pairs_of") d_are_pairs_of := fun_of D_are_pairs_of
  have b_are_pairs_of : Binds K d_are_pairs_of ["people", "value"] [] := D_are_pairs_of.bindsN fun _ _ _ _ _ _ us hl => match us, hl with | [_, _], _ => rfl
  have g_are_pairs_of : mg "are_pairs_of" = some (.ref (He.ga K "are_pairs_of")) := He.glo_ok X G (c.fact 8 (f := .glo "are_pairs_of") rfl)
  obtain ⟨d_check_company, D_check_company⟩ := c.def_ 13 (d := d13) rfl
  have F_check_company : Fun K "check_company" "check_company" sp_check_company (He.ga K "check_company") d_check_company := fun_of D_check_company
  have b_check_company : Binds K d_check_company ["company"] [] := D_check_company.bindsN fun _ _ _ _ _ _ us hl => match us, hl with | [_], _ => rfl
  have g_check_company : mg "check_company" = some (.ref (He.ga K "check_company")) := He.glo_ok X G (c.fact 9 (f := .glo "check_company") rfl)
  obtain ⟨d_check_pair_of, D_check_pair_of⟩ := c.def_ 14 (d := d14) rfl
  have F_check_pair_of : Fun K "check_pair_of" "check_pair_of" sp_check_pair_of (He.ga K "check_pair_of") d_check_pair_of := fun_of D_check_pair_of
  have b_check_pair_of : Binds K d_check_pair_of ["company", "pair"] [] := D_check_pair_of.bindsN fun _ _ _ _ _ _ us hl => match us, hl with | [_, _], _ => rfl
  have g_check_pair_of : mg "check_pair_of" = some (.ref (He.ga K "check_pair_of")) := He.glo_ok X G (c.fact 10 (f := .glo "check_pair_of") rfl)
  obtain ⟨d_pair_of, D_pair_of⟩ := c.def_ 15 (d := d15) rfl
  have F_pair_of : Fun K "pair_of" "pair_of" sp_pair_of (He.ga K "pair_of") d_pair_of := fun_of D_pair_of
  have b_pair_of : Binds K d_pair_of ["one", "other"] [] := D_pair_of.bindsN fun _ _ _ _ _ _ us hl => match us, hl with | [_, _], _ => rfl
  have g_pair_of : mg "pair_of" = some (.ref (He.ga K "pair_of")) := He.glo_ok X G (c.fact 11 (f := .glo "pair_of") rfl)
  obtain ⟨d_rows_of, D_rows_of⟩ := c.def_ 16 (d := d16) rfl
  have F_rows_of : Fun K "rows_of" "rows_of" sp_rows_of (He.ga K "rows_of") d_rows_of := fun_of D_rows_of
  have b_rows_of : Binds K d_rows_of ["company"] [] := D_rows_of.bindsN fun _ _ _ _ _ _ us hl => match us, hl with | [_], _ => rfl
  have g_rows_of : mg "rows_of" = some (.ref (He.ga K "rows_of")) := He.glo_ok X G (c.fact 12 (f := .glo "rows_of") rfl)
  obtain ⟨d_pairs_in, D_pairs_in⟩ := c.def_ 17 (d := d17) rfl
  have F_pairs_in : Fun K "pairs_in" "pairs_in" sp_pairs_in (He.ga K "pairs_in") d_pairs_in := fun_of D_pairs_in
  have b_pairs_in : Binds K d_pairs_in ["rows"] [] := D_pairs_in.bindsN fun _ _ _ _ _ _ us hl => match us, hl with | [_], _ => rfl
  have g_pairs_in : mg "pairs_in" = some (.ref (He.ga K "pairs_in")) := He.glo_ok X G (c.fact 13 (f := .glo "pairs_in") rfl)
  obtain ⟨d_ones, D_ones⟩ := c.def_ 18 (d := d18) rfl
  have F_ones : Fun K "ones" "ones" sp_ones (He.ga K "ones") d_ones := fun_of D_ones
  have b_ones : Binds K d_ones ["bits"] [] := D_ones.bindsN fun _ _ _ _ _ _ us hl => match us, hl with | [_], _ => rfl
  have g_ones : mg "ones" = some (.ref (He.ga K "ones")) := He.glo_ok X G (c.fact 14 (f := .glo "ones") rfl)
  obtain ⟨d_members, D_members⟩ := c.def_ 19 (d := d19) rfl
  have F_members : Fun K "members" "members" sp_members (He.ga K "members") d_members := fun_of D_members
  have b_members : Binds K d_members ["bits"] [] := D_members.bindsN fun _ _ _ _ _ _ us hl => match us, hl with | [_], _ => rfl
  have g_members : mg "members" = some (.ref (He.ga K "members")) := He.glo_ok X G (c.fact 15 (f := .glo "members") rfl)
  obtain ⟨d_counted_bits, D_counted_bits⟩ := c.def_ 20 (d := d20) rfl
  have F_counted_bits : Fun K "counted_bits" "counted_bits" sp_counted_bits (He.ga K "counted_bits") d_counted_bits := fun_of D_counted_bits
  have b_counted_bits : Binds K d_counted_bits ["rows", "kinds", "pair"] [] := D_counted_bits.bindsN fun _ _ _ _ _ _ us hl => match us, hl with | [_, _, _], _ => rfl
  have g_counted_bits : mg "counted_bits" = some (.ref (He.ga K "counted_bits")) := He.glo_ok X G (c.fact 16 (f := .glo "counted_bits") rfl)
  obtain ⟨d_lets, D_lets⟩ := c.def_ 21 (d := d21) rfl
  have F_lets : Fun K "lets" "lets" sp_lets (He.ga K "lets") d_lets := fun_of D_lets
  have b_lets : Binds K d_lets ["rows", "manner", "pair"] [] := D_lets.bindsN fun _ _ _ _ _ _ us hl => match us, hl with | [_, _, _], _ => rfl
  have g_lets : mg "lets" = some (.ref (He.ga K "lets")) := He.glo_ok X G (c.fact 17 (f := .glo "lets") rfl)
  obtain ⟨d_let_in, D_let_in⟩ := c.def_ 22 (d := d22) rfl
  have F_let_in : Fun K "let_in" "let_in" sp_let_in (He.ga K "let_in") d_let_in := fun_of D_let_in
  have b_let_in : Binds K d_let_in ["rows", "manner"] [] := D_let_in.bindsN fun _ _ _ _ _ _ us hl => match us, hl with | [_, _], _ => rfl
  have g_let_in : mg "let_in" = some (.ref (He.ga K "let_in")) := He.glo_ok X G (c.fact 18 (f := .glo "let_in") rfl)
  obtain ⟨d_turn, D_turn⟩ := c.def_ 23 (d := d23) rfl
  have F_turn : Fun K "turn" "turn" sp_turn (He.ga K "turn") d_turn := fun_of D_turn
  have b_turn : Binds K d_turn ["rows", "deed"] [] := D_turn.bindsN fun _ _ _ _ _ _ us hl => match us, hl with | [_, _], _ => rfl
  have g_turn : mg "turn" = some (.ref (He.ga K "turn")) := He.glo_ok X G (c.fact 19 (f := .glo "turn") rfl)
  obtain ⟨d_road_of, D_road_of⟩ := c.def_ 24 (d := d24) rfl
  have F_road_of : Fun K "road_of" "road_of" sp_road_of (He.ga K "road_of") d_road_of := fun_of D_road_of
  have b_road_of : Binds K d_road_of ["people", "deeds"] [] := D_road_of.bindsN fun _ _ _ _ _ _ us hl => match us, hl with | [_, _], _ => rfl
  have g_road_of : mg "road_of" = some (.ref (He.ga K "road_of")) := He.glo_ok X G (c.fact 20 (f := .glo "road_of") rfl)
  obtain ⟨d_deeds_of, D_deeds_of⟩ := c.def_ 25 (d := d25) rfl
  have F_deeds_of : Fun K "deeds_of" "deeds_of" sp_deeds_of (He.ga K "deeds_of") d_deeds_of := fun_of D_deeds_of
  have b_deeds_of : Binds K d_deeds_of ["people", "road"] [] := D_deeds_of.bindsN fun _ _ _ _ _ _ us hl => match us, hl with | [_, _], _ => rfl
  have g_deeds_of : mg "deeds_of" = some (.ref (He.ga K "deeds_of")) := He.glo_ok X G (c.fact 21 (f := .glo "deeds_of") rfl)
  obtain ⟨d_is_manner, D_is_manner⟩ := c.def_ 26 (d := d26) rfl
  have F_is_manner : Fun K "is_manner" "is_manner" sp_is_manner (He.ga K "is_manner") d_is_manner := fun_of D_is_manner
  have b_is_manner : Binds K d_is_manner ["value"] [] := D_is_manner.bindsN fun _ _ _ _ _ _ us hl => match us, hl with | [_], _ => rfl
  have g_is_manner : mg "is_manner" = some (.ref (He.ga K "is_manner")) := He.glo_ok X G (c.fact 22 (f := .glo "is_manner") rfl)
  obtain ⟨d_check_manner, D_check_manner⟩ := c.def_ 27 (d := d27) rfl
  have F_check_manner : Fun K "check_manner" "check_manner" sp_check_manner (He.ga K "check_manner") d_check_manner := fun_of D_check_manner
  have b_check_manner : Binds K d_check_manner ["manner"] [] := D_check_manner.bindsN fun _ _ _ _ _ _ us hl => match us, hl with | [_], _ => rfl
  have g_check_manner : mg "check_manner" = some (.ref (He.ga K "check_manner")) := He.glo_ok X G (c.fact 23 (f := .glo "check_manner") rfl)
  obtain ⟨d_subsets, D_subsets⟩ := c.def_ 28 (d := d28) rfl
  have F_subsets : Fun K "subsets" "subsets" sp_subsets (He.ga K "subsets") d_subsets := fun_of D_subsets
  have b_subsets : Binds K d_subsets ["end"] [] := D_subsets.bindsN fun _ _ _ _ _ _ us hl => match us, hl with | [_], _ => rfl
  have g_subsets : mg "subsets" = some (.ref (He.ga K "subsets")) := He.glo_ok X G (c.fact 24 (f := .glo "subsets") rfl)
  obtain ⟨d_all_manners, D_all_manners⟩ := c.def_ 29 (d := d29) rfl
  have F_all_manners : Fun K "all_manners" "all_manners" sp_all_manners (He.ga K "all_manners") d_all_manners := fun_of D_all_manners
  have b_all_manners : Binds K d_all_manners [] [] := D_all_manners.bindsN fun _ _ _ _ _ _ us hl => match us, hl with | [], _ => rfl
  have g_all_manners : mg "all_manners" = some (.ref (He.ga K "all_manners")) := He.glo_ok X G (c.fact 25 (f := .glo "all_manners") rfl)
  obtain ⟨d_pairs_let, D_pairs_let⟩ := c.def_ 30 (d := d30) rfl
  have F_pairs_let : Fun K "pairs_let" "pairs_let" sp_pairs_let (He.ga K "pairs_let") d_pairs_let := fun_of D_pairs_let
  have b_pairs_let : Binds K d_pairs_let ["company", "manner"] [] := D_pairs_let.bindsN fun _ _ _ _ _ _ us hl => match us, hl with | [_, _], _ => rfl
  have g_pairs_let : mg "pairs_let" = some (.ref (He.ga K "pairs_let")) := He.glo_ok X G (c.fact 26 (f := .glo "pairs_let") rfl)
  obtain ⟨d_is_pair_let, D_is_pair_let⟩ := c.def_ 31 (d := d31) rfl
  have F_is_pair_let : Fun K "is_pair_let" "is_pair_let" sp_is_pair_let (He.ga K "is_pair_let") d_is_pair_let := fun_of D_is_pair_let
  have b_is_pair_let : Binds K d_is_pair_let ["company", "manner", "pair"] [] := D_is_pair_let.bindsN fun _ _ _ _ _ _ us hl => match us, hl with | [_, _, _], _ => rfl
  have g_is_pair_let : mg "is_pair_let" = some (.ref (He.ga K "is_pair_let")) := He.glo_ok X G (c.fact 27 (f := .glo "is_pair_let") rfl)
  obtain ⟨d_counted_people, D_counted_people⟩ := c.def_ 32 (d := d32) rfl
  have F_counted_people : Fun K "counted_people" "counted_people" sp_counted_people (He.ga K "counted_people") d_counted_people := fun_of D_counted_people
  have b_counted_people : Binds K d_counted_people ["company", "manner", "pair"] [] := D_counted_people.bindsN fun _ _ _ _ _ _ us hl => match us, hl with | [_, _, _], _ => rfl
  have g_counted_people : mg "counted_people" = some (.ref (He.ga K "counted_people")) := He.glo_ok X G (c.fact 28 (f := .glo "counted_people") rfl)
  obtain ⟨d_is_let, D_is_let⟩ := c.def_ 33 (d := d33) rfl
  have F_is_let : Fun K "is_let" "is_let" sp_is_let (He.ga K "is_let") d_is_let := fun_of D_is_let
  have b_is_let : Binds K d_is_let ["company", "manner", "pair"] [] := D_is_let.bindsN fun _ _ _ _ _ _ us hl => match us, hl with | [_, _, _], _ => rfl
  have g_is_let : mg "is_let" = some (.ref (He.ga K "is_let")) := He.glo_ok X G (c.fact 29 (f := .glo "is_let") rfl)
  obtain ⟨d_let_pairs, D_let_pairs⟩ := c.def_ 34 (d := d34) rfl
  have F_let_pairs : Fun K "let_pairs" "let_pairs" sp_let_pairs (He.ga K "let_pairs") d_let_pairs := fun_of D_let_pairs
  have b_let_pairs : Binds K d_let_pairs ["company", "manner"] [] := D_let_pairs.bindsN fun _ _ _ _ _ _ us hl => match us, hl with | [_, _], _ => rfl
  have g_let_pairs : mg "let_pairs" = some (.ref (He.ga K "let_pairs")) := He.glo_ok X G (c.fact 30 (f := .glo "let_pairs") rfl)
  obtain ⟨d_are_ascending_pairs, D_are_ascending_pairs⟩ := c.def_ 35 (d := d35) rfl
  have F_are_ascending_pairs : Fun K "are_ascending_pairs" "are_ascending_pairs" sp_are_ascending_pairs (He.ga K "are_ascending_pairs") d_are_ascending_pairs := fun_of D_are_ascending_pairs
  have b_are_ascending_pairs : Binds K d_are_ascending_pairs ["company", "value"] [] := D_are_ascending_pairs.bindsN fun _ _ _ _ _ _ us hl => match us, hl with | [_, _], _ => rfl
  have g_are_ascending_pairs : mg "are_ascending_pairs" = some (.ref (He.ga K "are_ascending_pairs")) := He.glo_ok X G (c.fact 31 (f := .glo "are_ascending_pairs") rfl)
  obtain ⟨d_manners_letting, D_manners_letting⟩ := c.def_ 36 (d := d36) rfl
  have F_manners_letting : Fun K "manners_letting" "manners_letting" sp_manners_letting (He.ga K "manners_letting") d_manners_letting := fun_of D_manners_letting
  have b_manners_letting : Binds K d_manners_letting ["company", "pairs"] [] := D_manners_letting.bindsN fun _ _ _ _ _ _ us hl => match us, hl with | [_, _], _ => rfl
  have g_manners_letting : mg "manners_letting" = some (.ref (He.ga K "manners_letting")) := He.glo_ok X G (c.fact 32 (f := .glo "manners_letting") rfl)
  obtain ⟨d_let_number, D_let_number⟩ := c.def_ 37 (d := d37) rfl
  have F_let_number : Fun K "let_number" "let_number" sp_let_number (He.ga K "let_number") d_let_number := fun_of D_let_number
  have b_let_number : Binds K d_let_number ["company", "manner"] [] := D_let_number.bindsN fun _ _ _ _ _ _ us hl => match us, hl with | [_, _], _ => rfl
  have g_let_number : mg "let_number" = some (.ref (He.ga K "let_number")) := He.glo_ok X G (c.fact 33 (f := .glo "let_number") rfl)
  obtain ⟨d__law_purse, D__law_purse⟩ := c.def_ 38 (d := d38) rfl
  have F__law_purse : Fun K "_law_purse" "_law_purse" s_purse (He.ga K "_law_purse") d__law_purse := fun_of D__law_purse
  have b__law_purse : Binds K d__law_purse ["_law_script", "_law_at_here"] [] := D__law_purse.bindsN fun _ _ _ _ _ _ us hl => match us, hl with | [_, _], _ => rfl
  have g__law_purse : mg "_law_purse" = some (.ref (He.ga K "_law_purse")) := He.glo_ok X G (c.fact 34 (f := .glo "_law_purse") rfl)
  obtain ⟨d__law_mixed, D__law_mixed⟩ := c.def_ 39 (d := d39) rfl
  have F__law_mixed : Fun K "_law_mixed" "_law_mixed" s_mixed (He.ga K "_law_mixed") d__law_mixed := fun_of D__law_mixed
  have b__law_mixed : Binds K d__law_mixed ["_law_seed", "_law_turn", "_law_at_here"] [] := D__law_mixed.bindsN fun _ _ _ _ _ _ us hl => match us, hl with | [_, _, _], _ => rfl
  have g__law_mixed : mg "_law_mixed" = some (.ref (He.ga K "_law_mixed")) := He.glo_ok X G (c.fact 35 (f := .glo "_law_mixed") rfl)
  obtain ⟨d__law_draw, D__law_draw⟩ := c.def_ 40 (d := d40) rfl
  have F__law_draw : Fun K "_law_draw" "_law_draw" s_draw (He.ga K "_law_draw") d__law_draw := fun_of D__law_draw
  have b__law_draw : Binds K d__law_draw ["_law_purse_here", "_law_many"] [] := D__law_draw.bindsN fun _ _ _ _ _ _ us hl => match us, hl with | [_, _], _ => rfl
  have g__law_draw : mg "_law_draw" = some (.ref (He.ga K "_law_draw")) := He.glo_ok X G (c.fact 36 (f := .glo "_law_draw") rfl)
  obtain ⟨d__law_purses, D__law_purses⟩ := c.def_ 41 (d := d41) rfl
  have F__law_purses : Fun K "_law_purses" "_law_purses" s_purses (He.ga K "_law_purses") d__law_purses := fun_of D__law_purses
  have b__law_purses : Binds K d__law_purses ["_law_script", "_law_few"] [] := D__law_purses.bindsN fun _ _ _ _ _ _ us hl => match us, hl with | [_, _], _ => rfl
  have g__law_purses : mg "_law_purses" = some (.ref (He.ga K "_law_purses")) := He.glo_ok X G (c.fact 37 (f := .glo "_law_purses") rfl)
  obtain ⟨d__law_one_of, D__law_one_of⟩ := c.def_ 42 (d := d42) rfl
  have F__law_one_of : Fun K "_law_one_of" "_law_one_of" s_one_of (He.ga K "_law_one_of") d__law_one_of := fun_of D__law_one_of
  have b__law_one_of : Binds K d__law_one_of ["_law_purse_here", "_law_some"] [] := D__law_one_of.bindsN fun _ _ _ _ _ _ us hl => match us, hl with | [_, _], _ => rfl
  have g__law_one_of : mg "_law_one_of" = some (.ref (He.ga K "_law_one_of")) := He.glo_ok X G (c.fact 38 (f := .glo "_law_one_of") rfl)
  obtain ⟨d__law_shuffled, D__law_shuffled⟩ := c.def_ 43 (d := d43) rfl
  have F__law_shuffled : Fun K "_law_shuffled" "_law_shuffled" s_shuffled (He.ga K "_law_shuffled") d__law_shuffled := fun_of D__law_shuffled
  have b__law_shuffled : Binds K d__law_shuffled ["_law_purse_here", "_law_some"] [] := D__law_shuffled.bindsN fun _ _ _ _ _ _ us hl => match us, hl with | [_, _], _ => rfl
  have g__law_shuffled : mg "_law_shuffled" = some (.ref (He.ga K "_law_shuffled")) := He.glo_ok X G (c.fact 39 (f := .glo "_law_shuffled") rfl)
  obtain ⟨d__law_exact, D__law_exact⟩ := c.def_ 44 (d := d44) rfl
  have F__law_exact : Fun K "_law_exact" "_law_exact" s_exact (He.ga K "_law_exact") d__law_exact := fun_of D__law_exact
  have b__law_exact : Binds K d__law_exact ["_law_mine", "_law_theirs"] [] := D__law_exact.bindsN fun _ _ _ _ _ _ us hl => match us, hl with | [_, _], _ => rfl
  have g__law_exact : mg "_law_exact" = some (.ref (He.ga K "_law_exact")) := He.glo_ok X G (c.fact 40 (f := .glo "_law_exact") rfl)
  obtain ⟨d__law_word, D__law_word⟩ := c.def_ 45 (d := d45) rfl
  have F__law_word : Fun K "_law_word" "_law_word" s_word (He.ga K "_law_word") d__law_word := fun_of D__law_word
  have b__law_word : Binds K d__law_word ["_law_purse_here"] [] := D__law_word.bindsN fun _ _ _ _ _ _ us hl => match us, hl with | [_], _ => rfl
  have g__law_word : mg "_law_word" = some (.ref (He.ga K "_law_word")) := He.glo_ok X G (c.fact 41 (f := .glo "_law_word") rfl)
  obtain ⟨d__law_words, D__law_words⟩ := c.def_ 46 (d := d46) rfl
  have F__law_words : Fun K "_law_words" "_law_words" s_words (He.ga K "_law_words") d__law_words := fun_of D__law_words
  have b__law_words : Binds K d__law_words ["_law_purse_here", "_law_many"] [] := D__law_words.bindsN fun _ _ _ _ _ _ us hl => match us, hl with | [_, _], _ => rfl
  have g__law_words : mg "_law_words" = some (.ref (He.ga K "_law_words")) := He.glo_ok X G (c.fact 42 (f := .glo "_law_words") rfl)
  obtain ⟨d__law_people, D__law_people⟩ := c.def_ 47 (d := d47) rfl
  have F__law_people : Fun K "_law_people" "_law_people" s_people (He.ga K "_law_people") d__law_people := fun_of D__law_people
  have b__law_people : Binds K d__law_people ["_law_purse_here", "_law_many"] [] := D__law_people.bindsN fun _ _ _ _ _ _ us hl => match us, hl with | [_, _], _ => rfl
  have g__law_people : mg "_law_people" = some (.ref (He.ga K "_law_people")) := He.glo_ok X G (c.fact 43 (f := .glo "_law_people") rfl)
  obtain ⟨d__law_pair, D__law_pair⟩ := c.def_ 48 (d := d48) rfl
  have F__law_pair : Fun K "_law_pair" "_law_pair" s_pair (He.ga K "_law_pair") d__law_pair := fun_of D__law_pair
  have b__law_pair : Binds K d__law_pair ["_law_first", "_law_second"] [] := D__law_pair.bindsN fun _ _ _ _ _ _ us hl => match us, hl with | [_, _], _ => rfl
  have g__law_pair : mg "_law_pair" = some (.ref (He.ga K "_law_pair")) := He.glo_ok X G (c.fact 44 (f := .glo "_law_pair") rfl)
  obtain ⟨d__law_pairs, D__law_pairs⟩ := c.def_ 49 (d := d49) rfl
  have F__law_pairs : Fun K "_law_pairs" "_law_pairs" s_pairs (He.ga K "_law_pairs") d__law_pairs := fun_of D__law_pairs
  have b__law_pairs : Binds K d__law_pairs ["_law_crowd"] [] := D__law_pairs.bindsN fun _ _ _ _ _ _ us hl => match us, hl with | [_], _ => rfl
  have g__law_pairs : mg "_law_pairs" = some (.ref (He.ga K "_law_pairs")) := He.glo_ok X G (c.fact 45 (f := .glo "_law_pairs") rfl)
  obtain ⟨d__law_net, D__law_net⟩ := c.def_ 50 (d := d50) rfl
  have F__law_net : Fun K "_law_net" "_law_net" s_net (He.ga K "_law_net") d__law_net := fun_of D__law_net
  have b__law_net : Binds K d__law_net ["_law_world_here"] [] := D__law_net.bindsN fun _ _ _ _ _ _ us hl => match us, hl with | [_], _ => rfl
  have g__law_net : mg "_law_net" = some (.ref (He.ga K "_law_net")) := He.glo_ok X G (c.fact 46 (f := .glo "_law_net") rfl)
  obtain ⟨d__law_deed, D__law_deed⟩ := c.def_ 51 (d := d51) rfl
  have F__law_deed : Fun K "_law_deed" "_law_deed" s_deed (He.ga K "_law_deed") d__law_deed := fun_of D__law_deed
  have b__law_deed : Binds K d__law_deed ["_law_world_here", "_law_pair_here"] [] := D__law_deed.bindsN fun _ _ _ _ _ _ us hl => match us, hl with | [_, _], _ => rfl
  have g__law_deed : mg "_law_deed" = some (.ref (He.ga K "_law_deed")) := He.glo_ok X G (c.fact 47 (f := .glo "_law_deed") rfl)
  obtain ⟨d__law_opposite, D__law_opposite⟩ := c.def_ 52 (d := d52) rfl
  have F__law_opposite : Fun K "_law_opposite" "_law_opposite" s_opposite (He.ga K "_law_opposite") d__law_opposite := fun_of D__law_opposite
  have b__law_opposite : Binds K d__law_opposite ["_law_world_here"] [] := D__law_opposite.bindsN fun _ _ _ _ _ _ us hl => match us, hl with | [_], _ => rfl
  have g__law_opposite : mg "_law_opposite" = some (.ref (He.ga K "_law_opposite")) := He.glo_ok X G (c.fact 48 (f := .glo "_law_opposite") rfl)
  obtain ⟨d__law_at, D__law_at⟩ := c.def_ 53 (d := d53) rfl
  have F__law_at : Fun K "_law_at" "_law_at" s_at (He.ga K "_law_at") d__law_at := fun_of D__law_at
  have b__law_at : Binds K d__law_at ["_law_crowd", "_law_number"] [] := D__law_at.bindsN fun _ _ _ _ _ _ us hl => match us, hl with | [_, _], _ => rfl
  have g__law_at : mg "_law_at" = some (.ref (He.ga K "_law_at")) := He.glo_ok X G (c.fact 49 (f := .glo "_law_at") rfl)
  obtain ⟨d__law_by_density, D__law_by_density⟩ := c.def_ 54 (d := d54) rfl
  have F__law_by_density : Fun K "_law_by_density" "_law_by_density" s_by_density (He.ga K "_law_by_density") d__law_by_density := fun_of D__law_by_density
  have b__law_by_density : Binds K d__law_by_density ["_law_purse_here", "_law_crowd"] [] := D__law_by_density.bindsN fun _ _ _ _ _ _ us hl => match us, hl with | [_, _], _ => rfl
  have g__law_by_density : mg "_law_by_density" = some (.ref (He.ga K "_law_by_density")) := He.glo_ok X G (c.fact 50 (f := .glo "_law_by_density") rfl)
  obtain ⟨d__law_by_labels, D__law_by_labels⟩ := c.def_ 55 (d := d55) rfl
  have F__law_by_labels : Fun K "_law_by_labels" "_law_by_labels" s_by_labels (He.ga K "_law_by_labels") d__law_by_labels := fun_of D__law_by_labels
  have b__law_by_labels : Binds K d__law_by_labels ["_law_purse_here", "_law_crowd"] [] := D__law_by_labels.bindsN fun _ _ _ _ _ _ us hl => match us, hl with | [_, _], _ => rfl
  have g__law_by_labels : mg "_law_by_labels" = some (.ref (He.ga K "_law_by_labels")) := He.glo_ok X G (c.fact 51 (f := .glo "_law_by_labels") rfl)
  obtain ⟨d__law_shaped, D__law_shaped⟩ := c.def_ 56 (d := d56) rfl
  have F__law_shaped : Fun K "_law_shaped" "_law_shaped" s_shaped (He.ga K "_law_shaped") d__law_shaped := fun_of D__law_shaped
  have b__law_shaped : Binds K d__law_shaped ["_law_purse_here", "_law_crowd"] [] := D__law_shaped.bindsN fun _ _ _ _ _ _ us hl => match us, hl with | [_, _], _ => rfl
  have g__law_shaped : mg "_law_shaped" = some (.ref (He.ga K "_law_shaped")) := He.glo_ok X G (c.fact 52 (f := .glo "_law_shaped") rfl)
  obtain ⟨d__law_world, D__law_world⟩ := c.def_ 57 (d := d57) rfl
  have F__law_world : Fun K "_law_world" "_law_world" s_world (He.ga K "_law_world") d__law_world := fun_of D__law_world
  have b__law_world : Binds K d__law_world ["_law_purse_here", "_law_many"] [] := D__law_world.bindsN fun _ _ _ _ _ _ us hl => match us, hl with | [_, _], _ => rfl
  have g__law_world : mg "_law_world" = some (.ref (He.ga K "_law_world")) := He.glo_ok X G (c.fact 53 (f := .glo "_law_world") rfl)
  obtain ⟨d__law_company, D__law_company⟩ := c.def_ 58 (d := d58) rfl
  have F__law_company : Fun K "_law_company" "_law_company" s_company (He.ga K "_law_company") d__law_company := fun_of D__law_company
  have b__law_company : Binds K d__law_company ["_law_world_here"] [] := D__law_company.bindsN fun _ _ _ _ _ _ us hl => match us, hl with | [_], _ => rfl
  have g__law_company : mg "_law_company" = some (.ref (He.ga K "_law_company")) := He.glo_ok X G (c.fact 54 (f := .glo "_law_company") rfl)
  obtain ⟨d__law_stays, D__law_stays⟩ := c.def_ 59 (d := d59) rfl
  have F__law_stays : Fun K "_law_stays" "_law_stays" s_stays (He.ga K "_law_stays") d__law_stays := fun_of D__law_stays
  have b__law_stays : Binds K d__law_stays ["_law_world_here", "_law_company_here"] [] := D__law_stays.bindsN fun _ _ _ _ _ _ us hl => match us, hl with | [_, _], _ => rfl
  have g__law_stays : mg "_law_stays" = some (.ref (He.ga K "_law_stays")) := He.glo_ok X G (c.fact 55 (f := .glo "_law_stays") rfl)
  obtain ⟨d__law_all_manners, D__law_all_manners⟩ := c.def_ 60 (d := d60) rfl
  have F__law_all_manners : Fun K "_law_all_manners" "_law_all_manners" s_all_manners (He.ga K "_law_all_manners") d__law_all_manners := fun_of D__law_all_manners
  have b__law_all_manners : Binds K d__law_all_manners [] [] := D__law_all_manners.bindsN fun _ _ _ _ _ _ us hl => match us, hl with | [], _ => rfl
  have g__law_all_manners : mg "_law_all_manners" = some (.ref (He.ga K "_law_all_manners")) := He.glo_ok X G (c.fact 56 (f := .glo "_law_all_manners") rfl)
  obtain ⟨d__law_kind_lists, D__law_kind_lists⟩ := c.def_ 61 (d := d61) rfl
  have F__law_kind_lists : Fun K "_law_kind_lists" "_law_kind_lists" s_kind_lists (He.ga K "_law_kind_lists") d__law_kind_lists := fun_of D__law_kind_lists
  have b__law_kind_lists : Binds K d__law_kind_lists ["_law_world_here"] [] := D__law_kind_lists.bindsN fun _ _ _ _ _ _ us hl => match us, hl with | [_], _ => rfl
  have g__law_kind_lists : mg "_law_kind_lists" = some (.ref (He.ga K "_law_kind_lists")) := He.glo_ok X G (c.fact 57 (f := .glo "_law_kind_lists") rfl)
  obtain ⟨d__law_own_counted, D__law_own_counted⟩ := c.def_ 62 (d := d62) rfl
  have F__law_own_counted : Fun K "_law_own_counted" "_law_own_counted" s_own_counted (He.ga K "_law_own_counted") d__law_own_counted := fun_of D__law_own_counted
  have b__law_own_counted : Binds K d__law_own_counted ["_law_lists", "_law_manner", "_law_pair_here"] [] := D__law_own_counted.bindsN fun _ _ _ _ _ _ us hl => match us, hl with | [_, _, _], _ => rfl
  have g__law_own_counted : mg "_law_own_counted" = some (.ref (He.ga K "_law_own_counted")) := He.glo_ok X G (c.fact 58 (f := .glo "_law_own_counted") rfl)
  obtain ⟨d__law_own_lets, D__law_own_lets⟩ := c.def_ 63 (d := d63) rfl
  have F__law_own_lets : Fun K "_law_own_lets" "_law_own_lets" s_own_lets (He.ga K "_law_own_lets") d__law_own_lets := fun_of D__law_own_lets
  have b__law_own_lets : Binds K d__law_own_lets ["_law_lists", "_law_manner", "_law_pair_here"] [] := D__law_own_lets.bindsN fun _ _ _ _ _ _ us hl => match us, hl with | [_, _, _], _ => rfl
  have g__law_own_lets : mg "_law_own_lets" = some (.ref (He.ga K "_law_own_lets")) := He.glo_ok X G (c.fact 59 (f := .glo "_law_own_lets") rfl)
  obtain ⟨d__law_manner_right, D__law_manner_right⟩ := c.def_ 64 (d := d64) rfl
  have F__law_manner_right : Fun K "_law_manner_right" "_law_manner_right" s_manner_right (He.ga K "_law_manner_right") d__law_manner_right := fun_of D__law_manner_right
  have b__law_manner_right : Binds K d__law_manner_right ["_law_purse_here", "_law_lists", "_law_company_here", "_law_manner"] [] := D__law_manner_right.bindsN fun _ _ _ _ _ _ us hl => match us, hl with | [_, _, _, _], _ => rfl
  have g__law_manner_right : mg "_law_manner_right" = some (.ref (He.ga K "_law_manner_right")) := He.glo_ok X G (c.fact 60 (f := .glo "_law_manner_right") rfl)
  obtain ⟨d__law_company_right, D__law_company_right⟩ := c.def_ 65 (d := d65) rfl
  have F__law_company_right : Fun K "_law_company_right" "_law_company_right" s_company_right (He.ga K "_law_company_right") d__law_company_right := fun_of D__law_company_right
  have b__law_company_right : Binds K d__law_company_right ["_law_purse_here", "_law_world_here"] [] := D__law_company_right.bindsN fun _ _ _ _ _ _ us hl => match us, hl with | [_, _], _ => rfl
  have g__law_company_right : mg "_law_company_right" = some (.ref (He.ga K "_law_company_right")) := He.glo_ok X G (c.fact 61 (f := .glo "_law_company_right") rfl)
  obtain ⟨d__law_told_manners_right, D__law_told_manners_right⟩ := c.def_ 66 (d := d66) rfl
  have F__law_told_manners_right : Fun K "_law_told_manners_right" "_law_told_manners_right" s_told_manners_right (He.ga K "_law_told_manners_right") d__law_told_manners_right := fun_of D__law_told_manners_right
  have b__law_told_manners_right : Binds K d__law_told_manners_right [] [] := D__law_told_manners_right.bindsN fun _ _ _ _ _ _ us hl => match us, hl with | [], _ => rfl
  have g__law_told_manners_right : mg "_law_told_manners_right" = some (.ref (He.ga K "_law_told_manners_right")) := He.glo_ok X G (c.fact 62 (f := .glo "_law_told_manners_right") rfl)
  obtain ⟨d_law, D_law⟩ := c.def_ 67 (d := d67) rfl
  have F_law : Fun K "law" "law" s_law (He.ga K "law") d_law := fun_of D_law
  have b_law : Binds K d_law ["_law_script"] [] := D_law.bindsN fun _ _ _ _ _ _ us hl => match us, hl with | [_], _ => rfl
  have g_law : mg "law" = some (.ref (He.ga K "law")) := He.glo_ok X G (c.fact 63 (f := .glo "law") rfl)
  obtain ⟨d_mpeople, D_mpeople⟩ := c.def_ 7 (d := d7) rfl
  have F_mpeople : Fun K "people" "Company.people" cP (He.ma K (He.ga K "Company") "people") d_mpeople := fun_of D_mpeople
  have b_mpeople : Binds K d_mpeople ["self"] [] := D_mpeople.bindsN fun _ _ _ _ _ _ us hl => match us, hl with | [_], _ => rfl
  have m_mpeople : Meth K (He.ga K "Company") "people" (He.ma K (He.ga K "Company") "people") := He.meth_ok (c.fact 68 (f := .meth "Company" "people") rfl)
  obtain ⟨d_mfriends, D_mfriends⟩ := c.def_ 8 (d := d8) rfl
  have F_mfriends : Fun K "friends" "Company.friends" cFr (He.ma K (He.ga K "Company") "friends") d_mfriends := fun_of D_mfriends
  have b_mfriends : Binds K d_mfriends ["self"] [] := D_mfriends.bindsN fun _ _ _ _ _ _ us hl => match us, hl with | [_], _ => rfl
  have m_mfriends : Meth K (He.ga K "Company") "friends" (He.ma K (He.ga K "Company") "friends") := He.meth_ok (c.fact 69 (f := .meth "Company" "friends") rfl)
  obtain ⟨d_meq, D_meq⟩ := c.def_ 9 (d := d9) rfl
  have F_meq : Fun K "__eq__" "Company.__eq__" cE (He.ma K (He.ga K "Company") "__eq__") d_meq := fun_of D_meq
  have b_meq : Binds K d_meq ["self", "other"] [] := D_meq.bindsN fun _ _ _ _ _ _ us hl => match us, hl with | [_, _], _ => rfl
  have m_meq : Meth K (He.ga K "Company") "__eq__" (He.ma K (He.ga K "Company") "__eq__") := He.meth_ok (c.fact 70 (f := .meth "Company" "__eq__") rfl)
  obtain ⟨d_minit, D_minit⟩ := c.def_ 6 (d := d6) rfl
  have F_minit : Fun K "__init__" "Company.__init__" cI (He.ma K (He.ga K "Company") "__init__") d_minit := fun_of D_minit
  have b_minit : Binds K d_minit ["self", "people", "friends"] [] := D_minit.bindsN fun _ _ _ _ _ _ us hl => match us, hl with | [_, _, _], _ => rfl
  obtain ⟨xw, ce⟩ := He.ba ce
  obtain ⟨xv, ce⟩ := He.ba ce
  obtain ⟨xt, ce⟩ := He.ba ce
  obtain ⟨xk, ce⟩ := He.ba ce
  obtain ⟨x1, ce⟩ := He.ba ce
  obtain ⟨x2, ce⟩ := He.ba ce
  obtain ⟨x3, ce⟩ := He.ba ce
  obtain ⟨x4, ce⟩ := He.ba ce
  obtain ⟨x5, x6⟩ := He.ba ce
  have hKd : KT K (He.ga K "KINDS") := tup_ok xt
  have mKd : mg "KINDS" = some (.ref (He.ga K "KINDS")) := PySem.W.mg_of X G (He.eqO_ok xk)
  have hWd : WT K (He.ga K "WORDS") := word_ok xw
  have mWd : mg "WORDS" = some (.ref (He.ga K "WORDS")) := PySem.W.mg_of X G (He.eqO_ok xv)
  have mEn : mg "enumerate" = none := He.free_ok X G (c.fact 89 (f := .free "enumerate") rfl)
  have mCo : mg "combinations" = some (.type Kc.TC) := PySem.W.mg_of X G (He.eqO_ok x1)
  have cls : Cls K (He.ga K "Company") := He.cls_ok (c.fact 65 (f := .cls "Company") rfl)
  have TC : CT K mg (He.ga K "Company") := ⟨He.noat_ok (c.fact 66 (f := .noat "Company" "_people") rfl), He.noat_ok (c.fact 67 (f := .noat "Company" "_friends") rfl), He.glo_ok X G (c.fact 64 (f := .glo "Company") rfl), ⟨cls, He.eqO_ok x2, He.eqO_ok x3, of_decide_eq_true x4, of_decide_eq_true x5, of_decide_eq_true x6⟩⟩
  have mk : Mk K (He.ga K "Company") (He.ma K (He.ga K "Company") "__init__") := He.mkr_ok (c.fact 71 (f := .mkr "Company") rfl)
  have mL := He.int_ok X G (c.fact 72 (f := .int "LONGEST_WORD" 8) rfl)
  have T : Bt mg := ⟨He.free_ok X G (c.fact 73 (f := .free "sum") rfl), He.free_ok X G (c.fact 74 (f := .free "max") rfl), He.free_ok X G (c.fact 75 (f := .free "min") rfl), He.free_ok X G (c.fact 76 (f := .free "int") rfl), He.free_ok X G (c.fact 77 (f := .free "range") rfl), He.free_ok X G (c.fact 78 (f := .free "len") rfl), He.free_ok X G (c.fact 79 (f := .free "sorted") rfl), He.free_ok X G (c.fact 80 (f := .free "list") rfl), He.free_ok X G (c.fact 81 (f := .free "dict") rfl), He.free_ok X G (c.fact 82 (f := .free "set") rfl), He.free_ok X G (c.fact 83 (f := .free "all") rfl), He.free_ok X G (c.fact 84 (f := .free "zip") rfl), He.free_ok X G (c.fact 85 (f := .free "isinstance") rfl), He.free_ok X G (c.fact 86 (f := .free "str") rfl), He.free_ok X G (c.fact 87 (f := .free "tuple") rfl), He.free_ok X G (c.fact 88 (f := .free "bool") rfl)⟩
  have e := hfa.symm.trans g_law
  cases e
  have b := FunD.bindsA (ps := ["_law_script"]) D_law fun _ _ _ _ _ _ us hl => match us, hl with | [_], _ => rfl
  refine ⟨d_law, fun s v => b s [v] rfl, fun base hIn hNs => ?_⟩
  have G_is_word : FnOk P w K mg base CX0 1 (He.ga K "is_word") d_is_word ["value"] spIsWord := ok_is_word F_is_word T mL
  have H_is_word : Has P w K mg base 1 "is_word" ["value"] spIsWord := ⟨_, _, G_is_word, g_is_word, F_is_word.kp, b_is_word⟩
  have G_are_unlike : FnOk P w K mg base CX0 1 (He.ga K "are_unlike") d_are_unlike ["things"] (spUnlike K) := ok_unlike F_are_unlike T
  have H_are_unlike : Has P w K mg base 1 "are_unlike" ["things"] (spUnlike K) := ⟨_, _, G_are_unlike, g_are_unlike, F_are_unlike.kp, b_are_unlike⟩
  have G_is_person : FnOk P w K mg base CX0 2 (He.ga K "is_person") d_is_person ["value"] spIsWord := ok_is_person F_is_person H_is_word
  have H_is_person : Has P w K mg base 2 "is_person" ["value"] spIsWord := ⟨_, _, G_is_person, g_is_person, F_is_person.kp, b_is_person⟩
  have G_are_people : FnOk P w K mg base CX0 3 (He.ga K "are_people") d_are_people ["value"] spArePpl := ok_are_people F_are_people T H_is_person H_are_unlike
  have H_are_people : Has P w K mg base 3 "are_people" ["value"] spArePpl := ⟨_, _, G_are_people, g_are_people, F_are_people.kp, b_are_people⟩
  have G_is_pair_of : FnOk P w K mg base CX0 1 (He.ga K "is_pair_of") d_is_pair_of ["people", "value"] spPairOf := ok_is_pair_of F_is_pair_of T
  have H_is_pair_of : Has P w K mg base 1 "is_pair_of" ["people", "value"] spPairOf := ⟨_, _, G_is_pair_of, g_is_pair_of, F_is_pair_of.kp, b_is_pair_of⟩
  have G_are_pairs_of : FnOk P w K mg base CX0 2 (He.ga K "are_pairs_of") d_are_pairs_of ["people", "value"] spPairsOf := ok_are_pairs_of F_are_pairs_of T H_is_pair_of H_are_unlike
  have H_are_pairs_of : Has P w K mg base 2 "are_pairs_of" ["people", "value"] spPairsOf := ⟨_, _, G_are_pairs_of, g_are_pairs_of, F_are_pairs_of.kp, b_are_pairs_of⟩
  have M_people : HasM P w K mg base (He.ga K "Company") 1 "people" (spPplM (He.ga K "Company")) := ⟨_, _, ok_ppl F_mpeople T TC, m_mpeople, b_mpeople⟩
  have M_friends : HasM P w K mg base (He.ga K "Company") 1 "friends" (spFrM (He.ga K "Company")) := ⟨_, _, ok_frs F_mfriends T TC, m_mfriends, b_mfriends⟩
  have M_eq : HasEq P w K mg base (He.ga K "Company") := ⟨_, _, ok_eq F_meq T TC, m_meq.at_, m_meq.fn, b_meq⟩
  have MK : Maker P w K mg base (He.ga K "Company") := ⟨⟨_, _, mk, ok_init F_minit T TC H_are_people H_are_pairs_of, b_minit⟩⟩
  have G_check_company : FnOk P w K mg base CX0 1 (He.ga K "check_company") d_check_company ["company"] (spChk (He.ga K "Company")) := ok_check F_check_company T TC
  have H_check_company : Has P w K mg base 1 "check_company" ["company"] (spChk (He.ga K "Company")) := ⟨_, _, G_check_company, g_check_company, F_check_company.kp, b_check_company⟩
  have G_check_pair_of : FnOk P w K mg base CX0 2 (He.ga K "check_pair_of") d_check_pair_of ["company", "pair"] (spChkT (He.ga K "Company")) := ok_checkT F_check_pair_of T TC M_people H_is_pair_of
  have H_check_pair_of : Has P w K mg base 2 "check_pair_of" ["company", "pair"] (spChkT (He.ga K "Company")) := ⟨_, _, G_check_pair_of, g_check_pair_of, F_check_pair_of.kp, b_check_pair_of⟩
  have G__law_mixed : FnOk P w K mg base CX0 1 (He.ga K "_law_mixed") d__law_mixed ["_law_seed", "_law_turn", "_law_at_here"] spMixed := ok_mixed F__law_mixed T
  have H__law_mixed : Has P w K mg base 1 "_law_mixed" ["_law_seed", "_law_turn", "_law_at_here"] spMixed := ⟨_, _, G__law_mixed, g__law_mixed, F__law_mixed.kp, b__law_mixed⟩
  have G__law_draw : FnOk P w K mg base CX0 2 (He.ga K "_law_draw") d__law_draw ["_law_purse_here", "_law_many"] spDraw := ok_draw F__law_draw T F__law_mixed g__law_mixed b__law_mixed
  have H__law_draw : Has P w K mg base 2 "_law_draw" ["_law_purse_here", "_law_many"] spDraw := ⟨_, _, G__law_draw, g__law_draw, F__law_draw.kp, b__law_draw⟩
  have G__law_purses : FnOk P w K mg base CX0 2 (He.ga K "_law_purses") d__law_purses ["_law_script", "_law_few"] (spPurses K) := ok_purses F__law_purses T F__law_purse g__law_purse b__law_purse
  have H__law_purses : Has P w K mg base 2 "_law_purses" ["_law_script", "_law_few"] (spPurses K) := ⟨_, _, G__law_purses, g__law_purses, F__law_purses.kp, b__law_purses⟩
  have G__law_one_of : FnOk P w K mg base CX0 3 (He.ga K "_law_one_of") d__law_one_of ["_law_purse_here", "_law_some"] spOneOf := ok_oneof F__law_one_of T G__law_draw g__law_draw F__law_draw.kp b__law_draw
  have H__law_one_of : Has P w K mg base 3 "_law_one_of" ["_law_purse_here", "_law_some"] spOneOf := ⟨_, _, G__law_one_of, g__law_one_of, F__law_one_of.kp, b__law_one_of⟩
  have G__law_word : FnOk P w K mg base CX0 3 (He.ga K "_law_word") d__law_word ["_law_purse_here"] spWord := ok_word F__law_word T G__law_draw g__law_draw F__law_draw.kp b__law_draw
  have H__law_word : Has P w K mg base 3 "_law_word" ["_law_purse_here"] spWord := ⟨_, _, G__law_word, g__law_word, F__law_word.kp, b__law_word⟩
  have G__law_shuffled : FnOk P w K mg base CX0 3 (He.ga K "_law_shuffled") d__law_shuffled ["_law_purse_here", "_law_some"] spShuffled := ok_shuffled F__law_shuffled T H__law_draw
  have H__law_shuffled : Has P w K mg base 3 "_law_shuffled" ["_law_purse_here", "_law_some"] spShuffled := ⟨_, _, G__law_shuffled, g__law_shuffled, F__law_shuffled.kp, b__law_shuffled⟩
  have G__law_words : FnOk P w K mg base CX0 4 (He.ga K "_law_words") d__law_words ["_law_purse_here", "_law_many"] spWords := ok_words F__law_words T H__law_draw H__law_word
  have H__law_words : Has P w K mg base 4 "_law_words" ["_law_purse_here", "_law_many"] spWords := ⟨_, _, G__law_words, g__law_words, F__law_words.kp, b__law_words⟩
  have G__law_people : FnOk P w K mg base CX0 5 (He.ga K "_law_people") d__law_people ["_law_purse_here", "_law_many"] spPeople := ok_people F__law_people T H__law_draw H__law_words H__law_shuffled
  have H__law_people : Has P w K mg base 5 "_law_people" ["_law_purse_here", "_law_many"] spPeople := ⟨_, _, G__law_people, g__law_people, F__law_people.kp, b__law_people⟩
  have G__law_pair : FnOk P w K mg base CX0 1 (He.ga K "_law_pair") d__law_pair ["_law_first", "_law_second"] spPair := ok_pair F__law_pair
  have H__law_pair : Has P w K mg base 1 "_law_pair" ["_law_first", "_law_second"] spPair := ⟨_, _, G__law_pair, g__law_pair, F__law_pair.kp, b__law_pair⟩
  have G__law_pairs : FnOk P w K mg base CX0 1 (He.ga K "_law_pairs") d__law_pairs ["_law_crowd"] spPairs := ok_pairs F__law_pairs T
  have H__law_pairs : Has P w K mg base 1 "_law_pairs" ["_law_crowd"] spPairs := ⟨_, _, G__law_pairs, g__law_pairs, F__law_pairs.kp, b__law_pairs⟩
  have G__law_net : FnOk P w K mg base CX0 1 (He.ga K "_law_net") d__law_net ["_law_world_here"] spNet := ok_net F__law_net T
  have H__law_net : Has P w K mg base 1 "_law_net" ["_law_world_here"] spNet := ⟨_, _, G__law_net, g__law_net, F__law_net.kp, b__law_net⟩
  have G__law_deed : FnOk P w K mg base CX0 1 (He.ga K "_law_deed") d__law_deed ["_law_world_here", "_law_pair_here"] spDeed := ok_deed F__law_deed T
  have H__law_deed : Has P w K mg base 1 "_law_deed" ["_law_world_here", "_law_pair_here"] spDeed := ⟨_, _, G__law_deed, g__law_deed, F__law_deed.kp, b__law_deed⟩
  have G__law_opposite : FnOk P w K mg base CX0 2 (He.ga K "_law_opposite") d__law_opposite ["_law_world_here"] spOpp := ok_opp F__law_opposite T H__law_net H__law_pairs
  have H__law_opposite : Has P w K mg base 2 "_law_opposite" ["_law_world_here"] spOpp := ⟨_, _, G__law_opposite, g__law_opposite, F__law_opposite.kp, b__law_opposite⟩
  have G__law_by_density : FnOk P w K mg base CX0 3 (He.ga K "_law_by_density") d__law_by_density ["_law_purse_here", "_law_crowd"] (spMade 110) := ok_density F__law_by_density T H__law_draw H__law_pairs
  have H__law_by_density : Has P w K mg base 3 "_law_by_density" ["_law_purse_here", "_law_crowd"] (spMade 110) := ⟨_, _, G__law_by_density, g__law_by_density, F__law_by_density.kp, b__law_by_density⟩
  have G__law_by_labels : FnOk P w K mg base CX0 3 (He.ga K "_law_by_labels") d__law_by_labels ["_law_purse_here", "_law_crowd"] (spMade 110) := ok_labels F__law_by_labels T H__law_draw H__law_pairs
  have H__law_by_labels : Has P w K mg base 3 "_law_by_labels" ["_law_purse_here", "_law_crowd"] (spMade 110) := ⟨_, _, G__law_by_labels, g__law_by_labels, F__law_by_labels.kp, b__law_by_labels⟩
  have G__law_shaped : FnOk P w K mg base CX0 4 (He.ga K "_law_shaped") d__law_shaped ["_law_purse_here", "_law_crowd"] (spMade 110) := ok_shaped F__law_shaped T H__law_draw H__law_pairs H__law_pair H__law_shuffled
  have H__law_shaped : Has P w K mg base 4 "_law_shaped" ["_law_purse_here", "_law_crowd"] (spMade 110) := ⟨_, _, G__law_shaped, g__law_shaped, F__law_shaped.kp, b__law_shaped⟩
  have G__law_world : FnOk P w K mg base CX0 6 (He.ga K "_law_world") d__law_world ["_law_purse_here", "_law_many"] spWorld := ok_world F__law_world T H__law_draw H__law_pairs H__law_one_of H__law_people H__law_by_labels H__law_by_density H__law_shaped H__law_opposite H__law_deed
  have H__law_world : Has P w K mg base 6 "_law_world" ["_law_purse_here", "_law_many"] spWorld := ⟨_, _, G__law_world, g__law_world, F__law_world.kp, b__law_world⟩
  have G__law_company : FnOk P w K mg base CX0 6 (He.ga K "_law_company") d__law_company ["_law_world_here"] (spComp (He.ga K "Company")) := ok_company F__law_company T TC MK
  have H__law_company : Has P w K mg base 6 "_law_company" ["_law_world_here"] (spComp (He.ga K "Company")) := ⟨_, _, G__law_company, g__law_company, F__law_company.kp, b__law_company⟩
  have G__law_exact : FnOk P w K mg base CX0 4 (He.ga K "_law_exact") d__law_exact ["_law_mine", "_law_theirs"] (spExact 3) := ok_exact F__law_exact T g__law_exact b__law_exact 3
  have H__law_exact : Has P w K mg base 4 "_law_exact" ["_law_mine", "_law_theirs"] (spExact 3) := ⟨_, _, G__law_exact, g__law_exact, F__law_exact.kp, b__law_exact⟩
  have G__law_stays : FnOk P w K mg base CX0 7 (He.ga K "_law_stays") d__law_stays ["_law_world_here", "_law_company_here"] (spStays (He.ga K "Company")) := ok_stays F__law_stays T TC M_people M_friends M_eq H__law_exact H__law_company
  have H__law_stays : Has P w K mg base 7 "_law_stays" ["_law_world_here", "_law_company_here"] (spStays (He.ga K "Company")) := ⟨_, _, G__law_stays, g__law_stays, F__law_stays.kp, b__law_stays⟩
  have G_is_count : FnOk P w K mg base CX0 1 (He.ga K "is_count") d_is_count ["value"] spIsCnt := ok_is_count F_is_count T
  have H_is_count : Has P w K mg base 1 "is_count" ["value"] spIsCnt := ⟨_, _, G_is_count, g_is_count, F_is_count.kp, b_is_count⟩
  have G_pair_of : FnOk P w K mg base CX0 1 (He.ga K "pair_of") d_pair_of ["one", "other"] spPair := ok_ppair_of F_pair_of
  have H_pair_of : Has P w K mg base 1 "pair_of" ["one", "other"] spPair := ⟨_, _, G_pair_of, g_pair_of, F_pair_of.kp, b_pair_of⟩
  have G_ones : FnOk P w K mg base CX0 1 (He.ga K "ones") d_ones ["bits"] spOnes := ok_ones F_ones
  have H_ones : Has P w K mg base 1 "ones" ["bits"] spOnes := ⟨_, _, G_ones, g_ones, F_ones.kp, b_ones⟩
  have G_turn : FnOk P w K mg base CX0 1 (He.ga K "turn") d_turn ["rows", "deed"] spTurn' := ok_turnR F_turn
  have H_turn : Has P w K mg base 1 "turn" ["rows", "deed"] spTurn' := ⟨_, _, G_turn, g_turn, F_turn.kp, b_turn⟩
  have G_rows_of : FnOk P w K mg base CX0 2 (He.ga K "rows_of") d_rows_of ["company"] (spRows (He.ga K "Company")) := ok_rows_of F_rows_of T mEn TC M_people M_friends H_turn
  have H_rows_of : Has P w K mg base 2 "rows_of" ["company"] (spRows (He.ga K "Company")) := ⟨_, _, G_rows_of, g_rows_of, F_rows_of.kp, b_rows_of⟩
  have G_counted_bits : FnOk P w K mg base CX0 1 (He.ga K "counted_bits") d_counted_bits ["rows", "kinds", "pair"] spCB := ok_counted_bits F_counted_bits T
  have H_counted_bits : Has P w K mg base 1 "counted_bits" ["rows", "kinds", "pair"] spCB := ⟨_, _, G_counted_bits, g_counted_bits, F_counted_bits.kp, b_counted_bits⟩
  have G_pairs_in : FnOk P w K mg base CX0 1 (He.ga K "pairs_in") d_pairs_in ["rows"] spPin := ok_pairs_in F_pairs_in T mCo
  have H_pairs_in : Has P w K mg base 1 "pairs_in" ["rows"] spPin := ⟨_, _, G_pairs_in, g_pairs_in, F_pairs_in.kp, b_pairs_in⟩
  have G_lets : FnOk P w K mg base CX0 2 (He.ga K "lets") d_lets ["rows", "manner", "pair"] spLets := ok_lets F_lets T H_ones H_counted_bits
  have H_lets : Has P w K mg base 2 "lets" ["rows", "manner", "pair"] spLets := ⟨_, _, G_lets, g_lets, F_lets.kp, b_lets⟩
  have G_let_in : FnOk P w K mg base CX0 3 (He.ga K "let_in") d_let_in ["rows", "manner"] spLetIn := ok_let_in F_let_in T H_pairs_in H_lets
  have H_let_in : Has P w K mg base 3 "let_in" ["rows", "manner"] spLetIn := ⟨_, _, G_let_in, g_let_in, F_let_in.kp, b_let_in⟩
  have G_road_of : FnOk P w K mg base CX0 2 (He.ga K "road_of") d_road_of ["people", "deeds"] spRoad := ok_road_of F_road_of H_pair_of
  have H_road_of : Has P w K mg base 2 "road_of" ["people", "deeds"] spRoad := ⟨_, _, G_road_of, g_road_of, F_road_of.kp, b_road_of⟩
  have G_pairs_let : FnOk P w K mg base CX0 4 (He.ga K "pairs_let") d_pairs_let ["company", "manner"] (spPLet (He.ga K "Company")) := ok_pairs_let F_pairs_let TC M_people H_rows_of H_let_in H_road_of
  have H_pairs_let : Has P w K mg base 4 "pairs_let" ["company", "manner"] (spPLet (He.ga K "Company")) := ⟨_, _, G_pairs_let, g_pairs_let, F_pairs_let.kp, b_pairs_let⟩
  have G_is_ascending : FnOk P w K mg base CX0 1 (He.ga K "is_ascending") d_is_ascending ["things"] spAscI := ok_is_ascI F_is_ascending T
  have H_is_ascending : Has P w K mg base 1 "is_ascending" ["things"] spAscI := ⟨_, _, G_is_ascending, g_is_ascending, F_is_ascending.kp, b_is_ascending⟩
  have G_is_ascending2 : FnOk P w K mg base CX0 1 (He.ga K "is_ascending") d_is_ascending ["things"] spAscP := ok_is_ascP F_is_ascending T
  have H_is_ascending2 : Has P w K mg base 1 "is_ascending" ["things"] spAscP := ⟨_, _, G_is_ascending2, g_is_ascending, F_is_ascending.kp, b_is_ascending⟩
  have G_are_numbers_below : FnOk P w K mg base CX0 2 (He.ga K "are_numbers_below") d_are_numbers_below ["value", "end"] spBelow := ok_below F_are_numbers_below T H_is_count H_is_ascending
  have H_are_numbers_below : Has P w K mg base 2 "are_numbers_below" ["value", "end"] spBelow := ⟨_, _, G_are_numbers_below, g_are_numbers_below, F_are_numbers_below.kp, b_are_numbers_below⟩
  have G_is_manner : FnOk P w K mg base CX0 3 (He.ga K "is_manner") d_is_manner ["value"] spIsMn := ok_is_manner F_is_manner T mKd hKd mWd hWd H_are_numbers_below
  have H_is_manner : Has P w K mg base 3 "is_manner" ["value"] spIsMn := ⟨_, _, G_is_manner, g_is_manner, F_is_manner.kp, b_is_manner⟩
  have G_check_manner : FnOk P w K mg base CX0 4 (He.ga K "check_manner") d_check_manner ["manner"] spChkM := ok_check_manner F_check_manner H_is_manner
  have H_check_manner : Has P w K mg base 4 "check_manner" ["manner"] spChkM := ⟨_, _, G_check_manner, g_check_manner, F_check_manner.kp, b_check_manner⟩
  have G_let_pairs : FnOk P w K mg base CX0 5 (He.ga K "let_pairs") d_let_pairs ["company", "manner"] (spLetP (He.ga K "Company")) := ok_let_pairs F_let_pairs H_check_company H_check_manner H_pairs_let
  have H_let_pairs : Has P w K mg base 5 "let_pairs" ["company", "manner"] (spLetP (He.ga K "Company")) := ⟨_, _, G_let_pairs, g_let_pairs, F_let_pairs.kp, b_let_pairs⟩
  have G_members : FnOk P w K mg base CX0 1 (He.ga K "members") d_members ["bits"] spMembers := ok_members F_members T
  have H_members : Has P w K mg base 1 "members" ["bits"] spMembers := ⟨_, _, G_members, g_members, F_members.kp, b_members⟩
  have G_deeds_of : FnOk P w K mg base CX0 1 (He.ga K "deeds_of") d_deeds_of ["people", "road"] spDeeds := ok_deeds_of F_deeds_of T mEn
  have H_deeds_of : Has P w K mg base 1 "deeds_of" ["people", "road"] spDeeds := ⟨_, _, G_deeds_of, g_deeds_of, F_deeds_of.kp, b_deeds_of⟩
  have G_subsets : FnOk P w K mg base CX0 1 (He.ga K "subsets") d_subsets ["end"] spSubs := ok_subsets F_subsets T mCo
  have H_subsets : Has P w K mg base 1 "subsets" ["end"] spSubs := ⟨_, _, G_subsets, g_subsets, F_subsets.kp, b_subsets⟩
  have G_all_manners : FnOk P w K mg base CX0 2 (He.ga K "all_manners") d_all_manners [] spAllMn := ok_all_manners F_all_manners T mKd hKd mWd hWd H_subsets
  have H_all_manners : Has P w K mg base 2 "all_manners" [] spAllMn := ⟨_, _, G_all_manners, g_all_manners, F_all_manners.kp, b_all_manners⟩
  have G_is_pair_let : FnOk P w K mg base CX0 3 (He.ga K "is_pair_let") d_is_pair_let ["company", "manner", "pair"] (spPL (He.ga K "Company")) := ok_is_pair_let F_is_pair_let TC M_people H_deeds_of H_rows_of H_lets
  have H_is_pair_let : Has P w K mg base 3 "is_pair_let" ["company", "manner", "pair"] (spPL (He.ga K "Company")) := ⟨_, _, G_is_pair_let, g_is_pair_let, F_is_pair_let.kp, b_is_pair_let⟩
  have G_is_let : FnOk P w K mg base CX0 5 (He.ga K "is_let") d_is_let ["company", "manner", "pair"] (spIsLet (He.ga K "Company")) := ok_is_let F_is_let H_check_company H_check_manner H_check_pair_of H_is_pair_let
  have H_is_let : Has P w K mg base 5 "is_let" ["company", "manner", "pair"] (spIsLet (He.ga K "Company")) := ⟨_, _, G_is_let, g_is_let, F_is_let.kp, b_is_let⟩
  have G_let_number : FnOk P w K mg base CX0 5 (He.ga K "let_number") d_let_number ["company", "manner"] (spLetN (He.ga K "Company")) := ok_let_number F_let_number T H_check_company H_check_manner H_pairs_let
  have H_let_number : Has P w K mg base 5 "let_number" ["company", "manner"] (spLetN (He.ga K "Company")) := ⟨_, _, G_let_number, g_let_number, F_let_number.kp, b_let_number⟩
  have G_counted_people : FnOk P w K mg base CX0 5 (He.ga K "counted_people") d_counted_people ["company", "manner", "pair"] (spCntP (He.ga K "Company")) := ok_counted_people F_counted_people TC M_people H_check_company H_check_manner H_check_pair_of H_deeds_of H_rows_of H_counted_bits H_members
  have H_counted_people : Has P w K mg base 5 "counted_people" ["company", "manner", "pair"] (spCntP (He.ga K "Company")) := ⟨_, _, G_counted_people, g_counted_people, F_counted_people.kp, b_counted_people⟩
  have G_are_ascending_pairs : FnOk P w K mg base CX0 2 (He.ga K "are_ascending_pairs") d_are_ascending_pairs ["company", "value"] (spArePs (He.ga K "Company")) := ok_are_asc_pairs F_are_ascending_pairs T TC M_people H_is_pair_of H_is_ascending2
  have H_are_ascending_pairs : Has P w K mg base 2 "are_ascending_pairs" ["company", "value"] (spArePs (He.ga K "Company")) := ⟨_, _, G_are_ascending_pairs, g_are_ascending_pairs, F_are_ascending_pairs.kp, b_are_ascending_pairs⟩
  have G_manners_letting : FnOk P w K mg base CX0 5 (He.ga K "manners_letting") d_manners_letting ["company", "pairs"] (spMnL (He.ga K "Company")) := ok_manners_letting F_manners_letting H_check_company H_are_ascending_pairs H_all_manners H_pairs_let
  have H_manners_letting : Has P w K mg base 5 "manners_letting" ["company", "pairs"] (spMnL (He.ga K "Company")) := ⟨_, _, G_manners_letting, g_manners_letting, F_manners_letting.kp, b_manners_letting⟩
  have G__law_exact4 : FnOk P w K mg base CX0 5 (He.ga K "_law_exact") d__law_exact ["_law_mine", "_law_theirs"] (spExact 4) := ok_exact F__law_exact T g__law_exact b__law_exact 4
  have H__law_exact4 : Has P w K mg base 5 "_law_exact" ["_law_mine", "_law_theirs"] (spExact 4) := ⟨_, _, G__law_exact4, g__law_exact, F__law_exact.kp, b__law_exact⟩
  have G__law_all_manners : FnOk P w K mg base CX0 1 (He.ga K "_law_all_manners") d__law_all_manners [] spAllMn := ok_allML F__law_all_manners
  have H__law_all_manners : Has P w K mg base 1 "_law_all_manners" [] spAllMn := ⟨_, _, G__law_all_manners, g__law_all_manners, F__law_all_manners.kp, b__law_all_manners⟩
  have G__law_kind_lists : FnOk P w K mg base CX0 2 (He.ga K "_law_kind_lists") d__law_kind_lists ["_law_world_here"] spKl := ok_kind_lists F__law_kind_lists T H__law_net H__law_pairs H__law_pair
  have H__law_kind_lists : Has P w K mg base 2 "_law_kind_lists" ["_law_world_here"] spKl := ⟨_, _, G__law_kind_lists, g__law_kind_lists, F__law_kind_lists.kp, b__law_kind_lists⟩
  have G__law_own_counted : FnOk P w K mg base CX0 1 (He.ga K "_law_own_counted") d__law_own_counted ["_law_lists", "_law_manner", "_law_pair_here"] spOwnC := ok_own_counted F__law_own_counted T
  have H__law_own_counted : Has P w K mg base 1 "_law_own_counted" ["_law_lists", "_law_manner", "_law_pair_here"] spOwnC := ⟨_, _, G__law_own_counted, g__law_own_counted, F__law_own_counted.kp, b__law_own_counted⟩
  have G__law_own_lets : FnOk P w K mg base CX0 1 (He.ga K "_law_own_lets") d__law_own_lets ["_law_lists", "_law_manner", "_law_pair_here"] spOwnL := ok_own_lets F__law_own_lets T
  have H__law_own_lets : Has P w K mg base 1 "_law_own_lets" ["_law_lists", "_law_manner", "_law_pair_here"] spOwnL := ⟨_, _, G__law_own_lets, g__law_own_lets, F__law_own_lets.kp, b__law_own_lets⟩
  have G__law_manner_right : FnOk P w K mg base CX0 6 (He.ga K "_law_manner_right") d__law_manner_right ["_law_purse_here", "_law_lists", "_law_company_here", "_law_manner"] (spMR (He.ga K "Company")) := ok_mr F__law_manner_right T H__law_own_lets H_let_pairs H_let_number H__law_shuffled H_counted_people H_is_let H__law_own_counted H__law_exact
  have H__law_manner_right : Has P w K mg base 6 "_law_manner_right" ["_law_purse_here", "_law_lists", "_law_company_here", "_law_manner"] (spMR (He.ga K "Company")) := ⟨_, _, G__law_manner_right, g__law_manner_right, F__law_manner_right.kp, b__law_manner_right⟩
  have G__law_company_right : FnOk P w K mg base CX0 8 (He.ga K "_law_company_right") d__law_company_right ["_law_purse_here", "_law_world_here"] spCR := ok_cr F__law_company_right T H__law_company H__law_all_manners H__law_kind_lists H__law_manner_right H_let_pairs H__law_shuffled H__law_pairs H_counted_people H_manners_letting H__law_own_counted H__law_exact4 H__law_stays
  have H__law_company_right : Has P w K mg base 8 "_law_company_right" ["_law_purse_here", "_law_world_here"] spCR := ⟨_, _, G__law_company_right, g__law_company_right, F__law_company_right.kp, b__law_company_right⟩
  have G__law_told_manners_right : FnOk P w K mg base CX0 5 (He.ga K "_law_told_manners_right") d__law_told_manners_right [] spTold := ok_told F__law_told_manners_right T H_all_manners H__law_all_manners H_is_manner H__law_exact
  have H__law_told_manners_right : Has P w K mg base 5 "_law_told_manners_right" [] spTold := ⟨_, _, G__law_told_manners_right, g__law_told_manners_right, F__law_told_manners_right.kp, b__law_told_manners_right⟩
  have G__law_at : FnOk P w K mg base CX0 2 (He.ga K "_law_at") d__law_at ["_law_crowd", "_law_number"] spAtW := ok_at F__law_at T H__law_pairs
  have H__law_at : Has P w K mg base 2 "_law_at" ["_law_crowd", "_law_number"] spAtW := ⟨_, _, G__law_at, g__law_at, F__law_at.kp, b__law_at⟩
  exact ok_law F_law T H__law_purses H__law_company_right H__law_world H__law_draw H__law_people H__law_at H__law_told_manners_right
end Wd
end
section
set_option maxRecDepth 100000
set_option maxHeartbeats 0
open PySem PySem.W PySem.Calls PyProof.Rows
theorem PySem.Challenge.cw_evenfriends_k13_whole_pairs_that_are_let_holds : PySem.Challenge.rw_evenfriends_k13_whole_pairs_that_are_let.Holds := by
  w_on; o_law
  refine HandSHeadRun.head_imp (r := OpenLaw.row PySem.Challenge.rw_evenfriends_k13_whole_pairs_that_are_let) (q := view (OpenLaw.row PySem.Challenge.rw_evenfriends_k13_whole_pairs_that_are_let).prog [0, Wd.lawAt]) (H := Wd.hk) (ob := Wd.ob) (M := 8000) (loose := Wd.nmA) (d := HandSHeadRun.topDef (OpenLaw.row PySem.Challenge.rw_evenfriends_k13_whole_pairs_that_are_let).prog Wd.lawAt) (kwd := []) Wd.ob_eq Wd.run
    (by kernel_rfl) (by kernel_rfl) (by kernel_rfl) (by rfl) (by first | assumption | decide +kernel) (by decide +kernel) ⟨rfl, rfl, rfl, rfl, rfl, by decide +kernel⟩ ?hw ?hc
  case hw => w_witness2
  case hc =>
    refine L2.walk_ofE (l := PySem.Challenge.rw_evenfriends_k13_whole_pairs_that_are_let) (n := 63) (k := 9) (x := "_law_script") (CX := L2.CX0) rfl (by decide) (by kernel_rfl) ⟨rfl, by decide, by decide⟩ ?F (fun _ _ _ _ z => z)
    intro w mg fa h Y G hmg0
    obtain ⟨K, KX, c, ce⟩ := Y
    have hmg : mg ("law" : PySem.Str) = some (.ref fa) := by
      have e : (HandSHeadRun.topDef (OpenLaw.row PySem.Challenge.rw_evenfriends_k13_whole_pairs_that_are_let).prog Wd.lawAt).name = ("law" : PySem.Str) := by kernel_rfl
      rw [← e]
      exact hmg0
    obtain ⟨fd, hb, hF⟩ := Wd.facts (P := (PySem.Challenge.rw_evenfriends_k13_whole_pairs_that_are_let).prog) (w := w) KX G hmg c ce
    exact ⟨K, fd, Wd.spLaw K, KX, hb, fun H a ns hl _ hS => ⟨a, ns, rfl, hS, hl, fun _ => rfl⟩, hF⟩
end
